import PyProof.Rows.All
import Wide.All
import OpenK.AllK
import Wide.FinOn
import PyProof.EqAt
import PyProof.EqKinds
import PyProof.TupleCall
import KE.BitLaws
import PyProof.EnumStmt
import PyProof.Rows.CountFlat
import PyProof.ExcBaseAll.Exception
import PyProof.ExcAttrAll.Exception
import Open.SpecLaws
import KE.OsHead
import KE.OsGo
import PySem.Challenge.RW_measuretext_s06_where
open List (filterMap_cons mem_cons_self mem_cons_of_mem mem_cons mem_append mem_append_left getElem?_set_self getElem?_set_ne mem_append_right size_toArray length_cons map_cons length_map append_nil nodup_cons of_mem_zip length_take getElem?_append_right getElem?_map mem_of_getElem? length_append length_drop all_cons length_singleton map_nil all_map lookup_cons length_set mem_map all_eq_true find?_cons drop_zero take_succ_cons drop_eq_getElem_cons append_assoc drop_drop length_pos_iff take_of_length_le drop_length nil_append drop_left take_length length_nil getElem?_eq_getElem take_succ map_append takeWhile_cons dropWhile_cons takeWhile_append_dropWhile takeWhile_append_of_pos headD_cons contains_iff_mem mem_singleton foldl_cons replicate_succ drop_succ_cons map_map drop_eq_nil_of_le getElem?_reverse not_mem_nil forall_mem_cons reverse_append length_reverse forall_mem_append suffix_refl cons_ne_nil sum_cons cons_append pairwise_append)
open Nat (ne_of_gt zero_le lt_succ_self le_succ le_of_succ_le add_zero add_comm zero_add sub_zero mul_comm min_eq_left add_assoc add_sub_cancel_left)
open Bool (and_eq_true false_eq_true or_eq_true or_eq_true_iff)
open Int (natAbs_neg natCast_inj)
open Vaunid (powerText factorText MOSTSIGNS measureText digitsValue fits numberText secondRow wordToken numberToken signToken token fault tokens surfaceSigns isTaken Term Two shownLit decimalInt decimal Lit depths isName compares Stretch beginsAtom readSurface allTokens tooMuch whereAnswer)
open PySem.W (instObj Frag lookIn plainGet hasDictIn isFn looks_clsIn emptyDict looks_findIn keepIn mroIn kitOne kia_one callWith_K fnOf codeIn clsIn)
open PySem.Str (ofString)
open PySem.Heap (lt_size get?_none_of_le get?_push_of_some get?_push_size size_push get?_update_other get?_update_self)
abbrev zM:=PySem.Str->Option PySem.Value
abbrev zP:=List (PySem.Addr×PySem.Obj)
abbrev zQ:=PySem.Value->PySem.Shared->Prop
set_option Elab.async false
set_option linter.all false
set_option maxRecDepth 100000
local macro_rules
 | `(tactic| omega) => `(tactic| lia)
local macro_rules
 | `(tactic| left) => `(tactic| decide +kernel)
local macro_rules
 | `(tactic| right) => `(tactic| constructor <;> first | rfl | decide +kernel)
namespace Internal
theorem x_01 {P Q:Prop}{G:Prop} (h:P/\Q) (k:P->Q->G):G:=by
 obtain ⟨p,q⟩:=h;exact k p q
theorem x_02 {P Q R:Prop}{G:Prop} (h:P/\Q/\R) (k:P->Q->R->G):G:=by
 obtain ⟨p,q,r⟩:=h;exact k p q r
theorem x_03 {P Q R S:Prop}{G:Prop} (h:P/\Q/\R/\S) (k:P->Q->R->S->G):G:=by
 obtain ⟨p,q,r,s⟩:=h;exact k p q r s
theorem x_04 {P Q R S T:Prop}{G:Prop} (h:P/\Q/\R/\S/\T) (k:P->Q->R->S->T->G):G:=by
 obtain ⟨p,q,r,s,t⟩:=h;exact k p q r s t
theorem x_05 {P Q R S T U:Prop}{G:Prop} (h:P/\Q/\R/\S/\T/\U) (k:P->Q->R->S->T->U->G):G:=by
 obtain ⟨p,q,r,s,t,u⟩:=h;exact k p q r s t u
theorem x_06 {P Q R S T U V:Prop}{G:Prop} (h:P/\Q/\R/\S/\T/\U/\V) (k:P->Q->R->S->T->U->V->G):G:=by
 obtain ⟨p,q,r,s,t,u,v⟩:=h;exact k p q r s t u v
theorem x_07 {P Q R S T U V W:Prop}{G:Prop} (h:P/\Q/\R/\S/\T/\U/\V/\W) (k:P->Q->R->S->T->U->V->W->G):G:=by
 obtain ⟨p,q,r,s,t,u,v,w⟩:=h;exact k p q r s t u v w
theorem x_10 {A:Type}{P:A->Prop}{G:Prop} (h : ∃ a,P a) (k : ∀ a,P a->G):G:=by
 obtain ⟨a,p⟩:=h;exact k a p
theorem x_20 {A B:Type}{P:A->B->Prop}{G:Prop} (h : ∃ a b,P a b) (k : ∀ a b,P a b->G):G:=by
 obtain ⟨a,b,p⟩:=h;exact k a b p
theorem x_30 {A B C:Type}{P:A->B->C->Prop}{G:Prop} (h : ∃ a b c,P a b c) (k : ∀ a b c,P a b c->G):G:=by
 obtain ⟨a,b,c,p⟩:=h;exact k a b c p
theorem x_40 {A B C D:Type}{P:A->B->C->D->Prop}{G:Prop} (h : ∃ a b c d,P a b c d) (k : ∀ a b c d,P a b c d->G):G:=by
 obtain ⟨a,b,c,d,p⟩:=h;exact k a b c d p
theorem x_50 {A B C D E:Type}{P:A->B->C->D->E->Prop}{G:Prop} (h : ∃ a b c d e,P a b c d e) (k : ∀ a b c d e,P a b c d e->G):G:=by
 obtain ⟨a,b,c,d,e,p⟩:=h;exact k a b c d e p
theorem x_60 {A B C D E F:Type}{P:A->B->C->D->E->F->Prop}{G:Prop} (h : ∃ a b c d e f,P a b c d e f) (k : ∀ a b c d e f,P a b c d e f->G):G:=by
 obtain ⟨a,b,c,d,e,f,p⟩:=h;exact k a b c d e f p
theorem x_90 {A B C D E F I J K:Type}{P:A->B->C->D->E->F->I->J->K->Prop}{G:Prop} (h : ∃ a b c d e f i j l,P a b c d e f i j l) (k : ∀ a b c d e f i j l,P a b c d e f i j l->G):G:=by
 obtain ⟨a,b,c,d,e,f,i,j,l,p⟩:=h;exact k a b c d e f i j l p
theorem x_11 {A:Type}{P Q:A->Prop}{G:Prop} (h : ∃ a,P a/\Q a) (k : ∀ a,P a->Q a->G):G:=x_10 h fun a z=>x_01 z (k a)
theorem x_12 {A:Type}{P Q R:A->Prop}{G:Prop} (h : ∃ a,P a/\Q a/\R a) (k : ∀ a,P a->Q a->R a->G):G:=x_10 h fun a z=>x_02 z (k a)
theorem x_13 {A:Type}{P Q R S:A->Prop}{G:Prop} (h : ∃ a,P a/\Q a/\R a/\S a) (k : ∀ a,P a->Q a->R a->S a->G):G:=x_10 h fun a z=>x_03 z (k a)
theorem x_21 {A B:Type}{P Q:A->B->Prop}{G:Prop} (h : ∃ a b,P a b/\Q a b) (k : ∀ a b,P a b->Q a b->G):G:=x_20 h fun a b z=>x_01 z (k a b)
theorem x_22 {A B:Type}{P Q R:A->B->Prop}{G:Prop} (h : ∃ a b,P a b/\Q a b/\R a b) (k : ∀ a b,P a b->Q a b->R a b->G):G:=x_20 h fun a b z=>x_02 z (k a b)
theorem x_23 {A B:Type}{P Q R S:A->B->Prop}{G:Prop} (h : ∃ a b,P a b/\Q a b/\R a b/\S a b) (k : ∀ a b,P a b->Q a b->R a b->S a b->G):G:=x_20 h fun a b z=>x_03 z (k a b)
theorem x_24 {A B:Type}{P Q R S T:A->B->Prop}{G:Prop} (h : ∃ a b,P a b/\Q a b/\R a b/\S a b/\T a b) (k : ∀ a b,P a b->Q a b->R a b->S a b->T a b->G):G:=x_20 h fun a b z=>x_04 z (k a b)
theorem x_32 {A B C:Type}{P Q R:A->B->C->Prop}{G:Prop} (h : ∃ a b c,P a b c/\Q a b c/\R a b c) (k : ∀ a b c,P a b c->Q a b c->R a b c->G):G:=x_30 h fun a b c z=>x_02 z (k a b c)
theorem x_33 {A B C:Type}{P Q R S:A->B->C->Prop}{G:Prop} (h : ∃ a b c,P a b c/\Q a b c/\R a b c/\S a b c) (k : ∀ a b c,P a b c->Q a b c->R a b c->S a b c->G):G:=x_30 h fun a b c z=>x_03 z (k a b c)
theorem x_34 {A B C:Type}{P Q R S T:A->B->C->Prop}{G:Prop} (h : ∃ a b c,P a b c/\Q a b c/\R a b c/\S a b c/\T a b c) (k : ∀ a b c,P a b c->Q a b c->R a b c->S a b c->T a b c->G):G:=x_30 h fun a b c z=>x_04 z (k a b c)
namespace L2
open PySem PySem.Spec PyProof.Rows
abbrev Key:=Sum Int Str
def jz_:Key->Value->Bool
 | .inl k,v=>Value.isInt k v
 | .inr x,v=>Value.isStrOf x v
noncomputable def keyH (w:World):Key->Int
 | .inl k=>hashInt k
 | .inr x=>hashStr w x
theorem a4_ : ∀ {k:Key}{v:Value},jz_ k v=true->(∃ i t,k=Sum.inl i/\v=Value.int i t)\/(∃ x t,k=Sum.inr x/\v=Value.str x t)
 | .inl i,v,h=>by
  obtain ⟨t,e⟩:=Value.isInt_shape (k:=i) (v:=v) h;exact .inl ⟨i,t,rfl,e⟩
 | .inr x,v,h=>by
  obtain ⟨t,e⟩:=Value.isStrOf_shape (x:=x) (v:=v) h;exact .inr ⟨x,t,rfl,e⟩
theorem k1_ (i:Int) (t:Tok):jz_ (.inl i) (.int i t)=true:=by simp [jz_,Value.isInt]
theorem k0_ (x:Str) (t:Tok):jz_ (.inr x) (.str x t)=true:=by simp [jz_,Value.isStrOf]
theorem pN_ (a b:Int):decide ((Sum.inl a:Key)=Sum.inl b)=(a == b):=by
 by_cases e:a=b
 ·subst e;simp
 have h : ¬ (Sum.inl a:Key)=Sum.inl b:=fun q=>e (Sum.inl.inj q);rw [decide_eq_false h];exact (beq_eq_false_iff_ne.mpr e).symm
theorem pK_ (a b:Str):decide ((Sum.inr a:Key)=Sum.inr b)=decide (a=b):=by
 by_cases e:a=b
 ·subst e;simp
 have h : ¬ (Sum.inr a:Key)=Sum.inr b:=fun q=>e (Sum.inr.inj q);rw [decide_eq_false h,decide_eq_false e]
theorem pM_ (a:Int) (b:Str):decide ((Sum.inl a:Key)=Sum.inr b)=false:=decide_eq_false (fun q=>nomatch q)
theorem pL_ (a:Str) (b:Int):decide ((Sum.inr a:Key)=Sum.inl b)=false:=decide_eq_false (fun q=>nomatch q)
noncomputable def bK_ (prog:Program) (w:World):PySem.KeyKind prog w Key where
 is:=jz_
 hash:=keyH w
 inj:=fun v a b ha hb=>by
  rcases a4_ ha with ⟨i,t,rfl,rfl⟩ | ⟨x,t,rfl,rfl⟩
  ·rcases a4_ hb with ⟨j,u,rfl,e⟩ | ⟨y,u,rfl,e⟩
   ·injection e with e1 _;rw [e1]
   exact nomatch e
  rcases a4_ hb with ⟨j,u,rfl,e⟩ | ⟨y,u,rfl,e⟩
  ·exact nomatch e
  injection e with e1 _;rw [e1]
 byValue:=fun k v h=>by
  rcases a4_ h with ⟨i,t,rfl,rfl⟩ | ⟨x,t,rfl,rfl⟩ <;> rfl
 pyHash:=fun hv h=>by
  rcases a4_ hv with ⟨i,t,rfl,rfl⟩ | ⟨x,t,rfl,rfl⟩
  ·exact wpAny_pyHash_int h
  exact wpAny_pyHash_str h
 eqBool:=fun hu hv h=>by
  rcases a4_ hu with ⟨i,t,rfl,rfl⟩ | ⟨x,t,rfl,rfl⟩
  ·rcases a4_ hv with ⟨j,u,rfl,rfl⟩ | ⟨y,u,rfl,rfl⟩
   ·rw [pN_] at h;exact wpAny_eqBool_int h
   rw [pM_] at h;exact SeqAt.EqAt.int_str i t y u _ _ _ _ h
  rcases a4_ hv with ⟨j,u,rfl,rfl⟩ | ⟨y,u,rfl,rfl⟩
  ·rw [pL_] at h;exact SeqAt.EqAt.str_int x t j u _ _ _ _ h
  rw [pK_] at h;exact wpAny_eqBool_str h
 «strs» := fun k x t v h=>by
  rcases a4_ h with ⟨i,u,rfl,e⟩ | ⟨y,u,rfl,e⟩
  ·exact nomatch e
  injection e with e1 _;subst e1;cases v <;> rfl
theorem hX_ (prog:Program) (w:World) (i:Int) (t:Tok):(bK_ prog w).is (.inl i) (.int i t)=true:=k1_ i t
theorem eH_ (prog:Program) (w:World) (x:Str) (t:Tok):(bK_ prog w).is (.inr x) (.str x t)=true:=k0_ x t
inductive V where
 | non | bl (b:Bool) | int (i:Int) | str (x:Str) | byt (b:Array UInt8) | flt (b:UInt64) | ref (a:Addr) | ty (n:String)
 deriving DecidableEq
def RelV:V->Value->Prop
 | .non,u=>u=Value.none
 | .bl b,u=>u=Value.bool b
 | .int i,u=>∃ t,u=Value.int i t
 | .str x,u=>∃ t,u=Value.str x t
 | .byt b,u=>∃ t,u=Value.bytes b t
 | .flt b,u=>∃ t,u=Value.float b t
 | .ref a,u=>u=Value.ref a
 | .ty n,u=>u=Value.type n
abbrev Vals:List V->List Value->Prop:=Paired RelV
theorem Vals.length {xs:List V}{us:List Value} (r:Vals xs us):xs.length=us.length:=Paired.length r
theorem Vals.get : ∀ {xs:List V}{us:List Value}{i:Nat}{x:V},Vals xs us->xs[i]? = some x->∃ u,us[i]? = some u/\RelV x u
 | _,_,_,_,.nil,e=>by simp at e
 | _,_,0,_,.cons r _,e=>by simp at e;subst e;exact ⟨_,rfl,r⟩
 | _,_,i+1,x,.cons _ t,e=>by
  obtain ⟨u,h1,h2⟩:=Vals.get (i:=i) (x:=x) t (by simpa using e);exact ⟨u,by simpa using h1,h2⟩
theorem Vals.append : ∀ {xs ys:List V}{us ws:List Value},Vals xs us->Vals ys ws->Vals (xs++ys) (us++ws)
 | _,_,_,_,.nil,s=>s
 | _,_,_,_,.cons r t,s => .cons r (Vals.append t s)
theorem Vals.take : ∀ {xs:List V}{us:List Value} (n:Nat),Vals xs us->Vals (xs.take n) (us.take n)
 | _,_,0,_ => .nil
 | _,_,_+1,.nil => .nil
 | _,_,n+1,.cons r t => .cons r (Vals.take n t)
theorem Vals.drop : ∀ {xs:List V}{us:List Value} (n:Nat),Vals xs us->Vals (xs.drop n) (us.drop n)
 | _,_,0,r=>r
 | _,_,_+1,.nil => .nil
 | _,_,n+1,.cons _ t=>Vals.drop n t
def RelO:Option V->Option Value->Prop
 | some v,some u=>RelV v u
 | none,none=>True
 | _,_=>False
def KV {κ:Type}:List (κ×V)->List (κ×Value)->Prop:=Paired fun (p:κ×V) (q:κ×Value)=>p.1=q.1/\RelV p.2 q.2
def kV:Key->V
 | .inl i => .int i
 | .inr x => .str x
inductive HO where
 | lst (xs:List V)
 | tup (xs:List V)
 | dK (zu:List (Key×V)) | dT (zu:List (List Key×V))
 | set (S:Int->Bool) (n:Nat)
 | ins (C dx:Addr) (fs:List (Str×V))
 | own (x:Addr)
 | xd (fs:List (Str×V))
 | met (f x:Addr)
 | rng (lo hi:Int)
 | frz (o:Obj) (u:HO)
 | tbl (ps:Array Value)
 | ext (φ:Heap->Prop)
abbrev Hp:=Addr->Option HO
noncomputable def upd (H:Hp) (a:Addr) (o:HO):Hp:=fun b=>if b=a then some o else H b
theorem af_ {H:Hp}{a:Addr}{o:HO}:upd H a o a=some o:=by unfold upd;rw [if_pos rfl]
theorem ag_ {H:Hp}{a b:Addr}{o:HO} (h:b≠a):upd H a o b=H b:=by unfold upd;rw [if_neg h]
theorem fF_ {H:Hp}{a:Addr}{o u:HO}:upd (upd H a o) a u=upd H a u:=by
 funext b;unfold upd;split <;> rfl
theorem dj_ {H:Hp}{a b:Addr}{o u:HO} (h:H a=some o) (h':H b=some u) (d:o≠u):a≠b:=by
 intro e;subst e;rw [h] at h';exact d (Option.some.inj h')
theorem ai_ {H:Hp}{a b:Addr}{o:HO} (h:H a=some o) (h':H b=none):a≠b:=by
 intro e;subst e;rw [h] at h';cases h'
section
variable (P:Program) (w:World)
def bd_ (H:Hp) (h:Heap) (a:Addr):HO->Prop
 | .lst xs=>xs.length<=sizeLine/\∃ (zw:List Value) (n:Nat),Vals xs zw/\h.get? a=some { cls := .type "list",data := .seq zw.toArray n }
 | .tup xs=>xs.length<=sizeLine/\∃ zw:List Value,Vals xs zw/\IsTup h a zw.toArray
 | .dK zu=>zu.length<=sizeLine/\(a == sysModules)=false/\∃ vs,KV zu vs/\h.DictOf (bK_ P w) a vs
 | .dT zu=>zu.length<=sizeLine/\(a == sysModules)=false/\∃ xs:List (List Key×Addr×Value),
   Paired (fun (p:List Key×V) (q:List Key×Addr×Value)=>p.1=q.1/\H q.2.1=some (.tup (p.1.map kV))/\RelV p.2 q.2.2) zu xs /\
   ∃ o es ep,h.get? a=some o/\o.ExactDict/\o.data = .dict es ep/\es.toList=xs.map (entryOfKey (tupleKind (bK_ P w)))/\(xs.map (·.1)).Nodup
 | .set S n=>h.SetOf (intKind P w) a S n
 | .ins C dx fs=>H dx=some (.own a)/\fs.length<=1000/\dx≠a/\h.get? a=some (instObj C dx) /\
   ∃ mA,h.Ns1 dx mA/\(∀ f,RelO (fs.lookup f) (mA f))/\PySem.Within mA (fs.map (·.1))
 | .own _=>∃ o,h.get? a=some o
 | .xd fs=>∃ mA,h.Ns1 a mA/\∀ f,RelO (fs.lookup f) (mA f)
 | .rng lo hi=>∃ t u v,h.get? a=some { cls := .type "range",data := .fields #[.int lo t,.int hi u,.int 1 v] }
 | .frz o u=>h.get? a=some o/\bd_ H h a u
 | .tbl ps=>h.get? a=some { cls := .none,data := .fields ps }
 | .met f x=>h.get? a=some (PySem.W.methodObj (.ref f) (.ref x))
 | .ext φ=>φ h/\(∃ o,h.get? a=some o)/\∀ h1 h2:Heap,φ h1->(∀ o,h1.get? a=some o->h2.get? a=some o)->φ h2
def HOk (H:Hp) (h:Heap):Prop:=∀ a o,H a=some o->bd_ P w H h a o
end
section
variable {P:Program}{w:World}{H H':Hp}{h h':Heap}{a:Addr}{o:HO}
theorem bd_.lt (x:bd_ P w H h a o):a<h.objs.size:=by
 cases o with
 | lst xs=>obtain ⟨_,_,_,_,e⟩:=x;exact lt_size e
 | tup xs=>obtain ⟨_,_,_,p⟩:=x;exact p.lt
 | dK zu=>obtain ⟨_,_,_,_,o,_,_,e,_⟩:=x;exact lt_size e
 | dT zu=>obtain ⟨_,_,_,_,o,_,_,e,_⟩:=x;exact lt_size e
 | set S n=>obtain ⟨o,_,_,_,e,_⟩:=x;exact lt_size e
 | ins C dx fs=>obtain ⟨_,_,_,e,_⟩:=x;exact lt_size e
 | own y=>obtain ⟨_,e⟩:=x;exact lt_size e
 | xd fs=>obtain ⟨_,⟨_,_,_,e,_⟩,_⟩:=x;exact lt_size e
 | rng lo hi=>obtain ⟨_,_,_,e⟩:=x;exact lt_size e
 | frz ob u=>obtain ⟨e,_⟩:=x;exact lt_size e
 | tbl ps=>exact lt_size (show h.get? a=some _ from x)
 | met f y=>exact lt_size (show h.get? a=some _ from x)
 | ext φ=>obtain ⟨_,⟨_,e⟩,_⟩:=x;exact lt_size e
theorem Paired.mapP {α β:Type}{F G:α->β->Prop} : ∀ {l₁:List α}{l₂:List β},Paired F l₁ l₂->(∀ a b,F a b->G a b)->Paired G l₁ l₂
 | _,_,.nil,_ => .nil
 | _,_,.cons r t,f => .cons (f _ _ r) (Paired.mapP t f)
theorem bd_.stay (x:bd_ P w H h a o) (k : ∀ b u,(b=a\/H b=some (.own a))->h.get? b=some u->h'.get? b=some u)
  (ho : ∀ b,H b=some (.own a)->H' b=some (.own a)) (ht : ∀ b xs,H b=some (.tup xs)->H' b=some (.tup xs)):bd_ P w H' h' a o:=by
 induction o with
 | lst xs=>obtain ⟨z,zw,n,r,e⟩:=x;exact ⟨z,zw,n,r,k _ _ (.inl rfl) e⟩
 | tup xs=>obtain ⟨z,zw,r,ob,e,c⟩:=x;exact ⟨z,zw,r,ob,k _ _ (.inl rfl) e,c⟩
 | dK zu=>obtain ⟨z,y,vs,r,ob,es,ep,e,c⟩:=x;exact ⟨z,y,vs,r,ob,es,ep,k _ _ (.inl rfl) e,c⟩
 | dT zu =>
  obtain ⟨z,y,xs,r,ob,es,ep,e,c⟩:=x;exact ⟨z,y,xs,Paired.mapP r fun p q z=>⟨z.1,ht _ _ z.2.1,z.2.2⟩,ob,es,ep,k _ _ (.inl rfl) e,c⟩
 | set S n=>obtain ⟨ob,es,ep,t,e,c⟩:=x;exact ⟨ob,es,ep,t,k _ _ (.inl rfl) e,c⟩
 | ins C dx fs =>
  obtain ⟨d,z,ne,e,mA,⟨od,es,ep,e2,c⟩,r⟩:=x;exact ⟨ho _ d,z,ne,k _ _ (.inl rfl) e,mA,⟨od,es,ep,k _ _ (.inr d) e2,c⟩,r⟩
 | own y=>obtain ⟨ob,e⟩:=x;exact ⟨ob,k _ _ (.inl rfl) e⟩
 | xd fs=>obtain ⟨mA,⟨od,es,ep,e,c⟩,r⟩:=x;exact ⟨mA,⟨od,es,ep,k _ _ (.inl rfl) e,c⟩,r⟩
 | rng lo hi=>obtain ⟨t,u,v,e⟩:=x;exact ⟨t,u,v,k _ _ (.inl rfl) e⟩
 | frz ob u ih=>obtain ⟨e,q⟩:=x;exact ⟨k _ _ (.inl rfl) e,ih q⟩
 | tbl ps =>
  have e:h.get? a=some { cls := .none,data := .fields ps }:=x;show h'.get? a=some { cls := .none,data := .fields ps };exact k a _ (.inl rfl) e
 | met f y =>
  have e:h.get? a=some (PySem.W.methodObj (.ref f) (.ref y)):=x;show h'.get? a=some (PySem.W.methodObj (.ref f) (.ref y));exact k a _ (.inl rfl) e
 | ext φ=>obtain ⟨p,⟨o,e⟩,st⟩:=x;exact ⟨st _ _ p fun o q=>k _ _ (.inl rfl) q,⟨o,k _ _ (.inl rfl) e⟩,st⟩
theorem HOk.lt (x:HOk P w H h) (e:H a=some o):a<h.objs.size:=(x a o e).lt
theorem HOk.fresh (x:HOk P w H h) (e:h.objs.size<=a):H a=none:=by
 cases q:H a with
 | none=>rfl
 | some u=>exact absurd (Nat.lt_of_lt_of_le (x.lt q) e) (Nat.lt_irrefl _)
theorem HOk.kept (x:HOk P w H h) (k : ∀ b u,h.get? b=some u->h'.get? b=some u):HOk P w H h':=fun a o e =>
 (x a o e).stay (fun b u _ q=>k b u q) (fun _ q=>q) fun _ _ q=>q
theorem HOk.laid (x:HOk P w H h) (k : ∀ b u,h.get? b=some u->h'.get? b=some u) (hp:h.objs.size<=a) (new:bd_ P w (upd H a o) h' a o):HOk P w (upd H a o) h':=fun b u e=>by
 have hn:=x.fresh hp;by_cases hb:b=a
 ·subst hb;rw [af_] at e;cases e;exact new
 rw [ag_ hb] at e;exact (x b u e).stay (fun c v _ q=>k c v q) (fun c q=>by rw [ag_ (ai_ q hn)];exact q) fun c xs q=>by rw [ag_ (ai_ q hn)];exact q
end
def Rd (H:Hp) (a:Addr) (u:HO):Prop:=H a=some u\/∃ o,H a=some (.frz o u)
theorem Rd.ok {P:Program}{w:World}{H:Hp}{h:Heap}{a:Addr}{u:HO} (r:Rd H a u) (x:HOk P w H h):bd_ P w H h a u:=by
 rcases r with r | ⟨o,r⟩
 ·exact x a u r
 obtain ⟨_,q⟩:=x a _ r;exact q
def Mut:Option HO->Prop
 | some (.lst _)=>True
 | some (.dK _)=>True
 | some (.dT _)=>True
 | some (.set _ _)=>True
 | some (.ins _ _ _)=>True
 | some (.ext _)=>True
 | _=>False
section
variable {P:Program}{w:World}{H:Hp}{h h':Heap}{x e:Addr}{o':HO}
theorem HOk.write (ok:HOk P w H h) (mu:Mut (H x)) (he:e=x\/H e=some (.own x)) (k : ∀ b u,b≠e->h.get? b=some u->h'.get? b=some u) (heo : ∃ u,h'.get? e=some u)
  (new:bd_ P w (upd H x o') h' x o'):HOk P w (upd H x o') h':=fun b u q=>by
 have nown : ∀ c y,H c=some (.own y)->c≠x:=fun c y r z=>by subst z;rw [r] at mu;exact mu
 have ntup : ∀ c xs,H c=some (.tup xs)->c≠x:=fun c xs r z=>by subst z;rw [r] at mu;exact mu
 by_cases hb:b=x
 ·subst hb;rw [af_] at q;cases q;exact new
 rw [ag_ hb] at q;by_cases hbe:b=e
 ·have q':H b=some (.own x):=by
   rcases he with z | z
   ·exact absurd (hbe.trans z) hb
   rw [hbe];exact z
  rw [q] at q';cases q';obtain ⟨v,hv⟩:=heo;exact ⟨v,by rw [hbe];exact hv⟩
 refine (ok b u q).stay (fun c v hc r=>k c v ?_ r) (fun c r=>by rw [ag_ (nown c b r)];exact r) fun c xs r=>by rw [ag_ (ntup c xs r)];exact r
 rcases hc with rfl | hc
 ·exact hbe
 rintro rfl
 rcases he with z | z
 ·exact nown c b hc z
 rw [hc] at z;cases z;exact hb rfl
end
structure Un (fs ex:List Addr) (H H':Hp) (h h':Heap):Prop where
 keep : ∀ b o,h.get? b=some o->H b=none->b∉fs->b∉ex->h'.get? b=some o
 slot : ∀ b o,h.get? b=some o->H b=none->b∈fs->b∉ex->∃ sl,h'.get? b=some { o with slots:=sl }
 free : ∀ b o,h.get? b=some o->H b=none->b∉ex->H' b=none
 there : ∀ b o,h.get? b=some o->b∉ex->∃ o',h'.get? b=some o'
 tups : ∀ b xs,H b=some (.tup xs)->H' b=some (.tup xs)
 frzs : ∀ b o u,H b=some (.frz o u)->H' b=some (.frz o u)
 tbls : ∀ b ps,H b=some (.tbl ps)->∃ more,H' b=some (.tbl (ps++more))
section
variable {fs ex:List Addr}{H H1:Hp}{h h1 h':Heap}{a x e:Addr}{o:HO}
theorem Un.any (u:Un fs ex H H1 h h1) {b:Addr}{ob:Obj} (q:h.get? b=some ob) (n:H b=none) (hx:b∉ex) : ∃ sl,h1.get? b=some { ob with slots:=sl }:=by
 by_cases hb:b∈fs
 ·exact u.slot b ob q n hb hx
 exact ⟨ob.slots,u.keep b ob q n hb hx⟩
theorem Un.kept (k : ∀ b u,h.get? b=some u->h'.get? b=some u):Un fs ex H H h h' :=
 ⟨fun b ob q _ _ _=>k b ob q,fun b ob q _ _ _=>⟨ob.slots,k b ob q⟩,fun _ _ _ n _=>n,fun b ob q _=>⟨ob,k b ob q⟩,fun _ _ q=>q,fun _ _ _ q=>q,fun _ ps q=>⟨#[],by rw [q];simp⟩⟩
theorem Un.refl:Un fs ex H H h h:=Un.kept fun _ _ q=>q
theorem Un.laid (k : ∀ b u,h.get? b=some u->h'.get? b=some u) (hp:h.objs.size<=a) (hn:H a=none):Un fs ex H (upd H a o) h h' where
 keep:=fun b u q _ _ _=>k b u q
 slot:=fun b u q _ _ _=>⟨u.slots,k b u q⟩
 free:=fun b u q n _=>by rw [ag_ (Nat.ne_of_lt (Nat.lt_of_lt_of_le (lt_size q) hp))];exact n
 there:=fun b u q _=>⟨u,k b u q⟩
 tups:=fun b xs q=>by rw [ag_ (ai_ q hn)];exact q
 frzs:=fun b u xs q=>by rw [ag_ (ai_ q hn)];exact q
 tbls:=fun b ps q=>⟨#[],by rw [ag_ (ai_ q hn),q];simp⟩
theorem Un.write (mu:Mut (H x)) (he:e=x\/H e=some (.own x)) (k : ∀ b u,b≠e->h.get? b=some u->h'.get? b=some u) (heo : ∃ u,h'.get? e=some u):Un fs ex H (upd H x o) h h':=by
 have hx : ∀ b,H b=none->b≠x:=fun b n z=>by subst z;rw [n] at mu;exact mu
 have hb : ∀ b,H b=none->b≠e:=fun b n z=>by
  subst z;rcases he with r | r
  ·exact hx b n r
  rw [n] at r;cases r
 have hm : ∀ b u,H b=some u->¬ Mut (some u)->b≠x:=fun b u q nm z=>by subst z;rw [q] at mu;exact nm mu
 refine ⟨fun b u q n _ _=>k b u (hb b n) q,fun b u q n _ _=>⟨u.slots,k b u (hb b n) q⟩,fun b u q n _=>by rw [ag_ (hx b n)];exact n,fun b u q _=>?_,
  fun b xs q=>by rw [ag_ (hm b _ q fun z=>z)];exact q,fun b u xs q=>by rw [ag_ (hm b _ q fun z=>z)];exact q,fun b ps q=>⟨#[],by rw [ag_ (hm b _ q fun z=>z),q];simp⟩⟩
 by_cases hbe:b=e
 ·subst hbe;exact heo
 exact ⟨u,k b u hbe q⟩
end
def trk (h:Heap) (H:Hp):List Addr:=(List.range h.objs.size).filter fun a=>(H a).isSome
def hidT (h:Heap) (H:Hp):Heap:=PySem.W.hideAll h (trk h H)
theorem hi_ (h:Heap) (H:Hp):(hidT h H).objs.size=h.objs.size:=PySem.W.hideAll_size _ _
theorem i3_ {h:Heap}{H:Hp}{b:Addr}{o:Obj} (e:h.get? b=some o) (n:H b=none):(hidT h H).get? b=some o :=
 PySem.W.hideAll_get _ e fun hm=>by
  have q:(H b).isSome=true:=(List.mem_filter.mp hm).2;rw [n] at q;simp at q
theorem kK_ {h:Heap}{H:Hp}{b:Addr}{o:Obj} (e:(hidT h H).get? b=some o):h.get? b=some o/\H b=none:=by
 have e':h.get? b=some o:=PySem.W.of_hideAll (trk h H) e;refine ⟨e',?_⟩;cases q:H b with
 | none=>rfl
 | some x =>
 have hm:b∈trk h H:=List.mem_filter.mpr ⟨List.mem_range.mpr (lt_size e'),by simp [q]⟩;have z:(hidT h H).get? b=none:=PySem.W.hideAll_none (trk h H) hm;rw [z] at e;cases e
def oZ_ (g h:Heap) (L:Addr):zP:=(List.range h.objs.size).filterMap fun a=>if a=L\/(g.get? a).isSome=true then none else (h.get? a).map fun o=>(a,o)
def rest (g h:Heap) (L d:Addr):zP:=(oZ_ g h L).filter fun p=>decide (p.1≠d)
structure Mod (K:Frag) (mg:zM) (base:Heap):Prop where
 kin:K.In base
 glob:base.Ns mainGlobals mg
 blt : ∃ mb,base.Ns builtinsNs mb/\∀ x:Str,x≠"__name__"->mb x=bootBuiltins x
 nolimit:base.NoLimit
structure Cx where
 prog:Program
 w:World
 K:Frag
 mg:Str->Option Value
 base:Heap
 A:Around
 N:List Str
 s_0:Shared
 H_0:Hp
 env:Env
 outer:List Env
 stack:List Env
 ex:List Addr
 fn:Str->Bool
 calm:Bool
 pn:List (Addr×Obj)
 xe:Value->Shared->Prop
def frs (l:List Env):List Addr:=l.filterMap (·.frame)
abbrev Cx.fs (X:Cx):List Addr:=frs X.outer
def Vis (sc:Scope) (x:Str):Prop:=sc.names.lookup x=some .local\/sc.names.lookup x=some .cell\/sc.names.lookup x=some .free
def Loc (sc:Scope) (x:Str):Prop:=sc.names.lookup x=some .local\/sc.names.lookup x=some .cell
def Look (env:Env) (h:Heap) (m:zM) (x:Str) (u:Value):Prop :=
 (env.kindOf x=some .local/\m x=some u)\/((env.kindOf x=some .cell\/env.kindOf x=some .free)/\∃ c,env.cells.lookup x=some c/\h.IsCell c (some u))
structure Cx.Ok (X:Cx):Prop where
 mod:Mod X.K X.mg X.base
 kind:X.env.scope.kind = .function
 glob:X.env.globals=mainGlobals
 blt:X.env.builtins=builtinsNs
 above:X.s_0.heap.objs.size<=X.env.locals
 inj : ∀ x y c,X.env.cells.lookup x=some c->X.env.cells.lookup y=some c->x=y
 has : ∀ x,(X.env.kindOf x=some .cell\/X.env.kindOf x=some .free)->∃ c,X.env.cells.lookup x=some c
 cab : ∀ x c,X.fn x=true->X.env.cells.lookup x=some c->X.s_0.heap.objs.size<=c
 hd:X.calm=true->X.A.handled=none
 frames:X.A.frames=some X.stack
 stk:X.stack=X.outer\/(X.stack=X.env::X.outer/\X.env.frame=some X.env.locals)
 exf : ∀ b∈X.ex,b≠X.env.locals/\∀ x c,X.env.cells.lookup x=some c->c≠b
 bs : ∀ b o,X.base.get? b=some o->X.s_0.heap.get? b=some o/\X.H_0 b=none
 bsz:X.base.objs.size<=X.s_0.heap.objs.size
 noex : ∀ b o,X.base.get? b=some o->b∉X.ex
 exfs : ∀ b∈X.ex,b∉X.fs
 funs:X.s_0.heap.FunFrames X.base X.outer
 frf : ∀ b∈X.fs,X.H_0 b=none
structure Inv (X:Cx) (zz:zP) (σ:List (Option V)) (H:Hp) (s:Shared):Prop where
 ok:X.Ok
 os:s.os=X.s_0.os
 bare:AllBare s.gens
 base:Un X.fs X.ex X.H_0 H X.s_0.heap s.heap
 loc : ∃ m,s.heap.Ns X.env.locals m/\∀ (i:Nat) (x:Str) (v:V),X.N[i]? = some x->σ[i]? = some (some v)->Vis X.env.scope x->∃ u,RelV v u/\Look X.env s.heap m x u
 cell : ∀ x c,X.env.cells.lookup x=some c->∃ v,s.heap.IsCell c v
 free:H X.env.locals=none
 freeC : ∀ x c,X.env.cells.lookup x=some c->H c=none
 pin : ∀ p∈X.pn++zz,s.heap.get? p.1=some p.2/\H p.1=none/\p.1≠X.env.locals/\p.1∉X.fs/\∀ v,p.2.data ≠ .cell v
 hok:HOk X.prog X.w H s.heap
 len:σ.length=X.N.length
section
variable {X:Cx}{zz:zP}{σ:List (Option V)}{H H':Hp}{s:Shared}{h':Heap}
theorem Cx.Ok.nofr (ok:X.Ok) {b:Addr}{o:Obj} (e:X.base.get? b=some o):b∉X.fs:=fun hb=>by
 have:=(ok.funs.mem hb).1;rw [e] at this;cases this
theorem Inv.bs (I:Inv X zz σ H s) : ∀ b o,X.base.get? b=some o->s.heap.get? b=some o/\H b=none:=fun b o e =>
 ⟨I.base.keep b o (I.ok.bs b o e).1 (I.ok.bs b o e).2 (I.ok.nofr e) (I.ok.noex b o e),I.base.free b o (I.ok.bs b o e).1 (I.ok.bs b o e).2 (I.ok.noex b o e)⟩
theorem Inv.bk (I:Inv X zz σ H s) : ∀ b o,X.base.get? b=some o->s.heap.get? b=some o:=fun b o e=>(I.bs b o e).1
theorem Inv.mod (I:Inv X zz σ H s):Mod X.K X.mg X.base:=I.ok.mod
theorem Inv.kIn (I:Inv X zz σ H s):X.K.In s.heap:=I.ok.mod.kin.keeps I.bk
theorem Inv.nolimit (I:Inv X zz σ H s):s.heap.NoLimit:=I.ok.mod.nolimit.keeps I.bk
theorem Inv.fr (I:Inv X zz σ H s) : ∃ m,Fr X.base X.env.locals s.heap m :=
 let ⟨m,hn,_⟩:=I.loc
 ⟨m,hn,I.bk,Nat.le_trans I.ok.bsz I.ok.above⟩
theorem Inv.lt (I:Inv X zz σ H s):X.env.locals<s.heap.objs.size:=let ⟨_,hn,_⟩:=I.loc;hn.lt
theorem Inv.sz (I:Inv X zz σ H s):X.s_0.heap.objs.size<=s.heap.objs.size:=Nat.le_trans I.ok.above (Nat.le_of_lt I.lt)
theorem Inv.nofs (I:Inv X zz σ H s) {a:Addr} (h:s.heap.objs.size<=a):a∉X.fs:=fun hb=>by
 obtain ⟨_,o,ho,_⟩:=I.ok.funs.mem hb;exact absurd (Nat.lt_of_lt_of_le (lt_size ho) (Nat.le_trans I.sz h)) (Nat.lt_irrefl _)
theorem Inv.cne (I:Inv X zz σ H s) : ∀ x c,X.env.cells.lookup x=some c->c≠X.env.locals:=fun x c e z=>by
 obtain ⟨v,o,ho,hd⟩:=I.cell x c e;obtain ⟨m,⟨o',es,ep,ho',hd',_⟩,_⟩:=I.loc;rw [z,ho'] at ho;cases ho;rw [hd'] at hd;cases hd
theorem Inv.funs (I:Inv X zz σ H s):s.heap.FunFrames X.base X.outer:=by
 have all : ∀ (l:List Env),(∀ b∈frs l,b∈X.fs)->X.s_0.heap.FunFrames X.base l->s.heap.FunFrames X.base l:=by
  intro l
  induction l with
  | nil=>intro _ _;trivial
  | cons env r ih =>
  intro hs hl;obtain ⟨hk,⟨L,o,hf,hn,ho,hd⟩,hr⟩:=hl;have hL:L∈X.fs:=hs L (by unfold frs;rw [filterMap_cons,hf];exact mem_cons_self);obtain ⟨sl,e⟩:=I.base.slot L o ho (I.ok.frf L hL) hL fun z=>I.ok.exfs L z hL;exact ⟨hk,⟨L,_,hf,hn,e,hd⟩,ih (fun b hb=>hs b (by unfold frs;rw [filterMap_cons,hf];exact mem_cons_of_mem _ hb)) hr⟩
 exact all X.outer (fun _ hb=>hb) I.ok.funs
theorem Inv.stack (I:Inv X zz σ H s):s.heap.FunFrames X.base X.stack:=by
 rcases I.ok.stk with e | ⟨e,hf⟩
 ·rw [e];exact I.funs
 rw [e];obtain ⟨m,hn,_⟩:=I.loc;refine .cons (by rw [I.ok.kind];decide) hf hn ?_ I.funs;exact get?_none_of_le (Nat.le_trans I.ok.bsz I.ok.above)
theorem Inv.stkSub (I:Inv X zz σ H s) : ∀ b∈frs X.stack,b∈X.env.locals::X.fs:=fun b hb=>by
 rcases I.ok.stk with e | ⟨e,hf⟩
 ·rw [e] at hb;exact mem_cons_of_mem _ hb
 rw [e] at hb;unfold frs at hb;rw [filterMap_cons,hf] at hb;exact hb
theorem Inv.stkFree (I:Inv X zz σ H s) : ∀ b∈frs X.stack,H b=none:=fun b hb=>by
 rcases mem_cons.mp (I.stkSub b hb) with e | hb
 ·rw [e];exact I.free
 obtain ⟨_,o,ho,_⟩:=I.ok.funs.mem hb;exact I.base.free b o ho (I.ok.frf b hb) fun z=>I.ok.exfs b z hb
theorem Inv.step {g':Array GenState}{t':Nat}{d':Drawn}{ch:List Addr} (I:Inv X zz σ H s)
  (hch : ∀ b∈ch,(b∈X.ex\/X.s_0.heap.objs.size<=b)/\b≠X.env.locals/\(∀ x c,X.env.cells.lookup x=some c->c≠b)/\∀ p∈X.pn++zz,p.1≠b)
  (keep : ∀ b o,b≠X.env.locals->b∉X.fs->b∉ch->s.heap.get? b=some o->H b=none->h'.get? b=some o)
  (slot : ∀ b o,b≠X.env.locals->b∈X.fs->b∉ch->s.heap.get? b=some o->H b=none->∃ sl,h'.get? b=some { o with slots:=sl }) (free : ∀ b o,b∉ch->s.heap.get? b=some o->H b=none->H' b=none)
  (there : ∀ b o,b∉ch->s.heap.get? b=some o->∃ o',h'.get? b=some o')
  (tups : ∀ b xs,H b=some (.tup xs)->H' b=some (.tup xs)) (frzs : ∀ b o u,H b=some (.frz o u)->H' b=some (.frz o u)) (tbls : ∀ b ps,H b=some (.tbl ps)->∃ more,H' b=some (.tbl (ps++more)))
  (ns : ∀ m,s.heap.Ns X.env.locals m->h'.Ns X.env.locals m) (hok:HOk X.prog X.w H' h') (hg:AllBare g') :
  Inv X zz σ H' { s with heap:=h',gens:=g',drawn:=d',toks:=t' }:=by
 have neL : ∀ b o,X.s_0.heap.get? b=some o->b≠X.env.locals:=fun b o e=>Nat.ne_of_lt (Nat.lt_of_lt_of_le (lt_size e) I.ok.above);have neC : ∀ b o,X.s_0.heap.get? b=some o->b∉X.ex->b∉ch:=fun b o e hx hb=>by
  rcases (hch b hb).1 with z | z
  ·exact hx z
  exact absurd (Nat.lt_of_lt_of_le (lt_size e) z) (Nat.lt_irrefl _)
 have cellK : ∀ x c,X.env.cells.lookup x=some c->∀ v,s.heap.IsCell c v->h'.IsCell c v:=fun x c e v ⟨o,ho,hd⟩=>by
  have nch:c∉ch:=fun z=>(hch c z).2.2.1 x c e rfl;by_cases hc:c∈X.fs
  ·obtain ⟨sl,q⟩:=slot c o (I.cne x c e) hc nch ho (I.freeC x c e)
   exact ⟨_,q,hd⟩
  exact ⟨o,keep c o (I.cne x c e) hc nch ho (I.freeC x c e),hd⟩
 refine ⟨I.ok,I.os,hg,⟨fun b o e n hb hx=>?_,fun b o e n hb hx=>?_,fun b o e n hx=>?_,fun b o e hx=>?_,fun b xs e=>tups b xs (I.base.tups b xs e),fun b o xs e=>frzs b o xs (I.base.frzs b o xs e),fun b ps e=>?_⟩,?_,fun x c e=>?_,?_,fun x c e=>?_,fun p hp=>?_,hok,I.len⟩
 ·exact keep b o (neL b o e) hb (neC b o e hx) (I.base.keep b o e n hb hx) (I.base.free b o e n hx)
 ·obtain ⟨sl,e1⟩:=I.base.slot b o e n hb hx
  obtain ⟨sl',e2⟩:=slot b _ (neL b o e) hb (neC b o e hx) e1 (I.base.free b o e n hx);exact ⟨sl',e2⟩
 ·obtain ⟨o',e1⟩:=I.base.there b o e hx
  exact free b o' (neC b o e hx) e1 (I.base.free b o e n hx)
 ·obtain ⟨o',e1⟩:=I.base.there b o e hx
  exact there b o' (neC b o e hx) e1
 ·obtain ⟨m1,e1⟩:=I.base.tbls b ps e
  obtain ⟨m2,e2⟩:=tbls b _ e1;exact ⟨m1++m2,by rw [e2,Array.append_assoc]⟩
 ·obtain ⟨m,hn,hl⟩:=I.loc
  refine ⟨m,ns m hn,fun i x v e1 e2 e3=>?_⟩;obtain ⟨u,r,l⟩:=hl i x v e1 e2 e3;refine ⟨u,r,?_⟩;rcases l with l | ⟨k,c,e,z⟩
  ·exact .inl l
  exact .inr ⟨k,c,e,cellK x c e _ z⟩
 ·obtain ⟨v,z⟩:=I.cell x c e
  exact ⟨v,cellK x c e v z⟩
 ·obtain ⟨m,⟨o,_,_,ho,_⟩,_⟩:=I.loc
  exact free _ o (fun z=>(hch _ z).2.1 rfl) ho I.free
 ·obtain ⟨v,o,ho,hd⟩:=I.cell x c e
  exact free c o (fun z=>(hch c z).2.2.1 x c e rfl) ho (I.freeC x c e)
 refine x_04 (I.pin p hp) fun e n ne nf d=>?_;have nch:p.1∉ch:=fun z=>(hch p.1 z).2.2.2 p hp rfl;exact ⟨keep p.1 p.2 ne nf nch e n,free p.1 p.2 nch e n,ne,nf,d⟩
theorem Inv.un {t':Nat} (I:Inv X zz σ H s) (u:Un X.fs [] H H' s.heap h') (hok:HOk X.prog X.w H' h'):Inv X zz σ H' { s with heap:=h',toks:=t' }:=by
 obtain ⟨m,⟨o,es,ep,ho,r⟩,_⟩:=id I.loc;obtain ⟨sl,hL⟩:=u.any ho I.free (by simp);exact I.step (g':=s.gens) (d':=s.drawn) (ch:=[]) (fun _ z=>nomatch z) (fun b o _ hb _ e n=>u.keep b o e n hb (by simp)) (fun b o _ hb _ e n=>u.slot b o e n hb (by simp)) (fun b o _ e n=>u.free b o e n (by simp)) (fun b o _ e=>u.there b o e (by simp)) u.tups u.frzs u.tbls (fun m' hm=>by
  obtain ⟨o',es',ep',ho',r'⟩:=hm;rw [ho] at ho';cases ho';exact ⟨_,es',ep',hL,r'⟩) hok I.bare
theorem Inv.call {g':Array GenState}{t':Nat}{d':Drawn}{ch:List Addr} (I:Inv X zz σ H s) (u:Un (frs X.stack) ch H H' s.heap h') (hok:HOk X.prog X.w H' h') (hg:AllBare g')
  (hch : ∀ b∈ch,(b∈X.ex\/X.s_0.heap.objs.size<=b)/\b≠X.env.locals/\(∀ x c,X.env.cells.lookup x=some c->c≠b)/\∀ p∈X.pn++zz,p.1≠b) :
  Inv X zz σ H' { s with heap:=h',gens:=g',drawn:=d',toks:=t' }:=by
 obtain ⟨m,⟨o,es,ep,ho,r⟩,_⟩:=id I.loc;obtain ⟨sl,hL⟩:=u.any ho I.free fun z=>(hch _ z).2.1 rfl;exact I.step (ch:=ch) hch (fun b o hL hb hc e n=>u.keep b o e n (fun z=>(mem_cons.mp (I.stkSub b z)).elim hL hb) hc) (fun b o _ _ hc e n=>u.any e n hc) (fun b o hc e n=>u.free b o e n hc) (fun b o hc e=>u.there b o e hc) u.tups u.frzs u.tbls (fun m' hm=>by
  obtain ⟨o',es',ep',ho',r'⟩:=hm;rw [ho] at ho';cases ho';exact ⟨_,es',ep',hL,r'⟩) hok hg
theorem Inv.turned {t':Nat}{it:Addr} (I:Inv X zz σ H s) (k : ∀ b o,b≠it->s.heap.get? b=some o->h'.get? b=some o) (hn:H it=none) (hL:it≠X.env.locals)
  (h1:it∈X.ex\/X.s_0.heap.objs.size<=it) (h2 : ∀ x c,X.env.cells.lookup x=some c->c≠it) (h3 : ∀ p∈X.pn++zz,p.1≠it):Inv X zz σ H { s with heap:=h',toks:=t' }:=by
 have nit : ∀ b u,H b=some u->b≠it:=fun b u e z=>by rw [z,hn] at e;cases e
 refine I.step (g':=s.gens) (d':=s.drawn) (ch:=[it]) (fun b hb=>?_) (fun b o _ _ hc e _=>k b o (fun z=>hc (by simp [z])) e) (fun b o _ _ hc e _=>⟨o.slots,k b o (fun z=>hc (by simp [z])) e⟩) (fun _ _ _ _ n=>n)
  (fun b o hc e=>⟨o,k b o (fun z=>hc (by simp [z])) e⟩) (fun _ _ e=>e) (fun _ _ _ e=>e) (fun b ps e=>⟨#[],by rw [e];simp⟩) (fun m hm=>?_) (fun b u e=>?_) I.bare
 ·have e:b=it:=by simpa using hb
  subst e;exact ⟨h1,hL,h2,h3⟩
 ·obtain ⟨o,es,ep,ho,r⟩:=hm
  exact ⟨o,es,ep,k _ o (Ne.symm hL) ho,r⟩
 refine (I.hok b u e).stay (fun c v hc q=>k c v ?_ q) (fun _ q=>q) fun _ _ q=>q;rcases hc with z | z
 ·rw [z];exact nit b u e
 exact nit c _ z
theorem Inv.tok (I:Inv X zz σ H s) (t:Nat):Inv X zz σ H { s with toks:=t }:=I.un (h':=s.heap) (t':=t) Un.refl I.hok
theorem Inv.kept {t':Nat} (I:Inv X zz σ H s) (k : ∀ b u,s.heap.get? b=some u->h'.get? b=some u):Inv X zz σ H { s with heap:=h',toks:=t' }:=I.un (Un.kept k) (I.hok.kept k)
theorem Inv.laid {a:Addr}{o:HO}{t':Nat} (I:Inv X zz σ H s) (k : ∀ b u,s.heap.get? b=some u->h'.get? b=some u) (hp:s.heap.objs.size<=a) (new:bd_ X.prog X.w (upd H a o) h' a o) :
  Inv X zz σ (upd H a o) { s with heap:=h',toks:=t' }:=I.un (Un.laid k hp (I.hok.fresh hp)) (I.hok.laid k hp new)
theorem Inv.write {x e:Addr}{o:HO}{t':Nat} (I:Inv X zz σ H s) (mu:Mut (H x)) (he:e=x\/H e=some (.own x)) (k : ∀ b u,b≠e->s.heap.get? b=some u->h'.get? b=some u) (heo : ∃ u,h'.get? e=some u)
  (new:bd_ X.prog X.w (upd H x o) h' x o):Inv X zz σ (upd H x o) { s with heap:=h',toks:=t' }:=I.un (Un.write mu he k heo) (I.hok.write mu he k heo new)
theorem Inv.weak {σ':List (Option V)} (I:Inv X zz σ H s) (hl:σ'.length=σ.length) (w : ∀ (i:Nat) v,σ'[i]? = some (some v)->σ[i]? = some (some v)):Inv X zz σ' H s :=
 ⟨I.ok,I.os,I.bare,I.base,let ⟨m,hn,hl'⟩:=I.loc;⟨m,hn,fun i x v e1 e2 e3=>hl' i x v e1 (w i v e2) e3⟩,I.cell,I.free,I.freeC,I.pin,I.hok,hl.trans I.len⟩
theorem Inv.pins_of {pins':zP} (I:Inv X zz σ H s) (h : ∀ p∈pins',s.heap.get? p.1=some p.2/\H p.1=none/\p.1≠X.env.locals/\p.1∉X.fs/\∀ v,p.2.data ≠ .cell v):Inv X pins' σ H s :=
 ⟨I.ok,I.os,I.bare,I.base,I.loc,I.cell,I.free,I.freeC,fun p hp=>(mem_append.mp hp).elim (fun z=>I.pin p (mem_append_left _ z)) (h p),I.hok,I.len⟩
theorem f0_ {N:List Str} (hN:N.Nodup) {i j:Nat}{x:Str} (a:N[i]? = some x) (b:N[j]? = some x):i=j:=by
 obtain ⟨h1,e1⟩:=List.getElem?_eq_some_iff.mp a;obtain ⟨h2,e2⟩:=List.getElem?_eq_some_iff.mp b;exact (List.getElem_inj hN).mp (e1.trans e2.symm)
theorem j2_ {M:Model}{A:Around}{E:zQ}{i:Nat}{x:Str}{v:V}{u:Value}{Q:Unit->Shared->Prop} (I:Inv X zz σ H s) (hN:X.N.Nodup) (hi:X.N[i]? = some x) (hx:Loc X.env.scope x) (r:RelV v u)
  (h : ∀ s',Inv X zz (σ.set i (some v)) H s'->(∃ a,Heap.SameBut a s.heap s'.heap/\(a=X.env.locals\/X.env.cells.lookup x=some a))->Q () s') (hf:X.fn x=true\/X.env.scope.names.lookup x=some .local:=by first | exact .inl rfl | exact .inr rfl | assumption):wpAny M A (storeName X.env x u) Q E s:=by
 obtain ⟨m,hn,hl⟩:=id I.loc;have hcls:(X.env.scope.kind == .class || (X.env.scope.kind == .module && X.env.locals != X.env.globals))=false:=by rw [I.ok.kind];rfl
 have hiσ:i<σ.length:=by rw [I.len];exact (List.getElem?_eq_some_iff.mp hi).1
 have cne:=I.cne;have tracked : ∀ {a:Addr}{h':Heap},(∃ o,s.heap.get? a=some o/\H a=none)->Heap.SameBut a s.heap h'->HOk X.prog X.w H h':=fun {a h'} ha hs b ob e=>by
  obtain ⟨_,_,hfree⟩:=ha;refine (I.hok b ob e).stay (fun c w' hc q=>(hs.2 c ?_).trans q) (fun _ q=>q) fun _ _ q=>q
  rintro rfl
  rcases hc with rfl | hc
  ·rw [hfree] at e;cases e
  rw [hfree] at hc;cases hc
 rcases hx with hk | hk
 ·refine wpAny_storeName_local hk hn (fun h' hn' hs=>?_) hcls
  refine x_30 (id hn) fun oL _ _ zy=>x_01 zy fun hoL _=>?_;refine h _ ⟨I.ok,I.os,I.bare,⟨fun b o e n hb hx=>?_,fun b o e n hb hx=>?_,I.base.free,fun b o e hx=>?_,I.base.tups,I.base.frzs,I.base.tbls⟩,⟨_,hn',fun j y v' e1 e2 e3=>?_⟩,fun y c e=>?_,I.free,I.freeC,fun p hp=>?_,tracked ⟨oL,hoL,I.free⟩ hs,by simpa using I.len⟩ ⟨_,hs,.inl rfl⟩
  ·exact (hs.2 b (Nat.ne_of_lt (Nat.lt_of_lt_of_le (lt_size e) I.ok.above))).trans (I.base.keep b o e n hb hx)
  ·obtain ⟨sl,e1⟩:=I.base.slot b o e n hb hx
   exact ⟨sl,(hs.2 b (Nat.ne_of_lt (Nat.lt_of_lt_of_le (lt_size e) I.ok.above))).trans e1⟩
  ·obtain ⟨o',e1⟩:=I.base.there b o e hx
   exact ⟨o',(hs.2 b (Nat.ne_of_lt (Nat.lt_of_lt_of_le (lt_size e) I.ok.above))).trans e1⟩
  ·by_cases hj:j=i
   ·subst hj
    rw [hi] at e1;cases e1;rw [getElem?_set_self hiσ] at e2;cases e2;exact ⟨u,r,.inl ⟨hk,by simp⟩⟩
   rw [getElem?_set_ne (Ne.symm hj)] at e2;obtain ⟨u',r',q⟩:=hl j y v' e1 e2 e3;refine ⟨u',r',?_⟩;rcases q with ⟨k,e⟩ | ⟨k,c,e,z⟩
   ·refine .inl ⟨k,?_⟩
    have:y≠x:=fun e=>hj (f0_ hN e1 (e ▸ hi));simp [this,e]
   exact .inr ⟨k,c,e,z.sameBut hs (cne y c e)⟩
  ·obtain ⟨w',z⟩:=I.cell y c e
   exact ⟨w',z.sameBut hs (cne y c e)⟩
  refine x_04 (I.pin p hp) fun e n ne nf d=>?_;exact ⟨(hs.2 p.1 ne).trans e,n,ne,nf,d⟩
 have hfn:X.fn x=true:=by
  rcases hf with z | z
  ·exact z
  rw [z] at hk;cases hk
 obtain ⟨c,hc⟩:=I.ok.has x (.inl hk);obtain ⟨w',z⟩:=I.cell x c hc;refine wpAny_storeName_cell I.ok.kind hk hc z (fun h' hc' hs=>?_);obtain ⟨oc,hoc,hocd⟩:=id z;refine h { s with heap:=h' } ⟨I.ok,I.os,I.bare,⟨fun b o e n hb hx=>?_,fun b o e n hb hx=>?_,I.base.free,fun b o e hx=>?_,I.base.tups,I.base.frzs,I.base.tbls⟩,⟨m,hn.sameBut hs (Ne.symm (cne x c hc)),fun j y v' e1 e2 e3=>?_⟩,fun y c' e=>?_,I.free,I.freeC,fun p hp=>?_,tracked ⟨oc,hoc,I.freeC x c hc⟩ hs,by simpa using I.len⟩ ⟨c,hs,.inr hc⟩
 ·exact (hs.2 b (Nat.ne_of_lt (Nat.lt_of_lt_of_le (lt_size e) (I.ok.cab x c hfn hc)))).trans (I.base.keep b o e n hb hx)
 ·obtain ⟨sl,e1⟩:=I.base.slot b o e n hb hx
  exact ⟨sl,(hs.2 b (Nat.ne_of_lt (Nat.lt_of_lt_of_le (lt_size e) (I.ok.cab x c hfn hc)))).trans e1⟩
 ·obtain ⟨o',e1⟩:=I.base.there b o e hx
  exact ⟨o',(hs.2 b (Nat.ne_of_lt (Nat.lt_of_lt_of_le (lt_size e) (I.ok.cab x c hfn hc)))).trans e1⟩
 ·by_cases hj:j=i
  ·subst hj
   rw [hi] at e1;cases e1;rw [getElem?_set_self hiσ] at e2;cases e2;exact ⟨u,r,.inr ⟨.inl hk,c,hc,hc'⟩⟩
  rw [getElem?_set_ne (Ne.symm hj)] at e2;obtain ⟨u',r',q⟩:=hl j y v' e1 e2 e3;refine ⟨u',r',?_⟩;rcases q with q | ⟨k,c',e,z'⟩
  ·exact .inl q
  refine .inr ⟨k,c',e,z'.sameBut hs ?_⟩
  rintro rfl
  exact hj (f0_ hN e1 (I.ok.inj _ _ _ e hc ▸ hi))
 ·by_cases hcc:c'=c
  ·subst hcc;exact ⟨_,hc'⟩
  obtain ⟨w2,z2⟩:=I.cell y c' e;exact ⟨w2,z2.sameBut hs hcc⟩
 refine x_04 (I.pin p hp) fun e n ne nf d=>?_;refine ⟨(hs.2 p.1 ?_).trans e,n,ne,nf,d⟩;intro q;rw [q,hoc] at e;have q':oc=p.2:=Option.some.inj e;exact d w' (by rw [<- q'];exact hocd)
theorem d6_ {M:Model}{A:Around}{E:zQ}{i:Nat}{x:Str}{v:V}{u:Value}{Q:Unit->Shared->Prop} (I:Inv X zz σ H s) (hN:X.N.Nodup) (hi:X.N[i]? = some x) (hx:Loc X.env.scope x) (r:RelV v u)
  (h : ∀ s',Inv X zz (σ.set i (some v)) H s'->Q () s') (hf:X.fn x=true\/X.env.scope.names.lookup x=some .local:=by first | exact .inl rfl | exact .inr rfl | assumption):wpAny M A (storeName X.env x u) Q E s :=
 j2_ I hN hi hx r (fun s' I' _=>h s' I') hf
theorem Inv.call' {s':Shared}{ch:List Addr} (I:Inv X zz σ H s) (ho:s'.os=s.os) (u:Un (frs X.stack) ch H H' s.heap s'.heap) (hok:HOk X.prog X.w H' s'.heap) (hg:AllBare s'.gens)
  (hch : ∀ b∈ch,(b∈X.ex\/X.s_0.heap.objs.size<=b)/\b≠X.env.locals/\(∀ x c,X.env.cells.lookup x=some c->c≠b)/\∀ p∈X.pn++zz,p.1≠b):Inv X zz σ H' s':=by
 obtain ⟨h',g',d',t',o'⟩:=s';have e:o'=s.os:=ho;subst e;exact I.call (g':=g') (t':=t') (d':=d') u hok hg hch
end
abbrev XK:=Value->Option Addr->Hp->Prop
abbrev St:=List (Option V)
abbrev VK:=V->Hp->Prop
abbrev TE:=St->Hp->VK->Prop
abbrev TT:=St->Hp->(Bool->Hp->Prop)->Prop
abbrev TA:=St->Hp->(List V->Hp->Prop)->Prop
structure Ends where
 nx:St->Hp->Prop
 rt:VK
 bk:St->Hp->Prop:=fun _ _=>False
 ct:St->Hp->Prop:=fun _ _=>False
abbrev TS:=Ends->St->Hp->Prop
def EP (X:Cx) (zz:zP) (σ:St) (Q:VK) (u:Value) (s':Shared):Prop:=∃ v H',Inv X zz σ H' s'/\RelV v u/\Q v H'
def TP (X:Cx) (zz:zP) (σ:St) (Q:Bool->Hp->Prop) (b:Bool) (s':Shared):Prop:=∃ H',Inv X zz σ H' s'/\Q b H'
def AP (X:Cx) (zz:zP) (σ:St) (Q:List V->Hp->Prop) (us:List Value) (s':Shared):Prop:=∃ vs H',Inv X zz σ H' s'/\Vals vs us/\Q vs H'
def SP (X:Cx) (zz:zP) (D:Ends) (f:Flow) (s':Shared):Prop :=
 match f with
 | .next=>∃ σ' H',Inv X zz σ' H' s'/\D.nx σ' H'
 | .brk=>∃ σ' H',Inv X zz σ' H' s'/\D.bk σ' H'
 | .cont=>∃ σ' H',Inv X zz σ' H' s'/\D.ct σ' H'
 | .ret u=>∃ v σ' H',Inv X zz σ' H' s'/\RelV v u/\D.rt v H'
def PE (X:Cx) (e:Expr) (t:TE):Prop :=
 ∀ (zz:zP) (s:Shared) (σ:St) (H:Hp) (Q:VK),Inv X zz σ H s->t σ H Q->wpAny (model X.prog X.w) X.A (eval e X.env) (EP X zz σ Q) X.xe s
def PT (X:Cx) (e:Expr) (t:TT):Prop :=
 ∀ (zz:zP) (s:Shared) (σ:St) (H:Hp) (Q:Bool->Hp->Prop),Inv X zz σ H s->t σ H Q->wpAny (model X.prog X.w) X.A (isTrue e X.env (eval e X.env)) (TP X zz σ Q) X.xe s
def PW (X:Cx) (e:Expr) (t:TT):Prop :=
 ∀ (whole:Sem Value) (zz:zP) (s:Shared) (σ:St) (H:Hp) (Q:Bool->Hp->Prop),Inv X zz σ H s->t σ H Q->wpAny (model X.prog X.w) X.A (isTrue e X.env whole) (TP X zz σ Q) X.xe s
theorem PW.pt {X:Cx}{e:Expr}{t:TT} (h:PW X e t):PT X e t:=h _
def PA (X:Cx) (es:List Expr) (t:TA):Prop :=
 ∀ (pos:Pos) (zz:zP) (s:Shared) (σ:St) (H:Hp) (Q:List V->Hp->Prop),Inv X zz σ H s->t σ H Q->wpAny (model X.prog X.w) X.A (spliced (backTo pos (starEach es X.env))) (AP X zz σ Q) X.xe s
def PS (X:Cx) (st:Stmt) (t:TS):Prop :=
 ∀ (zz:zP) (s:Shared) (σ:St) (H:Hp) (D:Ends),Inv X zz σ H s->t D σ H->wpAny (model X.prog X.w) X.A (exec st X.env) (SP X zz D) X.xe s
def PSs (X:Cx) (st:List Stmt) (t:TS):Prop :=
 ∀ (zz:zP) (s:Shared) (σ:St) (H:Hp) (D:Ends),Inv X zz σ H s->t D σ H->wpAny (model X.prog X.w) X.A (execs st X.env) (SP X zz D) X.xe s
theorem thn {α:Type}{t:Sem α}{Q Q':α->Shared->Prop}{M:Model}{A:Around}{E:zQ}{s:Shared} (h:wpAny M A t Q E s) (hQ : ∀ a s,Q a s->Q' a s):wpAny M A t Q' E s:=wpAny_mono h hQ fun _ _ x=>x
section
variable {X:Cx}
def tVar (i:Nat):TE:=fun σ H Q=>match σ[i]? with
 | some (some v)=>Q v H
 | _=>False
theorem nL_ {i:Nat}{σ:St}{H:Hp}{Q:VK} (h:tVar i σ H Q) : ∃ v,σ[i]? = some (some v)/\Q v H:=by
 unfold tVar at h;split at h
 ·rename_i v e
  exact ⟨v,e,h⟩
 exact h.elim
def tC (v:V):TE:=fun _ H Q=>Q v H
theorem pt_ {i:Nat}{x:Str}{pos:Pos} (hN:X.N[i]? = some x) (hv:Vis X.env.scope x) (hd:(x == ("__debug__":Str))=false:=by decide) (hcd:(x == ("__classdict__":Str))=false:=by decide):PE X (.Name x pos) (tVar i):=by
 intro zz s σ H Q I h;obtain ⟨v,e,h⟩:=nL_ h;obtain ⟨m,hn,hl⟩:=I.loc;obtain ⟨u,r,l⟩:=hl i x v hN e hv;have fin:EP X zz σ Q u s:=⟨v,H,I,r,h⟩;rcases l with ⟨hk,hm⟩ | ⟨hk,c,hc,hcell⟩
 ·exact wpAny_Name (wpAny_loadName_local I.ok.kind hk hn hm fin) hd
 rcases hk with hk | hk
 ·exact wpAny_Name (wpAny_loadName_cell I.ok.kind hk hc hcell fin) hd
 exact wpAny_Name (wpAny_loadName_free I.ok.kind hk hc hcell fin hcd) hd
theorem ah_ {i j pos}:PE X (.Constant (.int i) j pos) (tC (.int i)):=fun _ _ _ H _ I h=>wpAny_Constant_int ⟨.int i,H,I.tok _,⟨_,rfl⟩,h⟩
theorem jm_ {b j pos}:PE X (.Constant (.bool b) j pos) (tC (.bl b)):=fun _ _ _ H _ I h=>Constant_bool ⟨.bl b,H,I,rfl,h⟩
theorem kC_ {j pos}:PE X (.Constant .none j pos) (tC .non):=fun _ _ _ H _ I h=>Constant_none ⟨.non,H,I,rfl,h⟩
theorem ao_ {x j pos}:PE X (.Constant (.str x) j pos) (tC (.str x)):=fun _ _ _ H _ I h=>Calls.Constant_str ⟨.str x,H,I.tok _,⟨_,rfl⟩,h⟩
def Gl (X:Cx) (x:Str):Prop:=X.env.kindOf x=some .globalImplicit
theorem c0_ {E:zQ}{zz:zP}{s:Shared}{σ:St}{H:Hp}{x:Str}{u:Value}{pos:Pos}{Q:zQ} (I:Inv X zz σ H s) (hg:Gl X x) (hm:X.mg x=some u) (h:Q u s)
  (hd:(x == ("__debug__":Str))=false:=by decide):wpAny (model X.prog X.w) X.A (eval (.Name x pos) X.env) Q E s :=
 Calls.Name_function_global I.ok.kind hg (Calls.loadGlobal_global (by rw [I.ok.glob];exact I.mod.glob.keeps I.bk) hm h) hd
theorem dS_ {E:zQ}{zz:zP}{s:Shared}{σ:St}{H:Hp}{x:Str}{u:Value}{pos:Pos}{Q:zQ} (I:Inv X zz σ H s) (hg:Gl X x) (hm:X.mg x=none) (hv:bootBuiltins x=some u) (h:Q u s)
  (hn:x≠"__name__":=by decide) (hd:(x == ("__debug__":Str))=false:=by decide):wpAny (model X.prog X.w) X.A (eval (.Name x pos) X.env) Q E s:=by
 obtain ⟨mb,h1,h2⟩:=I.mod.blt;exact Calls.Name_function_global I.ok.kind hg (Calls.loadGlobal_builtin (by rw [I.ok.glob];exact I.mod.glob.keeps I.bk) hm (by rw [I.ok.blt];exact h1.keeps I.bk) ((h2 x hn).trans hv) h) hd
theorem kD_ {x:Str}{v:V}{u:Value}{pos:Pos} (hg:Gl X x) (hm:X.mg x=some u) (r:RelV v u) (hd:(x == ("__debug__":Str))=false:=by decide):PE X (.Name x pos) (tC v) :=
 fun _ _ _ H _ I h=>c0_ I hg hm ⟨v,H,I,r,h⟩ hd
variable {a b:Expr}{ta tb:TE}{pos:Pos}
def PC (X:Cx) (op:CmpOp) (a b:Expr) (t:TE):Prop :=
 ∀ (zz:zP) (s:Shared) (σ:St) (H:Hp) (Q:VK),Inv X zz σ H s->t σ H Q ->
  wpAny (model X.prog X.w) X.A (eval a X.env) (fun v s₁=>wpAny (model X.prog X.w) X.A (eval b X.env) (fun u s₂=>wpAny (model X.prog X.w) X.A (compareOp op v u) (EP X zz σ Q) X.xe s₂) X.xe s₁) X.xe s
theorem mk_ (b:Expr) {op:CmpOp} (h:op ≠ .In) (h2:op ≠ .NotIn):behindInMarks op b=false:=by
 have e1:(op == CmpOp.In)=false:=by cases op <;> first | rfl | exact absurd rfl h
 have e2:(op == CmpOp.NotIn)=false:=by cases op <;> first | rfl | exact absurd rfl h2
 cases b <;> simp [behindInMarks,e1,e2]
def tIsN (ta:TE):TE:=fun σ H Q=>ta σ H fun x H1=>Q (.bl (decide (x = .non))) H1
def ql_ (ta:TE):TE:=fun σ H Q=>ta σ H fun x H1=>Q (.bl (!decide (x = .non))) H1
theorem RelV.none_iff {x:V}{v:Value} (r:RelV x v):(v == Value.none)=decide (x = .non):=by
 cases x with
 | non=>cases r;rfl
 | bl _=>cases r;rfl
 | int _=>obtain ⟨t,rfl⟩:=r;rfl
 | str _=>obtain ⟨t,rfl⟩:=r;rfl
 | byt _=>obtain ⟨t,rfl⟩:=r;rfl
 | flt _=>obtain ⟨t,rfl⟩:=r;rfl
 | ref _=>cases r;rfl
 | ty _=>cases r;rfl
theorem pv_ {j pos'} (ha:PE X a ta):PC X .Is a (.Constant .none j pos') (tIsN ta):=by
 intro zz s σ H Q I h;refine thn (ha zz s σ H _ I h) fun v s1 zq=>?_;refine x_22 zq fun x H1 I1 r1 q1=>?_;exact Constant_none (is_none_gen ⟨.bl _,H1,I1,by rw [r1.none_iff];rfl,q1⟩)
def tB (t:TE):TT:=fun σ H Q=>t σ H fun x H1=>∃ c,x = .bl c/\Q c H1
theorem nf_ {op:CmpOp}{t:TE} (h:PC X op a b t) (h1:behindInMarks op b=false:=by first | exact mk_ _ (by decide) (by decide) | rfl):PT X (.Compare a [op] [b] pos) (tB t):=by
 intro zz s σ H Q I hw;refine wpAny_isTrue_Compare1 (thn (h zz s σ H _ I hw) fun v s1 h1=>thn h1 fun u s2 h2=>thn h2 fun c s3 zq=>?_) h1;obtain ⟨x,H1,I1,r1,q1⟩:=zq;obtain ⟨d,rfl,q⟩:=q1;cases r1;exact wpAny_truthy_bool ⟨H1,I1,q⟩
theorem cM_ {e:Expr}{t:TE} (h:PE X e t) (he : ∀ whole,isTrue e X.env whole=(do let v <- whole;standAt e.pos;holding [v] (truthy v)):=by intro _;rfl):PT X e (tB t):=by
 intro zz s σ H Q I hw;refine isTrue_plain (thn (h zz s σ H _ I hw) fun v s1 zq=>?_) (he _);obtain ⟨x,H1,I1,r1,q1⟩:=zq;obtain ⟨d,rfl,q⟩:=q1;cases r1;exact wpAny_truthy_bool ⟨H1,I1,q⟩
variable {tA tB':TT}{rest:List Expr}
def tAnd (t u:TT):TT:=fun σ H Q=>t σ H fun c H1=>if c=true then u σ H1 Q else Q false H1
def tOr (t u:TT):TT:=fun σ H Q=>t σ H fun c H1=>if c=true then Q true H1 else u σ H1 Q
def tNot (t:TT):TT:=fun σ H Q=>t σ H fun c H1=>Q (!c) H1
theorem pw_and1 (ha:PT X a tA):PW X (.BoolOp .And [a] pos) tA:=by
 intro wh zz s σ H Q I h;refine isTrue_and (thn (ha zz s σ H Q I h) fun c s1 e=>?_);cases c with
 | true=>exact isTrue_and_nil e
 | false=>exact e
theorem pw_or1 (ha:PT X a tA):PW X (.BoolOp .Or [a] pos) tA:=by
 intro wh zz s σ H Q I h;refine isTrue_or (thn (ha zz s σ H Q I h) fun c s1 e=>?_);cases c with
 | false=>exact isTrue_or_nil e
 | true=>exact e
theorem pw_and (ha:PT X a tA) (hb:PW X (.BoolOp .And (b::rest) pos) tB'):PW X (.BoolOp .And (a::b::rest) pos) (tAnd tA tB'):=by
 intro wh zz s σ H Q I h;refine isTrue_and (thn (ha zz s σ H _ I h) fun c s1 ⟨H1,I1,q1⟩=>?_);cases c with
 | true=>exact hb wh zz s1 σ H1 Q I1 q1
 | false=>exact ⟨H1,I1,q1⟩
theorem pw_or (ha:PT X a tA) (hb:PW X (.BoolOp .Or (b::rest) pos) tB'):PW X (.BoolOp .Or (a::b::rest) pos) (tOr tA tB'):=by
 intro wh zz s σ H Q I h;refine isTrue_or (thn (ha zz s σ H _ I h) fun c s1 ⟨H1,I1,q1⟩=>?_);cases c with
 | true=>exact ⟨H1,I1,q1⟩
 | false=>exact hb wh zz s1 σ H1 Q I1 q1
theorem nd_ (ha:PT X a tA):PT X (.UnaryOp .Not a pos) (tNot tA):=by
 intro zz s σ H Q I h;exact isTrue_not (ha zz s σ H (fun c H1=>Q (!c) H1) I h)
def o8_ (ta tb:TE):TE:=fun σ H Q=>ta σ H fun x H1=>∃ c,x = .bl c/\if c=true then tb σ H1 Q else Q (.bl false) H1
def tOrV (ta tb:TE):TE:=fun σ H Q=>ta σ H fun x H1=>∃ c,x = .bl c/\if c=true then Q (.bl true) H1 else tb σ H1 Q
def qk_ (ta:TE):TE:=fun σ H Q=>ta σ H fun x H1=>∃ c,x = .bl c/\Q (.bl (!c)) H1
theorem iL_ {op}{t:TE} (h:PE X a t):PE X (.BoolOp op [a] pos) t:=fun zz s σ H Q I hw=>BoolOp_one (h zz s σ H Q I hw)
theorem nk_ (ha:PE X a ta) (hb:PE X (.BoolOp .And (b::rest) pos) tb):PE X (.BoolOp .And (a::b::rest) pos) (o8_ ta tb):=by
 intro zz s σ H Q I h;refine BoolOp_and (thn (ha zz s σ H _ I h) fun v s1 zq=>?_);refine x_22 zq fun x H1 I1 r1 q1=>?_;obtain ⟨c,rfl,q1⟩:=q1;cases r1;refine wpAny_truthy_bool ?_;cases c with
 | true=>exact hb zz s1 σ H1 Q I1 q1
 | false=>exact ⟨.bl false,H1,I1,rfl,q1⟩
theorem n9_ (ha:PE X a ta) (hb:PE X (.BoolOp .Or (b::rest) pos) tb):PE X (.BoolOp .Or (a::b::rest) pos) (tOrV ta tb):=by
 intro zz s σ H Q I h;refine BoolOp_or (thn (ha zz s σ H _ I h) fun v s1 zq=>?_);refine x_22 zq fun x H1 I1 r1 q1=>?_;obtain ⟨c,rfl,q1⟩:=q1;cases r1;refine wpAny_truthy_bool ?_;cases c with
 | false=>exact hb zz s1 σ H1 Q I1 q1
 | true=>exact ⟨.bl true,H1,I1,rfl,q1⟩
def tIf (t:TT) (ta tb:TE):TE:=fun σ H Q=>t σ H fun c H1=>if c=true then ta σ H1 Q else tb σ H1 Q
theorem ec_ {c:Expr} (hc:PT X c tA) (ha:PE X a ta) (hb:PE X b tb):PE X (.IfExp c a b pos) (tIf tA ta tb):=by
 intro zz s σ H Q I h;refine wpAny_IfExp (thn (hc zz s σ H _ I h) fun d s1 ⟨H1,I1,q1⟩=>?_);cases d with
 | true=>exact ha zz s1 σ H1 Q I1 q1
 | false=>exact hb zz s1 σ H1 Q I1 q1
end
def SqL (K:Frag) (H:Hp) (a:Addr) (xs:List V):Prop :=
 Rd H a (.lst xs) \/
  ∃ (o:Obj) (zw:Array Value) (n:Nat),K.lookup a=some o/\o.cls = .type "list"/\o.dict=none/\o.data = .seq zw n/\zw.size<=sizeLine/\Vals xs zw.toList
def SqT (K:Frag) (H:Hp) (a:Addr) (xs:List V):Prop :=
 Rd H a (.tup xs) \/
  ∃ (o:Obj) (zw:Array Value) (n:Nat),K.lookup a=some o/\o.cls = .type "tuple"/\o.data = .seq zw n/\zw.size<=sizeLine/\Vals xs zw.toList
noncomputable def absV:Value->Option V
 | .none=>some .non
 | .bool b=>some (.bl b)
 | .int i _=>some (.int i)
 | .str x _=>some (.str x)
 | .bytes b _=>some (.byt b)
 | .float b _=>some (.flt b)
 | .ref a=>some (.ref a)
 | .type n=>some (.ty n)
 | _=>none
theorem RelV.abs {x:V}{u:Value} (r:RelV x u):absV u=some x:=by
 cases x with
 | non=>cases r;rfl
 | bl _=>cases r;rfl
 | int _=>obtain ⟨t,rfl⟩:=r;rfl
 | str _=>obtain ⟨t,rfl⟩:=r;rfl
 | byt _=>obtain ⟨t,rfl⟩:=r;rfl
 | flt _=>obtain ⟨t,rfl⟩:=r;rfl
 | ref _=>cases r;rfl
 | ty _=>cases r;rfl
theorem RelV.inj {x y:V}{u:Value} (r:RelV x u) (q:RelV y u):x=y:=Option.some.inj (r.abs.symm.trans q.abs)
theorem Vals.inj : ∀ {xs ys:List V}{us:List Value},Vals xs us->Vals ys us->xs=ys
 | _,_,_,.nil,.nil=>rfl
 | _,_,_,.cons r t,.cons r' t'=>by rw [r.inj r',Vals.inj t t']
section
variable {X:Cx}{zz:zP}{σ:St}{H:Hp}{s:Shared}{a:Addr}{xs ys:List V}
theorem SqL.of {K:Frag} (h:H a=some (.lst xs)):SqL K H a xs := .inl (.inl h)
theorem SqT.of {K:Frag} (h:H a=some (.tup xs)):SqT K H a xs := .inl (.inl h)
theorem Inv.list (I:Inv X zz σ H s) (h:SqL X.K H a xs) : ∃ zw:List Value,Vals xs zw/\PlainL s.heap a zw.toArray/\xs.length<=sizeLine:=by
 rcases h with h | ⟨o,zw,n,hk,hc,hd,hs,hz,r⟩
 ·refine x_01 (h.ok I.hok) fun z zz0=>?_
  refine x_21 zz0 fun zw n r e=>?_;exact ⟨zw,r,⟨_,n,e,rfl,rfl,rfl⟩,z⟩
 refine ⟨zw.toList,r,⟨o,n,I.kIn a o hk,hc,hd,by simpa using hs⟩,?_⟩;have e:=r.length;simp only [Array.length_toList] at e;omega
theorem Inv.tuple (I:Inv X zz σ H s) (h:SqT X.K H a xs) : ∃ zw:List Value,Vals xs zw/\IsTup s.heap a zw.toArray/\xs.length<=sizeLine:=by
 rcases h with h | ⟨o,zw,n,hk,hc,hs,hz,r⟩
 ·refine x_01 (h.ok I.hok) fun z zz0=>?_
  refine x_11 zz0 fun zw r p=>?_;exact ⟨zw,r,p,z⟩
 refine ⟨zw.toList,r,⟨o,I.kIn a o hk,hc,n,by simpa using hs⟩,?_⟩;have e:=r.length;simp only [Array.length_toList] at e;omega
theorem Inv.list_inj (I:Inv X zz σ H s) (h:SqL X.K H a xs) (h':SqL X.K H a ys):xs=ys:=by
 obtain ⟨zw,r,⟨o,n,e,_,_,d⟩,_⟩:=I.list h;obtain ⟨its',r',⟨o',n',e',_,_,d'⟩,_⟩:=I.list h';rw [e] at e';cases e';rw [d] at d';injection d' with d1 _;have:zw=its':=by simpa using congrArg Array.toList d1
 subst this;exact r.inj r'
theorem Inv.tuple_inj (I:Inv X zz σ H s) (h:SqT X.K H a xs) (h':SqT X.K H a ys):xs=ys:=by
 obtain ⟨zw,r,⟨o,e,_,n,d⟩,_⟩:=I.tuple h;obtain ⟨its',r',⟨o',e',_,n',d'⟩,_⟩:=I.tuple h';rw [e] at e';cases e';rw [d] at d';injection d' with d1 _;have:zw=its':=by simpa using congrArg Array.toList d1
 subst this;exact r.inj r'
end
abbrev Cx.wish (X:Cx) (E:zQ):Cx:={ X with xe:=E }
abbrev Cx.nox (X:Cx):Cx:=X.wish fun _ _=>False
theorem Cx.Ok.wish {X:Cx} (ok:X.Ok) (E:zQ):(X.wish E).Ok :=
 ⟨ok.mod,ok.kind,ok.glob,ok.blt,ok.above,ok.inj,ok.has,ok.cab,ok.hd,ok.frames,ok.stk,ok.exf,ok.bs,ok.bsz,ok.noex,ok.exfs,ok.funs,ok.frf⟩
theorem Cx.Ok.unwish {X:Cx}{E:zQ} (ok:(X.wish E).Ok):X.Ok :=
 ⟨ok.mod,ok.kind,ok.glob,ok.blt,ok.above,ok.inj,ok.has,ok.cab,ok.hd,ok.frames,ok.stk,ok.exf,ok.bs,ok.bsz,ok.noex,ok.exfs,ok.funs,ok.frf⟩
section
variable {X:Cx}{zz:zP}{σ:St}{H:Hp}{s:Shared}{E:zQ}
theorem Inv.wish (I:Inv X zz σ H s) (E:zQ):Inv (X.wish E) zz σ H s:=⟨I.ok.wish E,I.os,I.bare,I.base,I.loc,I.cell,I.free,I.freeC,I.pin,I.hok,I.len⟩
theorem Inv.unwish (I:Inv (X.wish E) zz σ H s):Inv X zz σ H s:=⟨I.ok.unwish,I.os,I.bare,I.base,I.loc,I.cell,I.free,I.freeC,I.pin,I.hok,I.len⟩
theorem SP.unwish {D:Ends}{f:Flow}{s':Shared} (h:SP (X.wish E) zz D f s'):SP X zz D f s':=by
 cases f with
 | next=>obtain ⟨σ',H',I,q⟩:=h;exact ⟨σ',H',I.unwish,q⟩
 | brk=>obtain ⟨σ',H',I,q⟩:=h;exact ⟨σ',H',I.unwish,q⟩
 | cont=>obtain ⟨σ',H',I,q⟩:=h;exact ⟨σ',H',I.unwish,q⟩
 | ret u=>obtain ⟨v,σ',H',I,r,q⟩:=h;exact ⟨v,σ',H',I.unwish,r,q⟩
theorem PSs.nox {st:List Stmt}{t:TS} (h:PSs X.nox st t):PSs X st t:=fun zz s σ H D I hw =>
 wpAny_mono (h zz s σ H D (I.wish _) hw) (fun _ _ q=>q.unwish) fun _ _ z=>False.elim z
end
section
variable {X:Cx}{st:Stmt}{rest:List Stmt}{t u:TS}{e:Expr}{te:TE}{pos:Pos}
def nM_:TS:=fun D σ H=>D.nx σ H
def tSeq (t u:TS):TS:=fun D σ H=>t { D with nx:=u D } σ H
theorem aq_:PSs X [] nM_:=fun _ _ σ H _ I h=>wpAny_execs_nil ⟨σ,H,I,h⟩
theorem ac_ (h1:PS X st t) (h2:PSs X rest u):PSs X (st::rest) (tSeq t u):=by
 intro zz s σ H D I h;refine wpAny_execs_cons (thn (h1 zz s σ H { D with nx:=u D } I h) fun f s1 q=>?_);cases f with
 | next =>
  refine x_21 q fun σ' H' I' q=>?_;exact h2 zz s1 σ' H' D I' q
 | ret v=>exact q
 | brk=>exact q
 | cont=>exact q
theorem ad_ (h1:PS X st t):PSs X [st] t:=by
 intro zz s σ H D I h;refine wpAny_execs_cons (thn (h1 zz s σ H D I h) fun f s1 q=>?_);cases f with
 | next=>exact wpAny_execs_nil q
 | ret v=>exact q
 | brk=>exact q
 | cont=>exact q
theorem Inv.quiet {zz:zP}{σ:St}{H:Hp}{s:Shared} (I:Inv X zz σ H s):interactive X.env=false:=by simp [interactive,I.ok.kind]
def o7_ (te:TE):TS:=fun D σ H=>te σ H fun _ H1=>D.nx σ H1
theorem bu_ (he:PE X e te) (hs:swapsWith e none pos.line X.env=pure false:=by rfl):PS X (.Expr e pos) (o7_ te):=by
 intro zz s σ H D I h;exact wpAny_Expr_any (thn (he zz s σ H _ I h) fun v s1 ⟨x,H1,I1,r1,q1⟩=>⟨σ,H1,I1,q1⟩) I.quiet hs
def tRet (te:TE):TS:=fun D σ H=>te σ H D.rt
theorem aj_ (he:PE X e te):PS X (.Return (some e) pos) (tRet te):=by
 intro zz s σ H D I h;exact wpAny_Return_some (thn (he zz s σ H _ I h) fun v s1 ⟨x,H1,I1,r1,q1⟩=>⟨x,σ,H1,I1,r1,q1⟩)
def qj_:TS:=fun D _ H=>D.rt .non H
def tIfS (c:TT) (t u:TS):TS:=fun D σ H=>c σ H fun b H1=>if b=true then t D σ H1 else u D σ H1
theorem aV_ {c:Expr}{a b:List Stmt}{tc:TT} (hc:PT X c tc) (ha:PSs X a t) (hb:PSs X b u):PS X (.If c a b pos) (tIfS tc t u):=by
 intro zz s σ H D I h;refine wpAny_If (thn (hc zz s σ H _ I h) fun d s1 ⟨H1,I1,q1⟩=>?_);cases d with
 | true=>exact ha zz s1 σ H1 D I1 q1
 | false=>exact hb zz s1 σ H1 D I1 q1
end
abbrev TG:=V->St->Hp->(St->Hp->Prop)->Prop
abbrev TGs:=List V->St->Hp->(St->Hp->Prop)->Prop
def PG (X:Cx) (target:Expr) (t:TG):Prop :=
 ∀ (zz:zP) (s:Shared) (σ:St) (H:Hp) (v:V) (u:Value) (Q:St->Hp->Prop),Inv X zz σ H s->RelV v u->t v σ H Q ->
  wpAny (model X.prog X.w) X.A (assign target X.env u) (fun _ s'=>∃ σ' H',Inv X zz σ' H' s'/\Q σ' H') X.xe s
def PGs (X:Cx) (ts:List Expr) (t:TGs):Prop :=
 ∀ (zz:zP) (s:Shared) (σ:St) (H:Hp) (vs:List V) (us:List Value) (Q:St->Hp->Prop),Inv X zz σ H s->Vals vs us->t vs σ H Q ->
  wpAny (model X.prog X.w) X.A (assignInOrder ((assignEach ts X.env).map (·.2)) us) (fun _ s'=>∃ σ' H',Inv X zz σ' H' s'/\Q σ' H') X.xe s
abbrev TIp:=V->V->Hp->VK->Prop
def PIp (X:Cx) (op:Operator) (t:TIp):Prop :=
 ∀ (zz:zP) (s:Shared) (σ:St) (H:Hp) (x y:V) (v u:Value) (Q:VK),Inv X zz σ H s->RelV x v->RelV y u->t x y H Q ->
  wpAny (model X.prog X.w) X.A (inplaceOp op v u) (EP X zz σ Q) X.xe s
section
variable {X:Cx}{pos:Pos}
def do_ (i:Nat):TG:=fun v σ H Q=>Q (σ.set i (some v)) H
theorem kA_ {i:Nat}{x:Str} (hN:X.N.Nodup) (hi:X.N[i]? = some x) (hx:Loc X.env.scope x) (hf:X.fn x=true\/X.env.scope.names.lookup x=some .local:=by first | exact .inl rfl | exact .inr rfl | assumption):PG X (.Name x pos) (do_ i):=by
 intro zz s σ H v u Q I r h;exact wpAny_assign_Name (d6_ I hN hi hx r (fun s' I'=>⟨_,H,I',h⟩) hf)
def gNil:TGs:=fun vs σ H Q=>vs=[]/\Q σ H
def pX_ (t:TG) (u:TGs):TGs:=fun vs σ H Q=>∃ v r,vs=v::r/\t v σ H fun σ' H'=>u r σ' H' Q
theorem n8_:PGs X [] gNil:=by
 intro zz s σ H vs us Q I r h;obtain ⟨e,h⟩:=h;subst e;cases r;exact assignInOrder_nil ⟨σ,H,I,h⟩
theorem iJ_ {e:Expr}{es:List Expr}{t:TG}{u:TGs} (h1:PG X e t) (h2:PGs X es u)
  (hs:(assignEach (e::es) X.env).map (·.2)=assign e X.env::(assignEach es X.env).map (·.2):=by rfl):PGs X (e::es) (pX_ t u):=by
 intro zz s σ H vs us Q I r h;obtain ⟨v,vr,e1,h⟩:=h;subst e1;cases r with
 | cons r rr =>
 rw [hs];refine assignInOrder_cons (thn (h1 zz s σ H _ _ _ I r h) fun _ s1 ⟨σ1,H1,I1,q1⟩=>?_);exact h2 zz s1 σ1 H1 _ _ Q I1 rr q1
def gTup (K:Frag) (n:Nat) (t:TGs):TG:=fun v σ H Q=>∃ a xs,v = .ref a/\SqT K H a xs/\xs.length=n/\t xs σ H Q
theorem ps_ {es:List Expr}{k:Nat}{t:TGs}{n:Nat} (hc:X.calm=true) (h:PGs X es t)
  (hn:(assignEach es X.env).length=n:=by rfl) (hst:(assignEach es X.env).findIdx? (·.1)=none:=by rfl):PG X (.Tuple es k pos) (gTup X.K n t):=by
 intro zz s σ H v u Q I r hw;obtain ⟨a,xs,e1,hq,hl,hw⟩:=hw;subst e1;cases r;obtain ⟨zw,rv,ht,hz⟩:=I.tuple hq;refine assign_Tuple_tuple (I.ok.hd hc) ht (by simp [hn,<- hl,rv.length]) hst fun h' hx=>?_;have I1:Inv X zz σ H { s with heap:=h' }:=I.kept (t':=s.toks) fun b o e=>hx b o (Nat.ne_of_lt (lt_size e)) e;exact h zz _ σ H xs _ Q I1 (by simpa using rv) hw
def tAsg (te:TE) (g:TG):TS:=fun D σ H=>te σ H fun x H1=>g x σ H1 D.nx
theorem iE_ {i:Nat}{x:Str}{e:Expr}{te:TE}{pos':Pos} (hN:X.N.Nodup) (hi:X.N[i]? = some x) (hx:Loc X.env.scope x) (he:PE X e te) (hs:swapsWith e (some (.Name x pos')) pos.line X.env=pure false:=by rfl) (hf:X.fn x=true\/X.env.scope.names.lookup x=some .local:=by first | exact .inl rfl | exact .inr rfl | assumption) :
  PS X (.Assign [.Name x pos'] e pos) (tAsg te (do_ i)):=by
 intro zz s σ H D I h;refine wpAny_Assign_Name (thn (he zz s σ H _ I h) fun v s1 zq=>?_) hs;refine x_22 zq fun y H1 I1 r1 q1=>?_;exact d6_ I1 hN hi hx r1 (fun s2 I2=>⟨_,H1,I2,q1⟩) hf
def tAug (i:Nat) (te:TE) (ti:TIp):TS:=fun D σ H=>∃ x,σ[i]? = some (some x)/\te σ H fun y H1=>ti x y H1 fun z H2=>D.nx (σ.set i (some z)) H2
theorem nh_ {i:Nat}{x:Str}{e:Expr}{te:TE}{op:Operator}{ti:TIp}{pos':Pos} (hN:X.N.Nodup) (hi:X.N[i]? = some x) (hx:Loc X.env.scope x) (he:PE X e te) (ho:PIp X op ti) (hf:X.fn x=true\/X.env.scope.names.lookup x=some .local:=by first | exact .inl rfl | exact .inr rfl | assumption) :
  PS X (.AugAssign (.Name x pos') op e pos) (tAug i te ti):=by
 intro zz s σ H D I h;obtain ⟨v,e1,h⟩:=h;obtain ⟨m,hn,hl⟩:=I.loc;have vis:Vis X.env.scope x:=by rcases hx with k | k;exact .inl k;exact .inr (.inl k)
 obtain ⟨u,r,l⟩:=hl i x v hi e1 vis;refine wpAny_AugAssign_Name ?_;have go:wpAny (model X.prog X.w) X.A (eval e X.env) (fun w s₂=>wpAny (model X.prog X.w) X.A (inplaceOp op u w) (fun r s₃=>wpAny (model X.prog X.w) X.A (storeName X.env x r) (fun _=>SP X zz D .next) X.xe s₃) X.xe s₂) X.xe s:=by
  refine thn (he zz s σ H _ I h) fun w s1 zq=>?_;refine x_22 zq fun y H1 I1 r1 q1=>?_;refine thn (ho zz s1 σ H1 v y u w _ I1 r r1 q1) fun z s2 zq=>?_;refine x_22 zq fun zv H2 I2 r2 q2=>?_;exact d6_ I2 hN hi hx r2 (fun s3 I3=>⟨_,H2,I3,q2⟩) hf
 rcases l with ⟨hk,hm⟩ | ⟨hk,c,hc,hcell⟩
 ·exact wpAny_loadName_local I.ok.kind hk hn hm go
 rcases hk with hk | hk
 ·exact wpAny_loadName_cell I.ok.kind hk hc hcell go
 rcases hx with k | k
 ·have:X.env.scope.names.lookup x=some .free:=hk
  rw [k] at this;cases this
 have:X.env.scope.names.lookup x=some .free:=hk;rw [k] at this;cases this
def ipI (f:Int->Int->Int):TIp:=fun x y H Q=>∃ i j,x = .int i/\y = .int j/\Q (.int (f i j)) H
theorem pR_:PIp X .Add (ipI fun i j=>i+j):=by
 intro zz s σ H x y v u Q I r1 r2 h;refine x_22 h fun i j e1 e2 q=>?_;subst e1;subst e2;obtain ⟨t,rfl⟩:=r1;obtain ⟨t',rfl⟩:=r2;exact iadd_int ⟨.int _,H,I.tok _,⟨_,rfl⟩,q⟩
theorem pQ_:PIp X .Sub (ipI fun i j=>i - j):=by
 intro zz s σ H x y v u Q I r1 r2 h;refine x_22 h fun i j e1 e2 q=>?_;subst e1;subst e2;obtain ⟨t,rfl⟩:=r1;obtain ⟨t',rfl⟩:=r2;exact isub_int ⟨.int _,H,I.tok _,⟨_,rfl⟩,q⟩
end
section
variable {X:Cx}{pos:Pos}
def mX_ (c:TT) (tb:TS):TS:=fun D σ H=>∃ W:Nat->St->Hp->Prop,(∃ m,W m σ H)/\∀ m σ H,W m σ H ->
 c σ H fun b H1=>if b=true then ∃ N:St->Hp->Prop,(∀ σ' H',N σ' H'->∃ m',m'<m/\W m' σ' H')/\tb { D with nx:=N,ct:=N,bk:=D.nx } σ H1 else D.nx σ H1
theorem cd_ {c:Expr}{body:List Stmt}{tc:TT}{tb:TS} (hp:PassesOwn (model X.prog X.w) X.A X.env X.xe) (hc:PT X c tc) (hb:PSs X body tb):PS X (.While c body [] pos) (mX_ tc tb):=by
 intro zz s σ H D I h;obtain ⟨W,⟨m0,w0⟩,turn⟩:=h;refine wpAny_While (codeAny_whileLoop (fun n s'=>∃ σ' H',Inv X zz σ' H' s'/\W n σ' H') ?_ m0 ⟨σ,H,I,w0⟩)
 rintro n s1 ⟨σ1,H1,I1,w1⟩
 refine wpAny_passesOwn hp (thn (hc zz s1 σ1 H1 _ I1 (turn n σ1 H1 w1)) fun b s2 ⟨H2,I2,q2⟩=>?_);cases b with
 | true =>
  obtain ⟨N,hN,q2⟩:=q2;rw [if_pos rfl];refine wpAny_passesOwn hp (thn (hb zz s2 σ1 H2 _ I2 q2) fun f s3 q3=>?_);cases f with
  | next =>
   refine x_21 q3 fun σ3 H3 I3 n3=>?_;obtain ⟨m',hm,w3⟩:=hN σ3 H3 n3;exact ⟨m',hm,σ3,H3,I3,w3⟩
  | cont =>
   refine x_21 q3 fun σ3 H3 I3 n3=>?_;obtain ⟨m',hm,w3⟩:=hN σ3 H3 n3;exact ⟨m',hm,σ3,H3,I3,w3⟩
  | brk=>exact q3
  | ret v=>exact q3
 | false =>
 rw [if_neg Bool.false_ne_true];exact wpAny_execs_nil ⟨σ1,H2,I2,q2⟩
end
structure It where
 go:Nat->Hp->Prop
 yld:Nat->Hp->V->Hp->Prop
 stop:Nat->Hp->Prop
def FpOk (X:Cx) (zz:zP) (H:Hp) (b:Addr):Prop :=
 H b=none/\b≠X.env.locals/\b∉X.fs/\(b∈X.ex\/X.s_0.heap.objs.size<=b)/\(∀ x c,X.env.cells.lookup x=some c->c≠b)/\∀ p∈X.pn++zz,p.1≠b
theorem Inv.fpOk {X:Cx}{zz:zP}{σ:St}{H H':Hp}{s:Shared}{b:Addr} (I:Inv X zz σ H s) (hb:s.heap.objs.size<=b) (hn:H' b=none):FpOk X zz H' b:=by
 refine ⟨hn,ne_of_gt (Nat.lt_of_lt_of_le I.lt hb),I.nofs hb,.inr (Nat.le_trans I.sz hb),fun x c e z=>?_,fun p hp z=>?_⟩
 ·obtain ⟨v,q⟩:=I.cell x c e
  exact absurd (Nat.lt_of_lt_of_le q.lt (by rw [z];exact hb)) (Nat.lt_irrefl _)
 exact absurd (Nat.lt_of_lt_of_le (lt_size (I.pin p hp).1) (by rw [z];exact hb)) (Nat.lt_irrefl _)
structure Turn (P:Program) (w:World) (K:Frag) (tg:Expr) (J:It) (fp:List Addr) (it:Addr) (tn:Nat->Heap->Prop):Prop where
 mem:it∈fp
 obj : ∀ i h,tn i h->∀ b∈fp,∃ o,h.get? b=some o/\∀ v,o.data ≠ .cell v
 keep : ∀ i h h',tn i h->(∀ b∈fp,∀ o,h.get? b=some o->h'.get? b=some o)->tn i h'
 item : ∀ (X:Cx),X.prog=P->X.w=w->X.K=K->X.calm=true->∀ (i:Nat) (zz:zP) (s:Shared) (σ:St) (H:Hp) (E:zQ),Inv X zz σ H s->(∀ b∈fp,FpOk X zz H b)->tn i s.heap->J.go i H ->
  wpAny (model P w) X.A (pyNext (.ref it)) (fun r s1=>∃ u,r=some u /\
   wpAny (model P w) X.A (letOwnedTupleGo tg (.ref it) u) (fun _ s2=>∃ x H',Inv X zz σ H' s2/\RelV x u/\J.yld i H x H'/\tn (i+1) s2.heap/\∀ b∈fp,H' b=none) E s1) E s
 done : ∀ (X:Cx),X.prog=P->X.w=w->X.K=K->X.calm=true->∀ (i:Nat) (zz:zP) (s:Shared) (σ:St) (H:Hp) (E:zQ),Inv X zz σ H s->(∀ b∈fp,FpOk X zz H b)->tn i s.heap->J.stop i H ->
  wpAny (model P w) X.A (pyNext (.ref it)) (fun r s1=>r=none/\Inv X zz σ H s1) E s
 self : ∀ (A:Around) (i:Nat) (s:Shared) (Q:zQ) (E:zQ),tn i s.heap->Q (.ref it) s->wpAny (model P w) A (pyIter (.ref it)) Q E s
abbrev TI:=St->Hp->(It->Hp->Prop)->Prop
def PIE (X:Cx) (zz:zP) (σ:St) (tg:Expr) (R:It->Hp->Prop) (itv:Value) (s2:Shared):Prop :=
 ∃ (it:Addr) (fp:List Addr) (tn:Nat->Heap->Prop) (J:It) (H':Hp),itv = .ref it/\Inv X zz σ H' s2/\Turn X.prog X.w X.K tg J fp it tn/\tn 0 s2.heap/\(∀ b∈fp,FpOk X zz H' b)/\R J H'
def PI (X:Cx) (tg iter:Expr) (wi:TI):Prop :=
 ∀ (zz:zP) (s:Shared) (σ:St) (H:Hp) (R:It->Hp->Prop),Inv X zz σ H s->wi σ H R ->
  wpAny (model X.prog X.w) X.A (eval iter X.env) (fun v s1=>wpAny (model X.prog X.w) X.A (pyIter v) (PIE X zz σ tg R) X.xe s1) X.xe s
theorem k9_ {M:Model}{A:Around}{E:zQ}{s:Shared}{tg:Expr}{it:Addr}{u:Value}{o:Obj}{n:String}{vs:Array Value}{Q:Unit->Shared->Prop} (ho:s.heap.get? it=some o) (hc:o.cls = .type n) (hd:o.data = .fields vs)
  (hn:["enumerate","zip","dict_itemiterator","dict_reverseitemiterator","odict_iterator","itertools.zip_longest","itertools.pairwise"].contains n=false) (hQ:Q () s):wpAny M A (letOwnedTupleGo tg (.ref it) u) Q E s:=by
 unfold letOwnedTupleGo;cases tg <;> first
  | exact wpAny_pure hQ
  | (cases u <;> first
    | exact wpAny_pure hQ
    | (refine wpAny_bind (wpAny_load ho ?_)
       rw [hc,hd];show wpAny M A (if (["enumerate","zip","dict_itemiterator","dict_reverseitemiterator","odict_iterator","itertools.zip_longest","itertools.pairwise"].contains n && vs[0]? == some (rawInt _))=true then _ else _) Q E s;rw [if_neg (by intro h;rw [hn,Bool.false_and] at h;cases h)];exact wpAny_pure hQ))
def Itl (K:Frag) (a:Addr):It :=
 ⟨fun i H=>∃ xs x,SqL K H a xs/\xs[i]? = some x,fun i H x H'=>H'=H/\∀ xs,SqL K H a xs->xs[i]? = some x,fun i H=>∃ xs,SqL K H a xs/\xs.length<=i⟩
def Itt (K:Frag) (a:Addr):It :=
 ⟨fun i H=>∃ xs x,SqT K H a xs/\xs[i]? = some x,fun i H x H'=>H'=H/\∀ xs,SqT K H a xs->xs[i]? = some x,fun i H=>∃ xs,SqT K H a xs/\xs.length<=i⟩
theorem gx_ {P:Program}{w:World}{K:Frag}{tg:Expr} (a it:Addr):Turn P w K tg (Itl K a) [it] it (fun i h=>h.IsListIter it a i) where
 mem:=by simp
 obj:=fun i h st b hb=>by
  have e:b=it:=by simpa using hb
  subst e;refine x_12 st fun o e c d=>?_;exact ⟨o,e,fun v z=>by rw [d] at z;cases z⟩
 keep:=fun i h h' st k=>st.at fun o e=>k it (by simp) o e
 item:=by
  intro X hP hw hK hc i zz s σ H E I hf st hg;subst hP hw hK;refine x_21 hg fun xs x hq hx=>?_;refine x_12 (I.list hq) fun zw rv p hz=>?_;obtain ⟨u,hu,ru⟩:=rv.get hx;obtain ⟨f0,f1,f2,f3,f4,f5⟩:=hf it (by simp);refine wpAny_pyNext_list_item st p.isList (x:=u) (by simpa using hu) fun h' st' sb=>?_;have I1:Inv X zz σ H { s with heap:=h' }:=I.turned (t':=s.toks) (fun b o hb e=>(sb.2 b hb).trans e) f0 f1 f3 f4 f5;refine x_12 (id st') fun o e c d=>?_;exact ⟨u,rfl,k9_ (s:={ s with heap:=h' }) e c d (by decide) ⟨x,H,I1,ru,⟨rfl,fun ys hy=>by rw [I.list_inj hy hq];exact hx⟩,st',fun b hb=>(hf b hb).1⟩⟩
 done:=by
  intro X hP hw hK hc i zz s σ H E I hf st hg;subst hP hw hK;obtain ⟨xs,hq,hx⟩:=hg;refine x_12 (I.list hq) fun zw rv p hz=>?_;obtain ⟨f0,f1,f2,f3,f4,f5⟩:=hf it (by simp);have hl:=rv.length;exact wpAny_pyNext_list_end (I.ok.hd hc) st p.isList (by simp;omega) fun h' eb=>⟨rfl,I.turned (t':=s.toks) (fun b o hb e=>eb b o hb e) f0 f1 f3 f4 f5⟩
 self:=fun _ _ _ _ _ st h=>wpAny_pyIter_listiter st h
theorem jf_ {P:Program}{w:World}{K:Frag}{tg:Expr} (a it:Addr):Turn P w K tg (Itt K a) [it] it (fun i h=>h.IsTupleIter it a i) where
 mem:=by simp
 obj:=fun i h st b hb=>by
  have e:b=it:=by simpa using hb
  subst e;refine x_12 st fun o e c d=>?_;exact ⟨o,e,fun v z=>by rw [d] at z;cases z⟩
 keep:=fun i h h' st k=>st.at fun o e=>k it (by simp) o e
 item:=by
  intro X hP hw hK hc i zz s σ H E I hf st hg;subst hP hw hK;refine x_21 hg fun xs x hq hx=>?_;refine x_12 (I.tuple hq) fun zw rv p hz=>?_;obtain ⟨u,hu,ru⟩:=rv.get hx;obtain ⟨f0,f1,f2,f3,f4,f5⟩:=hf it (by simp);refine wpAny_pyNext_tuple_item st (show s.heap.IsTuple a zw.toArray from p) (x:=u) (by simpa using hu) fun h' st' sb=>?_;have I1:Inv X zz σ H { s with heap:=h' }:=I.turned (t':=s.toks) (fun b o hb e=>(sb.2 b hb).trans e) f0 f1 f3 f4 f5;refine x_12 (id st') fun o e c d=>?_;exact ⟨u,rfl,k9_ (s:={ s with heap:=h' }) e c d (by decide) ⟨x,H,I1,ru,⟨rfl,fun ys hy=>by rw [I.tuple_inj hy hq];exact hx⟩,st',fun b hb=>(hf b hb).1⟩⟩
 done:=by
  intro X hP hw hK hc i zz s σ H E I hf st hg;subst hP hw hK;obtain ⟨xs,hq,hx⟩:=hg;refine x_12 (I.tuple hq) fun zw rv p hz=>?_;obtain ⟨f0,f1,f2,f3,f4,f5⟩:=hf it (by simp);have hl:=rv.length;exact wpAny_pyNext_tuple_end (I.ok.hd hc) st (show s.heap.IsTuple a zw.toArray from p) (by simp;omega) fun h' eb=>⟨rfl,I.turned (t':=s.toks) (fun b o hb e=>eb b o hb e) f0 f1 f3 f4 f5⟩
 self:=fun _ _ _ _ _ st h=>wpAny_pyIter_tupleiter st h
section
variable {X:Cx}{tg:Expr}
def mx_ (K:Frag) (tl:TE):TI:=fun σ H R=>tl σ H fun x H1=>∃ a,x = .ref a/\(∃ xs,SqL K H1 a xs)/\R (Itl K a) H1
def iTup (K:Frag) (tl:TE):TI:=fun σ H R=>tl σ H fun x H1=>∃ a,x = .ref a/\(∃ xs,SqT K H1 a xs)/\R (Itt K a) H1
theorem fQ_ {l:Expr}{tl:TE} (hl:PE X l tl):PI X tg l (mx_ X.K tl):=by
 intro zz s σ H R I h;refine thn (hl zz s σ H _ I h) fun v s1 zq=>?_;obtain ⟨x,H1,I1,r1,q1⟩:=zq;obtain ⟨a,e,⟨xs,hq⟩,q⟩:=q1;subst e;cases r1;refine x_12 (I1.list hq) fun zw rv p hz=>?_;refine wpAny_pyIter_list p.isList ?_;refine ⟨s1.heap.objs.size,[s1.heap.objs.size],_,_,H1,rfl,I1.kept (t':=s1.toks) fun b o e=>get?_push_of_some _ e,gx_ a _,⟨_,get?_push_size _ rfl,rfl,rfl⟩,fun b hb=>?_,q⟩;have e:b=s1.heap.objs.size:=by simpa using hb
 subst e;exact I1.fpOk (Nat.le_refl _) (I1.hok.fresh (Nat.le_refl _))
theorem pr_ {l:Expr}{tl:TE} (hl:PE X l tl):PI X tg l (iTup X.K tl):=by
 intro zz s σ H R I h;refine thn (hl zz s σ H _ I h) fun v s1 zq=>?_;obtain ⟨x,H1,I1,r1,q1⟩:=zq;obtain ⟨a,e,⟨xs,hq⟩,q⟩:=q1;subst e;cases r1;refine x_12 (I1.tuple hq) fun zw rv p hz=>?_;refine wpAny_pyIter_tuple (show s1.heap.IsTuple a zw.toArray from p) ?_;refine ⟨s1.heap.objs.size,[s1.heap.objs.size],_,_,H1,rfl,I1.kept (t':=s1.toks) fun b o e=>get?_push_of_some _ e,jf_ a _,⟨_,get?_push_size _ rfl,rfl,rfl⟩,fun b hb=>?_,q⟩;have e:b=s1.heap.objs.size:=by simpa using hb
 subst e;exact I1.fpOk (Nat.le_refl _) (I1.hok.fresh (Nat.le_refl _))
def tFor (wi:TI) (g:TG) (tb:TS):TS:=fun D σ H=>wi σ H fun J H1=>∃ W:Nat->Nat->St->Hp->Prop,(∃ m,W 0 m σ H1)/\∀ i m σ H,W i m σ H ->
 (J.stop i H/\D.nx σ H)\/(J.go i H/\∃ N:St->Hp->Prop,(∀ σ' H',N σ' H'->∃ m',m'<m/\W (i+1) m' σ' H')/\∀ x H',J.yld i H x H'->g x σ H' fun σ2 H2=>tb { D with nx:=N,ct:=N,bk:=D.nx } σ2 H2)
noncomputable def fg_ (fp:List Addr) (h:Heap):zP:=fp.filterMap fun b=>(h.get? b).map fun o=>(b,o)
theorem b4_ {fp:List Addr}{h:Heap}{b:Addr}{o:Obj} (hb:b∈fp) (e:h.get? b=some o):(b,o)∈fg_ fp h:=List.mem_filterMap.mpr ⟨b,hb,by rw [e];rfl⟩
theorem kJ_ {fp:List Addr}{h:Heap}{p:Addr×Obj} (hp:p∈fg_ fp h):p.1∈fp/\h.get? p.1=some p.2:=by
 obtain ⟨b,hb,e⟩:=List.mem_filterMap.mp hp;cases q:h.get? b with
 | none=>rw [q] at e;cases e
 | some o =>
 rw [q] at e;have e':(b,o)=p:=Option.some.inj e;subst e';exact ⟨hb,q⟩
theorem Inv.pinned {zz:zP}{σ:St}{H:Hp}{s:Shared}{fp:List Addr} (I:Inv X zz σ H s) (hf : ∀ b∈fp,FpOk X zz H b) (ho : ∀ b∈fp,∃ o,s.heap.get? b=some o/\∀ v,o.data ≠ .cell v):Inv X (zz++fg_ fp s.heap) σ H s :=
 I.pins_of fun p hp=>(mem_append.mp hp).elim (fun z=>I.pin p (mem_append_right _ z)) fun z=>by
  obtain ⟨hb,e⟩:=kJ_ z;refine x_03 (hf p.1 hb) fun f0 f1 f2 _=>?_;obtain ⟨o,e',d⟩:=ho p.1 hb;rw [e] at e';cases e';exact ⟨e,f0,f1,f2,d⟩
theorem Inv.unpinned {zz pl:zP}{σ:St}{H:Hp}{s:Shared} (I:Inv X (zz++pl) σ H s):Inv X zz σ H s:=I.pins_of fun p hp=>I.pin p (mem_append_right _ (mem_append_left _ hp))
theorem ez_ {iter:Expr}{body:List Stmt}{wi:TI}{g:TG}{tb:TS}{pos:Pos} (hp:PassesOwn (model X.prog X.w) X.A X.env X.xe) (hc:X.calm=true) (hi:PI X tg iter wi) (hg:PG X tg g) (hb:PSs X body tb)
  (hs : ∀ x,foldedSetIterable iter X.env x=pure x:=by intro _;rfl):PS X (.For tg iter body [] pos) (tFor wi g tb):=by
 intro zz s σ H D I h;refine wpAny_For (thn (hi zz s σ H _ I h) fun v s1 h1=>thn h1 fun itv s2 h2=>?_) hs;refine x_50 h2 fun it fp tn J H2 zy=>x_05 zy fun e I2 T st2 f2 zz0=>?_;refine x_11 zz0 fun W zn11 turn=>?_;obtain ⟨m0,w0⟩:=zn11;subst e;have stat : ∀ {H':Hp},(∀ b∈fp,H' b=none)->∀ b∈fp,FpOk X zz H' b:=fun hn b hb=>⟨hn b hb,(f2 b hb).2⟩;refine codeAny_forLoop_any (fun n s'=>∃ i σ' H',Inv X zz σ' H' s'/\tn i s'.heap/\(∀ b∈fp,H' b=none)/\W i n σ' H') ?_ m0 ⟨0,σ,H2,I2,st2,fun b hb=>(f2 b hb).1,w0⟩
 rintro n s3 ⟨i,σ3,H3,I3,st3,fr3,w3⟩
 rcases turn i n σ3 H3 w3 with ⟨stop,qn⟩ | ⟨go,N,hN,step⟩
 ·refine wpAny_passesOwn hp (thn (T.done X rfl rfl rfl hc i zz s3 σ3 H3 X.xe I3 (stat fr3) st3 stop) fun r s4 ⟨hr,I4⟩=>?_)
  subst hr;exact wpAny_execs_nil ⟨σ3,H3,I4,qn⟩
 refine wpAny_passesOwn hp (thn (T.item X rfl rfl rfl hc i zz s3 σ3 H3 X.xe I3 (stat fr3) st3 go) fun r s4 ⟨u,hr,h4⟩=>?_);subst hr;refine wpAny_passesOwn hp (thn h4 fun _ s5 zq=>?_);refine x_24 zq fun x H5 I5 r5 y5 st5 fr5=>?_;have I5':=I5.pinned (stat fr5) (T.obj _ _ st5);refine wpAny_passesOwn hp (thn (hg _ s5 σ3 H5 x u _ I5' r5 (step x H5 y5)) fun _ s6 ⟨σ6,H6,I6,q6⟩=>?_);refine wpAny_passesOwn hp (thn (hb _ s6 σ6 H6 _ I6 q6) fun f s7 q7=>?_);have again : ∀ {σ7:St}{H7:Hp},Inv X (zz++fg_ fp s5.heap) σ7 H7 s7->N σ7 H7->∃ m,m<n/\∃ i σ' H',Inv X zz σ' H' s7/\tn i s7.heap/\(∀ b∈fp,H' b=none)/\W i m σ' H':=fun {σ7 H7} I7 n7=>by
  obtain ⟨m',hm,w7⟩:=hN σ7 H7 n7;refine ⟨m',hm,i+1,σ7,H7,I7.unpinned,T.keep _ _ _ st5 fun b hb o e=>(I7.pin (b,o) (mem_append_right _ (mem_append_right _ (b4_ hb e)))).1,fun b hb=>?_,w7⟩;obtain ⟨o,e,d⟩:=T.obj _ _ st5 b hb;exact (I7.pin (b,o) (mem_append_right _ (mem_append_right _ (b4_ hb e)))).2.1
 cases f with
 | next=>obtain ⟨σ7,H7,I7,n7⟩:=q7;exact again I7 n7
 | cont=>obtain ⟨σ7,H7,I7,n7⟩:=q7;exact again I7 n7
 | brk=>obtain ⟨σ7,H7,I7,q7⟩:=q7;exact ⟨σ7,H7,I7.unpinned,q7⟩
 | ret v=>obtain ⟨x7,σ7,H7,I7,r7,q7⟩:=q7;exact ⟨x7,σ7,H7,I7.unpinned,r7,q7⟩
end
theorem mE_ {K:Frag}{a:Addr}{xs:List V}{g:TG}{tb:TS}{D:Ends}{σ:St}{H:Hp} (Pv:Nat->St->Hp->Prop) (h0:Pv 0 σ H) (hl : ∀ i σ H,i<=xs.length->Pv i σ H->SqL K H a xs)
  (hs : ∀ i x σ H,xs[i]? = some x->Pv i σ H->g x σ H fun σ2 H2=>tb { D with nx:=Pv (i+1),ct:=Pv (i+1),bk:=D.nx } σ2 H2) (hd : ∀ σ H,Pv xs.length σ H->D.nx σ H) :
  ∃ W:Nat->Nat->St->Hp->Prop,(∃ m,W 0 m σ H)/\∀ i m σ H,W i m σ H ->
   ((Itl K a).stop i H/\D.nx σ H)\/((Itl K a).go i H/\∃ N:St->Hp->Prop,(∀ σ' H',N σ' H'->∃ m',m'<m/\W (i+1) m' σ' H')/\∀ x H',(Itl K a).yld i H x H'->g x σ H' fun σ2 H2=>tb { D with nx:=N,ct:=N,bk:=D.nx } σ2 H2):=by
 refine ⟨fun i m σ H=>m=xs.length - i/\i<=xs.length/\Pv i σ H,⟨xs.length,by simp,zero_le _,h0⟩,?_⟩
 rintro i m σ H ⟨rfl,hi,p⟩
 have q:=hl i σ H hi p;by_cases hlt:i<xs.length
 ·refine .inr ⟨⟨xs,xs[i],q,by simp [hlt]⟩,Pv (i+1),fun σ' H' p'=>⟨xs.length - (i+1),by omega,rfl,hlt,p'⟩,fun x H' y=>?_⟩
  obtain ⟨e,y⟩:=y;subst e;exact hs i x σ _ (y xs q) p
 have e:i=xs.length:=by omega
 subst e;exact .inl ⟨⟨xs,q,Nat.le_refl _⟩,hd σ H p⟩
theorem oL_ {K:Frag}{a:Addr}{xs:List V}{g:TG}{tb:TS}{D:Ends}{σ:St}{H:Hp} (Pv:Nat->St->Hp->Prop) (h0:Pv 0 σ H) (hl : ∀ i σ H,i<=xs.length->Pv i σ H->SqT K H a xs)
  (hs : ∀ i x σ H,xs[i]? = some x->Pv i σ H->g x σ H fun σ2 H2=>tb { D with nx:=Pv (i+1),ct:=Pv (i+1),bk:=D.nx } σ2 H2) (hd : ∀ σ H,Pv xs.length σ H->D.nx σ H) :
  ∃ W:Nat->Nat->St->Hp->Prop,(∃ m,W 0 m σ H)/\∀ i m σ H,W i m σ H ->
   ((Itt K a).stop i H/\D.nx σ H)\/((Itt K a).go i H/\∃ N:St->Hp->Prop,(∀ σ' H',N σ' H'->∃ m',m'<m/\W (i+1) m' σ' H')/\∀ x H',(Itt K a).yld i H x H'->g x σ H' fun σ2 H2=>tb { D with nx:=N,ct:=N,bk:=D.nx } σ2 H2):=by
 refine ⟨fun i m σ H=>m=xs.length - i/\i<=xs.length/\Pv i σ H,⟨xs.length,by simp,zero_le _,h0⟩,?_⟩
 rintro i m σ H ⟨rfl,hi,p⟩
 have q:=hl i σ H hi p;by_cases hlt:i<xs.length
 ·refine .inr ⟨⟨xs,xs[i],q,by simp [hlt]⟩,Pv (i+1),fun σ' H' p'=>⟨xs.length - (i+1),by omega,rfl,hlt,p'⟩,fun x H' y=>?_⟩
  obtain ⟨e,y⟩:=y;subst e;exact hs i x σ _ (y xs q) p
 have e:i=xs.length:=by omega
 subst e;exact .inl ⟨⟨xs,q,Nat.le_refl _⟩,hd σ H p⟩
abbrev R2:=V->V->Hp->VK->Prop
def OpR (X:Cx) (f:Value->Value->Sem Value) (r:R2):Prop :=
 ∀ (zz:zP) (s:Shared) (σ:St) (H:Hp) (x y:V) (v u:Value) (Q:VK),Inv X zz σ H s->RelV x v->RelV y u->r x y H Q ->
  wpAny (model X.prog X.w) X.A (f v u) (EP X zz σ Q) X.xe s
def UnR (X:Cx) (f:Value->Sem Value) (r:V->Hp->VK->Prop):Prop :=
 ∀ (zz:zP) (s:Shared) (σ:St) (H:Hp) (x:V) (v:Value) (Q:VK),Inv X zz σ H s->RelV x v->r x H Q ->
  wpAny (model X.prog X.w) X.A (f v) (EP X zz σ Q) X.xe s
def gq_ (X:Cx) (f:Value) (r:List V->Hp->VK->Prop):Prop :=
 ∀ (zz:zP) (s:Shared) (σ:St) (H:Hp) (xs:List V) (us:List Value) (Q:VK),Inv X zz σ H s->Vals xs us->r xs H Q ->
  wpAny (model X.prog X.w) X.A (call f us) (EP X zz σ Q) X.xe s
def TruR (X:Cx) (r:V->Hp->(Bool->Hp->Prop)->Prop):Prop :=
 ∀ (zz:zP) (s:Shared) (σ:St) (H:Hp) (x:V) (v:Value) (Q:Bool->Hp->Prop),Inv X zz σ H s->RelV x v->r x H Q ->
  wpAny (model X.prog X.w) X.A (truthy v) (TP X zz σ Q) X.xe s
def tOp (r:R2) (ta tb:TE):TE:=fun σ H Q=>ta σ H fun x H1=>tb σ H1 fun y H2=>r x y H2 Q
def tUn (r:V->Hp->VK->Prop) (ta:TE):TE:=fun σ H Q=>ta σ H fun x H1=>r x H1 Q
def rI (C:Int->Int->Prop) (g:Int->Int->V):R2:=fun x y H Q=>∃ i j,x = .int i/\y = .int j/\C i j/\Q (g i j) H
def rI0 (g:Int->Int->V):R2:=fun x y H Q=>∃ i j,x = .int i/\y = .int j/\Q (g i j) H
def rU (g:Int->V):V->Hp->VK->Prop:=fun x H Q=>∃ i,x = .int i/\Q (g i) H
section
variable {X:Cx}{a b:Expr}{ta tb:TE}{pos:Pos}
theorem binT (ha:PE X a ta) (hb:PE X b tb) {zz:zP}{s:Shared}{σ:St}{H:Hp}{R:V->V->Hp->Prop} (I:Inv X zz σ H s)
  (h:ta σ H fun x H1=>tb σ H1 fun y H2=>R x y H2) {Q:zQ}{f:Value->Value->Sem Value}
  (hf : ∀ v u s2 x y H2,Inv X zz σ H2 s2->RelV x v->RelV y u->R x y H2->wpAny (model X.prog X.w) X.A (f v u) Q X.xe s2) :
  wpAny (model X.prog X.w) X.A (eval a X.env) (fun v s₁=>wpAny (model X.prog X.w) X.A (eval b X.env) (fun u s₂=>wpAny (model X.prog X.w) X.A (f v u) Q X.xe s₂) X.xe s₁) X.xe s:=by
 refine thn (ha zz s σ H _ I h) fun v s1 zq=>?_;refine x_22 zq fun x H1 I1 r1 q1=>?_;refine thn (hb zz s1 σ H1 _ I1 q1) fun u s2 zq=>?_;obtain ⟨y,H2,I2,r2,q2⟩:=zq;exact hf v u s2 x y H2 I2 r1 r2 q2
theorem bt_ {op:Operator}{r:R2} (ho:OpR X (binaryOp op) r) (ha:PE X a ta) (hb:PE X b tb):PE X (.BinOp a op b pos) (tOp r ta tb):=by
 intro zz s σ H Q I h;exact wpAny_BinOp (binT ha hb I h fun v u s2 x y H2 I2 rx ry q=>ho zz s2 σ H2 x y v u Q I2 rx ry q)
theorem hN_ {op:UnaryOp}{r:V->Hp->VK->Prop} (ho:UnR X (unaryOp op) r) (ha:PE X a ta):PE X (.UnaryOp op a pos) (tUn r ta):=by
 intro zz s σ H Q I h;exact UnaryOp_ (thn (ha zz s σ H _ I h) fun v s1 ⟨x,H1,I1,r1,q1⟩=>ho zz s1 σ H1 x v Q I1 r1 q1)
theorem opI {f:Value->Value->Sem Value}{C:Int->Int->Prop}{g:Int->Int->Int}
  (rule : ∀ (i j:Int) (t u:Tok) (s:Shared) (Q:zQ) (E:zQ),C i j->Q (.int (g i j) s.toks) { s with toks:=s.toks+1 }->wpAny (model X.prog X.w) X.A (f (.int i t) (.int j u)) Q E s) :
  OpR X f (rI C fun i j => .int (g i j)):=by
 intro zz s σ H x y v u Q I rx ry h;obtain ⟨i,j,rfl,rfl,hc,q⟩:=h;obtain ⟨t,rfl⟩:=rx;obtain ⟨t',rfl⟩:=ry;exact rule i j t t' s _ _ hc ⟨.int (g i j),H,I.tok _,⟨_,rfl⟩,q⟩
theorem opI0 {f:Value->Value->Sem Value}{g:Int->Int->Int}
  (rule : ∀ (i j:Int) (t u:Tok) (s:Shared) (Q:zQ) (E:zQ),Q (.int (g i j) s.toks) { s with toks:=s.toks+1 }->wpAny (model X.prog X.w) X.A (f (.int i t) (.int j u)) Q E s) :
  OpR X f (rI0 fun i j => .int (g i j)):=by
 intro zz s σ H x y v u Q I rx ry h;obtain ⟨i,j,rfl,rfl,q⟩:=h;obtain ⟨t,rfl⟩:=rx;obtain ⟨t',rfl⟩:=ry;exact rule i j t t' s _ _ ⟨.int (g i j),H,I.tok _,⟨_,rfl⟩,q⟩
theorem opB0 {f:Value->Value->Sem Value}{g:Int->Int->Bool}
  (rule : ∀ (i j:Int) (t u:Tok) (s:Shared) (Q:zQ) (E:zQ),Q (.bool (g i j)) s->wpAny (model X.prog X.w) X.A (f (.int i t) (.int j u)) Q E s) :
  OpR X f (rI0 fun i j => .bl (g i j)):=by
 intro zz s σ H x y v u Q I rx ry h;obtain ⟨i,j,rfl,rfl,q⟩:=h;obtain ⟨t,rfl⟩:=rx;obtain ⟨t',rfl⟩:=ry;exact rule i j t t' s _ _ ⟨.bl (g i j),H,I,rfl,q⟩
theorem cN_:OpR X (binaryOp .Add) (rI0 fun i j => .int (i+j)):=opI0 fun _ _ _ _ _ _ _ q=>add_int q
theorem fm_:OpR X (binaryOp .Sub) (rI0 fun i j => .int (i - j)):=opI0 fun _ _ _ _ _ _ _ q=>sub_int q
theorem px_:OpR X (binaryOp .Mod) (rI (fun _ j=>0<j) fun i j => .int (i % j)):=opI fun i j _ _ _ _ _ hc q=>by
 have h1:(0:Int)<j:=hc;exact mod_int' (by omega) (by rw [Int.fmod_eq_emod_of_nonneg i (by omega)];exact q)
theorem unI {f:Value->Sem Value}{g:Int->Int}
  (rule : ∀ (i:Int) (t:Tok) (s:Shared) (Q:zQ) (E:zQ),Q (.int (g i) s.toks) { s with toks:=s.toks+1 }->wpAny (model X.prog X.w) X.A (f (.int i t)) Q E s) :
  UnR X f (rU fun i => .int (g i)):=by
 intro zz s σ H x v Q I rx h;obtain ⟨i,rfl,q⟩:=h;obtain ⟨t,rfl⟩:=rx;exact rule i t s _ _ ⟨.int (g i),H,I.tok _,⟨_,rfl⟩,q⟩
theorem ek_:UnR X (unaryOp .USub) (rU fun i => .int (-i)):=unI fun _ _ _ _ _ q=>neg_int q
end
noncomputable def scal:V->V->Bool
 | .non,.non=>true | .non,.int _=>true | .int _,.non=>true | .non,.bl _=>true | .bl _,.non=>true | .non,.str _=>true | .str _,.non=>true
 | .int _,.int _=>true | .bl _,.bl _=>true | .str _,.str _=>true | .byt _,.byt _=>true
 | .int _,.str _=>true | .str _,.int _=>true | .bl _,.str _=>true | .str _,.bl _=>true
 | _,_=>false
def rEq:R2:=fun x y H Q=>scal x y=true/\Q (.bl (decide (x=y))) H
def rNe:R2:=fun x y H Q=>scal x y=true/\Q (.bl (!decide (x=y))) H
theorem ll_ {i j:Int}:decide (V.int i=V.int j)=(i == j):=by
 rw [Bool.eq_iff_iff];simp
theorem nx_ {i j:Bool}:decide (V.bl i=V.bl j)=(i == j):=by
 rw [Bool.eq_iff_iff];simp
theorem lk_ {i j:Str}:decide (V.str i=V.str j)=(i == j):=by
 rw [Bool.eq_iff_iff];simp
theorem lm_ {i j:Array UInt8}:decide (V.byt i=V.byt j)=(i.toList == j.toList):=by
 rw [Bool.eq_iff_iff];cases i;cases j;simp
section
variable {X:Cx}{a b c:Expr}{ta tb tc:TE}{pos:Pos}
theorem aQ_ {zz:zP}{σ:St}{H:Hp}{s:Shared}{Q:VK}{k k':Bool} (I:Inv X zz σ H s) (q:Q (.bl k) H) (e:k=k'):EP X zz σ Q (.bool k') s:=by
 subst e;exact ⟨.bl k,H,I,rfl,q⟩
theorem bD_:OpR X (compareOp .Eq) rEq:=by
 intro zz s σ H x y v u Q I rx ry h;obtain ⟨hs,q⟩:=h;cases x with
 | non =>
  cases rx;cases y with
  | non=>cases ry;exact PySem.EqNone.eq_none_none (aQ_ I q (by simp))
  | bl j=>cases ry;exact PySem.EqNone.eq_none_bool (aQ_ I q (by simp))
  | int j=>obtain ⟨t',rfl⟩:=ry;exact PySem.EqNone.eq_none_int (aQ_ I q (by simp))
  | str j=>obtain ⟨t',rfl⟩:=ry;exact PySem.EqNone.eq_none_str (aQ_ I q (by simp))
  | _=>exact absurd (show false=true from hs) Bool.false_ne_true
 | bl i =>
  cases rx;cases y with
  | non=>cases ry;exact PySem.EqNone.eq_bool_none (aQ_ I q (by simp))
  | bl j=>cases ry;exact eq_bool (aQ_ I q nx_)
  | str j=>obtain ⟨t',rfl⟩:=ry;exact PySem.EqMixed.eq_bool_str (aQ_ I q (by simp))
  | _=>exact absurd (show false=true from hs) Bool.false_ne_true
 | int i =>
  obtain ⟨t,rfl⟩:=rx;cases y with
  | non=>cases ry;exact PySem.EqNone.eq_int_none (aQ_ I q (by simp))
  | int j=>obtain ⟨t',rfl⟩:=ry;exact eq_int (aQ_ I q ll_)
  | str j=>obtain ⟨t',rfl⟩:=ry;exact PySem.EqMixed.eq_int_str (aQ_ I q (by simp))
  | _=>exact absurd (show false=true from hs) Bool.false_ne_true
 | str i =>
  obtain ⟨t,rfl⟩:=rx;cases y with
  | non=>cases ry;exact PySem.EqNone.eq_str_none (aQ_ I q (by simp))
  | bl j=>cases ry;exact PySem.EqMixed.eq_str_bool (aQ_ I q (by simp))
  | int j=>obtain ⟨t',rfl⟩:=ry;exact PySem.EqMixed.eq_str_int (aQ_ I q (by simp))
  | str j=>obtain ⟨t',rfl⟩:=ry;exact eq_str (aQ_ I q lk_)
  | _=>exact absurd (show false=true from hs) Bool.false_ne_true
 | byt i =>
  obtain ⟨t,rfl⟩:=rx;cases y with
  | byt j=>obtain ⟨t',rfl⟩:=ry;exact PySem.W.eq_bytes (aQ_ I q lm_)
  | _=>exact absurd (show false=true from hs) Bool.false_ne_true
 | _=>cases y <;> exact absurd (show false=true from hs) Bool.false_ne_true
theorem gX_:OpR X (compareOp .NotEq) rNe:=by
 intro zz s σ H x y v u Q I rx ry h;obtain ⟨hs,q⟩:=h;cases x with
 | non =>
  cases rx;cases y with
  | non=>cases ry;exact PySem.EqNone.ne_none_none (aQ_ I q (by simp))
  | bl j=>cases ry;exact PySem.EqNone.ne_none_bool (aQ_ I q (by simp))
  | int j=>obtain ⟨t',rfl⟩:=ry;exact PySem.EqNone.ne_none_int (aQ_ I q (by simp))
  | str j=>obtain ⟨t',rfl⟩:=ry;exact PySem.EqNone.ne_none_str (aQ_ I q (by simp))
  | _=>exact absurd (show false=true from hs) Bool.false_ne_true
 | bl i =>
  cases rx;cases y with
  | non=>cases ry;exact PySem.EqNone.ne_bool_none (aQ_ I q (by simp))
  | bl j=>cases ry;exact ne_bool (aQ_ I q (congrArg not nx_))
  | str j=>obtain ⟨t',rfl⟩:=ry;exact PySem.EqMixed.ne_bool_str (aQ_ I q (by simp))
  | _=>exact absurd (show false=true from hs) Bool.false_ne_true
 | int i =>
  obtain ⟨t,rfl⟩:=rx;cases y with
  | non=>cases ry;exact PySem.EqNone.ne_int_none (aQ_ I q (by simp))
  | int j=>obtain ⟨t',rfl⟩:=ry;exact ne_int (aQ_ I q (congrArg not ll_))
  | str j=>obtain ⟨t',rfl⟩:=ry;exact PySem.EqMixed.ne_int_str (aQ_ I q (by simp))
  | _=>exact absurd (show false=true from hs) Bool.false_ne_true
 | str i =>
  obtain ⟨t,rfl⟩:=rx;cases y with
  | non=>cases ry;exact PySem.EqNone.ne_str_none (aQ_ I q (by simp))
  | bl j=>cases ry;exact PySem.EqMixed.ne_str_bool (aQ_ I q (by simp))
  | int j=>obtain ⟨t',rfl⟩:=ry;exact PySem.EqMixed.ne_str_int (aQ_ I q (by simp))
  | str j=>obtain ⟨t',rfl⟩:=ry;exact ne_str (aQ_ I q (congrArg not lk_))
  | _=>exact absurd (show false=true from hs) Bool.false_ne_true
 | byt i =>
  obtain ⟨t,rfl⟩:=rx;cases y with
  | byt j=>obtain ⟨t',rfl⟩:=ry;exact PySem.W.ne_bytes (aQ_ I q (congrArg not lm_))
  | _=>exact absurd (show false=true from hs) Bool.false_ne_true
 | _=>cases y <;> exact absurd (show false=true from hs) Bool.false_ne_true
theorem hS_:OpR X (compareOp .Lt) (rI0 fun i j => .bl (decide (i<j))):=opB0 fun _ _ _ _ _ _ _ q=>lt_int q
theorem gY_:OpR X (compareOp .LtE) (rI0 fun i j => .bl (decide (i<=j))):=opB0 fun _ _ _ _ _ _ _ q=>le_int q
theorem hT_:OpR X (compareOp .Gt) (rI0 fun i j => .bl (decide (j<i))):=opB0 fun _ _ _ _ _ _ _ q=>gt_int q
theorem of_:OpR X (compareOp .GtE) (rI0 fun i j => .bl (decide (j<=i))):=opB0 fun _ _ _ _ _ _ _ q=>ge_int q
theorem ar_ (b:Expr) {op:CmpOp} (h:op ≠ .In:=by decide) (h2:op ≠ .NotIn:=by decide):behindInMarks op b=false:=by
 have e1:(op == CmpOp.In)=false:=by cases op <;> first | rfl | exact absurd rfl h
 have e2:(op == CmpOp.NotIn)=false:=by cases op <;> first | rfl | exact absurd rfl h2
 cases b <;> simp [behindInMarks,e1,e2]
theorem dD_ {op:CmpOp}{r:R2} (ho:OpR X (compareOp op) r) (ha:PE X a ta) (hb:PE X b tb) (hm:behindInMarks op b=false):PE X (.Compare a [op] [b] pos) (tOp r ta tb):=by
 intro zz s σ H Q I h;exact wpAny_Compare1 (binT ha hb I h fun v u s2 x y H2 I2 rx ry q=>ho zz s2 σ H2 x y v u Q I2 rx ry q) hm
def isB (x:V) (R:Bool->Prop):Prop:=match x with
 | .bl k=>R k
 | _=>False
theorem k3_ {x:V}{R:Bool->Prop} (h:isB x R) : ∃ k,x = .bl k/\R k:=by
 cases x with
 | bl k=>exact ⟨k,rfl,h⟩
 | _=>exact h.elim
def hG_ (t:TE):TT:=fun σ H Q=>t σ H fun x H'=>isB x fun k=>Q k H'
theorem am_ {op:CmpOp}{r:R2} (ho:OpR X (compareOp op) r) (ha:PE X a ta) (hb:PE X b tb) (hm:behindInMarks op b=false):PT X (.Compare a [op] [b] pos) (hG_ (tOp r ta tb)):=by
 intro zz s σ H Q I h;refine wpAny_isTrue_Compare1 (thn (ha zz s σ H _ I h) fun v s1 ⟨x,H1,I1,r1,q1⟩=>thn (hb zz s1 σ H1 _ I1 q1) fun u s2 ⟨y,H2,I2,r2,q2⟩ =>
  thn (ho zz s2 σ H2 x y v u _ I2 r1 r2 q2) fun c s3 ⟨z,H3,I3,r3,q3⟩=>?_) hm
 obtain ⟨k,e,q3⟩:=k3_ q3;subst e;cases r3;exact wpAny_truthy_bool ⟨H3,I3,q3⟩
def j0_ (r r':R2) (ta tb tc:TE):TE:=fun σ H Q=>ta σ H fun x H1=>tb σ H1 fun y H2=>r x y H2 fun z H3=>∃ k,z = .bl k /\
 (if k=true then tc σ H3 fun w' H4=>r' y w' H4 Q else Q (.bl false) H3)
theorem fT_ {op op':CmpOp}{r r':R2} (ho:OpR X (compareOp op) r) (ho':OpR X (compareOp op') r') (ha:PE X a ta) (hb:PE X b tb) (hc:PE X c tc)
  (hm:lastMarks [op,op'] [b,c]=false:=by with_unfolding_all rfl):PE X (.Compare a [op,op'] [b,c] pos) (j0_ r r' ta tb tc):=by
 intro zz s σ H Q I h;refine Compare_chain (thn (ha zz s σ H _ I h) fun v s1 ⟨x,H1,I1,r1,q1⟩=>chain_link (thn (hb zz s1 σ H1 _ I1 q1) fun u s2 ⟨y,H2,I2,r2,q2⟩ =>
  thn (ho zz s2 σ H2 x y v u _ I2 r1 r2 q2) fun d s3 ⟨z,H3,I3,r3,k,e,q3⟩=>?_)) hm
 subst e;cases r3;refine wpAny_truthy_bool ?_;cases k with
 | false=>exact ite_ff ⟨.bl false,H3,I3,rfl,q3⟩
 | true=>exact ite_tt (chain_last (thn (hc zz s3 σ H3 _ I3 q3) fun w' s4 ⟨z',H4,I4,r4,q4⟩=>ho' zz s4 σ H4 y z' u w' Q I4 r2 r4 q4))
theorem lZ_ {op op':CmpOp}{r r':R2} (ho:OpR X (compareOp op) r) (ho':OpR X (compareOp op') r') (ha:PE X a ta) (hb:PE X b tb) (hc:PE X c tc)
  (hm:lastMarks [op,op'] [b,c]=false:=by with_unfolding_all rfl):PT X (.Compare a [op,op'] [b,c] pos) (hG_ (j0_ r r' ta tb tc)):=by
 intro zz s σ H Q I h;refine isTrue_chain (thn (ha zz s σ H _ I h) fun v s1 ⟨x,H1,I1,r1,q1⟩=>test_link (thn (hb zz s1 σ H1 _ I1 q1) fun u s2 ⟨y,H2,I2,r2,q2⟩ =>
  thn (ho zz s2 σ H2 x y v u _ I2 r1 r2 q2) fun d s3 ⟨z,H3,I3,r3,k,e,q3⟩=>?_)) hm
 subst e;cases r3;refine wpAny_truthy_bool ?_;cases k with
 | false =>
  exact ite_ff ⟨H3,I3,q3⟩
 | true =>
 refine ite_tt (test_last (thn (hc zz s3 σ H3 _ I3 q3) fun w' s4 ⟨z',H4,I4,r4,q4⟩=>thn (ho' zz s4 σ H4 y z' u w' _ I4 r2 r4 q4) fun d' s5 zq=>?_));obtain ⟨z2,H5,I5,r5,q5⟩:=zq;obtain ⟨k2,e2,q5⟩:=k3_ q5;subst e2;cases r5;exact wpAny_truthy_bool ⟨H5,I5,q5⟩
def TruV (K:Frag) (x:V) (H:Hp) (k:Bool):Prop :=
 match x with
 | .non=>k=false
 | .bl b=>k=b
 | .int i=>k=(i != 0)
 | .str y=>y.length<=sizeLine/\k=((y.length:Int) != 0)
 | .byt y=>y.size<=sizeLine/\k=((y.size:Int) != 0)
 | .ref p=>(∃ xs,SqL K H p xs/\k = !xs.isEmpty)\/(∃ xs,SqT K H p xs/\k = !xs.isEmpty)\/∃ zu,H p=some (.dK zu)/\k = !zu.isEmpty
 | _=>False
theorem jB_ {κ:Type}{zu:List (κ×V)}{vs:List (κ×Value)} (r:KV zu vs):(!vs.isEmpty) = !zu.isEmpty:=by
 cases r <;> rfl
theorem fr_ {xs:List V}{zw:List Value} (r:Vals xs zw):(!zw.toArray.isEmpty) = !xs.isEmpty:=by
 cases r <;> simp
theorem dm_:(sizeLine:Nat)<2 ^ 63:=by rw [sizeLine_eq];decide
theorem o4_:TruR X (fun x H Q=>∃ k,TruV X.K x H k/\Q k H):=by
 intro zz s σ H x v Q I rx h;obtain ⟨k,e,q⟩:=h;have hl:=dm_;have hs:sizeLine=16777216:=sizeLine_eq;cases x with
 | non =>
  cases rx;have e':k=false:=e;subst e';exact truthy_none ⟨H,I,q⟩
 | bl b =>
  cases rx;have e':k=b:=e;subst e';exact wpAny_truthy_bool ⟨H,I,q⟩
 | int i =>
  obtain ⟨t,rfl⟩:=rx;have e':k=(i != 0):=e;subst e';exact PySem.P.truthy_int ⟨H,I,q⟩
 | str y =>
  obtain ⟨t,rfl⟩:=rx;obtain ⟨hy,e'⟩:y.length<=sizeLine/\k=((y.length:Int) != 0):=e;subst e';exact PySem.P.truthy_str (by omega) ⟨H,I.tok _,q⟩
 | byt y =>
  obtain ⟨t,rfl⟩:=rx;obtain ⟨hy,e'⟩:y.size<=sizeLine/\k=((y.size:Int) != 0):=e;subst e';exact PySem.W.truthy_bytes (by omega) ⟨H,I.tok _,q⟩
 | ref p =>
  cases rx;have e':(∃ xs,SqL X.K H p xs/\k = !xs.isEmpty)\/(∃ xs,SqT X.K H p xs/\k = !xs.isEmpty)\/∃ zu,H p=some (.dK zu)/\k = !zu.isEmpty:=e;rcases e' with ⟨xs,hx,e'⟩ | ⟨xs,hx,e'⟩ | ⟨zu,hx,e'⟩
  ·subst e'
   refine x_12 (I.list hx) fun zw r pl hz=>?_;have zp:=r.length;exact wpAny_truthy_list pl.isList (by simp only [size_toArray];omega) ⟨H,I.tok _,by rw [fr_ r];exact q⟩
  ·subst e'
   refine x_12 (I.tuple hx) fun zw r pl hz=>?_;have zp:=r.length;exact truthy_tuple pl (by simp only [size_toArray];omega) ⟨H,I.tok _,by rw [fr_ r];exact q⟩
  subst e';obtain ⟨hz,hS,vs,r,m⟩:zu.length<=sizeLine/\(p == sysModules)=false/\∃ vs,KV zu vs/\s.heap.DictOf (bK_ X.prog X.w) p vs:=I.hok p _ hx;have zp:zu.length=vs.length:=Paired.length r;exact wpAny_truthy_dict hS m (by omega) ⟨H,I.tok _,by rw [jB_ r];exact q⟩
 | _=>exact (show False from e).elim
theorem iD_ (ha:PE X a ta) (he : ∀ whole,isTrue a X.env whole=(do let v <- whole;standAt a.pos;holding [v] (truthy v))) :
  PT X a (fun σ H Q=>ta σ H fun x H'=>∃ k,TruV X.K x H' k/\Q k H'):=by
 intro zz s σ H Q I h;exact isTrue_plain (thn (ha zz s σ H _ I h) fun v s1 ⟨x,H1,I1,r1,q1⟩=>o4_ zz s1 σ H1 x v Q I1 r1 q1) (he _)
theorem bv_:OpR X (binaryOp .Add) (fun x y H Q=>∃ i j,x = .str i/\y = .str j/\i.length+j.length<=sizeLine/\Q (.str (i++j)) H):=by
 intro zz s σ H x y v u Q I rx ry h;refine x_23 h fun i j zr2 zr3 hz q=>?_;subst zr2;subst zr3;obtain ⟨t,rfl⟩:=rx;obtain ⟨t',rfl⟩:=ry;exact add_str (fun t' tk=>⟨.str (i++j),H,I.tok _,⟨_,rfl⟩,q⟩) hz
theorem jR_ {x:V}{us:List Value} (r:Vals [x] us) : ∃ u,us=[u]/\RelV x u:=by
 cases r with
 | cons r1 r2=>cases r2;exact ⟨_,rfl,r1⟩
theorem bO_:gq_ X (.type "str") (fun xs H Q=>∃ i,xs=[.int i]/\i.natAbs.log2<1920/\Q (.str (toString i)) H):=by
 intro zz s σ H xs us Q I r h;refine x_12 h fun i zr1 hz q=>?_;subst zr1;refine x_11 (jR_ r) fun u zr1 zz0=>?_;refine x_10 zz0 fun t zr3=>?_;subst zr1;subst zr3;exact PySem.P.str_of_int hz ⟨.str _,H,I.tok _,⟨_,rfl⟩,q⟩
theorem gj_:gq_ X (.builtin "ord") (fun xs H Q=>∃ x,xs=[.str x]/\x.length=1/\Q (.int (x.cps.getD 0 0:Nat)) H):=by
 intro zz s σ H xs us Q I r h;refine x_12 h fun x zr1 hz q=>?_;subst zr1;refine x_11 (jR_ r) fun u zr1 zz0=>?_;refine x_10 zz0 fun t zr3=>?_;subst zr1;subst zr3;exact ord_of_one hz ⟨.int _,H,I.tok _,⟨_,rfl⟩,q⟩
end
structure ObjM (h:Heap) (x dx C:Addr) (mA:zM):Prop where
 obj:h.get? x=some (instObj C dx)
 ns:h.Ns1 dx mA
 ne:dx≠x
theorem g9_ {h:Heap}{dx:Addr}{mA:zM} (n:h.Ns1 dx mA) : ∃ od,h.get? dx=some od/\∀ name,lookIn name od=some (mA name):=by
 refine x_34 n fun o es ep ho hd hk _ hm=>?_;refine ⟨o,ho,fun name=>?_⟩;have e:=hm name;unfold nsFind findBy at e;rw [<- Array.find?_toList] at e;unfold lookIn;rw [hd];dsimp only;split
 ·rename_i y q
  rw [q] at e;exact congrArg some e
 rename_i q;rw [q] at e;have a:es.toList.any (·.refKey)=false:=by
  rw [List.any_eq_false];intro y hy;obtain ⟨z,t,hkey⟩:=hk y (Array.mem_toList_iff.mp hy);simp [DictEntry.refKey,hkey]
 have a' : ¬ es.toList.any (·.refKey)=true:=by rw [a];exact Bool.false_ne_true
 rw [if_neg a'];exact congrArg some e
theorem ObjM.look {h:Heap}{x dx C:Addr}{mA:zM} (I:ObjM h x dx C mA) : ∃ od,PySem.W.InstAt h x (instObj C dx) C (some od)/\∀ name,lookIn name od=some (mA name) :=
 let ⟨od,ho,hl⟩:=g9_ I.ns
 ⟨od,⟨I.obj,rfl,rfl,ho⟩,hl⟩
section
variable {prog:Program}{w:World}{A:Around}{E:zQ}{s:Shared}{K:Frag}{x dx C f:Addr}{mA:zM}{name:Str}{v:Value}
theorem oJ_ {expr:Bool}{Q:zQ} (X:K.In s.heap) (I:ObjM s.heap x dx C mA) (hg:plainGet K C name=true) (hh:hasDictIn K C=true)
  (ha:PySem.W.findIn K (.ref C) name=some none) (hv:mA name=some v) (hv':PySem.W.handedIn v=true) (h:Q v { s with toks:=s.toks+1 }) :
  wpAny (model prog w) A (getAttr (.ref x) name expr) Q E s:=by
 obtain ⟨od,J,hl⟩:=I.look;exact PySem.W.get_value X J (PySem.W.plainGet_of hg).1 (PySem.W.findObj_own hh ha rfl (by rw [hl,hv])) hv' h
theorem mB_ {pl:Sem Bool}{Q:Value×List Value->Shared->Prop} (X:K.In s.heap) (I:ObjM s.heap x dx C mA) (hg:plainGet K C name=true)
  (hf:PySem.W.findIn K (.ref C) name=some (some (.ref f))) (ht:isFn K (.ref f)=true) (hv:mA name=none) (h:Q (.ref f,[.ref x]) s) :
  wpAny (model prog w) A (getMethod (.ref x) name pl) Q E s:=by
 obtain ⟨od,J,hl⟩:=I.look;exact PySem.W.method_fn X J (PySem.W.plainGet_of hg).1 (PySem.W.plainGet_of hg).2 hf (beq_iff_eq.mp ht) (by show (lookIn name od).map (·.isSome)=some false;rw [hl,hv];rfl) h
theorem nW_ {ns:List Str}{Q:Unit->Shared->Prop} (X:K.In s.heap) (I:ObjM s.heap x dx C mA)
  (hs:PySem.W.findIn K (.ref C) "__setattr__"=some (some (.builtin "object.__setattr__"))) (hp:PySem.W.plainOver K C=true) (ht:PySem.W.takerIn K C name=some none) (hh:hasDictIn K C=true)
  (hw:PySem.Within mA ns) (hsz:ns.length<=sizeLine)
  (h : ∀ h',ObjM h' x dx C (fun y=>if y=name then some v else mA y)->Heap.SameBut dx s.heap h'->Q () { s with heap:=h',toks:=s.toks+2 }) :
  wpAny (model prog w) A (setAttr (.ref x) name v) Q E s:=by
 obtain ⟨od,J,hl⟩:=I.look;refine PySem.W.set_plain X J hs (PySem.W.osa_open (s:={ s with toks:=s.toks+1 }) (r:=none) X J hp ht fun b=>?_);obtain ⟨cd,hc,hd'⟩:=PySem.W.any_some hh;have hx:s.heap.get? x=some ⟨.ref C,some dx,.plain,#[]⟩:=I.obj;refine wpAny_bind (wpAny_pure (wpAny_bind (wpAny_bind (wpAny_loadPart hx (wpAny_bind (PySem.W.Looks.here (s:={ s with toks:=s.toks+1 }) (looks_clsIn X hc) ?_))))));rw [hd'];refine wpAny_pure (a:=some dx) (wpAny_bind (wpAny_pure (wpAny_bind ?_)));refine wpAny_nsSet1 (s:={ s with toks:=s.toks+1 }) I.ns fun h' hn2 hs2=>?_;refine x_32 (hn2.count (PySem.Within.cons name v hw)) fun oD esD epD hoD hdD hcD=>?_;refine wpAny_bind (wpAny_lookBehind hoD (by rw [hdD];exact pastItsLine_dict (Nat.le_trans hcD (by rw [length_cons];omega))) ?_);exact wpAny_pure (h _ ⟨(hs2.2 _ (Ne.symm I.ne)).trans I.obj,hn2,I.ne⟩ hs2)
theorem mp_ {R:Result->Shared->Prop}{vs:List Value}{kw:List (Str×Value)} (X:K.In s.heap) (hm:PySem.W.makesIn K C=true)
  (hi:PySem.W.findIn K (.ref C) "__init__"=some (some (.ref f))) (hf:PySem.W.typeIn K (.ref f)=some (.type "function"))
  (h:codeAny (model prog w) (A.under (.builtin "type.__call__" ⟨.ref C::vs,kw⟩)) (.call (.ref f) ⟨.ref (s.heap.objs.size+1)::vs,kw⟩) (PySem.W.InitBack (s.heap.objs.size+1) R)
   { s with heap:=(s.heap.push emptyDict).push (instObj C s.heap.objs.size) }) :
  codeAny (model prog w) A (.call (.ref C) ⟨vs,kw⟩) R s:=by
 obtain ⟨hh,g,d,t,os⟩:=s;exact PySem.W.make_core (PySem.W.makes_of X hm) (looks_findIn X hi) (fun self=>PySem.W.bind_fn X self hf) (.inl rfl) h
end
def putF (f:Str) (v:V):List (Str×V)->List (Str×V)
 | []=>[(f,v)]
 | (g,x)::r=>if g=f then (g,v)::r else (g,x)::putF f v r
theorem cZ_ (f g:Str) (v:V) : ∀ fs:List (Str×V),(putF f v fs).lookup g=if g=f then some v else fs.lookup g
 | []=>by
  show List.lookup g [(f,v)]=_;by_cases h:g=f
  ·have hb:(g == f)=true:=beq_iff_eq.mpr h
   simp only [List.lookup,hb,if_pos h]
  have hb:(g == f)=false:=beq_eq_false_iff_ne.mpr h;simp only [List.lookup,hb,if_neg h]
 | (k,x)::r=>by
  have ih:=cZ_ f g v r;rw [show putF f v ((k,x)::r)=(if k=f then (k,v)::r else (k,x)::putF f v r) from rfl];by_cases hk:k=f
  ·rw [if_pos hk]
   by_cases h:g=k
   ·have hb:(g == k)=true:=beq_iff_eq.mpr h
    simp only [List.lookup,hb,if_pos (h.trans hk)]
   have hb:(g == k)=false:=beq_eq_false_iff_ne.mpr h;simp only [List.lookup,hb,if_neg (fun e:g=f=>h (e.trans hk.symm))]
  rw [if_neg hk];by_cases h:g=k
  ·have hb:(g == k)=true:=beq_iff_eq.mpr h
   simp only [List.lookup,hb,if_neg (fun e:g=f=>hk (h.symm.trans e))]
  have hb:(g == k)=false:=beq_eq_false_iff_ne.mpr h;simp only [List.lookup,hb];exact ih
theorem ct_ (f:Str) (v:V) : ∀ fs:List (Str×V),f∈(putF f v fs).map (·.1)/\∀ g,g∈fs.map (·.1)->g∈(putF f v fs).map (·.1)
 | []=>⟨by simp [putF],fun g h=>by simp at h⟩
 | (k,x)::r=>by
  obtain ⟨i1,i2⟩:=ct_ f v r;rw [show putF f v ((k,x)::r)=(if k=f then (k,v)::r else (k,x)::putF f v r) from rfl];by_cases hk:k=f
  ·rw [if_pos hk]
   subst hk;exact ⟨by simp,fun g h=>by simpa using h⟩
  rw [if_neg hk];refine ⟨?_,fun g h=>?_⟩
  ·rw [map_cons]
   exact mem_cons_of_mem _ i1
  rw [map_cons] at h ⊢;rcases mem_cons.mp h with e | e
  ·exact mem_cons.mpr (.inl e)
  exact mem_cons_of_mem _ (i2 g e)
theorem ch_ (f:Str) (v:V) : ∀ fs:List (Str×V),(putF f v fs).length<=fs.length+1
 | []=>by simp [putF]
 | (k,x)::r=>by
  have ih:=ch_ f v r;rw [show putF f v ((k,x)::r)=(if k=f then (k,v)::r else (k,x)::putF f v r) from rfl];by_cases hk:k=f
  ·rw [if_pos hk,length_cons,length_cons];omega
  rw [if_neg hk,length_cons,length_cons];omega
theorem RelO.some_of {v:V}{o:Option Value} (r:RelO (some v) o) : ∃ u,o=some u/\RelV v u:=by
 cases o with
 | none=>exact (show False from r).elim
 | some u=>exact ⟨u,rfl,r⟩
theorem RelO.none_of {o:Option Value} (r:RelO none o):o=none:=by
 cases o with
 | none=>rfl
 | some u=>exact (show False from r).elim
theorem hk_ {v:V}{u:Value} (r:RelV v u):PySem.W.handedIn u=true:=by
 cases v with
 | non=>cases (show u=Value.none from r);rfl
 | bl b=>cases (show u=Value.bool b from r);rfl
 | int i=>obtain ⟨t,e⟩:=(show ∃ t,u=Value.int i t from r);cases e;rfl
 | str x=>obtain ⟨t,e⟩:=(show ∃ t,u=Value.str x t from r);cases e;rfl
 | byt b=>obtain ⟨t,e⟩:=(show ∃ t,u=Value.bytes b t from r);cases e;rfl
 | flt b=>obtain ⟨t,e⟩:=(show ∃ t,u=Value.float b t from r);cases e;rfl
 | ref a=>cases (show u=Value.ref a from r);rfl
 | ty n=>cases (show u=Value.type n from r);rfl
section
variable {P:Program}{w:World}{H:Hp}{h:Heap}{a C dx:Addr}{fs:List (Str×V)}
theorem gb_ (hok:HOk P w H h) (e:H a=some (.ins C dx fs)) : ∃ mA,ObjM h a dx C mA/\(∀ f,RelO (fs.lookup f) (mA f))/\PySem.Within mA (fs.map (·.1))/\fs.length<=1000/\H dx=some (.own a):=by
 refine x_04 ((show bd_ P w H h a (.ins C dx fs) from hok a _ e)) fun d z ne ob zz0=>?_;refine x_12 zz0 fun mA n r q=>?_;exact ⟨mA,⟨ob,n,ne⟩,r,q,z,d⟩
end
structure Cls (K:Frag) (C:Addr):Prop where
 pg:plainGet K C Str.empty=true
 hd:hasDictIn K C=true
 po:PySem.W.plainOver K C=true
 sa:PySem.W.findIn K (.ref C) "__setattr__"=some (some (.builtin "object.__setattr__"))
theorem Cls.get {K:Frag}{C:Addr} (c:Cls K C) (f:Str):plainGet K C f=true:=c.pg
def ax_ (K:Frag) (C:Addr) (f:Str):Prop:=PySem.W.findIn K (.ref C) f=some none
theorem ax_.taker {K:Frag}{C:Addr}{f:Str} (n:ax_ K C f):PySem.W.takerIn K C f=some none:=by
 unfold PySem.W.takerIn;rw [show PySem.W.findIn K (.ref C) f=some none from n];rfl
structure Meth (K:Frag) (C:Addr) (m:Str) (f:Addr):Prop where
 at_:PySem.W.findIn K (.ref C) m=some (some (.ref f))
 fn:isFn K (.ref f)=true
 kp:keepIn K (.ref f)=true
section
variable {X:Cx}{zz:zP}{σ:St}{H:Hp}{s:Shared}{a C dx:Addr}{fs:List (Str×V)}{f:Str}{v:V}{A:Around}{E:zQ}
theorem ft_ {b:Bool}{Q:zQ} (I:Inv X zz σ H s) (e:H a=some (.ins C dx fs)) (c:Cls X.K C) (n:ax_ X.K C f) (l:fs.lookup f=some v)
  (h : ∀ u s',Inv X zz σ H s'->RelV v u->Q u s'):wpAny (model X.prog X.w) A (getAttr (.ref a) f b) Q E s:=by
 obtain ⟨mA,O,r,_,_,_⟩:=gb_ I.hok e;obtain ⟨u,hu,ru⟩:=RelO.some_of (v:=v) (o:=mA f) (by rw [<- l];exact r f);exact oJ_ I.kIn O (c.get f) c.hd n hu (hk_ ru) (h u _ (I.tok _) ru)
theorem fs_ {m:Str}{g:Addr}{pl:Sem Bool}{Q:Value×List Value->Shared->Prop} (I:Inv X zz σ H s) (e:H a=some (.ins C dx fs)) (c:Cls X.K C) (k:Meth X.K C m g) (l:fs.lookup m=none)
  (h:Q (.ref g,[.ref a]) s):wpAny (model X.prog X.w) A (getMethod (.ref a) m pl) Q E s:=by
 obtain ⟨mA,O,r,_,_,_⟩:=gb_ I.hok e;have hn:mA m=none:=RelO.none_of (by rw [<- l];exact r m);exact mB_ I.kIn O (c.get m) k.at_ k.fn hn h
theorem fc_ {y:V}{u:Value}{Q:Unit->Shared->Prop} (I:Inv X zz σ H s) (e:H a=some (.ins C dx fs)) (c:Cls X.K C) (n:ax_ X.K C f) (hl:fs.length<1000) (ry:RelV y u)
  (h : ∀ s',Inv X zz σ (upd H a (.ins C dx (putF f y fs))) s'->Q () s'):wpAny (model X.prog X.w) A (setAttr (.ref a) f u) Q E s:=by
 obtain ⟨mA,O,r,wi,_,ho⟩:=gb_ I.hok e;have hz:(fs.map (·.1)).length<=sizeLine:=by rw [length_map,sizeLine_eq];omega
 refine nW_ I.kIn O c.sa c.po n.taker c.hd wi hz fun h' O' sb=>h _ ?_;have hd : ∃ o,h'.get? dx=some o:=let ⟨o,_,_,e',_⟩:=O'.ns;⟨o,e'⟩;refine I.write (x:=a) (e:=dx) (by rw [e];exact True.intro) (.inr ho) (fun b q hb z=>(sb.2 b hb).trans z) hd ?_;refine ⟨by rw [ag_ O.ne];exact ho,?_,O.ne,O'.obj,_,O'.ns,fun g=>?_,fun g hg=>?_⟩
 ·have:=ch_ f y fs;omega
 ·show RelO ((putF f y fs).lookup g) (if g=f then some u else mA g)
  rw [cZ_];by_cases q:g=f
  ·rw [if_pos q,if_pos q];exact ry
  rw [if_neg q,if_neg q];exact r g
 by_cases q:g=f
 ·rw [q];exact (ct_ f y fs).1
 refine (ct_ f y fs).2 g (wi g fun z=>hg ?_);show (if g=f then some u else mA g)=none;rw [if_neg q];exact z
theorem Inv.made (I:Inv X zz σ H s):Inv X zz σ (upd (upd H s.heap.objs.size (.own (s.heap.objs.size+1))) (s.heap.objs.size+1) (.ins C s.heap.objs.size []))
  { s with heap:=(s.heap.push emptyDict).push (instObj C s.heap.objs.size) }:=by
 have e1:(s.heap.push emptyDict).get? s.heap.objs.size=some emptyDict:=get?_push_size s.heap rfl;have e2:((s.heap.push emptyDict).push (instObj C s.heap.objs.size)).get? (s.heap.objs.size+1)=some (instObj C s.heap.objs.size):=by
  have:=get?_push_size (s.heap.push emptyDict) (o:=instObj C s.heap.objs.size) rfl;rwa [size_push] at this
 have e3:(s.heap.push emptyDict).Ns s.heap.objs.size (fun _=>none):=⟨emptyDict,#[],_,e1,rfl,(fun e he=>absurd he (by simp)),fun _=>rfl⟩;have I1:=I.laid (a:=s.heap.objs.size) (o := .own (s.heap.objs.size+1)) (h':=s.heap.push emptyDict) (t':=s.toks) (fun b u q=>get?_push_of_some _ q) (Nat.le_refl _) ⟨_,e1⟩;refine I1.laid (a:=s.heap.objs.size+1) (o := .ins C s.heap.objs.size []) (t':=s.toks) (fun b u q=>get?_push_of_some _ q) (Nat.le_of_eq (size_push _ _)) ?_;have ne:s.heap.objs.size≠s.heap.objs.size+1:=Nat.ne_of_lt (lt_succ_self _);refine ⟨by rw [ag_ ne,af_],zero_le _,ne,e2,fun _=>none,(Heap.Ns1.of_empty e3).at fun o q=>get?_push_of_some _ q,fun _=>True.intro,fun y hy=>absurd rfl hy⟩
theorem ly_ {prog:Program}{w:World}{env:Env}{e:Expr}{f:Str}{pos:Pos}{s:Shared}{Q:zQ} (hb:attributeBase e f env (eval e env)=eval e env)
  (h:wpAny (model prog w) A (eval e env) (fun o s₁=>wpAny (model prog w) A (getAttr o f true) Q E s₁) E s):wpAny (model prog w) A (eval (.Attribute e f pos) env) Q E s :=
 Attribute_any_ h (by rw [arm_eval_Attribute,hb])
end
def tFld (K:Frag) (ta:TE) (f:Str):TE:=fun σ H Q=>ta σ H fun x H1=>∃ a C dx fs v,x = .ref a/\H1 a=some (.ins C dx fs)/\Cls K C/\ax_ K C f/\fs.lookup f=some v/\Q v H1
def sFld (K:Frag) (ta tv:TE) (f:Str):TS:=fun D σ H=>tv σ H fun y H1=>ta σ H1 fun x H2=>∃ a C dx fs,x = .ref a/\H2 a=some (.ins C dx fs)/\Cls K C/\ax_ K C f/\fs.length<1000 /\
 D.nx σ (upd H2 a (.ins C dx (putF f y fs)))
def InOp (X:Cx) (op:Operator) (rd:V->V->Hp->VK->Prop):Prop :=
 ∀ (zz:zP) (s:Shared) (σ:St) (H:Hp) (x y:V) (u v:Value) (Q:VK),Inv X zz σ H s->RelV x u->RelV y v->rd x y H Q->wpAny (model X.prog X.w) X.A (inplaceOp op u v) (EP X zz σ Q) X.xe s
def fN_ (K:Frag) (ta tv:TE) (rd:V->V->Hp->VK->Prop) (f:Str):TS:=fun D σ H=>ta σ H fun x H1=>∃ a C dx fs v,x = .ref a/\H1 a=some (.ins C dx fs)/\Cls K C/\ax_ K C f/\fs.lookup f=some v /\
 tv σ H1 fun y H2=>rd v y H2 fun z H3=>∃ dx' fs',H3 a=some (.ins C dx' fs')/\fs'.length<1000/\D.nx σ (upd H3 a (.ins C dx' (putF f z fs')))
section
variable {X:Cx}{o e value:Expr}{f:Str}{pos pos' tpos:Pos}{ta tv:TE}
theorem al_ (he:PE X e ta) (hb:attributeBase e f X.env (eval e X.env)=eval e X.env):PE X (.Attribute e f pos) (tFld X.K ta f):=by
 intro zz s σ H Q I h;refine ly_ hb (thn (he zz s σ H _ I h) fun u s1 zq=>?_);refine x_22 zq fun x H1 I1 rx zz0=>?_;refine x_50 zz0 fun a C dx fs v zy=>x_05 zy fun ex ea c n l q=>?_;subst ex;obtain rfl:u=Value.ref a:=rx;exact ft_ I1 ea c n l fun u' s2 I2 ru=>⟨v,H1,I2,ru,q⟩
theorem aZ_ (ha:PE X o ta) (hv:PE X value tv) (hs:swapsWith value (some (.Attribute o f pos')) pos.line X.env=pure false):PS X (.Assign [.Attribute o f pos'] value pos) (sFld X.K ta tv f):=by
 intro zz s σ H D I h;refine plainObj_wpAny_Assign_Attribute (thn (hv zz s σ H _ I h) fun u s1 ⟨y,H1,I1,ry,q⟩=>thn (ha zz s1 σ H1 _ I1 q) fun ov s2 zq=>?_) hs;refine x_22 zq fun x H2 I2 rx zz0=>?_;refine x_40 zz0 fun a C dx fs zy=>x_05 zy fun ex ea c n l q2=>?_;subst ex;obtain rfl:ov=Value.ref a:=rx;exact fc_ I2 ea c n l ry fun s3 I3=>⟨σ,_,I3,q2⟩
theorem eA_ {op:Operator}{rd:V->V->Hp->VK->Prop} (ha:PE X o ta) (hv:PE X value tv) (hop:InOp X op rd):PS X (.AugAssign (.Attribute o f tpos) op value pos) (fN_ X.K ta tv rd f):=by
 intro zz s σ H D I h;refine wpAny_AugAssign_AttributeAny (thn (ha zz s σ H _ I h) fun ov s1 zq=>?_);refine x_22 zq fun x H1 I1 rx zz0=>?_;refine x_50 zz0 fun a C dx fs v zy=>x_05 zy fun ex ea c n l q=>?_;subst ex;obtain rfl:ov=Value.ref a:=rx;refine ft_ I1 ea c n l fun u s2 I2 ru=>thn (hv zz s2 σ H1 _ I2 q) fun w3 s3 ⟨y,H2,I3,ry,q3⟩=>thn (hop zz s3 σ H2 v y u w3 _ I3 ru ry q3) fun w4 s4 zq=>?_;refine x_22 zq fun z H3 I4 rz zz0=>?_;refine x_22 zz0 fun dx' fs' ea' l' q4=>?_;exact fc_ I4 ea' c n l' rz fun s5 I5=>⟨σ,_,I5,q4⟩
def rAdd:V->V->Hp->VK->Prop:=fun x y H Q=>∃ i j,x = .int i/\y = .int j/\Q (.int (i+j)) H
def rSub:V->V->Hp->VK->Prop:=fun x y H Q=>∃ i j,x = .int i/\y = .int j/\Q (.int (i - j)) H
theorem np_:InOp X .Add rAdd:=by
 rintro zz s σ H x y u v Q I rx ry ⟨i,j,rfl,rfl,q⟩
 obtain ⟨t,rfl⟩:=(show ∃ t,u=Value.int i t from rx);obtain ⟨t',rfl⟩:=(show ∃ t',v=Value.int j t' from ry);exact PyProof.Rows.iadd_int ⟨.int (i+j),H,I.tok _,⟨_,rfl⟩,q⟩
theorem pT_:InOp X .Sub rSub:=by
 rintro zz s σ H x y u v Q I rx ry ⟨i,j,rfl,rfl,q⟩
 obtain ⟨t,rfl⟩:=(show ∃ t,u=Value.int i t from rx);obtain ⟨t',rfl⟩:=(show ∃ t',v=Value.int j t' from ry);exact PyProof.Rows.isub_int ⟨.int (i - j),H,I.tok _,⟨_,rfl⟩,q⟩
end
section
variable {X:Cx}{zz:zP}{σ:St}{H:Hp}{s:Shared}{A:Around}{E:zQ}{Q:zQ}{c:Value}{b:Bool}
inductive TyOf (K:Frag) (H:Hp):V->Value->Prop where
 | non:TyOf K H .non (.type "NoneType")
 | bl (x:Bool):TyOf K H (.bl x) (.type "bool")
 | int (i:Int):TyOf K H (.int i) (.type "int")
 | str (x:Str):TyOf K H (.str x) (.type "str")
 | flt (x:UInt64):TyOf K H (.flt x) (.type "float")
 | lst {a:Addr}{xs:List V} (e:H a=some (.lst xs)):TyOf K H (.ref a) (.type "list")
 | frz {a:Addr}{o:Obj}{xs:List V} (e:H a=some (.frz o (.lst xs))):TyOf K H (.ref a) (.type "list")
 | tup {a:Addr}{xs:List V} (e:H a=some (.tup xs)):TyOf K H (.ref a) (.type "tuple")
 | dK {a:Addr}{zu:List (Key×V)} (e:H a=some (.dK zu)):TyOf K H (.ref a) (.type "dict")
 | dT {a:Addr}{zu:List (List Key×V)} (e:H a=some (.dT zu)):TyOf K H (.ref a) (.type "dict")
 | ins {a C dx:Addr}{fs:List (Str×V)} (e:H a=some (.ins C dx fs)) (cl:Cls K C) (ha:PySem.W.findIn K (.ref C) "__class__"=some (some (.builtin "object.__class__")))
   (hn:PySem.W.specialIn K (.builtin "object.__class__") "__get__"=some (some (.builtin "getset_descriptor.__get__"))) (htk:PySem.W.takesIn K (.builtin "object.__class__")=some true)
   (hm:mroIn K C (.type "object")=some true):TyOf K H (.ref a) (.ref C)
theorem k2_ {x:V}{u t:Value} (I:Inv X zz σ H s) (rx:RelV x u) (ty:TyOf X.K H x t) (e:kitOne X.K t c=some b) (h : ∀ tk,Q (.bool b) { s with toks:=tk }) :
  wpAny (model X.prog X.w) A (call (.builtin "isinstance") [u,c]) Q E s:=by
 cases ty with
 | non=>cases (show u=Value.none from rx);exact kia_one PySem.W.kitx_none I.kIn True.intro e (fun z=>nomatch z) h
 | bl y=>cases (show u=Value.bool y from rx);exact kia_one PySem.W.kitx_bool I.kIn True.intro e (fun z=>nomatch z) h
 | int i=>obtain ⟨t,q⟩:=(show ∃ t,u=Value.int i t from rx);cases q;exact kia_one PySem.W.kitx_int I.kIn True.intro e (fun z=>nomatch z) h
 | str y=>obtain ⟨t,q⟩:=(show ∃ t,u=Value.str y t from rx);cases q;exact kia_one PySem.W.kitx_str I.kIn True.intro e (fun z=>nomatch z) h
 | flt y=>obtain ⟨t,q⟩:=(show ∃ t,u=Value.float y t from rx);cases q;exact kia_one PySem.W.kitx_float I.kIn True.intro e (fun z=>nomatch z) h
 | @lst a xs ea =>
  cases (show u=Value.ref a from rx);refine x_01 ((show bd_ X.prog X.w H s.heap a (.lst xs) from I.hok a _ ea)) fun _ zz0=>?_;refine x_21 zz0 fun _ n _ h1=>?_;exact kia_one PySem.W.kitx_list I.kIn ⟨_,h1,rfl⟩ e (fun z=>nomatch z) h
 | @frz a ob xs ea =>
  cases (show u=Value.ref a from rx);refine x_02 ((show bd_ X.prog X.w H s.heap a (.frz ob (.lst xs)) from I.hok a _ ea)) fun _ _ zz0=>?_;refine x_21 zz0 fun _ n _ h1=>?_;exact kia_one PySem.W.kitx_list I.kIn ⟨_,h1,rfl⟩ e (fun z=>nomatch z) h
 | @tup a xs ea =>
  cases (show u=Value.ref a from rx);refine x_01 ((show bd_ X.prog X.w H s.heap a (.tup xs) from I.hok a _ ea)) fun _ zz0=>?_;refine x_11 zz0 fun _ _ p=>?_;refine x_12 p fun o h1 h2 _=>?_;exact kia_one PySem.W.kitx_tuple I.kIn ⟨o,h1,h2⟩ e (fun z=>nomatch z) h
 | @dK a zu ea =>
  cases (show u=Value.ref a from rx);refine x_02 ((show bd_ X.prog X.w H s.heap a (.dK zu) from I.hok a _ ea)) fun _ _ zz0=>?_;refine x_11 zz0 fun vs _ p=>?_;refine x_32 p fun o es ep h1 h2 _=>?_;exact kia_one PySem.W.kitx_dict I.kIn ⟨o,h1,h2.1⟩ e (fun z=>nomatch z) h
 | @dT a zu ea =>
  cases (show u=Value.ref a from rx);refine x_02 ((show bd_ X.prog X.w H s.heap a (.dT zu) from I.hok a _ ea)) fun _ _ zz0=>?_;refine x_11 zz0 fun xs _ zz1=>?_;refine x_32 zz1 fun o es ep h1 h2 _=>?_;exact kia_one PySem.W.kitx_dict I.kIn ⟨o,h1,h2.1⟩ e (fun z=>nomatch z) h
 | @ins a C dx fs ea cl ha hn htk hm =>
 cases (show u=Value.ref a from rx);obtain ⟨mA,O,_⟩:=gb_ I.hok ea;obtain ⟨od,J,_⟩:=O.look;exact kia_one (PySem.W.kitx_own (cl.get _) cl.hd ha hn htk hm) I.kIn J e (fun z=>nomatch z) h
end
structure Room (k:Nat) (A:Around):Prop where
 hd:A.handled=none
 dp:A.depth+3 * k+5<recursionLimit
 un:A.units+16 * k+200<cLine
theorem Room.mono {j k:Nat}{A:Around} (r:Room k A) (h:j<=k):Room j A:=⟨r.hd,by have:=r.dp;omega,by have:=r.un;omega⟩
theorem Room.deeper {k:Nat}{A:Around} (r:Room (k+1) A) (env:Env):Room k (A.deeper env) :=
 ⟨r.hd,by have:=r.dp;show A.depth+1+3 * k+5<_;omega,by have:=r.un;show A.units+3+16 * k+200<_;omega⟩
theorem jv_ {A:Around}{C:Addr}{us:List Value}{kw:List (Str×Value)}:(A.under (.builtin "type.__call__" ⟨.ref C::us,kw⟩)).depth=A.depth+1:=by
 first | rfl | simp [Around.under,Code.weight,Code.isCreation,Code.isGuard,Code.isCaller,Code.frames,Code.isFrame,guardIds]
theorem ju_ {A:Around}{C:Addr}{us:List Value}{kw:List (Str×Value)}:(A.under (.builtin "type.__call__" ⟨.ref C::us,kw⟩)).units=A.units+1:=by
 first | rfl | simp [Around.under,Code.cUnits,Code.frames,Code.isFrame]
theorem Room.make {k:Nat}{A:Around} (r:Room (k+1) A) (C:Addr) (us:List Value) (kw:List (Str×Value)):Room k (A.under (.builtin "type.__call__" ⟨.ref C::us,kw⟩)) :=
 ⟨r.hd,by have:=r.dp;rw [jv_];omega,by have:=r.un;rw [ju_];omega⟩
theorem Room.depth {k:Nat}{A:Around} (r:Room k A):A.depth<recursionLimit:=by have:=r.dp;omega
theorem Room.units {k:Nat}{A:Around} (r:Room k A):A.units+64<cLine:=by have:=r.un;omega
def tNil:TA:=fun _ H Q=>Q [] H
def a1_ (ta:TE) (tr:TA):TA:=fun σ H Q=>ta σ H fun x H1=>tr σ H1 fun xs H2=>Q (x::xs) H2
section
variable {X:Cx}{e:Expr}{es:List Expr}{te:TE}{t:TA}{pos:Pos}
theorem ab_:PA X [] tNil:=fun _ _ _ _ H Q I h=>Calls.spliced_nil ⟨[],H,I,.nil,h⟩
theorem aa_ (ha:PE X e te) (hr:PA X es t) (hs:starEach (e::es) X.env=(false,eval e X.env)::starEach es X.env:=by rfl):PA X (e::es) (a1_ te t):=by
 intro pos zz s σ H Q I h;rw [hs];show wpAny _ _ (spliced ((false,eval e X.env)::backTo pos (starEach es X.env))) _ _ s;refine Calls.spliced_cons (thn (ha zz s σ H _ I h) fun u s1 zq=>?_);refine x_22 zq fun x H1 I1 r1 q1=>?_;exact thn (hr pos zz s1 σ H1 _ I1 q1) fun us s2 ⟨xs,H2,I2,r2,q2⟩=>⟨x::xs,H2,I2,.cons r1 r2,q2⟩
def tTup (t:TA):TE:=fun σ H Q=>t σ H fun xs H1=>xs.length<=sizeLine/\∀ p,H1 p=none->Q (.ref p) (upd H1 p (.tup xs))
def tLst (t:TA):TE:=fun σ H Q=>t σ H fun xs H1=>xs.length<=sizeLine/\∀ p,H1 p=none->Q (.ref p) (upd H1 p (.lst xs))
theorem kB_ {x1} (h:PA X es t):PE X (.Tuple es x1 pos) (tTup t):=by
 intro zz s σ H Q I hq;refine wpAny_Tuple_spliced (thn (h pos zz s σ H _ I hq) fun us s1 ⟨xs,H1,I1,r,z,q⟩=>⟨by rw [<- r.length];exact z,?_⟩);have hf:H1 s1.heap.objs.size=none:=I1.hok.fresh (Nat.le_refl _);refine ⟨.ref s1.heap.objs.size,upd H1 s1.heap.objs.size (.tup xs),I1.laid (t':=s1.toks) (fun b u e=>get?_push_of_some _ e) (Nat.le_refl _) ?_,rfl,q _ hf⟩;exact ⟨z,us,r,⟨_,get?_push_size _ rfl,rfl,_,rfl⟩⟩
theorem ap_ (h:PA X es t):PE X (.List es pos) (tLst t):=by
 intro zz s σ H Q I hq;refine wpAny_List_spliced (thn (h pos zz s σ H _ I hq) fun us s1 ⟨xs,H1,I1,r,z,q⟩=>⟨by rw [<- r.length];exact z,?_⟩);have hf:H1 s1.heap.objs.size=none:=I1.hok.fresh (Nat.le_refl _);refine ⟨.ref s1.heap.objs.size,upd H1 s1.heap.objs.size (.lst xs),I1.laid (t':=s1.toks) (fun b u e=>get?_push_of_some _ e) (Nat.le_refl _) ?_,rfl,q _ hf⟩;exact ⟨z,us,0,r,get?_push_size _ rfl⟩
end
abbrev Sp:=List V->Hp->VK->XK->Prop
abbrev CXT:=List Env->Hp->Shared->XK->Value->Shared->Prop
structure Env0 (P:Program) (w:World) (K:Frag) (mg:zM) (base:Heap) (A:Around) (outer:List Env) (s:Shared) (H:Hp):Prop where
 frames:A.frames=some outer
 mod:Mod K mg base
 bs : ∀ b o,base.get? b=some o->s.heap.get? b=some o/\H b=none
 bsz:base.objs.size<=s.heap.objs.size
 funs:s.heap.FunFrames base outer
 frf : ∀ b∈frs outer,H b=none
 hok:HOk P w H s.heap
 bare:AllBare s.gens
def CE (outer:List Env) (P:Program) (w:World) (H:Hp) (s:Shared) (Q:VK) (u:Value) (s':Shared):Prop :=
 ∃ v H',s'.os=s.os/\AllBare s'.gens/\Un (frs outer) [] H H' s.heap s'.heap/\HOk P w H' s'.heap/\RelV v u/\Q v H'
def CR (CX:CXT) (outer:List Env) (P:Program) (w:World) (H:Hp) (s:Shared) (Q:VK) (E:XK) (r:Result) (s':Shared):Prop :=
 match r with
 | .ok (.ret u)=>CE outer P w H s Q u s'
 | .ok _=>False
 | .error e=>CX outer H s E e s'
structure FnOk (P:Program) (w:World) (K:Frag) (mg:zM) (base:Heap) (CX:CXT) (k:Nat) (f:Addr) (fd:FuncData) (ps:List Str) (sp:Sp):Prop where
 len : ∀ vs H Q E,sp vs H Q E->vs.length=ps.length
 run : ∀ (A:Around) (outer:List Env) (s:Shared) (H:Hp) (args:Args) (us:List Value) (vs:List V) (Q:VK) (E:XK),Room k A->Env0 P w K mg base A outer s H->BindsTo s fd args (ps.zip us)->Vals vs us->sp vs H Q E ->
  codeAny (model P w) A (.call (.ref f) args) (CR CX outer P w H s Q E) s
theorem FnOk.mono {P:Program}{w:World}{K:Frag}{mg:zM}{base:Heap}{CX:CXT}{j k:Nat}{f:Addr}{fd:FuncData}{ps:List Str}{sp:Sp} (F:FnOk P w K mg base CX j f fd ps sp) (h:j<=k) :
  FnOk P w K mg base CX k f fd ps sp:=⟨F.len,fun A outer s H args us vs Q E hr=>F.run A outer s H args us vs Q E (hr.mono h)⟩
theorem Env0.make {P:Program}{w:World}{K:Frag}{mg:zM}{base:Heap}{A:Around}{outer:List Env}{s:Shared}{H:Hp} (e:Env0 P w K mg base A outer s H) (C:Addr) (us:List Value) (kw:List (Str×Value)) :
  Env0 P w K mg base (A.under (.builtin "type.__call__" ⟨.ref C::us,kw⟩)) outer s H:=⟨by first | exact e.frames | (simpa [Around.under,Code.envs,Code.isFrame,pushEnvs] using e.frames),e.mod,e.bs,e.bsz,e.funs,e.frf,e.hok,e.bare⟩
section
variable {X:Cx}{zz:zP}{σ:St}{H:Hp}{s s':Shared}
theorem Inv.env0 (I:Inv X zz σ H s):Env0 X.prog X.w X.K X.mg X.base X.A X.stack s H :=
 ⟨I.ok.frames,I.ok.mod,I.bs,Nat.le_trans I.ok.bsz I.sz,I.stack,I.stkFree,I.hok,I.bare⟩
theorem Inv.after {Q:VK}{u:Value} (I:Inv X zz σ H s) (h:CE X.stack X.prog X.w H s Q u s'):EP X zz σ Q u s':=by
 obtain ⟨v,H',os,bare,un,hok,r,q⟩:=h;obtain ⟨hh,g,d,t,os'⟩:=s';obtain rfl:os'=s.os:=os;exact ⟨v,H',I.call (h':=hh) (g':=g) (d':=d) (t':=t) (ch:=[]) un hok bare (fun b z=>absurd z (by simp)),r,q⟩
end
def cS_ (sp:Sp) (dvs:List V) (E:XK) (t:TA):TE:=fun σ H Q=>t σ H fun vs H1=>sp (vs++dvs) H1 Q E
def dx_ (C:Addr) (m:Str) (sp:Sp) (dvs:List V) (E:XK) (ta:TE) (t:TA):TE:=fun σ H Q=>ta σ H fun x H1=>∃ a dx fs,x = .ref a/\H1 a=some (.ins C dx fs)/\fs.lookup m=none /\
 t σ H1 fun vs H2=>sp (x::(vs++dvs)) H2 Q E
def db_ (C:Addr) (sp:Sp) (dvs:List V) (E:XK) (t:TA):TE:=fun σ H Q=>t σ H fun vs H1=>∀ x dx,H1 x=none->H1 dx=none->dx≠x ->
 sp (.ref x::(vs++dvs)) (upd (upd H1 dx (.own x)) x (.ins C dx [])) (fun v H2=>v = .non/\Q (.ref x) H2) E
def aY_ (K:Frag) (fd:FuncData) (ps:List Str) (ds:List Value):Prop :=
 ∀ (s:Shared) (us:List Value),K.In s.heap->(us++ds).length=ps.length->BindsTo s fd ⟨us,[]⟩ (ps.zip (us++ds))
theorem aY_.all {K:Frag}{fd:FuncData}{ps:List Str} (h : ∀ us:List Value,us.length=ps.length->bindArgs fd ⟨us,[]⟩=pure (ps.zip us)):aY_ K fd ps []:=fun s us _ hl=>by
 rw [append_nil] at hl ⊢;exact .of_eq (h us hl)
def bF_ (CX:CXT) (X:Cx) (E:XK):Prop:=∀ (zz:zP) (σ:St) (H:Hp) (s:Shared) (e:Value) (s':Shared),Inv X zz σ H s->CX X.stack H s E e s'->X.xe e s'
section
variable {X:Cx}{CX:CXT}{k:Nat}{f C:Addr}{fd:FuncData}{ps:List Str}{sp:Sp}{dvs:List V}{ds:List Value}{E:XK}{x m:Str}{p pos zt:Pos}{e o:Expr}{es:List Expr}{ta:TE}{t:TA}
theorem gN_ {zz:zP}{σ:St}{H:Hp}{s:Shared}{Q:VK}{us:List Value}{vs:List V} (F:FnOk X.prog X.w X.K X.mg X.base CX k f fd ps sp) (hr:Room k X.A) (hb:aY_ X.K fd ps ds) (hd:Vals dvs ds) (hx:bF_ CX X E)
  (I:Inv X zz σ H s) (r:Vals vs us) (h:sp (vs++dvs) H Q E):wpAny (model X.prog X.w) X.A (call (.ref f) us) (EP X zz σ Q) X.xe s:=by
 have r2:Vals (vs++dvs) (us++ds):=r.append hd;have hl:(us++ds).length=ps.length:=by rw [<- r2.length];exact F.len _ _ _ _ h
 refine wpAny_call (codeAny_mono (F.run X.A X.stack s H ⟨us,[]⟩ (us++ds) (vs++dvs) Q E hr I.env0 (hb s us I.kIn hl) r2 h) fun r s' hq=>?_);cases r with
 | error e=>exact hx zz σ H s e s' I hq
 | ok fl =>
 cases fl with
 | ret u=>exact I.after hq
 | next=>exact False.elim hq
 | brk=>exact False.elim hq
 | cont=>exact False.elim hq
theorem eB_ (F:FnOk X.prog X.w X.K X.mg X.base CX k f fd ps sp) (hr:Room k X.A) (hg:Gl X x) (hm:X.mg x=some (.ref f)) (hk:keepIn X.K (.ref f)=true) (hb:aY_ X.K fd ps ds) (hd:Vals dvs ds) (hx:bF_ CX X E)
  (ha:PA X (e::es) t) (hdb:(x == ("__debug__":Str))=false:=by decide) (he:starEach (e::es) X.env=(false,eval e X.env)::starEach es X.env:=by rfl) (hpl:(backTo pos (starEach es X.env)).any (·.1)=false:=by rfl) :
  PE X (.Call (.Name x p) (e::es) [] pos) (cS_ sp dvs E t):=by
 intro zz s σ H Q I h;refine wpAny_Call_Name_kw (c0_ I hg hm ?_ hdb);refine callWith_K (h₀:=X.base) I.ok.mod.kin hk (thn (ha pos zz s σ H _ I h) fun us s1 ⟨vs,H1,I1,r,q⟩=>⟨I1.kIn,?_⟩) he hpl;exact gN_ F hr hb hd hx I1 r q
theorem an_ {pl:Sem Bool} (he:PE X o ta) (c:Cls X.K C) (hm:Meth X.K C m f) (F:FnOk X.prog X.w X.K X.mg X.base CX k f fd ps sp) (hr:Room k X.A) (hb:aY_ X.K fd ps ds) (hd:Vals dvs ds) (hx:bF_ CX X E) (ha:PA X (e::es) t)
  (hst:starEach (e::es) X.env=(false,eval e X.env)::starEach es X.env:=by rfl) (hpl:(backTo pos (starEach es X.env)).any (·.1)=false:=by rfl)
  (ht:eval (.Call (.Attribute o m zt) (e::es) [] pos) X.env=(do
   let ov <- eval o X.env
   standAt zt.atName
   let (f,first) <- holding [ov] (getMethod ov m pl)
   callWith pos f first (backTo pos (starEach (e::es) X.env)) (backToKw pos (keywordEach [] X.env))):=by rfl) :
  PE X (.Call (.Attribute o m zt) (e::es) [] pos) (dx_ C m sp dvs E ta t):=by
 intro zz s σ H Q I h;refine PySem.W.methodCall_KW (pl:=pl) (thn (he zz s σ H _ I h) fun u s1 zq=>?_) ht;refine x_22 zq fun x H1 I1 rx zz0=>?_;refine x_33 zz0 fun a dx fs ex ea l q=>?_;subst ex;obtain rfl:u=Value.ref a:=rx;refine fs_ I1 ea c hm l ?_;refine callWith_K (first:=[.ref a]) (h₀:=X.base) I.ok.mod.kin hm.kp (thn (ha pos zz s1 σ H1 _ I1 q) fun us s2 ⟨vs,H2,I2,r,q2⟩=>⟨I2.kIn,?_⟩) hst hpl;exact gN_ (us := .ref a::us) (vs := .ref a::vs) F hr hb hd hx I2 (.cons rfl r) q2
theorem aW_ {pl:Sem Bool} (he:PE X o ta) (c:Cls X.K C) (hm:Meth X.K C m f) (F:FnOk X.prog X.w X.K X.mg X.base CX k f fd ps sp) (hr:Room k X.A) (hb:aY_ X.K fd ps ds) (hd:Vals dvs ds) (hx:bF_ CX X E)
  (ht:eval (.Call (.Attribute o m zt) [] [] pos) X.env=(do
   let ov <- eval o X.env
   standAt zt.atName
   let (f,first) <- holding [ov] (getMethod ov m pl)
   callWith pos f first (backTo pos (starEach [] X.env)) (backToKw pos (keywordEach [] X.env))):=by rfl) :
  PE X (.Call (.Attribute o m zt) [] [] pos) (dx_ C m sp dvs E ta tNil):=by
 intro zz s σ H Q I h;refine PySem.W.methodCall_KW (pl:=pl) (thn (he zz s σ H _ I h) fun u s1 zq=>?_) ht;refine x_22 zq fun x H1 I1 rx zz0=>?_;refine x_33 zz0 fun a dx fs ex ea l q=>?_;subst ex;obtain rfl:u=Value.ref a:=rx;refine fs_ I1 ea c hm l ?_;exact PySem.W.callWith_K0 (first:=[.ref a]) I1.kIn hm.kp (gN_ (us:=[.ref a]) (vs:=[.ref a]) F hr hb hd hx I1 (.cons rfl .nil) q)
structure Mk (K:Frag) (C f:Addr):Prop where
 makes:PySem.W.makesIn K C=true
 init:PySem.W.findIn K (.ref C) "__init__"=some (some (.ref f))
 fn:isFn K (.ref f)=true
 kp:keepIn K (.ref C)=true
theorem lW_ {zz:zP}{σ:St}{H:Hp}{s:Shared}{Q:VK}{us:List Value}{vs:List V} (M:Mk X.K C f) (F:FnOk X.prog X.w X.K X.mg X.base CX k f fd ps sp) (hr:Room (k+1) X.A) (hb:aY_ X.K fd ps ds) (hd:Vals dvs ds)
  (hx:bF_ CX X E) (I:Inv X zz σ H s) (r:Vals vs us)
  (h : ∀ x dx,H x=none->H dx=none->dx≠x->sp (.ref x::(vs++dvs)) (upd (upd H dx (.own x)) x (.ins C dx [])) (fun v H2=>v = .non/\Q (.ref x) H2) E) :
  wpAny (model X.prog X.w) X.A (call (.ref C) us) (EP X zz σ Q) X.xe s:=by
 have hq:=h (s.heap.objs.size+1) s.heap.objs.size (I.hok.fresh (le_succ _)) (I.hok.fresh (Nat.le_refl _)) (Nat.ne_of_lt (lt_succ_self _));have I2:=Inv.made (C:=C) I;have r2:Vals (V.ref (s.heap.objs.size+1)::(vs++dvs)) (Value.ref (s.heap.objs.size+1)::(us++ds)) := .cons rfl (r.append hd);have hl:(Value.ref (s.heap.objs.size+1)::us++ds).length=ps.length:=by
  have e:=r2.length;rw [F.len _ _ _ _ hq] at e;exact e.symm
 refine wpAny_call (mp_ (f:=f) I.kIn M.makes M.init (beq_iff_eq.mp M.fn) (codeAny_mono (F.run _ X.stack _ _ ⟨Value.ref (s.heap.objs.size+1)::us,[]⟩ (Value.ref (s.heap.objs.size+1)::(us++ds)) _ _ E (hr.make C us [])
  (I2.env0.make C us []) (hb _ (Value.ref (s.heap.objs.size+1)::us) I2.kIn hl) r2 hq) fun r s' hq'=>?_))
 cases r with
 | error e=>exact hx zz σ _ _ e s' I2 hq'
 | ok fl =>
 cases fl with
 | ret u =>
  refine x_23 (I2.after hq') fun v H' I3 rv ev q3=>?_;subst ev;exact ⟨rv,⟨V.ref (s.heap.objs.size+1),H',I3,rfl,q3⟩⟩
 | next=>exact False.elim hq'
 | brk=>exact False.elim hq'
 | cont=>exact False.elim hq'
theorem bC_ (M:Mk X.K C f) (F:FnOk X.prog X.w X.K X.mg X.base CX k f fd ps sp) (hr:Room (k+1) X.A) (hg:Gl X x) (hm:X.mg x=some (.ref C)) (hb:aY_ X.K fd ps ds) (hd:Vals dvs ds) (hx:bF_ CX X E)
  (ha:PA X (e::es) t) (hdb:(x == ("__debug__":Str))=false:=by decide) (he:starEach (e::es) X.env=(false,eval e X.env)::starEach es X.env:=by rfl) (hpl:(backTo pos (starEach es X.env)).any (·.1)=false:=by rfl) :
  PE X (.Call (.Name x p) (e::es) [] pos) (db_ C sp dvs E t):=by
 intro zz s σ H Q I h;refine wpAny_Call_Name_kw (c0_ I hg hm ?_ hdb);refine callWith_K (h₀:=X.base) I.ok.mod.kin M.kp (thn (ha pos zz s σ H _ I h) fun us s1 ⟨vs,H1,I1,r,q⟩=>⟨I1.kIn,?_⟩) he hpl;exact lW_ M F hr hb hd hx I1 r q
end
structure FnScope (N P:List Str) (sc:Scope):Prop where
 kind:sc.kind = .function
 co:sc.isCoroutine=false
 gen:sc.isGenerator=false
 nd:N.Nodup
 pre:N.take P.length=P
 par : ∀ x∈P,sc.names.lookup x=some .local\/sc.names.lookup x=some .cell
 nofree : ∀ y∈sc.names,y.2 ≠ .free
theorem ht_ {kindOf:Str->Option NameKind}{x:Str} : ∀ {binds:List (Str×Value)}{m:zM},(∀ v,(x,v)∉binds)->bindL kindOf binds m x=m x
 | [],_,_=>rfl
 | (n,v)::r,m,h=>by
  unfold bindL;rw [ht_ fun w hw=>h w (mem_cons_of_mem _ hw)];split
  ·have:x≠n:=by rintro rfl;exact h v mem_cons_self
   simp [this]
  rfl
theorem hv_ {kindOf:Str->Option NameKind}{x:Str} : ∀ {binds:List (Str×Value)}{m:zM},(∀ v,(x,v)∉binds)->bindC kindOf binds m x=m x
 | [],_,_=>rfl
 | (n,v)::r,m,h=>by
  unfold bindC;rw [hv_ fun w hw=>h w (mem_cons_of_mem _ hw)];split
  ·rfl
  have:x≠n:=by rintro rfl;exact h v mem_cons_self
  simp [this]
theorem hu_ {kindOf:Str->Option NameKind}{x:Str}{v:Value} : ∀ {P:List Str}{vs:List Value}{i:Nat}{m:zM},P.Nodup->P[i]? = some x->vs[i]? = some v->kindOf x=some .local ->
  bindL kindOf (P.zip vs) m x=some v
 | [],_,_,_,_,h,_,_=>by simp at h
 | _::_,[],_,_,_,_,h,_=>by simp at h
 | p::P,w::vs,0,m,nd,h1,h2,hk=>by
  simp at h1 h2;subst h1;subst h2;show bindL kindOf ((p,w)::P.zip vs) m p=_;unfold bindL;rw [ht_ fun v hv=>(nodup_cons.mp nd).1 (of_mem_zip hv).1,if_pos hk];simp
 | p::P,w::vs,i+1,m,nd,h1,h2,hk=>by
  show bindL kindOf ((p,w)::P.zip vs) m x=_;unfold bindL;exact hu_ (i:=i) (nodup_cons.mp nd).2 (by simpa using h1) (by simpa using h2) hk
theorem hw_ {kindOf:Str->Option NameKind}{x:Str}{v:Value} : ∀ {P:List Str}{vs:List Value}{i:Nat}{m:zM},P.Nodup->P[i]? = some x->vs[i]? = some v->kindOf x≠some .local ->
  bindC kindOf (P.zip vs) m x=some v
 | [],_,_,_,_,h,_,_=>by simp at h
 | _::_,[],_,_,_,_,h,_=>by simp at h
 | p::P,w::vs,0,m,nd,h1,h2,hk=>by
  simp at h1 h2;subst h1;subst h2;show bindC kindOf ((p,w)::P.zip vs) m p=_;unfold bindC;rw [hv_ fun v hv=>(nodup_cons.mp nd).1 (of_mem_zip hv).1,if_neg hk];simp
 | p::P,w::vs,i+1,m,nd,h1,h2,hk=>by
  show bindC kindOf ((p,w)::P.zip vs) m x=_;unfold bindC;exact hw_ (i:=i) (nodup_cons.mp nd).2 (by simpa using h1) (by simpa using h2) hk
def start (N:List Str) (vs:List V):St:=vs.map some++List.replicate (N.length - vs.length) none
noncomputable def cxOf (CX:CXT) (P:Program) (w:World) (K:Frag) (mg:zM) (base:Heap) (N:List Str) (qual:Str) (scope:Scope) (f:Addr) (cd:Value) (A:Around) (outer:List Env) (s:Shared) (H:Hp) (E:XK):Cx where
 prog:=P
 w:=w
 K:=K
 mg:=mg
 base:=base
 A:=A.deeper (envOfC qual scope s.heap.objs.size f cd)
 N:=N
 s_0:=s
 H_0:=H
 env:=envOfC qual scope s.heap.objs.size f cd
 outer:=outer
 stack:=envOfC qual scope s.heap.objs.size f cd::outer
 ex:=[]
 calm:=true
 fn:=fun _=>true
 pn:=[]
 xe:=fun e s'=>wpAny (model P w) (A.deeper (envOfC qual scope s.heap.objs.size f cd)) (leaving (envOfC qual scope s.heap.objs.size f cd) e) (fun _ s''=>CX outer H s E e s'') (fun e' s''=>CX outer H s E e' s'') s'
theorem jc_ {sc:Scope}{n:Nat}{x:Str} (h:sc.names.lookup x=some .cell) : ∃ c,(cellsFrom n sc.names []).lookup x=some c:=by
 have q:=PySem.W.cellsFrom_some sc.names n [] (.inl h);exact Option.isSome_iff_exists.mp q
theorem he_ {CX:CXT}{P:Program}{w:World}{K:Frag}{mg:zM}{base:Heap}{N ps:List Str}{qual:Str}{scope:Scope}{f:Addr}{cd:Value}{A:Around}{outer:List Env}{s s1:Shared}{H:Hp}{E:XK}{us:List Value}{vs:List V}
  (S:FnScope N ps scope) (hd:A.handled=none) (e0:Env0 P w K mg base A outer s H) (hl:vs.length=ps.length) (r:Vals vs us)
  (x:InCallC s s.heap.objs.size (bindL (envOfC qual scope s.heap.objs.size f cd).kindOf (ps.zip us) fun _=>none) (cellsFrom (s.heap.objs.size+1) scope.names []) (bindC (envOfC qual scope s.heap.objs.size f cd).kindOf (ps.zip us) fun _=>none) s1) :
  Inv (cxOf CX P w K mg base N qual scope f cd A outer s H E) [] (start N vs) H s1:=by
 have hpl:ps.length<=N.length:=by have:=congrArg List.length S.pre;rw [length_take] at this;omega
 refine x_21 x.done fun h1 tk zr2 hk=>?_;subst zr2;have noA : ∀ b:Addr,b∉(cxOf CX P w K mg base N qual scope f cd A outer s H E).ex:=fun b z=>absurd (show b∈([]:List Addr) from z) (by simp);refine ⟨⟨e0.mod,S.kind,rfl,rfl,Nat.le_refl _,fun y z c h1 h2=>?_,fun y hy=>?_,fun y c _ h=>?_,fun _=>hd,Around.frames_deeper e0.frames,.inr ⟨rfl,rfl⟩,fun b z=>absurd z (noA b),e0.bs,e0.bsz,fun b _ _=>noA b,fun b z=>absurd z (noA b),e0.funs,e0.frf⟩,
  rfl,e0.bare,Un.kept hk,⟨_,x.toInCall.ns,fun i y v h1 h2 h3=>?_⟩,fun y c h=>⟨_,x.cell y c h⟩,e0.hok.fresh (Nat.le_refl _),fun y c h=>?_,fun p hp=>absurd (show p∈([]:zP) from hp) (by simp),e0.hok.kept hk,?_⟩
 ·exact name_of_addr x.apart (PySem.mem_of_lookup h1) (PySem.mem_of_lookup h2)
 ·have hy:scope.names.lookup y=some .cell\/scope.names.lookup y=some .free:=hy
  rcases hy with hy | hy
  ·exact jc_ hy
  exact absurd rfl (S.nofree _ (PySem.mem_of_lookup hy))
 ·exact Nat.le_of_lt (x.above y c (PySem.mem_of_lookup h))
 ·have hi:i<vs.length:=by
   unfold start at h2;by_cases hi:i<vs.length
   ·exact hi
   rw [getElem?_append_right (by simpa using hi)] at h2;rw [List.getElem?_replicate] at h2;split at h2 <;> cases h2
  have ha:vs[i]? = some v:=by
   unfold start at h2;rw [List.getElem?_append_left (by simpa using hi),getElem?_map] at h2;cases e:vs[i]? with
   | none=>rw [e] at h2;cases h2
   | some a=>rw [e] at h2;cases h2;rfl
  obtain ⟨u,hu,rv⟩:=r.get ha;have hp:ps[i]? = some y:=by
   rw [<- S.pre,List.getElem?_take_of_lt (by omega)];exact h1
  have ndP:ps.Nodup:=by rw [<- S.pre];exact S.nd.sublist (List.take_sublist _ _)
  refine ⟨u,rv,?_⟩;rcases S.par y (mem_of_getElem? hp) with k | k
  ·exact .inl ⟨k,hu_ ndP hp hu k⟩
  obtain ⟨c,e⟩:=jc_ (n:=s.heap.objs.size+1) k;refine .inr ⟨.inl k,c,e,?_⟩;have q:=x.cell y c e;rw [hw_ ndP hp hu (by show scope.names.lookup y≠_;rw [k];decide)] at q;exact q
 ·exact e0.hok.fresh (Nat.le_of_lt (x.above y c (PySem.mem_of_lookup h)))
 unfold start;show _=N.length;rw [length_append,length_map,List.length_replicate];omega
theorem oM_ {CX:CXT}{P:Program}{w:World}{K:Frag}{mg:zM}{base:Heap}{k:Nat}{f:Addr}{name qual:Str}{params:Arguments}{body:List Stmt}{scope:Scope}{dV kV doc pm cdv ct oc:Value}{an od:Option Addr}
  {osl:Array (Option Value)}{N ps:List Str}{sp:Sp} (lk:K.lookup f=some ⟨oc,od,.func (fnOf name qual params body scope dV kV doc pm an cdv ct),osl⟩) (hcd:codeIn K cdv qual=true) (S:FnScope N ps scope)
  (len : ∀ vs H Q E,sp vs H Q E->vs.length=ps.length)
  (hbody : ∀ (A:Around) (outer:List Env) (s:Shared) (H:Hp) (vs:List V) (Q:VK) (E:XK),Room k (A.deeper (envOfC qual scope s.heap.objs.size f cdv))->sp vs H Q E ->
   ∃ t,PSs (cxOf CX P w K mg base N qual scope f cdv A outer s H E) body t/\t { nx:=fun _ H'=>Q .non H',rt:=Q } (start N vs) H) :
  FnOk P w K mg base CX (k+1) f (fnOf name qual params body scope dV kV doc pm an cdv ct) ps sp:=by
 refine ⟨len,fun A outer s H args us vs Q E hr e0 hb r hsp=>?_⟩;have hl:=len _ _ _ _ hsp;have KX:K.In s.heap:=e0.mod.kin.keeps fun b o e=>(e0.bs b o e).1;have lim:s.heap.NoLimit:=e0.mod.nolimit.keeps fun b o e=>(e0.bs b o e).1;have hkind : ∀ y∈ps.zip us,scope.names.lookup y.1=some .local\/(scope.names.lookup y.1=some .cell/\((cellsFrom (s.heap.objs.size+1) scope.names []).lookup y.1).isSome=true):=fun ⟨n,v⟩ hy=>by
  rcases S.par n (of_mem_zip hy).1 with q | q
  ·exact .inl q
  exact .inr ⟨q,PySem.W.cellsFrom_some _ _ _ (.inl q)⟩
 refine codeAny_call_function hr.depth (KX _ _ lk) rfl S.co S.gen rfl (PySem.W.codeRec_of KX hcd) (hb _ _ _ _ ?_);refine wpAny_newFunctionEnv_cells S.kind hkind fun env he s1 x=>?_;subst he;refine ⟨lim.keeps x.toInCall.keep,codeAny_func ?_⟩;obtain ⟨t,ht,hq⟩:=hbody A outer s H vs Q E (hr.deeper _) hsp;have I:Inv (cxOf CX P w K mg base N qual scope f cdv A outer s H E) [] (start N vs) H s1:=he_ S hr.hd e0 hl r x;refine wpAny_mono (ht [] s1 (start N vs) H _ I hq) (fun fl s' hs=>?_) fun e s' hs=>hs;have fin : ∀ {σ':St}{H':Hp}{v:V}{u:Value},Inv (cxOf CX P w K mg base N qual scope f cdv A outer s H E) [] σ' H' s'->RelV v u->Q v H'->CE outer P w H s Q u s' :=
  fun {σ' H' v u} J rv q=>⟨v,H',J.os,J.bare,J.base,J.hok,rv,q⟩
 cases fl with
 | ret u =>
  refine x_32 hs fun v σ' H' J rv q=>?_;exact fin J rv q
 | next =>
  refine x_21 hs fun σ' H' J q=>?_;exact fin (v:=V.non) (u:=Value.none) J rfl q
 | brk =>
  refine x_21 hs fun _ _ _ q=>?_;exact False.elim q
 | cont =>
 refine x_21 hs fun _ _ _ q=>?_;exact False.elim q
section
variable {X:Cx}{x:Str}{p pos:Pos}{e:Expr}{es:List Expr}{t:TA}{id T:String}{r:List V->Hp->VK->Prop}
def tCB (r:List V->Hp->VK->Prop) (t:TA):TE:=fun σ H Q=>t σ H fun vs H1=>r vs H1 Q
theorem aB_ (hc:gq_ X (.builtin id) r) (hg:Gl X x) (hm:X.mg x=none) (hv:bootBuiltins x=some (.builtin id)) (ha:PA X (e::es) t) (hn:x≠"__name__":=by decide) (hdb:(x == ("__debug__":Str))=false:=by decide)
  (he:starEach (e::es) X.env=(false,eval e X.env)::starEach es X.env:=by rfl) (hpl:(backTo pos (starEach es X.env)).any (·.1)=false:=by rfl):PE X (.Call (.Name x p) (e::es) [] pos) (tCB r t):=by
 intro zz s σ H Q I h;refine wpAny_Call_Name_kw (dS_ I hg hm hv ?_ hn hdb);exact PyProof.Rows.callWith_builtin1 (thn (ha pos zz s σ H _ I h) fun us s1 ⟨vs,H1,I1,r1,q1⟩=>hc zz s1 σ H1 vs us Q I1 r1 q1) he hpl
theorem bp_ (hc:gq_ X (.type T) r) (hg:Gl X x) (hm:X.mg x=none) (hv:bootBuiltins x=some (.type T)) (ha:PA X (e::es) t) (hn:x≠"__name__":=by decide) (hdb:(x == ("__debug__":Str))=false:=by decide)
  (he:starEach (e::es) X.env=(false,eval e X.env)::starEach es X.env:=by rfl) (hpl:(backTo pos (starEach es X.env)).any (·.1)=false:=by rfl):PE X (.Call (.Name x p) (e::es) [] pos) (tCB r t):=by
 intro zz s σ H Q I h;refine wpAny_Call_Name_kw (dS_ I hg hm hv ?_ hn hdb);exact PyProof.Rows.callWith_type1 (thn (ha pos zz s σ H _ I h) fun us s1 ⟨vs,H1,I1,r1,q1⟩=>hc zz s1 σ H1 vs us Q I1 r1 q1) he hpl
end
end L2
namespace HT
open PySem PyProof.Rows
def sIx (n d:Nat):Option Int->Nat
 | none=>d
 | some v=>if v<0 then (v+(n:Int)).toNat else min v.toNat n
theorem sIx_none (n d:Nat):sIx n d none=d:=rfl
theorem sIx_nat (n d k:Nat):sIx n d (some (k:Int))=min k n:=by
 show (if (k:Int)<0 then ((k:Int)+(n:Int)).toNat else min (k:Int).toNat n)=min k n;rw [if_neg (by omega),Int.toNat_natCast]
theorem sIx_le (n d:Nat) (hd:d<=n) (o:Option Int):sIx n d o<=n:=by
 cases o with
 | none=>exact hd
 | some v =>
 show (if v<0 then (v+(n:Int)).toNat else min v.toNat n)<=n;by_cases hv:v<0
 ·rw [if_pos hv];omega
 rw [if_neg hv];exact Nat.min_le_right _ _
end HT
namespace L2
open PySem PySem.Spec PyProof.Rows
abbrev TO:=St->Hp->(Option Int->Hp->Prop)->Prop
def PO (X:Cx) (e:Option Expr) (t:TO):Prop :=
 ∀ (zz:zP) (s:Shared) (σ:St) (H:Hp) (Q:Option Int->Hp->Prop),Inv X zz σ H s->t σ H Q ->
  wpAny (model X.prog X.w) X.A (evalPart e X.env) (fun u s'=>∃ o H',Inv X zz σ H' s'/\IsPart u o/\Q o H') X.xe s
def fG_:TO:=fun _ H Q=>Q none H
def lL_ (t:TE):TO:=fun σ H Q=>t σ H fun x H1=>∃ i,x = .int i/\Q (some i) H1
section
variable {X:Cx}{e:Expr}{te:TE}{lo hi:Option Expr}{tl th:TO}{pos p2:Pos}
theorem ce_:PO X none fG_:=by
 intro zz s σ H Q I h;rw [evalPart_none];exact wpAny_pure ⟨none,H,I,.none,h⟩
theorem a9_ (h:PE X e te):PO X (some e) (lL_ te):=by
 intro zz s σ H Q I hw;rw [evalPart_some];refine thn (h zz s σ H _ I hw) fun u s1 zq=>?_;refine x_22 zq fun x H1 I1 r1 q1=>?_;obtain ⟨i,rfl,q⟩:=q1;obtain ⟨t,rfl⟩:=r1;exact ⟨some i,H1,I1,.int i t,q⟩
def SlR (X:Cx) (r:V->Option Int->Option Int->Hp->VK->Prop):Prop :=
 ∀ (zz:zP) (s:Shared) (σ:St) (H:Hp) (x:V) (v vl vu:Value) (lo hi:Option Int) (sl:Addr) (Q:VK),Inv X zz σ H s->RelV x v->s.heap.IsSliceOf sl vl vu .none->IsPart vl lo->IsPart vu hi->r x lo hi H Q ->
  ∃ T id,typeLookup (.type T) "__getitem__"=pure (some (.builtin id))/\s.TypeIs v T/\wpAny (model X.prog X.w) X.A (getItem v (.ref sl)) (EP X zz σ Q) X.xe s
def tSl (r:V->Option Int->Option Int->Hp->VK->Prop) (te:TE) (tl th:TO):TE:=fun σ H Q=>te σ H fun x H1=>tl σ H1 fun l H2=>th σ H2 fun u H3=>r x l u H3 Q
theorem bc_ {r:V->Option Int->Option Int->Hp->VK->Prop} (hr:SlR X r) (he:PE X e te) (hl:PO X lo tl) (hu:PO X hi th):PE X (.Subscript e (.Slice lo hi none p2) pos) (tSl r te tl th):=by
 intro zz s σ H Q I h;refine Subscript_ (thn (he zz s σ H _ I h) fun v s1 zq=>?_);refine x_22 zq fun x H1 I1 r1 q1=>?_;refine wpAny_Slice (thn (hl zz s1 σ H1 _ I1 q1) fun vl s2 ⟨l,H2,I2,pl,q2⟩=>thn (hu zz s2 σ H2 _ I2 q2) fun vu s3 zq=>?_);refine x_22 zq fun u H3 I3 pu q3=>?_;rw [evalPart_none];refine wpAny_pure ?_;have I4:Inv X zz σ H3 { s3 with heap:=s3.heap.push { cls := .type "slice",data := .fields #[vl,vu,.none] } }:=I3.kept (t':=s3.toks) fun b ob q=>get?_push_of_some _ q;obtain ⟨T,id,hT,ht,hg⟩:=hr zz { s3 with heap:=s3.heap.push { cls := .type "slice",data := .fields #[vl,vu,.none] } } σ H3 x v vl vu l u s3.heap.objs.size Q I4 r1 (Heap.IsSliceOf.new ..) pl pu q3;show wpAny (model X.prog X.w) X.A (subscriptTail e (.Slice lo hi none p2) v (.ref s3.heap.objs.size)) (EP X zz σ Q) X.xe { s3 with heap:=s3.heap.push { cls := .type "slice",data := .fields #[vl,vu,.none] } };exact tail_any (ops:=[.ref s3.heap.objs.size,v]) ht hT hg (by with_unfolding_all rfl)
def cutV (xs:List V) (lo hi:Option Int):List V:=(xs.drop (HT.sIx xs.length 0 lo)).take (HT.sIx xs.length xs.length hi - HT.sIx xs.length 0 lo)
theorem ic_ (xs:List V) (lo hi:Option Int):(cutV xs lo hi).length<=xs.length:=by
 unfold cutV;rw [length_take,length_drop];omega
end
def ixN (n:Nat) (i:Int):Option Nat:=if 0<=i then (if i<n then some i.toNat else none) else if -(n:Int)<=i then some (i+n).toNat else none
def atI {α:Type} (xs:List α) (i:Int):Option α:=(ixN xs.length i).bind fun j=>xs[j]?
theorem oB_ {n:Nat}{i:Int}{j:Nat} (h:ixN n i=some j):seqIndex? i n=some j/\j<n /\ -(n:Int)<=i/\i<n:=by
 unfold ixN at h;by_cases h0:0<=i
 ·rw [if_pos h0] at h
  by_cases h1:i<n
  ·rw [if_pos h1] at h
   have e:i.toNat=j:=Option.some.inj h;exact ⟨by rw [seqIndex_of h0 h1,e],by omega,by omega,h1⟩
  rw [if_neg h1] at h;cases h
 rw [if_neg h0] at h;by_cases h1 : -(n:Int)<=i
 ·rw [if_pos h1] at h
  have e:(i+n).toNat=j:=Option.some.inj h;exact ⟨by rw [seqIndex_neg (by omega) h1,e],by omega,h1,by omega⟩
 rw [if_neg h1] at h;cases h
theorem ih_ {α:Type}{xs:List α}{i:Int}{v:α} (h:atI xs i=some v) : ∃ j,seqIndex? i xs.length=some j/\xs[j]? = some v/\j<xs.length /\ -(xs.length:Int)<=i/\i<xs.length:=by
 unfold atI at h;cases e:ixN xs.length i with
 | none=>rw [e] at h;cases h
 | some j =>
 rw [e] at h;refine x_03 (oB_ e) fun h1 h2 h3 h4=>?_;exact ⟨j,h1,h,h2,h3,h4⟩
theorem a0_ {α:Type}{xs:List α}{j:Nat}{v:α} (h:xs[j]? = some v):atI xs (j:Int)=some v:=by
 have hj:j<xs.length:=(List.getElem?_eq_some_iff.mp h).1;have e:ixN xs.length (j:Int)=some j:=by
  unfold ixN;rw [if_pos (by omega),if_pos (by omega)];simp
 unfold atI;rw [e];exact h
theorem gk_ {α:Type} (xs:List α) (v:α):atI (xs++[v]) (-1)=some v:=by
 have hl:(xs++[v]).length=xs.length+1:=by simp
 have e:ixN (xs++[v]).length (-1)=some xs.length:=by
  unfold ixN;rw [hl,if_neg (by decide),if_pos (by omega)];congr 1;omega
 unfold atI;rw [e];show (xs++[v])[xs.length]? = some v;simp
def o0_ (b:Expr):Prop:=∀ o i,subscripted b false o i=operate [o,i] (getItem o i)
def IxR (X:Cx) (r:R2):Prop :=
 ∀ (value slice:Expr) (zz:zP) (s:Shared) (σ:St) (H:Hp) (x y:V) (v u:Value) (Q:VK),Inv X zz σ H s->RelV x v->RelV y u->r x y H Q ->
  subscripted slice false v u=operate [v,u] (getItem v u)->wpAny (model X.prog X.w) X.A (subscriptTail value slice v u) (EP X zz σ Q) X.xe s
def MtR (X:Cx) (id:String) (r:V->List V->Hp->VK->Prop):Prop :=
 ∀ (zz:zP) (s:Shared) (σ:St) (H:Hp) (x:V) (xs:List V) (v:Value) (us:List Value) (Q:VK),Inv X zz σ H s->RelV x v->Vals xs us->r x xs H Q ->
  wpAny (model X.prog X.w) X.A (call (.builtin id) (v::us)) (EP X zz σ Q) X.xe s
section
variable {X:Cx}{a b:Expr}{ta tb:TE}{pos:Pos}
theorem aM_ {r:R2} (hr:IxR X r) (ha:PE X a ta) (hb:PE X b tb) (hs:o0_ b):PE X (.Subscript a b pos) (tOp r ta tb):=by
 intro zz s σ H Q I h;exact Subscript_ (binT ha hb I h fun v u s2 x y H2 I2 rx ry q=>hr a b zz s2 σ H2 x y v u Q I2 rx ry q (hs _ _))
def rIxL (K:Frag):R2:=fun x y H Q=>∃ p xs i v,x = .ref p/\y = .int i/\SqL K H p xs/\atI xs i=some v/\Q v H
def rIxT (K:Frag):R2:=fun x y H Q=>∃ p xs i v,x = .ref p/\y = .int i/\SqT K H p xs/\atI xs i=some v/\Q v H
def rIxS:R2:=fun x y H Q=>∃ z i c,x = .str z/\y = .int i/\z.length<=sizeLine/\atI z.cps.toList i=some c/\Q (.str ⟨#[c]⟩) H
theorem aw_:IxR X (rIxL X.K):=by
 intro value slice zz s σ H x y v u Q I rx ry h hs;refine x_40 h fun p xs i z zy=>x_04 zy fun zr4 zr5 hq he q=>?_;subst zr4;subst zr5;cases rx;obtain ⟨t,rfl⟩:=ry;refine x_12 (I.list hq) fun zw r pl hz=>?_;refine x_10 (ih_ he) fun j zy=>x_04 zy fun h1 h2 h3 h4 h5=>?_;obtain ⟨w,ew,rw'⟩:=r.get h2;have hl:=r.length;have hn:=dm_;have fin:EP X zz σ Q w s:=⟨z,H,I,rw',q⟩;by_cases h0:0<=i
 ·have hj:i.toNat=j:=by
   rw [seqIndex_of h0 h5] at h1;exact Option.some.inj h1
  exact item_listR pl.isList h0 (by omega) (by rw [hj];simpa using ew) fin hs
 have hj:(i+(zw.toArray.size:Int)).toNat=j:=by
  rw [seqIndex_neg (by omega) h4] at h1;rw [size_toArray,<- hl];exact Option.some.inj h1
 exact subscriptTail_builtinR (x:=w) pl.isList.typeIs slot_list_getitem.lookup
  (wpAny_getItem_list_neg (Q:=fun r s'=>r=w/\EP X zz σ Q r s') pl.isList (by omega) (by rw [size_toArray] <;> omega) (by omega) (by rw [hj];simpa using ew) ⟨rfl,fin⟩) hs
theorem b7_:IxR X (rIxT X.K):=by
 intro value slice zz s σ H x y v u Q I rx ry h hs;refine x_40 h fun p xs i z zy=>x_04 zy fun zr4 zr5 hq he q=>?_;subst zr4;subst zr5;cases rx;obtain ⟨t,rfl⟩:=ry;refine x_12 (I.tuple hq) fun zw r pl hz=>?_;refine x_10 (ih_ he) fun j zy=>x_04 zy fun h1 h2 h3 h4 h5=>?_;obtain ⟨w,ew,rw'⟩:=r.get h2;have hl:=r.length;have hn:=dm_;have fin:EP X zz σ Q w s:=⟨z,H,I,rw',q⟩;exact subscriptTail_builtinR (x:=w) pl.typeIs slot_tuple_getitem.lookup
  (getItem_tuple (j:=j) (Q:=fun r s'=>r=w/\EP X zz σ Q r s') pl (by omega) (by omega) (by rw [size_toArray,<- hl];exact h1) (by simpa using ew) ⟨rfl,fin⟩) hs
theorem no_:IxR X rIxS:=by
 intro value slice zz s σ H x y v u Q I rx ry h hs;refine x_34 h fun z i c zr3 zr4 hz he q=>?_;subst zr3;subst zr4;obtain ⟨t,rfl⟩:=rx;obtain ⟨t',rfl⟩:=ry;refine x_10 (ih_ he) fun j zy=>x_04 zy fun h1 h2 h3 h4 h5=>?_;have hl:z.cps.toList.length=z.length:=by simp [Str.length]
 rw [hl] at h1 h4 h5;have hn:=dm_;exact tail_any (typeIs_str s z t) slot_str_getitem.lookup (getItem_str (c:=c) (by
  have e1:decide (i < -(2 ^ 63:Int))=false:=decide_eq_false (by omega);have e2:decide (i≥2 ^ 63)=false:=decide_eq_false (by omega);rw [e1,e2,Bool.or_false]) (by rw [h1];simpa using h2) ⟨.str ⟨#[c]⟩,H,I.tok _,⟨_,rfl⟩,q⟩) hs
theorem gH_ (lo hi:Option Int) (n:Nat):(sliceBounds lo hi none n).1=((HT.sIx n 0 lo:Nat):Int)/\(sliceBounds lo hi none n).2.1=((HT.sIx n n hi:Nat):Int)/\(sliceBounds lo hi none n).2.2=1:=by
 refine ⟨?_,?_,rfl⟩
 ·cases lo with
  | none=>simp [sliceBounds,HT.sIx]
  | some i =>
   simp only [sliceBounds,HT.sIx,Option.getD_none,show (1:Int) > 0 by decide,if_true];by_cases h:i<0
   ·simp only [h,if_true] <;> omega
   simp only [h,if_false] <;> omega
 cases hi with
 | none=>simp [sliceBounds,HT.sIx]
 | some i =>
 simp only [sliceBounds,HT.sIx,Option.getD_none,show (1:Int) > 0 by decide,if_true];by_cases h:i<0
 ·simp only [h,if_true] <;> omega
 simp only [h,if_false] <;> omega
theorem fL_ (zw:List Value) (lo hi:Option Int):slicePick zw.toArray lo hi none=((zw.drop (HT.sIx zw.length 0 lo)).take (HT.sIx zw.length zw.length hi - HT.sIx zw.length 0 lo)).toArray:=by
 obtain ⟨h1,h2,h3⟩:=gH_ lo hi zw.toArray.size;unfold slicePick;rw [h1,h2,h3];simp only [sliceRange_one,pick_run,size_toArray] <;> rfl
def rSlL (K:Frag):V->Option Int->Option Int->Hp->VK->Prop:=fun x lo hi H Q=>∃ a xs,x = .ref a/\SqL K H a xs/\∀ p,H p=none->Q (.ref p) (upd H p (.lst (cutV xs lo hi)))
theorem bI_:SlR X (rSlL X.K):=by
 intro zz s σ H x v vl vu lo hi sl Q I rx hs pl pu h;refine x_22 h fun a xs zr2 hx q=>?_;subst zr2;cases rx;refine x_12 (I.list hx) fun zw r ht hz=>?_;have zp:=r.length;refine ⟨"list",_,slot_list_getitem.lookup,ht.isList.typeIs,?_⟩;refine wpAny_getItem_list_slice ht.isList hs pl pu .none (by simp) ?_ (by rw [size_toArray] <;> omega)
 rw [fL_,<- zp];refine ⟨.ref s.heap.objs.size,_,I.laid (t':=s.toks) (o := .lst (cutV xs lo hi)) (fun b ob q=>get?_push_of_some _ q) (Nat.le_refl _) ?_,rfl,q _ (I.hok.fresh (Nat.le_refl _))⟩;exact ⟨Nat.le_trans (ic_ xs lo hi) hz,_,0,(r.drop (HT.sIx xs.length 0 lo)).take (HT.sIx xs.length xs.length hi - HT.sIx xs.length 0 lo),get?_push_size _ rfl⟩
def gf_:V->Bool
 | .non=>true
 | .bl _=>true
 | .int _=>true
 | .str _=>true
 | _=>false
noncomputable def eqV:V->V->Bool
 | .non,.non=>true
 | .bl a,.bl b=>a == b
 | .bl a,.int b=>(if a then 1 else 0) == b
 | .int a,.bl b=>a == (if b then 1 else 0)
 | .int a,.int b=>a == b
 | .str a,.str b=>a == b
 | _,_=>false
theorem p2_ {A:Around}{s:Shared}{y x:V}{u v:Value} (ry:RelV y u) (rx:RelV x v) (fy:gf_ y=true) (fx:gf_ x=true):SeqAt.EqAt A s u v (eqV y x):=by
 cases y with
 | non =>
  cases ry;cases x with
  | non=>cases rx;exact SeqAt.EqAt.same _
  | bl b=>cases rx;exact SeqAt.EqAt.none_bool b
  | int b=>obtain ⟨t,rfl⟩:=rx;exact SeqAt.EqAt.none_int b t
  | str b=>obtain ⟨t,rfl⟩:=rx;exact SeqAt.EqAt.none_str b t
  | _=>exact absurd (show false=true from fx) Bool.false_ne_true
 | bl a =>
  cases ry;cases x with
  | non=>cases rx;exact SeqAt.EqAt.bool_none a
  | bl b=>cases rx;exact SeqAt.EqAt.bool_bool a b
  | int b=>obtain ⟨t,rfl⟩:=rx;exact SeqAt.EqAt.bool_int a b t
  | str b=>obtain ⟨t,rfl⟩:=rx;exact SeqAt.EqAt.bool_str a b t
  | _=>exact absurd (show false=true from fx) Bool.false_ne_true
 | int a =>
  obtain ⟨t',rfl⟩:=ry;cases x with
  | non=>cases rx;exact SeqAt.EqAt.int_none a t'
  | bl b=>cases rx;exact SeqAt.EqAt.int_bool a t' b
  | int b=>obtain ⟨t,rfl⟩:=rx;exact SeqAt.EqAt.int_int a t' b t
  | str b=>obtain ⟨t,rfl⟩:=rx;exact SeqAt.EqAt.int_str a t' b t
  | _=>exact absurd (show false=true from fx) Bool.false_ne_true
 | str a =>
  obtain ⟨t',rfl⟩:=ry;cases x with
  | non=>cases rx;exact SeqAt.EqAt.str_none a t'
  | bl b=>cases rx;exact SeqAt.EqAt.str_bool a t' b
  | int b=>obtain ⟨t,rfl⟩:=rx;exact SeqAt.EqAt.str_int a t' b t
  | str b=>obtain ⟨t,rfl⟩:=rx;exact SeqAt.EqAt.str_str a t' b t
  | _=>exact absurd (show false=true from fx) Bool.false_ne_true
 | _=>exact absurd (show false=true from fy) Bool.false_ne_true
noncomputable def eqU (x:V) (u:Value):Bool:=match u with
 | .none=>eqV .non x
 | .bool b=>eqV (.bl b) x
 | .int i _=>eqV (.int i) x
 | .str z _=>eqV (.str z) x
 | _=>false
theorem nu_ {x y:V}{u:Value} (r:RelV y u) (f:gf_ y=true):eqU x u=eqV y x:=by
 cases y with
 | non=>cases r;rfl
 | bl b=>cases r;rfl
 | int i=>obtain ⟨t,rfl⟩:=r;rfl
 | str z=>obtain ⟨t,rfl⟩:=r;rfl
 | _=>exact absurd (show false=true from f) Bool.false_ne_true
theorem eY_ {x:V} : ∀ {xs:List V}{us:List Value},Vals xs us->xs.all gf_=true->us.any (eqU x)=xs.any fun y=>eqV y x
 | _,_,.nil,_=>rfl
 | y::xs,u::us,.cons r t,f=>by
  rw [all_cons,and_eq_true] at f;rw [List.any_cons,List.any_cons,nu_ r f.1,eY_ t f.2]
theorem dl_ {A:Around}{s:Shared}{x:V}{v:Value} (rx:RelV x v) (fx:gf_ x=true) : ∀ {xs:List V}{us:List Value},Vals xs us->xs.all gf_=true->∀ u∈us,SeqAt.EqAt A s u v (eqU x u)
 | _,_,.nil,_=>fun u hu=>by cases hu
 | y::xs,u::us,.cons r t,f=>fun u' hu=>by
  rw [all_cons,and_eq_true] at f;rcases mem_cons.mp hu with rfl | hu
  ·rw [nu_ r f.1];exact p2_ r rx f.1 fx
  exact dl_ rx fx t f.2 u' hu
noncomputable def inV (x:V) (xs:List V):Bool:=xs.any fun y=>eqV y x
def rIn (K:Frag) (neg:Bool):R2:=fun x y H Q=>∃ p xs,y = .ref p/\(SqL K H p xs\/SqT K H p xs)/\gf_ x=true/\xs.all gf_=true/\Q (.bl (if neg then !inV x xs else inV x xs)) H
theorem eE_:OpR X (compareOp .In) (rIn X.K false):=by
 intro zz s σ H x y v u Q I rx ry h;refine x_24 h fun p xs zr2 hq fx fs q=>?_;subst zr2;cases ry;rcases hq with hq | hq
 ·refine x_12 (I.list hq) fun zw r pl hz=>?_
  refine SeqAt.in_listAt (eqU x) pl.isList (fun w hw=>dl_ rx fx r fs w (by simpa using hw)) ⟨.bl _,H,I,rfl,?_⟩;rw [show zw.toArray.any (eqU x)=zw.any (eqU x) by simp,eY_ r fs];exact q
 refine x_12 (I.tuple hq) fun zw r pl hz=>?_;refine SeqAt.in_tupleAt (eqU x) pl (fun w hw=>dl_ rx fx r fs w (by simpa using hw)) ⟨.bl _,H,I,rfl,?_⟩;rw [show zw.toArray.any (eqU x)=zw.any (eqU x) by simp,eY_ r fs];exact q
theorem dP_:OpR X (compareOp .NotIn) (rIn X.K true):=by
 intro zz s σ H x y v u Q I rx ry h;refine x_24 h fun p xs zr2 hq fx fs q=>?_;subst zr2;cases ry;rcases hq with hq | hq
 ·refine x_12 (I.list hq) fun zw r pl hz=>?_
  refine SeqAt.notIn_listAt (eqU x) pl.isList (fun w hw=>dl_ rx fx r fs w (by simpa using hw)) ⟨.bl _,H,I,rfl,?_⟩;rw [show zw.toArray.any (eqU x)=zw.any (eqU x) by simp,eY_ r fs];exact q
 refine x_12 (I.tuple hq) fun zw r pl hz=>?_;refine SeqAt.notIn_tupleAt (eqU x) pl (fun w hw=>dl_ rx fx r fs w (by simpa using hw)) ⟨.bl _,H,I,rfl,?_⟩;rw [show zw.toArray.any (eqU x)=zw.any (eqU x) by simp,eY_ r fs];exact q
theorem aG_:gq_ X (.builtin "len") (fun xs H Q=>∃ p ys,xs=[.ref p]/\(SqL X.K H p ys\/SqT X.K H p ys)/\Q (.int ys.length) H):=by
 intro zz s σ H xs us Q I r h;refine x_22 h fun p ys zr2 hq q=>?_;subst zr2;obtain ⟨u,rfl,rx⟩:=jR_ r;cases rx;have hn:=dm_;rcases hq with hq | hq
 ·refine x_12 (I.list hq) fun zw r' pl hz=>?_
  have zp:=r'.length;exact Calls.call_len_list pl.isList (by simp only [size_toArray] <;> omega) ⟨.int ys.length,H,I.tok _,⟨s.toks+1,by rw [size_toArray,zp]⟩,q⟩
 refine x_12 (I.tuple hq) fun zw r' pl hz=>?_;have zp:=r'.length;exact len_tuple pl (by simp only [size_toArray] <;> omega) ⟨.int ys.length,H,I.tok _,⟨s.toks+1,by rw [size_toArray,zp]⟩,q⟩
theorem a2_:gq_ X (.builtin "len") (fun xs H Q=>∃ z,xs=[.str z]/\z.length<=sizeLine/\Q (.int z.length) H):=by
 intro zz s σ H xs us Q I r h;refine x_12 h fun z zr1 hz q=>?_;subst zr1;refine x_11 (jR_ r) fun u zr1 zz0=>?_;refine x_10 zz0 fun t zr3=>?_;subst zr1;subst zr3;have hn:=dm_;exact len_str (by omega) ⟨.int z.length,H,I.tok _,⟨_,rfl⟩,q⟩
def tyV (K:Frag) (T:String) (x:V) (H:Hp):Prop:=match x with
 | .str _=>T="str"
 | .int _=>T="int"
 | .ref p=>(T="list"/\∃ xs,SqL K H p xs)\/(T="tuple"/\∃ o,K.lookup p=some o/\o.cls = .type "tuple"/\o.dict=none) \/
   (T="dict"/\((∃ zu,H p=some (.dK zu))\/∃ zu,H p=some (.dT zu)))\/(T="set"/\∃ S n,H p=some (.set S n))
 | _=>False
theorem mU_ {zz:zP}{σ:St}{H:Hp}{s:Shared}{T:String}{x:V}{v:Value} (I:Inv X zz σ H s) (r:RelV x v) (ty:tyV X.K T x H) :
  s.TypeIs v T/\∀ a,v = .ref a->∃ ob,s.heap.get? a=some ob/\ob.dict=none:=by
 cases x with
 | str z =>
  obtain ⟨t,rfl⟩:=r;cases (show T="str" from ty);exact ⟨typeIs_str s z t,fun _ e=>nomatch e⟩
 | int i =>
  obtain ⟨t,rfl⟩:=r;cases (show T="int" from ty);exact ⟨typeIs_int s i t,fun _ e=>nomatch e⟩
 | ref p =>
  cases r;rcases ty with ⟨rfl,xs,hq⟩ | ⟨rfl,o,hk,hc,hd⟩ | ⟨rfl,hk⟩ | ⟨rfl,S,n,hk⟩
  ·refine x_12 (I.list hq) fun zw _ pl _=>?_
   refine ⟨pl.isList.typeIs,fun a e=>?_⟩;cases e;refine x_23 pl fun o n e c hd _=>?_;exact ⟨o,e,hd⟩
  ·refine ⟨⟨o,I.kIn p o hk,hc⟩,fun a e=>?_⟩
   cases e;exact ⟨o,I.kIn _ o hk,hd⟩
  ·have z : ∃ o,s.heap.get? p=some o/\o.ExactDict:=by
    rcases hk with ⟨zu,hk⟩ | ⟨zu,hk⟩
    ·obtain ⟨_,_,_,_,o,_,_,e,ex,_⟩:=I.hok p _ hk
     exact ⟨o,e,ex⟩
    obtain ⟨_,_,_,_,o,_,_,e,ex,_⟩:=I.hok p _ hk;exact ⟨o,e,ex⟩
   obtain ⟨o,e,ex⟩:=z;refine ⟨⟨o,e,ex.1⟩,fun a e2=>?_⟩;cases e2;exact ⟨o,e,ex.2.1⟩
  refine x_40 (I.hok p _ hk) fun o _ _ _ zy=>x_02 zy fun e ex _=>?_;refine ⟨⟨o,e,ex.1⟩,fun a e2=>?_⟩;cases e2;exact ⟨o,e,ex.2.1⟩
 | _=>exact False.elim ty
def tBM0 (K:Frag) (T:String) (r:V->List V->Hp->VK->Prop) (to:TE):TE:=fun σ H Q=>to σ H fun x H1=>tyV K T x H1/\r x [] H1 Q
def tBM (K:Frag) (T:String) (r:V->List V->Hp->VK->Prop) (to:TE) (t:TA):TE:=fun σ H Q=>to σ H fun x H1=>tyV K T x H1/\t σ H1 fun xs H2=>r x xs H2 Q
variable {o e:Expr}{es:List Expr}{to:TE}{t:TA}{name:Str}{zt zm:Pos}{T id:String}{r:V->List V->Hp->VK->Prop}
theorem nj_ (pa:PlainAttrs T) (slot:Slot T name id) (hty:typeOf (.builtin id)=pure (.type "method_descriptor")) (hm:MtR X id r) (ho:PE X o to)
  (zn:attributeBase o name X.env (eval o X.env)=eval o X.env:=by rfl) (zo:(zt.endLine == zm.line)=true:=by rfl):PE X (.Call (.Attribute o name zt) [] [] zm) (tBM0 X.K T r to):=by
 intro zz s σ H Q I h;refine wpAny_Call_method0_late zn zo (thn (ho zz s σ H _ I h) fun v s1 zq=>?_);refine x_23 zq fun x H1 I1 r1 ty q1=>?_;obtain ⟨h1,h2⟩:=mU_ I1 r1 ty;exact ⟨T,id,pa,slot,hty,h1,h2,Calls.callWith_builtin rfl (PySem.evalArgs_none (hm zz s1 σ H1 x [] v [] Q I1 r1 .nil q1))⟩
theorem gT_ (pa:PlainAttrs T) (slot:Slot T name id) (hty:typeOf (.builtin id)=pure (.type "method_descriptor")) (hm:MtR X id r) (ho:PE X o to) (ha:PA X (e::es) t)
  (zn:attributeBase o name X.env (eval o X.env)=eval o X.env:=by rfl)
  (hfew:((backTo zm (starEach (e::es) X.env)).all (fun x => !x.1) && (backToKw zm (keywordEach [] X.env)).all (fun x=>x.1.isSome)
   && decide ((e::es).length+([]:List Keyword).length+(if ([]:List Keyword).isEmpty then 0 else 1)<30))=true:=by rfl)
  (zo:(zt.endLine == zm.line)=true:=by rfl) (hs:starEach (e::es) X.env=(false,eval e X.env)::starEach es X.env:=by rfl) (hplain:(backTo zm (starEach es X.env)).any (·.1)=false:=by rfl) :
  PE X (.Call (.Attribute o name zt) (e::es) [] zm) (tBM X.K T r to t):=by
 intro zz s σ H Q I h;refine wpAny_Call_method_late zn hfew zo rfl (thn (ho zz s σ H _ I h) fun v s1 zq=>?_);refine x_23 zq fun x H1 I1 r1 ty q1=>?_;obtain ⟨h1,h2⟩:=mU_ I1 r1 ty;refine ⟨T,id,pa,slot,hty,h1,h2,?_⟩;have hA:=ha zm zz s1 σ H1 _ I1 q1;rw [hs] at hA ⊢;refine Calls.callWith_builtin (by show (false || (backTo zm (starEach es X.env)).any (·.1))=false;rw [hplain] <;> rfl) (Calls.evalArgs_plain ?_)
 exact thn hA fun us s2 ⟨vs,H2,I2,r2,q2⟩=>hm zz s2 σ H2 x vs v us Q I2 r1 r2 q2
end
def MtM (X:Cx) (id:String) (r:V->List V->Hp->VK->Prop):Prop :=
 ∀ (zz:zP) (s:Shared) (σ:St) (H:Hp) (x:V) (xs:List V) (v:Value) (us:List Value) (Q:VK),Inv X zz σ H s->RelV x v->Vals xs us->r x xs H Q ->
  wpAny (model X.prog X.w) X.A (call (.builtin id) (v::us)) (EP X zz σ Q) X.xe s
theorem Vals.one {x:V}{us:List Value} (h:Vals [x] us) : ∃ u,us=[u]/\RelV x u:=by
 cases h with
 | cons r t=>cases t;exact ⟨_,rfl,r⟩
theorem Vals.zero : ∀ {us:List Value},Vals [] us->us=[]
 | _,.nil=>rfl
theorem Vals.dropLast {xs:List V}{us:List Value} (h:Vals xs us):Vals xs.dropLast us.dropLast:=by
 induction h with
 | nil=>exact .nil
 | cons r t ih =>
 cases t with
 | nil=>exact .nil
 | cons q t'=>exact .cons r ih
theorem jL_ {α:Type} (l:List α):l.eraseIdx (l.length - 1)=l.dropLast:=by
 induction l with
 | nil=>rfl
 | cons a r ih =>
 cases r with
 | nil=>rfl
 | cons b r =>
 have e:(a::b::r).length - 1=((b::r).length - 1)+1:=by
  have h1:(a::b::r).length=r.length+2:=rfl;have h2:(b::r).length=r.length+1:=rfl;omega
 rw [e,List.eraseIdx_cons_succ,ih]
 all_goals rfl
section
variable {X:Cx}{zz:zP}{σ:St}{H:Hp}{s:Shared}{l:Addr}{xs ys:List V}
theorem Inv.lset {zw its':List Value}{n:Nat}{f:Array Value->Array Value}{t':Nat} (I:Inv X zz σ H s) (hH:H l=some (.lst xs))
  (e:s.heap.get? l=some { cls := .type "list",data := .seq zw.toArray n }) (hf:f zw.toArray=its'.toArray) (hv:Vals ys its') (hz:ys.length<=sizeLine) :
  Inv X zz σ (upd H l (.lst ys)) { s with heap:=s.heap.update l (Obj.mapSeq f),toks:=t' }:=by
 have q:=PySem.IsL.update e f;rw [hf] at q;refine I.write (x:=l) (e:=l) (by rw [hH];exact trivial) (.inl rfl) (fun b' u hb hu=>(get?_update_other s.heap (Obj.mapSeq f) (Ne.symm hb)).trans hu) ⟨_,q⟩ ?_;exact ⟨hz,its',_,hv,q⟩
theorem Inv.lnew {zw:List Value}{t':Nat} (I:Inv X zz σ H s) (hv:Vals ys zw) (hz:ys.length<=sizeLine) :
  Inv X zz σ (upd H s.heap.objs.size (.lst ys)) { s with heap:=s.heap.push { cls := .type "list",data := .seq zw.toArray },toks:=t' } :=
 I.laid (fun _ _ q=>get?_push_of_some _ q) (Nat.le_refl _) ⟨hz,zw,0,hv,get?_push_size _ rfl⟩
theorem Inv.fresh (I:Inv X zz σ H s):H s.heap.objs.size=none:=I.hok.fresh (Nat.le_refl _)
theorem Inv.lstM (I:Inv X zz σ H s) (hH:H l=some (.lst xs)):xs.length<=sizeLine/\∃ (zw:List Value) (n:Nat),Vals xs zw/\xs.length=zw.length/\s.heap.get? l=some { cls := .type "list",data := .seq zw.toArray n }:=by
 refine x_01 (I.hok l _ hH) fun z zz0=>?_;refine x_21 zz0 fun zw n r e=>?_;exact ⟨z,zw,n,r,r.length,e⟩
end
section
variable {X:Cx}
def cr_:V->List V->Hp->VK->Prop:=fun x vs H Q=>∃ l xs y,x = .ref l/\vs=[y]/\H l=some (.lst xs)/\xs.length<sizeLine/\Q .non (upd H l (.lst (xs++[y])))
theorem by_:MtM X "list.append" cr_:=by
 intro zz s σ H x vs v us Q I rx rv h;refine x_34 h fun l xs y zr3 zr4 hH hz q=>?_;subst zr3;subst zr4;cases rx;obtain ⟨u,rfl,ru⟩:=rv.one;refine x_01 (I.lstM hH) fun z zz0=>?_;refine x_22 zz0 fun zw n r hl e=>?_;refine call_meets F.slot_list_append ⟨_,e,rfl⟩ F.entry_list_append (F.args_list_append_2 _ _) (PySem.list_append l zw.toArray n u (by rw [size_toArray];omega)) ⟨e,?_⟩;refine ⟨.non,_,I.lset (its':=zw++[u]) hH e (by simp) (r.append (.cons ru .nil)) ?_,rfl,q⟩;rw [length_append,length_singleton];omega
def rPop:V->List V->Hp->VK->Prop:=fun x vs H Q=>∃ l xs y,x = .ref l/\vs=[]/\H l=some (.lst xs)/\xs[xs.length - 1]? = some y/\Q y (upd H l (.lst xs.dropLast))
theorem nm_:MtM X "list.pop" rPop:=by
 intro zz s σ H x vs v us Q I rx rv h;refine x_34 h fun l xs y zr3 zr4 hH hy q=>?_;subst zr3;subst zr4;cases rx;have hus:=rv.zero;subst hus;refine x_01 (I.lstM hH) fun z zz0=>?_;refine x_22 zz0 fun zw n r hl e=>?_;obtain ⟨u,hu,ru⟩:=r.get hy;have hy':zw.toArray[zw.toArray.size - 1]? = some u:=by
  show zw.toArray[zw.length - 1]? = some u;rw [<- Array.getElem?_toList,<- hl];exact hu
 refine call_meets F.slot_list_pop ⟨_,e,rfl⟩ F.entry_list_pop (F.args_list_pop_1 _) (MeetsSeq.list_pop_last l zw.toArray n u hy' (by rw [size_toArray];omega)) ⟨e,?_⟩;refine ⟨y,_,I.lset (its':=zw.dropLast) hH e ?_ r.dropLast ?_,ru,q⟩
 ·show zw.toArray.eraseIdxIfInBounds (zw.toArray.size - 1)=zw.dropLast.toArray
  rw [size_toArray,List.eraseIdxIfInBounds_toArray,jL_]
 rw [List.length_dropLast];omega
def rCat:R2:=fun x y H Q=>∃ l b xs zs,x = .ref l/\y = .ref b/\H l=some (.lst xs)/\H b=some (.lst zs)/\xs.length+zs.length<=sizeLine/\∀ p,H p=none->Q (.ref p) (upd H p (.lst (xs++zs)))
theorem pz_:OpR X (binaryOp .Add) rCat:=by
 intro zz s σ H x y v u Q I rx ry h;refine x_40 h fun l b xs zs zy=>x_05 zy fun zr4 zr5 hH hB hz q=>?_;subst zr4;subst zr5;cases rx;cases ry;refine x_01 (I.lstM hH) fun z zz0=>?_;refine x_22 zz0 fun zw n r hl e=>?_;refine x_01 (I.lstM hB) fun z2 zz0=>?_;refine x_22 zz0 fun its2 n2 r2 hl2 e2=>?_;refine PySem.P.add_list e e2 ?_ (by rw [size_toArray,size_toArray];omega);have ea:zw.toArray++its2.toArray=(zw++its2).toArray:=by simp
 rw [ea];exact ⟨.ref _,_,I.lnew (t':=s.toks) (r.append r2) (by rw [length_append];omega),rfl,q _ I.fresh⟩
end
theorem Vals.ints : ∀ {ns:List Int}{us:List Value},Vals (ns.map V.int) us->IntsAre us ns
 | [],us,h=>by
  rw [map_nil] at h;cases h;exact IntsAre.nil
 | n::ns,us,h=>by
  rw [map_cons] at h;cases h with
  | cons r t =>
  obtain ⟨k,rfl⟩:=r;exact IntsAre.cons n k (Vals.ints t)
theorem Vals.bls : ∀ {bs:List Bool}{us:List Value},Vals (bs.map V.bl) us->us=bs.map Value.bool
 | [],us,h=>by
  rw [map_nil] at h;cases h;rfl
 | b::bs,us,h=>by
  rw [map_cons] at h;cases h with
  | cons r t =>
  cases r;rw [Vals.bls t,map_cons]
theorem Vals.ref1 {a:Addr}{us:List Value} (r:Vals [V.ref a] us):us=[Value.ref a]:=by
 cases r with
 | cons r t =>
 cases t;cases r;rfl
section
variable {prog:Program}{w:World}{A:Around}{E:zQ}{s:Shared}{l:Addr}{zw:List Value}{ns:List Int}{Q:zQ}
theorem ou_ (hh:A.handled=none) (hl:s.heap.IsList l zw.toArray) (hi:IntsAre zw ns) (hne:0<ns.length)
  (h : ∀ h' tk M t',(∀ b o,s.heap.get? b=some o->h'.get? b=some o)->M∈ns->(∀ a,a∈ns->a<=M)->Q (.int M t') { s with heap:=h',toks:=tk }):wpAny (model prog w) A (call (.builtin "max") [.ref l]) Q E s:=by
 obtain ⟨xs,e⟩:=hi.allInts.items;have hn:numsOf (intItems xs).toList=ns:=by rw [<- e];exact hi.numsOf
 rw [nums_intItems] at hn;subst hn;rw [e] at hl;have hsz:0<xs.size:=by simpa using hne
 refine PySem.max_intList hh hl hsz fun v h' tk hv hk=>?_;obtain ⟨t,rfl⟩:=intItems_at hv;obtain ⟨h1,h2⟩:=argBest_gt (numAt xs) (xs.size - 1);refine h h' tk _ t hk ?_ fun a ha=>?_
 ·rw [numAt_eq];exact PySem.getD_mem (by rw [length_map,Array.length_toList];omega)
 obtain ⟨j,hj,rfl⟩:=mem_getD ha;rw [length_map,Array.length_toList] at hj;rw [<- numAt_eq];exact h2 j (by omega)
end
section
variable {X:Cx}
def rSum (K:Frag):List V->Hp->VK->Prop:=fun vs H Q=>∃ (a:Addr) (ns:List Int),vs=[V.ref a]/\SqL K H a (ns.map V.int)/\Q (.int ns.sum) H
def rMax (K:Frag):List V->Hp->VK->Prop:=fun vs H Q=>∃ (a:Addr) (ns:List Int),vs=[V.ref a]/\SqL K H a (ns.map V.int)/\0<ns.length/\∀ m,m∈ns->(∀ y,y∈ns->y<=m)->Q (.int m) H
theorem p8_ (hc:X.calm=true):gq_ X (.builtin "max") (rMax X.K):=by
 intro zz s σ H vs us Q I r h;refine x_23 h fun a ns zr2 hs hne q=>?_;subst zr2;refine x_12 (I.list hs) fun zw rv hl _=>?_;rw [Vals.ref1 r];exact ou_ (I.ok.hd hc) hl.isList rv.ints hne fun h' tk m t' hk h1 h2=>⟨.int _,H,I.kept hk,⟨_,rfl⟩,q m h1 h2⟩
end
theorem mv_ {prog:Program}{w:World}{A:Around}{E:zQ}{s:Shared}{l:Addr}{items:Array Value}{Q:zQ} (hl:s.heap.IsList l items)
  (h : ∀ s₂:Shared,s₂={ s with heap:=s.heap.push { cls := .type "list_iterator",data := .fields #[.ref l,.int 0 0] } } ->
   (s₂.heap.IsListIter s.heap.objs.size l 0/\s₂.heap.IsList l items)->l≠s.heap.objs.size->Q (.ref s.heap.objs.size) s₂):wpAny (model prog w) A (pyIter (.ref l)) Q E s:=by
 have hlt:l<s.heap.objs.size:=by obtain ⟨_,e,_⟩:=hl;exact lt_size e
 exact wpAny_pyIter_list hl (h _ rfl ⟨⟨_,get?_push_size _ rfl,rfl,rfl⟩,hl.push _⟩ (Nat.ne_of_lt hlt))
theorem hD_ {prog:Program}{w:World}{A:Around}{bs:List Bool}{zw:List Value} (e:zw=bs.map Value.bool) :
  TruthOf prog w A (fun i v=>zw.toArray[i]? = some v) (fun i=>bs.getD i false):=fun i v s Q E hv hq=>by
 have hv':zw[i]? = some v:=by simpa using hv
 rw [e,getElem?_map] at hv';obtain ⟨b,hb,rfl⟩:=Option.map_eq_some_iff.mp hv';have hg:bs.getD i false=b:=by rw [List.getD_eq_getElem?_getD,hb] <;> rfl
 have hq':Q (bs.getD i false) s:=hq;rw [hg] at hq';exact wpAny_truthy_bool hq'
theorem hx_ : ∀ bs:List Bool,(List.range bs.length).all (fun i=>bs.getD i false)=bs.all id
 | []=>rfl
 | b::bs=>by
  rw [length_cons,List.range_succ_eq_map,all_cons,all_map,all_cons,<- hx_ bs]
  all_goals rfl
section
variable {X:Cx}
def rAll (K:Frag):List V->Hp->VK->Prop:=fun vs H Q=>∃ (a:Addr) (bs:List Bool),vs=[V.ref a]/\SqL K H a (bs.map V.bl)/\Q (.bl (bs.all id)) H
theorem ny_ (hc:X.calm=true):gq_ X (.builtin "all") (rAll X.K):=by
 intro zz s σ H vs us Q I r h;refine x_22 h fun a bs zr2 hs q=>?_;subst zr2;refine x_12 (I.list hs) fun zw rv hl _=>?_;rw [Vals.ref1 r];have hb:=rv.bls;refine call_all_walk (mv_ hl.isList fun s₂ e2 st hne=>?_);subst e2;refine ⟨_,_,_,_,_,_,_,rfl,Walks.list (A:=X.A.in1) (I.ok.hd hc) _ a hne zw.toArray,st,hD_ hb,fun h' tk hk=>?_⟩;refine ⟨.bl _,H,I.kept fun b o eo=>hk b o (fun hmem=>?_) (get?_push_of_some _ eo),?_,q⟩
 ·rcases mem_cons.mp hmem with e1 | hmem
  ·exact absurd (e1 ▸ lt_size eo) (Nat.lt_irrefl _)
  cases hmem
 show Value.bool _=Value.bool _;rw [<- hx_,hb,size_toArray,length_map]
end
mutual
inductive Dp (K:Frag) (H:Hp):V->PyData->Prop
 | non:Dp K H .non .none
 | bl (b:Bool):Dp K H (.bl b) (.bool b)
 | int (i:Int):Dp K H (.int i) (.int i)
 | str (x:Str):Dp K H (.str x) (.str x)
 | lst {a:Addr}{xs:List V}{ds:List PyData}:SqL K H a xs->DpAll K H xs ds->Dp K H (.ref a) (.list ds)
 | tup {a:Addr}{xs:List V}{ds:List PyData}:SqT K H a xs->DpAll K H xs ds->Dp K H (.ref a) (.tuple ds)
inductive DpAll (K:Frag) (H:Hp):List V->List PyData->Prop
 | nil:DpAll K H [] []
 | cons {v:V}{vs:List V}{d:PyData}{ds:List PyData}:Dp K H v d->DpAll K H vs ds->DpAll K H (v::vs) (d::ds)
end
section
variable {X:Cx}{zz:zP}{σ:St}{H:Hp}{s:Shared}
mutual
theorem Dp.reads (I:Inv X zz σ H s) : ∀ (d:PyData) (v:V) (u:Value),Dp X.K H v d->RelV v u->∃ as,Reads s.heap u d as
 | .none,_,_,h,r=>by
  cases h;cases r;exact ⟨_,Reads.none⟩
 | .bool b,_,_,h,r=>by
  cases h;cases r;exact ⟨_,Reads.bool b⟩
 | .int i,_,_,h,r=>by
  cases h;obtain ⟨t,rfl⟩:=r;exact ⟨_,Reads.int i t⟩
 | .str x,_,_,h,r=>by
  cases h;obtain ⟨t,rfl⟩:=r;exact ⟨_,Reads.str x t⟩
 | .list ds,_,_,h,r=>by
  cases h with
  | lst hs ha =>
  cases r;obtain ⟨zw,rv,⟨o,n,ho,hc,_,hd⟩,_⟩:=I.list hs;obtain ⟨as,hr⟩:=Dp.readsAll I ds _ zw ha rv;exact ⟨_,Reads.list ho hc hd hr⟩
 | .tuple ds,_,_,h,r=>by
  cases h with
  | tup hs ha =>
  cases r;obtain ⟨zw,rv,⟨o,ho,hc,n,hd⟩,_⟩:=I.tuple hs;obtain ⟨as,hr⟩:=Dp.readsAll I ds _ zw ha rv;exact ⟨_,Reads.tuple ho hc hd hr⟩
 | .dict _,_,_,h,_=>by cases h
theorem Dp.readsAll (I:Inv X zz σ H s) : ∀ (ds:List PyData) (vs:List V) (us:List Value),DpAll X.K H vs ds->Vals vs us->∃ as,ReadsAll s.heap us ds as
 | [],_,_,h,r=>by
  cases h;cases r;exact ⟨_,ReadsAll.nil⟩
 | d::ds,_,_,h,r=>by
  cases h with
  | cons h1 h2 =>
  cases r with
  | cons r1 r2 =>
  obtain ⟨as,q1⟩:=Dp.reads I d _ _ h1 r1;obtain ⟨bs,q2⟩:=Dp.readsAll I ds _ _ h2 r2;exact ⟨_,ReadsAll.cons q1 q2⟩
end
end
section
variable {X:Cx}
def rEqD (K:Frag):R2:=fun x y H Q=>∃ d e,Dp K H x d/\Dp K H y e/\SeqAt.shaped d=true/\SeqAt.shaped e=true/\Q (.bl (PyData.eqv d e)) H
theorem py_ (hu:X.A.units+64<cLine):OpR X (compareOp .Eq) (rEqD X.K):=by
 intro zz s σ H x y v u Q I rx ry h;refine x_24 h fun d e hd he sd se q=>?_;obtain ⟨as,r1⟩:=Dp.reads I d x v hd rx;obtain ⟨bs,r2⟩:=Dp.reads I e y u he ry;exact SeqAt.compareEq_shaped r1 r2 sd se hu ⟨.bl _,H,I,rfl,q⟩
end
abbrev nB_ (h:Heap) (c:Addr) (v:Option Value):Prop:=h.IsCell c v
noncomputable def relS (scope sc:Scope):Scope :=
 { scope with names:=scope.names.map fun (n,k)=>if (k == .free && sc.kind == .function && sc.names.lookup n == some .cell) then (n,.cell) else (n,k) }
def aX_ (cells:List (Str×Addr)):List (Str×NameKind)->List (Str×Addr)->List (Str×Addr)
 | [],zx=>zx
 | (n,k)::r,zx=>if k == .free then aX_ cells r ((n,(cells.lookup n).getD 0)::zx) else aX_ cells r zx
theorem dW_ (env:Env) (f:Str×NameKind->List (Str×Addr)->Sem (ForInStep (List (Str×Addr))))
  (hf : ∀ n k c,f (n,k) c=if k == .free then (do let a <- cellOf env n;pure (.yield ((n,a)::c))) else pure (.yield c)) :
  ∀ (names:List (Str×NameKind)) (zx:List (Str×Addr)),(∀ y∈names,y.2 = .free->∃ c,env.cells.lookup y.1=some c)->forIn names zx f=pure (aX_ env.cells names zx)
 | [],zx,_=>by rw [List.forIn_nil];rfl
 | (n,k)::r,zx,h=>by
  rw [List.forIn_cons,hf];have ih:=fun zx=>dW_ env f hf r zx fun y hy=>h y (mem_cons_of_mem _ hy);unfold aX_;by_cases hk:(k == NameKind.free)=true
  ·rw [if_pos hk,if_pos hk]
   obtain ⟨c,hc⟩:=h (n,k) mem_cons_self (by simpa using hk);have e:cellOf env n=pure c:=by unfold cellOf;rw [hc]
   rw [e];have e2:(env.cells.lookup n).getD 0=c:=by rw [hc];rfl
   rw [e2];exact ih _
  rw [if_neg hk,if_neg hk];exact ih _
theorem jN_ {scope:Scope}{env:Env} (h : ∀ y∈scope.names,y.2 = .free->∃ c,env.cells.lookup y.1=some c):closureFor scope env=pure (aX_ env.cells scope.names []):=by
 simp only [closureFor];rw [dW_ env _ (fun n k c=>rfl) scope.names [] h];rfl
theorem dF_ {α:Type} : ∀ {l:List (Str×α)}{n:Str}{c:α},(n,c)∈l->∃ c',l.lookup n=some c'
 | (k,v)::r,n,c,h=>by
  rw [lookup_cons];cases hb:n == k with
  | true=>exact ⟨_,rfl⟩
  | false =>
  rcases mem_cons.mp h with e | h
  ·cases e;simp at hb
  exact dF_ h
theorem ci_ {cells:List (Str×Addr)} : ∀ {names:List (Str×NameKind)}{zx:List (Str×Addr)}{n:Str}{c:Addr},(n,c)∈aX_ cells names zx->(n,c)∈zx\/((n,.free)∈names/\c=(cells.lookup n).getD 0)
 | [],_,_,_,h => .inl h
 | (m,k)::r,zx,n,c,h=>by
  unfold aX_ at h;split at h
  ·rename_i hk
   have hk:k = .free:=by simpa using hk
   rcases ci_ h with h | ⟨h1,h2⟩
   ·rcases mem_cons.mp h with e | h
    ·cases e;exact .inr ⟨hk ▸ mem_cons_self,rfl⟩
    exact .inl h
   exact .inr ⟨mem_cons_of_mem _ h1,h2⟩
  rcases ci_ h with h | ⟨h1,h2⟩
  ·exact .inl h
  exact .inr ⟨mem_cons_of_mem _ h1,h2⟩
theorem c6_ {cells:List (Str×Addr)} : ∀ {names:List (Str×NameKind)}{zx:List (Str×Addr)}{p:Str×Addr},p∈zx->p∈aX_ cells names zx
 | [],_,_,h=>h
 | (m,k)::r,zx,p,h=>by
  unfold aX_;split
  ·exact c6_ (mem_cons_of_mem _ h)
  exact c6_ h
theorem c5_ {cells:List (Str×Addr)} : ∀ {names:List (Str×NameKind)}{zx:List (Str×Addr)}{n:Str},(n,.free)∈names->(n,(cells.lookup n).getD 0)∈aX_ cells names zx
 | (m,k)::r,zx,n,h=>by
  unfold aX_;rcases mem_cons.mp h with e | h
  ·cases e
   exact c6_ mem_cons_self
  split
  ·exact c5_ h
  exact c5_ h
theorem cy_ : ∀ {names:List (Str×NameKind)}{h:Heap}{zx:List (Str×Addr)}{x:Str}{c:Addr},(x,c)∈cellsFrom h.objs.size names zx ->
  (x,c)∈zx\/((x,.cell)∈names/\h.objs.size<=c/\nB_ (pushCells h names) c none)
 | [],_,_,_,_,h => .inl h
 | (n,k)::r,h,zx,x,c,hm=>by
  unfold cellsFrom at hm;unfold pushCells;split at hm
  ·rename_i hk
   rw [if_pos hk];have hk:k = .cell:=by simpa using hk
   rw [<- size_push h { cls := .type "cell",data := .cell none }] at hm;rcases cy_ hm with hm | ⟨h1,h2,h3⟩
   ·rcases mem_cons.mp hm with e | hm
    ·cases e
     exact .inr ⟨hk ▸ mem_cons_self,Nat.le_refl _,_,pushCells_keeps r _ _ _ (get?_push_size _ rfl),rfl⟩
    exact .inl hm
   rw [size_push] at h2;exact .inr ⟨mem_cons_of_mem _ h1,le_of_succ_le h2,h3⟩
  rename_i hk;rw [if_neg hk];rcases cy_ hm with hm | ⟨h1,h2,h3⟩
  ·exact .inl hm
  exact .inr ⟨mem_cons_of_mem _ h1,h2,h3⟩
theorem dt_ : ∀ {names:List (Str×NameKind)}{n:Nat}{zx:List (Str×Addr)}{p:Str×Addr},p∈zx->p∈cellsFrom n names zx
 | [],_,_,_,h=>h
 | (m,k)::r,n,zx,p,h=>by
  unfold cellsFrom;split
  ·exact dt_ (mem_cons_of_mem _ h)
  exact dt_ h
theorem eU_ : ∀ {names:List (Str×NameKind)}{n:Nat}{zx:List (Str×Addr)}{x:Str},(x,.cell)∈names->∃ c,(x,c)∈cellsFrom n names zx
 | (m,k)::r,n,zx,x,h=>by
  unfold cellsFrom;rcases mem_cons.mp h with e | h
  ·cases e
   exact ⟨n,dt_ mem_cons_self⟩
  split
  ·exact eU_ h
  exact eU_ h
theorem eT_ : ∀ {names:List (Str×NameKind)}{h:Heap}{zx:List (Str×Addr)}{x y:Str}{c:Addr},(∀ p∈zx,p.2<h.objs.size)->(∀ x y c,(x,c)∈zx->(y,c)∈zx->x=y) ->
  (x,c)∈cellsFrom h.objs.size names zx->(y,c)∈cellsFrom h.objs.size names zx->x=y
 | [],_,_,_,_,_,_,hi,h1,h2=>hi _ _ _ h1 h2
 | (n,k)::r,h,zx,x,y,c,hl,hi,h1,h2=>by
  unfold cellsFrom at h1 h2;split at h1
  ·rename_i hk
   rw [if_pos hk] at h2;rw [<- size_push h { cls := .type "cell",data := .cell none }] at h1 h2;refine eT_ (h:=h.push _) (fun p hp=>?_) (fun x y c a b=>?_) h1 h2
   ·rw [size_push]
    rcases mem_cons.mp hp with rfl | hp
    ·exact lt_succ_self _
    exact Nat.lt_succ_of_lt (hl p hp)
   rcases mem_cons.mp a with e | a <;> rcases mem_cons.mp b with e' | b
   ·cases e;cases e';rfl
   ·cases e;exact absurd (hl _ b) (Nat.lt_irrefl _)
   ·cases e';exact absurd (hl _ a) (Nat.lt_irrefl _)
   exact hi _ _ _ a b
  rename_i hk;rw [if_neg hk] at h2;exact eT_ hl hi h1 h2
theorem hV_ {M:Model}{A:Around}{E:zQ}{s:Shared}{scope:Scope}{globals:Addr}{closure:List (Str×Addr)}{qual:Str}{func:Option Addr}{code:Value}{around:Env}{builtins:Addr}{Q:Env->Shared->Prop}
  (h:Q (newEnv scope s.heap.objs.size globals (cellsFrom (s.heap.objs.size+1) scope.names closure) qual func code (some around) builtins)
   { s with heap:=pushCells (s.heap.push { cls := .type "dict",data := .dict #[] }) scope.names }) :
  wpAny M A (newFunctionEnv scope globals closure [] qual func code (some around) builtins) Q E s:=by
 simp only [newFunctionEnv,Option.isSome_some,if_true];refine wpAny_bind (wpAny_alloc ?_);refine wpAny_bind (wpAny_layCells _ (fun n k c=>rfl) scope.names closure _ _ ?_);rw [show ({ s with heap:=s.heap.push { cls := .type "dict",data := .dict #[] } }:Shared).heap.objs.size=s.heap.objs.size+1 from size_push ..];rw [List.forIn_nil];exact wpAny_bind (wpAny_pure (wpAny_pure h))
theorem cY_ {sc:Scope} : ∀ {names:List (Str×NameKind)}{x:Str}{k:NameKind},
  (names.map fun (n,k)=>if (k == NameKind.free && sc.kind == .function && sc.names.lookup n == some .cell) then (n,NameKind.cell) else (n,k)).lookup x=some k ->
  ∃ k',names.lookup x=some k'/\(k=k'\/(k' = .free/\k = .cell))
 | [],_,_,h=>by simp at h
 | (n,k₀)::r,x,k,h=>by
  have ih := @cY_ sc r x k;have h':List.lookup x ((if (k₀ == NameKind.free && sc.kind == .function && sc.names.lookup n == some .cell)=true then (n,NameKind.cell) else (n,k₀))::(r.map _))=some k:=h;cases hx:x == n with
  | true =>
   simp only [lookup_cons,hx];by_cases hc:(k₀ == NameKind.free && sc.kind == .function && sc.names.lookup n == some .cell)=true
   ·rw [if_pos hc] at h'
    simp only [lookup_cons,hx] at h';cases h';simp only [and_eq_true,beq_iff_eq] at hc;exact ⟨k₀,rfl,.inr ⟨hc.1.1,rfl⟩⟩
   rw [if_neg hc] at h';simp only [lookup_cons,hx] at h';cases h';exact ⟨_,rfl,.inl rfl⟩
  | false =>
  simp only [lookup_cons,hx];by_cases hc:(k₀ == NameKind.free && sc.kind == .function && sc.names.lookup n == some .cell)=true
  ·rw [if_pos hc] at h'
   simp only [lookup_cons,hx] at h';exact ih h'
  rw [if_neg hc] at h';simp only [lookup_cons,hx] at h';exact ih h'
structure BlkOk (N:List Str) (sc scope:Scope) (own:List (Str×Nat)):Prop where
 kind:scope.kind = .function
 uniq : ∀ y∈scope.names,scope.names.lookup y.1=some y.2
 ix : ∀ p∈own,N[p.2]? = some p.1
 free : ∀ y∈scope.names,y.2 = .free->sc.names.lookup y.1=some .cell\/sc.names.lookup y.1=some .free
 own : ∀ y∈scope.names,y.2 = .local\/y.2 = .cell->y.1∈own.map (·.1)\/y.1∉N
def wipe (σ:St):List Nat->St
 | []=>σ
 | v::vs=>(wipe σ vs).set v none
theorem cQ_ (σ:St) : ∀ vs:List Nat,(wipe σ vs).length=σ.length
 | []=>rfl
 | v::vs=>by unfold wipe;rw [length_set,cQ_ σ vs]
theorem ej_ {σ:St}{i:Nat}{x:V} : ∀ {vs:List Nat},(wipe σ vs)[i]? = some (some x)->σ[i]? = some (some x)/\i∉vs
 | [],h=>⟨h,by simp⟩
 | v::vs,h=>by
  unfold wipe at h;by_cases hi:v=i
  ·subst hi
   by_cases hv:v<(wipe σ vs).length
   ·rw [getElem?_set_self hv] at h;cases h
   rw [List.getElem?_eq_none (by simpa using hv)] at h;cases h
  rw [getElem?_set_ne hi] at h;obtain ⟨h1,h2⟩:=ej_ h;exact ⟨h1,by simp only [mem_cons,not_or];exact ⟨fun e=>hi e.symm,h2⟩⟩
noncomputable abbrev Cx.blk (X:Cx) (s:Shared) (H:Hp) (scope:Scope) (zr:Env) (fp:List Addr):Cx:={ X with s_0:=s,H_0:=H,env:=zr,outer:=X.stack,ex:=fp,fn:=fun x=>scope.names.lookup x == some .cell,pn:=[],xe:=fun _ _=>False }
section
variable {X:Cx}{zz:zP}{σ:St}{H:Hp}{s:Shared}
theorem ie_ {scope:Scope}{own:List (Str×Nat)}{fp:List Addr} (I:Inv X zz σ H s) (ok:BlkOk X.N X.env.scope scope own) (hN:X.N.Nodup) (hfp : ∀ b∈fp,FpOk X zz H b/\b<s.heap.objs.size) :
  Inv (X.blk s H scope (compEnvC scope (cellsFrom (s.heap.objs.size+1) scope.names (aX_ X.env.cells scope.names [])) s.heap.objs.size X.env) fp) [] (wipe σ (own.map (·.2))) H { s with heap:=pushCells (s.heap.push { cls := .type "dict",data := .dict #[] }) scope.names }:=by
 have hfree : ∀ y∈scope.names,y.2 = .free->∃ c,X.env.cells.lookup y.1=some c:=fun y hy e=>by
  rcases ok.free y hy e with k | k
  ·exact I.ok.has _ (.inl k)
  exact I.ok.has _ (.inr k)
 generalize hcenv:compEnvC scope (cellsFrom (s.heap.objs.size+1) scope.names (aX_ X.env.cells scope.names [])) s.heap.objs.size X.env=zr;have kp : ∀ b o,s.heap.get? b=some o->(pushCells (s.heap.push { cls := .type "dict",data := .dict #[] }) scope.names).get? b=some o:=fun b o e=>pushCells_keeps _ _ _ _ (get?_push_of_some _ e);have hL:zr.locals=s.heap.objs.size:=by rw [<- hcenv];rfl
 have hcl:zr.cells=cellsFrom (s.heap.objs.size+1) scope.names (aX_ X.env.cells scope.names []):=by rw [<- hcenv];rfl
 have hsc:zr.scope=relS scope X.env.scope:=by rw [<- hcenv];rfl
 rw [<- size_push s.heap { cls := .type "dict",data := .dict #[] }] at hcl;have cm : ∀ {y c},(y,c)∈aX_ X.env.cells scope.names []->X.env.cells.lookup y=some c/\c<s.heap.objs.size:=fun {y c} hm=>by
  rcases ci_ hm with hm | ⟨h1,rfl⟩
  ·cases hm
  obtain ⟨c,hc⟩:=hfree _ h1 rfl;rw [hc];obtain ⟨w,z⟩:=I.cell _ _ hc;exact ⟨rfl,z.lt⟩
 have mem : ∀ {y c},zr.cells.lookup y=some c->(X.env.cells.lookup y=some c/\c<s.heap.objs.size)\/(s.heap.objs.size+1<=c/\nB_ (pushCells (s.heap.push { cls := .type "dict",data := .dict #[] }) scope.names) c none):=fun {y c} e=>by
  rw [hcl] at e;rcases cy_ (PySem.mem_of_lookup e) with hm | ⟨_,h2,h3⟩
  ·exact .inl (cm hm)
  rw [size_push] at h2;exact .inr ⟨h2,h3⟩
 have look : ∀ {y},scope.names.lookup y=some .free->∃ c,zr.cells.lookup y=some c/\X.env.cells.lookup y=some c:=fun {y} hl=>by
  have hy:(y,NameKind.free)∈scope.names:=PySem.mem_of_lookup hl;obtain ⟨c',e'⟩:=dF_ (dt_ (names:=scope.names) (n:=(s.heap.push { cls := .type "dict",data := .dict #[] }).objs.size) (c5_ (cells:=X.env.cells) (zx:=[]) hy));rw [<- hcl] at e';refine ⟨c',e',?_⟩;rw [hcl] at e';rcases cy_ (PySem.mem_of_lookup e') with hm | ⟨h1,_,_⟩
  ·exact (cm hm).1
  have:=ok.uniq _ h1;rw [hl] at this;cases this
 have okB:(X.blk s H scope zr fp).Ok:=by
  refine ⟨I.ok.mod,by show zr.scope.kind=_;rw [hsc];exact ok.kind,by show zr.globals=_;rw [<- hcenv];exact I.ok.glob,by show zr.builtins=_;rw [<- hcenv];exact I.ok.blt,by show s.heap.objs.size<=zr.locals;rw [hL];exact Nat.le_refl _,
   fun y z c e1 e2=>?_,fun y hy=>?_,fun y c z e=>?_,I.ok.hd,I.ok.frames,.inl rfl,fun b hb=>⟨?_,fun y c e z=>?_⟩,I.bs,Nat.le_trans I.ok.bsz I.sz,fun b o e hb=>?_,fun b hb z=>?_,I.stack,I.stkFree⟩
  ·have e1:zr.cells.lookup y=some c:=e1
   have e2:zr.cells.lookup z=some c:=e2;rw [hcl] at e1 e2;refine eT_ (fun p hp=>?_) (fun y z c a b=>I.ok.inj y z c (cm a).1 (cm b).1) (PySem.mem_of_lookup e1) (PySem.mem_of_lookup e2);rw [size_push];exact Nat.lt_succ_of_lt (cm (y:=p.1) (c:=p.2) hp).2
  ·show ∃ c,zr.cells.lookup y=some c
   have key : ∀ k,zr.kindOf y=some k->(k = .cell\/k = .free)->∃ c,zr.cells.lookup y=some c:=fun k hk hk'=>by
    unfold Env.kindOf at hk;rw [hsc] at hk;obtain ⟨k',e,r⟩:=cY_ hk;have:k' = .cell\/k' = .free:=by
     rcases r with rfl | ⟨rfl,_⟩
     ·exact hk'
     exact .inr rfl
    rcases this with rfl | rfl
    ·obtain ⟨c,hm⟩:=eU_ (n:=(s.heap.push { cls := .type "dict",data := .dict #[] }).objs.size) (zx:=aX_ X.env.cells scope.names []) (PySem.mem_of_lookup e)
     obtain ⟨c',e'⟩:=dF_ hm;exact ⟨c',by rw [hcl];exact e'⟩
    obtain ⟨c,h1,_⟩:=look e;exact ⟨c,h1⟩
   rcases hy with hy | hy
   ·exact key _ hy (.inl rfl)
   exact key _ hy (.inr rfl)
  ·have z:(scope.names.lookup y == some NameKind.cell)=true:=z
   have z:scope.names.lookup y=some .cell:=by simpa using z
   have e:zr.cells.lookup y=some c:=e;rw [hcl] at e;rcases cy_ (PySem.mem_of_lookup e) with hm | ⟨_,h2,_⟩
   ·rcases ci_ hm with hm | ⟨h1,_⟩
    ·cases hm
    have q:=ok.uniq _ h1;rw [z] at q;cases q
   rw [size_push] at h2;exact le_of_succ_le h2
  ·show b≠zr.locals
   rw [hL];exact Nat.ne_of_lt (hfp b hb).2
  ·have e:zr.cells.lookup y=some c:=e
   rcases mem e with ⟨h1,_⟩ | ⟨h1,_⟩
   ·exact (hfp b hb).1.2.2.2.2.1 y c h1 z
   have h2:s.heap.objs.size+1<=b:=by rw [<- z];exact h1
   exact absurd (Nat.lt_of_lt_of_le (hfp b hb).2 (le_of_succ_le h2)) (Nat.lt_irrefl _)
  ·rcases (hfp b hb).1.2.2.2.1 with z | z
   ·exact I.ok.noex b o e z
   exact absurd (Nat.lt_of_lt_of_le (lt_size e) (Nat.le_trans I.ok.bsz z)) (Nat.lt_irrefl _)
  rcases mem_cons.mp (I.stkSub b z) with z | z
  ·exact (hfp b hb).1.2.1 z
  exact (hfp b hb).1.2.2.1 z
 refine ⟨okB,rfl,I.bare,Un.kept kp,⟨fun _=>none,?_,fun i y av e1 e2 e3=>?_⟩,fun y c e=>?_,?_,fun y c e=>?_,fun p hp=>?_,I.hok.kept kp,by rw [cQ_];exact I.len⟩
 ·show Heap.Ns _ zr.locals _
  rw [hL];exact Heap.Ns.keeps (Heap.Ns.new ..) fun b o e=>pushCells_keeps _ _ _ _ e
 ·obtain ⟨e2,hne⟩:=ej_ e2
  have hfr:scope.names.lookup y=some .free/\(zr.kindOf y=some .cell\/zr.kindOf y=some .free):=by
   have key : ∀ k,zr.scope.names.lookup y=some k->k = .local\/k = .cell\/k = .free->scope.names.lookup y=some .free/\(zr.kindOf y=some .cell\/zr.kindOf y=some .free):=fun k hk hk'=>by
    have hk0:=hk;rw [hsc] at hk;obtain ⟨k',e,r⟩:=cY_ hk;have no : ¬ (k' = .local\/k' = .cell):=fun hh=>by
     rcases ok.own _ (PySem.mem_of_lookup e) hh with e' | e'
     ·obtain ⟨p,hp,hpy⟩:=mem_map.mp e'
      have e3:=ok.ix p hp;have:p.1=y:=hpy;rw [this] at e3;exact hne (mem_map.mpr ⟨p,hp,f0_ hN e3 e1⟩)
     exact e' (mem_of_getElem? e1)
    rcases r with rfl | ⟨rfl,rfl⟩
    ·rcases hk' with rfl | rfl | rfl
     ·exact absurd (.inl rfl) no
     ·exact absurd (.inr rfl) no
     exact ⟨e,.inr hk0⟩
    exact ⟨e,.inl hk0⟩
   have e3:Vis zr.scope y:=e3;rcases e3 with e3 | e3 | e3
   ·exact key _ e3 (.inl rfl)
   ·exact key _ e3 (.inr (.inl rfl))
   exact key _ e3 (.inr (.inr rfl))
  obtain ⟨m,hn,hl⟩:=I.loc;have hvis:Vis X.env.scope y:=(ok.free _ (PySem.mem_of_lookup hfr.1) rfl).elim (fun k => .inr (.inl k)) (fun k => .inr (.inr k));obtain ⟨w,r,q⟩:=hl i y av e1 e2 hvis;refine ⟨w,r,.inr ⟨hfr.2,?_⟩⟩;obtain ⟨c,h1,h2⟩:=look hfr.1;rcases q with ⟨k,_⟩ | ⟨_,c',e',z⟩
  ·have k:X.env.scope.names.lookup y=some .local:=k
   rcases ok.free _ (PySem.mem_of_lookup hfr.1) rfl with k' | k' <;> rw [show X.env.scope.names.lookup y=_ from k'] at k <;> cases k
  rw [h2] at e';cases e';exact ⟨c,h1,z.keeps kp⟩
 ·have e:zr.cells.lookup y=some c:=e
  rcases mem e with ⟨h1,_⟩ | ⟨_,z⟩
  ·obtain ⟨w,z⟩:=I.cell y c h1
   exact ⟨w,z.keeps kp⟩
  exact ⟨_,z⟩
 ·show H zr.locals=none
  rw [hL];exact I.hok.fresh (Nat.le_refl _)
 ·have e:zr.cells.lookup y=some c:=e
  rcases mem e with ⟨h1,_⟩ | ⟨h1,_⟩
  ·exact I.freeC y c h1
  exact I.hok.fresh (le_of_succ_le h1)
 exact absurd (show p∈([]:zP)++[] from hp) (by simp)
theorem p9_ {E:zQ}{D:Addr}{xs:List V}{y:V}{v:Value}{Q:zQ} (I:Inv X zz σ H s) (hD:H D=some (.lst xs)) (hz:xs.length<sizeLine) (r:RelV y v)
  (h : ∀ s',Inv X zz σ (upd H D (.lst (xs++[y]))) s'->Q .none s'):wpAny (model X.prog X.w) X.A (call (.builtin "list.append") [.ref D,v]) Q E s:=by
 refine x_01 (I.hok D _ hD) fun hz' zz0=>?_;refine x_21 zz0 fun zw n ri e=>?_;have hl:=ri.length;refine append_at (hsz:=by rw [size_toArray];omega) e fun h' sb ho'=>?_;refine h { s with heap:=h' } (I.write (t':=s.toks) (by rw [hD];trivial) (.inl rfl) (fun b u hb q=>(sb.2 b hb).trans q) ⟨_,ho'⟩ ⟨by rw [length_append];exact hz,zw++[v],n+1,ri.append (.cons r .nil),?_⟩);rw [ho'];simp
def PTs (X:Cx) (ifs:List Expr) (t:TT):Prop :=
 ∀ (zz:zP) (s:Shared) (σ:St) (H:Hp) (Q:Bool->Hp->Prop),Inv X zz σ H s->t σ H Q ->
  wpAny (model X.prog X.w) X.A (forIn ifs true fun c r=>if r=true then do let ok <- isTrue c X.env (eval c X.env);pure (ForInStep.yield ok) else pure (ForInStep.yield r)) (TP X zz σ Q) X.xe s
def tYes:TT:=fun _ H Q=>Q true H
theorem fO_:PTs X [] tYes:=fun _ _ _ H _ I h=>wpAny_tests_nil ⟨H,I,h⟩
theorem kt_ {c:Expr}{t:TT} (h:PT X c t):PTs X [c] t:=fun zz s σ H Q I hw=>wpAny_tests_one (h zz s σ H Q I hw)
end
theorem thnF {α:Type}{t:Sem α}{Q Q':α->Shared->Prop}{M:Model}{A:Around}{E:zQ}{s:Shared} (h:wpAny M A t Q (fun _ _=>False) s) (hQ : ∀ a s,Q a s->Q' a s):wpAny M A t Q' E s:=wpAny_mono h hQ fun _ _ z=>False.elim z
theorem hr_ {prog:Program}{w:World}{A:Around}{R:Result->Shared->Prop}{s:Shared}{elt target iter:Expr}{ifs:List Expr}{scope:Scope}{pos:Pos}{it zx:Value}{env:Env} (I:Nat->Shared->Prop)
  (turn : ∀ n s,I n s->wpAny (model prog w) A (pyNext it) (fun r s₁=>match r with
   | none=>R (.ok .next) s₁
   | some v=>wpAny (model prog w) A (letOwnedTupleGo target it v) (fun _ s₁'=>wpAny (model prog w) A (assign target env v) (fun _ s₂ =>
     wpAny (model prog w) A (forIn ifs true fun c r=>if r=true then do let ok <- isTrue c env (eval c env);pure (ForInStep.yield ok) else pure (ForInStep.yield r)) (fun ok s₃ =>
      if ok=true then wpAny (model prog w) A (eval elt env) (fun x s₄ =>
       wpAny (model prog w) A (call (.builtin "list.append") [zx,x]) (fun _ s₅=>∃ m,m<n/\I m s₅) (notedBy (model prog w) A env fun e s'=>R (.error e) s') s₄) (notedBy (model prog w) A env fun e s'=>R (.error e) s') s₃
      else ∃ m,m<n/\I m s₃) (notedBy (model prog w) A env fun e s'=>R (.error e) s') s₂) (notedBy (model prog w) A env fun e s'=>R (.error e) s') s₁') (notedBy (model prog w) A env fun e s'=>R (.error e) s') s₁) (notedBy (model prog w) A env fun e s'=>R (.error e) s') s)
  (n:Nat) (h:I n s) :
  codeAny (model prog w) A (.compLoop (.ListComp elt [⟨target,iter,ifs,0⟩] scope pos) 0 it zx env) R s:=by
 refine codeAny_loop rfl I (fun n s hI=>?_) n h;show wpAny _ A ((compTurn (.ListComp elt [⟨target,iter,ifs,0⟩] scope pos) 0 it zx env).onRaise (fun x=>do noteFrame x env;theTreesLotGoes x)) _ _ s;refine wpAny_noted ?_;rw [compTurn_list];refine wpAny_bind (wpAny_standAt (wpAny_bind (wpAny_mono (turn n s hI) (fun r s₁ h₁=>?_) fun _ _ h'=>h')));cases r with
 | none=>exact wpAny_pure h₁
 | some v =>
 refine wpAny_bind (wpAny_mono h₁ (fun _ s₁' h₁'=>?_) fun _ _ h'=>h');refine wpAny_bind (wpAny_mono h₁' (fun _ s₂ h₂=>wpAny_bind (wpAny_mono h₂ (fun ok s₃ h₃=>?_) fun _ _ h'=>h')) fun _ _ h'=>h');cases ok with
 | false=>exact wpAny_pure ⟨rfl,h₃⟩
 | true =>
 exact wpAny_bind (wpAny_bind (wpAny_mono h₃ (fun x s₄ h₄=>wpAny_bind (wpAny_mono h₄ (fun _ s₅ h₅=>wpAny_pure (wpAny_pure ⟨rfl,h₅⟩)) fun _ _ h'=>h')) fun _ _ h'=>h'))
section
variable {X:Cx}
def tLc (wi:TI) (g:TG) (tt:TT) (te:TE) (vs:List Nat):TE:=fun σ H Q=>wi σ H fun J H1=>∀ D,H1 D=none->∃ W:Nat->Nat->Hp->Prop,(∃ m,W 0 m (upd H1 D (.lst [])))/\∀ i m H,W i m H ->
 (J.stop i H/\Q (.ref D) H)\/(J.go i H/\∃ Nx:Hp->Prop,(∀ H',Nx H'->∃ m',m'<m/\W (i+1) m' H')/\∀ x H',J.yld i H x H'->g x (wipe σ vs) H' fun σ2 H2=>wipe σ2 vs=wipe σ vs/\tt σ2 H2 fun b H3 =>
  if b=true then te σ2 H3 fun y H4=>∃ zx,H4 D=some (.lst zx)/\zx.length<sizeLine/\Nx (upd H4 D (.lst (zx++[y]))) else Nx H3)
theorem oz_ {zz:zP}{s:Shared}{σ:St}{H:Hp}{Q:VK}{elt tg iter:Expr}{ifs:List Expr}{scope:Scope}{own:List (Str×Nat)}{pos pos':Pos}{wi:TI}{g:TG}{tt:TT}{te:TE}{use:Option (Value->Sem Unit)}{Qf:zQ}
  (hc:X.calm=true) (hN:X.N.Nodup) (I:Inv X zz σ H s) (hi:PI X tg iter wi) (ok:BlkOk X.N X.env.scope scope own)
  (hg : ∀ (s:Shared) (H:Hp) (C:Addr) (cl:List (Str×Addr)) (fp:List Addr),PG (X.blk s H scope (compEnvC scope cl C X.env) fp) tg g) (ht : ∀ (s:Shared) (H:Hp) (C:Addr) (cl:List (Str×Addr)) (fp:List Addr),PTs (X.blk s H scope (compEnvC scope cl C X.env) fp) ifs tt)
  (he : ∀ (s:Shared) (H:Hp) (C:Addr) (cl:List (Str×Addr)) (fp:List Addr),PE (X.blk s H scope (compEnvC scope cl C X.env) fp) elt te) (hs : ∀ x,foldedSetIterable iter X.env x=pure x)
  (h:tLc wi g tt te (own.map (·.2)) σ H Q)
  (hRR : ∀ D C s' m H',Inv X zz σ H' s'->Q (.ref D) H'->s'.heap.Ns C m->FpOk X zz H' C->compPost (model X.prog X.w) X.A X.xe use Qf (.ref D) C (.ok .next) s') :
  wpAny (model X.prog X.w) X.A (comprehension (.ListComp elt [⟨tg,iter,ifs,0⟩] scope pos) scope X.env pos' (newList []) false (eval iter X.env) use) Qf X.xe s:=by
 have hfree : ∀ y∈scope.names,y.2 = .free->∃ c,X.env.cells.lookup y.1=some c:=fun y hy e=>by
  rcases ok.free y hy e with k | k
  ·exact I.ok.has _ (.inl k)
  exact I.ok.has _ (.inr k)
 refine wpAny_comprehension_free (use:=use) rfl hs (jN_ hfree) ok.kind (fun y hy e=>by rw [ok.uniq y hy,e])
  (thn (hi zz s σ H _ I h) fun xv s1 hx=>thn hx fun itv s2 h2=>?_)
 refine x_50 h2 fun it fp tn J H2 zy=>x_05 zy fun e I2 T st2 f2 q=>?_;subst e;refine wpAny_newObj_type (hV_ ?_) (by show 0<=sizeLine;decide);generalize hD:s2.heap.objs.size=D;have hDn:H2 D=none:=I2.hok.fresh (Nat.le_of_eq hD);obtain ⟨W,⟨m0,w0⟩,turn⟩:=q D hDn;generalize hs3:({ s2 with heap:=s2.heap.push { cls := .type "list",data := .seq ([]:List Value).toArray } }:Shared)=s3;have I3:Inv X zz σ (upd H2 D (.lst [])) s3:=by
  rw [<- hs3];refine I2.laid (t':=s2.toks) (fun b o e=>get?_push_of_some _ e) (Nat.le_of_eq hD) ⟨zero_le _,[],0,.nil,?_⟩;rw [<- hD];exact get?_push_size _ rfl
 have h3:s3.heap=s2.heap.push { cls := .type "list",data := .seq ([]:List Value).toArray }:=by rw [<- hs3]
 have sz : ∀ b∈fp,b<s2.heap.objs.size:=fun b hb=>by
  obtain ⟨o,e,_⟩:=T.obj _ _ st2 b hb;exact lt_size e
 have f3 : ∀ b∈fp,FpOk X zz (upd H2 D (.lst [])) b/\b<s3.heap.objs.size:=fun b hb=>by
  have hlt:=sz b hb;refine ⟨⟨?_,(f2 b hb).2⟩,by rw [h3,size_push];exact Nat.lt_succ_of_lt hlt⟩;rw [ag_ (by rw [<- hD];exact Nat.ne_of_lt hlt)];exact (f2 b hb).1
 have st3:tn 0 s3.heap:=T.keep _ _ _ st2 fun b _ o e=>by rw [h3];exact get?_push_of_some _ e
 have I4:=ie_ I3 ok hN f3;have pg:=hg s3 (upd H2 D (.lst [])) s3.heap.objs.size (cellsFrom (s3.heap.objs.size+1) scope.names (aX_ X.env.cells scope.names [])) fp;have pt:=ht s3 (upd H2 D (.lst [])) s3.heap.objs.size (cellsFrom (s3.heap.objs.size+1) scope.names (aX_ X.env.cells scope.names [])) fp;have pe:=he s3 (upd H2 D (.lst [])) s3.heap.objs.size (cellsFrom (s3.heap.objs.size+1) scope.names (aX_ X.env.cells scope.names [])) fp;show codeAny _ _ (.compStart (.ListComp elt [⟨tg,iter,ifs,0⟩] scope pos) 0 (.ref it) (.ref D) (compEnvC scope (cellsFrom (s3.heap.objs.size+1) scope.names (aX_ X.env.cells scope.names [])) s3.heap.objs.size X.env)) (compPost (model X.prog X.w) X.A X.xe use Qf (.ref D) s3.heap.objs.size) { s3 with heap:=pushCells (s3.heap.push { cls := .type "dict",data := .dict #[] }) scope.names };have nfp : ∀ b∈fp,(upd H2 D (.lst [])) b=none:=fun b hb=>(f3 b hb).1.1;generalize hce:compEnvC scope (cellsFrom (s3.heap.objs.size+1) scope.names (aX_ X.env.cells scope.names [])) s3.heap.objs.size X.env=ce at I4 pg pt pe ⊢;have cL:ce.locals=s3.heap.objs.size:=by subst hce;rfl
 generalize hH3:upd H2 D (.lst [])=H3 at I3 I4 pg pt pe w0 nfp f3;generalize hs4:({ s3 with heap:=pushCells (s3.heap.push { cls := .type "dict",data := .dict #[] }) scope.names }:Shared)=s4 at I4 ⊢;have st4:tn 0 s4.heap:=T.keep _ _ _ st3 fun b _ o e=>by rw [<- hs4];exact pushCells_keeps _ _ _ _ (get?_push_of_some _ e)
 have stat : ∀ {σ':St}{H':Hp}{s':Shared},Inv (X.blk s3 H3 scope ce fp) [] σ' H' s'->(∀ b∈fp,H' b=none)->∀ b∈fp,FpOk (X.blk s3 H3 scope ce fp) [] H' b:=fun {σ' H' s'} I' hn b hb =>
  ⟨hn b hb,(I'.ok.exf b hb).1,I'.ok.exfs b hb,.inl hb,fun x c e=>(I'.ok.exf b hb).2 x c e,fun p hp=>absurd (show p∈([]:zP)++[] from hp) (by simp)⟩
 have loop:codeAny (model X.prog X.w) X.A (.compLoop (.ListComp elt [⟨tg,iter,ifs,0⟩] scope pos) 0 (.ref it) (.ref D) ce) (compPost (model X.prog X.w) X.A X.xe use Qf (.ref D) s3.heap.objs.size) s4:=by
  refine hr_ (fun n s'=>∃ i H',Inv (X.blk s3 H3 scope ce fp) [] (wipe σ (own.map (·.2))) H' s'/\tn i s'.heap/\(∀ b∈fp,H' b=none)/\W i n H') ?_ m0 ⟨0,H3,I4,st4,nfp,w0⟩
  rintro n s5 ⟨i,H5,I5,st5,n5,w5⟩
  rcases turn i n H5 w5 with ⟨stop,qq⟩ | ⟨go,Nx,hNx,step⟩
  ·have td:=T.done (X.blk s3 H3 scope ce fp) rfl rfl rfl hc i [] s5 _ H5 (fun _ _=>False) I5 (stat I5 n5) st5 stop
   refine thnF td fun r s6 ⟨hr,I6⟩=>?_;subst hr;have I7:Inv X zz σ H5 s6:=I3.call' (ch:=fp) I6.os I6.base I6.hok I6.bare fun b hb=>⟨(f3 b hb).1.2.2.2.1,(f3 b hb).1.2.1,(f3 b hb).1.2.2.2.2.1,(f3 b hb).1.2.2.2.2.2⟩;have nC:H5 s3.heap.objs.size=none:=by
    have z:H5 ce.locals=none:=I6.free;rw [cL] at z;exact z
   obtain ⟨m,hn,_⟩:=I6.loc;have hn:s6.heap.Ns ce.locals m:=hn;rw [cL] at hn;exact hRR D s3.heap.objs.size s6 m H5 I7 qq hn (I3.fpOk (Nat.le_refl _) nC)
  have ti:=T.item (X.blk s3 H3 scope ce fp) rfl rfl rfl hc i [] s5 _ H5 (fun _ _=>False) I5 (stat I5 n5) st5 go;refine thnF ti fun r s6 ⟨u,hr,h6⟩=>?_;subst hr;refine thnF h6 fun _ s7 zq=>?_;refine x_24 zq fun x H7 I7 r7 y7 st7 n7=>?_;have I7':=I7.pinned (stat I7 n7) (T.obj _ _ st7);refine thnF (pg _ s7 _ H7 x u _ I7' r7 (step x H7 y7)) fun _ s8 zq=>?_;refine x_22 zq fun σ8 H8 I8 hw8 q8=>?_;refine thnF (pt _ s8 σ8 H8 _ I8 q8) fun b s9 ⟨H9,I9,q9⟩=>?_;have fin : ∀ {s':Shared}{H':Hp},Inv (X.blk s3 H3 scope ce fp) ([]++fg_ fp s7.heap) σ8 H' s'->Nx H'->∃ m,m<n/\∃ i H',Inv (X.blk s3 H3 scope ce fp) [] (wipe σ (own.map (·.2))) H' s'/\tn i s'.heap/\(∀ b∈fp,H' b=none)/\W i m H':=fun {s' H'} I' nx=>by
   obtain ⟨m',hm,w'⟩:=hNx H' nx;have pin' : ∀ b∈fp,∀ o,s7.heap.get? b=some o->s'.heap.get? b=some o/\H' b=none:=fun b hb o e =>
    let z:=I'.pin (b,o) (mem_append_right _ (mem_append_right _ (b4_ hb e)))
    ⟨z.1,z.2.1⟩
   have hl:(wipe σ (own.map (·.2))).length=σ8.length:=by rw [<- hw8,cQ_]
   refine ⟨m',hm,i+1,H',(I'.unpinned (zz:=[])).weak hl (fun j v e=>?_),T.keep _ _ _ st7 fun b hb o e=>(pin' b hb o e).1,fun b hb=>?_,w'⟩
   ·rw [<- hw8] at e
    exact (ej_ e).1
   obtain ⟨o,e,_⟩:=T.obj _ _ st7 b hb;exact (pin' b hb o e).2
  cases b with
  | false =>
   simp only [false_eq_true,if_false] at q9 ⊢;exact fin I9 q9
  | true =>
  simp only [if_true] at q9 ⊢;refine thnF (pe _ s9 σ8 H9 _ I9 q9) fun z s10 zq=>?_;refine x_22 zq fun yv H10 I10 r10 zz0=>?_;refine x_12 zz0 fun zx hD10 hz10 nx=>?_;exact p9_ (X:=X.blk s3 H3 scope ce fp) I10 hD10 hz10 r10 fun s11 I11=>fin I11 nx
 exact codeAny_compStart_list loop (T.self X.A 0 _ _ _ st4 loop)
theorem jl_ {elt tg iter:Expr}{ifs:List Expr}{scope:Scope}{own:List (Str×Nat)}{pos:Pos}{wi:TI}{g:TG}{tt:TT}{te:TE} (hc:X.calm=true) (hN:X.N.Nodup) (hi:PI X tg iter wi) (ok:BlkOk X.N X.env.scope scope own)
  (hg : ∀ (s:Shared) (H:Hp) (C:Addr) (cl:List (Str×Addr)) (fp:List Addr),PG (X.blk s H scope (compEnvC scope cl C X.env) fp) tg g) (ht : ∀ (s:Shared) (H:Hp) (C:Addr) (cl:List (Str×Addr)) (fp:List Addr),PTs (X.blk s H scope (compEnvC scope cl C X.env) fp) ifs tt)
  (he : ∀ (s:Shared) (H:Hp) (C:Addr) (cl:List (Str×Addr)) (fp:List Addr),PE (X.blk s H scope (compEnvC scope cl C X.env) fp) elt te) (hs : ∀ x,foldedSetIterable iter X.env x=pure x:=by intro _;rfl) :
  PE X (.ListComp elt [⟨tg,iter,ifs,0⟩] scope pos) (tLc wi g tt te (own.map (·.2))):=by
 intro zz s σ H Q I h;rw [eval_ListComp];refine oz_ hc hN I hi ok hg ht he hs h fun D C s' m H' I' q hn f=>⟨m,hn,fun h'' sb=>?_⟩;obtain ⟨f0,f1,f2,f3,f4,f5⟩:=f;exact ⟨.ref D,H',I'.turned (t':=s'.toks) (fun b o hb e=>(sb.2 b hb).trans e) f0 f1 f3 f4 f5,rfl,q⟩
end
noncomputable def blkC (N:List Str) (sc scope:Scope) (own:List (Str×Nat)):Bool :=
 (match scope.kind with | .function=>true | _=>false) && (scope.names.all fun y=>decide (scope.names.lookup y.1=some y.2)) && (own.all fun p=>decide (N[p.2]? = some p.1)) &&
  (scope.names.all fun y=>match y.2 with
   | .free=>(match sc.names.lookup y.1 with | some .cell=>true | some .free=>true | _=>false)
   | .local=>decide (y.1∈own.map (·.1)) || decide (y.1∉N)
   | .cell=>decide (y.1∈own.map (·.1)) || decide (y.1∉N)
   | _=>true)
theorem cG_ {N:List Str}{sc scope:Scope}{own:List (Str×Nat)} (h:blkC N sc scope own=true):BlkOk N sc scope own:=by
 unfold blkC at h;simp only [and_eq_true,all_eq_true,decide_eq_true_eq] at h;obtain ⟨⟨⟨h1,h2⟩,h3⟩,h4⟩:=h;refine ⟨?_,h2,h3,fun y hy e=>?_,fun y hy e=>?_⟩
 ·split at h1
  ·assumption
  cases h1
 ·have q:=h4 y hy
  simp only [e] at q;split at q <;> first | exact .inl (by assumption) | exact .inr (by assumption) | cases q
 have q:=h4 y hy;rcases e with e | e <;> (simp only [e,or_eq_true,decide_eq_true_eq] at q;exact q)
section
variable {κ:Type} [DecidableEq κ]
def valV (zu:List (κ×V)) (k:κ):Option V:=(zu.find? fun kv=>decide (kv.1=k)).map (·.2)
noncomputable def putK (zu:List (κ×V)) (k:κ) (v:V):List (κ×V) :=
 if (zu.any fun kv=>decide (kv.1=k))=true then zu.map (fun kv=>if kv.1=k then (kv.1,v) else kv) else zu++[(k,v)]
theorem im_ {p:κ×V}{r:List (κ×V)}{k:κ} (e:p.1=k):valV (p::r) k=some p.2:=by simp [valV,find?_cons,e]
theorem in_ {p:κ×V}{r:List (κ×V)}{k:κ} (e : ¬ p.1=k):valV (p::r) k=valV r k:=by simp [valV,find?_cons,e]
theorem RelO.isSome_eq {o:Option V}{u:Option Value} (r:RelO o u):o.isSome=u.isSome:=by
 cases o with
 | none=>cases u with
  | none=>rfl
  | some _=>exact (show False from r).elim
 | some _=>cases u with
  | none=>exact (show False from r).elim
  | some _=>rfl
theorem RelO.getD {o:Option V}{u:Option Value}{d:V}{d':Value} (r:RelO o u) (rd:RelV d d'):RelV (o.getD d) (u.getD d'):=by
 cases o with
 | none=>cases u with
  | none=>exact rd
  | some _=>exact (show False from r).elim
 | some _=>cases u with
  | none=>exact (show False from r).elim
  | some _=>exact r
theorem KV.val {zu:List (κ×V)}{vs:List (κ×Value)} (r:KV zu vs) (k:κ):RelO (valV zu k) (valueAt vs k):=by
 unfold KV at r
 induction r with
 | nil=>exact True.intro
 | @cons p q ps qs h t ih =>
 obtain ⟨h1,h2⟩:=h;by_cases e:p.1=k
 ·have e':q.1=k:=h1.symm.trans e
  have b:valueAt (q::qs) k=some q.2:=by simp [valueAt,find?_cons,e']
  rw [im_ e,b];exact h2
 have e' : ¬ q.1=k:=fun z=>e (h1.trans z);have b:valueAt (q::qs) k=valueAt qs k:=by simp [valueAt,find?_cons,e']
 rw [in_ e,b];exact ih
end
theorem pO_ {P:Program}{w:World}{k:Key}{u:Value} (r:RelV (kV k) u):(bK_ P w).is k u=true:=by
 cases k with
 | inl i=>obtain ⟨t,e⟩:=(show ∃ t,u=Value.int i t from r);subst e;exact hX_ P w i t
 | inr x=>obtain ⟨t,e⟩:=(show ∃ t,u=Value.str x t from r);subst e;exact eH_ P w x t
def DGet (H:Hp) (a:Addr) (y:V) (r:Option V):Prop :=
 (∃ zu k,Rd H a (.dK zu)/\y=kV k/\r=valV zu k)\/∃ zu k b,Rd H a (.dT zu)/\y = .ref b/\H b=some (.tup (k.map kV))/\r=valV zu k
def DPut (H:Hp) (a:Addr) (y v:V) (H':Hp):Prop :=
 (∃ zu k,H a=some (.dK zu)/\y=kV k/\zu.length<sizeLine/\H'=upd H a (.dK (putK zu k v))) \/
 ∃ zu k b,H a=some (.dT zu)/\y = .ref b/\H b=some (.tup (k.map kV))/\zu.length<sizeLine/\H'=upd H a (.dT (putK zu k v))
theorem DGet.k {H:Hp}{a:Addr}{zu:List (Key×V)}{k:Key} (e:H a=some (.dK zu)):DGet H a (kV k) (valV zu k) := .inl ⟨zu,k,.inl e,rfl,rfl⟩
theorem DPut.k {H:Hp}{a:Addr}{zu:List (Key×V)}{k:Key}{v:V} (e:H a=some (.dK zu)) (hl:zu.length<sizeLine):DPut H a (kV k) v (upd H a (.dK (putK zu k v))) := .inl ⟨zu,k,e,rfl,hl,rfl⟩
section
variable {X:Cx}{zz:zP}{σ:St}{H:Hp}{s:Shared}
theorem Inv.big (I:Inv X zz σ H s):sysModules<s.heap.objs.size:=by
 have h:mainGlobals<s.heap.objs.size:=(I.mod.glob.keeps I.bk).lt;exact Nat.lt_trans (by decide) h
end
def NoSl (i:Expr):Prop:=∀ ov iv,subscripted i false ov iv=operate [ov,iv] (getItem ov iv)
theorem nQ_ {prog:Program}{w:World}{A:Around}{E:zQ}{s:Shared}{env:Env}{value slice:Expr}{pos:Pos}{T id:String}{Q:zQ}
  (hl:typeLookup (.type T) "__getitem__"=pure (some (.builtin id))) (hs:NoSl slice)
  (h:wpAny (model prog w) A (eval value env) (fun o s₁=>wpAny (model prog w) A (eval slice env) (fun i s₂=>s₂.TypeIs o T/\wpAny (model prog w) A (getItem o i) Q E s₂) E s₁) E s) :
  wpAny (model prog w) A (eval (.Subscript value slice pos) env) Q E s:=by
 refine Subscript_ (wpAny_mono h (fun o s₁ h₁=>wpAny_mono h₁ (fun i s₂ h₂=>?_) fun _ _ x=>x) fun _ _ x=>x);obtain ⟨hT,h₂⟩:=h₂;unfold subscriptTail;refine wpAny_bind ?_;rw [getitemInPython_of_ne hT.not_modules];refine wpAny_bind (wpAny_specialOf hT hl ?_);have fin:wpAny (model prog w) A (subscripted slice false o i) (fun r s₃=>wpAny (model prog w) A (letTemporaryGo value o r >>= fun _=>pure r) Q E s₃) E s₂:=by
  rw [hs o i];exact wpAny_operating (wpAny_mono h₂ (fun r s₃ h₃=>wpAny_bind (wpAny_letTemporaryGo (wpAny_pure h₃))) fun _ _ x=>x)
 first
  | exact wpAny_pure (wpAny_bind fin)
  | exact wpAny_bind (wpAny_pure (wpAny_bind fin))
  | exact wpAny_bind fin
theorem cO_:bootBuiltins "reversed"=some (.type "reversed"):=by left
section
variable {X:Cx}{zz:zP}{σ:St}{H:Hp}{s:Shared}{h':Heap}
theorem Inv.turnedNew {t':Nat}{ch:List Addr}{T:Addr}{ob:HO} (I:Inv X zz σ H s) (k : ∀ b o,b∉ch->s.heap.get? b=some o->h'.get? b=some o) (hf : ∀ b∈ch,FpOk X zz H b) (hT:s.heap.objs.size<=T)
  (new:bd_ X.prog X.w (upd H T ob) h' T ob):Inv X zz σ (upd H T ob) { s with heap:=h',toks:=t' }:=by
 have hn:H T=none:=I.hok.fresh hT;have nit : ∀ b u,H b=some u->b∉ch:=fun b u e z=>by
  have q:=(hf b z).1;rw [q] at e;cases e
 refine I.step (g':=s.gens) (d':=s.drawn) (ch:=ch) (fun b hb=>⟨(hf b hb).2.2.2.1,(hf b hb).2.1,(hf b hb).2.2.2.2.1,(hf b hb).2.2.2.2.2⟩) (fun b o _ _ hc e _=>k b o hc e) (fun b o _ _ hc e _=>⟨o.slots,k b o hc e⟩)
  (fun b o _ e n=>?_) (fun b o hc e=>⟨o,k b o hc e⟩) (fun b xs e=>?_) (fun b o u e=>?_) (fun b ps e=>⟨#[],?_⟩) (fun m hm=>?_) (fun b u e=>?_) I.bare
 ·rw [ag_ (Nat.ne_of_lt (Nat.lt_of_lt_of_le (lt_size e) hT))];exact n
 ·rw [ag_ (ai_ e hn)];exact e
 ·rw [ag_ (ai_ e hn)];exact e
 ·rw [ag_ (ai_ e hn),e];simp
 ·obtain ⟨o,es,ep,ho,r⟩:=hm
  exact ⟨o,es,ep,k _ o (fun z=>(hf _ z).2.1 rfl) ho,r⟩
 by_cases hb:b=T
 ·subst hb
  rw [af_] at e;cases e;exact new
 rw [ag_ hb] at e;refine (I.hok b u e).stay (fun c v hc q=>k c v ?_ q) (fun c q=>by rw [ag_ (ai_ q hn)];exact q) fun c xs q=>by rw [ag_ (ai_ q hn)];exact q
 rcases hc with z | z
 ·rw [z];exact nit b u e
 exact nit c _ z
end
section
variable {X:Cx}
theorem iI_ {tg:Expr}{zz:zP}{σ:St}{H:Hp}{s:Shared}{R:It->Hp->Prop}{J:It}{tn:Nat->Heap->Prop}{tk:Nat} (I:Inv X zz σ H s) (o:Obj)
  (T:Turn X.prog X.w X.K tg J [s.heap.objs.size] s.heap.objs.size tn) (st:tn 0 (s.heap.push o)) (q:R J H):PIE X zz σ tg R (.ref s.heap.objs.size) { s with heap:=s.heap.push o,toks:=tk }:=by
 refine ⟨s.heap.objs.size,[s.heap.objs.size],tn,J,H,rfl,I.kept fun b ob e=>get?_push_of_some _ e,T,st,fun b hb=>?_,q⟩;have e:b=s.heap.objs.size:=by simpa using hb
 subst e;exact I.fpOk (Nat.le_refl _) (I.hok.fresh (Nat.le_refl _))
end
def Itv (K:Frag) (a:Addr) (n:Nat):It :=
 ⟨fun i H=>i<n/\∃ (xs:List V) (x:V),SqL K H a xs/\xs[n - 1 - i]? = some x,fun i H x H'=>H'=H/\∀ xs,SqL K H a xs->xs[n - 1 - i]? = some x,fun i _=>n<=i⟩
theorem lI_ {P:Program}{w:World}{K:Frag}{tg:Expr} (a it:Addr) (n:Nat):Turn P w K tg (Itv K a n) [it] it (fun i h=>i<=n/\h.IsRevIter it a ((n:Int) - 1 - (i:Nat))) where
 mem:=by simp
 obj:=fun i h st b hb=>by
  have e:b=it:=by simpa using hb
  subst e;refine x_01 st fun _ zz0=>?_;refine x_12 zz0 fun o e c d=>?_;exact ⟨o,e,fun v z=>by rw [d] at z;cases z⟩
 keep:=fun i h h' st k=>⟨st.1,st.2.at fun o e=>k it (by simp) o e⟩
 item:=by
  intro X hP hw hK hc i zz s σ H E I hf st hg;subst hP hw hK;refine x_01 hg fun hin zz0=>?_;refine x_21 zz0 fun xs x hq hx=>?_;refine x_12 (I.list hq) fun zw rv p hz=>?_;obtain ⟨u,hu,ru⟩:=rv.get hx;obtain ⟨f0,f1,f2,f3,f4,f5⟩:=hf it (by simp);obtain ⟨_,hit⟩:=st;have e1:(n:Int) - 1 - ((i:Nat):Int)=((n - 1 - i:Nat):Int):=by omega
  rw [e1] at hit;refine wpAny_pyNext_rev_item hit p.isList (x:=u) (by simpa using hu) fun h' st' sb=>?_;have e2:((n - 1 - i:Nat):Int) - 1=(n:Int) - 1 - ((i+1:Nat):Int):=by omega
  rw [e2] at st';have I1:Inv X zz σ H { s with heap:=h' }:=I.turned (t':=s.toks) (fun b o hb e=>(sb.2 b hb).trans e) f0 f1 f3 f4 f5;refine x_12 (id st') fun o e c d=>?_;exact ⟨u,rfl,k9_ (s:={ s with heap:=h' }) e c d (by decide) ⟨x,H,I1,ru,⟨rfl,fun ys hy=>by rw [I.list_inj hy hq];exact hx⟩,⟨hin,st'⟩,fun b hb=>(hf b hb).1⟩⟩
 done:=by
  intro X hP hw hK hc i zz s σ H E I hf st hg;subst hP hw hK;obtain ⟨f0,f1,f2,f3,f4,f5⟩:=hf it (by simp);obtain ⟨hin,hit⟩:=st;have hge:n<=i:=hg;have e1:(n:Int) - 1 - ((i:Nat):Int) = -1:=by omega
  rw [e1] at hit;exact wpAny_pyNext_rev_end (I.ok.hd hc) hit fun h' eb=>⟨rfl,I.turned (t':=s.toks) (fun b o hb e=>eb b o hb e) f0 f1 f3 f4 f5⟩
 self:=fun A i s Q E st h=>wpAny_pyIter_revIter st.2 h
def iRev (K:Frag) (ta:TA):TI:=fun σ H R=>ta σ H fun vs H1=>∃ (a:Addr) (xs:List V),vs=[.ref a]/\SqL K H1 a xs/\R (Itv K a xs.length) H1
section
variable {X:Cx}{tg:Expr}
theorem cf_ {e:Expr}{ta:TA}{p pos:Pos} (hg:Gl X "reversed") (hm:X.mg "reversed"=none) (ha:PA X [e] ta) (hs:starEach [e] X.env=[(false,eval e X.env)]:=by rfl):PI X tg (.Call (.Name "reversed" p) [e] [] pos) (iRev X.K ta):=by
 intro zz s σ H R I h;refine Call_ (dS_ I hg hm cO_ (PyProof.Rows.callWith_type1 (thn (ha pos zz s σ H _ I h) fun us s1 zq=>?_) hs rfl));refine x_22 zq fun vs H1 I1 r1 q1=>?_;refine x_22 q1 fun a xs e hq q=>?_;subst e;cases r1 with
 | cons r rr =>
 cases rr;cases r;refine x_12 (I1.list hq) fun zw rv p' hz=>?_;have hl:=rv.length;have e1:((zw.toArray.size:Nat):Int) - 1=(xs.length:Int) - 1 - ((0:Nat):Int):=by simp only [size_toArray];omega
 refine call_reversed_list p'.isList (wpAny_pyIter_revIter (l:=a) (i:=((zw.toArray.size:Nat):Int) - 1) ⟨_,get?_push_size _ rfl,rfl,rfl⟩ ?_);refine iI_ (tk:=s1.toks) I1 _ (lI_ a _ xs.length) ⟨zero_le _,?_⟩ q;rw [<- e1];exact ⟨_,get?_push_size _ rfl,rfl,rfl⟩
end
noncomputable def Its (x:Str):It:=⟨fun i _=>i<x.cps.size,fun i H v H'=>H'=H/\∃ c,x.cps[i]? = some c/\v = .str ⟨#[c]⟩,fun i _=>x.cps.size<=i⟩
theorem ip_ {P:Program}{w:World}{K:Frag}{tg:Expr} (it:Addr) (x:Str) (t:Tok) (ty:String) (hty:ty="str_ascii_iterator"\/ty="str_iterator") :
  Turn P w K tg (Its x) [it] it (fun i h=>h.IsStrIter it ty x t i) where
 mem:=by simp
 obj:=fun i h st b hb=>by
  have e:b=it:=by simpa using hb
  subst e;refine x_12 st fun o e c d=>?_;exact ⟨o,e,fun v z=>by rw [d] at z;cases z⟩
 keep:=fun i h h' st k=>let ⟨o,ho,r⟩:=st;⟨o,k it (by simp) o ho,r⟩
 item:=by
  intro X hP hw hK hc i zz s σ H E I hf st hg;subst hP hw hK;obtain ⟨f0,f1,f2,f3,f4,f5⟩:=hf it (by simp);have W:Walks X.prog X.w X.A it [it] [it] x.cps.size (SignAt x) (fun i h=>h.IsStrIter it ty x t i):=by
   rcases hty with e | e
   ·rw [e];exact Walks.strAscii (I.ok.hd hc) it x t
   rw [e];exact Walks.strWide (I.ok.hd hc) it x t
  have hno:["enumerate","zip","dict_itemiterator","dict_reverseitemiterator","odict_iterator","itertools.zip_longest","itertools.pairwise"].contains ty=false:=by
   rcases hty with e | e
   ·rw [e];decide
   rw [e];decide
  refine W.item i s _ _ hg st fun v h' tk hv st' kk=>?_;refine x_21 hv fun c u hcx zr3=>?_;subst zr3;have I1:Inv X zz σ H { s with heap:=h',toks:=tk }:=I.turned (fun b o hb e=>kk b o (by simpa using hb) e) f0 f1 f3 f4 f5;refine x_12 (id st') fun oi e cc dd=>?_;exact ⟨_,rfl,k9_ (s:={ s with heap:=h',toks:=tk }) e cc dd hno ⟨.str ⟨#[c]⟩,H,I1,⟨u,rfl⟩,⟨rfl,c,hcx,rfl⟩,st',fun b hb=>(hf b hb).1⟩⟩
 done:=by
  intro X hP hw hK hc i zz s σ H E I hf st hg;subst hP hw hK;obtain ⟨f0,f1,f2,f3,f4,f5⟩:=hf it (by simp);have hx:x.cps[i]? = none:=Array.getElem?_eq_none hg;rcases hty with e | e
  ·rw [e] at st
   exact wpAny_pyNext_ascii_end (I.ok.hd hc) st hx fun h' eb=>⟨rfl,I.turned (t':=s.toks) (fun b o hb e=>eb b o hb e) f0 f1 f3 f4 f5⟩
  rw [e] at st;exact wpAny_pyNext_wide_end (I.ok.hd hc) st hx fun h' eb=>⟨rfl,I.turned (t':=s.toks) (fun b o hb e=>eb b o hb e) f0 f1 f3 f4 f5⟩
 self:=fun A i s Q E st h=>by
  rcases hty with e | e
  ·rw [e] at st;exact wpAny_pyIter_striter_ascii st h
  rw [e] at st;exact wpAny_pyIter_striter_wide st h
def iStr (te:TE):TI:=fun σ H R=>te σ H fun v H1=>∃ x,v = .str x/\R (Its x) H1
theorem ni_ {X:Cx}{tg e:Expr}{te:TE} (he:PE X e te):PI X tg e (iStr te):=by
 intro zz s σ H R I h;refine thn (he zz s σ H _ I h) fun v s1 zq=>?_;obtain ⟨y,H1,I1,r1,x,ex,q⟩:=zq;subst ex;obtain ⟨t,rfl⟩:=r1;cases ha:x.cps.all (· < 128)
 ·exact wpAny_pyIter_wide ha (iI_ (tk:=s1.toks) I1 _ (ip_ _ x t "str_iterator" (.inr rfl)) ⟨_,get?_push_size _ rfl,rfl,rfl⟩ q)
 exact wpAny_pyIter_ascii ha (iI_ (tk:=s1.toks) I1 _ (ip_ _ x t "str_ascii_iterator" (.inl rfl)) ⟨_,get?_push_size _ rfl,rfl,rfl⟩ q)
theorem cD_ {α β:Type}{G:α->β->Prop}{l₁:List α}{l₂:List β} (h:Paired G l₁ l₂) : ∀ {i:Nat}{a:α},l₁[i]? = some a->∃ b,l₂[i]? = some b/\G a b:=by
 induction h with
 | nil=>intro i a e;simp at e
 | @cons a b l₁ l₂ r t ih =>
 intro i a' e;cases i with
 | zero =>
  simp only [List.getElem?_cons_zero,Option.some.injEq] at e;subst e;exact ⟨b,rfl,r⟩
 | succ j =>
 simp only [List.getElem?_cons_succ] at e ⊢;exact ih e
noncomputable def Ite (K:Frag) (a:Addr):It :=
 ⟨fun i H=>∃ (xs:List V) (x:V),SqL K H a xs/\xs[i]? = some x,fun i H v H'=>∃ T x,v = .ref T/\H T=none/\H'=upd H T (.tup [.int (i:Nat),x])/\∀ xs,SqL K H a xs->xs[i]? = some x,fun i H=>∃ xs:List V,SqL K H a xs/\xs.length<=i⟩
theorem jV_ {P:Program}{w:World}{K:Frag}{elts:List Expr}{kk:Nat}{tpos:Pos} (a e it:Addr) :
  Turn P w K (.Tuple elts kk tpos) (Ite K a) [e,it] e (fun i h=>(∃ old,IsEnum h e it ((i:Nat):Int) old)/\h.IsListIter it a i/\e≠it) where
 mem:=by simp
 obj:=fun i h st b hb=>by
  obtain ⟨⟨old,he⟩,⟨o,ho,hc,hd⟩,_⟩:=st;have e':b=e\/b=it:=by simpa using hb
  rcases e' with z | z
  ·rw [z];exact ⟨_,he,fun v q=>nomatch q⟩
  rw [z];exact ⟨o,ho,fun v q=>by rw [hd] at q;cases q⟩
 keep:=fun i h h' st k=>let ⟨⟨old,he⟩,hi,hne⟩:=st;⟨⟨old,k e (by simp) _ he⟩,hi.at fun o q=>k it (by simp) o q,hne⟩
 item:=by
  intro X hP hw hK hc i zz s σ H E I hf st hg;subst hP hw hK;obtain ⟨⟨old,he⟩,hit,hne⟩:=st;refine x_21 hg fun xs x hq hx=>?_;refine x_12 (I.list hq) fun zw rv p hz=>?_;obtain ⟨u,hu,ru⟩:=rv.get hx;have hel:e<s.heap.objs.size:=lt_size he;have hil:it<s.heap.objs.size:=by obtain ⟨_,q,_⟩:=hit;exact lt_size q
  refine wpAny_pyNext_enum_item he hit p.isList (x:=u) (by simpa using hu) hne fun h' ho hit' hT hsz hk=>?_;refine ⟨_,rfl,wpAny_letOwnedTupleGo_enum (s:={ s with heap:=h',toks:=s.toks+1 }) ho fun h'' he' sb=>?_⟩;have hT2:h''.get? s.heap.objs.size=some { cls := .type "tuple",data := .seq #[.int i s.toks,u] }:=(sb.2 _ (ne_of_gt hel)).trans hT;have new:bd_ X.prog X.w (upd H s.heap.objs.size (.tup [.int (i:Nat),x])) h'' s.heap.objs.size (.tup [.int (i:Nat),x]) :=
   ⟨by show 2<=sizeLine;decide,[.int i s.toks,u],.cons ⟨_,rfl⟩ (.cons ru .nil),⟨_,hT2,rfl,_,rfl⟩⟩
  have I1:Inv X zz σ (upd H s.heap.objs.size (.tup [.int (i:Nat),x])) { s with heap:=h'',toks:=s.toks+1 } :=
   I.turnedNew (ch:=[e,it]) (fun b ob hb q=>(sb.2 b (fun z=>hb (by simp [z]))).trans (hk b ob (fun z=>hb (by simp [z])) (fun z=>hb (by simp [z])) q)) hf (Nat.le_refl _) new
  refine ⟨.ref s.heap.objs.size,_,I1,rfl,⟨_,x,rfl,I.hok.fresh (Nat.le_refl _),rfl,fun ys hy=>by rw [I.list_inj hy hq];exact hx⟩,⟨⟨u,?_⟩,hit'.at fun o q=>(sb.2 it (Ne.symm hne)).trans q,hne⟩,fun b hb=>?_⟩
  ·have e1:((i+1:Nat):Int)=(i:Int)+1:=by omega
   rw [e1];exact he'
  have hb':b<s.heap.objs.size:=by
   have e':b=e\/b=it:=by simpa using hb
   rcases e' with z | z
   ·rw [z];exact hel
   rw [z];exact hil
  rw [ag_ (Nat.ne_of_lt hb')];exact (hf b hb).1
 done:=by
  intro X hP hw hK hc i zz s σ H E I hf st hg;subst hP hw hK;obtain ⟨⟨old,he⟩,hit,hne⟩:=st;obtain ⟨xs,hq,hx⟩:=hg;refine x_12 (I.list hq) fun zw rv p hz=>?_;obtain ⟨f0,f1,f2,f3,f4,f5⟩:=hf it (by simp);have hl:=rv.length;exact wpAny_pyNext_enum_end (I.ok.hd hc) he hit p.isList (by simp;omega) fun h' eb=>⟨rfl,I.turned (t':=s.toks) (fun b o hb q=>eb b o hb q) f0 f1 f3 f4 f5⟩
 self:=fun A i s Q E st h=>let ⟨⟨_,he⟩,_⟩:=st;wpAny_pyIter_enum he h
def pV_ (K:Frag) (ta:TA):TI:=fun σ H R=>ta σ H fun vs H1=>∃ a xs,vs=[.ref a]/\SqL K H1 a xs/\R (Ite K a) H1
theorem n7_ {X:Cx}{e:Expr}{ta:TA}{p pos tpos:Pos}{elts:List Expr}{kk:Nat} (hg:Gl X "enumerate") (hm:X.mg "enumerate"=none) (ha:PA X [e] ta) (hs:starEach [e] X.env=[(false,eval e X.env)]:=by rfl) :
  PI X (.Tuple elts kk tpos) (.Call (.Name "enumerate" p) [e] [] pos) (pV_ X.K ta):=by
 intro zz s σ H R I h;refine Call_ (dS_ I hg hm boot_enumerate (PyProof.Rows.callWith_type1 (thn (ha pos zz s σ H _ I h) fun us s1 zq=>?_) hs rfl));refine x_22 zq fun vs H1 I1 r1 q1=>?_;refine x_22 q1 fun a xs ex hq q=>?_;subst ex;cases r1 with
 | cons r rr =>
 cases rr;cases r;refine x_12 (I1.list hq) fun zw rv p' hz=>?_;refine call_enumerate_list p'.isList fun h' he hit hsz hk=>wpAny_pyIter_enum he ?_;have I2:Inv X zz σ H1 { s1 with heap:=h' }:=I1.kept (t':=s1.toks) hk;refine ⟨s1.heap.objs.size+1,[s1.heap.objs.size+1,s1.heap.objs.size],_,_,H1,rfl,I2,jV_ a (s1.heap.objs.size+1) s1.heap.objs.size,⟨⟨.none,he⟩,hit,Nat.succ_ne_self _⟩,fun b hb=>?_,q⟩;have e':b=s1.heap.objs.size+1\/b=s1.heap.objs.size:=by simpa using hb
 have hle:s1.heap.objs.size<=b:=by
  rcases e' with z | z
  ·rw [z];exact Nat.le_add_right _ _
  rw [z];exact Nat.le_refl _
 exact I1.fpOk hle (I1.hok.fresh hle)
end L2
namespace TL
open PySem PySem.Builtin PySem.Builtin.Str PySem.StrLaws
noncomputable abbrev tl (x:Str):List Nat:=x.cps.toList
theorem dn_ (x:Str):x.length=(tl x).length:=by simp [tl,Str.length]
theorem cv_ {x y:Str} (h:tl x=tl y):x=y:=Str.ext' (Array.toList_inj.mp h)
theorem cn_ (x y:Str):tl (x++y)=tl x++tl y:=by
 show (x++y).cps.toList=_;rw [Str.cps_append,Array.toList_append]
theorem o6_ (l:List Nat):tl ⟨l.toArray⟩=l:=rfl
theorem pE_ (x:Str):(⟨(tl x).toArray⟩:Str)=x:=cv_ rfl
theorem b6_ : ∀ {l m:List Str},l.map tl=m.map tl->l=m
 | [],[],_=>rfl
 | [],_::_,h=>by simp at h
 | _::_,[],h=>by simp at h
 | x::l,y::m,h=>by
  rw [map_cons,map_cons] at h;injection h with h1 h2;rw [cv_ h1,b6_ h2]
theorem hE_ (s:String):tl (ofString s)=s.toList.map Char.toNat:=PyProof.Rows.signs_ofString s
def pre (S l:List Nat):Bool:=l.take S.length == S
noncomputable def spl (S:List Nat):Nat->List Nat->List Nat->List (List Nat)
 | _,zx,[]=>[zx]
 | 0,zx,c::r=>if pre S (c::r)=true then zx::spl S (S.length - 1) [] r else spl S 0 (zx++[c]) r
 | k+1,zx,_::r=>spl S k zx r
def par (S:List Nat):List Nat->List Nat->Option (List Nat×List Nat)
 | _,[]=>none
 | zx,c::r=>if pre S (c::r)=true then some (zx,(c::r).drop S.length) else par S (zx++[c]) r
theorem cT_ (S:List Nat) (k:Nat) (zx:List Nat):spl S k zx []=[zx]:=by cases k <;> rfl
theorem fI_ {S zx r:List Nat}{c:Nat} (h:pre S (c::r)=true):spl S 0 zx (c::r)=zx::spl S (S.length - 1) [] r:=by
 show (if pre S (c::r)=true then zx::spl S (S.length - 1) [] r else spl S 0 (zx++[c]) r)=_;rw [if_pos h]
theorem d8_ {S zx r:List Nat}{c:Nat} (h:pre S (c::r)=false):spl S 0 zx (c::r)=spl S 0 (zx++[c]) r:=by
 show (if pre S (c::r)=true then zx::spl S (S.length - 1) [] r else spl S 0 (zx++[c]) r)=_;rw [if_neg (by rw [h];exact Bool.false_ne_true)]
theorem d7_ (S:List Nat) : ∀ (k:Nat) (zx l:List Nat),spl S k zx l=spl S 0 zx (l.drop k)
 | 0,_,_=>by rw [drop_zero]
 | k+1,zx,[]=>by rw [List.drop_nil,cT_,cT_]
 | k+1,zx,c::r=>by
  show spl S k zx r=spl S 0 zx (r.drop k);exact d7_ S k zx r
theorem od_ {S zx r:List Nat}{c:Nat} (h:pre S (c::r)=true):par S zx (c::r)=some (zx,(c::r).drop S.length):=by
 show (if pre S (c::r)=true then some (zx,(c::r).drop S.length) else par S (zx++[c]) r)=_;rw [if_pos h]
theorem mc_ {S zx r:List Nat}{c:Nat} (h:pre S (c::r)=false):par S zx (c::r)=par S (zx++[c]) r:=by
 show (if pre S (c::r)=true then some (zx,(c::r).drop S.length) else par S (zx++[c]) r)=_;rw [if_neg (by rw [h];exact Bool.false_ne_true)]
theorem kw_ {S:List Nat} (hS:S≠[]):pre S []=false:=by
 cases S with
 | nil=>exact absurd rfl hS
 | cons s S=>rfl
theorem hM_ {s c:Nat} (S r:List Nat) (h:c≠s):pre (s::S) (c::r)=false:=by
 cases hp:pre (s::S) (c::r) with
 | false=>rfl
 | true =>
 have e:(c::r).take (s::S).length=s::S:=eq_of_beq hp;rw [length_cons,take_succ_cons] at e;injection e with e1 e2;exact absurd e1 h
theorem iF_ (S r:List Nat):pre S (S++r)=true:=by
 show ((S++r).take S.length == S)=true;have e:(S++r).take S.length=S:=List.take_left;rw [e] <;> exact beq_self_eq_true S
theorem b8_ {L:List Nat}{a:Nat} (h:a<L.length) : ∃ c,L.drop a=c::L.drop (a+1):=⟨L[a],drop_eq_getElem_cons h⟩
theorem es_ (S L:List Nat) : ∀ (m a:Nat) (zx:List Nat),a+m<=L.length->(∀ k,a<=k->k<a+m->pre S (L.drop k)=false) ->
  spl S 0 zx (L.drop a)=spl S 0 (zx++(L.drop a).take m) (L.drop (a+m))
 | 0,a,zx,_,_=>by rw [List.take_zero,append_nil,add_zero]
 | m+1,a,zx,h,hn=>by
  have hlt:a<L.length:=by omega
  obtain ⟨c,e⟩:=b8_ hlt;have h0:=hn a (Nat.le_refl _) (by omega);have ih:=es_ S L m (a+1) (zx++[c]) (by omega) (fun k h1 h2=>hn k (by omega) (by omega));have e2:a+1+m=a+(m+1):=by omega
  rw [e2] at ih;rw [e] at h0;rw [e,d8_ h0,ih,take_succ_cons,append_assoc] <;> rfl
theorem fX_ (S L:List Nat) : ∀ (m a:Nat) (zx:List Nat),a+m<=L.length->(∀ k,a<=k->k<a+m->pre S (L.drop k)=false) ->
  par S zx (L.drop a)=par S (zx++(L.drop a).take m) (L.drop (a+m))
 | 0,a,zx,_,_=>by rw [List.take_zero,append_nil,add_zero]
 | m+1,a,zx,h,hn=>by
  have hlt:a<L.length:=by omega
  obtain ⟨c,e⟩:=b8_ hlt;have h0:=hn a (Nat.le_refl _) (by omega);have ih:=fX_ S L m (a+1) (zx++[c]) (by omega) (fun k h1 h2=>hn k (by omega) (by omega));have e2:a+1+m=a+(m+1):=by omega
  rw [e2] at ih;rw [e] at h0;rw [e,mc_ h0,ih,take_succ_cons,append_assoc] <;> rfl
theorem ef_ (L:List Nat) (a b:Nat):(L.drop a).drop b=L.drop (a+b):=by
 first
  | rw [drop_drop]
  | rw [drop_drop,add_comm]
theorem m3_ {S L:List Nat} (hS:S≠[]) {c:Nat}{zx:List Nat} (h:pre S (L.drop c)=true):spl S 0 zx (L.drop c)=zx::spl S 0 [] (L.drop (c+S.length)):=by
 rw [<- ef_];cases e:L.drop c with
 | nil=>rw [e,kw_ hS] at h;cases h
 | cons d r =>
 rw [e] at h;rw [fI_ h,d7_];cases S with
 | nil=>exact absurd rfl hS
 | cons s S=>rfl
theorem nl_ {S L:List Nat} (hS:S≠[]) {c:Nat}{zx:List Nat} (h:pre S (L.drop c)=true):par S zx (L.drop c)=some (zx,L.drop (c+S.length)):=by
 rw [<- ef_];cases e:L.drop c with
 | nil=>rw [e,kw_ hS] at h;cases h
 | cons d r =>
 rw [e] at h;rw [od_ h]
theorem lz_ {x y:Str} (hy:tl y≠[]) (i:Nat):At x y x.length i↔pre (tl y) ((tl x).drop i)=true:=by
 have hx:=dn_ x;have hl:=dn_ y
 constructor
 ·intro h
  have h2:=h.2;rw [subAt_eq,hl] at h2;exact h2
 intro h;have e:((tl x).drop i).take (tl y).length=tl y:=eq_of_beq h;have e1:=congrArg List.length e;rw [length_take,length_drop] at e1;have e2:0<(tl y).length:=length_pos_iff.mpr hy;refine ⟨by omega,?_⟩;rw [subAt_eq,hl];exact h
theorem ml_ {x y:Str} (hy:tl y≠[]) {i:Nat} (h : ¬ At x y x.length i):pre (tl y) ((tl x).drop i)=false:=by
 cases hp:pre (tl y) ((tl x).drop i) with
 | false=>rfl
 | true=>exact absurd ((lz_ hy i).mpr hp) h
theorem len1 {y:Str} (hy:tl y≠[]):1<=y.length:=by
 have e2:0<(tl y).length:=length_pos_iff.mpr hy;rw [dn_ y];exact e2
theorem eo_ (x:Str) (i j:Nat):tl (strSub x i j)=((tl x).drop i).take (j - i):=strSub_toList x i j
theorem da_ (x:Str) (i:Nat):tl (strSub x i x.length)=(tl x).drop i:=by
 rw [eo_,dn_ x];exact take_of_length_le (by rw [length_drop] <;> omega)
theorem gU_ {x y:Str} (hy:tl y≠[]) : ∀ (cuts:List Nat) (a f:Nat),a<=(tl x).length->ChainG x y x.length a cuts f->(∀ k,f<=k->¬ At x y x.length k) ->
  (partsFrom x y.length a cuts).map tl=spl (tl y) 0 [] ((tl x).drop a)
 | [],a,f,ha,h,hn=>by
  have e:f=a:=h;subst e;show [tl (strSub x f x.length)]=_;have run:=es_ (tl y) (tl x) ((tl x).length - f) f [] (by omega) (fun k h1 _=>ml_ hy (hn k h1));have e2:f+((tl x).length - f)=(tl x).length:=by omega
  rw [e2,drop_length,cT_,nil_append,take_of_length_le (by rw [length_drop] <;> omega)] at run
  rw [run,da_]
 | c::r,a,f,ha,h,hn=>by
  refine x_03 h fun h1 h2 h3 h4=>?_;have hc:c+y.length<=x.length:=h2.1;have hx:=dn_ x;have hl:=dn_ y;have ih:=gU_ hy r (c+y.length) f (by omega) h4 hn;show tl (strSub x a c)::(partsFrom x y.length (c+y.length) r).map tl=_;have run:=es_ (tl y) (tl x) (c - a) a [] (by omega) (fun k k1 k2=>ml_ hy (h3 k k1 (by omega)));have e2:a+(c - a)=c:=by omega
  rw [e2,nil_append,m3_ hy ((lz_ hy c).mp h2)] at run;rw [run,ih,eo_,hl]
theorem gC_ (x y:Str) (hy:tl y≠[]) (hk : ¬ Builtin.Str.strKind x<Builtin.Str.strKind y):(Txt.split x y).map tl=spl (tl y) 0 [] (tl x):=by
 obtain ⟨f,g,hn⟩:=occ_tight x y (len1 hy);have key:=gU_ hy _ 0 f (zero_le _) g hn;rw [drop_zero] at key;have none_case:occurrences x y 0 x.length (x.length+1)=[]->[x].map tl=spl (tl y) 0 [] (tl x):=fun ho=>by
  rw [ho] at key;rw [<- key];show [tl x]=[tl (strSub x 0 x.length)];rw [sub_whole]
 unfold Txt.split;by_cases h1:(decide (x.length<y.length) || decide (Builtin.Str.strKind x<Builtin.Str.strKind y))=true
 ·rw [if_pos h1]
  have hlt:x.length<y.length:=by
   simp only [or_eq_true,decide_eq_true_eq] at h1;rcases h1 with h | h
   ·exact h
   exact absurd h hk
  refine none_case ?_;cases ho:occurrences x y 0 x.length (x.length+1) with
  | nil=>rfl
  | cons c r =>
  rw [ho] at g;have hc:c+y.length<=x.length:=g.2.1.1;omega
 rw [if_neg h1];by_cases h2:(occurrences x y 0 x.length (x.length+1)).isEmpty=true
 ·rw [if_pos h2]
  exact none_case (List.isEmpty_iff.mp h2)
 rw [if_neg h2,partsBetween_eq];exact key
theorem kZ_ {x y:Str} (h:y.cps.all (· < 256)=true) : ¬ Builtin.Str.strKind x<Builtin.Str.strKind y:=by
 have e:Builtin.Str.strKind y=1:=by unfold PySem.Builtin.Str.strKind;rw [if_pos h]
 rw [e];unfold PySem.Builtin.Str.strKind;split
 ·omega
 split <;> omega
theorem fV_ (x y:Str) (hy:tl y≠[]) :
  Txt.partition x y=(match par (tl y) [] (tl x) with | some (a,b)=>(⟨a.toArray⟩,y,⟨b.toArray⟩) | none=>(x,Str.empty,Str.empty)):=by
 have hx:=dn_ x;have hl:=dn_ y;rcases PyProof.Rows.partition_whole x y with ⟨e,hn⟩ | ⟨i,e,hi,hn⟩
 ·have run:=fX_ (tl y) (tl x) (tl x).length 0 [] (by omega) (fun k _ _=>ml_ hy (hn k))
  rw [drop_zero,zero_add,drop_length] at run;rw [e,run] <;> rfl
 have hb:i+y.length<=x.length:=hi.1;have run:=fX_ (tl y) (tl x) i 0 [] (by omega) (fun k _ k2=>ml_ hy (hn k (by omega)));rw [drop_zero,zero_add,nil_append,nl_ hy ((lz_ hy i).mp hi)] at run;rw [e,run];have e1:strSub x 0 i=⟨((tl x).take i).toArray⟩:=cv_ (by rw [eo_,drop_zero,sub_zero]);have e2:strSub x (i+y.length) x.length=⟨((tl x).drop (i+(tl y).length)).toArray⟩:=cv_ (by rw [da_,hl]);rw [e1,e2] <;> rfl
theorem lO_ {S p rest zx:List Nat} (hS:S≠[]) (h : ∀ i,i<p.length->pre S ((p++(S++rest)).drop i)=false) :
  spl S 0 zx (p++(S++rest))=(zx++p)::spl S 0 [] rest:=by
 have run:=es_ S (p++(S++rest)) p.length 0 zx (by rw [length_append];omega) (fun k _ k2=>h k (by omega));have ed:(p++(S++rest)).drop p.length=S++rest:=drop_left;rw [drop_zero,zero_add,List.take_left] at run;rw [run,m3_ hS (by rw [ed];exact iF_ S rest),<- ef_,ed,drop_left]
theorem lP_ {S p zx:List Nat} (h : ∀ i,i<p.length->pre S (p.drop i)=false):spl S 0 zx p=[zx++p]:=by
 have run:=es_ S p p.length 0 zx (by omega) (fun k _ k2=>h k (by omega));rw [drop_zero,zero_add,drop_length,cT_,take_length] at run;exact run
theorem mb_ {S p rest zx:List Nat} (hS:S≠[]) (h : ∀ i,i<p.length->pre S ((p++(S++rest)).drop i)=false) :
  par S zx (p++(S++rest))=some (zx++p,rest):=by
 have run:=fX_ S (p++(S++rest)) p.length 0 zx (by rw [length_append];omega) (fun k _ k2=>h k (by omega));have ed:(p++(S++rest)).drop p.length=S++rest:=drop_left;rw [drop_zero,zero_add,List.take_left] at run;rw [run,nl_ hS (by rw [ed];exact iF_ S rest),<- ef_,ed,drop_left]
theorem h3_ {s:Nat}{S p q:List Nat} (h:s∉p) : ∀ i,i<p.length->pre (s::S) ((p++q).drop i)=false:=fun i hi=>by
 have hlt:i<(p++q).length:=by rw [length_append];omega
 have e:(p++q).drop i=(p++q)[i]::(p++q).drop (i+1):=drop_eq_getElem_cons hlt;rw [e];refine hM_ _ _ fun z=>h ?_;have e1:(p++q)[i]=p[i]:=List.getElem_append_left hi;rw [<- z,e1];exact List.getElem_mem hi
theorem gD_ {s:Nat}{S p rest zx:List Nat} (h:s∉p):spl (s::S) 0 zx (p++(s::S++rest))=(zx++p)::spl (s::S) 0 [] rest :=
 lO_ (by simp) (h3_ h)
theorem et_ {s:Nat}{S p zx:List Nat} (h:s∉p):spl (s::S) 0 zx p=[zx++p]:=lP_ fun i hi=>by
 have z:=h3_ (S:=S) (q:=[]) h i hi;rw [append_nil] at z;exact z
theorem kF_ {s:Nat}{S p rest zx:List Nat} (h:s∉p):par (s::S) zx (p++(s::S++rest))=some (zx++p,rest):=mb_ (by simp) (h3_ h)
def eJ_ (S:List Nat):List (List Nat)->List Nat
 | []=>[]
 | [p]=>p
 | p::q::r=>p++(S++eJ_ S (q::r))
theorem hF_ (y:Str) : ∀ parts:List Str,tl (Str.join y parts)=eJ_ (tl y) (parts.map tl)
 | []=>rfl
 | [_]=>rfl
 | x::z::r=>by
  show tl (x++y++Str.join y (z::r))=tl x++(tl y++eJ_ (tl y) ((z::r).map tl));rw [cn_,cn_,hF_ y (z::r),append_assoc]
theorem oA_ (y:Str) (parts:List Str):Txt.join y parts=Str.join y parts:=glued_eq_join y parts
theorem fW_ {y:Str}{s:Nat}{S:List Nat} (ey:tl y=s::S) {a b:Str} (h:s∉tl a):Txt.partition (a++y++b) y=(a,y,b):=by
 rw [fV_ _ y (by rw [ey];simp),cn_,cn_,append_assoc,ey,kF_ h];show ((⟨([]++tl a).toArray⟩:Str),y,(⟨(tl b).toArray⟩:Str))=_;rw [nil_append,pE_,pE_]
end TL
namespace L2
open PySem PySem.Spec PyProof.Rows
theorem gu_ : ∀ l:List (Str×Tok),Vals ((l.map (·.1)).map V.str) (strValues l)
 | [] => .nil
 | p::r => .cons ⟨p.2,rfl⟩ (gu_ r)
theorem co_ : ∀ {ys:List Str}{us:List Value},Vals (ys.map V.str) us->StrsAre us ys
 | [],_,.nil => .nil
 | y::ys,_,.cons r t=>by
  obtain ⟨k,rfl⟩:=r;exact .cons y k (co_ t)
def ea_ (ys:List Str):Hp->VK->Prop:=fun H Q=>∀ p,H p=none->Q (.ref p) (upd H p (.lst (ys.map V.str)))
section
variable {X:Cx}{zz:zP}{σ:St}{H:Hp}{s:Shared}{Q:VK}
theorem eI_ {l:List (Str×Tok)}{ys:List Str}{k:Nat} (I:Inv X zz σ H s) (e:l.map (·.1)=ys) (hz:ys.length<=sizeLine) (h:ea_ ys H Q) :
  EP X zz σ Q (.ref s.heap.objs.size) { s with toks:=k,heap:=s.heap.push { cls := .type "list",data := .seq (strValues l).toArray } }:=by
 have hp:=I.hok.fresh (Nat.le_refl _);refine ⟨.ref s.heap.objs.size,upd H s.heap.objs.size (.lst (ys.map V.str)),I.laid (fun b u q=>get?_push_of_some _ q) (Nat.le_refl _) ⟨by rw [length_map];exact hz,strValues l,_,?_,get?_push_size _ rfl⟩,rfl,h _ hp⟩;rw [<- e];exact gu_ l
theorem fp_ {x y z:Str}{t u v:Tok}{k:Nat} (I:Inv X zz σ H s) (h : ∀ p,H p=none->Q (.ref p) (upd H p (.tup [.str x,.str y,.str z]))) :
  EP X zz σ Q (.ref s.heap.objs.size) { s with toks:=k,heap:=s.heap.push { cls := .type "tuple",data := .seq [Value.str x t,.str y u,.str z v].toArray } }:=by
 have hp:=I.hok.fresh (Nat.le_refl _);exact ⟨.ref s.heap.objs.size,upd H s.heap.objs.size (.tup [.str x,.str y,.str z]),I.laid (fun b u q=>get?_push_of_some _ q) (Nat.le_refl _)
  ⟨by show 3<=sizeLine;decide,[Value.str x t,.str y u,.str z v],.cons ⟨t,rfl⟩ (.cons ⟨u,rfl⟩ (.cons ⟨v,rfl⟩ .nil)),_,get?_push_size _ rfl,rfl,_,rfl⟩,rfl,h _ hp⟩
end
section
variable {X:Cx}
theorem iT_:MtR X "str.split" (fun x xs H Q=>∃ a b,x = .str a/\xs=[.str b]/\(b.length == 0)=false/\a.length+2<=sizeLine/\ea_ (Txt.split a b) H Q):=by
 intro zz s σ H x xs v us Q I rx rs h;obtain ⟨a,b,rfl,rfl,hb,hz,h⟩:=h;obtain ⟨t,rfl⟩:=rx;cases rs with
 | cons r1 rs =>
 cases rs;obtain ⟨u,rfl⟩:=r1;have hl:(Txt.split a b).length<=sizeLine:=Nat.le_trans (PyProof.Rows.split_le a b) hz;have hn:(Builtin.Str.partsBetween a (Builtin.Str.occurrences a b 0 a.length (a.length+1)) b.length).length<=sizeLine:=by
  have e1:=StrLaws.occ_length_le a b 0 a.length (a.length+1);rw [length_partsBetween];omega
 cases h1:(decide (a.length<b.length) || decide (Builtin.Str.strKind a<Builtin.Str.strKind b))
 ·cases hf:(Builtin.Str.occurrences a b 0 a.length (a.length+1)).isEmpty
  ·refine call_meets F.slot_str_split (typeIs_str _ _ _) F.entry_str_split (F.args_str_split_2 _ _) (meets_str_split_sep a b t u h1 hb hf (by omega) hn) ?_
   show EP X zz σ Q (.ref s.heap.objs.size) { s with toks:=_,heap:=s.heap.push { cls := .type "list",data := .seq (strsFrom s.toks (Builtin.Str.partsBetween a (Builtin.Str.occurrences a b 0 a.length (a.length+1)) b.length)).toArray } };rw [strsFrom_eq];exact eI_ (ys:=Txt.split a b) I ((numbered_texts _ _).trans ((if_neg (ne_true_of_eq_false h1)).trans (if_neg (ne_true_of_eq_false hf))).symm) hl h
  refine call_meets F.slot_str_split (typeIs_str _ _ _) F.entry_str_split (F.args_str_split_2 _ _) (meets_str_split_not_found a b t u h1 hb hf) ?_;exact eI_ (l:=[(a,t)]) (ys:=Txt.split a b) (k:=s.toks) I ((if_neg (ne_true_of_eq_false h1)).trans (if_pos hf)).symm hl h
 refine call_meets F.slot_str_split (typeIs_str _ _ _) F.entry_str_split (F.args_str_split_2 _ _) (meets_str_split_cannot_occur a b t u h1) ?_;exact eI_ (l:=[(a,t)]) (ys:=Txt.split a b) (k:=s.toks) I (if_pos h1).symm hl h
theorem g6_:MtR X "str.partition" (fun x xs H Q=>∃ a b,x = .str a/\xs=[.str b]/\(b.length == 0)=false/\a.length<=sizeLine /\
  ∀ p,H p=none->Q (.ref p) (upd H p (.tup [.str (Txt.partition a b).1,.str (Txt.partition a b).2.1,.str (Txt.partition a b).2.2]))):=by
 intro zz s σ H x xs v us Q I rx rs h;obtain ⟨a,b,rfl,rfl,hb,hz,h⟩:=h;obtain ⟨t,rfl⟩:=rx;cases rs with
 | cons r1 rs =>
 cases rs;obtain ⟨u,rfl⟩:=r1;refine call_meets F.slot_str_partition (typeIs_str _ _ _) F.entry_str_partition (F.args_str_partition_2 _ _) (meets_str_partition a b t u hb hz) ?_;unfold Txt.partition at h;revert h;cases Builtin.Str.occurrences a b 0 a.length 1 with
 | nil=>intro h;exact fp_ I h
 | cons i r=>intro h;exact fp_ I h
theorem on_:MtR X "str.join" (fun x xs H Q=>∃ a p,∃ ys:List Str,x = .str a/\xs=[.ref p]/\(SqL X.K H p (ys.map V.str)\/SqT X.K H p (ys.map V.str)) /\
  (ys.map (·.length)).sum+ys.length * a.length<=16777216/\Q (.str (Txt.join a ys)) H):=by
 intro zz s σ H x xs v us Q I rx rs h;obtain ⟨a,p,ys,rfl,rfl,hp,hz,h⟩:=h;obtain ⟨t,rfl⟩:=rx;cases rs with
 | cons r1 rs =>
 cases rs;cases r1;rcases hp with hp | hp
 ·obtain ⟨zw,r,⟨o,n,ho,hc,_,hd⟩,_⟩:=I.list hp
  exact PyProof.Rows.join_list (items:=zw.toArray) ⟨o,ho,hc,n,hd⟩ (by rw [List.toList_toArray];exact co_ r) hz fun t' k=>⟨.str _,H,I.tok k,⟨t',rfl⟩,h⟩
 obtain ⟨zw,r,ht,_⟩:=I.tuple hp;exact PyProof.Rows.join_tuple (items:=zw.toArray) ht (by rw [List.toList_toArray];exact co_ r) hz fun t' k=>⟨.str _,H,I.tok k,⟨t',rfl⟩,h⟩
theorem mt1 {id:String}{g:Str->Str->V} (rule : ∀ (a b:Str) (t u:Tok) (s:Shared) (Q:zQ),(∀ (v:Value) (k:Nat),RelV (g a b) v->Q v { s with toks:=k }) ->
  wpAny (model X.prog X.w) X.A (call (.builtin id) [.str a t,.str b u]) Q X.xe s):MtR X id (fun x xs H Q=>∃ a b,x = .str a/\xs=[.str b]/\Q (g a b) H):=by
 intro zz s σ H x xs v us Q I rx rs h;obtain ⟨a,b,rfl,rfl,h⟩:=h;obtain ⟨t,rfl⟩:=rx;cases rs with
 | cons r1 rs =>
 cases rs;obtain ⟨u,rfl⟩:=r1;exact rule a b t u s _ fun v k r=>⟨g a b,H,I.tok k,r,h⟩
theorem f1_:MtR X "str.startswith" (fun x xs H Q=>∃ a b,x = .str a/\xs=[.str b]/\Q (.bl (Txt.startswith a b)) H) :=
 mt1 (g:=fun a b => .bl (Txt.startswith a b)) fun _ _ _ _ s _ h=>PySem.SC.startswith (h _ s.toks rfl)
theorem bA_:gq_ X (.type "int") (fun xs H Q=>∃ a n,xs=[.str a]/\PySem.intText? a=some n/\a.length<=640/\Q (.int n) H):=by
 intro zz s σ H xs us Q I rs h;obtain ⟨a,n,rfl,hn,hl,h⟩:=h;cases rs with
 | cons r1 rs =>
 cases rs;obtain ⟨t,rfl⟩:=r1;exact PySem.W.KIN.call_text hn hl ⟨.int n,H,I.tok _,⟨_,rfl⟩,h⟩
end
section
variable {X:Cx}{o e:Expr}{to te:TE}
def tM0 (r:V->List V->Hp->VK->Prop) (to:TE):TE:=fun σ H Q=>to σ H fun x H1=>(∃ a,x = .str a)/\r x [] H1 Q
def tM1 (r:V->List V->Hp->VK->Prop) (to te:TE):TE:=fun σ H Q=>to σ H fun x H1=>(∃ a,x = .str a)/\te σ H1 fun y H2=>r x [y] H2 Q
theorem l4_ {id:String}{name:Str}{zt pos:Pos}{r:V->List V->Hp->VK->Prop} (slot:Slot "str" name id) (ty:typeOf (.builtin id)=pure (.type "method_descriptor")) (rule:MtR X id r) (ho:PE X o to) (he:PE X e te)
  (hs:starEach [e] X.env=[(false,eval e X.env)]:=by rfl) (zn:attributeBase o name X.env (eval o X.env)=eval o X.env:=by rfl) (zo:(zt.endLine == pos.line)=true:=by rfl) :
  PE X (.Call (.Attribute o name zt) [e] [] pos) (tM1 r to te):=by
 intro zz s σ H Q I h;refine PySem.Call_method1 zn hs zo (thn (ho zz s σ H _ I h) fun v s1 zq=>?_);refine x_22 zq fun x H1 I1 r1 q1=>?_;obtain ⟨⟨a,rfl⟩,q1⟩:=q1;obtain ⟨t,rfl⟩:=_root_.id r1;refine ⟨"str",_,F.plainAttrs_str,slot,ty,typeIs_str _ _ _,(fun _ e=>nomatch e),Calls.callWith_builtin rfl (Calls.evalArgs_plain (Calls.spliced_cons ?_))⟩;exact thn (he zz s1 σ H1 _ I1 q1) fun u s2 ⟨y,H2,I2,r2,q2⟩=>Calls.spliced_nil (rule zz s2 σ H2 _ [y] _ [u] Q I2 r1 (.cons r2 .nil) q2)
theorem iK_ {zt pos:Pos} (ho:PE X o to) (he:PE X e te) (hs:starEach [e] X.env=[(false,eval e X.env)]:=by rfl) (zn:attributeBase o "split" X.env (eval o X.env)=eval o X.env:=by rfl) (zo:(zt.endLine == pos.line)=true:=by rfl) :
  PE X (.Call (.Attribute o "split" zt) [e] [] pos) (tM1 (fun x xs H Q=>∃ a b,x = .str a/\xs=[.str b]/\(b.length == 0)=false/\a.length+2<=sizeLine/\ea_ (Txt.split a b) H Q) to te) :=
 l4_ F.slot_str_split F.type_str_split iT_ ho he hs zn zo
theorem gS_ {zt pos:Pos} (ho:PE X o to) (he:PE X e te) (hs:starEach [e] X.env=[(false,eval e X.env)]:=by rfl) (zn:attributeBase o "partition" X.env (eval o X.env)=eval o X.env:=by rfl) (zo:(zt.endLine == pos.line)=true:=by rfl) :
  PE X (.Call (.Attribute o "partition" zt) [e] [] pos) (tM1 (fun x xs H Q=>∃ a b,x = .str a/\xs=[.str b]/\(b.length == 0)=false/\a.length<=sizeLine /\
   ∀ p,H p=none->Q (.ref p) (upd H p (.tup [.str (Txt.partition a b).1,.str (Txt.partition a b).2.1,.str (Txt.partition a b).2.2]))) to te) :=
 l4_ F.slot_str_partition F.type_str_partition g6_ ho he hs zn zo
theorem ob_ {zt pos:Pos} (ho:PE X o to) (he:PE X e te) (hs:starEach [e] X.env=[(false,eval e X.env)]:=by rfl) (zn:attributeBase o "join" X.env (eval o X.env)=eval o X.env:=by rfl) (zo:(zt.endLine == pos.line)=true:=by rfl) :
  PE X (.Call (.Attribute o "join" zt) [e] [] pos) (tM1 (fun x xs H Q=>∃ a p,∃ ys:List Str,x = .str a/\xs=[.ref p]/\(SqL X.K H p (ys.map V.str)\/SqT X.K H p (ys.map V.str)) /\
   (ys.map (·.length)).sum+ys.length * a.length<=16777216/\Q (.str (Txt.join a ys)) H) to te) :=
 l4_ F.slot_str_join F.type_str_join on_ ho he hs zn zo
end
section
variable {X:Cx}
theorem jr_:OpR X (compareOp .In) (fun x y H Q=>∃ (c:Nat) (z:Str),x = .str ⟨#[c]⟩/\y = .str z/\Q (.bl (decide (c∈z.cps.toList))) H):=by
 intro zz s σ H x y v u Q I rx ry h;refine x_22 h fun c z zr2 zr3 q=>?_;subst zr2;subst zr3;obtain ⟨t,rfl⟩:=rx;obtain ⟨t',rfl⟩:=ry;exact PyProof.Rows.in_str (aQ_ I q (PySem.StrLaws.found_one z c).symm)
theorem fY_:OpR X (compareOp .NotIn) (fun x y H Q=>∃ (c:Nat) (z:Str),x = .str ⟨#[c]⟩/\y = .str z/\Q (.bl (!decide (c∈z.cps.toList))) H):=by
 intro zz s σ H x y v u Q I rx ry h;refine x_22 h fun c z zr2 zr3 q=>?_;subst zr2;subst zr3;obtain ⟨t,rfl⟩:=rx;obtain ⟨t',rfl⟩:=ry;exact PyProof.Rows.notIn_str (aQ_ I q (congrArg Bool.not (PySem.StrLaws.found_one z c).symm))
end
theorem IsPart.raw {v:Value}{o:Option Int} (p:IsPart v o) : ∃ l:Option (Int×Tok),v=partValue l/\l.map (·.1)=o:=by
 cases p with
 | none=>exact ⟨none,rfl,rfl⟩
 | int i t=>exact ⟨some (i,t),rfl,rfl⟩
def lu_ (n d:Nat):Option Int->Int
 | none=>(d:Int)
 | some i=>max 0 (min (if i<0 then i+(n:Int) else i) (n:Int))
theorem jb_ (n d:Nat) (o:Option Int):lu_ n d o=((HT.sIx n d o:Nat):Int):=by
 cases o with
 | none=>rfl
 | some v =>
 show max (0:Int) (min (if v<0 then v+(n:Int) else v) (n:Int))=(((if v<0 then (v+(n:Int)).toNat else min v.toNat n):Nat):Int);by_cases hv:v<0
 ·simp only [if_pos hv]
  omega
 simp only [if_neg hv];omega
theorem kn_ (a b:Option Int) (n:Nat):Builtin.Str.strSliceIndices a b 1 n=sliceRange (lu_ n 0 a) (lu_ n n b) 1:=by
 have h1:((1:Int) > 0)=True:=by simp
 cases a <;> cases b <;> first
  | rfl
  | (simp only [Builtin.Str.strSliceIndices,lu_,h1,if_true];rfl)
  | simp [Builtin.Str.strSliceIndices,lu_]
theorem sidx (a b:Option Int) (n:Nat):Builtin.Str.strSliceIndices a b 1 n=(List.range (HT.sIx n n b - HT.sIx n 0 a)).map (fun k=>HT.sIx n 0 a+k):=by
 rw [kn_,jb_,jb_];generalize HT.sIx n 0 a=p;generalize HT.sIx n n b=q;simp only [sliceRange,show ((1:Int) > 0)=True from by simp,if_true];by_cases hlt:(p:Int)<q
 ·have e3:(((q:Int) - p+1 - 1) / 1).toNat=q - p:=by first | omega | (simp;done) | (simp;omega)
  simp only [hlt,if_true,e3];refine List.map_congr_left fun k _=>?_;omega
 have:q - p=0:=by omega
 simp [hlt,this]
noncomputable def cutS (z:Str) (lo hi:Option Int):Str :=
 ⟨((z.cps.toList.drop (HT.sIx z.length 0 lo)).take (HT.sIx z.length z.length hi - HT.sIx z.length 0 lo)).toArray⟩
theorem dd_ (z:Str) (lo hi:Option Int):PySem.StrLaws.sliceText z lo hi=cutS z lo hi:=by
 have h1:HT.sIx z.length 0 lo<=z.length:=HT.sIx_le _ _ (zero_le _) _;have h2:HT.sIx z.length z.length hi<=z.length:=HT.sIx_le _ _ (Nat.le_refl _) _;have hp:HT.sIx z.length 0 lo<=max (HT.sIx z.length 0 lo) (HT.sIx z.length z.length hi):=Nat.le_max_left _ _;have hq:max (HT.sIx z.length 0 lo) (HT.sIx z.length z.length hi)<=z.length:=Nat.max_le.mpr ⟨h1,h2⟩;have hd:max (HT.sIx z.length 0 lo) (HT.sIx z.length z.length hi) - HT.sIx z.length 0 lo=HT.sIx z.length z.length hi - HT.sIx z.length 0 lo:=by omega
 have e:Builtin.Str.strSliceIndices lo hi 1 z.length =
   Builtin.Str.strSliceIndices (some ((HT.sIx z.length 0 lo:Nat):Int)) (some ((max (HT.sIx z.length 0 lo) (HT.sIx z.length z.length hi):Nat):Int)) 1 z.length:=by
  rw [PySem.StrLaws.strSliceIndices_plain hp hq,hd,sidx]
 have e2:PySem.StrLaws.sliceText z lo hi =
   PySem.StrLaws.sliceText z (some ((HT.sIx z.length 0 lo:Nat):Int)) (some ((max (HT.sIx z.length 0 lo) (HT.sIx z.length z.length hi):Nat):Int)):=by
  unfold PySem.StrLaws.sliceText;rw [e]
 rw [e2,PySem.StrLaws.sliceText_nat z hp hq,hd];rfl
theorem id_ (z:Str) (lo hi:Option Int):(cutS z lo hi).length<=z.length:=by
 show (((z.cps.toList.drop (HT.sIx z.length 0 lo)).take (HT.sIx z.length z.length hi - HT.sIx z.length 0 lo)).toArray).size<=z.cps.size;rw [size_toArray,length_take,length_drop,Array.length_toList];omega
def rSlS:V->Option Int->Option Int->Hp->VK->Prop:=fun x lo hi H Q=>∃ z,x = .str z/\z.length<=sizeLine/\Q (.str (cutS z lo hi)) H
theorem m8_ {X:Cx}:SlR X rSlS:=by
 intro zz s σ H x v vl vu lo hi sl Q I rx hs pl pu h;refine x_12 h fun z zr1 hz q=>?_;subst zr1;obtain ⟨t,rfl⟩:=rx;refine x_12 hs fun os hos hcs hds=>?_;obtain ⟨l,rfl,rfl⟩:=IsPart.raw pl;obtain ⟨u,rfl,rfl⟩:=IsPart.raw pu;refine ⟨"str",_,F.slot_str_getitem.lookup,typeIs_str _ _ _,?_⟩;refine wpAny_getItem_str_slice (l:=l) (u:=u) (st:=none) ⟨os,hos,hcs,hds⟩ rfl ?_;have hl:(PySem.StrLaws.sliceText z (l.map (·.1)) (u.map (·.1))).length<=sizeLine:=by
  rw [dd_];exact Nat.le_trans (id_ z _ _) hz
 rw [<- dd_] at q;unfold PySem.StrLaws.sliceText at q hl;show Made.post (if ((1:Int) == 1 && (Builtin.Str.strSliceIndices (l.map (·.1)) (u.map (·.1)) 1 z.length).length == z.length)=true then Made.val (.str z t)
  else Made.str ⟨((Builtin.Str.strSliceIndices (l.map (·.1)) (u.map (·.1)) 1 z.length).filterMap (z.cps[·]?)).toArray⟩) (EP X zz σ Q) s
 by_cases c:((1:Int) == 1 && (Builtin.Str.strSliceIndices (l.map (·.1)) (u.map (·.1)) 1 z.length).length == z.length)=true
 ·rw [if_pos c] at q ⊢
  exact ⟨.str z,H,I,⟨t,rfl⟩,q⟩
 rw [if_neg c] at q hl ⊢;exact ⟨hl,.str _,H,I.tok _,⟨_,rfl⟩,q⟩
def bm_ (s:Stmt) (j:Nat):Stmt:=match s with
 | .ClassDef _ _ _ body _ _ _ _ _ _ _=>body.getD j (.Pass ⟨0,0,0,0⟩)
 | _ => .Pass ⟨0,0,0,0⟩
def cx_ (s:Stmt):Arguments:=match s with
 | .FunctionDef _ a _ _ _ _ _ _ _ _=>a
 | _=>{ posonlyargs:=[],args:=[],vararg:=none,kwonlyargs:=[],kw_defaults:=[],kwarg:=none,defaults:=[] }
noncomputable def bw_ (s:Stmt):List Stmt:=match s with
 | .FunctionDef _ _ b _ _ _ _ _ _ _=>b
 | _=>[]
noncomputable def ae_ (s:Stmt):Scope:=match s with
 | .FunctionDef _ _ _ _ _ _ sc _ _ _=>sc
 | _=>{ kind := .function,names:=[],isGenerator:=false,isCoroutine:=false }
abbrev CX0:CXT:=fun _ _ _ _ _ _=>False
abbrev E0:XK:=fun _ _ _=>False
theorem ak_ {X:Cx}:bF_ CX0 X E0:=fun _ _ _ _ _ _ _ h=>h.elim
structure Fun (K:Frag) (x qual:Str) (st:Stmt) (f:Addr) (fd:FuncData):Prop where
 ex : ∃ (oc:Value) (od:Option Addr) (kV doc pm:Value) (an:Option Addr) (cdv ct:Value) (osl:Array (Option Value)),
  fd=fnOf x qual (cx_ st) (bw_ st) (ae_ st) .none kV doc pm an cdv ct/\K.lookup f=some ⟨oc,od,.func fd,osl⟩/\codeIn K cdv qual=true
 kp:keepIn K (.ref f)=true
section
variable {P:Program}{w:World}{K:Frag}{mg:zM}{base:Heap}
theorem Fun.ok {x qual:Str}{st:Stmt}{f:Addr}{fd:FuncData}{N ps:List Str}{k:Nat}{sp:Sp} (F:Fun K x qual st f fd) (S:FnScope N ps (ae_ st))
  (hbody : ∀ (cdv:Value) (A:Around) (outer:List Env) (s:Shared) (H:Hp) (vs:List V) (Q:VK) (E:XK),Room k (A.deeper (envOfC qual (ae_ st) s.heap.objs.size f cdv))->sp vs H Q E ->
   ∃ t,PSs (cxOf CX0 P w K mg base N qual (ae_ st) f cdv A outer s H E).nox (bw_ st) t/\t { nx:=fun _ H'=>Q .non H',rt:=Q } (start N vs) H) (len : ∀ vs H Q E,sp vs H Q E->vs.length=ps.length:=by intro _ _ _ _ h;repeat first | (cases h;rfl) | (obtain ⟨rfl,_⟩:=h;rfl) | (obtain ⟨_,h⟩:=h)):FnOk P w K mg base CX0 (k+1) f fd ps sp:=by
 refine x_90 F.ex fun oc od kV doc pm an cdv ct osl zy=>x_02 zy fun zr9 lk hcd=>?_;subst zr9;refine oM_ lk hcd S len fun A outer s H vs Q E hr hsp=>?_;obtain ⟨t,h,q⟩:=hbody cdv A outer s H vs Q E hr hsp;exact ⟨t,h.nox,q⟩
theorem Fun.binds {x qual:Str}{st:Stmt}{f:Addr}{fd:FuncData}{ps:List Str} (F:Fun K x qual st f fd)
  (h : ∀ (kV doc pm:Value) (an:Option Addr) (cdv ct:Value) (us:List Value),us.length=ps.length->bindArgs (fnOf x qual (cx_ st) (bw_ st) (ae_ st) .none kV doc pm an cdv ct) ⟨us,[]⟩=pure (ps.zip us)):aY_ K fd ps []:=by
 obtain ⟨oc,od,kV,doc,pm,an,cdv,ct,osl,rfl,lk,hcd⟩:=F.ex;exact .all (h kV doc pm an cdv ct)
theorem nt_ {x qual:Str}{st:Stmt}{f:Addr}{oc:Value}{od an:Option Addr}{osl:Array (Option Value)}{kV doc pm cdv ct:Value} (l:K.lookup f=some ⟨oc,od,.func (fnOf x qual (cx_ st) (bw_ st) (ae_ st) .none kV doc pm an cdv ct),osl⟩)
  (c:codeIn K cdv qual=true) (k:keepIn K (.ref f)=true):Fun K x qual st f (fnOf x qual (cx_ st) (bw_ st) (ae_ st) .none kV doc pm an cdv ct):=⟨⟨oc,od,kV,doc,pm,an,cdv,ct,osl,rfl,l,c⟩,k⟩
end
section
variable {X:Cx}
theorem pv (i:Nat) {x:Str}{pos:Pos} (hN:X.N[i]? = some x:=by rfl) (hv:Vis X.env.scope x:=by first | exact Or.inl rfl | exact Or.inr (Or.inl rfl) | exact Or.inr (Or.inr rfl)) (hd:(x == ("__debug__":Str))=false:=by decide)
  (hcd:(x == ("__classdict__":Str))=false:=by decide):PE X (.Name x pos) (tVar i):=pt_ hN hv hd hcd
end
theorem iteF {A B:Prop} (h:B):if false=true then A else B:=by
 rw [if_neg Bool.false_ne_true];exact h
theorem iteT {A B:Prop} (h:A):if true=true then A else B:=by
 rw [if_pos rfl];exact h
theorem ite2 {c A B:Prop} [Decidable c] (h1:c->A) (h2 : ¬ c->B):if c then A else B:=by
 by_cases h:c
 ·rw [if_pos h]
  exact h1 h
 rw [if_neg h];exact h2 h
theorem qr_ {c A B:Prop} [Decidable c] (hc:c) (h:B):if (!decide c)=true then A else B:=by
 rw [decide_eq_true hc];exact iteF h
def Same (H H':Hp):Prop:=∀ b o,H b=some o->H' b=some o
theorem Same.refl (H:Hp):Same H H:=fun _ _ h=>h
theorem Same.trans {H H1 H2:Hp} (a:Same H H1) (b:Same H1 H2):Same H H2:=fun c o h=>b c o (a c o h)
theorem Same.seq {K:Frag}{H H':Hp}{a:Addr}{xs:List V} (e:Same H H') (h:SqL K H a xs):SqL K H' a xs:=by
 rcases h with (h | ⟨o,h⟩) | h
 ·exact .inl (.inl (e _ _ h))
 ·exact .inl (.inr ⟨o,e _ _ h⟩)
 exact .inr h
noncomputable abbrev cP_:List Value:=[.type "Exception",.type "BaseException",.type "object"]
structure XCls (K:Frag) (C f:Addr):Prop where
 obj : ∃ nm q N bs sn sub ab col dd k0 k1 k2 k3 k5,K.lookup C=some (excClassObj nm q C N bs cP_ true sn sub ab col dd k0 k1 k2 k3 k5 "Exception.__new__")
 init:PySem.W.findIn K (.ref C) "__init__"=some (some (.ref f))
 fn:isFn K (.ref f)=true
 kp:keepIn K (.ref C)=true
 ga:PySem.W.findIn K (.ref C) "__getattribute__"=some (some (.builtin "BaseException.__getattribute__"))
 gn:PySem.W.findIn K (.ref C) "__getattr__"=some none
 sa:PySem.W.findIn K (.ref C) "__setattr__"=some (some (.builtin "object.__setattr__"))
 hd:hasDictIn K C=true
theorem nD_ {K:Frag}{C f N:Addr}{nm q:Str}{bs:List Value}{sn:List Str}{sub:List Value}{ab:Bool}{col:Option Bool}{dd:Option Addr}{k0 k1 k2 k3 k5:Option Value}
  (l:K.lookup C=some (excClassObj nm q C N bs cP_ true sn sub ab col dd k0 k1 k2 k3 k5 "Exception.__new__")) (i:PySem.W.findIn K (.ref C) "__init__"=some (some (.ref f))) (n:isFn K (.ref f)=true) (k:keepIn K (.ref C)=true)
  (g:PySem.W.findIn K (.ref C) "__getattribute__"=some (some (.builtin "BaseException.__getattribute__"))) (a:PySem.W.findIn K (.ref C) "__getattr__"=some none) (s:PySem.W.findIn K (.ref C) "__setattr__"=some (some (.builtin "object.__setattr__")))
  (d:hasDictIn K C=true):XCls K C f:=⟨⟨nm,q,N,bs,sn,sub,ab,col,dd,k0,k1,k2,k3,k5,l⟩,i,n,k,g,a,s,d⟩
noncomputable abbrev oU_ (C t:Addr):Obj:={ cls := .ref C,data := .fields #[.ref t,.none,.none,.none,.bool false,.none] }
noncomputable def gc_ (h:Heap) (C:Addr) (us:List Value):Heap:=(h.push { cls := .type "tuple",data := .seq us.toArray }).push (oU_ C h.objs.size)
theorem eL_ {h:Heap}{C:Addr}{us:List Value}{b:Addr}{o:Obj} (e:h.get? b=some o):(gc_ h C us).get? b=some o:=get?_push_of_some _ (get?_push_of_some _ e)
theorem i4_ {h:Heap}{C:Addr}{us:List Value}:(gc_ h C us).get? (h.objs.size+1)=some (oU_ C h.objs.size):=by
 unfold gc_
 heap_get
section
variable {P:Program}{w:World}{A:Around}{K:Frag}{C f:Addr}{R:Result->Shared->Prop}{s:Shared}
theorem qp_ {us:List Value} (X:K.In s.heap) (c:XCls K C f) (hl:us.length<=sizeLine)
  (go:codeAny (model P w) (A.under (.builtin "type.__call__" ⟨.ref C::us,[]⟩)) (.call (.ref f) ⟨.ref (s.heap.objs.size+1)::us,[]⟩) (PySem.W.InitBack (s.heap.objs.size+1) R) { s with heap:=gc_ s.heap C us }) :
  codeAny (model P w) A (.call (.ref C) ⟨us,[]⟩) R s:=by
 obtain ⟨hp,g,d,t,os⟩:=s;refine x_90 c.obj fun nm q N bs sn sub ab col dd zz0=>?_;refine x_50 zz0 fun k0 k1 k2 k3 k5 lk=>?_;have atC:=X _ _ lk;have B:=PySem.F.excBase_Exception;have n1:=tc_lookup;have n2:=tc_bind (.ref C);have tyC:(⟨hp,g,d,t,os⟩:Shared).TypeIs (.ref C) "type":=⟨_,atC,rfl⟩;refine codeAny_of_tree ?_;show wpAny _ _ (callAny (.ref C) _) _ _ _
 repeat (any_goals (first | assumption | (with_reducible refine wpAny_loadPart_at atC ?_) | wp_step))
 refine And.intro rfl (codeAny_call_builtin_at (Code.quiet_builtin _ (by left)) entry_typeCall (wpAny_check_type_call_sub atC ?_))
 repeat (first | (with_reducible refine wpAny_loadPart_at atC ?_) | (with_reducible refine wpAny_madeBy_exc atC ?_) | wp_step)
 refine codeAny_call_builtin_code (Code.quiet_builtin _ B.quiet) (wpAny_check_new_sub B atC (codeAny_exc_new_sub B atC ?_ hl));show wpAny _ _ _ _ _ ⟨gc_ hp C us,g,d,t,os⟩;have X':K.In (gc_ hp C us):=X.keeps fun b o e=>eL_ e;have atC':=X' _ _ lk;have atE:(gc_ hp C us).get? (hp.objs.size+1)=some (oU_ C hp.objs.size):=i4_;have inC:(Value.ref C::cP_).contains (.ref C)=true:=by simp
 unfold isInstance
 repeat (first | (with_reducible refine wpAny_loadPart_at atE ?_) | ((with_reducible refine wpAny_isSubtype_exc atC' ?_);rw [inC]) | wp_step)
 show wpAny _ _ (typeLookup (.ref C) _) _ _ _;refine (looks_findIn X' c.init).at ?_;refine wpAny_holding (wpAny_bind ((PySem.W.bind_fn X' _ (beq_iff_eq.mp c.fn)).at ?_));refine wpAny_bind (wpAny_call (codeAny_mono go fun r s' z=>?_));rcases r with e | (_ | _ | _ | v)
 ·exact z
 ·exact z.elim
 ·exact z.elim
 ·exact z.elim
 obtain ⟨rfl,z⟩:=z;exact wpAny_pure (wpAny_pure z)
end
section
open PySem.W (InstAt Looks)
section
variable {P:Program}{w:World}{A:Around}{K:Frag}{C f x:Addr}{s:Shared}{ox:Obj}{od:Option Obj}{name:Str}{v:Value}
theorem m2_ {tk:Tok}{R:Result->Shared->Prop} (X:K.In s.heap) (I:InstAt s.heap x ox C od) (c:XCls K C f) (n:ax_ K C name)
  (go : ∀ b,wpAny (model P w) A.in1 (Builtin.ObjectAttr.storeInOwnDict (.ref x) (.ref C) (.str name tk) name v b)
   (fun fin s'=>match fin with | .done f=>R (.ok f) s' | .again c'=>c'.quiet=true/\codeAny (model P w) A c' R s') (fun e s'=>R (.error e) s') s) :
  codeAny (model P w) A (.call (.builtin "object.__setattr__") ⟨[.ref x,.str name tk,v],[]⟩) R s:=by
 have S:=PySem.F.store_Exception;refine x_90 c.obj fun nm q N bs sn sub ab col dd zz0=>?_;refine x_50 zz0 fun k0 k1 k2 k3 k5 lk=>?_;have hcd:clsIn K C=some { name:=nm,bases:=bs,mro := .ref C::cP_,ns:=N,qualname:=q,hasDict:=true,slotNames:=sn,subclasses:=sub,abstract:=ab,collection:=col,hasDel:=false }:=by
  unfold clsIn;rw [lk]
 have isO:Looks (model P w) s.heap (isInstance (.ref x) (.type "object")) true:=I.type.andThen (PySem.W.looks_mroIn X (by unfold mroIn;rw [hcd,Option.bind_some];rfl));have mro:Looks (model P w) s.heap (mroOf (.ref C)) (.ref C::cP_):=(looks_clsIn X hcd).andThen .now;refine codeAny_call_builtin S.slot.plain S.entry (@PySem.W.check_slot (model P w) _ _ s "object.__setattr__" "object" "__setattr__" (.ref x) [.str name tk,v] [] _ S.kind S.split isO (S.args (.ref x) (.str name tk) v) ?_);rw [PySem.W.osa_eq,refuse_eq];refine wpAny_bind (wpAny_bind (I.type.here (wpAny_bind (mro.here ?_))));rw [refuseLoop_ref,S.passes];refine wpAny_pure (wpAny_bind (I.type.here (wpAny_bind ((looks_findIn X n).here (wpAny_bind (wpAny_pure ?_))))));exact go _
end
def XNew (C p:Addr) (d:Option Addr):HO := .ext fun h=>∃ t,h.get? p=some { cls := .ref C,dict:=d,data := .fields #[.ref t,.none,.none,.none,.bool false,.none] }
def XDic (p:Addr) (fs:List (Str×V)):HO := .ext fun h=>fs.length<=1000/\∃ mA,h.Ns1 p mA/\(∀ f,RelO (fs.lookup f) (mA f))/\PySem.Within mA (fs.map (·.1))
theorem io_ {H:Hp}{a b:Addr}{o u:HO} (h:a≠b):upd (upd H a o) b u=upd (upd H b u) a o:=by
 funext c
 unfold upd;by_cases h1:c=a
 ·rw [if_pos h1,if_neg (fun q=>h (h1.symm.trans q)),if_pos h1]
 rw [if_neg h1,if_neg h1]
theorem nC_ {P:Program}{w:World}{H:Hp}{h:Heap}{p:Addr}{fs:List (Str×V)}{mA:zM} (l:fs.length<=1000) (n:h.Ns1 p mA) (r : ∀ f,RelO (fs.lookup f) (mA f)) (k:PySem.Within mA (fs.map (·.1))):bd_ P w H h p (XDic p fs):=by
 obtain ⟨o,es,ep,ho,c⟩:=n;exact ⟨⟨l,mA,⟨o,es,ep,ho,c⟩,r,k⟩,⟨o,ho⟩,fun h1 h2 ⟨l,mA,⟨o,es,ep,ho,c⟩,r⟩ kp=>⟨l,mA,⟨o,es,ep,kp o ho,c⟩,r⟩⟩
theorem o1_ {P:Program}{w:World}{H:Hp}{h:Heap}{C p t:Addr}{d:Option Addr} (e:h.get? p=some { cls := .ref C,dict:=d,data := .fields #[.ref t,.none,.none,.none,.bool false,.none] }):bd_ P w H h p (XNew C p d) :=
 ⟨⟨t,e⟩,⟨_,e⟩,fun h1 h2 ⟨t,e⟩ kp=>⟨t,kp _ e⟩⟩
section
variable {X:Cx}{zz:zP}{σ:St}{H:Hp}{s:Shared}{a C f₀ dx:Addr}{fs:List (Str×V)}{f:Str}{y:V}{u:Value}{A:Around}{E:zQ}{Q:Unit->Shared->Prop}
theorem kr_ (I:Inv X zz σ H s) (e:H a=some (XNew C a none)) (c:XCls X.K C f₀) (n:ax_ X.K C f) (ry:RelV y u)
  (h : ∀ dx s',H dx=none->dx≠a->Inv X zz σ (upd (upd H dx (XDic dx [(f,y)])) a (XNew C a (some dx))) s'->Q () s'):wpAny (model X.prog X.w) A (setAttr (.ref a) f u) Q E s:=by
 obtain ⟨⟨t,ha⟩,_,_⟩:=(show bd_ X.prog X.w H s.heap a (XNew C a none) from I.hok a _ e);have J:InstAt s.heap a _ C none:=⟨ha,rfl,rfl,trivial⟩;obtain ⟨nm,q,N,bs,sn,sub,ab,col,dd,k0,k1,k2,k3,k5,lk⟩:=c.obj;have hcd:clsIn X.K C=some { name:=nm,bases:=bs,mro := .ref C::cP_,ns:=N,qualname:=q,hasDict:=true,slotNames:=sn,subclasses:=sub,abstract:=ab,collection:=col,hasDel:=false }:=by
  unfold clsIn;rw [lk]
 refine PySem.W.set_plain I.kIn J c.sa (m2_ (s:={ s with toks:=s.toks+1 }) I.kIn J c n fun b=>?_);refine wpAny_bind (wpAny_pure (wpAny_bind (wpAny_bind (wpAny_loadPart ha (wpAny_bind (PySem.W.Looks.here (s:={ s with toks:=s.toks+1 }) (looks_clsIn I.kIn hcd) ?_))))));rw [if_neg (by exact Bool.false_ne_true)];dsimp only;rw [if_neg (by exact Bool.false_ne_true)];have hlt:=lt_size ha;have nda:s.heap.objs.size≠a:=ne_of_gt hlt;have ha1:=get?_push_of_some emptyDict ha;have fr:H s.heap.objs.size=none:=I.hok.fresh (Nat.le_refl _);refine wpAny_bind (wpAny_alloc (wpAny_bind (wpAny_update ha1 (wpAny_pure (a:=some s.heap.objs.size) ?_))));have hd2:((s.heap.push emptyDict).update a fun o=>{ cls:=o.cls,dict:=some s.heap.objs.size,data:=o.data,slots:=o.slots }).get? s.heap.objs.size=some emptyDict :=
  (Heap.get?_update_ne _ _ _ _ nda).trans (get?_push_size s.heap rfl)
 have ha2:=get?_update_self (fun o=>{ cls:=o.cls,dict:=some s.heap.objs.size,data:=o.data,slots:=o.slots }) ha1 rfl;have hnd:((s.heap.push emptyDict).update a fun o=>{ cls:=o.cls,dict:=some s.heap.objs.size,data:=o.data,slots:=o.slots }).Ns s.heap.objs.size (fun _=>none):=⟨_,#[],_,hd2,rfl,fun e he=>absurd he (by simp),fun _=>rfl⟩;have I1:=I.laid (a:=s.heap.objs.size) (o:=XDic s.heap.objs.size []) (h':=s.heap.push emptyDict) (t':=s.toks+1) (fun b u q=>get?_push_of_some _ q) (Nat.le_refl _)
  (nC_ (zero_le _) (Heap.Ns1.of_empty ⟨_,#[],_,get?_push_size s.heap rfl,rfl,fun e he=>absurd he (by simp),fun _=>rfl⟩) (fun _=>trivial) fun y hy=>absurd rfl hy)
 have I2:=I1.write (x:=a) (e:=a) (o:=XNew C a (some s.heap.objs.size)) (t':=s.toks+1) (by rw [ag_ (Ne.symm nda),e];exact True.intro) (.inl rfl) (fun b u hb q=>(Heap.get?_update_ne _ _ _ _ hb).trans q) ⟨_,ha2⟩ (o1_ ha2);show wpAny _ _ (Builtin.ObjectAttr.storeInDict s.heap.objs.size (.str f s.toks) f u) _ _ _;unfold Builtin.ObjectAttr.storeInDict Builtin.ObjectAttr.newKeyGuard;refine wpAny_bind (wpAny_pure (wpAny_bind (wpAny_nsSet1 (Heap.Ns1.of_empty hnd) fun h' hn' hs=>?_)));refine x_32 (hn'.count (Within.cons f u Within.nil)) fun oD esD epD hoD hdD hcD=>?_;refine wpAny_bind (wpAny_lookBehind hoD (by rw [hdD];exact pastItsLine_dict (Nat.le_trans hcD (by rw [length_cons,length_nil,sizeLine_eq];omega))) ?_);refine wpAny_pure (h s.heap.objs.size _ fr nda ?_);have I3:=I2.write (x:=s.heap.objs.size) (e:=s.heap.objs.size) (o:=XDic s.heap.objs.size [(f,y)]) (t':=s.toks+1+1) (by rw [ag_ nda,af_];exact True.intro) (.inl rfl) (fun b u hb q=>(hs.2 b hb).trans q) ⟨_,hoD⟩
  (nC_ (by show 1<=1000;decide) hn' (fun g=>?_) fun g hg=>?_)
 ·rw [io_ (Ne.symm nda),fF_] at I3
  exact I3
 ·show RelO (([(f,y)]:List (Str×V)).lookup g) (if g=f then some u else none)
  by_cases q:g=f
  ·subst q
   rw [if_pos rfl,List.lookup_cons_self];exact ry
  rw [if_neg q,lookup_cons,beq_eq_false_iff_ne.mpr q];trivial
 by_cases q:g=f
 ·simp [q]
 exact absurd (by show (if g=f then some u else none)=none;rw [if_neg q]) hg
theorem kq_ (I:Inv X zz σ H s) (e:H a=some (XNew C a (some dx))) (ed:H dx=some (XDic dx fs)) (c:XCls X.K C f₀) (n:ax_ X.K C f) (hl:fs.length<1000) (ry:RelV y u)
  (h : ∀ s',Inv X zz σ (upd H dx (XDic dx (putF f y fs))) s'->Q () s'):wpAny (model X.prog X.w) A (setAttr (.ref a) f u) Q E s:=by
 obtain ⟨⟨t,ha⟩,_,_⟩:=(show bd_ X.prog X.w H s.heap a (XNew C a (some dx)) from I.hok a _ e);obtain ⟨⟨l,mA,hns,rel,wi⟩,⟨od,hod⟩,_⟩:=(show bd_ X.prog X.w H s.heap dx (XDic dx fs) from I.hok dx _ ed);have J:InstAt s.heap a _ C (some od):=⟨ha,rfl,rfl,hod⟩;obtain ⟨nm,q,N,bs,sn,sub,ab,col,dd,k0,k1,k2,k3,k5,lk⟩:=c.obj;have hcd:clsIn X.K C=some { name:=nm,bases:=bs,mro := .ref C::cP_,ns:=N,qualname:=q,hasDict:=true,slotNames:=sn,subclasses:=sub,abstract:=ab,collection:=col,hasDel:=false }:=by
  unfold clsIn;rw [lk]
 refine PySem.W.set_plain I.kIn J c.sa (m2_ (s:={ s with toks:=s.toks+1 }) I.kIn J c n fun b=>?_);refine wpAny_bind (wpAny_pure (wpAny_bind (wpAny_bind (wpAny_loadPart ha (wpAny_bind (PySem.W.Looks.here (s:={ s with toks:=s.toks+1 }) (looks_clsIn I.kIn hcd) ?_))))));rw [if_neg (by exact Bool.false_ne_true)];refine wpAny_pure (a:=some dx) ?_;show wpAny _ _ (Builtin.ObjectAttr.storeInDict dx (.str f s.toks) f u) _ _ _;unfold Builtin.ObjectAttr.storeInDict Builtin.ObjectAttr.newKeyGuard;refine wpAny_bind (wpAny_pure (wpAny_bind (wpAny_nsSet1 (s:={ s with toks:=s.toks+1 }) hns fun h' hn' hs=>?_)));refine x_32 (hn'.count (PySem.Within.cons f u wi)) fun oD esD epD hoD hdD hcD=>?_;refine wpAny_bind (wpAny_lookBehind hoD (by rw [hdD];exact pastItsLine_dict (Nat.le_trans hcD (by rw [length_cons,length_map,sizeLine_eq];omega))) ?_);refine wpAny_pure (h _ ?_);refine I.write (x:=dx) (e:=dx) (t':=s.toks+1+1) (by rw [ed];exact True.intro) (.inl rfl) (fun b u hb q=>(hs.2 b hb).trans q) ⟨_,hoD⟩ (nC_ (by have:=ch_ f y fs;omega) hn' (fun g=>?_) fun g hg=>?_)
 ·show RelO ((putF f y fs).lookup g) (if g=f then some u else mA g)
  rw [cZ_];by_cases q:g=f
  ·rw [if_pos q,if_pos q]
   exact ry
  rw [if_neg q,if_neg q];exact rel g
 by_cases q:g=f
 ·rw [q]
  exact (ct_ f y fs).1
 refine (ct_ f y fs).2 g (wi g fun z=>hg ?_);show (if g=f then some u else mA g)=none;rw [if_neg q];exact z
end
end
section
open PySem.W (InstAt Looks)
def XGot (C p d:Addr):HO := .ext fun h=>∃ vs sl,h.get? p=some ⟨.ref C,some d,.fields vs,sl⟩
theorem qi_ {P:Program}{w:World}{H:Hp}{h:Heap}{C p d:Addr}{vs:Array Value}{sl:Array (Option Value)} (e:h.get? p=some ⟨.ref C,some d,.fields vs,sl⟩):bd_ P w H h p (XGot C p d) :=
 ⟨⟨vs,sl,e⟩,⟨_,e⟩,fun h1 h2 ⟨vs,sl,e⟩ kp=>⟨vs,sl,kp _ e⟩⟩
section
variable {X:Cx}{zz:zP}{σ:St}{H:Hp}{s:Shared}{a C f₀ dx:Addr}{fs:List (Str×V)}{f:Str}{v:V}{u:Value}{A:Around}{E:zQ}
theorem mA_ {b:Bool}{Q:zQ} (I:Inv X zz σ H s) (e:H a=some (XGot C a dx)) (ed:H dx=some (XDic dx fs)) (c:XCls X.K C f₀) (n:ax_ X.K C f) (l:fs.lookup f=some v)
  (h : ∀ u s',Inv X zz σ H s'->RelV v u->Q u s'):wpAny (model X.prog X.w) A (getAttr (.ref a) f b) Q E s:=by
 obtain ⟨⟨vs,sl,ha⟩,_,_⟩:=(show bd_ X.prog X.w H s.heap a (XGot C a dx) from I.hok a _ e);obtain ⟨⟨zp,mA,hns,rel,wi⟩,_,_⟩:=(show bd_ X.prog X.w H s.heap dx (XDic dx fs) from I.hok dx _ ed);obtain ⟨od,hod,hlk⟩:=g9_ hns;have J:InstAt s.heap a _ C (some od):=⟨ha,rfl,rfl,hod⟩;obtain ⟨u,hu,ru⟩:=RelO.some_of (v:=v) (o:=mA f) (by rw [<- l];exact rel f);have hf:PySem.W.findObj X.K C (some od) f=some (.value u):=PySem.W.findObj_own c.hd n rfl (by rw [hlk,hu]);have K0:=I.kIn;have I1:=I.tok (s.toks+1);obtain ⟨hp,g,d,t,os⟩:=s;have L0:=J.type (M:=model X.prog X.w);have L1:=looks_findIn (M:=model X.prog X.w) K0 c.ga;have L2:=looks_findIn (M:=model X.prog X.w) K0 c.gn;unfold getAttr getAttrBy;refine wpAny_bind (wpAny_mkText (wpAny_holding (wpAny_bind (L0.at (wpAny_bind (L1.at ?_))))));dsimp only;rw [if_neg (by rw [show (Value.builtin "BaseException.__getattribute__" == Value.builtin "object.__getattribute__")=false by left,Bool.and_false];exact Bool.false_ne_true)];unfold getAttrByItsOwn hookBefore;refine wpAny_bind (L2.at ?_);have hb:callGetattribute (Value.ref a) (Value.str f t) (Value.builtin "BaseException.__getattribute__") b=boundAndCalled (Value.builtin "BaseException.__getattribute__") (.ref a) (.str f t):=by cases b <;> rfl
 rw [hb];refine wpAny_bind (wpAny_attempt (wpAny_holding ?_));unfold boundAndCalled;have G:=PySem.F.attr_Exception;rw [G.ga.bind];refine wpAny_bind (wpAny_pure (wpAny_call ?_));refine x_90 c.obj fun nm q N bs sn sub ab col dd zz0=>?_;refine x_50 zz0 fun k0 k1 k2 k3 k5 lk=>?_;have hcd:clsIn X.K C=some { name:=nm,bases:=bs,mro := .ref C::cP_,ns:=N,qualname:=q,hasDict:=true,slotNames:=sn,subclasses:=sub,abstract:=ab,collection:=col,hasDel:=false }:=by
  unfold clsIn;rw [lk]
 have isB:Looks (model X.prog X.w) hp (isInstance (.ref a) (.type "BaseException")) true:=L0.andThen (PySem.W.looks_mroIn K0 (by unfold mroIn;rw [hcd,Option.bind_some];rfl));refine codeAny_call_builtin G.ga.plain PySem.F.entry_bexc_ga (@PySem.W.check_slot (model X.prog X.w) _ _ ⟨hp,g,d,t+1,os⟩ "BaseException.__getattribute__" "BaseException" "__getattribute__" (.ref a) [.str f t] [] _ (by left) (by left) isB (PySem.F.args_bexc_ga _ _) ?_);have L3:=PySem.W.looks_find (M:=model X.prog X.w) K0 J hf;unfold Builtin.«object.__getattribute__»;refine wpAny_bind (wpAny_pure (wpAny_bind (wpAny_pure (wpAny_bind (L0.at (wpAny_bind (L3.at (wpAny_pure ?_))))))));show wpAny _ _ (handedOut u) _ _ _;rw [PySem.W.handedOut_of (hk_ ru)];exact wpAny_pure (h u _ I1 ru)
end
def nb_ (K:Frag) (ta tv:TE) (f:Str):TS:=fun D σ H=>tv σ H fun y H1=>ta σ H1 fun x H2=>∃ a C f₀,x = .ref a/\H2 a=some (XNew C a none)/\XCls K C f₀/\ax_ K C f /\
 ∀ dx,H2 dx=none->dx≠a->D.nx σ (upd (upd H2 dx (XDic dx [(f,y)])) a (XNew C a (some dx)))
def na_ (K:Frag) (ta tv:TE) (f:Str):TS:=fun D σ H=>tv σ H fun y H1=>ta σ H1 fun x H2=>∃ a C f₀ dx fs,x = .ref a/\H2 a=some (XNew C a (some dx))/\H2 dx=some (XDic dx fs)/\XCls K C f₀/\ax_ K C f/\fs.length<1000 /\
 D.nx σ (upd H2 dx (XDic dx (putF f y fs)))
def lM_ (K:Frag) (ta:TE) (f:Str):TE:=fun σ H Q=>ta σ H fun x H1=>∃ a C f₀ dx fs v,x = .ref a/\H1 a=some (XGot C a dx)/\H1 dx=some (XDic dx fs)/\XCls K C f₀/\ax_ K C f/\fs.lookup f=some v/\Q v H1
section
variable {X:Cx}{o e value:Expr}{f:Str}{pos pos':Pos}{ta tv:TE}
theorem l1_ (ha:PE X o ta) (hv:PE X value tv) (hs:swapsWith value (some (.Attribute o f pos')) pos.line X.env=pure false):PS X (.Assign [.Attribute o f pos'] value pos) (nb_ X.K ta tv f):=by
 intro zz s σ H D I h;refine plainObj_wpAny_Assign_Attribute (thn (hv zz s σ H _ I h) fun u s1 ⟨y,H1,I1,ry,q⟩=>thn (ha zz s1 σ H1 _ I1 q) fun ov s2 zq=>?_) hs;refine x_22 zq fun x H2 I2 rx zz0=>?_;refine x_34 zz0 fun a C f₀ ex ea c n q2=>?_;subst ex;obtain rfl:ov=Value.ref a:=rx;exact kr_ I2 ea c n ry fun dx s3 h1 h2 I3=>⟨σ,_,I3,q2 dx h1 h2⟩
theorem l0_ (ha:PE X o ta) (hv:PE X value tv) (hs:swapsWith value (some (.Attribute o f pos')) pos.line X.env=pure false):PS X (.Assign [.Attribute o f pos'] value pos) (na_ X.K ta tv f):=by
 intro zz s σ H D I h;refine plainObj_wpAny_Assign_Attribute (thn (hv zz s σ H _ I h) fun u s1 ⟨y,H1,I1,ry,q⟩=>thn (ha zz s1 σ H1 _ I1 q) fun ov s2 zq=>?_) hs;refine x_22 zq fun x H2 I2 rx zz0=>?_;refine x_50 zz0 fun a C f₀ dx fs zy=>x_06 zy fun ex ea ed c n l q2=>?_;subst ex;obtain rfl:ov=Value.ref a:=rx;exact kq_ I2 ea ed c n l ry fun s3 I3=>⟨σ,_,I3,q2⟩
theorem kE_ (he:PE X e ta) (hb:attributeBase e f X.env (eval e X.env)=eval e X.env):PE X (.Attribute e f pos) (lM_ X.K ta f):=by
 intro zz s σ H Q I h;refine ly_ hb (thn (he zz s σ H _ I h) fun u s1 zq=>?_);refine x_22 zq fun x H1 I1 rx zz0=>?_;refine x_60 zz0 fun a C f₀ dx fs v zy=>x_06 zy fun ex ea ed c n l q=>?_;subst ex;obtain rfl:u=Value.ref a:=rx;exact mA_ I1 ea ed c n l fun u' s2 I2 ru=>⟨v,H1,I2,ru,q⟩
end
noncomputable def del (H:Hp) (p:Addr):Hp:=fun b=>if b=p then none else H b
theorem eg_ {H:Hp}{p:Addr}:del H p p=none:=by
 unfold del;rw [if_pos rfl]
theorem cw_ {H:Hp}{p b:Addr} (h:b≠p):del H p b=H b:=by
 unfold del;rw [if_neg h]
section
variable {M:Model}{A:Around}{E:zQ}{s:Shared}{env:Env}{K:Frag}{C f:Addr}
theorem pp_ {x:Sem Value}{Q:Flow->Shared->Prop} (hh:A.handled=none) (c:XCls K C f)
  (go:wpAny M A x (fun v s₁=>∃ e d t,v = .ref e/\K.In s₁.heap/\s₁.heap.get? e=some { cls := .ref C,dict:=d,data := .fields #[.ref t,.none,.none,.none,.bool false,.none] }/\E (.ref e) s₁) E s) :
  wpAny M A (raiseStmt env (some x) none) Q E s:=by
 obtain ⟨nm,q,N,bs,sn,sub,ab,col,dd,k0,k1,k2,k3,k5,lk⟩:=c.obj;have isB:(Value.ref C::cP_).contains (.type "BaseException")=true:=by rw [List.contains_cons,PySem.F.excBase_Exception.hasBase,Bool.or_true]
 unfold raiseStmt;refine wpAny_bind (wpAny_mono go (fun v s₁ z=>?_) fun _ _ z=>z);refine x_33 z fun e d t zr3 KX atE hE=>?_;subst zr3;have atC:=KX _ _ lk;obtain ⟨hp,g,dr,tk,os⟩:=s₁
 repeat (first | (with_reducible refine wpAny_loadPart_at atE ?_) | (with_reducible refine wpAny_loadPart_at atC ?_) | ((with_reducible refine wpAny_isSubtype_exc atC ?_);rw [isB]) | wp_step)
 exact wpAny_raiseNew_none hh hE
end
def cq_ (C:Addr) (sp:Sp) (t:TA) (E:XK):TS:=fun _ σ H=>t σ H fun vs H1=>vs.length<=sizeLine/\∀ a,H1 a=none ->
 sp (.ref a::vs) (upd H1 a (XNew C a none)) (fun v H2=>v = .non/\∃ dx fs,H2 a=some (XNew C a (some dx))/\H2 dx=some (XDic dx fs)/\E (.ref C) (some dx) (del H2 a)) fun _ _ _=>False
def nA_ (X:Cx) (E:XK):Prop:=∀ (zz:zP) (σ:St) (H:Hp) (s:Shared) (C a dx:Addr) (fs:List (Str×V)),Inv X zz σ H s->X.s_0.heap.objs.size<=a ->
 H a=some (XNew C a (some dx))->H dx=some (XDic dx fs)->E (.ref C) (some dx) (del H a)->X.xe (.ref a) s
theorem Inv.madeX {X:Cx}{zz:zP}{σ:St}{H:Hp}{s:Shared}{C:Addr}{us:List Value} (I:Inv X zz σ H s):Inv X zz σ (upd H (s.heap.objs.size+1) (XNew C (s.heap.objs.size+1) none)) { s with heap:=gc_ s.heap C us } :=
 I.laid (a:=s.heap.objs.size+1) (o:=XNew C (s.heap.objs.size+1) none) (t':=s.toks) (fun b u q=>eL_ q) (le_succ _) (o1_ i4_)
section
variable {X:Cx}{k:Nat}{f C:Addr}{fd:FuncData}{ps:List Str}{sp:Sp}{E:XK}{x:Str}{p pos zm:Pos}{e:Expr}{es:List Expr}{t:TA}
theorem runX {zz:zP}{σ:St}{H:Hp}{s:Shared}{us:List Value}{vs:List V}{Q:Addr->Hp->Prop} (c:XCls X.K C f) (F:FnOk X.prog X.w X.K X.mg X.base CX0 k f fd ps sp) (hr:Room (k+1) X.A) (hb:aY_ X.K fd ps [])
  (I:Inv X zz σ H s) (r:Vals vs us) (hl:vs.length<=sizeLine) (h : ∀ a,H a=none->sp (.ref a::vs) (upd H a (XNew C a none)) (fun v H2=>v = .non/\Q a H2) fun _ _ _=>False) :
  wpAny (model X.prog X.w) X.A (call (.ref C) us) (fun v s'=>∃ a H',v = .ref a/\X.s_0.heap.objs.size<=a/\Inv X zz σ H' s'/\Q a H') X.xe s:=by
 have hq:=h (s.heap.objs.size+1) (I.hok.fresh (le_succ _));have I2:=Inv.madeX (C:=C) (us:=us) I;have r2:Vals (V.ref (s.heap.objs.size+1)::vs) (Value.ref (s.heap.objs.size+1)::us) := .cons rfl r;have hl2:(Value.ref (s.heap.objs.size+1)::us++[]).length=ps.length:=by
  rw [append_nil,<- r2.length];exact F.len _ _ _ _ hq
 have hb2:=hb { s with heap:=gc_ s.heap C us } (Value.ref (s.heap.objs.size+1)::us) I2.kIn hl2;rw [append_nil] at hb2;refine wpAny_call (qp_ (f:=f) I.kIn c (by rw [<- r.length];exact hl) (codeAny_mono (F.run _ X.stack _ _ ⟨Value.ref (s.heap.objs.size+1)::us,[]⟩ (Value.ref (s.heap.objs.size+1)::us) _ _ _ (hr.make C us [])
  (I2.env0.make C us []) hb2 r2 hq) fun r s' hq'=>?_))
 cases r with
 | error e=>exact False.elim hq'
 | ok fl =>
 cases fl with
 | ret u =>
  refine x_23 (I2.after hq') fun v H' I3 rv ev q3=>?_;subst ev;exact ⟨rv,_,H',rfl,Nat.le_trans I.sz (le_succ _),I3,q3⟩
 | next=>exact False.elim hq'
 | brk=>exact False.elim hq'
 | cont=>exact False.elim hq'
theorem bo_ (c:XCls X.K C f) (F:FnOk X.prog X.w X.K X.mg X.base CX0 k f fd ps sp) (hr:Room (k+1) X.A) (hg:Gl X x) (hm:X.mg x=some (.ref C)) (hb:aY_ X.K fd ps []) (hx:nA_ X E) (hc:X.calm=true)
  (ha:PA X (e::es) t) (hdb:(x == ("__debug__":Str))=false:=by decide) (he:starEach (e::es) X.env=(false,eval e X.env)::starEach es X.env:=by rfl) (hpl:(backTo zm (starEach es X.env)).any (·.1)=false:=by rfl) :
  PS X (.Raise (some (.Call (.Name x p) (e::es) [] zm)) none pos) (cq_ C sp t E):=by
 intro zz s σ H D I h;have key:wpAny (model X.prog X.w) X.A (eval (.Call (.Name x p) (e::es) [] zm) X.env) (fun v s₁=>∃ e d t,v = .ref e/\X.K.In s₁.heap/\s₁.heap.get? e=some { cls := .ref C,dict:=d,data := .fields #[.ref t,.none,.none,.none,.bool false,.none] }/\X.xe (.ref e) s₁) X.xe s:=by
  refine wpAny_Call_Name_kw (c0_ I hg hm ?_ hdb);refine callWith_K (h₀:=X.base) I.ok.mod.kin c.kp (thn (ha zm zz s σ H _ I h) fun us s1 ⟨vs,H1,I1,r,hl,q⟩=>⟨I1.kIn,?_⟩) he hpl;refine thn (runX c F hr hb I1 r hl q) fun v s2 zq=>?_;refine x_23 zq fun a H2 ev hs I2 zz0=>?_;refine x_22 zz0 fun dx fs h1 h2 h3=>?_;obtain ⟨⟨t,hat⟩,_,_⟩:=(show bd_ X.prog X.w H2 s2.heap a (XNew C a (some dx)) from I2.hok a _ h1);exact ⟨a,some dx,t,ev,I2.kIn,hat,hx zz σ H2 s2 C a dx fs I2 hs h1 h2 h3⟩
 rw [arm_exec_Raise];exact wpAny_bind (wpAny_standAt (pp_ (I.ok.hd hc) c (wpAny_bind (wpAny_mono key (fun v s₁ z=>wpAny_bind (wpAny_standAt (wpAny_pure z))) fun _ _ z=>z))))
end
end
section
open PySem.W (InstAt Looks)
structure Noted (l:List Env) (e:Addr) (old:Option Addr) (fl:Value) (h h':Heap):Prop where
 keep : ∀ b o,b≠e->some b≠old->b∉frs l->h.get? b=some o->h'.get? b=some o
 slot : ∀ b o,b≠e->some b≠old->h.get? b=some o->∃ sl,h'.get? b=some { o with slots:=sl }
 there : ∀ b o,h.get? b=some o->∃ o',h'.get? b=some o'
 exc : ∀ oe vs,h.get? e=some oe->oe.data = .fields vs->∃ vs' T oT ts,h'.get? e=some { oe with data := .fields vs' }/\vs'[1]? = some (.ref T)/\h.objs.size<=T/\T≠e/\h'.get? T=some oT/\oT.data = .fields ts/\ts[3]? = some fl
section
variable {M:Model}{A:Around}{E:zQ}{s:Shared}
theorem g7_ {o:Obj}{vs:Array Value} (d:o.data = .fields vs) (g:Array Value->Array Value):Obj.mapFields g o={ o with data := .fields (g vs) }:=by
 obtain ⟨c,dd,dt,sl⟩:=o;dsimp only at d;subst d;rfl
theorem nv_ {base:Heap}{env:Env}{outer:List Env}{L e:Addr}{oe:Obj}{vs:Array Value}{head:Value}{nx:Bool}{Q:Unit->Shared->Prop}
  (hfr:A.frames=some (env::outer)) (hl:s.heap.FunFrames base (env::outer)) (hf:env.frame=some L) (he:s.heap.get? e=some oe) (hd:oe.data = .fields vs) (hz:1<vs.size)
  (go : ∀ h',Noted (env::outer) e none (rawInt L) s.heap h'->Q () { s with heap:=h' }) :
  wpAny M A (do let a <- frameOf env;let pl <- entryPlaceOf L nx;let b <- EntryCells.newEntry head a .none (rawInt L) .none pl;setField (.ref e) 1 b) Q E s:=by
 have nfr:e∉frs (env::outer):=fun hm=>by
  obtain ⟨_,o,ho,nf⟩:=hl.mem hm;rw [he] at ho;cases ho;exact nf vs hd
 refine wpAny_bind (wpAny_frameOf_fun hfr hl hf fun h₁ so=>wpAny_bind (wpAny_entryPlaceOf fun pl hpl=>?_));unfold EntryCells.newEntry newFields;refine wpAny_bind (wpAny_newObj_type ?_ (hpl.sizeOk5 _ _ _ _ _));have e1:h₁.get? e=some oe:=(so.2.1 e nfr).trans he;have e2:=get?_push_of_some { cls := .type "traceback",dict:=none,data := .fields ([head,.ref L,.none,rawInt L,.none]++(if pl.isEmpty then List.replicate 6 Value.none else pl)).toArray } e1;have nT:h₁.objs.size≠e:=ne_of_gt (lt_size e1);have hfd:=Obj.isFreed_of_fields (Obj.data_mapFields hd (·.setIfInBounds 1 (Value.ref h₁.objs.size)));refine wpAny_setField e2 hd hz (go _ ⟨fun b o hb _ hn q=>?_,fun b o hb _ q=>?_,fun b o q=>?_,fun oe' vs' q1 q2=>?_⟩)
 ·rw [get?_update_other _ _ (Ne.symm hb)]
  exact get?_push_of_some _ ((so.2.1 b hn).trans q)
 ·obtain ⟨sl,z⟩:=so.2.2 b o q
  exact ⟨sl,by rw [get?_update_other _ _ (Ne.symm hb)];exact get?_push_of_some _ z⟩
 ·by_cases hb:b=e
  ·subst hb
   exact ⟨_,get?_update_self _ e2 hfd⟩
  obtain ⟨sl,z⟩:=so.2.2 b o q;exact ⟨_,by rw [get?_update_other _ _ (Ne.symm hb)];exact get?_push_of_some _ z⟩
 rw [he] at q1;cases q1;rw [hd] at q2;cases q2;have atT:((h₁.push { cls := .type "traceback",dict:=none,data := .fields ([head,.ref L,.none,rawInt L,.none]++(if pl.isEmpty then List.replicate 6 Value.none else pl)).toArray }).update e (Obj.mapFields (·.setIfInBounds 1 (Value.ref h₁.objs.size)))).get? h₁.objs.size
   = some { cls := .type "traceback",dict:=none,data := .fields ([head,.ref L,.none,rawInt L,.none]++(if pl.isEmpty then List.replicate 6 Value.none else pl)).toArray }:=by
  rw [get?_update_other _ _ (Ne.symm nT)];exact get?_push_size h₁ rfl
 refine ⟨vs.setIfInBounds 1 (Value.ref h₁.objs.size),h₁.objs.size,_,([head,.ref L,.none,rawInt L,.none]++(if pl.isEmpty then List.replicate 6 Value.none else pl)).toArray,?_,by simp [hz],Nat.le_of_eq so.1.symm,nT,atT,rfl,?_⟩
 ·rw [<- g7_ hd (·.setIfInBounds 1 (Value.ref h₁.objs.size))]
  exact get?_update_self _ e2 hfd
 first | (simp;done) | (rcases hpl with rfl | ⟨_,_,_,_,_,_,_,rfl⟩ <;> simp)
def qf_ (h:Heap) (e:Addr) (vs:Array Value) (old:Option Addr):Prop :=
 (old=none/\vs[1]? = some .none)\/∃ T oT ts,old=some T/\vs[1]? = some (.ref T)/\T≠e/\h.get? T=some oT/\oT.data = .fields ts/\ts[3]? = some .none
theorem pA_ {base:Heap}{env:Env}{outer:List Env}{L e:Addr}{oe:Obj}{vs:Array Value}{old:Option Addr}{Q:Unit->Shared->Prop}
  (hfr:A.frames=some (env::outer)) (hl:s.heap.FunFrames base (env::outer)) (hf:env.frame=some L) (he:s.heap.get? e=some oe) (hd:oe.data = .fields vs) (la:qf_ s.heap e vs old)
  (go : ∀ h',Noted (env::outer) e old (rawInt L) s.heap h'->Q () { s with heap:=h' }):wpAny M A (noteFrame (.ref e) env) Q E s:=by
 unfold noteFrame;simp only [hf];rcases la with ⟨rfl,h1⟩ | ⟨T,oT,ts,rfl,h1,nTe,hT,dT,h3⟩
 ·refine wpAny_bind (wpAny_field he hd h1 ?_)
  rw [if_neg (by decide)];exact nv_ hfr hl hf he hd (Array.getElem?_eq_some_iff.mp h1).1 go
 refine wpAny_bind (wpAny_field he hd h1 ?_);rw [if_pos (show (Value.ref T != Value.none)=true by simp)];refine wpAny_bind (wpAny_field hT dT h3 ?_);rw [if_neg (show ¬ ((Value.none == rawInt L)=true) by simp [rawInt])];refine wpAny_bind (wpAny_setField hT dT (Array.getElem?_eq_some_iff.mp h3).1 ?_);have oth : ∀ b,b≠T->(s.heap.update T (Obj.mapFields (·.setIfInBounds 3 Value.none))).get? b=s.heap.get? b:=fun b hb=>get?_update_other _ _ (Ne.symm hb);have atT:=get?_update_self (Obj.mapFields (·.setIfInBounds 3 Value.none)) hT (Obj.isFreed_of_fields (Obj.data_mapFields dT _));refine nv_ (s:={ s with heap:=s.heap.update T (Obj.mapFields (·.setIfInBounds 3 Value.none)) }) hfr (hl.of_keeps fun b o hb nf=>⟨o,(oth b fun q=>?_).trans hb,rfl⟩) hf ((oth e (Ne.symm nTe)).trans he) hd (Array.getElem?_eq_some_iff.mp h1).1
  fun h' n=>go h' ⟨fun b o hb ho hn q=>n.keep b o hb (by simp) hn ((oth b fun z=>ho (by rw [z])).trans q),fun b o hb ho q=>n.slot b o hb (by simp) ((oth b fun z=>ho (by rw [z])).trans q),fun b o q=>?_,fun oe' vs' q1 q2=>?_⟩
 ·subst q
  rw [hT] at hb;cases hb;exact nf ts dT
 ·by_cases hb:b=T
  ·subst hb
   exact n.there b _ atT
  exact n.there b o ((oth b hb).trans q)
 refine x_40 (n.exc oe' vs' ((oth e (Ne.symm nTe)).trans q1) q2) fun vs2 T2 oT2 ts2 zy=>x_03 zy fun z1 z2 z3 z=>?_;exact ⟨vs2,T2,oT2,ts2,z1,z2,Nat.le_trans (Nat.le_of_eq (Heap.size_after_update ..).symm) z3,z⟩
theorem h4_ {h:Heap}{l:List Env}{e:Addr}{old:Option Addr}{fl:Value}{oe:Obj}{vs:Array Value}{Q:Unit->Shared->Prop} (he:h.get? e=some oe) (hd:oe.data = .fields vs) (n:Noted l e old fl h s.heap)
  (go : ∀ h',Noted l e old .none h h'->Q () { s with heap:=h' }):wpAny M A (setFlight (.ref e) none) Q E s:=by
 obtain ⟨vs',T,oT,ts,z1,z2,z3,z4,z5,z6,z7⟩:=n.exc oe vs he hd;have hz:3<ts.size:=(Array.getElem?_eq_some_iff.mp z7).1;unfold setFlight;refine wpAny_bind (wpAny_field z1 rfl z2 ?_);rw [if_pos (show (Value.ref T != Value.none)=true by simp)];refine wpAny_setField z5 z6 hz (go _ ?_);have oth : ∀ b,b≠T->(s.heap.update T (Obj.mapFields (·.setIfInBounds 3 ((none:Option Addr).elim Value.none fun f=>rawInt f)))).get? b=s.heap.get? b:=fun b hb=>get?_update_other _ _ (Ne.symm hb);have ne : ∀ b o,h.get? b=some o->b≠T:=fun b o q=>Nat.ne_of_lt (Nat.lt_of_lt_of_le (lt_size q) z3);refine ⟨fun b o hb ho hn q=>(oth b (ne b o q)).trans (n.keep b o hb ho hn q),fun b o hb ho q=>?_,fun b o q=>?_,fun oe' vs2 q1 q2=>?_⟩
 ·obtain ⟨sl,z⟩:=n.slot b o hb ho q
  exact ⟨sl,(oth b (ne b o q)).trans z⟩
 ·obtain ⟨o',z⟩:=n.there b o q
  exact ⟨o',(oth b (ne b o q)).trans z⟩
 rw [he] at q1;cases q1;rw [hd] at q2;cases q2;exact ⟨vs',T,_,_,(oth e (Ne.symm z4)).trans z1,z2,z3,z4,get?_update_self _ z5 (Obj.isFreed_of_fields (Obj.data_mapFields z6 _)),Obj.data_mapFields z6 _,by simp [hz]⟩
end
structure Flown (h₀ h:Heap) (H:Hp) (a C d:Addr):Prop where
 new:h₀.objs.size<=a
 free:H a=none
 at_ : ∃ vs sl T oT ts,h.get? a=some ⟨.ref C,some d,.fields vs,sl⟩/\vs[1]? = some (.ref T)/\T≠a/\h₀.objs.size<=T/\H T=none/\h.get? T=some oT/\oT.data = .fields ts/\ts[3]? = some .none
def CX1 (P:Program) (w:World):CXT:=fun outer H s E e s'=>∃ a C d fs H',e = .ref a/\s'.os=s.os/\AllBare s'.gens/\Un (frs outer) [] H H' s.heap s'.heap/\HOk P w H' s'.heap/\Flown s.heap s'.heap H' a C d /\
 H' d=some (XDic d fs)/\E (.ref C) (some d) H'
theorem HOk.noted {P:Program}{w:World}{H:Hp}{h h':Heap}{l:List Env}{a:Addr}{old:Option Addr}{fl:Value} (x:HOk P w H h) (n:Noted l a old fl h h') (ha:H a=none) (ho : ∀ T,old=some T->H T=none) (hl : ∀ b∈frs l,H b=none):HOk P w H h':=fun b o e=>by
 have k : ∀ c u,H c≠none->h.get? c=some u->h'.get? c=some u:=fun c u q z=>n.keep c u (fun r=>q (by rw [r];exact ha)) (fun r=>q (ho c r.symm)) (fun r=>q (hl c r)) z;refine (x b o e).stay (fun c u hc q=>k c u ?_ q) (fun _ q=>q) fun _ _ q=>q;rcases hc with r | r
 ·rw [r,e]
  simp
 rw [r];simp
theorem Un.noted {fs':List Addr}{H₀ H:Hp}{h₀ h h':Heap}{l:List Env}{a:Addr}{old:Option Addr}{fl:Value} (u:Un fs' [] H₀ H h₀ h) (n:Noted l a old fl h h') (ha:h₀.get? a=none) (ho : ∀ T,old=some T->h₀.get? T=none)
  (hl : ∀ b∈frs l,b∈fs'\/h₀.get? b=none):Un fs' [] H₀ H h₀ h':=by
 have na : ∀ b o,h₀.get? b=some o->b≠a:=fun b o q r=>by
  rw [r,ha] at q;cases q
 have no : ∀ b o,h₀.get? b=some o->some b≠old:=fun b o q r=>by
  rw [ho b r.symm] at q;cases q
 refine ⟨fun b o q z hb hx=>n.keep b o (na b o q) (no b o q) (fun r=>?_) (u.keep b o q z hb hx),fun b o q z hb hx=>?_,u.free,fun b o q hx=>?_,u.tups,u.frzs,u.tbls⟩
 ·rcases hl b r with r | r
  ·exact hb r
  rw [q] at r;cases r
 ·obtain ⟨sl,e⟩:=u.slot b o q z hb hx
  obtain ⟨sl',e'⟩:=n.slot b _ (na b o q) (no b o q) e;exact ⟨sl',e'⟩
 obtain ⟨o',e⟩:=u.there b o q hx;exact n.there b o' e
theorem Flown.noted {h₀ h h':Heap}{H:Hp}{P:Program}{w:World}{l:List Env}{a C d:Addr}{old:Option Addr}{vs:Array Value}{sl:Array (Option Value)} (hok:HOk P w H h) (sz:h₀.objs.size<=h.objs.size) (n:Noted l a old .none h h')
  (e:h.get? a=some ⟨.ref C,some d,.fields vs,sl⟩) (ha:h₀.objs.size<=a) (hf:H a=none):Flown h₀ h' H a C d:=by
 obtain ⟨vs',T,oT,ts,z1,z2,z3,z4,z5,z6,z7⟩:=n.exc _ vs e rfl;exact ⟨ha,hf,vs',sl,T,oT,ts,z1,z2,z4,Nat.le_trans sz z3,hok.fresh z3,z5,z6,z7⟩
end
section
open PySem.W (InstAt Looks)
theorem HOk.del {P:Program}{w:World}{H:Hp}{h:Heap}{a:Addr}{φ:Heap->Prop} (x:HOk P w H h) (e:H a=some (.ext φ)):HOk P w (del H a) h:=fun b o q=>by
 have hb:b≠a:=fun r=>by
  rw [r,eg_] at q;cases q
 rw [cw_ hb] at q;refine (x b o q).stay (fun _ _ _ z=>z) (fun c z=>?_) fun c xs z=>?_
 ·rw [cw_ (fun r=>by rw [r,e] at z;cases z)]
  exact z
 rw [cw_ (fun r=>by rw [r,e] at z;cases z)];exact z
theorem Un.del {fs ex:List Addr}{H₀ H:Hp}{h₀ h:Heap}{a:Addr}{φ:Heap->Prop} (u:Un fs ex H₀ H h₀ h) (e:H a=some (.ext φ)):Un fs ex H₀ (del H a) h₀ h:=by
 refine ⟨u.keep,u.slot,fun b o q z hx=>?_,u.there,fun b xs q=>?_,fun b o xs q=>?_,fun b ps q=>?_⟩
 ·by_cases hb:b=a
  ·rw [hb,eg_]
  rw [cw_ hb];exact u.free b o q z hx
 ·have z:=u.tups b xs q
  rw [cw_ (fun r=>by rw [r,e] at z;cases z)];exact z
 ·have z:=u.frzs b o xs q
  rw [cw_ (fun r=>by rw [r,e] at z;cases z)];exact z
 obtain ⟨m,z⟩:=u.tbls b ps q;rw [cw_ (fun r=>by rw [r,e] at z;cases z)];exact ⟨m,z⟩
theorem gh_ {H:Hp}{a b:Addr} (h:H b=none):del H a b=none:=by
 by_cases hb:b=a
 ·rw [hb,eg_]
 rw [cw_ hb];exact h
theorem Inv.del {X:Cx}{zz:zP}{σ:St}{H:Hp}{s:Shared}{a:Addr}{φ:Heap->Prop} (I:Inv X zz σ H s) (e:H a=some (.ext φ)):Inv X zz σ (L2.del H a) s :=
 ⟨I.ok,I.os,I.bare,I.base.del e,I.loc,I.cell,gh_ I.free,fun x c q=>gh_ (I.freeC x c q),fun p hp=>let ⟨h1,h2,h3⟩:=I.pin p hp;⟨h1,gh_ h2,h3⟩,I.hok.del e,I.len⟩
section
variable {P:Program}{w:World}{K:Frag}{mg:zM}{base:Heap}{N:List Str}{qual:Str}{scope:Scope}{f:Addr}{cd:Value}{A:Around}{outer:List Env}{s₀:Shared}{H₀:Hp}{E:XK}
theorem gr_ {zz:zP}{σ:St}{H:Hp}{s:Shared}{a C d:Addr}{vs:Array Value}{sl:Array (Option Value)}{old:Option Addr}{fs:List (Str×V)} (I:Inv (cxOf (CX1 P w) P w K mg base N qual scope f cd A outer s₀ H₀ E) zz σ H s)
  (ha:s₀.heap.objs.size<=a) (hat:s.heap.get? a=some ⟨.ref C,some d,.fields vs,sl⟩) (la:qf_ s.heap a vs old) (ho : ∀ T,old=some T->s₀.heap.objs.size<=T/\H T=none) (hf:H a=none) (hd:H d=some (XDic d fs)) (q:E (.ref C) (some d) H) :
  (cxOf (CX1 P w) P w K mg base N qual scope f cd A outer s₀ H₀ E).xe (.ref a) s:=by
 have b1:Un (frs outer) [] H₀ H s₀.heap s.heap:=I.base;show wpAny _ _ (leaving _ (.ref a)) _ _ s;unfold leaving;refine wpAny_bind (pA_ (s:=s) I.ok.frames I.stack rfl hat rfl la fun h1 n1=>?_);refine h4_ (s:={ s with heap:=h1 }) (h:=s.heap) hat rfl n1 fun h2 n2=>?_;refine ⟨a,C,d,fs,H,rfl,I.os,I.bare,?_,?_,?_,hd,q⟩
 ·refine b1.noted n2 (get?_none_of_le ha) (fun T z=>get?_none_of_le (ho T z).1) fun b hb=>?_
  rcases mem_cons.mp (I.stkSub b hb) with e | hb
  ·refine .inr ?_
   rw [e];exact get?_none_of_le (Nat.le_refl _)
  exact .inl hb
 ·exact I.hok.noted n2 hf (fun T z=>(ho T z).2) fun b hb=>I.stkFree b hb
 exact Flown.noted I.hok I.sz n2 hat ha hf
theorem a8_:nA_ (cxOf (CX1 P w) P w K mg base N qual scope f cd A outer s₀ H₀ E) E:=fun zz σ H s C a dx fs I hs h1 h2 q=>by
 obtain ⟨⟨t,hat⟩,_,_⟩:=(show bd_ P w H s.heap a (XNew C a (some dx)) from I.hok a _ h1);have nd:dx≠a:=fun z=>by
  obtain ⟨_,mA,⟨o,es,ep,ho,hd,_⟩,_⟩:=(show bd_ P w H s.heap dx (XDic dx fs) from I.hok dx _ h2).1;rw [z,hat] at ho;cases ho;cases hd
 exact gr_ (old:=none) (I.del h1) hs hat (.inl ⟨rfl,rfl⟩) (fun T z=>nomatch z) eg_ (by rw [cw_ nd];exact h2) q
theorem aN_:bF_ (CX1 P w) (cxOf (CX1 P w) P w K mg base N qual scope f cd A outer s₀ H₀ E) E:=fun zz σ H s e s' I z=>by
 refine x_50 z fun a C d fs H' zy=>x_07 zy fun zr5 os bare un hok zn10 hd q=>?_;subst zr5;obtain ⟨new,free,vs,sl,T,oT,ts,hat,h1,nT,nT0,fT,hT,dT,h3⟩:=zn10;have I':=I.call' (ch:=[]) os un hok bare (fun b z=>absurd z (by simp));exact gr_ (old:=some T) I' (Nat.le_trans I.sz new) hat (.inr ⟨T,oT,ts,rfl,h1,nT,hT,dT,h3⟩) (fun T' z=>by cases z;exact ⟨Nat.le_trans I.sz nT0,fT⟩) free hd q
theorem fl_:PassesOwn (model P w) (cxOf (CX1 P w) P w K mg base N qual scope f cd A outer s₀ H₀ E).A (cxOf (CX1 P w) P w K mg base N qual scope f cd A outer s₀ H₀ E).env (cxOf (CX1 P w) P w K mg base N qual scope f cd A outer s₀ H₀ E).xe:=PassesOwn.leaving
theorem Fun.okX {x:Str}{st:Stmt}{fd:FuncData}{ps:List Str}{k:Nat}{sp:Sp} (F:Fun K x qual st f fd) (S:FnScope N ps (ae_ st))
  (hbody : ∀ (cdv:Value) (A:Around) (outer:List Env) (s:Shared) (H:Hp) (vs:List V) (Q:VK) (E:XK),Room k (A.deeper (envOfC qual (ae_ st) s.heap.objs.size f cdv))->sp vs H Q E ->
   ∃ t,PSs (cxOf (CX1 P w) P w K mg base N qual (ae_ st) f cdv A outer s H E) (bw_ st) t/\t { nx:=fun _ H'=>Q .non H',rt:=Q } (start N vs) H) (len : ∀ vs H Q E,sp vs H Q E->vs.length=ps.length:=by intro _ _ _ _ h;repeat first | (cases h;rfl) | (obtain ⟨rfl,_⟩:=h;rfl) | (obtain ⟨_,h⟩:=h)):FnOk P w K mg base (CX1 P w) (k+1) f fd ps sp:=by
 refine x_90 F.ex fun oc od kV doc pm an cdv ct osl zy=>x_02 zy fun zr9 lk hcd=>?_;subst zr9;exact oM_ lk hcd S len fun A outer s H vs Q E hr hsp=>hbody cdv A outer s H vs Q E hr hsp
end
end
section
open PySem.W (InstAt Looks)
abbrev Cx.pinned (X:Cx) (pn:zP) (E:zQ):Cx:={ X with pn:=pn,xe:=E }
abbrev Cx.hand (X:Cx) (a:Addr):Cx:={ X with A:=X.A.mark (some (.ref a)),calm:=false,xe:=fun _ _=>False }
section
variable {X:Cx}{zz:zP}{σ:St}{H:Hp}{s:Shared}{E:zQ}{a:Addr}
theorem Inv.pin_in (I:Inv X zz σ H s):Inv (X.pinned (X.pn++zz) E) [] σ H s :=
 ⟨⟨I.ok.mod,I.ok.kind,I.ok.glob,I.ok.blt,I.ok.above,I.ok.inj,I.ok.has,I.ok.cab,I.ok.hd,I.ok.frames,I.ok.stk,I.ok.exf,I.ok.bs,I.ok.bsz,I.ok.noex,I.ok.exfs,I.ok.funs,I.ok.frf⟩,I.os,I.bare,I.base,I.loc,I.cell,I.free,I.freeC,fun p hp=>I.pin p (by simpa using hp),I.hok,I.len⟩
theorem Inv.pin_out {pins':zP} (I:Inv (X.pinned (X.pn++zz) E) pins' σ H s):Inv X zz σ H s :=
 ⟨⟨I.ok.mod,I.ok.kind,I.ok.glob,I.ok.blt,I.ok.above,I.ok.inj,I.ok.has,I.ok.cab,I.ok.hd,I.ok.frames,I.ok.stk,I.ok.exf,I.ok.bs,I.ok.bsz,I.ok.noex,I.ok.exfs,I.ok.funs,I.ok.frf⟩,I.os,I.bare,I.base,I.loc,I.cell,I.free,I.freeC,fun p hp=>I.pin p (mem_append_left _ hp),I.hok,I.len⟩
theorem Inv.hand_in (I:Inv X zz σ H s) (a:Addr):Inv (X.hand a) zz σ H s :=
 ⟨⟨I.ok.mod,I.ok.kind,I.ok.glob,I.ok.blt,I.ok.above,I.ok.inj,I.ok.has,I.ok.cab,fun z=>Bool.noConfusion z,I.ok.frames,I.ok.stk,I.ok.exf,I.ok.bs,I.ok.bsz,I.ok.noex,I.ok.exfs,I.ok.funs,I.ok.frf⟩,I.os,I.bare,I.base,I.loc,I.cell,I.free,I.freeC,I.pin,I.hok,I.len⟩
theorem Inv.hand_out (ok:X.Ok) (I:Inv (X.hand a) zz σ H s):Inv X zz σ H s:=⟨ok,I.os,I.bare,I.base,I.loc,I.cell,I.free,I.freeC,I.pin,I.hok,I.len⟩
theorem SP.pin_out {D:Ends}{f:Flow} (h:SP (X.pinned (X.pn++zz) E) [] D f s):SP X zz D f s:=by
 cases f with
 | next=>obtain ⟨σ',H',I,q⟩:=h;exact ⟨σ',H',I.pin_out,q⟩
 | brk=>obtain ⟨σ',H',I,q⟩:=h;exact ⟨σ',H',I.pin_out,q⟩
 | cont=>obtain ⟨σ',H',I,q⟩:=h;exact ⟨σ',H',I.pin_out,q⟩
 | ret u=>obtain ⟨v,σ',H',I,r,q⟩:=h;exact ⟨v,σ',H',I.pin_out,r,q⟩
theorem Inv.noted {old:Option Addr}{fl:Value}{h':Heap}{t':Nat} (I:Inv X zz σ H s) (n:Noted X.stack a old fl s.heap h') (ha:H a=none) (ho : ∀ T,old=some T->H T=none)
  (hx : ∀ b,b=a\/some b=old->X.s_0.heap.objs.size<=b/\b≠X.env.locals/\(∀ x c,X.env.cells.lookup x=some c->c≠b)/\∀ p∈X.pn++zz,p.1≠b):Inv X zz σ H { s with heap:=h',toks:=t' }:=by
 have mem : ∀ b,b∈a::old.toList->b=a\/some b=old:=fun b hb=>by
  rcases mem_cons.mp hb with e | e
  ·exact .inl e
  cases old with
  | none=>simp at e
  | some T=>exact .inr (by simpa using e)
 have nch : ∀ b,b∉a::old.toList->b≠a/\some b≠old:=fun b hb=>⟨fun z=>hb (by simp [z]),fun z=>hb (by rw [<- z];simp)⟩;refine I.step (g':=s.gens) (d':=s.drawn) (ch:=a::old.toList) (fun b hb=>let ⟨h1,h2,h3,h4⟩:=hx b (mem b hb);⟨.inr h1,h2,h3,h4⟩) (fun b o hL hb hc q _=>n.keep b o (nch b hc).1 (nch b hc).2 (fun z=>?_) q)
  (fun b o _ _ hc q _=>n.slot b o (nch b hc).1 (nch b hc).2 q) (fun b o _ _ z=>z) (fun b o _ q=>n.there b o q) (fun _ _ z=>z) (fun _ _ _ z=>z) (fun b ps z=>⟨#[],by rw [z];simp⟩) (fun m hm=>?_)
  (I.hok.noted n ha ho fun b hb=>I.stkFree b hb) I.bare
 ·rcases mem_cons.mp (I.stkSub b z) with e | e
  ·exact hL e
  exact hb e
 obtain ⟨o,es,ep,ho',r⟩:=hm;have nl:X.env.locals≠a/\some X.env.locals≠old:=⟨fun z=>(hx _ (.inl z)).2.1 rfl,fun z=>(hx _ (.inr z)).2.1 rfl⟩;obtain ⟨sl,e⟩:=n.slot _ o nl.1 nl.2 ho';exact ⟨_,es,ep,e,r⟩
theorem Inv.unbound {h':Heap}{m':zM}{t':Nat} (I:Inv X zz σ H s) (hn:h'.Ns X.env.locals m') (sb:Heap.SameBut X.env.locals s.heap h'):Inv X zz (List.replicate X.N.length none) H { s with heap:=h',toks:=t' }:=by
 have old : ∀ b o,X.s_0.heap.get? b=some o->h'.get? b=s.heap.get? b:=fun b o q=>sb.2 b (Nat.ne_of_lt (Nat.lt_of_lt_of_le (lt_size q) I.ok.above));refine ⟨I.ok,I.os,I.bare,⟨fun b o q z hb hx=>(old b o q).trans (I.base.keep b o q z hb hx),fun b o q z hb hx=>?_,I.base.free,fun b o q hx=>?_,I.base.tups,I.base.frzs,I.base.tbls⟩,⟨m',hn,fun i x v _ e2 _=>?_⟩,fun x c e=>?_,I.free,I.freeC,fun p hp=>?_,fun b ob e=>?_,by simp⟩
 ·obtain ⟨sl,e⟩:=I.base.slot b o q z hb hx
  exact ⟨sl,(old b o q).trans e⟩
 ·obtain ⟨o',e⟩:=I.base.there b o q hx
  exact ⟨o',(old b o q).trans e⟩
 ·rw [List.getElem?_replicate] at e2
  split at e2 <;> cases e2
 ·obtain ⟨v,z⟩:=I.cell x c e
  exact ⟨v,z.sameBut sb (I.cne x c e)⟩
 ·refine x_03 (I.pin p hp) fun h1 h2 h3 h4=>?_
  exact ⟨(sb.2 p.1 h3).trans h1,h2,h3,h4⟩
 refine (I.hok b ob e).stay (fun c u hc q=>(sb.2 c fun z=>?_).trans q) (fun _ q=>q) fun _ _ q=>q;rcases hc with r | r
 ·rw [<- r,z,I.free] at e
  cases e
 rw [z,I.free] at r;cases r
theorem Inv.track {o:HO} (I:Inv X zz σ H s) (hn:H a=none) (hx:X.s_0.heap.objs.size<=a/\a≠X.env.locals/\(∀ x c,X.env.cells.lookup x=some c->c≠a)/\∀ p∈X.pn++zz,p.1≠a) (ok:bd_ X.prog X.w (upd H a o) s.heap a o):Inv X zz σ (upd H a o) s:=by
 have na : ∀ b u,H b=some u->b≠a:=fun b u q=>ai_ q hn;refine ⟨I.ok,I.os,I.bare,⟨I.base.keep,I.base.slot,fun b u q z hb=>?_,I.base.there,fun b xs q=>?_,fun b u xs q=>?_,fun b ps q=>?_⟩,I.loc,I.cell,?_,fun x c e=>?_,fun p hp=>?_,fun b u q=>?_,I.len⟩
 ·rw [ag_ (Nat.ne_of_lt (Nat.lt_of_lt_of_le (lt_size q) hx.1))]
  exact I.base.free b u q z hb
 ·have z:=I.base.tups b xs q
  rw [ag_ (na _ _ z)];exact z
 ·have z:=I.base.frzs b u xs q
  rw [ag_ (na _ _ z)];exact z
 ·obtain ⟨m,z⟩:=I.base.tbls b ps q
  exact ⟨m,by rw [ag_ (na _ _ z)];exact z⟩
 ·rw [ag_ (Ne.symm hx.2.1)]
  exact I.free
 ·rw [ag_ (hx.2.2.1 x c e)]
  exact I.freeC x c e
 ·obtain ⟨h1,h2,h3⟩:=I.pin p hp
  exact ⟨h1,by rw [ag_ (hx.2.2.2 p hp)];exact h2,h3⟩
 by_cases hb:b=a
 ·subst hb
  rw [af_] at q;cases q;exact ok
 rw [ag_ hb] at q;exact (I.hok b u q).stay (fun _ _ _ z=>z) (fun c z=>by rw [ag_ (na _ _ z)];exact z) fun c xs z=>by rw [ag_ (na _ _ z)];exact z
end
def pW_ (X:Cx) (C:Addr) (i:Nat) (ts:TS) (D:Ends):XK:=fun cls d H=>cls = .ref C/\∀ a dx,d=some dx->H a=none->ts { nx:=fun _ _=>False,rt:=D.rt } ((List.replicate X.N.length none).set i (some (.ref a))) (upd H a (XGot C a dx))
section
variable {X:Cx}{C f:Addr}{i:Nat}{cx nm:Str}{np hpos pos:Pos}{body suite:List Stmt}{b₀:Stmt}{ts:TS}{tb:Ends->TS}
theorem pq_ (c:XCls X.K C f) (hg:Gl X cx) (hm:X.mg cx=some (.ref C)) (hN:X.N.Nodup) (hi:X.N[i]? = some nm) (hk:X.env.scope.names.lookup nm=some .local) (hstk:X.stack=X.env::X.outer) (hfr:X.env.frame=some X.env.locals)
  (hb : ∀ (pn:zP) (E:zQ) (D:Ends),bF_ (CX1 X.prog X.w) (X.pinned pn E) (pW_ X C i ts D)->PSs (X.pinned pn E) body (tb D)) (hs : ∀ a,PSs (X.hand a) (b₀::suite) ts)
  (hdb:(cx == ("__debug__":Str))=false:=by decide) :
  PS X (.Try body [.ExceptHandler (some (.Name cx np)) (some nm) (b₀::suite) hpos] [] [] pos) (fun D σ H=>tb D D σ H):=by
 intro zz s σ H D I h;refine wpAny_Try_except ?_;refine wpAny_mono (hb (X.pn++zz) (fun e s'=>∃ pins' σ' H₁ s₁,Inv (X.pinned (X.pn++zz) fun _ _=>False) pins' σ' H₁ s₁/\CX1 X.prog X.w X.stack H₁ s₁ (pW_ X C i ts D) e s') D (fun pins' σ' H₁ s₁ e s' J z=>⟨pins',σ',H₁,s₁,?_,z⟩) [] s σ H D I.pin_in h) (fun fl s₁ q=>?_) fun e s' q=>?_
 ·exact ⟨⟨J.ok.mod,J.ok.kind,J.ok.glob,J.ok.blt,J.ok.above,J.ok.inj,J.ok.has,J.ok.cab,J.ok.hd,J.ok.frames,J.ok.stk,J.ok.exf,J.ok.bs,J.ok.bsz,J.ok.noex,J.ok.exfs,J.ok.funs,J.ok.frf⟩,J.os,J.bare,J.base,J.loc,J.cell,J.free,J.freeC,J.pin,J.hok,J.len⟩
 ·have q':=SP.pin_out q
  cases fl with
  | next=>exact wpAny_execs_nil q'
  | brk=>exact q'
  | cont=>exact q'
  | ret u=>exact q'
 obtain ⟨pins',σ',H₁,s₁,J,a,C',d,fs,H',rfl,os,bare,un,hok,⟨new,free,vs,sl,T,oT,tv,hat,h1,nT,nT0,fT,hT,dT,h3⟩,hd,hC,q⟩:=q;cases hC;have J1:=J.pin_out;have J2:=J1.call' (ch:=[]) os un hok bare (fun b z=>absurd z (by simp));have hx : ∀ b,b=a\/some b=some T->X.s_0.heap.objs.size<=b/\b≠X.env.locals/\(∀ x c,X.env.cells.lookup x=some c->c≠b)/\∀ p∈X.pn++zz,p.1≠b:=fun b hb=>by
  have big:s₁.heap.objs.size<=b:=by
   rcases hb with e | e
   ·rw [e];exact new
   cases e;exact nT0
  refine ⟨Nat.le_trans J1.sz big,ne_of_gt (Nat.lt_of_lt_of_le J1.lt big),fun x c e=>?_,fun p hp=>Nat.ne_of_lt (Nat.lt_of_lt_of_le (lt_size (J1.pin p hp).1) big)⟩;obtain ⟨v,z⟩:=J1.cell x c e;exact Nat.ne_of_lt (Nat.lt_of_lt_of_le z.lt big)
 have stk:=J2.stack;have frm:=J2.ok.frames;rw [hstk] at stk frm;refine pA_ (s:=s') frm stk hfr hat rfl (.inr ⟨T,oT,tv,rfl,h1,nT,hT,dT,h3⟩) fun h2 n2=>?_;refine h4_ (s:={ s' with heap:=h2 }) (h:=s'.heap) hat rfl n2 fun h3 n3=>?_;refine wpAny_handleBy_cons (codeAny_handlers_test ?_) (by intro z;cases z);have n3':Noted X.stack a (some T) Value.none s'.heap h3:=by rw [hstk];exact n3
 have J3:=J2.noted (t':=s'.toks) n3' free (fun T' z=>by cases z;exact fT) hx;refine c0_ (J3.hand_in a) hg hm ?_ hdb;obtain ⟨nm',q',N',bs,sn,sub,ab,col,dd,k0,k1,k2,k3,k5,lk⟩:=c.obj;obtain ⟨vs2,T2,oT2,tv2,z1,z2,z3,z4,z5,z6,z7⟩:=n3.exc _ vs hat rfl;refine wpAny_excMatches_sub_self (J3.kIn _ _ lk) z1 rfl PySem.F.excBase_Exception.hasBase ?_;refine codeAny_handlers_suite_as ?_;refine h4_ (s:={ s' with heap:=h3 }) (h:=s'.heap) hat rfl n3 fun h4 n4=>?_;have n4':Noted X.stack a (some T) Value.none s'.heap h4:=by rw [hstk];exact n4
 have J4:=J2.noted (t':=s'.toks) n4' free (fun T' z=>by cases z;exact fT) hx;obtain ⟨vs4,T4,oT4,tv4,y1,_⟩:=n4.exc _ vs hat rfl;have J5:Inv X zz ((List.replicate X.N.length none)) (upd H' a (XGot C a d)) { s' with heap:=h4 }:=by
  refine Inv.weak (σ:=σ') ?_ (by rw [List.length_replicate];exact J4.len.symm) fun j v e=>?_
  ·exact J4.track free (hx a (.inl rfl)) (qi_ y1)
  rw [List.getElem?_replicate] at e;split at e <;> cases e
 refine d6_ (X:=X) J5 hN hi (.inl hk) (v := .ref a) rfl (fun s5 J6=>?_) (.inr hk);refine wpAny_mono (hs a zz s5 _ _ { nx:=fun _ _=>False,rt:=D.rt } (J6.hand_in a) (q a d rfl free)) (fun fl s6 r=>?_) fun _ _ z=>False.elim z;cases fl with
 | next=>obtain ⟨_,_,_,z⟩:=r;exact z.elim
 | brk=>obtain ⟨_,_,_,z⟩:=r;exact z.elim
 | cont=>obtain ⟨_,_,_,z⟩:=r;exact z.elim
 | ret u =>
 obtain ⟨v,σ7,H7,J7,rv,r⟩:=r;have J8:=J7.hand_out I.ok;obtain ⟨m,hm8,_⟩:=id J8.loc;refine wpAny_nameGoes hk hm8 (by rw [I.ok.kind];rfl) fun h9 m9 hn9 sb=>?_;exact ⟨v,_,H7,J8.unbound hn9 sb,rv,r⟩
end
end
theorem lenS {A:Type}{n:Nat}{l:List A} (h:l.length=n+1) : ∃ a r,l=a::r/\r.length=n:=by
 cases l with
 | nil=>cases h
 | cons a r=>exact ⟨a,r,rfl,Nat.succ.inj h⟩
theorem len0 {A:Type}{l:List A} (h:l.length=0):l=[]:=List.length_eq_zero_iff.mp h
theorem len1 {A:Type}{l:List A} (h:l.length=1) : ∃ a,l=[a]:=by
 obtain ⟨a,r,rfl,q⟩:=lenS h;exact ⟨a,by rw [len0 q]⟩
theorem len2 {A:Type}{l:List A} (h:l.length=2) : ∃ a b,l=[a,b]:=by
 obtain ⟨a,r,rfl,q⟩:=lenS h;obtain ⟨b,rfl⟩:=len1 q;exact ⟨a,b,rfl⟩
theorem len3 {A:Type}{l:List A} (h:l.length=3) : ∃ a b c,l=[a,b,c]:=by
 refine x_21 (lenS h) fun a r zr2 q=>?_;subst zr2;obtain ⟨b,c,rfl⟩:=len2 q;exact ⟨a,b,c,rfl⟩
theorem len4 {A:Type}{l:List A} (h:l.length=4) : ∃ a b c d,l=[a,b,c,d]:=by
 refine x_21 (lenS h) fun a r zr2 q=>?_;subst zr2;refine x_30 (len3 q) fun b c d zr3=>?_;subst zr3;exact ⟨a,b,c,d,rfl⟩
theorem len5 {A:Type}{l:List A} (h:l.length=5) : ∃ a b c d e,l=[a,b,c,d,e]:=by
 refine x_21 (lenS h) fun a r zr2 q=>?_;subst zr2;refine x_40 (len4 q) fun b c d e zr4=>?_;subst zr4;exact ⟨a,b,c,d,e,rfl⟩
theorem a6_ {i:Nat}{σ:L2.St}{H:Hp}{Q:VK}{v:V} (e:σ[i]? = some (some v)) (h:Q v H):tVar i σ H Q:=by
 unfold tVar;rw [e];exact h
section
variable {X:Cx}{CX:CXT}{k:Nat}{E:XK}{x:Str}{p pos:Pos}{e:Expr}{es:List Expr}{t:TA}
def e9_ (X:Cx) (CX:CXT) (k i:Nat) (E:XK) (t:TA):TE:=fun σ H Q=>∃ f fd ps sp,σ[i]? = some (some (.ref f))/\FnOk X.prog X.w X.K X.mg X.base CX k f fd ps sp/\aY_ X.K fd ps []/\keepIn X.K (.ref f)=true /\
 t σ H fun vs H1=>sp vs H1 Q E
theorem cC_ (i:Nat) (hr:Room k X.A) (hx:bF_ CX X E) (ha:PA X (e::es) t) (hN:X.N[i]? = some x:=by rfl)
  (hv:Vis X.env.scope x:=by first | exact Or.inl rfl | exact Or.inr (Or.inl rfl) | exact Or.inr (Or.inr rfl)) (hd:(x == ("__debug__":Str))=false:=by decide) (hcd:(x == ("__classdict__":Str))=false:=by decide)
  (he:starEach (e::es) X.env=(false,eval e X.env)::starEach es X.env:=by rfl) (hpl:(backTo pos (starEach es X.env)).any (·.1)=false:=by rfl) :
  PE X (.Call (.Name x p) (e::es) [] pos) (e9_ X CX k i E t):=by
 intro zz s σ H Q I h;refine x_40 h fun f fd ps sp zy=>x_04 zy fun h1 F hb hk h2=>?_;refine wpAny_Call_Name_kw (thn (pv (X:=X) i hN hv hd hcd zz s σ H (fun v H'=>v = .ref f/\H'=H) I (a6_ h1 ⟨rfl,rfl⟩)) fun u s1 zq=>?_);refine x_23 zq fun v H1 I1 r1 ev eH=>?_;subst ev eH;cases r1;refine callWith_K (h₀:=X.base) I1.ok.mod.kin hk (thn (ha pos zz s1 σ _ _ I1 h2) fun us s2 ⟨vs,H2,I2,r,q⟩=>⟨I2.kIn,?_⟩) he hpl;exact gN_ (dvs:=[]) F hr hb .nil hx I2 r (by rw [append_nil];exact q)
end
section
variable {X:Cx}
theorem pe_g {x:Str}{v:V}{pos:Pos} (h : ∃ u,X.mg x=some u/\RelV v u) (hg:Gl X x:=by rfl) (hd:(x == ("__debug__":Str))=false:=by decide):PE X (.Name x pos) (tC v):=by
 obtain ⟨u,h1,h2⟩:=h;exact kD_ hg h1 h2 hd
def qh_ (i j:Int):Prop:=0<j/\j.natAbs.log2<9000
theorem iM_:OpR X (binaryOp .FloorDiv) (rI qh_ fun i j => .int (i / j)):=opI fun i j _ _ _ _ _ hc q=>by
 have hj:j≠0:=by have:=hc.1;omega
 refine floordiv_int hj ?_ (.inl (PyProof.noPylong_of_log2 hc.2));rw [Int.fdiv_eq_ediv_of_nonneg _ (Int.le_of_lt hc.1)];exact q
theorem jx_ {n:Nat} (h:n<2 ^ 200):n.log2<9000:=by
 by_cases h0:n=0
 ·subst h0;decide
 exact Nat.lt_trans ((Nat.log2_lt h0).mpr h) (by decide)
theorem jq_:OpR X (binaryOp .Mult) (fun x y H Q=>∃ a n,x = .str a/\y = .int n/\MulOk a n/\Q (.str (Txt.mul a n)) H):=by
 intro zz s σ H x y v u Q I rx ry h;obtain ⟨a,n,rfl,rfl,hm,h⟩:=h;obtain ⟨t1,rfl⟩:=rx;obtain ⟨t2,rfl⟩:=ry;exact SB.mul hm fun t' k=>⟨.str (Txt.mul a n),H,I.tok _,⟨_,rfl⟩,h⟩
end
def PET (X:Cx) (e:Expr) (t:TE):Prop :=
 ∀ (zz:zP) (s:Shared) (σ:St) (H:Hp) (Q:VK),Inv X zz σ H s->1<=s.toks->t σ H Q->wpAny (model X.prog X.w) X.A (eval e X.env) (EP X zz σ Q) X.xe s
def PEp (X:Cx) (e:Expr) (t:TE):Prop :=
 ∀ (zz:zP) (s:Shared) (σ:St) (H:Hp) (Q:VK),Inv X zz σ H s->t σ H Q->wpAny (model X.prog X.w) X.A (eval e X.env) (fun u s'=>1<=s'.toks/\EP X zz σ Q u s') X.xe s
def PTT (X:Cx) (e:Expr) (t:TT):Prop :=
 ∀ (zz:zP) (s:Shared) (σ:St) (H:Hp) (Q:Bool->Hp->Prop),Inv X zz σ H s->1<=s.toks->t σ H Q->wpAny (model X.prog X.w) X.A (isTrue e X.env (eval e X.env)) (TP X zz σ Q) X.xe s
def PTp (X:Cx) (e:Expr) (t:TT):Prop :=
 ∀ (zz:zP) (s:Shared) (σ:St) (H:Hp) (Q:Bool->Hp->Prop),Inv X zz σ H s->t σ H Q->wpAny (model X.prog X.w) X.A (isTrue e X.env (eval e X.env)) (fun u s'=>1<=s'.toks/\TP X zz σ Q u s') X.xe s
def PSsT (X:Cx) (st:List Stmt) (t:TS):Prop :=
 ∀ (zz:zP) (s:Shared) (σ:St) (H:Hp) (D:Ends),Inv X zz σ H s->1<=s.toks->t D σ H->wpAny (model X.prog X.w) X.A (execs st X.env) (SP X zz D) X.xe s
def PST (X:Cx) (st:Stmt) (t:TS):Prop :=
 ∀ (zz:zP) (s:Shared) (σ:St) (H:Hp) (D:Ends),Inv X zz σ H s->1<=s.toks->t D σ H->wpAny (model X.prog X.w) X.A (exec st X.env) (SP X zz D) X.xe s
def PIT (X:Cx) (tg iter:Expr) (wi:TI):Prop :=
 ∀ (zz:zP) (s:Shared) (σ:St) (H:Hp) (R:It->Hp->Prop),Inv X zz σ H s->1<=s.toks->wi σ H R ->
  wpAny (model X.prog X.w) X.A (eval iter X.env) (fun v s1=>wpAny (model X.prog X.w) X.A (pyIter v) (PIE X zz σ tg R) X.xe s1) X.xe s
structure FnOkT (P:Program) (w:World) (K:Frag) (mg:zM) (base:Heap) (CX:CXT) (k:Nat) (f:Addr) (fd:FuncData) (ps:List Str) (sp:Sp):Prop where
 len : ∀ vs H Q E,sp vs H Q E->vs.length=ps.length
 run : ∀ (A:Around) (outer:List Env) (s:Shared) (H:Hp) (args:Args) (us:List Value) (vs:List V) (Q:VK) (E:XK),1<=s.toks->Room k A->Env0 P w K mg base A outer s H->BindsTo s fd args (ps.zip us)->Vals vs us->sp vs H Q E ->
  codeAny (model P w) A (.call (.ref f) args) (CR CX outer P w H s Q E) s
section
variable {X:Cx}{CX:CXT}{k:Nat}{E:XK}{x:Str}{p pos zt:Pos}{a b c e o:Expr}{es:List Expr}{ta tb te to:TE}{t:TA}{tA tB':TT}{st:Stmt}{rest:List Stmt}{tS u:TS}{f:Addr}{fd:FuncData}{ps:List Str}{sp:Sp}
theorem n5_ {op:CmpOp}{r:R2} (ho:OpR X (compareOp op) r) (ha:PE X a ta) (hb:PEp X b tb) (hm:behindInMarks op b=false):PTp X (.Compare a [op] [b] pos) (hG_ (tOp r ta tb)):=by
 intro zz s σ H Q I h;refine wpAny_isTrue_Compare1 (thn (ha zz s σ H _ I h) fun v s1 ⟨x,H1,I1,r1,q1⟩=>thn (hb zz s1 σ H1 _ I1 q1) fun u s2 ⟨tk,y,H2,I2,r2,q2⟩ =>
  thn (wpAny_toks_of tk (ho zz s2 σ H2 x y v u _ I2 r1 r2 q2) |> fun z=>wpAny_mono z (fun _ _ q=>q) fun _ _ q=>q.2) fun c s3 ⟨tk3,z,H3,I3,r3,q3⟩=>?_) hm
 obtain ⟨k,e,q3⟩:=k3_ q3;subst e;cases r3;exact wpAny_truthy_bool ⟨tk3,H3,I3,q3⟩
theorem oa_ (hg:Gl X "len") (hm:X.mg "len"=none) (ha:PE X a ta) (hs:starEach [a] X.env=[(false,eval a X.env)]:=by rfl) :
  PEp X (.Call (.Name "len" p) [a] [] pos) (fun σ H Q=>ta σ H fun x H1=>∃ q ys,x = .ref q/\SqL X.K H1 q ys/\Q (.int ys.length) H1):=by
 intro zz s σ H Q I h;refine wpAny_Call_Name_kw (dS_ I hg hm PySem.boot_len ?_);have he:starEach (a::[]) X.env=(false,eval a X.env)::starEach [] X.env:=by rw [hs];rfl
 refine PyProof.Rows.callWith_builtin1 (thn (aa_ ha ab_ he pos zz s σ H (fun vs H1=>∃ x,vs=[x]/\∃ q ys,x = .ref q/\SqL X.K H1 q ys/\Q (.int ys.length) H1) I ?_) fun us s1 ⟨vs,H1,I1,r1,x,ex,q,ys,exq,hq,qq⟩=>?_) he rfl
 ·have h':ta σ H fun x H1=>∃ q ys,x=V.ref q/\SqL X.K H1 q ys/\Q (.int ys.length) H1:=h
  show ta σ H fun x H1=>∃ x_1,[x]=[x_1]/\_;have e:(fun (x:V) (H1:Hp)=>∃ x_1,[x]=[x_1]/\∃ q ys,x_1=V.ref q/\SqL X.K H1 q ys/\Q (.int ys.length) H1)=fun x H1=>∃ q ys,x=V.ref q/\SqL X.K H1 q ys/\Q (.int ys.length) H1:=by
   funext x H1
   exact propext ⟨fun ⟨y,e,z⟩=>by cases e;exact z,fun z=>⟨x,rfl,z⟩⟩
  rw [e];exact h'
 subst ex exq;obtain ⟨u,rfl,rx⟩:=jR_ r1;cases rx;have hn:=dm_;refine x_12 (I1.list hq) fun zw r' pl hz=>?_;have zp:=r'.length;exact Calls.call_len_list pl.isList (by simp only [size_toArray] <;> omega) ⟨by show 1<=_ ;simp;try omega,.int ys.length,H1,I1.tok _,⟨_,by rw [size_toArray,zp]⟩,qq⟩
theorem pw_orP (ha:PTp X a tA) (hb : ∀ whole (zz:zP) (s:Shared) (σ:St) (H:Hp) (Q:Bool->Hp->Prop),Inv X zz σ H s->1<=s.toks->tB' σ H Q->wpAny (model X.prog X.w) X.A (isTrue (.BoolOp .Or [b] pos) X.env whole) (TP X zz σ Q) X.xe s):PT X (.BoolOp .Or [a,b] pos) (tOr tA tB'):=by
 intro zz s σ H Q I h;refine isTrue_or (thn (ha zz s σ H _ I h) fun c s1 ⟨tk,H1,I1,q1⟩=>?_);cases c with
 | true=>exact ⟨H1,I1,q1⟩
 | false=>exact hb _ zz s1 σ H1 Q I1 tk q1
theorem pw_or1T (ha:PTT X a tA) : ∀ whole (zz:zP) (s:Shared) (σ:St) (H:Hp) (Q:Bool->Hp->Prop),Inv X zz σ H s->1<=s.toks->tA σ H Q->wpAny (model X.prog X.w) X.A (isTrue (.BoolOp .Or [a] pos) X.env whole) (TP X zz σ Q) X.xe s:=by
 intro wh zz s σ H Q I tk h;refine isTrue_or (thn (ha zz s σ H Q I tk h) fun c s1 e=>?_);cases c with
 | false=>exact isTrue_or_nil e
 | true=>exact e
theorem n4_ (ha:PTT X a tA):PTT X (.UnaryOp .Not a pos) (tNot tA):=by
 intro zz s σ H Q I tk h;exact isTrue_not (ha zz s σ H (fun c H1=>Q (!c) H1) I tk h)
theorem n3_ {e:Expr}{t:TE} (h:PET X e t) (he : ∀ whole,isTrue e X.env whole=(do let v <- whole;standAt e.pos;holding [v] (truthy v)):=by intro _;rfl):PTT X e (tB t):=by
 intro zz s σ H Q I tk hw;refine isTrue_plain (thn (h zz s σ H _ I tk hw) fun v s1 zq=>?_) (he _);obtain ⟨x,H1,I1,r1,q1⟩:=zq;obtain ⟨d,rfl,q⟩:=q1;cases r1;exact wpAny_truthy_bool ⟨H1,I1,q⟩
theorem n0_ {zz:zP}{σ:St}{H:Hp}{s:Shared}{Q:VK}{us:List Value}{vs:List V} (F:FnOkT X.prog X.w X.K X.mg X.base CX k f fd ps sp) (hr:Room k X.A) (hb:aY_ X.K fd ps []) (hx:bF_ CX X E)
  (I:Inv X zz σ H s) (tk:1<=s.toks) (r:Vals vs us) (h:sp vs H Q E):wpAny (model X.prog X.w) X.A (call (.ref f) us) (EP X zz σ Q) X.xe s:=by
 have hl:(us++[]).length=ps.length:=by rw [append_nil,<- r.length];exact F.len _ _ _ _ h
 have hb2:=hb s us I.kIn hl;rw [append_nil] at hb2;refine wpAny_call (codeAny_mono (F.run X.A X.stack s H ⟨us,[]⟩ us vs Q E tk hr I.env0 hb2 r h) fun r s' hq=>?_);cases r with
 | error e=>exact hx zz σ H s e s' I hq
 | ok fl =>
 cases fl with
 | ret u=>exact I.after hq
 | next=>exact False.elim hq
 | brk=>exact False.elim hq
 | cont=>exact False.elim hq
theorem l7_ (F:FnOkT X.prog X.w X.K X.mg X.base CX k f fd ps sp) (hr:Room k X.A) (hg:Gl X x) (hm:X.mg x=some (.ref f)) (hk:keepIn X.K (.ref f)=true) (hb:aY_ X.K fd ps []) (hx:bF_ CX X E)
  (ha:PA X (e::es) t) (hdb:(x == ("__debug__":Str))=false:=by decide) (he:starEach (e::es) X.env=(false,eval e X.env)::starEach es X.env:=by rfl) (hpl:(backTo pos (starEach es X.env)).any (·.1)=false:=by rfl) :
  PET X (.Call (.Name x p) (e::es) [] pos) (cS_ sp [] E t):=by
 intro zz s σ H Q I tk h;refine wpAny_Call_Name_kw (c0_ I hg hm ?_ hdb);refine callWith_K (h₀:=X.base) I.ok.mod.kin hk (wpAny_mono (wpAny_toks_of tk (ha pos zz s σ H _ I h)) (fun us s1 ⟨tk1,vs,H1,I1,r,q⟩=>⟨I1.kIn,?_⟩) fun _ _ z=>z.2) he hpl;have q':sp (vs++[]) H1 Q E:=q;rw [append_nil] at q';exact n0_ F hr hb hx I1 tk1 r q'
theorem kv_ (h1:PST X st tS) (h2:PSs X rest u):PSsT X (st::rest) (tSeq tS u):=by
 intro zz s σ H D I tk h;refine wpAny_execs_cons (thn (h1 zz s σ H { D with nx:=u D } I tk h) fun f s1 q=>?_);cases f with
 | next =>
  refine x_21 q fun σ' H' I' q=>?_;exact h2 zz s1 σ' H' D I' q
 | ret v=>exact q
 | brk=>exact q
 | cont=>exact q
theorem l3_ {tg l:Expr}{tl:TE} (hl:PET X l tl):PIT X tg l (mx_ X.K tl):=by
 intro zz s σ H R I tk h;refine thn (hl zz s σ H _ I tk h) fun v s1 zq=>?_;obtain ⟨x,H1,I1,r1,q1⟩:=zq;obtain ⟨a,e,⟨xs,hq⟩,q⟩:=q1;subst e;cases r1;refine x_12 (I1.list hq) fun zw rv p hz=>?_;refine wpAny_pyIter_list p.isList ?_;refine ⟨s1.heap.objs.size,[s1.heap.objs.size],_,_,H1,rfl,I1.kept (t':=s1.toks) fun b o e=>get?_push_of_some _ e,gx_ a _,⟨_,get?_push_size _ rfl,rfl,rfl⟩,fun b hb=>?_,q⟩;have e:b=s1.heap.objs.size:=by simpa using hb
 subst e;exact I1.fpOk (Nat.le_refl _) (I1.hok.fresh (Nat.le_refl _))
theorem pu_ {id:String}{name:Str}{r:V->List V->Hp->VK->Prop} (slot:Slot "str" name id) (ty:typeOf (.builtin id)=pure (.type "method_descriptor")) (rule:MtR X id r) (ho:PET X o to) (he:PE X e te)
  (hs:starEach [e] X.env=[(false,eval e X.env)]:=by rfl) (zn:attributeBase o name X.env (eval o X.env)=eval o X.env:=by rfl) (zo:(zt.endLine == pos.line)=true:=by rfl) :
  PET X (.Call (.Attribute o name zt) [e] [] pos) (tM1 r to te):=by
 intro zz s σ H Q I tk h;refine PySem.Call_method1 zn hs zo (thn (ho zz s σ H _ I tk h) fun v s1 zq=>?_);refine x_22 zq fun x H1 I1 r1 q1=>?_;obtain ⟨⟨a,rfl⟩,q1⟩:=q1;obtain ⟨t,rfl⟩:=_root_.id r1;refine ⟨"str",_,F.plainAttrs_str,slot,ty,typeIs_str _ _ _,(fun _ e=>nomatch e),Calls.callWith_builtin rfl (Calls.evalArgs_plain (Calls.spliced_cons ?_))⟩;exact thn (he zz s1 σ H1 _ I1 q1) fun u s2 ⟨y,H2,I2,r2,q2⟩=>Calls.spliced_nil (rule zz s2 σ H2 _ [y] _ [u] Q I2 r1 (.cons r2 .nil) q2)
theorem hO_ {y z:Str}{j1 j2:Nat}{p1 p2:Pos} (ho:PE X (.Name x p) to) (hyz:(y == z)=false:=by decide) (hz:z.length<=14:=by decide)
  (hs:starEach [.Constant (.str y) j1 p1,.Constant (.str z) j2 p2] X.env=[(false,eval (.Constant (.str y) j1 p1) X.env),(false,eval (.Constant (.str z) j2 p2) X.env)]:=by rfl)
  (zn:attributeBase (.Name x p) "replace" X.env (eval (.Name x p) X.env)=eval (.Name x p) X.env:=by rfl) (zo:(zt.endLine == pos.line)=true:=by rfl) :
  PET X (.Call (.Attribute (.Name x p) "replace" zt) [.Constant (.str y) j1 p1,.Constant (.str z) j2 p2] [] pos) (fun σ H Q=>to σ H fun v H1=>∃ a,v = .str a/\a.length<=1048576/\Q (.str (Txt.replace a y z)) H1):=by
 intro zz s σ H Q I tk h;refine PySem.Call_method2 zn hs zo (wpAny_mono (wpAny_toks_of tk (ho zz s σ H _ I h)) (fun v s1 ⟨tk1,x,H1,I1,r1,q1⟩=>?_) fun _ _ z=>z.2);obtain ⟨a,rfl,ha,q1⟩:=q1;obtain ⟨t,rfl⟩:=_root_.id r1;refine ⟨"str",_,F.plainAttrs_str,F.slot_str_replace,F.type_str_replace,typeIs_str _ _ _,(fun _ e=>nomatch e),Calls.callWith_builtin rfl (Calls.evalArgs_plain (Calls.spliced_cons ?_))⟩;refine Calls.Constant_str (Calls.spliced_cons (Calls.Constant_str (Calls.spliced_nil ?_)));refine SC.replaceW ?_ ?_ ?_ hyz ha hz fun t' k=>⟨.str (Txt.replace a y z),H1,((I1.tok _).tok _).tok _,⟨_,rfl⟩,q1⟩
 ·exact ne_of_gt tk1
 ·exact Nat.succ_ne_zero _
 exact Nat.ne_of_lt (lt_succ_self _)
theorem n6_ {tg iter:Expr}{body:List Stmt}{wi:TI}{g:TG}{tb:TS} (hp:PassesOwn (model X.prog X.w) X.A X.env X.xe) (hc:X.calm=true) (hi:PIT X tg iter wi) (hg:PG X tg g) (hb:PSs X body tb)
  (hs : ∀ x,foldedSetIterable iter X.env x=pure x:=by intro _;rfl):PST X (.For tg iter body [] pos) (tFor wi g tb):=by
 intro zz s σ H D I tk h;refine wpAny_For (thn (hi zz s σ H _ I tk h) fun v s1 h1=>thn h1 fun itv s2 h2=>?_) hs;refine x_50 h2 fun it fp tn J H2 zy=>x_05 zy fun e I2 T st2 f2 zz0=>?_;refine x_11 zz0 fun W zn11 turn=>?_;obtain ⟨m0,w0⟩:=zn11;subst e;have stat : ∀ {H':Hp},(∀ b∈fp,H' b=none)->∀ b∈fp,FpOk X zz H' b:=fun hn b hb=>⟨hn b hb,(f2 b hb).2⟩;refine codeAny_forLoop_any (fun n s'=>∃ i σ' H',Inv X zz σ' H' s'/\tn i s'.heap/\(∀ b∈fp,H' b=none)/\W i n σ' H') ?_ m0 ⟨0,σ,H2,I2,st2,fun b hb=>(f2 b hb).1,w0⟩
 rintro n s3 ⟨i,σ3,H3,I3,st3,fr3,w3⟩
 rcases turn i n σ3 H3 w3 with ⟨stop,qn⟩ | ⟨go,N,hN,step⟩
 ·refine wpAny_passesOwn hp (thn (T.done X rfl rfl rfl hc i zz s3 σ3 H3 X.xe I3 (stat fr3) st3 stop) fun r s4 ⟨hr,I4⟩=>?_)
  subst hr;exact wpAny_execs_nil ⟨σ3,H3,I4,qn⟩
 refine wpAny_passesOwn hp (thn (T.item X rfl rfl rfl hc i zz s3 σ3 H3 X.xe I3 (stat fr3) st3 go) fun r s4 ⟨u,hr,h4⟩=>?_);subst hr;refine wpAny_passesOwn hp (thn h4 fun _ s5 zq=>?_);refine x_24 zq fun x H5 I5 r5 y5 st5 fr5=>?_;have I5':=I5.pinned (stat fr5) (T.obj _ _ st5);refine wpAny_passesOwn hp (thn (hg _ s5 σ3 H5 x u _ I5' r5 (step x H5 y5)) fun _ s6 ⟨σ6,H6,I6,q6⟩=>?_);refine wpAny_passesOwn hp (thn (hb _ s6 σ6 H6 _ I6 q6) fun f s7 q7=>?_);have again : ∀ {σ7:St}{H7:Hp},Inv X (zz++fg_ fp s5.heap) σ7 H7 s7->N σ7 H7->∃ m,m<n/\∃ i σ' H',Inv X zz σ' H' s7/\tn i s7.heap/\(∀ b∈fp,H' b=none)/\W i m σ' H':=fun {σ7 H7} I7 n7=>by
  obtain ⟨m',hm,w7⟩:=hN σ7 H7 n7;refine ⟨m',hm,i+1,σ7,H7,I7.unpinned,T.keep _ _ _ st5 fun b hb o e=>(I7.pin (b,o) (mem_append_right _ (mem_append_right _ (b4_ hb e)))).1,fun b hb=>?_,w7⟩;obtain ⟨o,e,d⟩:=T.obj _ _ st5 b hb;exact (I7.pin (b,o) (mem_append_right _ (mem_append_right _ (b4_ hb e)))).2.1
 cases f with
 | next=>obtain ⟨σ7,H7,I7,n7⟩:=q7;exact again I7 n7
 | cont=>obtain ⟨σ7,H7,I7,n7⟩:=q7;exact again I7 n7
 | brk=>obtain ⟨σ7,H7,I7,q7⟩:=q7;exact ⟨σ7,H7,I7.unpinned,q7⟩
 | ret v=>obtain ⟨x7,σ7,H7,I7,r7,q7⟩:=q7;exact ⟨x7,σ7,H7,I7.unpinned,r7,q7⟩
theorem PSsT.nox {st:List Stmt}{t:TS} (h:PSsT X.nox st t):PSsT X st t:=fun zz s σ H D I tk hw =>
 wpAny_mono (h zz s σ H D (I.wish _) tk hw) (fun _ _ q=>q.unwish) fun _ _ q=>q.elim
end
theorem pY_ {CX:CXT}{P:Program}{w:World}{K:Frag}{mg:zM}{base:Heap}{k:Nat}{f:Addr}{name qual:Str}{params:Arguments}{body:List Stmt}{scope:Scope}{dV kV doc pm cdv ct oc:Value}{an od:Option Addr}
  {osl:Array (Option Value)}{N ps:List Str}{sp:Sp} (lk:K.lookup f=some ⟨oc,od,.func (fnOf name qual params body scope dV kV doc pm an cdv ct),osl⟩) (hcd:codeIn K cdv qual=true) (S:FnScope N ps scope)
  (len : ∀ vs H Q E,sp vs H Q E->vs.length=ps.length)
  (hbody : ∀ (A:Around) (outer:List Env) (s:Shared) (H:Hp) (vs:List V) (Q:VK) (E:XK),Room k (A.deeper (envOfC qual scope s.heap.objs.size f cdv))->sp vs H Q E ->
   ∃ t,PSsT (cxOf CX P w K mg base N qual scope f cdv A outer s H E) body t/\t { nx:=fun _ H'=>Q .non H',rt:=Q } (start N vs) H) :
  FnOkT P w K mg base CX (k+1) f (fnOf name qual params body scope dV kV doc pm an cdv ct) ps sp:=by
 refine ⟨len,fun A outer s H args us vs Q E tk hr e0 hb r hsp=>?_⟩;have hl:=len _ _ _ _ hsp;have KX:K.In s.heap:=e0.mod.kin.keeps fun b o e=>(e0.bs b o e).1;have lim:s.heap.NoLimit:=e0.mod.nolimit.keeps fun b o e=>(e0.bs b o e).1;have hkind : ∀ y∈ps.zip us,scope.names.lookup y.1=some .local\/(scope.names.lookup y.1=some .cell/\((cellsFrom (s.heap.objs.size+1) scope.names []).lookup y.1).isSome=true):=fun ⟨n,v⟩ hy=>by
  rcases S.par n (of_mem_zip hy).1 with q | q
  ·exact .inl q
  exact .inr ⟨q,PySem.W.cellsFrom_some _ _ _ (.inl q)⟩
 refine codeAny_call_function hr.depth (KX _ _ lk) rfl S.co S.gen rfl (PySem.W.codeRec_of KX hcd) (hb _ _ _ _ ?_);refine wpAny_with_toks tk ?_;refine wpAny_newFunctionEnv_cells S.kind hkind fun env he s1 x=>?_;subst he;intro tk1;refine ⟨lim.keeps x.toInCall.keep,codeAny_func ?_⟩;obtain ⟨t,ht,hq⟩:=hbody A outer s H vs Q E (hr.deeper _) hsp;have I:Inv (cxOf CX P w K mg base N qual scope f cdv A outer s H E) [] (start N vs) H s1:=he_ S hr.hd e0 hl r x;refine wpAny_mono (ht [] s1 (start N vs) H _ I tk1 hq) (fun fl s' hs=>?_) fun e s' hs=>hs;have fin : ∀ {σ':St}{H':Hp}{v:V}{u:Value},Inv (cxOf CX P w K mg base N qual scope f cdv A outer s H E) [] σ' H' s'->RelV v u->Q v H'->CE outer P w H s Q u s' :=
  fun {σ' H' v u} J rv q=>⟨v,H',J.os,J.bare,J.base,J.hok,rv,q⟩
 cases fl with
 | ret u =>
  refine x_32 hs fun v σ' H' J rv q=>?_;exact fin J rv q
 | next =>
  refine x_21 hs fun σ' H' J q=>?_;exact fin (v:=V.non) (u:=Value.none) J rfl q
 | brk =>
  refine x_21 hs fun _ _ _ q=>?_;exact False.elim q
 | cont =>
 refine x_21 hs fun _ _ _ q=>?_;exact False.elim q
theorem Fun.okT {P:Program}{w:World}{K:Frag}{mg:zM}{base:Heap}{x qual:Str}{st:Stmt}{f:Addr}{fd:FuncData}{N ps:List Str}{k:Nat}{sp:Sp} (F:Fun K x qual st f fd) (S:FnScope N ps (ae_ st)) (len : ∀ vs H Q E,sp vs H Q E->vs.length=ps.length)
  (hbody : ∀ (cdv:Value) (A:Around) (outer:List Env) (s:Shared) (H:Hp) (vs:List V) (Q:VK) (E:XK),Room k (A.deeper (envOfC qual (ae_ st) s.heap.objs.size f cdv))->sp vs H Q E ->
   ∃ t,PSsT (cxOf CX0 P w K mg base N qual (ae_ st) f cdv A outer s H E).nox (bw_ st) t/\t { nx:=fun _ H'=>Q .non H',rt:=Q } (start N vs) H):FnOkT P w K mg base CX0 (k+1) f fd ps sp:=by
 refine x_90 F.ex fun oc od kV doc pm an cdv ct osl zy=>x_02 zy fun zr9 lk hcd=>?_;subst zr9;refine pY_ lk hcd S len fun A outer s H vs Q E hr hsp=>?_;obtain ⟨t,h,q⟩:=hbody cdv A outer s H vs Q E hr hsp;exact ⟨t,h.nox,q⟩
open PySem PySem.Spec PyProof.Rows TL
structure FG (K:Frag) (mg:zM) (x:Str) (st:Stmt) (ps:List Str) (f:Addr) (fd:FuncData):Prop where
 mg:mg x=some (.ref f)
 fn:Fun K x x st f fd
 b:aY_ K fd ps []
theorem Room.m {j k:Nat}{A:Around} (r:Room k A) (h:j<=k:=by decide):Room j A:=r.mono h
theorem pla:PlainAttrs "list":=PySem.F.plainAttrs_list
theorem sla:Slot "list" "append" "list.append":=PySem.F.slot_list_append
theorem tla:typeOf (.builtin "list.append")=pure (.type "method_descriptor"):=PySem.F.type_list_append
theorem slp:Slot "list" "pop" "list.pop":=PySem.F.slot_list_pop
theorem tlp:typeOf (.builtin "list.pop")=pure (.type "method_descriptor"):=PySem.F.type_list_pop
theorem aH_ {X:Cx}{CX:CXT}{k:Nat}{E:XK}{x:Str}{p pos:Pos}{e:Expr}{es:List Expr}{t:TA}{f:Addr}{fd:FuncData}{ps:List Str}{sp:Sp}{st:Stmt} (F:FG X.K X.mg x st ps f fd) (G:FnOk X.prog X.w X.K X.mg X.base CX k f fd ps sp) (hr:Room k X.A) (hx:bF_ CX X E) (ha:PA X (e::es) t)
  (hg:Gl X x:=by rfl) (hdb:(x == ("__debug__":Str))=false:=by decide) (he:starEach (e::es) X.env=(false,eval e X.env)::starEach es X.env:=by rfl) (hpl:(backTo pos (starEach es X.env)).any (·.1)=false:=by rfl):PE X (.Call (.Name x p) (e::es) [] pos) (cS_ sp [] E t):=eB_ G hr hg F.mg F.fn.kp F.b .nil hx ha hdb he hpl
theorem aC_ {X:Cx}{pos pos':Pos} (i:Nat) {x:Str}{e:Expr}{te:TE} (hN:X.N.Nodup) (he:PE X e te) (hi:X.N[i]? = some x:=by rfl) (hx:Loc X.env.scope x:=by exact Or.inl rfl) (hs:swapsWith e (some (.Name x pos')) pos.line X.env=pure false:=by rfl) (hf:X.fn x=true\/X.env.scope.names.lookup x=some .local:=by first | exact .inl rfl | exact .inr rfl | assumption):PS X (.Assign [.Name x pos'] e pos) (tAsg te (do_ i)):=iE_ hN hi hx he hs hf
theorem pg_q {X:Cx}{pos:Pos} (i:Nat) {x:Str} (hN:X.N.Nodup) (hi:X.N[i]? = some x:=by rfl) (hx:Loc X.env.scope x:=by exact Or.inl rfl) (hf:X.fn x=true\/X.env.scope.names.lookup x=some .local:=by first | exact .inl rfl | exact .inr rfl | assumption):PG X (.Name x pos) (do_ i):=kA_ hN hi hx hf
theorem eV_:bootBuiltins "ord"=some (.builtin "ord"):=by left
theorem hs_:bootBuiltins "all"=some (.builtin "all"):=by left
theorem lw_:bootBuiltins "max"=some (.builtin "max"):=by left
theorem ca_:bootBuiltins "int"=some (.type "int"):=by left
theorem du_:bootBuiltins "str"=some (.type "str"):=by left
def bs (t:List Nat):List V:=t.map fun (n:Nat)=>V.int (n:Int)
def S (l:List Nat):Str:=⟨l.toArray⟩
theorem tl_S (l:List Nat):tl (S l)=l:=rfl
theorem a7_ (l:List Nat):(S l).length=l.length:=by rw [dn_,tl_S]
theorem ck_ (t:List Nat):(bs t).length=t.length:=by unfold bs;rw [length_map]
theorem dX_ {t:List Nat}{i c:Nat} (h:t[i]? = some c):(bs t)[i]? = some (V.int (c:Int)):=by unfold bs;rw [getElem?_map,h];rfl
theorem oT_ (t:List Nat) (i:Nat):(bs t).drop i=bs (t.drop i):=by unfold bs;rw [List.map_drop]
theorem oS_ (t:List Nat) (i:Nat):(bs t).take i=bs (t.take i):=by unfold bs;rw [List.map_take]
def spB (b:Nat->Bool):Sp:=fun vs H Q _=>∃ n:Nat,vs=[.int (n:Int)]/\Q (.bl (b n)) H
def jO_ (P:Program) (w:World) (K:Frag) (mg:zM) (base:Heap) (k:Nat) (f:Addr) (b:Nat->Bool):Prop :=
 ∃ fd ps,FnOk P w K mg base CX0 k f fd ps (spB b)/\aY_ K fd ps []/\keepIn K (.ref f)=true
theorem Same.upd {H:Hp}{a:Addr}{o:HO} (h:H a=none):Same H (L2.upd H a o):=fun b u e=>by rw [ag_ (ai_ e h)];exact e
theorem cE_ {b:Bool}{A B:Prop} (h1:b=true->A) (h2:b=false->B):if b=true then A else B:=by
 cases b with
 | true=>exact iteT (h1 rfl)
 | false=>exact iteF (h2 rfl)
theorem pI_ {J:It}{g:TG}{tt:TT}{te:TE}{vs:List Nat}{σ:St}{H1:Hp}{D:Addr}{Qd:Hp->Prop} (xs:List V) (f:V->V) (hD:H1 D=none) (hn:xs.length<=sizeLine)
  (hgo : ∀ i x H,Same H1 H->xs[i]? = some x->J.go i H/\∀ y H',J.yld i H y H'->H'=H/\y=x) (hst : ∀ H,Same H1 H->J.stop xs.length H)
  (hs : ∀ x H zx (Nx:Hp->Prop),x∈xs->Same H1 H->H D=some (.lst zx)->zx.length<sizeLine->(∀ H',Same H H'->Nx (upd H' D (.lst (zx++[f x])))) ->
   g x (wipe σ vs) H fun σ2 H2=>wipe σ2 vs=wipe σ vs/\tt σ2 H2 fun b H3=>if b=true then te σ2 H3 fun y H4=>∃ zx,H4 D=some (.lst zx)/\zx.length<sizeLine/\Nx (upd H4 D (.lst (zx++[y]))) else Nx H3)
  (hd : ∀ H,Same H1 H->H D=some (.lst (xs.map f))->Qd H) :
  ∃ W:Nat->Nat->Hp->Prop,(∃ m,W 0 m (upd H1 D (.lst [])))/\∀ i m H,W i m H ->
   (J.stop i H/\Qd H)\/(J.go i H/\∃ Nx:Hp->Prop,(∀ H',Nx H'->∃ m',m'<m/\W (i+1) m' H')/\∀ x H',J.yld i H x H'->g x (wipe σ vs) H' fun σ2 H2=>wipe σ2 vs=wipe σ vs/\tt σ2 H2 fun b H3 =>
    if b=true then te σ2 H3 fun y H4=>∃ zx,H4 D=some (.lst zx)/\zx.length<sizeLine/\Nx (upd H4 D (.lst (zx++[y]))) else Nx H3):=by
 refine ⟨fun i m H=>m=xs.length - i/\i<=xs.length/\Same H1 H/\H D=some (.lst ((xs.take i).map f)),⟨_,rfl,zero_le _,Same.upd hD,af_⟩,?_⟩
 rintro i m H ⟨rfl,hi,sm,hd1⟩
 by_cases hlt:i<xs.length
 ·have hx:xs[i]? = some xs[i]:=getElem?_eq_getElem hlt
  obtain ⟨go,yl⟩:=hgo i xs[i] H sm hx;refine .inr ⟨go,fun H'=>Same H1 H'/\H' D=some (.lst ((xs.take (i+1)).map f)),fun H' z=>⟨_,by omega,rfl,hlt,z.1,z.2⟩,fun y H' q=>?_⟩;obtain ⟨rfl,rfl⟩:=yl y H' q;refine hs _ H' _ _ (List.getElem_mem hlt) sm hd1 (by rw [length_map,length_take];omega) fun H2 s2=>⟨fun b o e=>?_,?_⟩
  ·rw [ag_ (ai_ e hD)]
   exact s2 _ _ (sm _ _ e)
  rw [af_,take_succ,hx,map_append];rfl
 have e:i=xs.length:=by omega
 subst e;rw [take_length] at hd1;exact .inl ⟨hst H sm,hd H sm hd1⟩
theorem gd_ {K:Frag}{a:Addr}{xs:List V}{H1:Hp} (h:SqL K H1 a xs):(∀ i x H,Same H1 H->xs[i]? = some x->(Itl K a).go i H/\∀ y H',(Itl K a).yld i H y H'->H'=H/\y=x)/\∀ H,Same H1 H->(Itl K a).stop xs.length H :=
 ⟨fun i x H sm e=>⟨⟨xs,x,sm.seq h,e⟩,fun y H' ⟨e1,e2⟩=>⟨e1,Option.some.inj ((e2 xs (by subst e1;exact sm.seq h)).symm.trans e)⟩⟩,fun H sm=>⟨xs,sm.seq h,Nat.le_refl _⟩⟩
theorem ns_ {x:Str}{H1:Hp}:(∀ i y H,Same H1 H->((tl x).map fun c=>V.str ⟨#[c]⟩)[i]? = some y->(Its x).go i H/\∀ z H',(Its x).yld i H z H'->H'=H/\z=y)/\∀ H,Same H1 H->(Its x).stop ((tl x).map fun c=>V.str ⟨#[c]⟩).length H:=by
 refine ⟨fun i y H sm e=>?_,fun H sm=>?_⟩
 ·rw [getElem?_map] at e
  cases q:(tl x)[i]? with
  | none=>rw [q] at e;cases e
  | some c =>
  rw [q] at e;cases e;have q':x.cps[i]? = some c:=by rw [<- Array.getElem?_toList];exact q
  refine ⟨?_,?_⟩
  ·show i<x.cps.size
   exact (Array.getElem?_eq_some_iff.mp q').1
  rintro z H' ⟨e1,c',e2,e3⟩
  rw [q'] at e2;cases e2;exact ⟨e1,e3⟩
 show x.cps.size<=_;simp
theorem cx_K {CX:CXT}{P:Program}{w:World}{K:Frag}{mg:zM}{base:Heap}{N:List Str}{qual:Str}{scope:Scope}{f:Addr}{cd:Value}{A:Around}{outer:List Env}{s:Shared}{H:Hp}{E:XK}:(cxOf CX P w K mg base N qual scope f cd A outer s H E).K=K:=rfl
theorem cx_P {CX:CXT}{P:Program}{w:World}{K:Frag}{mg:zM}{base:Heap}{N:List Str}{qual:Str}{scope:Scope}{f:Addr}{cd:Value}{A:Around}{outer:List Env}{s:Shared}{H:Hp}{E:XK}:(cxOf CX P w K mg base N qual scope f cd A outer s H E).prog=P:=rfl
theorem cx_w {CX:CXT}{P:Program}{w:World}{K:Frag}{mg:zM}{base:Heap}{N:List Str}{qual:Str}{scope:Scope}{f:Addr}{cd:Value}{A:Around}{outer:List Env}{s:Shared}{H:Hp}{E:XK}:(cxOf CX P w K mg base N qual scope f cd A outer s H E).w=w:=rfl
theorem qw_ {CX:CXT}{P:Program}{w:World}{K:Frag}{mg:zM}{base:Heap}{N:List Str}{qual:Str}{scope:Scope}{f:Addr}{cd:Value}{A:Around}{outer:List Env}{s:Shared}{H:Hp}{E:XK}:(cxOf CX P w K mg base N qual scope f cd A outer s H E).mg=mg:=rfl
theorem oR_ {CX:CXT}{P:Program}{w:World}{K:Frag}{mg:zM}{base:Heap}{N:List Str}{qual:Str}{scope:Scope}{f:Addr}{cd:Value}{A:Around}{outer:List Env}{s:Shared}{H:Hp}{E:XK}:(cxOf CX P w K mg base N qual scope f cd A outer s H E).base=base:=rfl
theorem cx_N {CX:CXT}{P:Program}{w:World}{K:Frag}{mg:zM}{base:Heap}{N:List Str}{qual:Str}{scope:Scope}{f:Addr}{cd:Value}{A:Around}{outer:List Env}{s:Shared}{H:Hp}{E:XK}:(cxOf CX P w K mg base N qual scope f cd A outer s H E).N=N:=rfl
theorem bM_ (s:String):ofString s=S (Vaunid.txt s):=cv_ (by rw [hE_,tl_S];rfl)
theorem d3_ {l m:List Nat}:(S l=S m)=(l=m):=propext ⟨fun e=>by have:=congrArg tl e;exact this,fun e=>by rw [e]⟩
theorem S_eq (l:List Nat) (s:String):(S l=ofString s)=(l=Vaunid.txt s):=by rw [bM_,d3_]
theorem oi_ (c:Nat):(⟨#[c]⟩:Str).length=1:=rfl
theorem oj_ (c:Nat):(⟨#[c]⟩:Str).cps.getD 0 0=c:=rfl
theorem e3_ (l:List Nat):(S l).cps.toList=l:=rfl
theorem h1_ (n c:Nat):decide ((n:Int)=(c:Int))=(n == c):=by
 rw [Bool.eq_iff_iff];simp;omega
theorem iq_ {wi:TI}{g:TG}{tt:TT}{te:TE}{vs:List Nat}{σ:St}{H H1:Hp}{Q:VK} (J:It) (xs:List V) (f:V->V) (hw : ∀ R:It->Hp->Prop,R J H1->wi σ H R) (hn:xs.length<=sizeLine)
  (hgo:(∀ i x H,Same H1 H->xs[i]? = some x->J.go i H/\∀ y H',J.yld i H y H'->H'=H/\y=x)/\∀ H,Same H1 H->J.stop xs.length H)
  (hs : ∀ x H D zx (Nx:Hp->Prop),x∈xs->Same H1 H->H D=some (.lst zx)->zx.length<sizeLine->(∀ H',Same H H'->Nx (upd H' D (.lst (zx++[f x])))) ->
   g x (wipe σ vs) H fun σ2 H2=>wipe σ2 vs=wipe σ vs/\tt σ2 H2 fun b H3=>if b=true then te σ2 H3 fun y H4=>∃ zx,H4 D=some (.lst zx)/\zx.length<sizeLine/\Nx (upd H4 D (.lst (zx++[y]))) else Nx H3)
  (hd : ∀ D H,H1 D=none->Same H1 H->H D=some (.lst (xs.map f))->Q (.ref D) H):tLc wi g tt te vs σ H Q :=
 hw _ fun D hD=>pI_ xs f hD hn hgo.1 hgo.2 (fun x H zx Nx h1 h2 h3 h4 h5=>hs x H D zx Nx h1 h2 h3 h4 h5) fun H s e=>hd D H hD s e
theorem cR_ {c:TT}{tb:TS}{D:Ends}{σ:St}{H:Hp} (Pv:Nat->St->Hp->Prop) (m0:Nat) (h0:Pv m0 σ H)
  (hs : ∀ m σ H,Pv m σ H->c σ H fun b H1=>if b=true then ∃ N:St->Hp->Prop,(∀ σ' H',N σ' H'->∃ m',m'<m/\Pv m' σ' H')/\tb { D with nx:=N,ct:=N,bk:=D.nx } σ H1 else D.nx σ H1):mX_ c tb D σ H :=
 ⟨Pv,⟨m0,h0⟩,hs⟩
end L2
namespace M
open PySem PySem.Spec PyProof.Rows L2 TL
open Vaunid (isSmall isDigit inWord)
def az_ (l:List Nat):Bool := !l.isEmpty && (decide (l.length<=12) && (isSmall (l.headD 0) && l.all inWord))
noncomputable def bl_ (b:List Nat):Bool:=let d:=if b.head? = some 45 then b.tail else b;!d.isEmpty && (decide (d.length<=2) && d.all isDigit)
noncomputable def av_ (f:List Nat):Bool:=f == [49] || (if f.contains 94=true then az_ (f.takeWhile (· != 94)) && bl_ ((f.dropWhile (· != 94)).drop 1) else az_ f)
def sep (c:Nat):Bool:=c == 46 || c == 47
def nsep (c:Nat):Bool := !sep c
def cut (p:Nat->Bool):List Nat->List Nat->List (List Nat)
 | zx,[]=>[zx]
 | zx,c::r=>if p c=true then zx::cut p [] r else cut p (zx++[c]) r
def bQ_ (c:Nat):Nat:=if c=47 then 46 else c
theorem j7_ (S:List Nat) : ∀ (k:Nat) (zx l:List Nat),spl S k zx l≠[]
 | k,zx,[]=>by rw [cT_];simp
 | 0,zx,c::r=>by
  cases h:pre S (c::r) with
  | true=>rw [fI_ h];simp
  | false=>rw [d8_ h];exact j7_ S 0 _ r
 | k+1,zx,c::r=>by
  rw [d7_];show spl S 0 zx (r.drop k)≠[];rw [<- d7_];exact j7_ S k zx r
theorem fP_ (s c:Nat) (r:List Nat):pre [s] (c::r)=(c == s):=by
 unfold pre;show ([c] == [s])=_;simp
theorem jA_ (S p:List Nat) {q:List (List Nat)} (h:q≠[]):eJ_ S (p::q)=p++(S++eJ_ S q):=by
 cases q with
 | nil=>exact absurd rfl h
 | cons a r=>rfl
theorem cu_ : ∀ (l zx:List Nat),eJ_ [46] (spl [47] 0 zx l)=zx++l.map bQ_
 | [],zx=>by rw [cT_];simp [eJ_]
 | c::r,zx=>by
  by_cases h:c=47
  ·subst h
   rw [fI_ (by rw [fP_];rfl),jA_ _ _ (j7_ _ _ _ _)];show zx++([46]++eJ_ [46] (spl [47] 0 [] r))=_;rw [cu_ r []];rfl
  rw [d8_ (by rw [fP_];simpa using h),cu_ r,append_assoc];show zx++(c::r.map bQ_)=zx++(bQ_ c::r.map bQ_);rw [show bQ_ c=c from if_neg h]
theorem fq_ (x:Str) : ¬ Builtin.Str.strKind x<Builtin.Str.strKind (ofString "/"):=kZ_ (by left)
theorem mu_ (x:Str) : ¬ Builtin.Str.strKind x<Builtin.Str.strKind (ofString "."):=kZ_ (by left)
theorem eq_ (l:List Nat):(Txt.split (S l) (ofString "/")).map tl=spl [47] 0 [] l:=gC_ (S l) (ofString "/") (by left) (fq_ _)
theorem er_ (l:List Nat):(Txt.split (S l) (ofString ".")).map tl=spl [46] 0 [] l:=gC_ (S l) (ofString ".") (by left) (mu_ _)
theorem ey_ (l:List Nat):Txt.replace (S l) (ofString "/") (ofString ".")=S (l.map bQ_):=by
 cases l with
 | nil=>left
 | cons c r =>
 have e:Txt.replace (S (c::r)) (ofString "/") (ofString ".")=Str.join (ofString ".") (Txt.split (S (c::r)) (ofString "/")):=by
  unfold Txt.replace Txt.split;have h1:(decide ((S (c::r)).length<(ofString "/").length) || decide (Builtin.Str.strKind (S (c::r))<Builtin.Str.strKind (ofString "/")))=false:=by
   rw [decide_eq_false (fq_ _),a7_,decide_eq_false]
   ·rfl
   rw [length_cons,show (ofString "/").length=1 by left];omega
  have h2:((ofString "/").length == 0 && (ofString ".").length == 0)=false:=by left
  rw [h1,h2,Bool.or_false];cases hc:(Builtin.Str.occurrences (S (c::r)) (ofString "/") 0 (S (c::r)).length ((S (c::r)).length+1)).isEmpty with
  | true=>rfl
  | false =>
  simp only [false_eq_true,if_false];exact StrLaws.glued_eq_join _ _
 refine cv_ ?_;rw [e,hF_,eq_];show eJ_ [46] _=_;rw [cu_];rfl
theorem hI_ : ∀ (l zx:List Nat),spl [46] 0 zx (l.map bQ_)=cut sep zx l
 | [],zx=>by rw [map_nil,cT_];rfl
 | c::r,zx=>by
  rw [map_cons];show _=if sep c=true then zx::cut sep [] r else cut sep (zx++[c]) r;by_cases h:sep c=true
  ·have hu:bQ_ c=46:=by
    unfold sep at h;unfold bQ_;rcases or_eq_true_iff.mp h with q | q
    ·rw [eq_of_beq q];rfl
    rw [eq_of_beq q];rfl
   rw [if_pos h,hu,fI_ (by rw [fP_];rfl)];exact congrArg (zx :: ·) (hI_ r [])
  have h2 : ¬ c=46/\¬ c=47:=by
   unfold sep at h;simpa using h
  rw [if_neg h,show bQ_ c=c from if_neg h2.2,d8_ (by rw [fP_];simpa using h2.1)];exact hI_ r _
theorem lp_ : ∀ (l zx:List Nat),cut sep zx l=(zx++l.takeWhile nsep)::(match l.dropWhile nsep with | []=>[] | _::r=>cut sep [] r)
 | [],zx=>by simp [cut]
 | c::r,zx=>by
  show (if sep c=true then zx::cut sep [] r else cut sep (zx++[c]) r)=_;by_cases h:sep c=true
  ·have h2:nsep c=false:=by unfold nsep;rw [h];rfl
   rw [if_pos h,takeWhile_cons,dropWhile_cons,h2];simp
  have h2:nsep c=true:=by unfold nsep;simpa using h
  rw [if_neg h,lp_ r,takeWhile_cons,dropWhile_cons,h2];simp
theorem eK_ {c:Nat} (h:inWord c=true):nsep c=true:=by
 unfold nsep sep;by_cases h1:c=46
 ·subst h1;revert h;decide
 by_cases h2:c=47
 ·subst h2;revert h;decide
 simp [h1,h2]
theorem jM_ {c:Nat} (h:isDigit c=true):nsep c=true:=eK_ (by unfold inWord;rw [h];simp)
theorem hh_ {c:Nat} (h:inWord c=true):c≠94:=by
 intro e;subst e;revert h;decide
theorem dN_ {p:Nat->Bool} (l:List Nat) : ∀ x∈l.takeWhile p,p x=true:=fun x hx=>by
 induction l with
 | nil=>simp at hx
 | cons c r ih =>
 rw [takeWhile_cons] at hx;split at hx
 ·rcases mem_cons.mp hx with e | e
  ·subst e;assumption
  exact ih e
 simp at hx
theorem dK_ {p:Nat->Bool} : ∀ (l:List Nat) {e:Nat}{s:List Nat},l.dropWhile p=e::s->p e=false
 | [],e,s,h=>by simp at h
 | c::r,e,s,h=>by
  rw [dropWhile_cons] at h;split at h
  ·exact dK_ r h
  cases h;rename_i q;simpa using q
def goes (K:List Nat->Bool) (o:Option (List Nat)):Bool:=match o with
 | none=>false
 | some []=>true
 | some (c::r)=>sep c && K r
def after (K:List Nat->Bool) (l:List Nat):Bool:=match l with
 | []=>true
 | _::r=>K r
theorem c3_ (K:List Nat->Bool) (s:List Nat) :
  goes K (if (s.takeWhile isDigit).length=1\/(s.takeWhile isDigit).length=2 then some (s.dropWhile isDigit) else none) =
   ((!(s.takeWhile nsep).isEmpty && (decide ((s.takeWhile nsep).length<=2) && (s.takeWhile nsep).all isDigit)) && after K (s.dropWhile nsep)):=by
 have hs:s=s.takeWhile isDigit++s.dropWhile isDigit:=takeWhile_append_dropWhile.symm;have hd:=dN_ (p:=isDigit) s;generalize hdd:s.takeWhile isDigit=d at hs hd;generalize hrr:s.dropWhile isDigit=rest at hs;have hn : ∀ x∈d,nsep x=true:=fun x hx=>jM_ (hd x hx);have e1:s.takeWhile nsep=d++rest.takeWhile nsep:=by rw [hs,takeWhile_append_of_pos hn]
 have e2:s.dropWhile nsep=rest.dropWhile nsep:=by rw [hs,List.dropWhile_append_of_pos hn]
 rw [e1,e2];have hall:d.all isDigit=true:=all_eq_true.mpr hd;have small:(!d.isEmpty && decide (d.length<=2))=decide (d.length=1\/d.length=2):=by
  match d with
  | []=>rfl
  | [_]=>rfl
  | [_,_]=>rfl
  | _::_::_::r=>simp
 cases rest with
 | nil =>
  rw [List.takeWhile_nil,List.dropWhile_nil,append_nil,hall,Bool.and_true,small];by_cases q:d.length=1\/d.length=2
  ·rw [if_pos q,decide_eq_true q];rfl
  rw [if_neg q,decide_eq_false q];rfl
 | cons e r =>
 have he:isDigit e=false:=dK_ s hrr;by_cases hs2:sep e=true
 ·have hn2:nsep e=false:=by unfold nsep;rw [hs2];rfl
  rw [takeWhile_cons,dropWhile_cons,hn2];simp only [false_eq_true,if_false,append_nil];rw [hall,Bool.and_true,small];by_cases q:d.length=1\/d.length=2
  ·rw [if_pos q,decide_eq_true q]
   show (sep e && K r)=_;rw [hs2];rfl
  rw [if_neg q,decide_eq_false q];rfl
 have hn2:nsep e=true:=by unfold nsep;simpa using hs2
 have ha:(d++(e::r).takeWhile nsep).all isDigit=false:=by
  rw [takeWhile_cons,hn2,List.all_append];simp [he]
 rw [ha];simp only [Bool.and_false,Bool.false_and];by_cases q:d.length=1\/d.length=2
 ·rw [if_pos q]
  show (sep e && K r)=false;simp [hs2]
 rw [if_neg q];rfl
theorem jk_ (K:List Nat->Bool) (s:List Nat):goes K (powerText s)=(bl_ (s.takeWhile nsep) && after K (s.dropWhile nsep)):=by
 match s with
 | []=>exact c3_ K []
 | c::r =>
  by_cases h:c=45
  ·subst h
   have e:=c3_ K r;have e1:(45::r).takeWhile nsep=45::r.takeWhile nsep:=rfl;have e2:(45::r).dropWhile nsep=r.dropWhile nsep:=rfl;rw [e1,e2];exact e
  have e:=c3_ K (c::r);have e3:powerText (c::r)=if ((c::r).takeWhile isDigit).length=1\/((c::r).takeWhile isDigit).length=2 then some ((c::r).dropWhile isDigit) else none:=by
   unfold powerText;dsimp only;split
   ·rename_i q;cases q;exact absurd rfl h
   rfl
  rw [e3,e];have e4:bl_ ((c::r).takeWhile nsep)=(!((c::r).takeWhile nsep).isEmpty && (decide (((c::r).takeWhile nsep).length<=2) && ((c::r).takeWhile nsep).all isDigit)):=by
   unfold bl_;have hh : ¬ ((c::r).takeWhile nsep).head? = some 45:=by
    rw [takeWhile_cons];split
    ·simpa using h
    simp
   simp only [if_neg hh]
  rw [e4]
theorem cA_ {c:Nat} (h:isSmall c=true):inWord c=true:=by unfold inWord;rw [h];rfl
theorem ex_ {l:List Nat}{e:Nat} (h:e∈l) (he:inWord e=false):az_ l=false:=by
 unfold az_;have:l.all inWord=false:=List.all_eq_false.mpr ⟨e,h,by rw [he];simp⟩;rw [this];simp
theorem cB_ {c:Nat}{r:List Nat} (h:isSmall c=false):az_ (c::r)=false:=by
 unfold az_;rw [headD_cons,h];simp
theorem h5_ (K:List Nat->Bool) (t:List Nat):goes K (factorText t)=(av_ (t.takeWhile nsep) && after K (t.dropWhile nsep)):=by
 match t with
 | []=>rfl
 | c::r =>
  unfold factorText;dsimp only;by_cases h49:c=49
  ·subst h49
   simp only [if_true];have e1:(49::r).takeWhile nsep=49::r.takeWhile nsep:=rfl;have e2:(49::r).dropWhile nsep=r.dropWhile nsep:=rfl;rw [e1,e2];cases r with
   | nil=>rfl
   | cons d r2 =>
   by_cases hs:sep d=true
   ·have hn:nsep d=false:=by unfold nsep;rw [hs];rfl
    rw [takeWhile_cons,dropWhile_cons,hn];show (sep d && K r2)=(av_ [49] && K r2);rw [hs];rfl
   have hn:nsep d=true:=by unfold nsep;simpa using hs
   have hf:av_ (49::(d::r2).takeWhile nsep)=false:=by
    unfold av_;rw [takeWhile_cons,hn];simp only [if_true];have h1:((49::d::r2.takeWhile nsep) == [49])=false:=by simp
    rw [h1,Bool.false_or];split
    ·have:(49::d::r2.takeWhile nsep).takeWhile (· != 94)=49::(d::r2.takeWhile nsep).takeWhile (· != 94):=rfl
     rw [this,cB_ (by decide)];rfl
    exact cB_ (by decide)
   rw [hf];show (sep d && K r2)=_;simp [hs]
  rw [if_neg h49];cases hsm:isSmall c with
  | false =>
   simp only [if_true];show false=_;by_cases hs:sep c=true
   ·have hn:nsep c=false:=by unfold nsep;rw [hs];rfl
    rw [takeWhile_cons,hn];rfl
   have hn:nsep c=true:=by unfold nsep;simpa using hs
   have hf:av_ ((c::r).takeWhile nsep)=false:=by
    rw [takeWhile_cons,hn];simp only [if_true];unfold av_;have h1:((c::r.takeWhile nsep) == [49])=false:=by simp [h49]
    rw [h1,Bool.false_or];split
    ·rw [takeWhile_cons]
     split
     ·rw [cB_ hsm];rfl
     rfl
    exact cB_ hsm
   rw [hf];rfl
  | true =>
  simp only [Bool.true_eq_false,if_false];have hs:c::r=(c::r).takeWhile inWord++(c::r).dropWhile inWord:=takeWhile_append_dropWhile.symm;have hw:(c::r).takeWhile inWord=c::r.takeWhile inWord:=by rw [takeWhile_cons,cA_ hsm];rfl
  have hd:=dN_ (p:=inWord) (c::r);have hrest:=fun {e s}=>dK_ (p:=inWord) (c::r) (e:=e) (s:=s);generalize hww:(c::r).takeWhile inWord=ww at hs hd hw;generalize (c::r).dropWhile inWord=rest at hs hrest;have hn : ∀ x∈ww,nsep x=true:=fun x hx=>eK_ (hd x hx);have e1:(c::r).takeWhile nsep=ww++rest.takeWhile nsep:=by rw [hs,takeWhile_append_of_pos hn]
  have e2:(c::r).dropWhile nsep=rest.dropWhile nsep:=by rw [hs,List.dropWhile_append_of_pos hn]
  have hall:ww.all inWord=true:=all_eq_true.mpr hd;have h94 : ∀ x∈ww,(x != 94)=true:=fun x hx=>by simpa using hh_ (hd x hx)
  have hshort:az_ ww=decide (ww.length<=12):=by
   unfold az_;rw [hall,hw,headD_cons,hsm];simp
  have hno:ww.contains 94=false:=by
   cases q:ww.contains 94 with
   | false=>rfl
   | true=>exact absurd rfl (hh_ (hd 94 (contains_iff_mem.mp q)))
  have h1 : ∀ x,((ww++x) == [49])=false:=fun x=>by
   rw [hw];simp [h49]
  have hfw:av_ ww=decide (ww.length<=12):=by
   unfold av_;have:=h1 [];rw [append_nil] at this;rw [this,Bool.false_or,hno];simp [hshort]
  rw [e1,e2];cases rest with
  | nil =>
   rw [List.takeWhile_nil,List.dropWhile_nil,append_nil,hfw];by_cases q:12<ww.length
   ·rw [if_pos (show MOSTSIGNS<ww.length from q),decide_eq_false (by omega)];rfl
   rw [if_neg (show ¬ MOSTSIGNS<ww.length from q),decide_eq_true (by omega)];rfl
  | cons e s =>
  have he:inWord e=false:=hrest rfl;by_cases hs2:sep e=true
  ·have hn2:nsep e=false:=by unfold nsep;rw [hs2];rfl
   have ne94:e≠94:=by intro z;subst z;revert hs2;decide
   rw [takeWhile_cons,dropWhile_cons,hn2];simp only [false_eq_true,if_false,append_nil];rw [hfw];by_cases q:12<ww.length
   ·rw [if_pos (show MOSTSIGNS<ww.length from q),decide_eq_false (by omega)];rfl
   rw [if_neg (show ¬ MOSTSIGNS<ww.length from q),decide_eq_true (by omega)];split
   ·rename_i z;cases z;exact absurd rfl ne94
   show (sep e && K s)=_;rw [hs2];rfl
  have hn2:nsep e=true:=by unfold nsep;simpa using hs2
  rw [takeWhile_cons,dropWhile_cons,hn2];simp only [if_true];by_cases h94e:e=94
  ·subst h94e
   have hf:av_ (ww++94::s.takeWhile nsep)=(decide (ww.length<=12) && bl_ (s.takeWhile nsep)):=by
    unfold av_;rw [h1,Bool.false_or,if_pos (by simp),takeWhile_append_of_pos h94,List.dropWhile_append_of_pos h94];simp [hshort]
   rw [hf];by_cases q:12<ww.length
   ·rw [if_pos (show MOSTSIGNS<ww.length from q),decide_eq_false (by omega)];rfl
   rw [if_neg (show ¬ MOSTSIGNS<ww.length from q),decide_eq_true (by omega)];simp only [Bool.true_and];exact jk_ K s
  have hf:av_ (ww++e::s.takeWhile nsep)=false:=by
   unfold av_;rw [h1,Bool.false_or];split
   ·have hne:(e != 94)=true:=by simpa using h94e
    rw [takeWhile_append_of_pos h94,takeWhile_cons,hne];rw [ex_ (e:=e) (by simp) he];rfl
   exact ex_ (e:=e) (by simp) he
  rw [hf];by_cases q:12<ww.length
  ·rw [if_pos (show MOSTSIGNS<ww.length from q)];rfl
  rw [if_neg (show ¬ MOSTSIGNS<ww.length from q)];split
  ·rename_i z;cases z;exact absurd rfl h94e
  show (sep e && K s)=_;simp [hs2]
theorem b5_ : ∀ (n:Nat) (t:List Nat),t.length<n->measureText n t=(cut sep [] t).all av_
 | 0,t,h=>by omega
 | n+1,t,h=>by
  have e:measureText (n+1) t=goes (measureText n) (factorText t):=by
   show (match factorText t with | none=>false | some []=>true | some (c::r)=>(c == 46 || c == 47) && measureText n r)=_
   cases factorText t with
   | none=>rfl
   | some l=>cases l <;> rfl
  rw [e,h5_,lp_,nil_append,all_cons];have hl:t.length=(t.takeWhile nsep).length+(t.dropWhile nsep).length:=by rw [<- length_append,takeWhile_append_dropWhile]
  cases q:t.dropWhile nsep with
  | nil=>rfl
  | cons c r =>
  rw [q,length_cons] at hl;show (_ && measureText n r)=_;rw [b5_ n r (by omega)]
theorem ia_ (p:Nat->Bool) : ∀ (l zx:List Nat),∀ f∈cut p zx l,f.length<=zx.length+l.length
 | [],zx,f,h=>by
  rw [mem_singleton.mp h];omega
 | c::r,zx,f,h=>by
  have h':f∈(if p c=true then zx::cut p [] r else cut p (zx++[c]) r):=h;rw [length_cons];split at h'
  ·rcases mem_cons.mp h' with e | e
   ·rw [e];omega
   have:=ia_ p r [] f e;rw [length_nil] at this;omega
  have:=ia_ p r _ f h';rw [length_append,length_singleton] at this;omega
theorem lK_ {p:List Nat->Bool}{l:List (List Nat)}{i:Nat}{x:List Nat} (h:l[i]? = some x):(l.take (i+1)).all p=((l.take i).all p && p x):=by
 rw [take_succ,h,List.all_append];simp
theorem qd_ {p:List Nat->Bool}{l:List (List Nat)}{i:Nat}{x:List Nat} (h:l[i]? = some x) (hx:p x=false):l.all p=false:=List.all_eq_false.mpr ⟨x,mem_of_getElem? h,by rw [hx];simp⟩
theorem qv_ (l:List Nat):NumText.digitsVal l=digitsValue l:=by
 unfold NumText.digitsVal digitsValue;have e:(fun (zx c:Nat)=>zx * 10+(c - 48))=fun n c=>10 * n+(c - 48):=by
  funext x y
  rw [mul_comm]
 rw [e]
theorem fA_ {l:List Nat} (h : ∀ c∈l,isDigit c=true):NumText.AllDigits l:=fun c hc=>by
 have:=h c hc;unfold isDigit at this;simpa using this
theorem lh_ : ∀ (l:List Nat) (n:Nat),(∀ c∈l,isDigit c=true)->l.foldl (fun n c=>10 * n+(c - 48)) n<(n+1) * 10 ^ l.length
 | [],n,_=>by simp
 | c::r,n,h=>by
  have hc:=fA_ h c (mem_cons_self ..);have ih:=lh_ r (10 * n+(c - 48)) fun x hx=>h x (mem_cons_of_mem _ hx);rw [foldl_cons,length_cons,Nat.pow_succ];refine Nat.lt_of_lt_of_le ih ?_;rw [mul_comm (10 ^ r.length) 10,<- Nat.mul_assoc];exact Nat.mul_le_mul_right _ (by omega)
theorem qu_ {l:List Nat} (h : ∀ c∈l,isDigit c=true):digitsValue l<10 ^ l.length:=by
 have:=lh_ l 0 h;rw [zero_add,Nat.one_mul] at this;exact this
theorem ff_ {a b:Nat} (h:a<=b):10 ^ a<=10 ^ b:=Nat.pow_le_pow_right (by decide) h
theorem p5_ {l:List Nat}{k:Nat} (h : ∀ c∈l,isDigit c=true) (hk:l.length<=k):digitsValue l<10 ^ k:=Nat.lt_of_lt_of_le (qu_ h) (ff_ hk)
theorem hf_ {l:List Nat} (h : ∀ c∈l,isDigit c=true) (h1:l≠[]) (h2:l.length<=4300):intText? (S l)=some ((digitsValue l:Nat):Int):=by
 have e:=PySem.intText_digits (x:=S l) (fA_ h) h1 (by rw [a7_];exact h2);rw [show (S l).cps.toList=l from rfl,qv_] at e;exact e
theorem mH_ (n:Nat) : ∀ k,(List.replicate n 48).foldl (fun n c=>10 * n+(c - 48)) k=k * 10 ^ n:=by
 induction n with
 | zero=>intro k;simp
 | succ n ih =>
 intro k;rw [replicate_succ,foldl_cons,ih,Nat.pow_succ];show (10 * k+0) * 10 ^ n=k * (10 ^ n * 10);rw [add_zero,mul_comm 10 k,Nat.mul_assoc,mul_comm 10]
theorem p4_ (n:Nat):digitsValue (49::List.replicate n 48)=10 ^ n:=by
 unfold digitsValue;rw [foldl_cons,mH_];show (10 * 0+1) * 10 ^ n=_;simp
theorem fu_ (x:Array Nat) : ∀ (n:Nat) (zx:Array Nat),(List.replicate n x).foldl (· ++ ·) zx=zx++((List.replicate n x.toList).flatten).toArray
 | 0,zx=>by simp
 | n+1,zx=>by
  rw [replicate_succ,foldl_cons,fu_ x n,replicate_succ,List.flatten_cons];apply Array.ext';simp
theorem hn_ (n c:Nat):(List.replicate n [c]).flatten=List.replicate n c:=by
 induction n with
 | zero=>rfl
 | succ n ih=>rw [replicate_succ,List.flatten_cons,ih];rfl
theorem kO_ (n:Nat):Txt.mul (ofString "0") (n:Int)=S (List.replicate n 48):=by
 unfold Txt.mul;by_cases h:(n:Int)<1
 ·have:n=0:=by omega
  subst this;rw [if_pos h];rfl
 rw [if_neg h];have e0:((ofString "0").length == 0)=false:=by left
 rw [e0,Bool.or_false];by_cases h1:((n:Int) == 1)=true
 ·have:n=1:=by have:=eq_of_beq h1;omega
  subst this;rw [if_pos h1]
  left
 rw [if_neg h1];refine cv_ ?_;rw [Int.toNat_natCast];show (List.foldl (fun x1 x2=>x1++x2) #[] (List.replicate n (ofString "0").cps)).toList=List.replicate n 48;rw [fu_];rw [show (ofString "0").cps.toList=[48] by left,hn_];simp
noncomputable def frac (a:List Nat) (c:Nat) (b:List Nat):Option (Nat×Nat) :=
 let top:=if c=46 then digitsValue (a++b) else digitsValue a
 let low:=if c=47 then digitsValue b else if c=46 then 10 ^ b.length else 1
 let g:=Nat.gcd top low
 let good:=decide (a.length<=MOSTSIGNS) && (decide (b.length<=MOSTSIGNS) && (low != 0 && (fits (top / g) && fits (low / g))))
 if good=true then some (top / g,low / g) else none
def iX_ (o u:Nat):Option (Nat×Nat):=if u=0 then none else if 10 ^ 12<=o / Nat.gcd o u\/10 ^ 12<=u / Nat.gcd o u then none else some (o / Nat.gcd o u,u / Nat.gcd o u)
theorem c1_ {a b:List Nat}{c:Nat} (ha:a.length<=12) (hb:b.length<=12) :
  frac a c b=iX_ (if c=46 then digitsValue (a++b) else digitsValue a) (if c=47 then digitsValue b else if c=46 then 10 ^ b.length else 1):=by
 unfold frac iX_;dsimp only;generalize (if c=46 then digitsValue (a++b) else digitsValue a)=o;generalize (if c=47 then digitsValue b else if c=46 then 10 ^ b.length else 1)=u;rw [decide_eq_true (show a.length<=MOSTSIGNS from ha),decide_eq_true (show b.length<=MOSTSIGNS from hb)];unfold fits;by_cases h0:u=0
 ·subst h0
  simp
 rw [if_neg h0];by_cases h1:10 ^ 12<=o / o.gcd u\/10 ^ 12<=u / o.gcd u
 ·rw [if_pos h1,if_neg]
  simp only [Bool.true_and,and_eq_true,bne_iff_ne,decide_eq_true_eq];omega
 rw [if_neg h1,if_pos];simp only [Bool.true_and,and_eq_true,bne_iff_ne,decide_eq_true_eq];omega
theorem eN_ {a b:List Nat}{c:Nat} (h:12<a.length\/12<b.length):frac a c b=none:=by
 unfold frac;dsimp only;rw [if_neg];simp only [and_eq_true,decide_eq_true_eq];have:MOSTSIGNS=12:=rfl;omega
noncomputable def afs (o u:Int) (m:Str):List (Str×V):=[("over",.int o),("under",.int u),("measure",.str m)]
def aP_ (C:Addr) (H:Hp) (a:Addr) (o u:Int) (m:List Nat):Prop:=∃ dx,H a=some (.ins C dx (afs o u (S m)))
theorem aP_.same {C:Addr}{H H':Hp}{a:Addr}{o u:Int}{m:List Nat} (h:aP_ C H a o u m) (s:Same H H'):aP_ C H' a o u m:=let ⟨dx,e⟩:=h;⟨dx,s _ _ e⟩
def bZ_ (C:Addr) (names:List Str):Sp:=fun vs H Q _=>∃ (p dx:Addr) (args:List V),vs = .ref p::args/\args.length=names.length/\H p=some (.ins C dx [])/\Q .non (upd H p (.ins C dx (names.zip args)))
theorem aU_ {H:Hp}{x dx:Addr}{o1 o2:HO} (h1:H x=none) (h2:H dx=none):Same H (upd (upd H dx o1) x o2):=fun b o e=>by rw [ag_ (ai_ e h1),ag_ (ai_ e h2)];exact e
def eZ_ (C:Addr) (H:Hp) (Q:VK) (r:Option (Nat×Nat)):Prop:=match r with
 | none=>∀ H',Same H H'->Q .non H'
 | some (x,y)=>∀ (p:Addr) (H':Hp),Same H H'->aP_ C H' p (x:Int) (y:Int) []->Q (.ref p) H'
theorem eZ_.mono {C:Addr}{H H1:Hp}{Q:VK}{r:Option (Nat×Nat)} (h:eZ_ C H Q r) (s:Same H H1):eZ_ C H1 Q r:=by
 cases r with
 | none=>exact fun H' s'=>h H' (s.trans s')
 | some p=>exact fun a H' s' q=>h a H' (s.trans s') q
end M
namespace L2
open PySem PySem.Spec PyProof.Rows TL
theorem pe_r {X:Cx}{x:Str}{a:Addr}{pos:Pos} (h:X.mg x=some (.ref a)) (hg:Gl X x:=by rfl) (hd:(x == ("__debug__":Str))=false:=by decide):PE X (.Name x pos) (tC (.ref a)):=kD_ hg h rfl hd
theorem few0 {n:Nat} (h:n<1000:=by decide):n<1000:=h
theorem few {f:Str}{v:V}{fs:List (Str×V)}{n:Nat} (h:fs.length<=n):(putF f v fs).length<=n+1:=Nat.le_trans (ch_ f v fs) (Nat.add_le_add_right h 1)
theorem few1 {f1:Str}{v1:V}:(putF f1 v1 []).length<1000:=Nat.lt_of_le_of_lt (few (n:=0) (Nat.le_refl _)) (by decide)
theorem few2 {f1 f2:Str}{v1 v2:V}:(putF f2 v2 (putF f1 v1 [])).length<1000:=Nat.lt_of_le_of_lt (few (few (n:=0) (Nat.le_refl _))) (by decide)
theorem few3 {f1 f2 f3:Str}{v1 v2 v3:V}:(putF f3 v3 (putF f2 v2 (putF f1 v1 []))).length<1000:=Nat.lt_of_le_of_lt (few (few (few (n:=0) (Nat.le_refl _)))) (by decide)
theorem few4 {f1 f2 f3 f4:Str}{v1 v2 v3 v4:V}:(putF f4 v4 (putF f3 v3 (putF f2 v2 (putF f1 v1 [])))).length<1000:=Nat.lt_of_le_of_lt (few (few (few (few (n:=0) (Nat.le_refl _))))) (by decide)
theorem oE_ (x:Int) (l:List Int):inV (.int x) (l.map V.int)=l.contains x:=by
 unfold inV
 induction l with
 | nil=>rfl
 | cons a r ih =>
 rw [map_cons,List.any_cons,ih,List.contains_cons];congr 1;show (a == x)=(x == a);exact Bool.beq_comm
theorem oD_ (x:Str) (l:List Str):inV (.str x) (l.map V.str)=l.any (· == x):=by
 unfold inV;rw [List.any_map];rfl
theorem eO_ (l:List Str):(l.map V.str).all gf_=true:=by
 rw [all_map];exact all_eq_true.mpr fun _ _=>rfl
end L2
namespace M
open PySem PySem.Spec PyProof.Rows L2 TL
open Vaunid (isSmall isDigit inWord)
theorem bf_ (p:Nat->Bool) : ∀ l:List Nat,l.dropWhile p=l.drop (l.takeWhile p).length
 | []=>rfl
 | c::r=>by
  rw [dropWhile_cons,takeWhile_cons];split
  ·rw [bf_ p r,length_cons,drop_succ_cons]
  rfl
theorem cI_ (p:Nat->Bool) (l:List Nat):(l.takeWhile p).length<=l.length:=List.Sublist.length_le (List.takeWhile_sublist p)
theorem dL_ {t:List Nat}{i c:Nat} (h:t[i]? = some c):t.drop i=c::t.drop (i+1):=by
 obtain ⟨h1,h2⟩:=List.getElem?_eq_some_iff.mp h;rw [drop_eq_getElem_cons h1,h2]
theorem dh_ (s:List Nat):(numberText s).1=(match s.drop (s.takeWhile isDigit).length with
  | c::d::r=>if (c=47\/c=46)/\isDigit d=true then (s.takeWhile isDigit).length+(1+((d::r).takeWhile isDigit).length) else (s.takeWhile isDigit).length
  | _=>(s.takeWhile isDigit).length):=by
 unfold numberText;dsimp only;rw [bf_];generalize (s.takeWhile isDigit).length=n;generalize s.drop n=l
 match l with
 | []=>rfl
 | [c]=>rfl
 | c::d::r =>
  unfold secondRow;dsimp only;by_cases h:(c=47\/c=46)/\isDigit d=true
  ·simp only [if_pos h]
   rw [if_neg (by omega)]
  simp only [if_neg h,if_true,add_zero]
theorem kM_ {t:List Nat}{p:Nat} (h : ¬ p+((t.drop p).takeWhile isDigit).length+1<t.length):(numberText (t.drop p)).1=((t.drop p).takeWhile isDigit).length:=by
 rw [dh_,drop_drop];have hl:(t.drop (p+((t.drop p).takeWhile isDigit).length)).length<=1:=by rw [length_drop];omega
 generalize t.drop (p+((t.drop p).takeWhile isDigit).length)=l at hl
 match l,hl with
 | [],_=>rfl
 | [c],_=>rfl
 | _::_::_,hl=>simp at hl
theorem mh_ {t:List Nat}{p c d:Nat} (h1:t[p+((t.drop p).takeWhile isDigit).length]? = some c) (h2:t[p+((t.drop p).takeWhile isDigit).length+1]? = some d) :
  (numberText (t.drop p)).1=if (c=47\/c=46)/\isDigit d=true then ((t.drop p).takeWhile isDigit).length+(1+((t.drop (p+((t.drop p).takeWhile isDigit).length+1)).takeWhile isDigit).length) else ((t.drop p).takeWhile isDigit).length:=by
 rw [dh_,drop_drop,dL_ h1,dL_ h2]
theorem oF_ (c:Nat):inV (.int (c:Int)) [V.int 46,V.int 47]=decide (c=46\/c=47):=by
 have e:=oE_ (c:Int) [46,47];rw [show [V.int 46,V.int 47]=[46,47].map V.int from rfl,e];rw [Bool.eq_iff_iff];simp;omega
theorem kk_ {a b:List Nat} (h : ∀ x∈a,isDigit x=true) (h2 : ∀ x∈b,isDigit x=true):Txt.split (S (a++47::b)) (ofString "/")=[S a,S b]:=by
 refine b6_ ?_;rw [eq_];have na:47∉a:=fun m=>by have:=h _ m;revert this;decide
 have nb:47∉b:=fun m=>by have:=h2 _ m;revert this;decide
 have e:=gD_ (s:=47) (S:=[]) (rest:=b) (zx:=[]) na;rw [et_ nb] at e;exact e
theorem oQ_ {a b:List Nat} (h : ∀ x∈a,isDigit x=true) (h2 : ∀ x∈b,isDigit x=true):Txt.split (S (a++46::b)) (ofString ".")=[S a,S b]:=by
 refine b6_ ?_;rw [er_];have na:46∉a:=fun m=>by have:=h _ m;revert this;decide
 have nb:46∉b:=fun m=>by have:=h2 _ m;revert this;decide
 have e:=gD_ (s:=46) (S:=[]) (rest:=b) (zx:=[]) na;rw [et_ nb] at e;exact e
theorem mI_ {a:List Nat} (h : ∀ x∈a,isDigit x=true):Txt.split (S a) (ofString ".")=[S a]:=by
 refine b6_ ?_;rw [er_];have na:46∉a:=fun m=>by have:=h _ m;revert this;decide
 rw [et_ na];rfl
theorem f7_ {K:Frag}{x0 x1 x3:Option V}{H:Hp}{p:Addr}{ys:List Str}{R:VK} (hp:H p=some (.lst (ys.map V.str))) (hy : ∀ y∈ys,y.length<=sizeLine) (hl:ys.length<=sizeLine)
  (k : ∀ (D:Addr) (H':Hp),Same H H'->H' D=some (.lst ((ys.map fun y=>(y.length:Int)).map V.int))->R (.ref D) H') :
  tLc (mx_ K (tVar 2)) (do_ 3) tYes (tCB (fun xs H Q=>∃ z,xs=[V.str z]/\z.length<=sizeLine/\Q (V.int ↑z.length) H) (a1_ (tVar 3) tNil)) [3] [x0,x1,some (.ref p),x3] H R:=by
 refine iq_ (Itl K p) (ys.map V.str) (fun v=>match v with | .str z=>V.int z.length | _ => .non) (H1:=H) (fun R h=>?_) (by rw [length_map];exact hl) (gd_ (SqL.of hp)) (fun x H' D zx Nx hx sm hD hacc nx=>?_) fun D H' hD sm e=>?_
 ·exact ⟨p,rfl,⟨_,SqL.of hp⟩,h⟩
 ·obtain ⟨d,hd,rfl⟩:=mem_map.mp hx
  refine ⟨rfl,?_⟩;unfold tYes;simp only [if_true];exact ⟨d,rfl,hy d hd,zx,hD,hacc,nx H' (Same.refl _)⟩
 refine k D H' sm ?_;rw [e,map_map,map_map];rfl
theorem kj_:ofString "/"=(⟨#[47]⟩:Str):=by left
theorem hy_ (a b:List Nat):S a++S b=S (a++b):=cv_ (by rw [cn_];rfl)
theorem pC_ (n:Nat) (h:n<=12):MulOk (ofString "0") (n:Int):=by
 have key : ∀ m:Fin 13,MulOk (ofString "0") (m.1:Int):=by
  unfold MulOk
  left
 exact key ⟨n,by omega⟩
theorem oh_:ofString "1"=S [49]:=by left
theorem og_ (n:Nat) (h:n<=12):intText? (ofString "1"++Txt.mul (ofString "0") (n:Int))=some ((10 ^ n:Nat):Int)/\(ofString "1"++Txt.mul (ofString "0") (n:Int)).length<=640/\(ofString "1").length+(Txt.mul (ofString "0") (n:Int)).length<=sizeLine:=by
 rw [kO_,oh_,hy_,a7_,a7_,a7_];have e:=hf_ (l:=[49]++List.replicate n 48) (fun c hc=>by
  rcases mem_append.mp hc with q | q
  ·rw [mem_singleton.mp q];decide
  rw [(List.mem_replicate.mp q).2];decide) (by simp) (by simp;omega)
 refine ⟨?_,by simp;omega,?_⟩
 ·rw [e]
  congr 2;exact p4_ n
 rw [List.length_replicate];exact Nat.le_trans (show 1+n<=13 by omega) (by decide)
theorem mL_ (l:List Nat) (k:Nat):cutS (S l) (some (k:Int)) none=S (l.drop k):=by
 refine cv_ ?_;unfold cutS;rw [o6_,tl_S,HT.sIx_nat,HT.sIx_none,e3_,a7_];by_cases h:k<=l.length
 ·rw [min_eq_left h]
  exact take_of_length_le (by rw [length_drop];omega)
 rw [Nat.min_eq_right (by omega),drop_eq_nil_of_le (Nat.le_refl _),drop_eq_nil_of_le (by omega)];simp
theorem p7_ (l:List Nat) (k:Nat):cutS (S l) none (some (k:Int))=S (l.take k):=by
 refine cv_ ?_;unfold cutS;rw [o6_,tl_S,HT.sIx_nat,HT.sIx_none,e3_,a7_,drop_zero,sub_zero];rw [Nat.min_def];split
 ·rfl
 rw [take_length,take_of_length_le (by omega)]
theorem ds_ (t:List Nat) (i j:Nat) (hi:i<=t.length):cutV (bs t) (some (i:Int)) (some (j:Int))=bs ((t.drop i).take (j - i)):=by
 unfold cutV;rw [HT.sIx_nat,HT.sIx_nat,ck_,min_eq_left hi,oT_,oS_];by_cases h:j<=t.length
 ·rw [min_eq_left h]
 rw [Nat.min_eq_right (by omega),take_of_length_le (by rw [length_drop];exact Nat.le_refl _),take_of_length_le (l:=t.drop i) (by rw [length_drop];omega)]
theorem gB_ (l:List Nat):Txt.startswith (S l) (ofString "-")=decide (l.head? = some 45):=by
 match l with
 | []=>left
 | c::r =>
  unfold Txt.startswith
  have e1:(ofString "-").length=1:=by left
  rw [a7_,e1,length_cons,decide_eq_true (by omega),Bool.true_and];have e2:Builtin.Str.subAt (S (c::r)) (ofString "-") 0=decide (c=45):=by
   rw [StrLaws.subAt_eq,e1,e3_,show (ofString "-").cps.toList=[45] by left];show ([c] == [45])=_;rw [Bool.eq_iff_iff];simp
  rw [e2];simp
theorem lv_ {b:Nat->Bool}{x0 x2:Option V}{H:Hp}{l:List Nat}{R:VK} (hl:l.length<=sizeLine) (k : ∀ (D:Addr) (H':Hp),Same H H'->H' D=some (.lst ((l.map b).map V.bl))->R (.ref D) H') :
  tLc (iStr (tVar 1)) (do_ 2) tYes (cS_ (spB b) [] E0 (a1_ (tCB (fun xs H Q=>∃ x,xs=[V.str x]/\x.length=1/\Q (V.int ↑(x.cps.getD 0 0)) H) (a1_ (tVar 2) tNil)) tNil)) [2] [x0,some (.str (S l)),x2] H R:=by
 refine iq_ (Its (S l)) (l.map fun d=>V.str ⟨#[d]⟩) (fun v=>match v with | .str x=>V.bl (b (x.cps.getD 0 0)) | _ => .non) (H1:=H) (fun R h=>?_) (by rw [length_map];exact hl) (ns_ (x:=S l)) (fun x H' D zx Nx hx sm hD hacc nx=>?_) fun D H' hD sm e=>?_
 ·exact ⟨_,rfl,h⟩
 ·obtain ⟨d,hd,rfl⟩:=mem_map.mp hx
  refine ⟨rfl,?_⟩;unfold tYes;simp only [if_true];exact ⟨_,rfl,rfl,d,rfl,zx,hD,hacc,nx H' (Same.refl _)⟩
 refine k D H' sm ?_;rw [e,map_map,map_map];rfl
theorem oH_:ofString "^"=(⟨#[94]⟩:Str):=by left
theorem ma_ {l:List Nat} (h:94∈l):Txt.partition (S l) (ofString "^")=(S (l.takeWhile (· != 94)),ofString "^",S ((l.dropWhile (· != 94)).drop 1)):=by
 have hl:l=l.takeWhile (· != 94)++l.dropWhile (· != 94):=takeWhile_append_dropWhile.symm;have hn:94∉l.takeWhile (· != 94):=fun m=>by have:=dN_ _ _ m;simp at this
 cases q:l.dropWhile (· != 94) with
 | nil =>
  rw [q,append_nil] at hl;rw [hl] at h;exact absurd h hn
 | cons e s =>
 have he:e=94:=by have:=dK_ _ q;simpa using this
 subst he;rw [q] at hl;have e:=fW_ (y:=ofString "^") (s:=94) (S:=[]) (by left) (a:=S (l.takeWhile (· != 94))) (b:=S s) hn;have e2:S (l.takeWhile (· != 94))++ofString "^"++S s=S l:=by
  rw [show ofString "^"=S [94] by left,hy_,hy_,append_assoc];exact congrArg S hl.symm
 rw [e2] at e;rw [e];rfl
end M
namespace L2
open PySem PySem.Spec PyProof.Rows TL
def lE_ (g:TG) (tb:TS) (D:Ends) (σ:St) (J:It) (H1:Hp):Prop:=∃ W:Nat->Nat->St->Hp->Prop,(∃ m,W 0 m σ H1)/\∀ i m σ H,W i m σ H ->
 (J.stop i H/\D.nx σ H)\/(J.go i H/\∃ N:St->Hp->Prop,(∀ σ' H',N σ' H'->∃ m',m'<m/\W (i+1) m' σ' H')/\∀ x H',J.yld i H x H'->g x σ H' fun σ2 H2=>tb { D with nx:=N,ct:=N,bk:=D.nx } σ2 H2)
theorem bG_ {wi:TI}{g:TG}{tb:TS}{D:Ends}{σ:St}{H:Hp} (h:wi σ H (lE_ g tb D σ)):tFor wi g tb D σ H:=h
theorem jF_ {K:Frag}{a:Addr}{g:TG}{tb:TS}{D:Ends}{σ:St}{H1:Hp} (xs:List V) (Pv:Nat->St->Hp->Prop) (h0:Pv 0 σ H1) (hl : ∀ i σ H,i<=xs.length->Pv i σ H->SqL K H a xs)
  (hs : ∀ i x σ H,xs[i]? = some x->Pv i σ H->g x σ H fun σ2 H2=>tb { D with nx:=Pv (i+1),ct:=Pv (i+1),bk:=D.nx } σ2 H2) (hd : ∀ σ H,Pv xs.length σ H->D.nx σ H):lE_ g tb D σ (Itl K a) H1 :=
 mE_ Pv h0 hl hs hd
end L2
namespace M
open PySem PySem.Spec PyProof.Rows L2 TL
open Vaunid (isSmall isDigit inWord inComment)
def sgn (c:Nat):Nat:=if (32<=c/\c<=126)/\c≠37 then c else 63
theorem m9_ (c:Nat):sgn c=c\/(sgn c=63/\¬ ((32<=c/\c<=126)/\c≠37)):=by
 unfold sgn;by_cases h:(32<=c/\c<=126)/\c≠37
 ·rw [if_pos h];exact .inl rfl
 rw [if_neg h];exact .inr ⟨rfl,h⟩
theorem d9_ {q:Nat->Bool} (h63:q 63=false) (hq : ∀ c,q c=true->(32<=c/\c<=126)/\c≠37) (c:Nat):q (sgn c)=q c:=by
 rcases m9_ c with e | ⟨e,h⟩
 ·rw [e]
 rw [e,h63];cases r:q c with
 | false=>rfl
 | true=>exact absurd (hq c r) h
theorem gG_ {c:Nat} (h:isSmall c=true):97<=c/\c<=122:=by unfold isSmall at h;simpa using h
theorem dr_ {c:Nat} (h:isDigit c=true):48<=c/\c<=57:=by unfold isDigit at h;simpa using h
theorem fD_ {c:Nat} (h:inWord c=true):(97<=c/\c<=122)\/(48<=c/\c<=57)\/c=95:=by
 unfold inWord at h;rcases or_eq_true_iff.mp h with q | q
 ·exact .inl (gG_ q)
 rcases or_eq_true_iff.mp q with q | q
 ·exact .inr (.inl (dr_ q))
 exact .inr (.inr (eq_of_beq q))
theorem ko_ (c:Nat):isSmall (sgn c)=isSmall c:=d9_ (by decide) (fun c h=>by have:=gG_ h;omega) c
theorem gM_ (c:Nat):isDigit (sgn c)=isDigit c:=d9_ (by decide) (fun c h=>by have:=dr_ h;omega) c
theorem lU_ (c:Nat):inWord (sgn c)=inWord c:=d9_ (by decide) (fun c h=>by have:=fD_ h;omega) c
theorem dz_ (d:Nat) (h:(32<=d/\d<=126)/\d≠37/\d≠63) (c:Nat):(sgn c == d)=(c == d):=d9_ (q:=fun c=>c == d) (by simp;omega) (fun c e=>by have:=eq_of_beq e;omega) c
theorem nV_ (c:Nat):sep (sgn c)=sep c:=by unfold sep;rw [dz_ 46 (by decide),dz_ 47 (by decide)]
theorem kp_ {c:Nat} (h:(32<=c/\c<=126)/\c≠37):sgn c=c:=if_pos h
theorem dH_ {l:List Nat} (h : ∀ c∈l,(32<=c/\c<=126)/\c≠37):l.map sgn=l:=by
 induction l with
 | nil=>rfl
 | cons c r ih=>rw [map_cons,kp_ (h c (mem_cons_self ..)),ih fun x hx=>h x (mem_cons_of_mem _ hx)]
theorem mo_ {l:List Nat} (h : ∀ c∈l,inWord c=true):l.map sgn=l:=dH_ fun c hc=>by have:=fD_ (h c hc);omega
theorem ii_ {q:Nat->Bool} (h : ∀ c,q (sgn c)=q c) (l:List Nat):(l.map sgn).all q=l.all q:=by
 rw [all_map];congr 1
 funext c
 exact h c
theorem mV_ {q:Nat->Bool} (h : ∀ c,q (sgn c)=q c) : ∀ l:List Nat,(l.map sgn).takeWhile q=(l.takeWhile q).map sgn
 | []=>rfl
 | c::r=>by
  rw [map_cons,takeWhile_cons,takeWhile_cons,h c];split
  ·rw [mV_ h r,map_cons]
  rfl
theorem nw_ {q:Nat->Bool} (h : ∀ c,q (sgn c)=q c) : ∀ l:List Nat,(l.map sgn).dropWhile q=(l.dropWhile q).map sgn
 | []=>rfl
 | c::r=>by
  rw [map_cons,dropWhile_cons,dropWhile_cons,h c];split
  ·exact nw_ h r
  rfl
theorem gK_ (l:List Nat):az_ (l.map sgn)=az_ l:=by
 unfold az_;rw [ii_ lU_,length_map];cases l with
 | nil=>rfl
 | cons c r =>
 rw [map_cons,headD_cons,headD_cons,ko_];rfl
theorem kx_ (l:List Nat):bl_ (l.map sgn)=bl_ l:=by
 unfold bl_;have e:((l.map sgn).head? = some 45)=(l.head? = some 45):=by
  cases l with
  | nil=>rfl
  | cons c r =>
  have:=dz_ 45 (by decide) c;rw [map_cons,List.head?_cons,List.head?_cons];rw [Bool.eq_iff_iff] at this;simpa using this
 simp only [e];split
 ·cases l with
  | nil=>rfl
  | cons c r =>
   rw [map_cons,List.tail_cons,List.tail_cons,ii_ gM_,length_map];cases r <;> rfl
 rw [ii_ gM_,length_map];simp
theorem jI_ (l:List Nat):av_ (l.map sgn)=av_ l:=by
 unfold av_;have n94 : ∀ c,(sgn c != 94)=(c != 94):=fun c=>by unfold bne;rw [dz_ 94 (by decide)]
 have e1:(l.map sgn == [49])=(l == [49]):=by
  match l with
  | []=>rfl
  | [c] =>
   have:=dz_ 49 (by decide) c;show ([sgn c] == [49])=([c] == [49]);rw [Bool.eq_iff_iff] at this ⊢;simpa using this
  | c::d::r=>simp
 have e2:(l.map sgn).contains 94=l.contains 94:=by
  rw [List.contains_eq_any_beq,List.contains_eq_any_beq,List.any_map];congr 1
  funext c
  show (94 == sgn c)=(94 == c);rw [Bool.beq_comm,dz_ 94 (by decide),Bool.beq_comm]
 rw [e1,e2,mV_ n94,nw_ n94,<- List.map_drop,gK_,gK_,kx_]
theorem h8_ : ∀ (l zx:List Nat),cut sep (zx.map sgn) (l.map sgn)=(cut sep zx l).map (List.map sgn)
 | [],zx=>rfl
 | c::r,zx=>by
  show (if sep (sgn c)=true then zx.map sgn::cut sep [] (r.map sgn) else cut sep (zx.map sgn++[sgn c]) (r.map sgn))=(if sep c=true then zx::cut sep [] r else cut sep (zx++[c]) r).map (List.map sgn);rw [nV_];split
  ·rw [map_cons]
   exact congrArg _ (h8_ r [])
  have:=h8_ r (zx++[c]);rw [map_append] at this;exact this
theorem hY_ (l:List Nat):measureText ((l.map sgn).length+1) (l.map sgn)=measureText (l.length+1) l:=by
 rw [b5_ _ _ (by omega),b5_ _ _ (by omega)];have e:=h8_ l [];rw [map_nil] at e;rw [e,all_map];congr 1
 funext f
 exact jI_ f
def mch (c:Nat):Bool:=inWord c || (c == 94 || (c == 45 || (c == 46 || c == 47)))
theorem kV_ {c:Nat} (h:mch c=true):(32<=c/\c<=126)/\c≠37:=by
 unfold mch at h;rcases or_eq_true_iff.mp h with q | q
 ·have:=fD_ q;omega
 simp at q;omega
theorem fB_ {c:Nat} (h:isDigit c=true):inWord c=true:=by unfold inWord;rw [h];simp
theorem fE_ {c:Nat} (h:inWord c=true):mch c=true:=by unfold mch;rw [h];rfl
theorem gL_ {l:List Nat} (h:az_ l=true) : ∀ c∈l,mch c=true:=fun c hc=>by
 unfold az_ at h;simp only [and_eq_true] at h;exact fE_ (all_eq_true.mp h.2.2.2 c hc)
theorem ky_ {l:List Nat} (h:bl_ l=true) : ∀ c∈l,mch c=true:=fun c hc=>by
 unfold bl_ at h;by_cases q:l.head? = some 45
 ·simp only [if_pos q,and_eq_true] at h
  cases l with
  | nil=>cases q
  | cons d r =>
  cases q;rcases mem_cons.mp hc with e | e
  ·subst e;rfl
  exact fE_ (fB_ (all_eq_true.mp h.2.2 c e))
 simp only [if_neg q,and_eq_true] at h;exact fE_ (fB_ (all_eq_true.mp h.2.2 c hc))
theorem fx_ {l:List Nat} (h:av_ l=true) : ∀ c∈l,mch c=true:=fun c hc=>by
 unfold av_ at h;rcases or_eq_true_iff.mp h with q | q
 ·rw [eq_of_beq q] at hc
  rw [mem_singleton.mp hc];rfl
 by_cases r:l.contains 94=true
 ·rw [if_pos r,and_eq_true] at q
  have hl:l=l.takeWhile (· != 94)++l.dropWhile (· != 94):=takeWhile_append_dropWhile.symm;rw [hl] at hc;rcases mem_append.mp hc with e | e
  ·exact gL_ q.1 c e
  cases z:l.dropWhile (· != 94) with
  | nil=>rw [z] at e;simp at e
  | cons d s =>
  have hd:d=94:=by have:=dK_ _ z;simpa using this
  rw [z] at e q;rcases mem_cons.mp e with e | e
  ·rw [e,hd];rfl
  exact ky_ q.2 c e
 rw [if_neg r] at q;exact gL_ q c hc
theorem h9_ : ∀ (l zx:List Nat),(cut sep zx l).all av_=true->∀ c∈zx++l,mch c=true
 | [],zx,h,c,hc=>by
  have h':av_ zx=true:=by
   have:=h;simpa [cut] using this
  rw [append_nil] at hc;exact fx_ h' c hc
 | d::r,zx,h,c,hc=>by
  have h':(if sep d=true then zx::cut sep [] r else cut sep (zx++[d]) r).all av_=true:=h;by_cases q:sep d=true
  ·rw [if_pos q,all_cons,and_eq_true] at h'
   rcases mem_append.mp hc with e | e
   ·exact fx_ h'.1 c e
   rcases mem_cons.mp e with e | e
   ·subst e
    unfold sep at q;unfold mch;rw [q];simp
   exact h9_ r [] h'.2 c (by simpa using e)
  rw [if_neg q] at h';exact h9_ r (zx++[d]) h' c (by simpa using hc)
theorem h0_ {m:List Nat} (h:measureText (m.length+1) m=true):m.map sgn=m:=by
 rw [b5_ _ _ (by omega)] at h;exact dH_ fun c hc=>kV_ (h9_ m [] h c (by simpa using hc))
theorem jt_ {m:List Nat} (h:measureText (m.length+1) m=true):m≠[]:=by
 intro e;subst e;revert h;decide
theorem fZ_ (s:List Nat):(numberText s).2.2=s.drop (numberText s).1/\(numberText s).1<=s.length:=by
 have hs:(s.takeWhile isDigit).length<=s.length:=cI_ _ _;rw [dh_];unfold numberText;dsimp only;rw [bf_];have hd : ∀ l,s.drop (s.takeWhile isDigit).length=l->s.length=(s.takeWhile isDigit).length+l.length:=fun l e=>by rw [<- e,length_drop];omega
 cases q:s.drop (s.takeWhile isDigit).length with
 | nil=>exact ⟨q.symm,hs⟩
 | cons c l =>
 have:=hd _ q;cases l with
 | nil=>exact ⟨q.symm,hs⟩
 | cons d r =>
 unfold secondRow;dsimp only;rw [length_cons,length_cons] at this;by_cases h:(c=47\/c=46)/\isDigit d=true
 ·simp only [if_pos h]
  have tl2:=cI_ isDigit (d::r);rw [length_cons] at tl2;have key:(s.takeWhile isDigit).length+(1+((d::r).takeWhile isDigit).length)<=s.length:=by omega
  refine ⟨?_,key⟩;rw [bf_,<- add_assoc,<- drop_drop,<- drop_drop,q];rfl
 simp only [if_neg h];exact ⟨q.symm,hs⟩
theorem kN_ {s:List Nat}{c:Nat}{r:List Nat} (e:s=c::r) (h:isDigit c=true):1<=(numberText s).1:=by
 rw [dh_];have:1<=(s.takeWhile isDigit).length:=by
  rw [e,takeWhile_cons,h];simp
 split
 ·split
  ·exact Nat.le_trans this (Nat.le_add_right _ _)
  exact this
 exact this
theorem em_ (p:Nat->Bool) : ∀ s:List Nat,s.take (s.takeWhile p).length=s.takeWhile p
 | []=>rfl
 | c::r=>by
  rw [takeWhile_cons];split
  ·rw [length_cons,take_succ_cons,em_ p r]
  rfl
theorem jZ_ (s:List Nat) (n k:Nat):s.take (n+k)=s.take n++(s.drop n).take k:=List.take_add
theorem kL_ (s:List Nat) : ∃ (b:List Nat) (c:Nat),s.take (numberText s).1=s.takeWhile isDigit++(if c=0 then [] else c::b) /\
  ((c=0/\b=[])\/((c=46\/c=47)/\b≠[]/\∀ x∈b,isDigit x=true))/\(numberText s).2.1=frac (s.takeWhile isDigit) c b/\(s.takeWhile isDigit).length+b.length<=s.length:=by
 have hs:(s.takeWhile isDigit).length<=s.length:=cI_ _ _;have ht:=em_ isDigit s;have hd : ∀ l,s.drop (s.takeWhile isDigit).length=l->s.length=(s.takeWhile isDigit).length+l.length:=fun l e=>by rw [<- e,length_drop];omega
 rw [dh_];have plain:secondRow (s.dropWhile isDigit)=(0,[],s.dropWhile isDigit)->s.take (s.takeWhile isDigit).length=s.takeWhile isDigit++(if 0=0 then [] else 0::[])/\(numberText s).2.1=frac (s.takeWhile isDigit) 0 []:=fun e=>by
  refine ⟨by rw [ht];simp,?_⟩;unfold numberText;dsimp only;rw [e];rfl
 cases q:s.drop (s.takeWhile isDigit).length with
 | nil =>
  obtain ⟨p1,p2⟩:=plain (by rw [bf_,q];rfl);exact ⟨[],0,p1,.inl ⟨rfl,rfl⟩,p2,hs⟩
 | cons c l =>
 have:=hd _ q;cases l with
 | nil =>
  obtain ⟨p1,p2⟩:=plain (by rw [bf_,q];rfl);exact ⟨[],0,p1,.inl ⟨rfl,rfl⟩,p2,hs⟩
 | cons d r =>
 dsimp only;rw [length_cons,length_cons] at this;by_cases h:(c=47\/c=46)/\isDigit d=true
 ·rw [if_pos h]
  have tl2:=cI_ isDigit (d::r);rw [length_cons] at tl2;have hc0:c≠0:=by omega
  refine ⟨(d::r).takeWhile isDigit,c,?_,.inr ⟨by omega,?_,fun x hx=>dN_ _ x hx⟩,?_,by omega⟩
  ·rw [jZ_,ht,q,if_neg hc0,add_comm 1,take_succ_cons,em_]
  ·rw [takeWhile_cons,h.2]
   simp
  have e:secondRow (s.dropWhile isDigit)=(c,(d::r).takeWhile isDigit,(d::r).dropWhile isDigit):=by
   rw [bf_,q];unfold secondRow;dsimp only;rw [if_pos h]
  unfold numberText;dsimp only;rw [e];rfl
 rw [if_neg h];obtain ⟨p1,p2⟩:=plain (by
  rw [bf_,q];unfold secondRow;dsimp only;rw [if_neg h])
 exact ⟨[],0,p1,.inl ⟨rfl,rfl⟩,p2,hs⟩
structure TokFact (p:Nat) (s:List Nat) (k:Vaunid.Token) (r:List Nat):Prop where
 start:k.start=p
 lt:p<k.halt_
 le:k.halt_<=p+s.length
 rest:r=s.drop (k.halt_ - p)
theorem jP_ {p:Nat}{s r:List Nat}{k:Vaunid.Token}{c:Nat}{s':List Nat} (e:s=c::s') (hc:isSmall c=true) (h:wordToken p s = .ok (k,r)):TokFact p s k r:=by
 unfold wordToken at h;dsimp only at h;split at h
 ·cases h
 cases h;have h1:1<=(s.takeWhile inWord).length:=by
  rw [e,takeWhile_cons,cA_ hc];simp
 exact ⟨rfl,Nat.lt_add_of_pos_right h1,Nat.add_le_add_left (cI_ _ _) _,by rw [add_sub_cancel_left,bf_]⟩
theorem iO_ {p:Nat}{s r:List Nat}{k:Vaunid.Token}{neg:Bool}{c:Nat}{s':List Nat} (e:(if neg=true then s.drop 1 else s)=c::s') (hc:isDigit c=true) (h:numberToken neg p s = .ok (k,r)):TokFact p s k r:=by
 unfold numberToken at h;dsimp only at h;have hpos:=kN_ e hc;obtain ⟨hrest,hle⟩:=fZ_ (if neg=true then s.drop 1 else s);generalize hx:numberText (if neg=true then s.drop 1 else s)=x at h hpos hrest hle;obtain ⟨n,o,rest⟩:=x;dsimp only at h hpos hrest hle;have hn:n+(if neg=true then 1 else 0)<=s.length:=by
  cases neg with
  | false=>simpa using hle
  | true =>
  simp only [if_true] at e hle ⊢;rw [length_drop] at hle;have:s≠[]:=by intro z;subst z;simp at e
  have:1<=s.length:=length_pos_iff.mpr this;omega
 have hr:rest=s.drop (n+(if neg=true then 1 else 0)):=by
  rw [hrest];cases neg with
  | false=>rfl
  | true =>
  simp only [if_true];rw [drop_drop,add_comm]
 generalize hm:n+(if neg=true then 1 else 0)=sz at h hn hr;have hsz:1<=sz:=by omega
 cases o with
 | none=>cases h
 | some tl =>
 obtain ⟨top,low⟩:=tl;dsimp only at h;split at h
 ·rename_i r2
  split at h
  ·cases h
  rename_i hne;cases h;have hl:s.length=sz+(r2.length+1):=by
   have:=congrArg List.length hr;rw [length_cons,length_drop] at this;omega
  have hm2:(r2.takeWhile fun c=>c != 93).length<r2.length:=by
   have h1:=cI_ (fun c=>c != 93) r2;have h2:(r2.takeWhile fun c=>c != 93).length≠r2.length:=fun z=>hne (.inl z);omega
  refine ⟨rfl,?_,?_,?_⟩
  ·show p<p+sz+_+2
   omega
  ·show p+sz+_+2<=_
   omega
  show r2.drop _=s.drop (p+sz+_+2 - p);have e1:p+sz+(r2.takeWhile fun c=>c != 93).length+2 - p=sz+(1+((r2.takeWhile fun c=>c != 93).length+1)):=by omega
  have e2:s.drop (sz+(1+((r2.takeWhile fun c=>c != 93).length+1)))=((s.drop sz).drop 1).drop ((r2.takeWhile fun c=>c != 93).length+1):=by
   rw [drop_drop,drop_drop,<- add_assoc]
  rw [e1,e2,<- hr];rfl
 cases h;exact ⟨rfl,Nat.lt_add_of_pos_right hsz,Nat.add_le_add_left hn _,by rw [add_sub_cancel_left];exact hr⟩
theorem kl_ {p:Nat}{s r:List Nat}{k:Vaunid.Token}{L:List (List Nat)} (hL : ∀ x∈L,x≠[]) (h:signToken L p s = .ok (k,r)):TokFact p s k r:=by
 unfold signToken at h;split at h
 ·rename_i x hx
  cases h;have hm:=List.mem_of_find?_eq_some hx;have hp:=List.find?_some hx;have hpos:1<=x.length:=length_pos_iff.mpr (hL x hm);have hpre:x <+: s:=List.isPrefixOf_iff_prefix.mp hp;exact ⟨rfl,Nat.lt_add_of_pos_right hpos,Nat.add_le_add_left hpre.length_le _,by rw [add_sub_cancel_left]⟩
 cases h
theorem bX_ {core:Bool}{p:Nat}{s r:List Nat}{k:Vaunid.Token} (h:token core p s = .ok (k,r)):TokFact p s k r:=by
 unfold token at h;cases s with
 | nil=>cases h
 | cons c s' =>
 dsimp only at h;split at h
 ·exact jP_ rfl (by assumption) h
 split at h
 ·exact iO_ (neg:=false) rfl (by assumption) h
 split at h
 ·rename_i hc
  obtain ⟨_,hm⟩:=hc;unfold Vaunid.minusDigit at hm;split at hm
  ·rename_i z
   cases z;exact iO_ (neg:=true) rfl hm h
  cases hm
 refine kl_ (fun x hx=>?_) h;cases core with
 | true =>
  intro e;subst e;revert hx
  left
 | false =>
 intro e;subst e;revert hx
 left
noncomputable def gap (core:Bool):Nat->Nat->List Nat->Vaunid.Res (Nat×List Nat)
 | _,p,[] => .ok (p,[])
 | 0,p,s => .ok (p,s)
 | n+1,p,c::r =>
  if c=32\/(core=false/\c=10) then gap core n (p+1) r
  else if core=false/\c=123 then
   (match r.dropWhile inComment with
   | []=>fault 2 p
   | 125::s=>gap core n (p+(r.takeWhile inComment).length+2) s
   | _=>fault 1 (p+1+(r.takeWhile inComment).length))
  else .ok (p,c::r)
theorem i8_ (q:Nat->Bool) (l:List Nat):(l.dropWhile q).length<=l.length:=by rw [bf_,length_drop];omega
theorem ge_ (core:Bool) : ∀ (n m p:Nat) (s:List Nat),s.length<n->s.length<m->gap core n p s=gap core m p s
 | n,m,p,[],_,_=>by cases n <;> cases m <;> rfl
 | 0,_,_,_::_,h,_=>by simp at h
 | _,0,_,_::_,_,h=>by simp at h
 | n+1,m+1,p,c::r,h1,h2=>by
  rw [length_cons] at h1 h2;unfold gap;split
  ·exact ge_ core n m _ r (by omega) (by omega)
  split
  ·have hl:=i8_ inComment r
   cases q:r.dropWhile inComment with
   | nil=>rfl
   | cons d s =>
   rw [q,length_cons] at hl;by_cases hd:d=125
   ·subst hd
    exact ge_ core n m _ s (by omega) (by omega)
   split
   ·rename_i z;cases z
   ·rename_i z;cases z;exact absurd rfl hd
   rfl
  rfl
noncomputable def gapT (core:Bool) (p:Nat) (s:List Nat):Vaunid.Res (Nat×List Nat):=gap core (s.length+1) p s
theorem jD_ {core:Bool}{p c:Nat}{r:List Nat} (h:c=32\/(core=false/\c=10)):gapT core p (c::r)=gapT core (p+1) r:=by
 unfold gapT;rw [length_cons]
 conv=>lhs;unfold gap
 rw [if_pos h]
theorem jC_ {core:Bool}{p c:Nat}{r:List Nat} (h : ¬ (c=32\/(core=false/\c=10))) (h2 : ¬ (core=false/\c=123)):gapT core p (c::r) = .ok (p,c::r):=by
 unfold gapT;rw [length_cons];unfold gap;rw [if_neg h,if_neg h2]
theorem dU_ {p:Nat}{r:List Nat}:gapT false p (123::r)=(match r.dropWhile inComment with
   | []=>fault 2 p
   | 125::s=>gapT false (p+(r.takeWhile inComment).length+2) s
   | _=>fault 1 (p+1+(r.takeWhile inComment).length)):=by
 unfold gapT;rw [length_cons]
 conv=>lhs;unfold gap
 rw [if_neg (by decide),if_pos (by decide)];have hl:=i8_ inComment r;cases q:r.dropWhile inComment with
 | nil=>rfl
 | cons d s =>
 rw [q,length_cons] at hl;by_cases hd:d=125
 ·subst hd
  exact ge_ false _ _ _ s (by omega) (by omega)
 split
 ·rename_i z;cases z
 ·rename_i z;cases z;exact absurd rfl hd
 rfl
theorem bH_ (core:Bool) : ∀ (n m p:Nat) (s:List Nat),s.length<n->s.length<m->tokens core n p s=tokens core m p s
 | n,m,p,[],_,_=>by cases n <;> cases m <;> rfl
 | 0,_,_,_::_,h,_=>by simp at h
 | _,0,_,_::_,_,h=>by simp at h
 | n+1,m+1,p,c::r,h1,h2=>by
  rw [length_cons] at h1 h2;unfold tokens;split
  ·exact bH_ core n m _ r (by omega) (by omega)
  split
  ·have hl:=i8_ inComment r
   cases q:r.dropWhile inComment with
   | nil=>rfl
   | cons d s =>
   rw [q,length_cons] at hl;by_cases hd:d=125
   ·subst hd
    exact bH_ core n m _ s (by omega) (by omega)
   split
   ·rename_i z;cases z
   ·rename_i z;cases z;exact absurd rfl hd
   rfl
  cases q:token core p (c::r) with
  | error e=>rfl
  | ok x =>
  obtain ⟨k,s⟩:=x;have hf:=bX_ q;have hs:s.length<=r.length:=by
   have h3:=hf.lt;rw [hf.rest,length_drop,length_cons];omega
  dsimp only;rw [bH_ core n m k.halt_ s (by omega) (by omega)]
def dZ_ (core:Bool) (p:Nat) (s:List Nat):Vaunid.Res (List Vaunid.Token):=tokens core (s.length+1) p s
noncomputable def aR_ (core:Bool) (x:Nat×List Nat):Vaunid.Res (List Vaunid.Token):=match x.2 with
 | [] => .ok []
 | c::r=>match token core x.1 (c::r) with
  | .error e => .error e
  | .ok (k,s)=>match dZ_ core k.halt_ s with
   | .error e => .error e
   | .ok l => .ok (k::l)
theorem en_ (core:Bool) : ∀ (n p:Nat) (s:List Nat),s.length<n->dZ_ core p s=(match gap core n p s with | .error e => .error e | .ok x=>aR_ core x)
 | n,p,[],_=>by cases n <;> rfl
 | 0,p,_::_,h=>by simp at h
 | n+1,p,c::r,h=>by
  rw [length_cons] at h;unfold dZ_ gap;rw [length_cons]
  conv=>lhs;unfold tokens
  split
  ·exact en_ core n (p+1) r (by omega)
  split
  ·have hl:=i8_ inComment r
   cases q:r.dropWhile inComment with
   | nil=>rfl
   | cons d s =>
   rw [q,length_cons] at hl;by_cases hd:d=125
   ·subst hd
    show tokens core (r.length+1) _ s=_;rw [bH_ core (r.length+1) (s.length+1) _ s (by omega) (by omega)];exact en_ core n _ s (by omega)
   have e2:(match d::s with
     | []=>(fault 2 p:Vaunid.Res (Nat×List Nat))
     | 125::s=>gap core n (p+(List.takeWhile inComment r).length+2) s
     | x=>fault 1 (p+1+(List.takeWhile inComment r).length))=fault 1 (p+1+(List.takeWhile inComment r).length):=by
    split
    ·rename_i z;cases z
    ·rename_i z;cases z;exact absurd rfl hd
    rfl
   refine Eq.trans ?_ (congrArg (fun (o:Vaunid.Res (Nat×List Nat))=>(match o with | .error e => .error e | .ok x=>aR_ core x:Vaunid.Res (List Vaunid.Token))) e2).symm
   split
   ·rename_i z;cases z
   ·rename_i z;cases z;exact absurd rfl hd
   rfl
  show _=aR_ core (p,c::r);unfold aR_;dsimp only;cases q:token core p (c::r) with
  | error e=>rfl
  | ok x =>
  obtain ⟨k,s⟩:=x;have hf:=bX_ q;have hs:s.length<=r.length:=by
   have h3:=hf.lt;rw [hf.rest,length_drop,length_cons];omega
  dsimp only;unfold dZ_;rw [bH_ core (r.length+1) (s.length+1) _ s (by omega) (by omega)];rfl
theorem dw_ (core:Bool) (p:Nat) (s:List Nat):dZ_ core p s=(match gapT core p s with | .error e => .error e | .ok x=>aR_ core x):=en_ core _ p s (lt_succ_self _)
theorem ee_ (core:Bool) : ∀ (n p:Nat) (s:List Nat) (x:Nat×List Nat),gap core n p s = .ok x->p<=x.1/\x.1<=p+s.length/\x.2=s.drop (x.1 - p)
 | n,p,[],x,h=>by
  have:x=(p,[]):=by
   cases n <;> (cases h;rfl)
  subst this;simp
 | 0,p,c::r,x,h=>by
  cases h;simp
 | n+1,p,c::r,x,h=>by
  unfold gap at h;split at h
  ·obtain ⟨h1,h2,h3⟩:=ee_ core n (p+1) r x h
   rw [length_cons];refine ⟨by omega,by omega,?_⟩;rw [h3,show x.1 - p=(x.1 - (p+1))+1 by omega,drop_succ_cons]
  split at h
  ·have hl:=bf_ inComment r
   have hl2:=cI_ inComment r;cases q:r.dropWhile inComment with
   | nil=>rw [q] at h;cases h
   | cons d s =>
   rw [q] at h hl;by_cases hd:d=125
   ·subst hd
    obtain ⟨h1,h2,h3⟩:=ee_ core n _ s x h;have hs:r.length=(r.takeWhile inComment).length+(s.length+1):=by
     have:=congrArg List.length hl;rw [length_cons,length_drop] at this;omega
    rw [length_cons];refine ⟨by omega,by omega,?_⟩;have e:x.1 - p=(x.1 - (p+(r.takeWhile inComment).length+2))+1+(r.takeWhile inComment).length+1:=by omega
    have e2:r.drop (x.1 - (p+(r.takeWhile inComment).length+2)+1+(r.takeWhile inComment).length)=(r.drop (r.takeWhile inComment).length).drop (x.1 - (p+(r.takeWhile inComment).length+2)+1):=by rw [drop_drop,add_comm]
    rw [h3,e,drop_succ_cons,e2,<- hl,drop_succ_cons]
   split at h
   ·rename_i z;cases z
   ·rename_i z;cases z;exact absurd rfl hd
   cases h
  cases h;simp
theorem dI_ : ∀ (s:List Nat) (p:Nat),gapT false p s=gapT false (p+(s.takeWhile fun c=>c == 32 || c == 10).length) (s.drop (s.takeWhile fun c=>c == 32 || c == 10).length)
 | [],p=>rfl
 | c::r,p=>by
  rw [takeWhile_cons];cases h:(c == 32 || c == 10) with
  | false=>rfl
  | true =>
  simp only [if_true];rw [length_cons,drop_succ_cons,jD_ (by simpa using h),dI_ r (p+1)];congr 1;omega
theorem hj_ (q:Nat->Bool) (s:List Nat) {c:Nat}{r:List Nat} (h:s.drop (s.takeWhile q).length=c::r):q c=false:=by
 rw [<- bf_] at h;exact dK_ s h
theorem mC_ {t:List Nat}{p c:Nat}{r:List Nat} (h:t.drop p=c::r):t[p]? = some c:=by
 have:=List.getElem?_drop (xs:=t) (i:=p) (j:=0);rw [h] at this;simpa using this.symm
theorem b9_ {t:List Nat}{p:Nat}{s:List Nat} (h:t.drop p=s) (k:Nat):t.drop (p+k)=s.drop k:=by rw [<- h,drop_drop]
theorem dq_ {t:List Nat}{p:Nat}{s:List Nat} (h:t.drop p=s) (hp:p<=t.length):t.length=p+s.length:=by rw [<- h,length_drop];omega
theorem bn_ {t:List Nat}{p c:Nat}{r:List Nat} (h:t.drop p=c::r):p<t.length:=by
 have:=congrArg List.length h;rw [length_drop,length_cons] at this;omega
theorem gg_ {n:Nat} (t:List Nat) : ∀ (L:List (List Nat)),(∀ x∈L,x.length=n)->L.find? (fun s=>s.isPrefixOf t)=if t.take n∈L then some (t.take n) else none
 | [],_=>by simp
 | x::r,h=>by
  have hx:=h x (mem_cons_self ..);have ih:=gg_ t r fun y hy=>h y (mem_cons_of_mem _ hy);rw [find?_cons];by_cases hp:x.isPrefixOf t=true
  ·rw [hp]
   have e:x=t.take n:=by rw [<- hx];exact (List.prefix_iff_eq_take.mp (List.isPrefixOf_iff_prefix.mp hp))
   dsimp only;rw [<- e,if_pos (mem_cons_self ..)]
  have hp':x.isPrefixOf t=false:=Bool.eq_false_iff.mpr hp;rw [hp'];dsimp only;rw [ih];have ne:t.take n≠x:=fun e=>hp (List.isPrefixOf_iff_prefix.mpr (e ▸ List.take_prefix n t));by_cases hm:t.take n∈r
  ·rw [if_pos hm,if_pos (mem_cons_of_mem _ hm)]
  rw [if_neg hm,if_neg];intro z;rcases mem_cons.mp z with q | q
  ·exact ne q
  exact hm q
structure GoodSigns (L:List (List Nat)):Prop where
 parts : ∃ L2 L1,L=L2++L1/\(∀ x∈L2,x.length=2)/\∀ x∈L1,x.length=1
 plain : ∀ x∈L,∀ c∈x,((32<=c/\c<=126)/\c≠37)/\c≠63
theorem hl_:GoodSigns surfaceSigns:=⟨⟨Vaunid.surfaceSigns.take 5,Vaunid.surfaceSigns.drop 5,by left,by left,by left⟩,by left⟩
theorem oq_ {L:List (List Nat)} (g:GoodSigns L) (l:List Nat):l.map sgn∈L↔l∈L:=by
 constructor
 ·intro h
  have e:l.map sgn=l:=dH_ fun c hc=>by
   have:=g.plain _ h (sgn c) (mem_map.mpr ⟨c,hc,rfl⟩);rcases m9_ c with q | ⟨q,_⟩
   ·rw [q] at this;exact this.1
   rw [q] at this;exact absurd rfl this.2
  rwa [e] at h
 intro h;rw [dH_ fun c hc=>(g.plain _ h c hc).1];exact h
noncomputable def km_ (L:List (List Nat)) (t:List Nat):Option (List Nat):=if t.take 2∈L then some (t.take 2) else if t.take 1∈L then some (t.take 1) else none
theorem jH_ {L:List (List Nat)} (g:GoodSigns L) (t:List Nat):L.find? (fun s=>s.isPrefixOf t)=km_ L t:=by
 obtain ⟨L2,L1,rfl,h2,h1⟩:=g.parts;rw [List.find?_append,gg_ t L2 h2,gg_ t L1 h1];unfold km_;by_cases m2:t.take 2∈L2
 ·rw [if_pos m2,if_pos (mem_append_left _ m2)]
  rfl
 rw [if_neg m2];by_cases m1:t.take 1∈L1
 ·rw [if_pos m1]
  by_cases m:t.take 2∈L2++L1
  ·have m':t.take 2∈L1:=(mem_append.mp m).resolve_left m2
   have e:=h1 _ m';have e3:t.take 1=t.take 2:=by
    rw [length_take] at e;have:t.length<=1:=by omega
    rw [take_of_length_le this,take_of_length_le (by omega)]
   rw [if_pos m,e3];rfl
  rw [if_neg m,if_pos (mem_append_right _ m1)];rfl
 rw [if_neg m1];have n1 : ¬ t.take 1∈L2++L1:=fun z=>by
  rcases mem_append.mp z with q | q
  ·have:=h2 _ q
   rw [length_take] at this;omega
  exact m1 q
 by_cases m:t.take 2∈L2++L1
 ·have m':t.take 2∈L1:=(mem_append.mp m).resolve_left m2
  have e:=h1 _ m';have e3:t.take 1=t.take 2:=by
   rw [length_take] at e;have:t.length<=1:=by omega
   rw [take_of_length_le this,take_of_length_le (by omega)]
  rw [<- e3] at m';exact absurd m' m1
 rw [if_neg m,if_neg n1];rfl
noncomputable def lc_ (k p:Int):List (Str×V):=[("kind",.int k),("place",.int p)]
def ExF (C:Addr) (E:XK) (H:Hp) (k p:Int):Prop:=∀ (dx:Addr) (H':Hp),Same H H'->H' dx=some (XDic dx (lc_ k p))->E (.ref C) (some dx) H'
theorem ExF.mono {C:Addr}{E:XK}{H H1:Hp}{k p:Int} (h:ExF C E H k p) (s:Same H H1):ExF C E H1 k p:=fun dx H' s' e=>h dx H' (s.trans s') e
def RES {A:Type} (C:Addr) (H:Hp) (Q:VK) (E:XK) (r:Vaunid.Res A) (post:A->V->Hp->Prop):Prop:=match r with
 | .ok a=>∀ (v:V) (H':Hp),Same H H'->post a v H'->Q v H'
 | .error e=>ExF C E H (e.kind:Int) (e.place:Int)
def ew_ (C:Addr):Sp:=fun vs H Q _=>∃ (p:Addr) (k q:V),vs=[.ref p,k,q]/\H p=some (XNew C p none)/\∀ dx,H dx=none->dx≠p->Q .non (upd (upd H dx (XDic dx [("kind",k),("place",q)])) p (XNew C p (some dx)))
theorem bk_ {C:Addr}{E:XK}{H:Hp}{k p:Int}{E':XK} (h:ExF C E H k p) : ∀ a,H a=none->ew_ C [.ref a,.int k,.int p] (upd H a (XNew C a none))
  (fun v H2=>v = .non/\∃ dx,H2 a=some (XNew C a (some dx))/\∃ fs,H2 dx=some (XDic dx fs)/\E (.ref C) (some dx) (del H2 a)) E':=fun a ha=>by
 refine ⟨a,_,_,rfl,af_,fun dx hdx hne=>⟨rfl,dx,af_,_,by rw [ag_ hne];exact af_,?_⟩⟩;have hdx':H dx=none:=by rw [ag_ hne] at hdx;exact hdx
 refine h dx _ (fun b o e=>?_) ?_
 ·have nb:b≠a:=ai_ e ha
  rw [cw_ nb,ag_ nb,ag_ (ai_ e hdx'),ag_ nb];exact e
 rw [cw_ hne,ag_ hne];exact af_
noncomputable def c9_ (g:Int) (k:Str) (b e:Int) (c:V):List (Str×V):=[("group",.int g),("kind",.str k),("begin",.int b),("end",.int e),("content",c)]
noncomputable def kindOf:Vaunid.Tok->List Nat
 | .word w=>if isTaken w=true then w else Vaunid.txt "name"
 | .num _ d=>if d.isSome=true then Vaunid.txt "digit" else Vaunid.txt "number"
 | .sign s=>s
def hA_ (Ca:Addr) (H:Hp) (c:V):Vaunid.Tok->Prop
 | .word w=>c = .str (S w)
 | .num v _=>∃ a,c = .ref a/\aP_ Ca H a v.top (v.low:Int) (v.measure.getD [])
 | .sign s=>c = .str (S s)
def cK_ (Ca Ct:Addr) (H:Hp) (a:Addr) (k:Vaunid.Token):Prop:=∃ dx c,H a=some (.ins Ct dx (c9_ (Vaunid.sortOf k.tok) (S (kindOf k.tok)) (k.start:Int) (k.halt_:Int) c))/\hA_ Ca H c k.tok
theorem hA_.same {Ca:Addr}{H H':Hp}{c:V}{k:Vaunid.Tok} (h:hA_ Ca H c k) (s:Same H H'):hA_ Ca H' c k:=by
 cases k with
 | word w=>exact h
 | num v d=>obtain ⟨a,e,q⟩:=h;exact ⟨a,e,q.same s⟩
 | sign x=>exact h
theorem cK_.same {Ca Ct:Addr}{H H':Hp}{a:Addr}{k:Vaunid.Token} (h:cK_ Ca Ct H a k) (s:Same H H'):cK_ Ca Ct H' a k:=by
 obtain ⟨dx,c,e,q⟩:=h;exact ⟨dx,c,s _ _ e,q.same s⟩
theorem jg_:[V.str "fn",V.str "let",V.str "rec",V.str "if",V.str "cons",V.str "case",V.str "pair",V.str "fst",V.str "snd",V.str "fold",V.str "root",V.str "floor",V.str "rest",V.str "true",V.str "false",V.str "nil",V.str "truth",V.str "num",V.str "list",V.str "base",V.str "unit",V.str "def",V.str "fun",V.str "in",V.str "then",V.str "else",V.str "match",V.str "with",V.str "and",V.str "or",V.str "not"]=(Vaunid.taken.map S).map V.str:=by left
theorem gz_:[V.str "->",V.str "::",V.str "<=",V.str ">=",V.str "<>",V.str "|",V.str "<",V.str ">",V.str "=",V.str "+",V.str "-",V.str "*",V.str "/",V.str "^",V.str "(",V.str ")",V.str "[",V.str "]",V.str ","]=(Vaunid.surfaceSigns.map S).map V.str:=by left
theorem in_S (l:List Nat) (L:List (List Nat)):inV (.str (S l)) ((L.map S).map V.str)=decide (l∈L):=by
 rw [oD_,List.any_map,Bool.eq_iff_iff];simp only [List.any_eq_true,decide_eq_true_eq,Function.comp_def,beq_iff_eq,d3_]
 constructor
 ·rintro ⟨x,hx,rfl⟩;exact hx
 intro h;exact ⟨l,h,rfl⟩
theorem jY_ (w:List Nat):isTaken w=decide (w∈Vaunid.taken):=by
 unfold isTaken;rw [Bool.eq_iff_iff];simp only [List.any_eq_true,decide_eq_true_eq,beq_iff_eq]
 constructor
 ·rintro ⟨x,hx,rfl⟩;exact hx
 intro h;exact ⟨w,h,rfl⟩
end M
namespace L2
theorem nY_ {a b:Int}:scal (.int a) (.int b)=true:=rfl
theorem nX_ {a b:PySem.Str}:scal (.str a) (.str b)=true:=rfl
theorem nZ_ {a b:Bool}:scal (.bl a) (.bl b)=true:=rfl
theorem dA_ {t u:TS}{D:Ends}{σ:St}{H:Hp} (R:St->Hp->Prop) (ht : ∀ X:St->Hp->Prop,(∀ σ' H',R σ' H'->X σ' H')->t { D with nx:=X } σ H) (hc : ∀ σ' H',R σ' H'->u D σ' H'):tSeq t u D σ H:=ht _ hc
end L2
namespace M
open PySem PySem.Spec PyProof.Rows L2 TL
def d2_ (H H':Hp):Prop:=∀ a C dx fs,H a=some (.ins C dx fs)->H' a=some (.ins C dx fs)
theorem Same.insts {H H':Hp} (s:Same H H'):d2_ H H':=fun a C dx fs e=>s _ _ e
theorem d2_.trans {H H1 H2:Hp} (s:d2_ H H1) (r:d2_ H1 H2):d2_ H H2:=fun a C dx fs e=>r _ _ _ _ (s _ _ _ _ e)
theorem d2_.lst {H:Hp}{b:Addr}{xs:List V}{o:HO} (h:H b=some (.lst xs)):d2_ H (upd H b o):=fun a C dx fs e=>by rw [ag_ (dj_ e h (by intro z;cases z))];exact e
theorem aP_.sameI {C:Addr}{H H':Hp}{a:Addr}{o u:Int}{m:List Nat} (h:aP_ C H a o u m) (s:d2_ H H'):aP_ C H' a o u m:=let ⟨dx,e⟩:=h;⟨dx,s _ _ _ _ e⟩
theorem cK_.sameI {Ca Ct:Addr}{H H':Hp}{a:Addr}{k:Vaunid.Token} (h:cK_ Ca Ct H a k) (s:d2_ H H'):cK_ Ca Ct H' a k:=by
 obtain ⟨dx,c,e,q⟩:=h;refine ⟨dx,c,s _ _ _ _ e,?_⟩;cases hk:k.tok with
 | word w=>rw [hk] at q;exact q
 | num v d=>rw [hk] at q;obtain ⟨a,e,q⟩:=q;exact ⟨a,e,q.sameI s⟩
 | sign x=>rw [hk] at q;exact q
abbrev cl_ (Ca Ct:Addr) (H:Hp) (as:List Addr) (l:List Vaunid.Token):Prop:=Paired (fun a k=>cK_ Ca Ct H a k) as l
theorem cl_.sameI {Ca Ct:Addr}{H H':Hp}{as:List Addr}{l:List Vaunid.Token} (h:cl_ Ca Ct H as l) (s:d2_ H H'):cl_ Ca Ct H' as l:=Paired.mapP h fun a k z=>z.sameI s
theorem cl_.snoc {Ca Ct:Addr}{H:Hp} : ∀ {as:List Addr}{l:List Vaunid.Token}{a:Addr}{k:Vaunid.Token},cl_ Ca Ct H as l->cK_ Ca Ct H a k->cl_ Ca Ct H (as++[a]) (l++[k])
 | _,_,_,_,.nil,q => .cons q .nil
 | _,_,_,_,.cons r t,q => .cons r (cl_.snoc t q)
noncomputable def preR {A:Type} (l:List A) (r:Vaunid.Res (List A)):Vaunid.Res (List A):=match r with
 | .error e => .error e
 | .ok m => .ok (l++m)
end M
namespace L2
open PySem PySem.Spec PyProof.Rows TL
section
variable {X:Cx}{CX:CXT}{k:Nat}{E:XK}{x:Str}{p pos:Pos}{e:Expr}{es:List Expr}{t:TA}{P:Program}{w:World}{K:Frag}{mg:zM}{base:Heap}
def m0_ (P:Program) (w:World) (K:Frag) (mg:zM) (base:Heap) (CX:CXT) (k i:Nat) (E:XK) (t:TA):TE:=fun σ H Q=>∃ f fd ps sp,σ[i]? = some (some (.ref f))/\FnOk P w K mg base CX k f fd ps sp/\aY_ K fd ps []/\keepIn K (.ref f)=true /\
 t σ H fun vs H1=>sp vs H1 Q E
theorem l8_ (i:Nat) (hr:Room k X.A) (hx:bF_ CX X E) (ha:PA X (e::es) t) (hN:X.N[i]? = some x:=by rfl) (e1:X.prog=P:=by rfl) (e2:X.w=w:=by rfl) (e3:X.K=K:=by rfl) (e4:X.mg=mg:=by rfl) (e5:X.base=base:=by rfl)
  (hv:Vis X.env.scope x:=by first | exact Or.inl rfl | exact Or.inr (Or.inl rfl) | exact Or.inr (Or.inr rfl)) (hd:(x == ("__debug__":Str))=false:=by decide) (hcd:(x == ("__classdict__":Str))=false:=by decide)
  (he:starEach (e::es) X.env=(false,eval e X.env)::starEach es X.env:=by rfl) (hpl:(backTo pos (starEach es X.env)).any (·.1)=false:=by rfl) :
  PE X (.Call (.Name x p) (e::es) [] pos) (m0_ P w K mg base CX k i E t):=by
 subst e1 e2 e3 e4 e5;exact cC_ i hr hx ha hN hv hd hcd he hpl
end
end L2
namespace M
open PySem PySem.Spec PyProof.Rows L2 TL
abbrev Toks:=List Vaunid.Token
inductive Kind where
 | name | part | power
 deriving DecidableEq
inductive Fm where
 | fn | rec_ | let_ | if_ | app | pair | fst | snd | cons | case | fold | plus | minus | times | over | less | equal | floor | rest | root | pow
 deriving DecidableEq
noncomputable def Fm.word:Fm->String
 | .fn=>"fn" | .rec_=>"rec" | .let_=>"let" | .if_=>"if" | .app=>"apply" | .pair=>"pair" | .fst=>"fst" | .snd=>"snd" | .cons=>"cons" | .case=>"case" | .fold=>"fold"
 | .plus=>"+" | .minus=>"-" | .times=>"*" | .over=>"/" | .less=>"<" | .equal=>"=" | .floor=>"floor" | .rest=>"rest" | .root=>"root" | .pow=>"^"
inductive Item where
 | w (x:List Nat)
 | n (m:Int)
 | p (t:Term) (l:List Nat)
noncomputable def Fm.mk:Fm->List Item->Term
 | .fn,[.w x,.p a _] => .fn x a
 | .rec_,[.w f,.w x,.p a _] => .rec_ f x a
 | .let_,[.w x,.p a _,.p b _] => .let_ x a b
 | .if_,[.p a _,.p b _,.p c _] => .three .cond a b c
 | .app,[.p a _,.p b _] => .two .app a b
 | .pair,[.p a _,.p b _] => .two .pair a b
 | .fst,[.p a _] => .one .fst a
 | .snd,[.p a _] => .one .snd a
 | .cons,[.p a _,.p b _] => .two .cons a b
 | .case,[.p l _,.p a _,.w h,.w t,.p b _] => .case l a h t b
 | .fold,[.p a _,.p b _,.p c _] => .three .fold a b c
 | .plus,[.p a _,.p b _] => .two .plus a b
 | .minus,[.p a _,.p b _] => .two .minus a b
 | .times,[.p a _,.p b _] => .two .times a b
 | .over,[.p a _,.p b _] => .two .over a b
 | .less,[.p a _,.p b _] => .two .less a b
 | .equal,[.p a _,.p b _] => .two .equal a b
 | .floor,[.p a _,.p b _] => .two .floor a b
 | .rest,[.p a _,.p b _] => .two .rest a b
 | .root,[.p a _] => .one .root a
 | .pow,[.p a _,.n m] => .one (.pow m) a
 | _,_ => .leaf .nil
open Vaunid (word sign)
noncomputable def el_:Two->Fm
 | .app => .app | .pair => .pair | .cons => .cons | .plus => .plus | .minus => .minus | .times => .times | .over => .over | .less => .less | .equal => .equal | .floor => .floor | .rest => .rest
noncomputable def hU_:Vaunid.One->Fm
 | .fst => .fst | .snd => .snd | .root => .root | .pow _ => .pow
noncomputable def cps (hl:Nat) (T:Toks->Vaunid.Res Vaunid.Core):List Kind->Toks->(List Item->Toks->Vaunid.Res Vaunid.Core)->Vaunid.Res Vaunid.Core
 | [],ts,k=>k [] ts
 | .name::ks,ts,k=>(Vaunid.wantName hl ts).bind fun y=>cps hl T ks y.2 fun is q=>k (.w y.1::is) q
 | .part::ks,ts,k=>(T ts).bind fun y=>cps hl T ks y.2.2 fun is q=>k (.p y.1 y.2.1::is) q
 | .power::ks,ts,k=>(Vaunid.wantDigit hl ts).bind fun y=>cps hl T ks y.2 fun is q=>k (.n y.1::is) q
end M
end Internal
open Internal
namespace PySem
namespace F
theorem gW_:Manifest.owners.lookup (String.ofList ['d', 'e', 's', 'r', 'e', 'v', 'e', 'r'].reverse)=some Manifest.sig_reversed:=by kernel_rfl
theorem slot_rvd_next:Slot "reversed" "__next__" "reversed.__next__" :=
 .of (owner:="reversed") (n:="__next__") (by rw [typeLookup_type,builtinLookup_eq_fast];kernel_rfl) (by left) (by left) (by left)
  (by first | exact .inl (by left) | exact .inr (by left)) (by rw [isSubtype_type];kernel_rfl)
theorem entry_rvd_next:entryFor table "reversed.__next__"=some Builtin.«reversed.__next__» := entryFor_of_tree (by kernel_rfl)
theorem args_rvd_next_1 (a:Value):argsOk "reversed.__next__" ⟨[a],[]⟩:=by
 unfold argsOk;rw [signature?_of (id:="reversed.__next__") (n:=['_', '_', 't', 'x', 'e', 'n', '_', '_']) (o:=['d', 'e', 's', 'r', 'e', 'v', 'e', 'r']) (by kernel_rfl) gW_];kernel_rfl
theorem slot_rvd_iter:Slot "reversed" "__iter__" "reversed.__iter__" :=
 .of (owner:="reversed") (n:="__iter__") (by rw [typeLookup_type,builtinLookup_eq_fast];kernel_rfl) (by left) (by left) (by left)
  (by first | exact .inl (by left) | exact .inr (by left)) (by rw [isSubtype_type];kernel_rfl)
theorem args_rvd_iter_1 (a:Value):argsOk "reversed.__iter__" ⟨[a],[]⟩:=by
 unfold argsOk;rw [signature?_of (id:="reversed.__iter__") (n:=['_', '_', 'r', 'e', 't', 'i', '_', '_']) (o:=['d', 'e', 's', 'r', 'e', 'v', 'e', 'r']) (by kernel_rfl) gW_];kernel_rfl
theorem entry_rvd_iter:entryFor table "reversed.__iter__"=some Builtin.«dict_keyiterator.__iter__» :=
 entryFor_alias (id':="dict_keyiterator.__iter__") (by kernel_rfl) (by first | rfl | left | (unfold String.splitOn;simp +decide [String.splitOnAux])) (by left) (by kernel_rfl)
theorem fK_:Slot "reversed" "__init__" "object.__init__" :=
 .of (owner:="object") (n:="__init__") (by rw [typeLookup_type,builtinLookup_eq_fast];kernel_rfl) (by left) (by left) (by left)
  (by first | exact .inl (by left) | exact .inr (by left)) (by rw [isSubtype_type];kernel_rfl)
theorem called_rvd:TypeCalled "reversed" "reversed.__new__" "object.__init__" :=
 ⟨by left,by left,⟨_,_,mro_reversed⟩,made_reversed,by left,sub_reversed_self,fK_⟩
theorem tuple_no_rev:typeLookup (.type "tuple") "__reversed__"=pure none:=am_miss_of_fast (by first | left | rfl)
end F
open PyProof.Rows
def nc_ (l:Addr) (i:Int):Obj:={ cls := .type "reversed",data := .fields #[.ref l,rawInt i] }
def Heap.IsRvd (h:Heap) (a l:Addr) (i:Int):Prop:=∃ o,h.get? a=some o/\o.cls = .type "reversed"/\o.data = .fields #[.ref l,rawInt i]
section
variable {prog:Program}{w:World}{A:Around}{E:zQ}{s:Shared}
theorem Heap.IsRvd.typeIs {a l:Addr}{i:Int} (x:s.heap.IsRvd a l i):s.TypeIs (.ref a) "reversed":=let ⟨o,ho,hc,_⟩:=x;⟨o,ho,hc⟩
theorem Heap.IsRvd.at {h h':Heap}{a l:Addr}{i:Int} (x:h.IsRvd a l i) (e : ∀ o,h.get? a=some o->h'.get? a=some o):h'.IsRvd a l i:=let ⟨o,ho,r⟩:=x;⟨o,e _ ho,r⟩
theorem e0_:isSubtype (.type "tuple") (.type "dict")=pure false:=by rw [isSubtype_type];kernel_rfl
theorem cX_ (t:Addr) (items:Array Value) :
  Meets (Builtin.«reversed.__new__» ⟨[.type "reversed",.ref t],[]⟩) (fun _ R s=>IsTup s.heap t items/\((items.size:Int)<2 ^ 63)/\∀ k,R (.ok (.ret (.ref s.heap.objs.size))) { s with heap:=s.heap.push (nc_ t ((items.size:Int) - 1)),toks:=k }) :=
 .of_wp fun prog w A R s h=>by
  obtain ⟨ht,hz,h⟩:=h;have hT:=ht.typeIs;unfold Builtin.«reversed.__new__»;refine wpAny_bind (wpAny_of_eq (newClass_reversed _) ?_)
  try dsimp only
  refine wpAny_bind (wpAny_of_eq (a:=()) (by first | rfl | kernel_rfl) ?_);refine wpAny_bind (wpAny_of_eq (a:=()) (by first | rfl | kernel_rfl) ?_)
  try dsimp only
  refine wpAny_bind (wpAny_specialOf hT F.tuple_no_rev ?_)
  try dsimp only
  refine wpAny_bind ?_;show wpAny _ _ (isInstance (.ref t) (.type "dict") >>= _) _ _ _;refine wpAny_bind (wpAny_isInstance (T:="tuple") (b:=false) hT e0_ ?_);show wpAny _ _ (specialOf (.ref t) "__getitem__" >>= _) _ _ _;refine wpAny_bind (wpAny_specialOf hT slot_tuple_getitem.lookup ?_);refine wpAny_of_eq (a:=true) rfl ?_;rw [if_neg (by decide)];refine wpAny_bind (len_tuple ht hz ?_);refine wpAny_bind (wpAny_of_eq (a:=some ((items.size:Nat):Int)) rfl ?_);dsimp only;refine wpAny_bind ?_;show wpAny _ _ (newObj (.type "reversed") (.fields #[Value.ref t,rawInt ((items.size:Int) - 1)])) _ _ _;exact wpAny_newObj_type (wpAny_pure ⟨_,rfl,h _⟩)
theorem c7_ {t:Addr}{items:Array Value}{Q:zQ} (ht:IsTup s.heap t items) (hz:(items.size:Int)<2 ^ 63)
  (h : ∀ k,Q (.ref s.heap.objs.size) { s with heap:=s.heap.push (nc_ t ((items.size:Int) - 1)),toks:=k }):wpAny (model prog w) A (call (.type "reversed") [.ref t]) Q E s :=
 callType_new F.called_rvd (by decide) (F.typeCall_reversed_1 _) (F.newCall_reversed_1 _) (fun obj=>F.args_object_init_2 obj _) F.entry_reversed_new (cX_ t items) ⟨ht,hz,fun k=>⟨⟨_,get?_push_size _ rfl,rfl⟩,h k⟩⟩
theorem cj_ {it l:Addr}{i:Int}{Q:zQ} (hit:s.heap.IsRvd it l i) (h:Q (.ref it) s):wpAny (model prog w) A (pyIter (.ref it)) Q E s:=by
 refine wpAny_pyIter_slot hit.typeIs F.slot_rvd_iter (wpAny_call_entry F.slot_rvd_iter hit.typeIs F.entry_rvd_iter ?_ (F.args_rvd_iter_1 _));show wpAny _ _ (ret (.ref it)) _ _ s;exact wpAny_pure ⟨_,rfl,"reversed",_,hit.typeIs,F.slot_rvd_next.lookup,h⟩
theorem cm_ {it l:Addr}{i:Nat}{items:Array Value}{x:Value}{Q:Option Value->Shared->Prop} (hit:s.heap.IsRvd it l (i:Int)) (hl:IsTup s.heap l items) (hne:l≠it) (hz:(items.size:Int)<2 ^ 63) (hx:items[i]? = some x)
  (hQ : ∀ h' k,h'.IsRvd it l ((i:Int) - 1)->Heap.SameBut it s.heap h'->Q (some x) { s with heap:=h',toks:=k }):wpAny (model prog w) A (pyNext (.ref it)) Q E s:=by
 obtain ⟨o,ho,hc,hd⟩:=id hit;have hlt:i<items.size:=(Array.getElem?_eq_some_iff.mp hx).1;unfold pyNext;refine wpAny_bind (wpAny_attempt (wpAny_callSpecial?_slot (name:=ofString "__next__") hit.typeIs F.slot_rvd_next
  (wpAny_call_entry F.slot_rvd_next hit.typeIs F.entry_rvd_next ?_ (F.args_rvd_next_1 _))))
 unfold Builtin.«reversed.__next__»;refine wpAny_bind (wpAny_of_eq (a:=(Value.ref it,[])) rfl ?_)
 try dsimp only
 refine wpAny_bind (wpAny_field ho hd (x := .ref l) rfl ?_);refine wpAny_bind (wpAny_field ho hd (x:=rawInt (i:Int)) rfl ?_);show wpAny _ _ (if (i:Int)<0 then _ else _) _ _ s;rw [if_neg (by omega)];refine wpAny_bind (wpAny_specialOf hl.typeIs slot_tuple_getitem.lookup ?_);rw [if_neg (by decide)];refine wpAny_bind (wpAny_mkInt ?_);refine wpAny_bind (wpAny_attempt (getItem_tuple (j:=i) (x:=x) hl (by omega) (by omega) (by unfold seqIndex?;simp;omega) hx ?_));refine wpAny_bind (wpAny_field (s:={ s with toks:=s.toks+1 }) ho hd (x:=rawInt (i:Int)) rfl ?_);refine wpAny_bind (wpAny_setField (s:={ s with toks:=s.toks+1 }) ho hd (by simp) ?_);refine wpAny_pure ⟨x,rfl,wpAny_pure (hQ _ _ ?_ (Heap.SameBut.update ..))⟩;exact ⟨_,get?_update_self _ ho (Obj.isFreed_of_fields (Obj.data_mapFields hd _)),(Obj.cls_mapFields ..).trans hc,by
  rw [Obj.data_mapFields hd];simp⟩
theorem cH_ {it l:Addr}{Q:Option Value->Shared->Prop} (hh:A.handled=none) (hit:s.heap.IsRvd it l (-1))
  (hQ : ∀ h',Heap.ExtBut it s.heap h'->Q none { s with heap:=h' }):wpAny (model prog w) A (pyNext (.ref it)) Q E s:=by
 obtain ⟨o,ho,hc,hd⟩:=id hit;unfold pyNext;refine wpAny_bind (wpAny_attempt (wpAny_callSpecial?_slot (name:=ofString "__next__") hit.typeIs F.slot_rvd_next
  (wpAny_call_entry F.slot_rvd_next hit.typeIs F.entry_rvd_next ?_ (F.args_rvd_next_1 _))))
 unfold Builtin.«reversed.__next__»;refine wpAny_bind (wpAny_of_eq (a:=(Value.ref it,[])) rfl ?_)
 try dsimp only
 refine wpAny_bind (wpAny_field ho hd (x := .ref l) rfl ?_);refine wpAny_bind (wpAny_field ho hd (x:=rawInt (-1)) rfl ?_);show wpAny _ _ (if (-1:Int)<0 then _ else _) _ _ s;rw [if_pos (by decide)];refine wpAny_bind (wpAny_rule ?_);refine wpAny_bind ?_;show wpAny _ _ (setField (.ref it) 1 (rawInt (-1)) >>= _) _ _ _;refine wpAny_bind (wpAny_setField ho hd (by simp) ?_);have ho2:=get?_update_self (Obj.mapFields (·.setIfInBounds 1 (rawInt (-1)))) ho (Obj.isFreed_of_fields (Obj.data_mapFields hd _));have hd2:(Obj.mapFields (·.setIfInBounds 1 (rawInt (-1))) o).data = .fields #[Value.ref l,rawInt (-1)]:=by rw [Obj.data_mapFields hd];simp
 have sb2:Heap.SameBut it s.heap (s.heap.update it (Obj.mapFields (·.setIfInBounds 1 (rawInt (-1))))):=Heap.SameBut.update ..;generalize s.heap.update it (Obj.mapFields (·.setIfInBounds 1 (rawInt (-1))))=h2 at ho2 sb2 ⊢;refine wpAny_setField (s:={ s with heap:=h2 }) ho2 hd2 (by simp) ?_;have sb3:Heap.SameBut it h2 (h2.update it (Obj.mapFields (·.setIfInBounds 0 .none))):=Heap.SameBut.update ..;show wpAny _ _ (Builtin.SmallTypes.stopIteration >>= _) _ _ { s with heap:=h2.update it (Obj.mapFields (·.setIfInBounds 0 .none)) };generalize h2.update it (Obj.mapFields (·.setIfInBounds 0 .none))=h3 at sb3 ⊢;refine wpAny_bind ?_;show wpAny _ _ (newExc (.type "StopIteration") [] >>= _) _ _ _;refine wpAny_bind ?_;simp only [newExc,newTuple];refine wpAny_bind (wpAny_newObj_type ?_ (by size_fits));refine wpAny_bind (m:=firstArgMember _ _) (wpAny_of_eq (a:=Value.none) (by first | rfl | (simp only [firstArgMember];rfl)) ?_);refine wpAny_newObj_type ?_ (by size_fits);simp only [raiseNew];refine wpAny_bind (wpAny_handled ?_)
 first | rw [show A.in1.handled=none from hh] | rw [hh]
 refine wpAny_bind (wpAny_pure (wpAny_throw ?_));refine wpAny_bind (wpAny_isInstance (T:="StopIteration") (b:=true) ⟨_,get?_push_size _ rfl,rfl⟩ isSubtype_stop ?_);exact wpAny_pure (hQ _ ((((sb2.trans sb3).extBut).push _).push _))
end
end PySem
namespace Internal
namespace L2
open PySem PySem.Spec PyProof.Rows TL
def Itw (K:Frag) (a:Addr) (n:Nat):It :=
 ⟨fun i H=>i<n/\∃ (xs:List V) (x:V),SqT K H a xs/\xs.length=n/\xs[n - 1 - i]? = some x,fun i H x H'=>H'=H/\∀ xs,SqT K H a xs->xs[n - 1 - i]? = some x,fun i _=>n<=i⟩
theorem jU_ {P:Program}{w:World}{K:Frag}{tg:Expr} (a it:Addr) (n:Nat):Turn P w K tg (Itw K a n) [it] it (fun i h=>i<=n/\h.IsRvd it a ((n:Int) - 1 - (i:Nat))) where
 mem:=by simp
 obj:=fun i h st b hb=>by
  have e:b=it:=by simpa using hb
  subst e;refine x_01 st fun _ zz0=>?_;refine x_12 zz0 fun o e c d=>?_;exact ⟨o,e,fun v z=>by rw [d] at z;cases z⟩
 keep:=fun i h h' st k=>⟨st.1,st.2.at fun o e=>k it (by simp) o e⟩
 item:=by
  intro X hP hw hK hc i zz s σ H E I hf st hg;subst hP hw hK;refine x_01 hg fun hin zz0=>?_;refine x_22 zz0 fun xs x hq hxl hx=>?_;refine x_12 (I.tuple hq) fun zw rv p hz=>?_;obtain ⟨u,hu,ru⟩:=rv.get hx;obtain ⟨f0,f1,f2,f3,f4,f5⟩:=hf it (by simp);obtain ⟨_,hit⟩:=st;have e1:(n:Int) - 1 - ((i:Nat):Int)=((n - 1 - i:Nat):Int):=by omega
  rw [e1] at hit;have hl:=rv.length;have hn:=dm_;have nla:a≠it:=fun z=>by
   obtain ⟨o,e,c,d⟩:=hit;obtain ⟨ob,e2,c2,nn,d2⟩:=p;rw [z,e] at e2;cases e2;rw [d] at d2;cases d2
  refine cm_ hit p nla (by rw [size_toArray];omega) (x:=u) (by simpa using hu) fun h' k st' sb=>?_;have e2:((n - 1 - i:Nat):Int) - 1=(n:Int) - 1 - ((i+1:Nat):Int):=by omega
  rw [e2] at st';have I1:Inv X zz σ H { s with heap:=h',toks:=k }:=I.turned (t':=k) (fun b o hb e=>(sb.2 b hb).trans e) f0 f1 f3 f4 f5;refine x_12 (id st') fun o e c d=>?_;exact ⟨u,rfl,k9_ (s:={ s with heap:=h',toks:=k }) e c d (by decide) ⟨x,H,I1,ru,⟨rfl,fun ys hy=>by rw [I.tuple_inj hy hq];exact hx⟩,⟨hin,st'⟩,fun b hb=>(hf b hb).1⟩⟩
 done:=by
  intro X hP hw hK hc i zz s σ H E I hf st hg;subst hP hw hK;obtain ⟨f0,f1,f2,f3,f4,f5⟩:=hf it (by simp);obtain ⟨hin,hit⟩:=st;have hge:n<=i:=hg;have e1:(n:Int) - 1 - ((i:Nat):Int) = -1:=by omega
  rw [e1] at hit;exact cH_ (I.ok.hd hc) hit fun h' eb=>⟨rfl,I.turned (t':=s.toks) (fun b o hb e=>eb b o hb e) f0 f1 f3 f4 f5⟩
 self:=fun A i s Q E st h=>cj_ st.2 h
def pU_ (K:Frag) (ta:TA):TI:=fun σ H R=>ta σ H fun vs H1=>∃ (a:Addr) (xs:List V),vs=[.ref a]/\SqT K H1 a xs/\R (Itw K a xs.length) H1
theorem gR_ {X:Cx}{tg:Expr}{e:Expr}{ta:TA}{p pos:Pos} (hg:Gl X "reversed") (hm:X.mg "reversed"=none) (ha:PA X [e] ta) (hs:starEach [e] X.env=[(false,eval e X.env)]:=by rfl):PI X tg (.Call (.Name "reversed" p) [e] [] pos) (pU_ X.K ta):=by
 intro zz s σ H R I h;refine Call_ (dS_ I hg hm cO_ (PyProof.Rows.callWith_type1 (thn (ha pos zz s σ H _ I h) fun us s1 zq=>?_) hs rfl));refine x_22 zq fun vs H1 I1 r1 q1=>?_;refine x_22 q1 fun a xs e hq q=>?_;subst e;cases r1 with
 | cons r rr =>
 cases rr;cases r;refine x_12 (I1.tuple hq) fun zw rv p' hz=>?_;have hl:=rv.length;have hn:=dm_;have e1:((zw.toArray.size:Nat):Int) - 1=(xs.length:Int) - 1 - ((0:Nat):Int):=by simp only [size_toArray];omega
 refine c7_ p' (by rw [size_toArray];omega) fun k=>cj_ (l:=a) (i:=((zw.toArray.size:Nat):Int) - 1) ⟨_,get?_push_size _ rfl,rfl,rfl⟩ ?_;refine iI_ (tk:=k) I1 _ (jU_ a _ xs.length) ⟨zero_le _,?_⟩ q;rw [<- e1];exact ⟨_,get?_push_size _ rfl,rfl,rfl⟩
theorem hm_ {K:Frag}{a:Addr}{g:TG}{tb:TS}{D:Ends}{σ:St}{H1:Hp} (xs:List V) (Pv:Nat->St->Hp->Prop) (h0:Pv 0 σ H1) (hl : ∀ i σ H,i<=xs.length->Pv i σ H->SqL K H a xs)
  (hs : ∀ i x σ H,xs.reverse[i]? = some x->Pv i σ H->g x σ H fun σ2 H2=>tb { D with nx:=Pv (i+1),ct:=Pv (i+1),bk:=D.nx } σ2 H2) (hd : ∀ σ H,Pv xs.length σ H->D.nx σ H):lE_ g tb D σ (Itv K a xs.length) H1:=by
 refine ⟨fun i m σ H=>m=xs.length - i/\i<=xs.length/\Pv i σ H,⟨xs.length,by simp,zero_le _,h0⟩,?_⟩
 rintro i m σ H ⟨rfl,hi,p⟩
 have q:=hl i σ H hi p;by_cases hlt:i<xs.length
 ·have hx:xs[xs.length - 1 - i]? = some xs[xs.length - 1 - i]:=getElem?_eq_getElem (by omega)
  refine .inr ⟨⟨hlt,xs,_,q,hx⟩,Pv (i+1),fun σ' H' p'=>⟨xs.length - (i+1),by omega,rfl,hlt,p'⟩,fun x H' y=>?_⟩;obtain ⟨e,y⟩:=y;subst e;refine hs i x σ _ ?_ p;rw [getElem?_reverse hlt];exact y xs q
 have e:i=xs.length:=by omega
 subst e;exact .inl ⟨Nat.le_refl _,hd σ H p⟩
theorem jE_ {K:Frag}{a:Addr}{g:TG}{tb:TS}{D:Ends}{σ:St}{H1:Hp} (xs:List V) (Pv:Nat->St->Hp->Prop) (h0:Pv 0 σ H1) (hl : ∀ i σ H,i<=xs.length->Pv i σ H->SqT K H a xs)
  (hs : ∀ i x σ H,xs.reverse[i]? = some x->Pv i σ H->g x σ H fun σ2 H2=>tb { D with nx:=Pv (i+1),ct:=Pv (i+1),bk:=D.nx } σ2 H2) (hd : ∀ σ H,Pv xs.length σ H->D.nx σ H):lE_ g tb D σ (Itw K a xs.length) H1:=by
 refine ⟨fun i m σ H=>m=xs.length - i/\i<=xs.length/\Pv i σ H,⟨xs.length,by simp,zero_le _,h0⟩,?_⟩
 rintro i m σ H ⟨rfl,hi,p⟩
 have q:=hl i σ H hi p;by_cases hlt:i<xs.length
 ·have hx:xs[xs.length - 1 - i]? = some xs[xs.length - 1 - i]:=getElem?_eq_getElem (by omega)
  refine .inr ⟨⟨hlt,xs,_,q,rfl,hx⟩,Pv (i+1),fun σ' H' p'=>⟨xs.length - (i+1),by omega,rfl,hlt,p'⟩,fun x H' y=>?_⟩;obtain ⟨e,y⟩:=y;subst e;refine hs i x σ _ ?_ p;rw [getElem?_reverse hlt];exact y xs q
 have e:i=xs.length:=by omega
 subst e;exact .inl ⟨Nat.le_refl _,hd σ H p⟩
theorem jG_ {K:Frag}{a:Addr}{g:TG}{tb:TS}{D:Ends}{σ:St}{H1:Hp} (xs:List V) (Pv:Nat->St->Hp->Prop) (h0:Pv 0 σ H1) (hl : ∀ i σ H,i<=xs.length->Pv i σ H->SqL K H a xs)
  (hs : ∀ i x σ H (T:Addr),xs[i]? = some x->Pv i σ H->H T=none->g (.ref T) σ (upd H T (.tup [.int (i:Nat),x])) fun σ2 H2=>tb { D with nx:=Pv (i+1),ct:=Pv (i+1),bk:=D.nx } σ2 H2) (hd : ∀ σ H,Pv xs.length σ H->D.nx σ H):lE_ g tb D σ (Ite K a) H1:=by
 refine ⟨fun i m σ H=>m=xs.length - i/\i<=xs.length/\Pv i σ H,⟨xs.length,by simp,zero_le _,h0⟩,?_⟩
 rintro i m σ H ⟨rfl,hi,p⟩
 have q:=hl i σ H hi p;by_cases hlt:i<xs.length
 ·have hx:xs[i]? = some xs[i]:=getElem?_eq_getElem hlt
  refine .inr ⟨⟨xs,_,q,hx⟩,Pv (i+1),fun σ' H' p'=>⟨xs.length - (i+1),by omega,rfl,hlt,p'⟩,fun v H' y=>?_⟩;refine x_23 y fun T x zr2 hT zr4 hy=>?_;subst zr2;subst zr4;exact hs i x σ H T (hy xs q) p hT
 have e:i=xs.length:=by omega
 subst e;exact .inl ⟨⟨xs,q,Nat.le_refl _⟩,hd σ H p⟩
def dM_ (w:World) (p:Str×V) (e:DictEntry):Prop:=e.hash=PyData.keyHash w.params p.1/\(∃ t,e.key = .str p.1 t)/\RelV p.2 e.val
structure MDict (w:World) (K:Frag) (a:Addr) (tab:List (Str×V)):Prop where
 ex : ∃ (es:Array DictEntry) (ep:Nat),K.lookup a=some { cls := .type "dict",data := .dict es ep }/\Paired (dM_ w) tab es.toList
 nd:(tab.map (·.1)).Nodup
 ns:(a == sysModules)=false
def tkv (tab:List (Str×V)):List (Key×V):=tab.map fun p=>(Sum.inr p.1,p.2)
def bx_ (tab:List (Str×V)) (x:Str):Option V:=(tab.find? fun p=>decide (p.1=x)).map (·.2)
theorem hB_ (x:Str) : ∀ tab:List (Str×V),valV (tkv tab) (Sum.inr x)=bx_ tab x
 | []=>rfl
 | p::r=>by
  have ih:=hB_ x r;show valV ((Sum.inr p.1,p.2)::tkv r) _=_;unfold bx_;by_cases h:p.1=x
  ·rw [im_ (by rw [h]),find?_cons]
   simp [h]
  rw [in_ (fun e=>h (Sum.inr.inj e)),find?_cons,decide_eq_false h];exact ih
theorem fy_ {P:Program}{w:World} : ∀ {tab:List (Str×V)}{es:List DictEntry},Paired (dM_ w) tab es->∃ vs:List (Key×Value),KV (tkv tab) vs/\Pairs (bK_ P w) es vs/\(∀ e∈es,∃ k,(bK_ P w).is k e.key=true/\e.hash=(bK_ P w).hash k)/\vs.map (·.1)=(tkv tab).map (·.1)
 | _,_,.nil=>⟨[],.nil,.nil,fun e he=>by simp at he,rfl⟩
 | p::tab,e::es,.cons ⟨h1,⟨t,h2⟩,h3⟩ r=>by
  refine x_13 (fy_ (P:=P) r) fun vs k1 k2 k3 k4=>?_;have hk:(bK_ P w).is (Sum.inr p.1) e.key=true:=by rw [h2];exact eH_ P w p.1 t
  refine ⟨(Sum.inr p.1,e.val)::vs,.cons ⟨rfl,h3⟩ k1,.cons hk rfl k2,fun e' he'=>?_,?_⟩
  ·rcases mem_cons.mp he' with z | z
   ·subst z
    exact ⟨Sum.inr p.1,hk,h1⟩
   exact k3 e' z
  show Sum.inr p.1::vs.map (·.1)=Sum.inr p.1::(tkv tab).map (·.1);rw [k4]
theorem g2_ : ∀ {l:List Str},l.Nodup->(l.map fun x=>(Sum.inr x:Key)).Nodup
 | [],_ => .nil
 | x::r,h=>by
  obtain ⟨h1,h2⟩:=nodup_cons.mp h;refine nodup_cons.mpr ⟨fun m=>?_,g2_ h2⟩;obtain ⟨y,hy,e⟩:=mem_map.mp m;exact h1 (Sum.inr.inj e ▸ hy)
theorem MDict.dictOf {P:Program}{w:World}{K:Frag}{a:Addr}{tab:List (Str×V)} (m:MDict w K a tab) {h:Heap} (X:K.In h) : ∃ vs:List (Key×Value),KV (tkv tab) vs/\h.DictOf (bK_ P w) a vs:=by
 refine x_21 m.ex fun es ep lk pr=>?_;refine x_13 (fy_ (P:=P) pr) fun vs k1 k2 k3 k4=>?_;refine ⟨vs,k1,_,es,ep,X _ _ lk,⟨rfl,rfl,rfl⟩,rfl,fun e he=>k3 e (Array.mem_toList_iff.mpr he),k2,?_⟩;rw [k4];unfold tkv;rw [map_map];have:=m.nd;have e:((·.1) ∘ fun (p:Str×V)=>((Sum.inr p.1:Key),p.2))=(fun x=>(Sum.inr x:Key)) ∘ (·.1):=rfl;rw [e,<- map_map];exact g2_ this
section
variable {X:Cx}{o i:Expr}{pos:Pos}{td ty:TE}
def is_ (w:World) (K:Frag) (td ty:TE):TE:=fun σ H Q=>td σ H fun x H1=>ty σ H1 fun y H2=>∃ a tab z v,x = .ref a/\y = .str z/\MDict w K a tab/\bx_ tab z=some v/\Q v H2
def nN_ (w:World) (K:Frag) (ty td:TE):TE:=fun σ H Q=>ty σ H fun y H1=>td σ H1 fun x H2=>∃ a tab z,x = .ref a/\y = .str z/\MDict w K a tab/\Q (.bl (bx_ tab z).isSome) H2
theorem fS_ (ho:PE X o td) (hi:PE X i ty) (hs:NoSl i:=by intro _ _;rfl):PE X (.Subscript o i pos) (is_ X.w X.K td ty):=by
 intro zz s σ H Q I h;refine nQ_ PySem.F.slot_dict_getitem.lookup hs (thn (ho zz s σ H _ I h) fun u s1 ⟨x,H1,I1,rx,q1⟩=>thn (hi zz s1 σ H1 _ I1 q1) fun iv s2 zq=>?_);refine x_22 zq fun y H2 I2 ry zz0=>?_;refine x_40 zz0 fun a tab z v zy=>x_04 zy fun ex ey md hv q2=>?_;subst ex ey;obtain rfl:u=Value.ref a:=rx;obtain ⟨vs,rel,dd⟩:=md.dictOf (P:=X.prog) I2.kIn;refine ⟨dd.typeIs,?_⟩;obtain ⟨w',hw,rw'⟩:=RelO.some_of (v:=v) (o:=valueAt vs (Sum.inr z)) (by rw [<- hv,<- hB_];exact rel.val _);exact wpAny_getItem_of (pO_ (k:=Sum.inr z) ry) dd.mapOf hw ⟨v,H2,I2.tok _,rw',q2⟩
theorem oc_ (hi:PE X i ty) (ho:PE X o td):PC X .In i o (nN_ X.w X.K ty td):=by
 intro zz s σ H Q I h;refine thn (hi zz s σ H _ I h) fun iv s1 ⟨y,H1,I1,ry,q1⟩=>thn (ho zz s1 σ H1 _ I1 q1) fun u s2 zq=>?_;refine x_22 zq fun x H2 I2 rx zz0=>?_;refine x_33 zz0 fun a tab z ex ey md q2=>?_;subst ex ey;obtain rfl:u=Value.ref a:=rx;obtain ⟨vs,rel,dd⟩:=md.dictOf (P:=X.prog) I2.kIn;refine wpAny_in_of (pO_ (k:=Sum.inr z) ry) md.ns dd.mapOf ?_;rw [<- (rel.val (Sum.inr z)).isSome_eq,hB_];exact ⟨.bl (bx_ tab z).isSome,H2,I2.tok _,rfl,q2⟩
theorem ku_ (hi:PE X i ty) (ho:PE X o td) (h1:behindInMarks .In o=false:=by rfl):PT X (.Compare i [.In] [o] pos) (tB (nN_ X.w X.K ty td)):=nf_ (oc_ hi ho) h1
end
end L2
namespace M
open PySem PySem.Spec PyProof.Rows L2 TL
inductive Tr where
 | mk (form:List Nat) (words:List (List Nat)) (b e:Nat) (parts:List Tr)
noncomputable def Tr.form:Tr->List Nat
 | .mk f _ _ _ _=>f
noncomputable def Tr.words:Tr->List (List Nat)
 | .mk _ w _ _ _=>w
noncomputable def Tr.b:Tr->Nat
 | .mk _ _ b _ _=>b
noncomputable def Tr.e:Tr->Nat
 | .mk _ _ _ e _=>e
noncomputable def Tr.parts:Tr->List Tr
 | .mk _ _ _ _ p=>p
noncomputable def di_ (f:Str) (w p:Addr) (b e:Int):List (Str×V):=[("form",.str f),("words",.ref w),("parts",.ref p),("begin",.int b),("end",.int e)]
mutual
inductive TreeAt (Cn:Addr) (H:Hp):Addr->Tr->List Addr->Prop
 | mk {a dx w p:Addr}{f:List Nat}{ws:List (List Nat)}{b e:Nat}{as:List Addr}{ps:List Tr}{F:List Addr} :
   H a=some (.ins Cn dx (di_ (S f) w p (b:Int) (e:Int)))->H w=some (.lst ((ws.map S).map V.str))->H p=some (.lst (as.map V.ref))->TreesAt Cn H as ps F->TreeAt Cn H a (.mk f ws b e ps) (a::w::p::F)
inductive TreesAt (Cn:Addr) (H:Hp):List Addr->List Tr->List Addr->Prop
 | nil:TreesAt Cn H [] [] []
 | cons {a:Addr}{t:Tr}{F G:List Addr}{as:List Addr}{ts:List Tr}:TreeAt Cn H a t F->TreesAt Cn H as ts G->TreesAt Cn H (a::as) (t::ts) (F++G)
end
theorem jW_ {Cn:Addr}{H H':Hp}:(∀ {a:Addr}{t:Tr}{F:List Addr},TreeAt Cn H a t F->(∀ b∈F,∀ o,H b=some o->H' b=some o)->TreeAt Cn H' a t F)/\∀ {as:List Addr}{ts:List Tr}{F:List Addr},TreesAt Cn H as ts F->(∀ b∈F,∀ o,H b=some o->H' b=some o)->TreesAt Cn H' as ts F:=by
 refine ⟨fun h=>TreeAt.rec (motive_1:=fun a t F _=>(∀ b∈F,∀ o,H b=some o->H' b=some o)->TreeAt Cn H' a t F) (motive_2:=fun as ts F _=>(∀ b∈F,∀ o,H b=some o->H' b=some o)->TreesAt Cn H' as ts F) ?_ ?_ ?_ h,fun h=>TreesAt.rec (motive_1:=fun a t F _=>(∀ b∈F,∀ o,H b=some o->H' b=some o)->TreeAt Cn H' a t F) (motive_2:=fun as ts F _=>(∀ b∈F,∀ o,H b=some o->H' b=some o)->TreesAt Cn H' as ts F) ?_ ?_ ?_ h⟩
 all_goals first
  | exact fun h1 h2 h3 _ ih k => .mk (k _ (by simp) _ h1) (k _ (by simp) _ h2) (k _ (by simp) _ h3) (ih fun b hb=>k b (by simp [hb]))
  | exact fun _ => .nil
  | exact fun _ _ i1 i2 k => .cons (i1 fun b hb=>k b (mem_append_left _ hb)) (i2 fun b hb=>k b (mem_append_right _ hb))
theorem TreeAt.keep {Cn:Addr}{H H':Hp}{a:Addr}{t:Tr}{F:List Addr} (h:TreeAt Cn H a t F) (k : ∀ b∈F,∀ o,H b=some o->H' b=some o):TreeAt Cn H' a t F:=jW_.1 h k
theorem gy_ {Cn:Addr}{H:Hp}:(∀ {a:Addr}{t:Tr}{F:List Addr},TreeAt Cn H a t F->∀ b∈F,∃ o,H b=some o)/\∀ {as:List Addr}{ts:List Tr}{F:List Addr},TreesAt Cn H as ts F->∀ b∈F,∃ o,H b=some o:=by
 refine ⟨fun h=>TreeAt.rec (motive_1:=fun _ _ F _=>∀ b∈F,∃ o,H b=some o) (motive_2:=fun _ _ F _=>∀ b∈F,∃ o,H b=some o) ?_ ?_ ?_ h,fun h=>TreesAt.rec (motive_1:=fun _ _ F _=>∀ b∈F,∃ o,H b=some o) (motive_2:=fun _ _ F _=>∀ b∈F,∃ o,H b=some o) ?_ ?_ ?_ h⟩
 all_goals first
  | exact fun h1 h2 h3 _ ih b hb=>(by simp only [mem_cons] at hb;rcases hb with rfl | rfl | rfl | hb;exact ⟨_,h1⟩;exact ⟨_,h2⟩;exact ⟨_,h3⟩;exact ih b hb)
  | exact fun _ _ i1 i2 b hb=>(mem_append.mp hb).elim (i1 b) (i2 b)
  | exact fun _ hb=>absurd hb (not_mem_nil)
theorem TreeAt.here {Cn:Addr}{H:Hp}{a:Addr}{t:Tr}{F:List Addr} (h:TreeAt Cn H a t F) : ∀ b∈F,∃ o,H b=some o:=gy_.1 h
theorem TreesAt.here {Cn:Addr}{H:Hp}{as:List Addr}{ts:List Tr}{F:List Addr} (h:TreesAt Cn H as ts F) : ∀ b∈F,∃ o,H b=some o:=gy_.2 h
theorem TreeAt.same {Cn:Addr}{H H':Hp}{a:Addr}{t:Tr}{F:List Addr} (h:TreeAt Cn H a t F) (s:Same H H'):TreeAt Cn H' a t F:=h.keep fun b _ o e=>s b o e
theorem TreesAt.length {Cn:Addr}{H:Hp}{as:List Addr}{ts:List Tr}{F:List Addr} (h:TreesAt Cn H as ts F):as.length=ts.length :=
 TreesAt.rec (motive_1:=fun _ _ _ _=>True) (motive_2:=fun as ts _ _=>as.length=ts.length) (fun _ _ _ _ _=>trivial) rfl (fun _ _ _ ih=>congrArg (· + 1) ih) h
noncomputable def f9_:Vaunid.Leaf->String
 | .name _=>"name"
 | .num _=>"number"
 | .truth b=>if b=true then "true" else "false"
 | .nil=>"nil"
def ha_:Vaunid.Leaf->List (List Nat)
 | .name x=>[x]
 | .num v=>[shownLit v]
 | _=>[]
noncomputable def la_:Term->List Nat
 | .leaf l=>Vaunid.txt (f9_ l)
 | .one o _=>Vaunid.txt (hU_ o).word
 | .two o _ _=>Vaunid.txt (el_ o).word
 | .three o _ _ _=>Vaunid.txt (match o with | .cond=>Fm.if_.word | .fold=>Fm.fold.word)
 | .fn _ _=>Vaunid.txt Fm.fn.word
 | .rec_ _ _ _=>Vaunid.txt Fm.rec_.word
 | .let_ _ _ _=>Vaunid.txt Fm.let_.word
 | .case _ _ _ _ _=>Vaunid.txt Fm.case.word
noncomputable def ei_:Term->List (List Nat)
 | .leaf l=>ha_ l
 | .one (.pow n) _=>[decimalInt n]
 | .fn x _=>[x]
 | .rec_ f x _=>[f,x]
 | .let_ x _ _=>[x]
 | .case _ _ h t _=>[h,t]
 | _=>[]
noncomputable def eC_:Term->List Term
 | .leaf _=>[]
 | .one _ a=>[a]
 | .two _ a b=>[a,b]
 | .three _ a b c=>[a,b,c]
 | .fn _ a=>[a]
 | .rec_ _ _ a=>[a]
 | .let_ _ a b=>[a,b]
 | .case l a _ _ b=>[l,a,b]
mutual
inductive Rep:Term->Tr->Prop
 | mk {t:Term}{b e:Nat}{ps:List Tr}:Reps (eC_ t) ps->Rep t (.mk (la_ t) (ei_ t) b e ps)
inductive Reps:List Term->List Tr->Prop
 | nil:Reps [] []
 | cons {t:Term}{r:Tr}{ts:List Term}{rs:List Tr}:Rep t r->Reps ts rs->Reps (t::ts) (r::rs)
end
mutual
noncomputable def lx_:Tr->List Nat
 | .mk _ _ b _ ps=>b::eW_ ps
noncomputable def eW_:List Tr->List Nat
 | []=>[]
 | t::r=>lx_ t++eW_ r
end
noncomputable def Fm.kt:Fm->List String
 | .fn=>["name","body"] | .rec_=>["name","name","body"] | .let_=>["name","part","body"] | .if_=>["part","part","part"] | .app=>["part","part"] | .pair=>["part","part"] | .fst=>["part"] | .snd=>["part"] | .cons=>["part","part"]
 | .case=>["part","part","name","name","body"] | .fold=>["part","part","part"] | .plus=>["part","part"] | .minus=>["part","part"] | .times=>["part","part"] | .over=>["part","part"] | .less=>["part","part"] | .equal=>["part","part"]
 | .floor=>["part","part"] | .rest=>["part","part"] | .root=>["part"] | .pow=>["part","power"]
open Vaunid (Token txt word sign)
inductive SK where
 | n | p (body:Bool) | pw
 deriving DecidableEq
noncomputable def SK.w:SK->String
 | .n=>"name" | .p false=>"part" | .p true=>"body" | .pw=>"power"
def SK.k:SK->Kind
 | .n => .name | .p _ => .part | .pw => .power
noncomputable def Fm.sk:Fm->List SK
 | .fn=>[.n,.p true] | .rec_=>[.n,.n,.p true] | .let_=>[.n,.p false,.p true] | .if_=>[.p false,.p false,.p false] | .app=>[.p false,.p false] | .pair=>[.p false,.p false] | .fst=>[.p false] | .snd=>[.p false] | .cons=>[.p false,.p false]
 | .case=>[.p false,.p false,.n,.n,.p true] | .fold=>[.p false,.p false,.p false] | .plus=>[.p false,.p false] | .minus=>[.p false,.p false] | .times=>[.p false,.p false] | .over=>[.p false,.p false] | .less=>[.p false,.p false] | .equal=>[.p false,.p false]
 | .floor=>[.p false,.p false] | .rest=>[.p false,.p false] | .root=>[.p false] | .pow=>[.p false,.pw]
structure PF where
 form:List Nat
 ws:List (List Nat)
 b:Nat
 ts:List Tr
 ks:List SK
 c:String
 d:Nat
noncomputable def sent (hl:Nat):Token:={ tok := .sign (txt "end"),start:=hl,halt_:=hl }
noncomputable def aA_:Vaunid.Tok->List Nat
 | .word w=>w
 | _=>[]
def qs_:Vaunid.Tok->List Nat
 | .num v _=>shownLit v
 | _=>[]
noncomputable def PF.done (pf:PF) (e:Nat):Tr := .mk pf.form pf.ws pf.b e pf.ts
def Dl (c:Nat):Prop:=c≠32/\c≠41
def NoD (w:List Nat):Prop:=∀ c∈w,Dl c
def ij_:Vaunid.Tok->Prop
 | .word w=>Vaunid.isWord w=true/\w.length<=12
 | .num v d=>(∀ m,v.measure=some m->m≠[]/\m.length<=10000)/\v.top.natAbs<10 ^ 12/\v.low<10 ^ 12/\(∀ n,d=some n->v=⟨n,1,none⟩)/\∀ m,v.measure=some m->NoD m
 | .sign s=>s∈Vaunid.coreSigns\/s=txt "end"
mutual
noncomputable def mK_:Tr->Nat
 | .mk _ _ _ _ ps=>1+lj_ ps
noncomputable def lj_:List Tr->Nat
 | []=>0
 | t::r=>max (mK_ t) (lj_ r)
end
open Vaunid (Token txt word sign isDigit isSmall inWord)
theorem mi_ {s:List Nat}{c:Nat}{r:List Nat} (e:s=c::r) (hc:isDigit c=true) {o u:Nat} (h:(numberText s).2.1=some (o,u)):o<10 ^ 12/\u<10 ^ 12/\((numberText s).1=1->u=1):=by
 have key : ∀ (b:Bool) (T L o u:Nat),(if b=true then some (T / T.gcd L,L / T.gcd L) else none)=some (o,u)->b=true/\T / T.gcd L=o/\L / T.gcd L=u:=by
  intro b T L o u h;cases b with
  | true=>rw [if_pos rfl] at h;cases h;exact ⟨rfl,rfl,rfl⟩
  | false=>cases h
 unfold numberText at h ⊢;dsimp only at h ⊢;obtain ⟨hg,e1,e2⟩:=key _ _ _ _ _ h;rw [e1,e2] at hg;simp only [and_eq_true,decide_eq_true_eq,fits] at hg;refine ⟨hg.2.2.2.1,hg.2.2.2.2,fun h1=>?_⟩;have ha:1<=(s.takeWhile isDigit).length:=by
  rw [e,takeWhile_cons,hc];exact Nat.succ_le_succ (zero_le _)
 by_cases hx:(secondRow (s.dropWhile isDigit)).1=0
 ·rw [hx] at e2
  simp at e2;exact e2.symm
 rw [if_neg hx] at h1;omega
theorem all0 {α:Type}{P:α->Prop} : ∀ x∈([]:List α),P x:=fun _ m=>absurd m not_mem_nil
theorem allc {α:Type}{P:α->Prop}{i:α}{l:List α} (h:P i) (t : ∀ x∈l,P x) : ∀ x∈i::l,P x:=forall_mem_cons.mpr ⟨h,t⟩
theorem hg_ {c:Nat} (h:Vaunid.inWord c=true):Dl c/\c≠40:=by
 unfold Vaunid.inWord Vaunid.isSmall Vaunid.isDigit at h;simp only [or_eq_true,and_eq_true,decide_eq_true_eq,beq_iff_eq] at h;exact ⟨⟨by omega,by omega⟩,by omega⟩
theorem NoD.app {v w:List Nat} (a:NoD v) (b:NoD w):NoD (v++w):=fun c m=>(mem_append.mp m).elim (a c) (b c)
theorem NoD.cons {c:Nat}{w:List Nat} (a:Dl c) (b:NoD w):NoD (c::w):=allc a b
def Ahd (t s:List Nat):Prop:=∃ p,t=p++s/\NoD p
theorem mJ_ (c:Nat) (h:Vaunid.isDigit c=true):Dl c:=by
 unfold Vaunid.isDigit at h;rw [and_eq_true,decide_eq_true_eq,decide_eq_true_eq] at h;exact ⟨by omega,by omega⟩
theorem Ahd.tw {p:Nat->Bool} (hp : ∀ c,p c=true->Dl c) (t:List Nat):Ahd t (t.dropWhile p):=⟨_,takeWhile_append_dropWhile.symm,fun c m=>hp c (dN_ t c m)⟩
theorem Ahd.trans {a b c:List Nat} (h:Ahd a b) (g:Ahd b c):Ahd a c:=by
 obtain ⟨p,e1,n1⟩:=h;obtain ⟨q,e2,n2⟩:=g;exact ⟨p++q,by rw [e1,e2,append_assoc],n1.app n2⟩
theorem Ahd.one {c:Nat} (h:Dl c) (s:List Nat):Ahd (c::s) s:=⟨[c],rfl,NoD.cons h all0⟩
theorem kz_ {t s:List Nat} (h:powerText t=some s):Ahd t s:=by
 unfold powerText at h;have key : ∀ u:List Nat,(if (u.takeWhile Vaunid.isDigit).length=1\/(u.takeWhile Vaunid.isDigit).length=2 then some (u.dropWhile Vaunid.isDigit) else none)=some s->Ahd u s:=fun u h=>by
  split at h
  ·injection h with h
   subst h;exact Ahd.tw mJ_ _
  cases h
 dsimp only at h;split at h
 ·exact (Ahd.one ⟨by decide,by decide⟩ _).trans (key _ h)
 exact key _ h
theorem jJ_ {t s:List Nat} (h:factorText t=some s):Ahd t s:=by
 unfold factorText at h;cases t with
 | nil=>cases h
 | cons c r =>
 dsimp only at h;split at h
 ·rename_i e
  injection h with h;subst h;exact .one (by rw [e];exact ⟨by decide,by decide⟩) _
 split at h
 ·cases h
 split at h
 ·cases h
 have a:=Ahd.tw (fun c h=>(hg_ h).1) (c::r);split at h
 ·rename_i s' e
  rw [e] at a;exact a.trans ((Ahd.one ⟨by decide,by decide⟩ _).trans (kz_ h))
 injection h with h;subst h;exact a
theorem hZ_ : ∀ (n:Nat) (t:List Nat),measureText n t=true->NoD t:=by
 intro n
 induction n with
 | zero=>intro t h;cases h
 | succ n ih =>
 intro t h;unfold measureText at h;cases q:factorText t with
 | none=>rw [q] at h;cases h
 | some s =>
 obtain ⟨p,e,np⟩:=jJ_ q;rw [q] at h;rw [e];refine np.app ?_;cases s with
 | nil=>exact all0
 | cons c r =>
 have h:((c == 46 || c == 47) && measureText n r)=true:=h;rw [and_eq_true,or_eq_true,beq_iff_eq,beq_iff_eq] at h;exact NoD.cons ⟨by omega,by omega⟩ (ih r h.2)
noncomputable def gO_ (la:Addr) (i:Int):List (Str×V):=[("ahead",.ref la),("index",.int i)]
noncomputable def o9_ (k:Str) (o:Addr) (d:Int):List (Str×V):=[("kind",.str k),("owner",.ref o),("depth",.int d)]
def ay_ (xs:List Addr) (H H':Hp):Prop:=∀ a o,a∉xs->H a=some o->H' a=some o
theorem ay_.of {xs:List Addr}{H H':Hp} (s:Same H H'):ay_ xs H H':=fun a o _ e=>s a o e
theorem ay_.trans {xs:List Addr}{H H1 H2:Hp} (s:ay_ xs H H1) (r:ay_ xs H1 H2):ay_ xs H H2:=fun a o n e=>r a o n (s a o n e)
theorem ay_.more {xs ys:List Addr}{H H':Hp} (s:ay_ xs H H') (h : ∀ a∈xs,a∈ys):ay_ ys H H':=fun a o n e=>s a o (fun m=>n (h a m)) e
theorem ay_.upd {xs:List Addr}{H:Hp}{a:Addr}{o:HO} (h:a∈xs):ay_ xs H (L2.upd H a o):=fun b u n e=>by rw [ag_ (fun (z:b=a)=>n (z ▸ h))];exact e
theorem ay_.base {xs:List Addr}{H0 H H':Hp} (s:ay_ xs H H') (b:Same H0 H) (h : ∀ a∈xs,H0 a=none):Same H0 H':=fun a o e=>s a o (fun m=>by rw [h a m] at e;cases e) (b a o e)
structure Imm (H H':Hp):Prop where
 tok : ∀ a C dx g k b e c,H a=some (.ins C dx (c9_ g k b e c))->H' a=some (.ins C dx (c9_ g k b e c))
 amt : ∀ a C dx o u m,H a=some (.ins C dx (afs o u m))->H' a=some (.ins C dx (afs o u m))
theorem nJ_ {g:Int}{k:Str}{b e:Int}{c:V}{la:Addr}{i:Int}:c9_ g k b e c≠gO_ la i:=fun h=>by
 have:=congrArg (List.map Prod.fst) h;have q:([("group":Str),"kind","begin","end","content"]:List Str)=[("ahead":Str),"index"]:=this;exact absurd q (by left)
theorem lJ_ {g:Int}{k:Str}{b e:Int}{c:V}{f:Str}{w p:Addr}{b' e':Int}:c9_ g k b e c≠di_ f w p b' e':=fun h=>by
 have:=congrArg (List.map Prod.fst) h;have q:([("group":Str),"kind","begin","end","content"]:List Str)=[("form":Str),"words","parts","begin","end"]:=this;exact absurd q (by left)
theorem oY_ {o u:Int}{m:Str}{la:Addr}{i:Int}:afs o u m≠gO_ la i:=fun h=>by
 have:=congrArg (List.map Prod.fst) h;have q:([("over":Str),"under","measure"]:List Str)=[("ahead":Str),"index"]:=this;exact absurd q (by left)
theorem mO_ {o u:Int}{m:Str}{f:Str}{w p:Addr}{b' e':Int}:afs o u m≠di_ f w p b' e':=fun h=>by
 have:=congrArg (List.map Prod.fst) h;have q:([("over":Str),"under","measure"]:List Str)=[("form":Str),"words","parts","begin","end"]:=this;exact absurd q (by left)
inductive NT (H:Hp) (x:Addr):Prop
 | lst {l:List V}:H x=some (.lst l)->NT H x
 | row {C dx la:Addr}{i:Int}:H x=some (.ins C dx (gO_ la i))->NT H x
 | node {C dx:Addr}{f:Str}{w p:Addr}{b e:Int}:H x=some (.ins C dx (di_ f w p b e))->NT H x
theorem NT.tok {H:Hp}{x C dx:Addr}{g:Int}{k:Str}{b e:Int}{c:V} (h:NT H x) (q:H x=some (.ins C dx (c9_ g k b e c))):False:=by
 rcases h with h | h | h
 ·rw [h] at q;cases q
 ·rw [h] at q;injection q with q;injection q with _ _ q;exact nJ_ q.symm
 rw [h] at q;injection q with q;injection q with _ _ q;exact lJ_ q.symm
theorem NT.amt {H:Hp}{x C dx:Addr}{o u:Int}{m:Str} (h:NT H x) (q:H x=some (.ins C dx (afs o u m))):False:=by
 rcases h with h | h | h
 ·rw [h] at q;cases q
 ·rw [h] at q;injection q with q;injection q with _ _ q;exact oY_ q.symm
 rw [h] at q;injection q with q;injection q with _ _ q;exact mO_ q.symm
theorem Imm.of {xs:List Addr}{H H':Hp} (s:ay_ xs H H') (h : ∀ x∈xs,NT H x):Imm H H' :=
 ⟨fun a C dx g k b e c q=>s a _ (fun m=>(h a m).tok q) q,fun a C dx o u m q=>s a _ (fun n=>(h a n).amt q) q⟩
def qg_ (Ca:Addr) (H:Hp) (c:V):Vaunid.Tok->Prop
 | .sign _=>True
 | k=>hA_ Ca H c k
def TokB (Ca Ct:Addr) (H:Hp) (a:Addr) (k:Token):Prop:=∃ dx c,H a=some (.ins Ct dx (c9_ (Vaunid.sortOf k.tok) (S (kindOf k.tok)) (k.start:Int) (k.halt_:Int) c))/\qg_ Ca H c k.tok
theorem cK_.b {Ca Ct:Addr}{H:Hp}{a:Addr}{k:Token} (h:cK_ Ca Ct H a k):TokB Ca Ct H a k:=by
 obtain ⟨dx,c,e,q⟩:=h;refine ⟨dx,c,e,?_⟩;cases hk:k.tok with
 | word w=>rw [hk] at q;exact q
 | num v d=>rw [hk] at q;exact q
 | sign x=>trivial
theorem TokB.imm {Ca Ct:Addr}{H H':Hp}{a:Addr}{k:Token} (h:TokB Ca Ct H a k) (s:Imm H H'):TokB Ca Ct H' a k:=by
 obtain ⟨dx,c,e,q⟩:=h;refine ⟨dx,c,s.tok _ _ _ _ _ _ _ _ e,?_⟩;cases hk:k.tok with
 | word w=>rw [hk] at q;exact q
 | num v d=>rw [hk] at q;obtain ⟨b,e1,dx',e2⟩:=q;exact ⟨b,e1,dx',s.amt _ _ _ _ _ _ e2⟩
 | sign x=>trivial
def bV_ (Ca Ct Cr:Addr) (H:Hp) (row la:Addr) (l:Toks):Prop:=∃ (dx:Addr) (as:List Addr) (i:Nat),H row=some (.ins Cr dx (gO_ la (i:Int)))/\H la=some (.lst (as.map V.ref))/\Paired (fun a k=>TokB Ca Ct H a k) (as.drop i) l
theorem bV_.keep {Ca Ct Cr:Addr}{H H':Hp}{row la:Addr}{l:Toks} (h:bV_ Ca Ct Cr H row la l) {xs:List Addr} (s:ay_ xs H H') (nt : ∀ x∈xs,NT H x) (n1:row∉xs) (n2:la∉xs):bV_ Ca Ct Cr H' row la l:=by
 obtain ⟨dx,as,i,h1,h2,h3⟩:=h;exact ⟨dx,as,i,s _ _ n1 h1,s _ _ n2 h2,Paired.mapP h3 fun a k z=>z.imm (Imm.of s nt)⟩
theorem bV_.same {Ca Ct Cr:Addr}{H H':Hp}{row la:Addr}{l:Toks} (h:bV_ Ca Ct Cr H row la l) (s:Same H H'):bV_ Ca Ct Cr H' row la l:=h.keep (xs:=[]) (ay_.of s) (by simp) (by simp) (by simp)
theorem bV_.nt {Ca Ct Cr:Addr}{H:Hp}{row la:Addr}{l:Toks} (h:bV_ Ca Ct Cr H row la l):NT H row:=let ⟨_,_,_,h1,_,_⟩:=h;.row h1
def mR_ (Cs:Addr) (H:Hp) (ss:List Addr) (ks:List String) (o:Addr) (d:Nat):Prop:=Paired (fun s k=>∃ dx,H s=some (.ins Cs dx (o9_ (ofString k) o (d:Int)))) ss ks
theorem mR_.here {Cs:Addr}{H:Hp}{o:Addr}{d:Nat}{ss:List Addr}{ks:List String} (h:mR_ Cs H ss ks o d) : ∀ a∈ss,∃ u,H a=some u:=by
 unfold mR_ at h
 induction h with
 | nil=>intro a m;cases m
 | cons h t ih =>
 obtain ⟨dx,e⟩:=h;intro a m;rcases mem_cons.mp m with q | q
 ·exact ⟨_,q ▸ e⟩
 exact ih a q
structure FrAt (Cn Cs:Addr) (H:Hp) (n:Addr) (pf:PF) (next ss:List Addr) (dx wl pl:Addr) (as F:List Addr) (e:Nat):Prop where
 node:H n=some (.ins Cn dx (di_ (S pf.form) wl pl (pf.b:Int) (e:Int)))
 words:H wl=some (.lst ((pf.ws.map S).map V.str))
 parts:H pl=some (.lst ((as++next).map V.ref))
 trees:TreesAt Cn H as pf.ts F
 steps:mR_ Cs H ss (pf.ks.map SK.w++[pf.c]) n pf.d
theorem FrAt.here {Cn Cs:Addr}{H:Hp}{n:Addr}{pf:PF}{next ss:List Addr}{dx wl pl:Addr}{as F:List Addr}{e:Nat} (h:FrAt Cn Cs H n pf next ss dx wl pl as F e) : ∀ a∈(n::wl::pl::F)++ss,∃ u,H a=some u:=fun a m=>by
 rcases mem_append.mp m with m | m
 ·rcases mem_cons.mp m with q | m
  ·exact ⟨_,q ▸ h.node⟩
  rcases mem_cons.mp m with q | m
  ·exact ⟨_,q ▸ h.words⟩
  rcases mem_cons.mp m with q | m
  ·exact ⟨_,q ▸ h.parts⟩
  exact h.trees.here a m
 exact h.steps.here a m
inductive Stk (Cn Cs:Addr) (H:Hp) (wh:Addr):List PF->List Addr->List Addr->List Addr->Prop
 | bot {pf:PF}{next ss:List Addr}{dx wl pl:Addr}{as F:List Addr}{e:Nat}:FrAt Cn Cs H wh pf next ss dx wl pl as F e->Stk Cn Cs H wh [pf] next ss (wh::wl::pl::F)
 | cons {n:Addr}{pf g:PF}{r:List PF}{next ss ss2 own2:List Addr}{dx wl pl:Addr}{as F:List Addr}{e:Nat}:FrAt Cn Cs H n pf next ss dx wl pl as F e->Stk Cn Cs H wh (g::r) [n] ss2 own2->Stk Cn Cs H wh (pf::g::r) next (ss++ss2) ((n::wl::pl::F)++own2)
theorem Stk.here {Cn Cs:Addr}{H:Hp}{wh:Addr}{fs:List PF}{next ss own:List Addr} (h:Stk Cn Cs H wh fs next ss own) : ∀ a∈own++ss,∃ u,H a=some u:=by
 induction h with
 | bot h=>exact h.here
 | cons h t ih =>
 intro a m;rw [mem_append,mem_append,mem_append] at m;rcases m with (m | m) | (m | m)
 ·exact h.here a (mem_append_left _ m)
 ·exact ih a (mem_append_left _ m)
 ·exact h.here a (mem_append_right _ m)
 exact ih a (mem_append_right _ m)
theorem nI_ (a b:String):Vaunid.txt (a++b)=Vaunid.txt a++Vaunid.txt b:=by
 unfold Vaunid.txt;rw [String.toList_append,map_append]
theorem jT_ (n:Nat):Vaunid.txt (Nat.repr n)=decimal n:=by
 unfold Vaunid.txt decimal Nat.repr;rw [String.toList_ofList]
theorem nH_ (z:Int):Vaunid.txt (toString z)=decimalInt z:=by
 unfold decimalInt;cases z with
 | ofNat m =>
  rw [if_neg (show ¬ (Int.ofNat m<0) from Int.not_lt.mpr (Int.natCast_nonneg m))];exact jT_ m
 | negSucc m =>
 rw [if_pos (by omega)];show Vaunid.txt ("-"++Nat.repr (m+1))=_;rw [nI_,jT_];rfl
theorem str_int (z:Int):ofString (toString z)=S (decimalInt z):=by rw [bM_,nH_]
theorem dc_ {z:Int} (h:z.natAbs<10 ^ 12):z.natAbs.log2<1920:=by
 by_cases h0:z.natAbs=0
 ·rw [h0];decide
 exact Nat.lt_trans ((Nat.log2_lt h0).mpr (Nat.lt_trans h (show 10 ^ 12<2 ^ 40 by decide))) (by decide)
theorem c4_ {n:Nat} (h:n<10 ^ 12):(decimal n).length<=12:=by
 unfold decimal;rw [length_map];exact (Nat.length_toDigits_le_iff (by decide) (by decide)).mpr h
theorem bU_ {z:Int} (h:z.natAbs<10 ^ 12):(decimalInt z).length<=13:=by
 unfold decimalInt;have:=c4_ h;split
 ·rw [length_cons];omega
 omega
theorem e2_ (n:Nat):decimalInt (n:Int)=decimal n:=by
 unfold decimalInt;rw [if_neg (by omega)];rfl
def gp_ (v:Lit):Prop:=(∀ m,v.measure=some m->m≠[]/\m.length<=10000)/\v.top.natAbs<10 ^ 12/\v.low<10 ^ 12
theorem gI_:ofString "/"=S [47]:=by left
theorem me_:ofString "["=S [91]:=by left
theorem lt_:ofString "]"=S [93]:=by left
theorem lf_:ofString ""=S []:=by left
theorem gJ_ (v:Lit) (g:gp_ v):shownLit v=(decimalInt v.top++(if v.low=1 then [] else 47::decimal v.low))++(if v.measure.getD []=[] then [] else 91::(v.measure.getD []++[93])):=by
 unfold shownLit;rw [append_assoc];congr 2;cases h:v.measure with
 | none=>rfl
 | some m =>
 show 91::(m++[93])=if m=[] then [] else 91::(m++[93]);rw [if_neg (g.1 m h).1]
theorem kS_ {C:Addr}{names:List Str}{vs:List V}{H:Hp}{E:XK}{R:Addr->Hp->Prop} (hl:vs.length=names.length) (k : ∀ x dx H1,H x=none->Same H H1->H1 x=some (.ins C dx (names.zip vs))->R x H1) :
  ∀ x dx,H x=none->H dx=none->dx≠x->bZ_ C names (.ref x::vs) (upd (upd H dx (.own x)) x (.ins C dx [])) (fun v H2=>v = .non/\R x H2) E:=fun x dx hx hdx hne=>by
 refine ⟨x,dx,vs,rfl,hl,af_,rfl,?_⟩;rw [fF_];exact k x dx _ hx (aU_ hx hdx) af_
theorem none_of {H H1:Hp}{a:Addr} (s:Same H H1) (h:H1 a=none):H a=none:=by
 cases q:H a with
 | none=>rfl
 | some o=>rw [s _ _ q] at h;cases h
theorem nin {a b:Addr} (h:a≠b):a∉[b]:=fun m=>h (mem_singleton.mp m)
theorem cU_ {A B:Type}{R:A->B->Prop}{l:List A}{m:List B}{a:A}{b:B} (h:Paired R l m) (r:R a b):Paired R (l++[a]) (m++[b]):=by
 induction h with
 | nil=>exact .cons r .nil
 | cons h t ih=>exact .cons h ih
def qy_ (Cn Cs:Addr) (H:Hp) (wh n:Addr) (fs:List PF) (ss own:List Addr):Prop:=match fs with
 | []=>n=wh/\ss=[]/\own=[]
 | g::r=>Stk Cn Cs H wh (g::r) [n] ss own
theorem Stk.mk {Cn Cs:Addr}{H:Hp}{wh n:Addr}{pf:PF}{fs:List PF}{next ss1 ss2 own2:List Addr}{dx wl pl:Addr}{as F:List Addr}{e:Nat} (h:FrAt Cn Cs H n pf next ss1 dx wl pl as F e) (b:qy_ Cn Cs H wh n fs ss2 own2):Stk Cn Cs H wh (pf::fs) next (ss1++ss2) ((n::wl::pl::F)++own2):=by
 cases fs with
 | nil =>
  obtain ⟨rfl,rfl,rfl⟩:=b;rw [append_nil,append_nil];exact .bot h
 | cons g r=>exact .cons h b
mutual
noncomputable def bb_ (d:Nat):Tr->List (Nat×Tr)
 | .mk f ws b e ps=>(d,.mk f ws b e ps)::bT_ (d+1) ps
noncomputable def bT_ (d:Nat):List Tr->List (Nat×Tr)
 | []=>[]
 | t::r=>bb_ d t++bT_ d r
end
mutual
theorem ig_ (d:Nat) : ∀ t:Tr,(bb_ d t).map (fun p=>p.2.b)=lx_ t
 | .mk f ws b e ps=>by
  show b::(bT_ (d+1) ps).map (fun p=>p.2.b)=b::eW_ ps;rw [dY_ (d+1) ps]
theorem dY_ (d:Nat) : ∀ ts:List Tr,(bT_ d ts).map (fun p=>p.2.b)=eW_ ts
 | []=>rfl
 | t::r=>by
  show (bb_ d t++bT_ d r).map (fun p=>p.2.b)=lx_ t++eW_ r;rw [map_append,ig_ d t,dY_ d r]
end
theorem mG_ (d:Nat) (t:Tr):1<=(bb_ d t).length:=by
 cases t with
 | mk f ws b e ps =>
 show 1<=(_::_:List (Nat×Tr)).length;rw [length_cons];omega
noncomputable def limT:Nat->List (Nat×Tr)->Option (Nat×Nat)
 | _,[]=>none
 | i,p::r=>if 40<p.1 then some (8,p.2.b) else if i=300 then some (9,p.2.b) else limT (i+1) r
def cb_ (Cn:Addr) (H H':Hp) (it:Addr) (p:Nat×Tr):Prop:=∃ a F,H' it=some (.tup [.ref a,.int (p.1:Int)])/\TreeAt Cn H a p.2 F
noncomputable def dp_ (sl:List (Nat×Tr)):List (Nat×Tr):=sl.reverse.flatMap fun p=>bb_ p.1 p.2
theorem cF_ (sl:List (Nat×Tr)) (p:Nat×Tr):dp_ (sl++[p])=bb_ p.1 p.2++dp_ sl:=by
 unfold dp_;rw [reverse_append];rfl
theorem hp_ (d:Nat) : ∀ ps:List Tr,bT_ d ps=ps.flatMap fun t=>bb_ d t
 | []=>rfl
 | t::r=>by
  show bb_ d t++bT_ d r=_;rw [hp_ d r];rfl
theorem c2_ (sl:List (Nat×Tr)) (d:Nat) (ps:List Tr):dp_ (sl++(ps.reverse.map fun t=>(d,t)))=bT_ d ps++dp_ sl:=by
 unfold dp_;rw [reverse_append,List.flatMap_append,<- List.map_reverse,List.reverse_reverse,List.flatMap_map,hp_]
theorem lb_ : ∀ sl:List (Nat×Tr),sl.length<=(dp_ sl).length:=by
 intro sl;unfold dp_;rw [<- length_reverse];generalize sl.reverse=m
 induction m with
 | nil=>exact zero_le _
 | cons p r ih =>
 rw [List.flatMap_cons,length_append,length_cons];have:=mG_ p.1 p.2;omega
theorem TreesAt.get {Cn:Addr}{H:Hp}{as:List Addr}{ts:List Tr}{F:List Addr} (h:TreesAt Cn H as ts F) {i:Nat}{a:Addr} (e:as[i]? = some a) : ∃ t G,ts[i]? = some t/\TreeAt Cn H a t G :=
 TreesAt.rec (motive_1:=fun _ _ _ _=>True) (motive_2:=fun as ts _ _=>∀ (i:Nat) (a:Addr),as[i]? = some a->∃ t G,ts[i]? = some t/\TreeAt Cn H a t G) (fun _ _ _ _ _=>trivial) (fun i a h=>by simp at h) (fun h1 _ _ ih i a h=>by
  cases i with
  | zero=>cases h;exact ⟨_,_,rfl,h1⟩
  | succ i=>exact ih i a h) h i a e
theorem hQ_ {A B:Type}{R:A->B->Prop}{l:List A}{m:List B} (h:Paired R l m) (hn:l≠[]) : ∃ l' a m' b,l=l'++[a]/\m=m'++[b]/\Paired R l' m'/\R a b:=by
 induction h with
 | nil=>exact absurd rfl hn
 | @cons a b l m r t ih =>
 cases t with
 | nil=>exact ⟨[],a,[],b,rfl,rfl,.nil,r⟩
 | cons r2 t2 =>
 obtain ⟨l',a',m',b',e1,e2,p,q⟩:=ih (by simp);exact ⟨a::l',a',b::m',b',by rw [e1];rfl,by rw [e2];rfl,.cons r p,q⟩
end M
namespace L2
open PySem PySem.Spec PyProof.Rows TL
def lC_ (K:Frag) (b:Addr) (ys:List Str):Prop:=∃ (zw:Array Value) (n:Nat) (sl:Array (Option Value)),K.lookup b=some ⟨.type "tuple",none,.seq zw n,sl⟩/\Vals (ys.map V.str) zw.toList
end L2
namespace M
open PySem PySem.Spec PyProof.Rows L2 TL
theorem hq_ (d:Nat) (t:Term):depths d t=d::(eC_ t).flatMap (depths (d+1)):=by
 cases t <;> simp [depths,eC_]
theorem fd_ {x:Term}{tr:Tr} (h:Rep x tr) : ∀ d,(bb_ d tr).map (·.1)=depths d x :=
 Rep.rec (motive_1:=fun x tr _=>∀ d,(bb_ d tr).map (·.1)=depths d x) (motive_2:=fun xs ts _=>∀ d,(bT_ d ts).map (·.1)=xs.flatMap (depths d)) (fun _ ih d=>by
  rw [hq_];show d::(bT_ (d+1) _).map (·.1)=_;rw [ih (d+1)]) (fun _=>rfl) (fun _ _ i1 i2 d=>by
  show (bb_ d _++bT_ d _).map (·.1)=_;rw [map_append,i1 d,i2 d];rfl) h
end M
namespace L2
open PySem PySem.Spec PyProof.Rows TL
theorem d0_:bootBuiltins "isinstance"=some (.builtin "isinstance"):=by left
end L2
namespace M
open PySem PySem.Spec PyProof.Rows L2 TL
open Vaunid (Token txt word sign)
structure NotStr (K:Frag) (C:Addr):Prop where
 ha:PySem.W.findIn K (.ref C) "__class__"=some (some (.builtin "object.__class__"))
 hn:PySem.W.specialIn K (.builtin "object.__class__") "__get__"=some (some (.builtin "getset_descriptor.__get__"))
 htk:PySem.W.takesIn K (.builtin "object.__class__")=some true
 hm:mroIn K C (.type "object")=some true
 ks:kitOne K (.ref C) (.type "str")=some false
noncomputable def fmX:Term->Option Fm
 | .leaf _=>none
 | .one o _=>some (hU_ o)
 | .two o _ _=>some (el_ o)
 | .three o _ _ _=>some (match o with | .cond => .if_ | .fold => .fold)
 | .fn _ _=>some .fn
 | .rec_ _ _ _=>some .rec_
 | .let_ _ _ _=>some .let_
 | .case _ _ _ _ _=>some .case
noncomputable def szX:Term->Nat
 | .leaf _=>1
 | .one _ a=>1+szX a
 | .two _ a b=>1+szX a+szX b
 | .three _ a b c=>1+szX a+szX b+szX c
 | .fn _ a=>1+szX a
 | .rec_ _ _ a=>1+szX a
 | .let_ _ a b=>1+szX a+szX b
 | .case l a _ _ b=>1+szX l+szX a+szX b
theorem j1_ (x:Term) : ∀ d:Nat,(depths d x).length=szX x:=by
 have ad : ∀ {m n k:Nat},m=n->m+1+k=1+n+k:=fun h=>by rw [h,add_comm 1]
 have key : ∀ {l m:List Nat}{n k:Nat},l.length=n->m.length=k->(l++m).length=n+k:=fun h q=>by rw [length_append,h,q]
 induction x with
 | leaf l=>exact fun d=>rfl
 | one o a ih=>exact fun d=>ad (k:=0) (ih _)
 | fn x a ih=>exact fun d=>ad (k:=0) (ih _)
 | rec_ f x a ih=>exact fun d=>ad (k:=0) (ih _)
 | two o a b i j=>exact fun d=>(congrArg (· + 1) (key (i _) (j _))).trans (by show _=1+szX a+szX b;omega)
 | let_ x a b i j=>exact fun d=>(congrArg (· + 1) (key (i _) (j _))).trans (by show _=1+szX a+szX b;omega)
 | three o a b c i j k=>exact fun d=>(congrArg (· + 1) (key (i _) (key (j _) (k _)))).trans (by show _=1+szX a+szX b+szX c;omega)
 | case l a y t b i j k=>exact fun d=>(congrArg (· + 1) (key (i _) (key (j _) (k _)))).trans (by show _=1+szX l+szX a+szX b;omega)
theorem po_ {x:Term}{tr:Tr} (h:Rep x tr) (d:Nat):(bb_ d tr).length=szX x:=by
 rw [<- j1_ x d,<- fd_ h d,length_map]
theorem few (x:Term):(ei_ x).length<=2/\(eC_ x).length<=3:=by
 cases x
 case' leaf l=>cases l
 case' one o a=>cases o
 all_goals exact ⟨Nat.le_of_ble_eq_true rfl,Nat.le_of_ble_eq_true rfl⟩
theorem eQ_ {n c:Nat} (h:c∈decimal n):48<=c/\c<=57:=by
 unfold decimal at h;obtain ⟨d,m,rfl⟩:=mem_map.mp h;have q:=Nat.isDigit_of_mem_toDigits (by decide) (by decide) m;unfold Char.isDigit at q;rw [and_eq_true,decide_eq_true_eq,decide_eq_true_eq] at q;exact ⟨q.1,q.2⟩
def Fg (c:Nat):Prop:=c=45\/(48<=c/\c<=57)
theorem p1_ {c:Nat} (h:Fg c):Dl c:=⟨by unfold Fg at h;omega,by unfold Fg at h;omega⟩
theorem pS_ (z:Int) : ∀ c∈decimalInt z,Fg c:=fun c h=>by
 unfold decimalInt at h;split at h
 ·exact (mem_cons.mp h).elim .inl fun m => .inr (eQ_ m)
 exact .inr (eQ_ h)
theorem k5_ (z:Int):NoD (decimalInt z):=fun c m=>p1_ (pS_ z c m)
theorem dE_ {x:List Nat} (h:isName x=true):(∃ c r,x=c::r/\Vaunid.isSmall c=true)/\(∀ c∈x,Vaunid.inWord c=true)/\x.length<=12/\isTaken x=false:=by
 unfold isName at h;rw [and_eq_true,and_eq_true,Bool.not_eq_true',decide_eq_true_eq] at h;obtain ⟨h1,h2,h3⟩:=h;cases x with
 | nil=>cases h1
 | cons c r =>
 have h1:(Vaunid.isSmall c && r.all Vaunid.inWord)=true:=h1;rw [and_eq_true,all_eq_true] at h1;exact ⟨⟨c,r,rfl,h1.1⟩,allc (cA_ h1.1) h1.2,h2,h3⟩
def GW (f w:List Nat):Prop:=w.length<=10100/\NoD w/\(f=txt "name"->isName w=true)
theorem cW_ {w:List Nat} (h:isName w=true) (f:List Nat):GW f w:=by
 obtain ⟨_,h1,h2,_⟩:=dE_ h;exact ⟨by omega,fun c m=>(hg_ (h1 c m)).1,fun _=>h⟩
theorem p0_ {k:Vaunid.Tok} (g:ij_ k) {f:List Nat} (hf:f≠txt "name"):GW f (qs_ k):=by
 cases k with
 | num v d =>
  obtain ⟨h1,h2,h3,_,h5⟩:=g;have q1:=bU_ h2;have q2:=c4_ h3;show GW f (shownLit v);rw [gJ_ v ⟨h1,h2,h3⟩];have q3:(v.measure.getD []).length<=10000/\NoD (v.measure.getD []):=by
   cases e:v.measure with
   | none=>exact ⟨zero_le _,all0⟩
   | some m=>exact ⟨(h1 m e).2,h5 m e⟩
  have q4:(if v.low=1 then [] else 47::decimal v.low).length<=13/\NoD (if v.low=1 then [] else 47::decimal v.low):=by
   split
   ·exact ⟨zero_le _,all0⟩
   exact ⟨by rw [length_cons];omega,.cons ⟨by decide,by decide⟩ fun c m=>p1_ (.inr (eQ_ m))⟩
  have q5:(if v.measure.getD []=[] then [] else 91::(v.measure.getD []++[93])).length<=10002/\NoD (if v.measure.getD []=[] then [] else 91::(v.measure.getD []++[93])):=by
   split
   ·exact ⟨zero_le _,all0⟩
   exact ⟨by simp only [length_cons,length_append,length_nil];omega,.cons ⟨by decide,by decide⟩ (q3.2.app (.cons ⟨by decide,by decide⟩ all0))⟩
  exact ⟨by simp only [length_append];omega,((k5_ _).app q4.2).app q5.2,fun e=>absurd e hf⟩
 | _=>exact ⟨zero_le _,all0,fun e=>absurd e hf⟩
inductive GT:Term->Prop
 | mk {x:Term}:(∀ w∈ei_ x,GW (la_ x) w)->(∀ y∈eC_ x,GT y)->GT x
theorem snoc {α:Type}{P:α->Prop}{l:List α}{a:α} (h : ∀ x∈l,P x) (q:P a) : ∀ x∈l++[a],P x:=forall_mem_append.mpr ⟨h,allc q all0⟩
open Vaunid (Token txt word sign Got Res)
inductive Ru where
 | expr | names | letN | or_ | orR | and_ | andR | not_ | cmp | cmpR | cons | consR | sum | sumR | prod | prodR | pow | powR | expo | app | appR | head | num | atom | brR | list | listR
 deriving DecidableEq
inductive Mq where
 | fn | rec_ | let_ | if_ | case_ | or_ | and_ | not_ | cmp | cons | sum | prod | pow | mpow | app | mnum | one | two | three | name | number | truth | bracket | list
 deriving DecidableEq
inductive Ds where
 | ru (r:Ru) | mk (m:Mq) | leave | any | k (s:String)
 deriving DecidableEq
abbrev Way:=List String×List Ds
noncomputable def ways:Ru->List Way
 | .expr=>[(["fun"],[.k "fun",.k "name",.ru .names,.k "->",.ru .expr,.mk .fn]),
   (["rec"],[.k "rec",.k "name",.k "name",.ru .names,.k "->",.ru .expr,.mk .rec_]),
   (["let"],[.k "let",.ru .letN,.k "=",.ru .expr,.k "in",.ru .expr,.mk .let_]),
   (["if"],[.k "if",.ru .expr,.k "then",.ru .expr,.k "else",.ru .expr,.mk .if_]),
   (["match"],[.k "match",.ru .expr,.k "with",.k "[",.k "]",.k "->",.ru .expr,.k "|",.k "name",.k "::",.k "name",.k "->",.ru .expr,.mk .case_]),
   ([],[.ru .or_])]
 | .names=>[(["name"],[.k "name",.ru .names]),([],[])]
 | .letN=>[(["rec"],[.k "rec",.k "name",.k "name",.ru .names]),([],[.k "name",.ru .names])]
 | .or_=>[([],[.ru .and_,.ru .orR])]
 | .orR=>[(["or"],[.k "or",.ru .or_,.mk .or_]),([],[])]
 | .and_=>[([],[.ru .not_,.ru .andR])]
 | .andR=>[(["and"],[.k "and",.ru .and_,.mk .and_]),([],[])]
 | .not_=>[(["not"],[.k "not",.ru .not_,.mk .not_]),([],[.ru .cmp])]
 | .cmp=>[([],[.ru .cons,.ru .cmpR])]
 | .cmpR=>[(["<","=",">","<=",">=","<>"],[.any,.ru .cons,.mk .cmp]),([],[])]
 | .cons=>[([],[.ru .sum,.ru .consR])]
 | .consR=>[(["::"],[.k "::",.ru .cons,.mk .cons]),([],[])]
 | .sum=>[([],[.ru .prod,.ru .sumR])]
 | .sumR=>[(["+","-"],[.any,.ru .prod,.mk .sum,.ru .sumR]),([],[])]
 | .prod=>[([],[.ru .pow,.ru .prodR])]
 | .prodR=>[(["*","/"],[.any,.ru .pow,.mk .prod,.ru .prodR]),([],[])]
 | .pow=>[([],[.ru .app,.ru .powR])]
 | .powR=>[(["^"],[.k "^",.ru .expo,.ru .powR]),([],[])]
 | .expo=>[(["-"],[.k "-",.k "digit",.mk .mpow]),([],[.k "digit",.mk .pow])]
 | .app=>[([],[.ru .head,.ru .appR])]
 | .appR=>[(["name","number","digit","true","false","(","["],[.ru .atom,.mk .app,.ru .appR]),([],[])]
 | .head=>[(["-"],[.k "-",.ru .num,.mk .mnum]),(["fst","snd","root"],[.any,.ru .atom,.mk .one]),(["floor","rest"],[.any,.ru .atom,.ru .atom,.mk .two]),
   (["fold"],[.k "fold",.ru .atom,.ru .atom,.ru .atom,.mk .three]),([],[.ru .atom])]
 | .num=>[(["number","digit"],[.any])]
 | .atom=>[(["name"],[.k "name",.mk .name]),(["number","digit"],[.any,.mk .number]),(["true","false"],[.any,.mk .truth]),(["("],[.k "(",.ru .expr,.ru .brR]),(["["],[.k "[",.ru .list])]
 | .brR=>[([","],[.k ",",.ru .expr,.ru .brR]),([],[.k ")",.mk .bracket])]
 | .list=>[(["]"],[.k "]",.mk .list]),([],[.ru .expr,.ru .listR])]
 | .listR=>[([","],[.k ",",.ru .expr,.ru .listR]),([],[.k "]",.mk .list])]
noncomputable def aF_ (k:List Nat):List Way->Option (List Ds)
 | []=>none
 | w::r=>if w.1=[]\/k∈w.1.map txt then some w.2 else aF_ k r
inductive It where
 | tk (t:Token) | pc (g:Got)
noncomputable def It.kind:It->List Nat
 | .tk t=>kindOf t.tok
 | .pc _=>txt "term"
inductive Commas:List It->List Got->Prop
 | nil:Commas [] []
 | cons {t:Token}{g:Got}{l:List It}{gs:List Got}:kindOf t.tok=txt ","->Commas l gs->Commas (.tk t :: .pc g::l) (g::gs)
open Vaunid (gotLeaf gotOne gotTwo gotThree gotFns gotRec gotLet gotPairs gotList gotTruth gotCompare formOne formTwo formThree joins) in
inductive Made:Mq->List It->Got->Prop
 | fn {t ar:Token}{ks:List Token}{a:Got}:ks≠[]->kindOf t.tok=txt "fun"->(∀ k∈ks,kindOf k.tok=txt "name")->kindOf ar.tok=txt "->" ->
   Made .fn (.tk t::(ks.map .tk++[.tk ar,.pc a])) (gotFns (t.start,a.halt_) (ks.map fun k=>aA_ k.tok) a)
 | rec_ {t ar f x:Token}{ks:List Token}{a:Got}:kindOf t.tok=txt "rec"->kindOf f.tok=txt "name"->kindOf x.tok=txt "name"->(∀ k∈ks,kindOf k.tok=txt "name")->kindOf ar.tok=txt "->" ->
   Made .rec_ (.tk t :: .tk f :: .tk x::(ks.map .tk++[.tk ar,.pc a])) (gotRec (t.start,a.halt_) (aA_ f.tok) (aA_ x.tok) (gotFns (t.start,a.halt_) (ks.map fun k=>aA_ k.tok) a))
 | let_ {t x eq i:Token}{ks:List Token}{a b:Got}:kindOf t.tok=txt "let"->kindOf x.tok=txt "name"->(∀ k∈ks,kindOf k.tok=txt "name")->kindOf eq.tok=txt "="->kindOf i.tok=txt "in" ->
   Made .let_ (.tk t :: .tk x::(ks.map .tk++[.tk eq,.pc a,.tk i,.pc b])) (gotLet (t.start,b.halt_) (aA_ x.tok) (gotFns (t.start,b.halt_) (ks.map fun k=>aA_ k.tok) a) b)
 | letRec {t r f x eq i:Token}{ks:List Token}{a b:Got}:kindOf t.tok=txt "let"->kindOf r.tok=txt "rec"->kindOf f.tok=txt "name"->kindOf x.tok=txt "name"->(∀ k∈ks,kindOf k.tok=txt "name")->kindOf eq.tok=txt "="->kindOf i.tok=txt "in" ->
   Made .let_ (.tk t :: .tk r :: .tk f :: .tk x::(ks.map .tk++[.tk eq,.pc a,.tk i,.pc b])) (gotLet (t.start,b.halt_) (aA_ f.tok) (gotRec (t.start,b.halt_) (aA_ f.tok) (aA_ x.tok) (gotFns (t.start,b.halt_) (ks.map fun k=>aA_ k.tok) a)) b)
 | if_ {t u v:Token}{a b c:Got}:kindOf t.tok=txt "if"->kindOf u.tok=txt "then"->kindOf v.tok=txt "else"->Made .if_ [.tk t,.pc a,.tk u,.pc b,.tk v,.pc c] (gotThree .cond (t.start,c.halt_) a b c)
 | case_ {t u v w x y h z q s:Token}{l a b:Got}:kindOf t.tok=txt "match"->kindOf u.tok=txt "with"->kindOf v.tok=txt "["->kindOf w.tok=txt "]"->kindOf x.tok=txt "->"->kindOf y.tok=txt "|"->kindOf h.tok=txt "name"->kindOf z.tok=txt "::"->kindOf q.tok=txt "name"->kindOf s.tok=txt "->" ->
   Made .case_ [.tk t,.pc l,.tk u,.tk v,.tk w,.tk x,.pc a,.tk y,.tk h,.tk z,.tk q,.tk s,.pc b] { term := .case l.term a.term (aA_ h.tok) (aA_ q.tok) b.term,places:=(t.start,b.halt_)::(l.places++(a.places++b.places)),start:=t.start,halt_:=b.halt_ }
 | or_ {t:Token}{a b:Got}:Made .or_ [.pc a,.tk t,.pc b] (gotThree .cond (a.start,b.halt_) a (gotTruth true (a.start,b.halt_)) b)
 | and_ {t:Token}{a b:Got}:Made .and_ [.pc a,.tk t,.pc b] (gotThree .cond (a.start,b.halt_) a b (gotTruth false (a.start,b.halt_)))
 | not_ {t:Token}{a:Got}:Made .not_ [.tk t,.pc a] (gotThree .cond (t.start,a.halt_) a (gotTruth false (t.start,a.halt_)) (gotTruth true (t.start,a.halt_)))
 | cmp {t:Token}{a b g:Got}:gotCompare t.tok (a.start,b.halt_) a b=some g->Made .cmp [.pc a,.tk t,.pc b] g
 | cons {t:Token}{a b:Got}:Made .cons [.pc a,.tk t,.pc b] (gotTwo .cons (a.start,b.halt_) a b)
 | sum {t:Token}{o:Two}{a b:Got}:joins 6 t.tok=some o->Made .sum [.pc a,.tk t,.pc b] (gotTwo o (a.start,b.halt_) a b)
 | prod {t:Token}{o:Two}{a b:Got}:joins 7 t.tok=some o->Made .prod [.pc a,.tk t,.pc b] (gotTwo o (a.start,b.halt_) a b)
 | pow {t k:Token}{v:Lit}{m:Int}{a:Got}:k.tok = .num v (some m)->Made .pow [.pc a,.tk t,.tk k] (gotOne (.pow m) (a.start,k.halt_) a)
 | mpow {t s k:Token}{v:Lit}{m:Int}{a:Got}:k.tok = .num v (some m)->Made .mpow [.pc a,.tk t,.tk s,.tk k] (gotOne (.pow (-m)) (a.start,k.halt_) a)
 | app {a b:Got}:Made .app [.pc a,.pc b] (gotTwo .app (a.start,b.halt_) a b)
 | mnum {t k:Token}{v:Lit}{d:Option Int}:k.tok = .num v d->Made .mnum [.tk t,.tk k] (gotLeaf (.num { v with top := -v.top }) (t.start,k.halt_))
 | one {t:Token}{o:Vaunid.One}{a:Got}:formOne t.tok=some o->Made .one [.tk t,.pc a] (gotOne o (t.start,a.halt_) a)
 | two {t:Token}{o:Two}{a b:Got}:formTwo t.tok=some o->(t.tok=word "floor"\/t.tok=word "rest")->Made .two [.tk t,.pc a,.pc b] (gotTwo o (t.start,b.halt_) a b)
 | three {t:Token}{a b c:Got}:t.tok=word "fold"->Made .three [.tk t,.pc a,.pc b,.pc c] (gotThree .fold (t.start,c.halt_) a b c)
 | name {t:Token}:kindOf t.tok=txt "name"->Made .name [.tk t] (gotLeaf (.name (aA_ t.tok)) (t.start,t.halt_))
 | number {t:Token}{v:Lit}{d:Option Int}:t.tok = .num v d->Made .number [.tk t] (gotLeaf (.num v) (t.start,t.halt_))
 | truth {t:Token}{b:Bool}:t.tok=word (if b=true then "true" else "false")->Made .truth [.tk t] (gotTruth b (t.start,t.halt_))
 | br1 {t u:Token}{a:Got}:kindOf t.tok=txt "("->kindOf u.tok=txt ")"->Made .bracket [.tk t,.pc a,.tk u] { a with start:=t.start,halt_:=u.halt_ }
 | brN {t u:Token}{a b:Got}{l:List It}{gs:List Got}:kindOf t.tok=txt "("->kindOf u.tok=txt ")"->Commas l (b::gs)->Made .bracket (.tk t :: .pc a::(l++[.tk u])) (gotPairs (t.start,u.halt_) a (b::gs))
 | nil {t u:Token}:kindOf t.tok=txt "["->kindOf u.tok=txt "]"->Made .list [.tk t,.tk u] (gotLeaf .nil (t.start,u.halt_))
 | list {t u:Token}{a:Got}{l:List It}{gs:List Got}:kindOf t.tok=txt "["->kindOf u.tok=txt "]"->Commas l gs->Made .list (.tk t :: .pc a::(l++[.tk u])) (gotList (t.start,u.halt_) (a::gs))
structure RS where
 todo:List Ds
 taken:List It
 ar:Nat
 l:Toks
inductive Stp:RS->Res RS->Prop
 | path {r:Ru}{td:List Ds}{tn:List It}{ar:Nat}{t:Token}{l:Toks}{p:List Ds}:r ≠ .expr->aF_ (kindOf t.tok) (ways r)=some p->Stp ⟨.ru r::td,tn,ar,t::l⟩ (.ok ⟨p++td,tn,ar,t::l⟩)
 | lost {r:Ru}{td:List Ds}{tn:List It}{ar:Nat}{t:Token}{l:Toks}:r ≠ .expr->aF_ (kindOf t.tok) (ways r)=none->Stp ⟨.ru r::td,tn,ar,t::l⟩ (fault 6 t.start)
 | enter {td:List Ds}{tn:List It}{ar:Nat}{t:Token}{l:Toks}{p:List Ds}:ar<40->aF_ (kindOf t.tok) (ways .expr)=some p->Stp ⟨.ru .expr::td,tn,ar,t::l⟩ (.ok ⟨p ++ .leave::td,tn,ar+1,t::l⟩)
 | deep {td:List Ds}{tn:List It}{t:Token}{l:Toks}:Stp ⟨.ru .expr::td,tn,40,t::l⟩ (fault 7 t.start)
 | leave {td:List Ds}{tn:List It}{ar:Nat}{l:Toks}:Stp ⟨.leave::td,tn,ar+1,l⟩ (.ok ⟨td,tn,ar,l⟩)
 | any {td:List Ds}{tn:List It}{ar:Nat}{t:Token}{l:Toks}:l≠[]->Stp ⟨.any::td,tn,ar,t::l⟩ (.ok ⟨td,tn++[.tk t],ar,l⟩)
 | kind {s:String}{td:List Ds}{tn:List It}{ar:Nat}{t:Token}{l:Toks}:kindOf t.tok=txt s->Stp ⟨.k s::td,tn,ar,t::l⟩ (.ok ⟨td,tn++[.tk t],ar,l⟩)
 | other {s:String}{td:List Ds}{tn:List It}{ar:Nat}{t:Token}{l:Toks} : ¬ kindOf t.tok=txt s->Stp ⟨.k s::td,tn,ar,t::l⟩ (fault 6 t.start)
 | make {m:Mq}{td:List Ds}{tn sl:List It}{g:Got}{ar:Nat}{l:Toks}:Made m sl g->Stp ⟨.mk m::td,tn++sl,ar,l⟩ (.ok ⟨td,tn++[.pc g],ar,l⟩)
inductive Runs:RS->Res Got->Nat->Prop
 | done {g:Got}{tn:List It}{ar:Nat}{l:Toks}:Runs ⟨[],.pc g::tn,ar,l⟩ (.ok g) 0
 | bad {s:RS}{e:Vaunid.Fault}:Stp s (.error e)->Runs s (.error e) 1
 | go {s s':RS}{R:Res Got}{n:Nat}:Stp s (.ok s')->Runs s' R n->Runs s R (n+1)
def Gs (s s':RS):Prop:=∀ R n,Runs s' R n->∃ m,Runs s R m
theorem Gs.refl (s:RS):Gs s s:=fun _ n h=>⟨n,h⟩
theorem Gs.trans {a b c:RS} (h:Gs a b) (g:Gs b c):Gs a c:=fun R n r=>let ⟨m,q⟩:=g R n r;h R m q
theorem Gs.one {s s':RS} (h:Stp s (.ok s')):Gs s s':=fun _ n r=>⟨n+1,.go h r⟩
def Bad (s:RS) (e:Vaunid.Fault):Prop:=∃ m,Runs s (.error e) m
def Does {α:Type} (s:RS) (x:Res α) (post:α->RS):Prop:=match x with
 | .ok a=>Gs s (post a)/\(post a).l <:+ s.l
 | .error e=>Bad s e
theorem Does.pre {α:Type}{s s':RS}{x:Res α}{post:α->RS} (h:Gs s s') (q:s'.l <:+ s.l) (k:Does s' x post):Does s x post:=by
 cases x with
 | ok a=>exact ⟨h.trans k.1,k.2.trans q⟩
 | error e=>obtain ⟨m,q⟩:=k;exact h _ _ q
theorem Does.bind {α β:Type}{s:RS}{x:Res α}{f:α->Res β}{mid:α->RS}{post:β->RS} (h:Does s x mid) (k : ∀ a,x = .ok a->(mid a).l <:+ s.l->Does (mid a) (f a) post):Does s (x >>= f) post:=by
 cases x with
 | ok a=>exact .pre h.1 h.2 (k a rfl h.2)
 | error e=>exact h
theorem Does.bad {α:Type}{s:RS}{e:Vaunid.Fault}{post:α->RS} (h:Stp s (.error e)):Does s (.error e:Res α) post:=⟨1,.bad h⟩
theorem Does.sfx {α:Type}{s:RS}{x:Res α}{post:α->RS} (h:Does s x post) {a:α} (e:x = .ok a):(post a).l <:+ s.l:=by
 subst e;exact h.2
def bh_:Vaunid.Tok->Prop
 | .word w=>Vaunid.isWord w=true/\w.length<=12
 | .num v d=>ij_ (.num v d)
 | .sign s=>s∈surfaceSigns\/s=txt "end"
def Gd (l:Toks):Prop:=∀ k∈l,bh_ k.tok
theorem Gd.sfx {l m:Toks} (h:Gd l) (s:m <:+ l):Gd m:=fun k q=>h k (s.subset q)
def own3:List (List Nat):=[txt "name",txt "digit",txt "number"]
theorem aE_ {k:Vaunid.Tok}{x:String} (h:(isTaken (txt x) || own3.contains (txt x))=false):kindOf k=txt x↔k=sign x:=by
 rw [Bool.or_eq_false_iff] at h;have h2:txt x∉own3:=fun m=>by rw [contains_iff_mem.mpr m] at h;cases h.2
 unfold own3 at h2;simp only [mem_cons,not_mem_nil,or_false,not_or] at h2;cases k with
 | word w =>
  refine ⟨fun e=>?_,fun e=>by cases e⟩;simp only [kindOf] at e;split at e
  ·rename_i q;rw [e,h.1] at q;cases q
  exact absurd e.symm h2.1
 | num v d =>
  refine ⟨fun e=>?_,fun e=>by cases e⟩;simp only [kindOf] at e;split at e
  ·exact absurd e.symm h2.2.1
  exact absurd e.symm h2.2.2
 | sign s=>exact ⟨fun e=>by show Vaunid.Tok.sign s = .sign _;rw [show s=txt x from e],fun e=>by cases e;rfl⟩
def sgs:List (List Nat):=txt "end"::surfaceSigns
theorem cs_ {k:Vaunid.Tok} (g:bh_ k) {x:String} (h:(isTaken (txt x) && !own3.contains (txt x) && !sgs.contains (txt x))=true):kindOf k=txt x↔k=word x:=by
 rw [and_eq_true,and_eq_true,Bool.not_eq_true',Bool.not_eq_true'] at h;obtain ⟨⟨h1,h2⟩,h3⟩:=h;have h2:txt x∉own3:=fun m=>by rw [contains_iff_mem.mpr m] at h2;cases h2
 unfold own3 at h2;simp only [mem_cons,not_mem_nil,or_false,not_or] at h2;cases k with
 | word w =>
  simp only [kindOf]
  constructor
  ·intro e
   split at e
   ·rw [e];rfl
   exact absurd e.symm h2.1
  intro e;injection e with e;rw [e,if_pos h1]
 | num v d =>
  refine ⟨fun e=>?_,fun e=>by cases e⟩;simp only [kindOf] at e;split at e
  ·exact absurd e.symm h2.2.1
  exact absurd e.symm h2.2.2
 | sign s =>
 refine ⟨fun e=>?_,fun e=>by cases e⟩;have e:s=txt x:=e;have:s∈sgs:=g.elim (mem_cons_of_mem _) fun q=>by rw [q];exact mem_cons_self ..
 rw [e] at this;rw [contains_iff_mem.mpr this] at h3;cases h3
theorem eD_ : ∀ s∈sgs,s∉own3:=by left
theorem br_ {k:Vaunid.Tok} (g:bh_ k):kindOf k=txt "name"↔∃ w,k = .word w/\isName w=true:=by
 cases k with
 | word w =>
  simp only [kindOf]
  constructor
  ·intro e
   split at e
   ·rename_i q;rw [e] at q;exact absurd q (by left)
   rename_i q;refine ⟨w,rfl,?_⟩;unfold isName;rw [g.1,decide_eq_true (show w.length<=MOSTSIGNS from g.2),Bool.eq_false_iff.mpr q];rfl
  rintro ⟨_,e,q⟩
  cases e;have:=(dE_ q).2.2.2;rw [this];rfl
 | num v d =>
  refine ⟨fun e=>?_,fun ⟨_,e,_⟩=>by cases e⟩;simp only [kindOf] at e;split at e <;> exact absurd e (by left)
 | sign s =>
 refine ⟨fun e=>?_,fun ⟨_,e,_⟩=>by cases e⟩;have e:s=txt "name":=e;have:s∈sgs:=g.elim (mem_cons_of_mem _) fun q=>by rw [q];exact mem_cons_self ..
 exact absurd (by rw [e];left) (eD_ s this)
theorem jy_ {k:Vaunid.Tok} (g:bh_ k):kindOf k=txt "digit"↔∃ v n,k = .num v (some n):=by
 cases k with
 | word w =>
  refine ⟨fun e=>?_,fun ⟨_,_,e⟩=>by cases e⟩;simp only [kindOf] at e;split at e
  ·rename_i q;rw [e] at q;exact absurd q (by left)
  exact absurd e (by left)
 | num v d =>
  cases d with
  | none=>exact ⟨fun e=>absurd e (by show ¬ txt "number"=txt "digit";left),fun ⟨_,_,e⟩=>by cases e⟩
  | some n=>exact ⟨fun _=>⟨v,n,rfl⟩,fun _=>rfl⟩
 | sign s =>
 refine ⟨fun e=>?_,fun ⟨_,_,e⟩=>by cases e⟩;have e:s=txt "digit":=e;have:s∈sgs:=g.elim (mem_cons_of_mem _) fun q=>by rw [q];exact mem_cons_self ..
 exact absurd (by rw [e];left) (eD_ s this)
theorem ga_ {k:Vaunid.Tok} (g:bh_ k):(kindOf k=txt "number"\/kindOf k=txt "digit")↔∃ v d,k = .num v d:=by
 cases k with
 | word w =>
  refine ⟨fun e=>?_,fun ⟨_,_,e⟩=>by cases e⟩;simp only [kindOf] at e;split at e
  ·rename_i q;rcases e with e | e <;> (rw [e] at q;exact absurd q (by left))
  exact absurd e (by left)
 | num v d =>
  refine ⟨fun _=>⟨v,d,rfl⟩,fun _=>?_⟩;simp only [kindOf];split
  ·exact .inr rfl
  exact .inl rfl
 | sign s =>
 refine ⟨fun e=>?_,fun ⟨_,_,e⟩=>by cases e⟩;have e:s=txt "number"\/s=txt "digit":=e;have:s∈sgs:=g.elim (mem_cons_of_mem _) fun q=>by rw [q];exact mem_cons_self ..
 rcases e with e | e <;> exact absurd (by rw [e];left) (eD_ s this)
open Vaunid (Token txt word sign Got Res want wantName wantDigit namesHere nextIs)
noncomputable def Eo (hl:Nat) (ts:Toks):Toks:=ts++[sent hl]
noncomputable def nx (hl:Nat) (ts:Toks):Token:=ts.headD (sent hl)
theorem le_ (hl:Nat) (ts:Toks) : ∃ l,Eo hl ts=nx hl ts::l:=by
 cases ts with
 | nil=>exact ⟨_,rfl⟩
 | cons c q=>exact ⟨_,rfl⟩
theorem bs_ {hl:Nat}{r ts:Toks} (h:Eo hl r <:+ Eo hl ts):r.length<=ts.length:=by
 have:=h.length_le;unfold Eo at this;rw [length_append,length_append] at this;exact Nat.le_of_add_le_add_right this
theorem aT_ {hl:Nat}{c:Token}{q:Toks}:Eo hl q <:+ Eo hl (c::q):=⟨[c],rfl⟩
section
variable {β:Type}{hl ar:Nat}{td:List Ds}{tn:List It}{ts:Toks}{x:Res β}{post:β->RS}
theorem a5_ {r:Ru}{p:List Ds} (hr:r ≠ .expr) (h:aF_ (kindOf (nx hl ts).tok) (ways r)=some p) (k:Does ⟨p++td,tn,ar,Eo hl ts⟩ x post):Does ⟨.ru r::td,tn,ar,Eo hl ts⟩ x post:=by
 obtain ⟨l,e⟩:=le_ hl ts;rw [e] at k ⊢;exact .pre (.one (.path hr h)) (suffix_refl _) k
theorem bz_ {s:String}{c:Token}{q:Toks} (h:kindOf c.tok=txt s) (k:Does ⟨td,tn++[.tk c],ar,Eo hl q⟩ x post):Does ⟨.k s::td,tn,ar,Eo hl (c::q)⟩ x post :=
 .pre (.one (.kind h)) aT_ k
theorem lo_ {c:Token}{q:Toks} (k:Does ⟨td,tn++[.tk c],ar,Eo hl q⟩ x post):Does ⟨.any::td,tn,ar,Eo hl (c::q)⟩ x post :=
 .pre (.one (.any (List.append_ne_nil_of_right_ne_nil _ (cons_ne_nil _ _)))) aT_ k
theorem p6_ {m:Mq}{sl:List It}{g:Got}{l:Toks} (h:Made m sl g) (k:Does ⟨td,tn++[.pc g],ar,l⟩ x post):Does ⟨.mk m::td,tn++sl,ar,l⟩ x post :=
 .pre (.one (.make h)) (suffix_refl _) k
theorem h6_ {l:Toks} (k:Does ⟨td,tn,ar,l⟩ x post):Does ⟨.leave::td,tn,ar+1,l⟩ x post := .pre (.one .leave) (suffix_refl _) k
theorem aK_ {l:Toks}{b:β} (e:post b=⟨td,tn,ar,l⟩):Does ⟨td,tn,ar,l⟩ (.ok b) post:=⟨by rw [e];exact .refl _,by rw [e];exact suffix_refl _⟩
theorem eR_ {r:Ru} (hr:r ≠ .expr) (h:aF_ (kindOf (nx hl ts).tok) (ways r)=none):Does ⟨.ru r::td,tn,ar,Eo hl ts⟩ (fault 6 (nx hl ts).start:Res β) post:=by
 obtain ⟨l,e⟩:=le_ hl ts;rw [e];exact .bad (.lost hr h)
theorem bL_ {s:String}{w:Vaunid.Tok}{f:Toks->Res β} (hw : ∀ k,bh_ k->(kindOf k=txt s↔k=w)) (hs : ¬ txt "end"=txt s) (g:Gd (Eo hl ts))
  (k : ∀ c q,ts=c::q->kindOf c.tok=txt s->Gd (Eo hl q)->Does ⟨td,tn++[.tk c],ar,Eo hl q⟩ (f q) post):Does ⟨.k s::td,tn,ar,Eo hl ts⟩ (want hl w ts >>= f) post:=by
 cases ts with
 | nil=>exact .bad (.other (t:=sent hl) (l:=[]) hs)
 | cons c q =>
 have q1:=hw c.tok (g c (mem_cons_self ..));have gq:Gd (Eo hl q):=g.sfx aT_;have e':want hl w (c::q)=if c.tok=w then .ok q else fault 6 c.start:=rfl;by_cases e:c.tok=w
 ·rw [e',if_pos e]
  exact bz_ (q1.mpr e) (k c q rfl (q1.mpr e) gq)
 rw [e',if_neg e];exact .bad (.other (t:=c) fun z=>e (q1.mp z))
theorem dV_ {f:List Nat×Toks->Res β} (g:Gd (Eo hl ts))
  (k : ∀ c q,ts=c::q->kindOf c.tok=txt "name"->Gd (Eo hl q)->Does ⟨td,tn++[.tk c],ar,Eo hl q⟩ (f (aA_ c.tok,q)) post):Does ⟨.k "name"::td,tn,ar,Eo hl ts⟩ (wantName hl ts >>= f) post:=by
 cases ts with
 | nil=>exact .bad (.other (t:=sent hl) (l:=[]) (by show ¬ txt "end"=txt "name";left))
 | cons c q =>
 have gc:=g c (mem_cons_self ..);have q1:=br_ gc;have gq:Gd (Eo hl q):=g.sfx aT_;by_cases e:kindOf c.tok=txt "name"
 ·obtain ⟨w,e1,e2⟩:=q1.mp e
  have:=k c q rfl e gq;obtain ⟨ct,cs,ch⟩:=c;dsimp only at e1;subst e1;have e':wantName hl (⟨.word w,cs,ch⟩::q)=if isName w=true then .ok (w,q) else fault 6 cs:=rfl;rw [e',if_pos e2];exact bz_ e this
 have:wantName hl (c::q)=fault 6 c.start:=by
  obtain ⟨ct,cs,ch⟩:=c;cases ct with
  | word w =>
   show (if isName w=true then _ else fault 6 cs)=_;rw [if_neg fun z=>e (q1.mpr ⟨w,rfl,z⟩)]
  | _=>rfl
 rw [this];exact .bad (.other (t:=c) e)
theorem ln_ {f:Int×Toks->Res β} (g:Gd (Eo hl ts))
  (k : ∀ c q v m,ts=c::q->c.tok = .num v (some m)->Gd (Eo hl q)->Does ⟨td,tn++[.tk c],ar,Eo hl q⟩ (f (m,q)) post):Does ⟨.k "digit"::td,tn,ar,Eo hl ts⟩ (wantDigit hl ts >>= f) post:=by
 cases ts with
 | nil=>exact .bad (.other (t:=sent hl) (l:=[]) (by show ¬ txt "end"=txt "digit";left))
 | cons c q =>
 have gc:=g c (mem_cons_self ..);have q1:=jy_ gc;have gq:Gd (Eo hl q):=g.sfx aT_;by_cases e:kindOf c.tok=txt "digit"
 ·obtain ⟨v,m,e1⟩:=q1.mp e
  have:=k c q v m rfl e1 gq;obtain ⟨ct,cs,ch⟩:=c;dsimp only at e1;subst e1;exact bz_ e this
 have:wantDigit hl (c::q)=fault 6 c.start:=by
  obtain ⟨ct,cs,ch⟩:=c;cases ct with
  | num v d =>
   cases d with
   | none=>rfl
   | some m=>exact absurd (q1.mpr ⟨v,m,rfl⟩) e
  | _=>rfl
 rw [this];exact .bad (.other (t:=c) e)
theorem pw_ {k:List Nat}{ks:List String}{p q:List Ds} (h0:ks≠[]):aF_ k [(ks,p),([],q)]=some (if k∈ks.map txt then p else q):=by
 unfold aF_;by_cases h:k∈ks.map txt
 ·rw [if_pos (.inr h),if_pos h]
 rw [if_neg (fun z=>z.elim h0 h),if_neg h];unfold aF_;rw [if_pos (.inl rfl)]
theorem bg_ {r:Ru}{ks:List String}{p q:List Ds} (hr:r ≠ .expr) (hw:ways r=[(ks,p),([],q)]) (h0:ks≠[]) (h1:kindOf (nx hl ts).tok∈ks.map txt->Does ⟨p++td,tn,ar,Eo hl ts⟩ x post) (h2 : ¬ kindOf (nx hl ts).tok∈ks.map txt->Does ⟨q++td,tn,ar,Eo hl ts⟩ x post):Does ⟨.ru r::td,tn,ar,Eo hl ts⟩ x post:=by
 by_cases h:kindOf (nx hl ts).tok∈ks.map txt
 ·exact a5_ hr (by rw [hw,pw_ h0,if_pos h]) (h1 h)
 exact a5_ hr (by rw [hw,pw_ h0,if_neg h]) (h2 h)
theorem aI_ {k:List Nat}{s:String}:k∈[s].map txt↔k=txt s:=mem_singleton
theorem gi_ (ts:Toks) : ∀ {td:List Ds}{tn:List It},Gd (Eo hl ts) ->
  (∀ ks,(∀ k∈ks,kindOf k.tok=txt "name")->(namesHere ts).1=(ks.map fun k=>aA_ k.tok)->ts=ks++(namesHere ts).2->Does ⟨td,tn++ks.map .tk,ar,Eo hl (namesHere ts).2⟩ x post)->Does ⟨.ru .names::td,tn,ar,Eo hl ts⟩ x post:=by
 induction ts with
 | nil =>
  intro td tn g k;have:=k [] all0 rfl rfl;rw [map_nil,append_nil] at this;exact bg_ (by decide) rfl (by decide) (fun z=>absurd (aI_.mp z) (show ¬ txt "end"=txt "name" by left)) fun _=>this
 | cons c q ih =>
 intro td tn g k;have gc:=g c (mem_cons_self ..);have gq:Gd (Eo hl q):=g.sfx aT_;by_cases e:kindOf c.tok=txt "name"
 ·refine bg_ (by decide) rfl (by decide) (fun _=>bz_ e (ih gq fun ks h1 h2 h3=>?_)) fun z=>absurd (aI_.mpr e) z
  obtain ⟨w,e1,e2⟩:=(br_ gc).mp e;have hn:namesHere (c::q)=(aA_ c.tok::(namesHere q).1,(namesHere q).2):=by
   obtain ⟨ct,cs,ch⟩:=c;dsimp only at e1;subst e1;show (if isName w=true then _ else _)=_;rw [if_pos e2];rfl
  have:=k (c::ks) (allc e h1) (by rw [hn,h2];rfl) (by rw [hn];exact congrArg (c :: ·) h3);rw [hn] at this;rw [append_assoc];exact this
 have hn:namesHere (c::q)=([],c::q):=by
  obtain ⟨ct,cs,ch⟩:=c;cases ct with
  | word w =>
   show (if isName w=true then _ else _)=_;rw [if_neg fun z=>e ((br_ gc).mpr ⟨w,rfl,z⟩)]
  | _=>rfl
 have:=k [] all0 (by rw [hn];rfl) (by rw [hn];rfl);rw [hn,map_nil,append_nil] at this;exact bg_ (by decide) rfl (by decide) (fun z=>absurd (aI_.mp z) e) fun _=>this
end
open Vaunid (Token txt word sign Got Res want wantName wantDigit namesHere nextIs expression letForm matchForm rank rounds atoms head several atom inside)
def rkR:Nat->Ru
 | 1 => .or_ | 2 => .and_ | 3 => .not_ | 4 => .cmp | 5 => .cons | 6 => .sum | 7 => .prod | 8 => .pow | _ => .app
def rkT:Nat->Ru
 | 6 => .sumR | 7 => .prodR | _ => .powR
noncomputable def pst (hl:Nat) (td:List Ds) (tn:List It) (ar:Nat) (y:Got×Toks):RS:=⟨td,tn++[.pc y.1],ar,Eo hl y.2⟩
theorem Does.aft {α:Type}{s:RS}{x:Res α}{p q:α->RS} (h:Does s x p) (k : ∀ a,Gs (p a) (q a)/\(q a).l=(p a).l):Does s x q:=by
 cases x with
 | ok a=>exact ⟨h.1.trans (k a).1,by rw [(k a).2];exact h.2⟩
 | error e=>exact h
structure All (hl n:Nat):Prop where
 ex : ∀ d ar ts td tn,ar+d=40->Gd (Eo hl ts)->20 * ts.length+12<=n->Does ⟨.ru .expr::td,tn,ar,Eo hl ts⟩ (expression hl n d ts) (pst hl td tn ar)
 lt : ∀ d ar ts td tn (t:Token),ar+d=40->Gd (Eo hl ts)->20 * ts.length+14<=n->kindOf t.tok=txt "let"->Does ⟨.ru .letN :: .k "=" :: .ru .expr :: .k "in" :: .ru .expr :: .mk .let_::td,tn++[.tk t],ar,Eo hl ts⟩ (letForm hl n d t.start ts) (pst hl td tn ar)
 mt : ∀ d ar ts td tn (t:Token),ar+d=40->Gd (Eo hl ts)->20 * ts.length+14<=n->kindOf t.tok=txt "match"->Does ⟨.ru .expr :: .k "with" :: .k "[" :: .k "]" :: .k "->" :: .ru .expr :: .k "|" :: .k "name" :: .k "::" :: .k "name" :: .k "->" :: .ru .expr :: .mk .case_::td,tn++[.tk t],ar,Eo hl ts⟩ (matchForm hl n d t.start ts) (pst hl td tn ar)
 rk : ∀ d ar k ts td tn,ar+d=40->1<=k->k<=9->Gd (Eo hl ts)->20 * ts.length+12<=n+k->Does ⟨.ru (rkR k)::td,tn,ar,Eo hl ts⟩ (rank hl n d k ts) (pst hl td tn ar)
 rd : ∀ d ar k a ts td tn,ar+d=40->6<=k->k<=8->Gd (Eo hl ts)->20 * ts.length+1<=n->Does ⟨.ru (rkT k)::td,tn++[.pc a],ar,Eo hl ts⟩ (rounds hl n d k a ts) (pst hl td tn ar)
 as_ : ∀ d ar a ts td tn,ar+d=40->Gd (Eo hl ts)->20 * ts.length+2<=n->Does ⟨.ru .appR::td,tn++[.pc a],ar,Eo hl ts⟩ (atoms hl n d a ts) (pst hl td tn ar)
 hd : ∀ d ar ts td tn,ar+d=40->Gd (Eo hl ts)->20 * ts.length+2<=n->Does ⟨.ru .head::td,tn,ar,Eo hl ts⟩ (head hl n d ts) (pst hl td tn ar)
 sv : ∀ d ar m ts td tn,ar+d=40->Gd (Eo hl ts)->20 * ts.length+2+m<=n->Does ⟨List.replicate m (.ru .atom)++td,tn,ar,Eo hl ts⟩ (several hl n d m ts) (fun y=>⟨td,tn++y.1.map .pc,ar,Eo hl y.2⟩)/\∀ y,several hl n d m ts = .ok y->y.1.length=m
 at_ : ∀ d ar ts td tn,ar+d=40->Gd (Eo hl ts)->20 * ts.length+1<=n->Does ⟨.ru .atom::td,tn,ar,Eo hl ts⟩ (atom hl n d ts) (pst hl td tn ar)/\∀ y,atom hl n d ts = .ok y->y.2.length<ts.length
 br : ∀ d ar ts td tn {β:Type} (f:List Got×Nat×Toks->Res β) (post:β->RS),ar+d=40->Gd (Eo hl ts)->20 * ts.length+13<=n ->
  (∀ a gs l c q,Commas l gs->kindOf c.tok=txt ")"->Eo hl q <:+ Eo hl ts->Does ⟨.mk .bracket::td,tn++(.pc a::(l++[.tk c])),ar,Eo hl q⟩ (f (a::gs,c.halt_,q)) post) ->
  Does ⟨.ru .expr :: .ru .brR::td,tn,ar,Eo hl ts⟩ (inside hl n d (sign ")") ts >>= f) post
 li : ∀ d ar ts td tn {β:Type} (f:List Got×Nat×Toks->Res β) (post:β->RS),ar+d=40->Gd (Eo hl ts)->20 * ts.length+13<=n ->
  (∀ a gs l c q,Commas l gs->kindOf c.tok=txt "]"->Eo hl q <:+ Eo hl ts->Does ⟨.mk .list::td,tn++(.pc a::(l++[.tk c])),ar,Eo hl q⟩ (f (a::gs,c.halt_,q)) post) ->
  Does ⟨.ru .expr :: .ru .listR::td,tn,ar,Eo hl ts⟩ (inside hl n d (sign "]") ts >>= f) post
section
variable {β:Type}{hl ar n:Nat}{td:List Ds}{tn tk:List It}{ts:Toks}{x:Res β}{post:β->RS}
theorem h7_ {p:List Ds} (har:ar<40) (h:aF_ (kindOf (nx hl ts).tok) (ways .expr)=some p) (k:Does ⟨p ++ .leave::td,tn,ar+1,Eo hl ts⟩ x post):Does ⟨.ru .expr::td,tn,ar,Eo hl ts⟩ x post:=by
 obtain ⟨l,e⟩:=le_ hl ts;rw [e] at k ⊢;exact .pre (.one (.enter har h)) (suffix_refl _) k
theorem d_mk {m:Mq}{sl:List It}{g:Got}{l:Toks} (h:Made m sl g) (e:tk=tn++sl) (k:Does ⟨td,tn++[.pc g],ar,l⟩ x post):Does ⟨.mk m::td,tk,ar,l⟩ x post:=by
 rw [e];exact p6_ h k
theorem kS {s:String} (h:(isTaken (txt s) || own3.contains (txt s))=false) : ∀ k,bh_ k->(kindOf k=txt s↔k=sign s):=fun _ _=>aE_ h
theorem kW {s:String} (h:(isTaken (txt s) && !own3.contains (txt s) && !sgs.contains (txt s))=true) : ∀ k,bh_ k->(kindOf k=txt s↔k=word s):=fun _ g=>cs_ g h
theorem ld_ {k:List Nat} (h1 : ¬ k=txt "fun") (h2 : ¬ k=txt "rec") (h3 : ¬ k=txt "let") (h4 : ¬ k=txt "if") (h5 : ¬ k=txt "match"):aF_ k (ways .expr)=some [.ru .or_]:=by
 simp only [ways,aF_,map_cons,map_nil,mem_singleton,h1,h2,h3,h4,h5];simp
theorem l2_:Vaunid.placeOf hl ts=(nx hl ts).start:=by cases ts <;> rfl
theorem endp {r:Ru}{p:Option (List Ds)} (h:aF_ (txt "end") (ways r)=p):aF_ (kindOf (nx hl []).tok) (ways r)=p:=h
theorem mq_:Does ⟨.ru .or_::td,tn,ar,Eo hl []⟩ (fault 6 hl:Res β) post :=
 a5_ (p:=[.ru .and_,.ru .orR]) (by decide) (endp (by left)) (a5_ (p:=[.ru .not_,.ru .andR]) (by decide) (endp (by left)) (a5_ (p:=[.ru .cmp]) (by decide) (endp (by left)) (a5_ (p:=[.ru .cons,.ru .cmpR]) (by decide) (endp (by left))
 (a5_ (p:=[.ru .sum,.ru .consR]) (by decide) (endp (by left)) (a5_ (p:=[.ru .prod,.ru .sumR]) (by decide) (endp (by left)) (a5_ (p:=[.ru .pow,.ru .prodR]) (by decide) (endp (by left)) (a5_ (p:=[.ru .app,.ru .powR]) (by decide) (endp (by left))
 (a5_ (p:=[.ru .head,.ru .appR]) (by decide) (endp (by left)) (a5_ (p:=[.ru .atom]) (by decide) (endp (by left)) (eR_ (by decide) (endp (by left))))))))))))
theorem oN_ (A:All hl n) {d:Nat} (hd:ar+d=40) (g:Gd (Eo hl ts)) (hn:20 * ts.length+12<=n+1):Does ⟨.ru .expr::td,tn,ar,Eo hl ts⟩ (expression hl (n+1) d ts) (pst hl td tn ar):=by
 unfold expression;by_cases h0:d=0
 ·rw [if_pos h0,l2_]
  have:ar=40:=by omega
  obtain ⟨l,e⟩:=le_ hl ts;rw [e,this];exact .bad .deep
 rw [if_neg h0];obtain ⟨d,rfl⟩ : ∃ d',d=d'+1:=⟨d - 1,by omega⟩;rw [Nat.add_sub_cancel];have had:ar+1+d=40:=by omega
 have h40:ar<40:=by omega
 have lv : ∀ {td:List Ds}{tn:List It}{x:Res (Got×Toks)}{s:RS},Does s x (pst hl (.leave::td) tn (ar+1))->Does s x (pst hl td tn ar):=fun h=>h.aft fun a=>⟨.one .leave,rfl⟩;have orr:aF_ (kindOf (nx hl ts).tok) (ways .expr)=some [.ru .or_]->Does ⟨.ru .expr::td,tn,ar,Eo hl ts⟩ (rank hl n d 1 ts) (pst hl td tn ar):=fun h=>h7_ h40 h (lv (A.rk d _ 1 ts _ _ had (by omega) (by omega) g (by omega)));cases ts with
 | nil =>
  exact h7_ h40 (p:=[.ru .or_]) (endp (by left)) mq_
 | cons k r =>
 have gk:=g k (mem_cons_self ..);have gr:Gd (Eo hl r):=g.sfx aT_;dsimp only;rw [length_cons] at hn;have ent : ∀ {s:String}{w:Vaunid.Tok}{p:List Ds}{x:Res (Got×Toks)},(∀ k,bh_ k->(kindOf k=txt s↔k=w))->k.tok=w->aF_ (txt s) (ways .expr)=some (.k s::p)->(kindOf k.tok=txt s->Does ⟨p ++ .leave::td,tn++[.tk k],ar+1,Eo hl r⟩ x (pst hl td tn ar))->Does ⟨.ru .expr::td,tn,ar,Eo hl (k::r)⟩ x (pst hl td tn ar):=fun {s w p x} hs hw hp h=>by
  have hk:=(hs _ gk).mpr hw;exact h7_ h40 (by show aF_ (kindOf k.tok) _=_;rw [hk];exact hp) (bz_ hk (h hk))
 by_cases h1:k.tok=word "fun"
 ·rw [if_pos h1]
  refine ent (s:="fun") (p:=[.k "name",.ru .names,.k "->",.ru .expr,.mk .fn]) (kW (by left)) h1 (by left) fun hk=>dV_ gr fun c q e hc gq=>?_;subst e;refine gi_ q gq fun ks k1 k2 k3=>?_;have s3:Eo hl (namesHere q).2 <:+ Eo hl q:=⟨ks,by unfold Eo;rw [<- append_assoc,<- k3]⟩;have l3:=bs_ s3;refine bL_ (kS (by left)) (by left) (gq.sfx s3) fun c2 q2 e2 hc2 gq2=>?_;rw [e2] at l3;refine .bind (A.ex d _ q2 _ _ had gq2 (by simp only [length_cons] at hn l3;omega)) fun y _ _=>?_;refine d_mk (tn:=tn) (.fn (ks:=c::ks) (a:=y.1) (cons_ne_nil _ _) hk (allc hc k1) hc2) (by simp [pst]) (h6_ (aK_ ?_));rw [k2];rfl
 rw [if_neg h1];by_cases h2:k.tok=word "rec"
 ·rw [if_pos h2]
  refine ent (s:="rec") (p:=[.k "name",.k "name",.ru .names,.k "->",.ru .expr,.mk .rec_]) (kW (by left)) h2 (by left) fun hk=>dV_ gr fun c q e hc gq=>dV_ gq fun c1 q1 e1 hc1 gq1=>?_;subst e e1;refine gi_ q1 gq1 fun ks k1 k2 k3=>?_;have s3:Eo hl (namesHere q1).2 <:+ Eo hl q1:=⟨ks,by unfold Eo;rw [<- append_assoc,<- k3]⟩;have l3:=bs_ s3;refine bL_ (kS (by left)) (by left) (gq1.sfx s3) fun c2 q2 e2 hc2 gq2=>?_;rw [e2] at l3;refine .bind (A.ex d _ q2 _ _ had gq2 (by simp only [length_cons] at hn l3;omega)) fun y _ _=>?_;refine d_mk (tn:=tn) (.rec_ (ks:=ks) (a:=y.1) hk hc hc1 k1 hc2) (by simp [pst]) (h6_ (aK_ ?_));rw [k2];rfl
 rw [if_neg h2];by_cases h3:k.tok=word "let"
 ·rw [if_pos h3]
  exact ent (s:="let") (p:=[.ru .letN,.k "=",.ru .expr,.k "in",.ru .expr,.mk .let_]) (kW (by left)) h3 (by left) fun hk=>lv (A.lt d _ r _ _ k had gr (by omega) hk)
 rw [if_neg h3];by_cases h4:k.tok=word "if"
 ·rw [if_pos h4]
  refine ent (s:="if") (p:=[.ru .expr,.k "then",.ru .expr,.k "else",.ru .expr,.mk .if_]) (kW (by left)) h4 (by left) fun hk => .bind (A.ex d _ r _ _ had gr (by omega)) fun y _ sy=>?_;have ly:=bs_ sy;refine bL_ (kW (by left)) (by left) (gr.sfx sy) fun c2 q2 e2 hc2 gq2=>?_;rw [e2] at ly;rw [length_cons] at ly;refine .bind (A.ex d _ q2 _ _ had gq2 (by omega)) fun z _ sz=>?_;have lz:=bs_ sz;refine bL_ (kW (by left)) (by left) (gq2.sfx sz) fun c3 q3 e3 hc3 gq3=>?_;rw [e3] at lz;rw [length_cons] at lz;refine .bind (A.ex d _ q3 _ _ had gq3 (by omega)) fun w _ _=>?_;exact d_mk (tn:=tn) (.if_ (a:=y.1) (b:=z.1) (c:=w.1) hk hc2 hc3) (by simp [pst]) (h6_ (aK_ rfl))
 rw [if_neg h4];by_cases h5:k.tok=word "match"
 ·rw [if_pos h5]
  exact ent (s:="match") (p:=[.ru .expr,.k "with",.k "[",.k "]",.k "->",.ru .expr,.k "|",.k "name",.k "::",.k "name",.k "->",.ru .expr,.mk .case_]) (kW (by left)) h5 (by left) fun hk=>lv (A.mt d _ r _ _ k had gr (by omega) hk)
 rw [if_neg h5];exact orr (ld_ (fun z=>h1 ((kW (by left) _ gk).mp z)) (fun z=>h2 ((kW (by left) _ gk).mp z)) (fun z=>h3 ((kW (by left) _ gk).mp z)) (fun z=>h4 ((kW (by left) _ gk).mp z)) (fun z=>h5 ((kW (by left) _ gk).mp z)))
theorem om_ (A:All hl n) {d:Nat}{t:Token} (hd:ar+d=40) (g:Gd (Eo hl ts)) (hn:20 * ts.length+14<=n+1) (ht:kindOf t.tok=txt "match"):Does ⟨.ru .expr :: .k "with" :: .k "[" :: .k "]" :: .k "->" :: .ru .expr :: .k "|" :: .k "name" :: .k "::" :: .k "name" :: .k "->" :: .ru .expr :: .mk .case_::td,tn++[.tk t],ar,Eo hl ts⟩ (matchForm hl (n+1) d t.start ts) (pst hl td tn ar):=by
 unfold matchForm;refine .bind (A.ex d _ ts _ _ hd g (by omega)) fun l _ sl=>?_;have ll:=bs_ sl;refine bL_ (kW (by left)) (by left) (g.sfx sl) fun c1 q1 e1 hc1 g1=>?_;refine bL_ (kS (by left)) (by left) g1 fun c2 q2 e2 hc2 g2=>?_;refine bL_ (kS (by left)) (by left) g2 fun c3 q3 e3 hc3 g3=>?_;refine bL_ (kS (by left)) (by left) g3 fun c4 q4 e4 hc4 g4=>?_;rw [e1,e2,e3,e4] at ll;simp only [length_cons] at ll;refine .bind (A.ex d _ q4 _ _ hd g4 (by omega)) fun a _ sa=>?_;have la:=bs_ sa;refine bL_ (kS (by left)) (by left) (g4.sfx sa) fun c5 q5 e5 hc5 g5=>?_;refine dV_ g5 fun c6 q6 e6 hc6 g6=>?_;refine bL_ (kS (by left)) (by left) g6 fun c7 q7 e7 hc7 g7=>?_;refine dV_ g7 fun c8 q8 e8 hc8 g8=>?_;refine bL_ (kS (by left)) (by left) g8 fun c9 q9 e9 hc9 g9=>?_;rw [e5,e6,e7,e8,e9] at la;simp only [length_cons] at la;refine .bind (A.ex d _ q9 _ _ hd g9 (by omega)) fun b _ _=>?_;exact d_mk (tn:=tn) (.case_ (l:=l.1) (a:=a.1) (b:=b.1) ht hc1 hc2 hc3 hc4 hc5 hc6 hc7 hc8 hc9) (by simp [pst]) (aK_ rfl)
theorem eF_ {w:Vaunid.Tok}{r:Toks} (h:nextIs w r=true) : ∃ c q,r=c::q/\c.tok=w:=by
 cases r with
 | nil=>cases h
 | cons c q=>exact ⟨c,q,rfl,beq_iff_eq.mp h⟩
theorem cV_ {s:String}{w:Vaunid.Tok}{r:Toks} (hw : ∀ k,bh_ k->(kindOf k=txt s↔k=w)) (hs : ¬ txt "end"=txt s) (g:Gd (Eo hl r)) (h : ¬ nextIs w r=true) : ¬ kindOf (nx hl r).tok=txt s:=by
 cases r with
 | nil=>exact hs
 | cons c q=>exact fun z=>h (beq_iff_eq.mpr ((hw _ (g c (mem_cons_self ..))).mp z))
theorem ox_ (A:All hl n) {d:Nat}{t:Token} (hd:ar+d=40) (g:Gd (Eo hl ts)) (hn:20 * ts.length+14<=n+1) (ht:kindOf t.tok=txt "let"):Does ⟨.ru .letN :: .k "=" :: .ru .expr :: .k "in" :: .ru .expr :: .mk .let_::td,tn++[.tk t],ar,Eo hl ts⟩ (letForm hl (n+1) d t.start ts) (pst hl td tn ar):=by
 unfold letForm;by_cases h:nextIs (word "rec") ts=true
 ·refine x_21 (eF_ h) fun c0 q0 zr2 h0=>?_
  subst zr2;have gc:=g c0 (mem_cons_self ..);have g0:Gd (Eo hl q0):=g.sfx aT_;have hk:=(kW (s:="rec") (by left) _ gc).mpr h0;simp only [h,↓reduceIte,drop_succ_cons,drop_zero];refine bg_ (by decide) rfl (by decide) (fun _=>?_) fun z=>absurd (aI_.mpr hk) z;refine bz_ hk (dV_ g0 fun c q e hc gq=>?_);dsimp only;rw [bind_assoc];refine dV_ gq fun c1 q1 e1 hc1 g1=>?_;subst e e1;dsimp only;rw [pure_bind];refine gi_ q1 g1 fun ks k1 k2 k3=>?_;have s3:Eo hl (namesHere q1).2 <:+ Eo hl q1:=⟨ks,by unfold Eo;rw [<- append_assoc,<- k3]⟩;have l3:=bs_ s3;refine bL_ (kS (by left)) (by left) (g1.sfx s3) fun c2 q2 e2 hc2 gq2=>?_;rw [e2] at l3;simp only [length_cons] at hn l3;refine .bind (A.ex d _ q2 _ _ hd gq2 (by omega)) fun a _ sa=>?_;have la:=bs_ sa;refine bL_ (kW (by left)) (by left) (gq2.sfx sa) fun c3 q3 e3 hc3 gq3=>?_;rw [e3] at la;simp only [length_cons] at la;refine .bind (A.ex d _ q3 _ _ hd gq3 (by omega)) fun b _ _=>?_;refine d_mk (tn:=tn) (.letRec (ks:=ks) (a:=a.1) (b:=b.1) ht hk hc hc1 k1 hc2 hc3) (by simp [pst]) (aK_ ?_);rw [<- k2];rfl
 have hk:=cV_ (hl:=hl) (s:="rec") (kW (by left)) (by left) g h;simp only [h,↓reduceIte];refine bg_ (by decide) rfl (by decide) (fun z=>absurd (aI_.mp z) hk) fun _=>?_;refine dV_ g fun c q e hc gq=>?_;subst e;dsimp only;rw [if_neg (by decide : ¬ false=true),pure_bind];refine gi_ q gq fun ks k1 k2 k3=>?_;have s3:Eo hl (namesHere q).2 <:+ Eo hl q:=⟨ks,by unfold Eo;rw [<- append_assoc,<- k3]⟩;have l3:=bs_ s3;refine bL_ (kS (by left)) (by left) (gq.sfx s3) fun c2 q2 e2 hc2 gq2=>?_;rw [e2] at l3;simp only [length_cons] at hn l3;refine .bind (A.ex d _ q2 _ _ hd gq2 (by omega)) fun a _ sa=>?_;have la:=bs_ sa;refine bL_ (kW (by left)) (by left) (gq2.sfx sa) fun c3 q3 e3 hc3 gq3=>?_;rw [e3] at la;simp only [length_cons] at la;refine .bind (A.ex d _ q3 _ _ hd gq3 (by omega)) fun b _ _=>?_;refine d_mk (tn:=tn) (.let_ (ks:=ks) (a:=a.1) (b:=b.1) ht hc k1 hc2 hc3) (by simp [pst]) (aK_ ?_);rw [<- k2];rfl
theorem hP_ {k:List Nat}{p:List Ds}:aF_ k [([],p)]=some p:=by
 unfold aF_;rw [if_pos (.inl rfl)]
theorem rk1 (A:All hl n) {d:Nat} (hd:ar+d=40) (g:Gd (Eo hl ts)) (hn:20 * ts.length+11<=n+1):Does ⟨.ru .or_::td,tn,ar,Eo hl ts⟩ (rank hl (n+1) d 1 ts) (pst hl td tn ar):=by
 unfold rank;simp only [Nat.reduceEqDiff,Nat.reduceLeDiff,Nat.reduceAdd,false_and,true_and,↓reduceIte];refine a5_ (by decide) hP_ (.bind (A.rk d _ 2 ts _ _ hd (by omega) (by omega) g (by omega)) fun y _ sy=>?_);obtain ⟨a,r⟩:=y;have ly:=bs_ sy;have gy:=g.sfx sy;dsimp only at ly gy ⊢;by_cases h:nextIs (word "or") r=true
 ·refine x_21 (eF_ h) fun c q zr2 hc=>?_
  subst zr2;have hk:=(kW (s:="or") (by left) _ (gy c (mem_cons_self ..))).mpr hc;rw [if_pos h];rw [length_cons] at ly;refine bg_ (by decide) rfl (by decide) (fun _=>bz_ hk (.bind (A.rk d _ 1 q _ _ hd (by omega) (by omega) (gy.sfx aT_) (by omega)) fun z _ _=>?_)) fun z=>absurd (aI_.mpr hk) z;exact d_mk (tn:=tn) (.or_ (t:=c) (a:=a) (b:=z.1)) (by simp [pst]) (aK_ rfl)
 rw [if_neg h];exact bg_ (by decide) rfl (by decide) (fun z=>absurd (aI_.mp z) (cV_ (kW (by left)) (by left) gy h)) fun _=>aK_ rfl
theorem rk2 (A:All hl n) {d:Nat} (hd:ar+d=40) (g:Gd (Eo hl ts)) (hn:20 * ts.length+10<=n+1):Does ⟨.ru .and_::td,tn,ar,Eo hl ts⟩ (rank hl (n+1) d 2 ts) (pst hl td tn ar):=by
 unfold rank;simp only [Nat.reduceEqDiff,Nat.reduceLeDiff,Nat.reduceAdd,false_and,true_and,↓reduceIte];refine a5_ (by decide) hP_ (.bind (A.rk d _ 3 ts _ _ hd (by omega) (by omega) g (by omega)) fun y _ sy=>?_);obtain ⟨a,r⟩:=y;have ly:=bs_ sy;have gy:=g.sfx sy;dsimp only at ly gy ⊢;by_cases h:nextIs (word "and") r=true
 ·refine x_21 (eF_ h) fun c q zr2 hc=>?_
  subst zr2;have hk:=(kW (s:="and") (by left) _ (gy c (mem_cons_self ..))).mpr hc;rw [if_pos h];rw [length_cons] at ly;refine bg_ (by decide) rfl (by decide) (fun _=>bz_ hk (.bind (A.rk d _ 2 q _ _ hd (by omega) (by omega) (gy.sfx aT_) (by omega)) fun z _ _=>?_)) fun z=>absurd (aI_.mpr hk) z;exact d_mk (tn:=tn) (.and_ (t:=c) (a:=a) (b:=z.1)) (by simp [pst]) (aK_ rfl)
 rw [if_neg h];exact bg_ (by decide) rfl (by decide) (fun z=>absurd (aI_.mp z) (cV_ (kW (by left)) (by left) gy h)) fun _=>aK_ rfl
theorem rk3 (A:All hl n) {d:Nat} (hd:ar+d=40) (g:Gd (Eo hl ts)) (hn:20 * ts.length+9<=n+1):Does ⟨.ru .not_::td,tn,ar,Eo hl ts⟩ (rank hl (n+1) d 3 ts) (pst hl td tn ar):=by
 unfold rank;simp only [Nat.reduceEqDiff,Nat.reduceLeDiff,Nat.reduceAdd,false_and,true_and,↓reduceIte];by_cases h:nextIs (word "not") ts=true
 ·refine x_21 (eF_ h) fun c q zr2 hc=>?_
  subst zr2;have hk:=(kW (s:="not") (by left) _ (g c (mem_cons_self ..))).mpr hc;rw [if_pos h];rw [length_cons] at hn;refine bg_ (by decide) rfl (by decide) (fun _=>bz_ hk (.bind (A.rk d _ 3 q _ _ hd (by omega) (by omega) (g.sfx aT_) (by omega)) fun z _ _=>?_)) fun z=>absurd (aI_.mpr hk) z;exact d_mk (tn:=tn) (.not_ (t:=c) (a:=z.1)) (by simp [pst]) (aK_ rfl)
 rw [if_neg h];refine bg_ (by decide) rfl (by decide) (fun z=>absurd (aI_.mp z) (cV_ (kW (by left)) (by left) g h)) fun _=>?_;exact .bind (A.rk d _ 4 ts _ _ hd (by omega) (by omega) g (by omega)) fun y _ sy=>aK_ rfl
theorem rk5 (A:All hl n) {d:Nat} (hd:ar+d=40) (g:Gd (Eo hl ts)) (hn:20 * ts.length+7<=n+1):Does ⟨.ru .cons::td,tn,ar,Eo hl ts⟩ (rank hl (n+1) d 5 ts) (pst hl td tn ar):=by
 unfold rank;simp only [Nat.reduceEqDiff,Nat.reduceLeDiff,Nat.reduceAdd,false_and,true_and,↓reduceIte];refine a5_ (by decide) hP_ (.bind (A.rk d _ 6 ts _ _ hd (by omega) (by omega) g (by omega)) fun y _ sy=>?_);obtain ⟨a,r⟩:=y;have ly:=bs_ sy;have gy:=g.sfx sy;dsimp only at ly gy ⊢;by_cases h:nextIs (sign "::") r=true
 ·refine x_21 (eF_ h) fun c q zr2 hc=>?_
  subst zr2;have hk:=(kS (s:="::") (by left) _ (gy c (mem_cons_self ..))).mpr hc;rw [if_pos h];rw [length_cons] at ly;refine bg_ (by decide) rfl (by decide) (fun _=>bz_ hk (.bind (A.rk d _ 5 q _ _ hd (by omega) (by omega) (gy.sfx aT_) (by omega)) fun z _ _=>?_)) fun z=>absurd (aI_.mpr hk) z;exact d_mk (tn:=tn) (.cons (t:=c) (a:=a) (b:=z.1)) (by simp [pst]) (aK_ rfl)
 rw [if_neg h];exact bg_ (by decide) rfl (by decide) (fun z=>absurd (aI_.mp z) (cV_ (kS (by left)) (by left) gy h)) fun _=>aK_ rfl
end
section
variable {hl ar n:Nat}{td:List Ds}{tn tk:List It}{ts:Toks}
theorem go_ {k:Vaunid.Tok}{L:List String} (h : ∀ s∈L,(isTaken (txt s) || own3.contains (txt s))=false):kindOf k∈L.map txt↔∃ s∈L,k=sign s:=by
 rw [mem_map];exact ⟨fun ⟨s,m,e⟩=>⟨s,m,(aE_ (h s m)).mp e.symm⟩,fun ⟨s,m,e⟩=>⟨s,m,((aE_ (h s m)).mpr e).symm⟩⟩
theorem gn_ {k:Vaunid.Tok} (g:bh_ k) {L:List String} (h : ∀ s∈L,(isTaken (txt s) && !own3.contains (txt s) && !sgs.contains (txt s))=true):kindOf k∈L.map txt↔∃ s∈L,k=word s:=by
 rw [mem_map];exact ⟨fun ⟨s,m,e⟩=>⟨s,m,(cs_ g (h s m)).mp e.symm⟩,fun ⟨s,m,e⟩=>⟨s,m,((cs_ g (h s m)).mpr e).symm⟩⟩
theorem eP_ {L:List String} (h:txt "end"∉L.map txt) : ¬ kindOf (nx hl []).tok∈L.map txt:=h
theorem ls_ (k:Vaunid.Tok):kindOf k∈["<","=",">","<=",">=","<>"].map txt↔compares k=true:=by
 rw [go_ (by left)];unfold compares;rw [List.any_eq_true];simp only [beq_iff_eq]
theorem mM_ {k:Vaunid.Tok} (h:compares k=true) (s:Stretch) (a b:Got) : ∃ g,Vaunid.gotCompare k s a b=some g:=by
 unfold Vaunid.gotCompare
 repeat' split
 all_goals first | exact ⟨_,rfl⟩ | skip
 simp_all [compares]
theorem rk4 (A:All hl n) {d:Nat} (hd:ar+d=40) (g:Gd (Eo hl ts)) (hn:20 * ts.length+8<=n+1):Does ⟨.ru .cmp::td,tn,ar,Eo hl ts⟩ (rank hl (n+1) d 4 ts) (pst hl td tn ar):=by
 unfold rank;simp only [Nat.reduceEqDiff,Nat.reduceLeDiff,Nat.reduceAdd,false_and,true_and,↓reduceIte];refine a5_ (by decide) hP_ (.bind (A.rk d _ 5 ts _ _ hd (by omega) (by omega) g (by omega)) fun y _ sy=>?_);obtain ⟨a,r⟩:=y;have ly:=bs_ sy;have gy:=g.sfx sy;dsimp only at ly gy ⊢;cases r with
 | nil=>exact bg_ (by decide) rfl (by decide) (fun z=>absurd z (eP_ (by left))) fun _=>aK_ rfl
 | cons c q =>
 dsimp only;by_cases h:compares c.tok=true
 ·rw [if_pos h]
  rw [length_cons] at ly;refine bg_ (by decide) rfl (by decide) (fun _=>lo_ (.bind (A.rk d _ 5 q _ _ hd (by omega) (by omega) (gy.sfx aT_) (by omega)) fun z _ _=>?_)) fun z=>absurd ((ls_ _).mpr h) z;obtain ⟨m,hm⟩:=mM_ h (a.start,z.1.halt_) a z.1;refine d_mk (tn:=tn) (.cmp (t:=c) (a:=a) (b:=z.1) hm) (by simp [pst]) (aK_ ?_);rw [hm];rfl
 rw [if_neg h];exact bg_ (by decide) rfl (by decide) (fun z=>absurd ((ls_ _).mp z) h) fun _=>aK_ rfl
theorem qm_ (A:All hl n) {d k:Nat} (k6:6<=k) (k8:k<=8) (hd:ar+d=40) (g:Gd (Eo hl ts)) (hn:20 * ts.length+12<=n+1+k):Does ⟨.ru (rkR k)::td,tn,ar,Eo hl ts⟩ (rank hl (n+1) d k ts) (pst hl td tn ar):=by
 unfold rank;rw [if_neg (by omega),if_neg (by omega)];have e:aF_ (kindOf (nx hl ts).tok) (ways (rkR k))=some [.ru (rkR (k+1)),.ru (rkT k)]/\rkR k ≠ .expr:=by
  have:k=6\/k=7\/k=8:=by omega
  rcases this with rfl | rfl | rfl <;> exact ⟨hP_,by decide⟩
 refine a5_ e.2 e.1 (.bind (A.rk d _ (k+1) ts _ _ hd (by omega) (by omega) g (by omega)) fun y _ sy=>?_);obtain ⟨a,r⟩:=y;have ly:=bs_ sy;dsimp only at ly ⊢;rw [if_neg (by omega),if_neg (by omega),if_neg (by omega),if_neg (by omega),if_pos k6];exact A.rd d _ k a r _ _ hd k6 k8 (g.sfx sy) (by omega)
theorem rk9 (A:All hl n) {d:Nat} (hd:ar+d=40) (g:Gd (Eo hl ts)) (hn:20 * ts.length+3<=n+1):Does ⟨.ru .app::td,tn,ar,Eo hl ts⟩ (rank hl (n+1) d 9 ts) (pst hl td tn ar):=by
 unfold rank;simp only [Nat.reduceEqDiff,Nat.reduceLeDiff,Nat.reduceAdd,false_and,true_and,↓reduceIte];refine a5_ (by decide) hP_ (.bind (A.hd d _ ts _ _ hd g (by omega)) fun y _ sy=>?_);have ly:=bs_ sy;exact A.as_ d _ y.1 y.2 _ _ hd (g.sfx sy) (by omega)
theorem n1_ (A:All hl n) {d k:Nat} (hd:ar+d=40) (k1:1<=k) (k9:k<=9) (g:Gd (Eo hl ts)) (hn:20 * ts.length+12<=n+1+k):Does ⟨.ru (rkR k)::td,tn,ar,Eo hl ts⟩ (rank hl (n+1) d k ts) (pst hl td tn ar):=by
 have:k=1\/k=2\/k=3\/k=4\/k=5\/(6<=k/\k<=8)\/k=9:=by omega
 rcases this with rfl | rfl | rfl | rfl | rfl | h | rfl
 ·exact rk1 A hd g (by omega)
 ·exact rk2 A hd g (by omega)
 ·exact rk3 A hd g (by omega)
 ·exact rk4 A hd g (by omega)
 ·exact rk5 A hd g (by omega)
 ·exact qm_ A h.1 h.2 hd g (by omega)
 exact rk9 A hd g (by omega)
theorem pP_ {k:Nat} (hk:k=6\/k=7) : ∃ (u v:String) (m:Mq),ways (rkT k)=[([u,v],[.any,.ru (rkR (k+1)),.mk m,.ru (rkT k)]),([],[])]/\rkT k ≠ .expr/\txt "end"∉[u,v].map txt /\
  (∀ c:Vaunid.Tok,kindOf c∈[u,v].map txt↔∃ o,Vaunid.joins k c=some o)/\∀ (t:Token) (o:Two) (a b:Got),Vaunid.joins k t.tok=some o->Made m [.pc a,.tk t,.pc b] (Vaunid.gotTwo o (a.start,b.halt_) a b):=by
 have key : ∀ (u v:String) (p q:Two) (c:Vaunid.Tok),(∃ s∈[u,v],c=sign s)↔∃ o,(if c=sign u then some p else if c=sign v then some q else none)=some o:=by
  intro u v p q c
  constructor
  ·rintro ⟨s,m,e⟩
   by_cases h:c=sign u
   ·rw [if_pos h];exact ⟨_,rfl⟩
   rw [if_neg h];rcases mem_cons.mp m with rfl | m
   ·exact absurd e h
   rw [mem_singleton.mp m] at e;rw [if_pos e];exact ⟨_,rfl⟩
  rintro ⟨o,e⟩
  by_cases h:c=sign u
  ·exact ⟨u,mem_cons_self ..,h⟩
  rw [if_neg h] at e;by_cases h2:c=sign v
  ·exact ⟨v,by simp,h2⟩
  rw [if_neg h2] at e;cases e
 rcases hk with rfl | rfl
 ·exact ⟨"+","-",.sum,rfl,by decide,by left,fun c=>by rw [go_ (by left)];exact key _ _ _ _ c,fun t o a b h => .sum h⟩
 exact ⟨"*","/",.prod,rfl,by decide,by left,fun c=>by rw [go_ (by left)];exact key _ _ _ _ c,fun t o a b h => .prod h⟩
theorem n2_ (A:All hl n) {d k:Nat}{a:Got} (hd:ar+d=40) (k6:6<=k) (k8:k<=8) (g:Gd (Eo hl ts)) (hn:20 * ts.length+1<=n+1):Does ⟨.ru (rkT k)::td,tn++[.pc a],ar,Eo hl ts⟩ (rounds hl (n+1) d k a ts) (pst hl td tn ar):=by
 by_cases hk:k=8
 ·subst hk
  unfold rounds;cases ts with
  | nil=>exact bg_ (r := .powR) (by decide) rfl (by decide) (fun z=>absurd z (eP_ (by left))) fun _=>aK_ rfl
  | cons c r =>
  have gc:=g c (mem_cons_self ..);have gr:Gd (Eo hl r):=g.sfx aT_;dsimp only;rw [length_cons] at hn;by_cases h:c.tok=sign "^"
  ·have hk:=(kS (s:="^") (by left) _ gc).mpr h
   rw [if_pos ⟨rfl,h⟩];refine bg_ (r := .powR) (by decide) rfl (by decide) (fun _=>bz_ hk ?_) fun z=>absurd (aI_.mpr hk) z;by_cases h2:nextIs (sign "-") r=true
   ·refine x_21 (eF_ h2) fun c2 q zr2 hc2=>?_
    subst zr2;have hk2:=(kS (s:="-") (by left) _ (gr c2 (mem_cons_self ..))).mpr hc2;simp only [h2,↓reduceIte,drop_succ_cons,drop_zero];refine bg_ (r := .expo) (by decide) rfl (by decide) (fun _=>bz_ hk2 (ln_ (gr.sfx aT_) fun c3 q3 v m e3 hc3 g3=>?_)) fun z=>absurd (aI_.mpr hk2) z;subst e3;simp only [length_cons] at hn;refine d_mk (tn:=tn) (.mpow (t:=c) (s:=c2) (a:=a) hc3) (by simp) ?_;exact A.rd d _ 8 _ q3 _ _ hd (by omega) (by omega) g3 (by omega)
   have hn2:=cV_ (kS (by left)) (by left) gr h2;simp only [h2,↓reduceIte];refine bg_ (r := .expo) (by decide) rfl (by decide) (fun z=>absurd (aI_.mp z) hn2) fun _=>ln_ gr fun c3 q3 v m e3 hc3 g3=>?_;subst e3;simp only [length_cons] at hn;refine d_mk (tn:=tn) (.pow (t:=c) (a:=a) hc3) (by simp) ?_;exact A.rd d _ 8 _ q3 _ _ hd (by omega) (by omega) g3 (by omega)
  rw [if_neg fun z=>h z.2];exact bg_ (r := .powR) (by decide) rfl (by decide) (fun z=>absurd ((aE_ (by left)).mp (aI_.mp z)) h) fun _=>aK_ rfl
 obtain ⟨u,v,m,hw,h0,h1,h2,h3⟩:=pP_ (k:=k) (by omega);unfold rounds;cases ts with
 | nil=>exact bg_ h0 hw (by simp) (fun z=>absurd z (eP_ h1)) fun _=>aK_ rfl
 | cons c r =>
 have gr:Gd (Eo hl r):=g.sfx aT_;dsimp only;rw [length_cons] at hn;rw [if_neg fun z=>hk z.1];cases hj:Vaunid.joins k c.tok with
 | none=>exact bg_ h0 hw (by simp) (fun z=>by obtain ⟨o,e⟩:=(h2 _).mp z;rw [show (nx hl (c::r)).tok=c.tok from rfl,hj] at e;cases e) fun _=>aK_ rfl
 | some o =>
 dsimp only;refine bg_ h0 hw (by simp) (fun _=>lo_ (.bind (A.rk d _ (k+1) r _ _ hd (by omega) (by omega) gr (by omega)) fun y _ sy=>?_)) fun z=>absurd ((h2 _).mpr ⟨o,hj⟩) z;have ly:=bs_ sy;refine d_mk (tn:=tn) (h3 c o a y.1 hj) (by simp [pst]) ?_;exact A.rd d _ k _ y.2 _ _ hd k6 k8 (gr.sfx sy) (by omega)
end
section
variable {β:Type}{hl ar n:Nat}{td:List Ds}{tn tk:List It}{ts:Toks}{x:Res β}{post:β->RS}
theorem c8_ {k:Vaunid.Tok} (g:bh_ k):kindOf k∈["true","false"].map txt↔k=word "true"\/k=word "false":=by
 rw [gn_ g (by left)];simp
theorem fC_ {k:Vaunid.Tok} (g:bh_ k):kindOf k∈["name","number","digit","true","false","(","["].map txt↔beginsAtom k=true:=by
 have h:kindOf k∈["name","number","digit","true","false","(","["].map txt↔kindOf k=txt "name"\/(kindOf k=txt "number"\/kindOf k=txt "digit")\/kindOf k∈["true","false"].map txt\/kindOf k=txt "("\/kindOf k=txt "[":=by
  simp [or_assoc]
 rw [h,br_ g,ga_ g,c8_ g,aE_ (x:="(") (by left),aE_ (x:="[") (by left)];cases k with
 | word w=>simp [beginsAtom,word,sign]
 | num v d=>simp [beginsAtom,word,sign]
 | sign s=>simp [beginsAtom,word,sign]
theorem oW_ (A:All hl n) {d:Nat}{a:Got} (hd:ar+d=40) (g:Gd (Eo hl ts)) (hn:20 * ts.length+2<=n+1):Does ⟨.ru .appR::td,tn++[.pc a],ar,Eo hl ts⟩ (atoms hl (n+1) d a ts) (pst hl td tn ar):=by
 unfold atoms;cases ts with
 | nil=>exact bg_ (by decide) rfl (by decide) (fun z=>absurd z (eP_ (by left))) fun _=>aK_ rfl
 | cons c r =>
 have gc:=g c (mem_cons_self ..);dsimp only;by_cases h:beginsAtom c.tok=true
 ·rw [if_pos h]
  obtain ⟨p1,p2⟩:=A.at_ d ar (c::r) (.mk .app :: .ru .appR::td) (tn++[.pc a]) hd g (by omega);refine bg_ (by decide) rfl (by decide) (fun _ => .bind p1 fun y e sy=>?_) fun z=>absurd ((fC_ gc).mpr h) z;have ly:=p2 y e;refine d_mk (tn:=tn) (.app (a:=a) (b:=y.1)) (by simp [pst]) ?_;exact A.as_ d _ _ y.2 _ _ hd (g.sfx sy) (by omega)
 rw [if_neg h];exact bg_ (by decide) rfl (by decide) (fun z=>absurd ((fC_ gc).mp z) h) fun _=>aK_ rfl
theorem nP_ (A:All hl n) {d m:Nat} (hd:ar+d=40) (g:Gd (Eo hl ts)) (hn:20 * ts.length+2+m<=n+1):Does ⟨List.replicate m (.ru .atom)++td,tn,ar,Eo hl ts⟩ (several hl (n+1) d m ts) (fun y=>⟨td,tn++y.1.map .pc,ar,Eo hl y.2⟩)/\∀ y,several hl (n+1) d m ts = .ok y->y.1.length=m:=by
 unfold several;by_cases h:m=0
 ·rw [if_pos h,h]
  refine ⟨aK_ (by simp),fun y e=>?_⟩;cases e;rfl
 obtain ⟨m,rfl⟩ : ∃ m',m=m'+1:=⟨m - 1,by omega⟩;rw [if_neg h,Nat.add_sub_cancel];obtain ⟨p1,p2⟩:=A.at_ d ar ts (List.replicate m (.ru .atom)++td) tn hd g (by omega)
 constructor
 ·refine .bind p1 fun y e sy=>?_
  have ly:=p2 y e;obtain ⟨q1,q2⟩:=A.sv d ar m y.2 td (tn++[.pc y.1]) hd (g.sfx sy) (by omega);exact .bind q1 fun z _ _=>aK_ (by simp)
 intro y e;cases ha:atom hl n d ts with
 | error z=>rw [ha] at e;cases e
 | ok v =>
 rw [ha] at e;have ly:=p2 v ha;have sy:=p1.sfx ha;obtain ⟨q1,q2⟩:=A.sv d ar m v.2 td (tn++[.pc v.1]) hd (g.sfx sy) (by omega);cases hs:several hl n d m v.2 with
 | error z =>
  have e:(several hl n d m v.2 >>= fun u=>pure (v.1::u.1,u.2))=Except.ok y:=e;rw [hs] at e;cases e
 | ok u =>
 have e:(several hl n d m v.2 >>= fun u=>pure (v.1::u.1,u.2))=Except.ok y:=e;rw [hs] at e;cases e;show u.1.length+1=m+1;rw [q2 u hs]
theorem i0_ (A:All hl n) {d:Nat}{R:Ru}{M':Mq}{cl:String} (hR:ways R=[([","],[.k ",",.ru .expr,.ru R]),([],[.k cl,.mk M'])]) (hR0:R ≠ .expr) (hcl:(isTaken (txt cl) || own3.contains (txt cl))=false) (hc1 : ¬ txt "end"=txt cl) (hcm : ¬ sign cl=sign ",")
  (rec_ : ∀ d ar ts td tn {β:Type} (f:List Got×Nat×Toks->Res β) (post:β->RS),ar+d=40->Gd (Eo hl ts)->20 * ts.length+13<=n ->
   (∀ a gs l c q,Commas l gs->kindOf c.tok=txt cl->Eo hl q <:+ Eo hl ts->Does ⟨.mk M'::td,tn++(.pc a::(l++[.tk c])),ar,Eo hl q⟩ (f (a::gs,c.halt_,q)) post)->Does ⟨.ru .expr :: .ru R::td,tn,ar,Eo hl ts⟩ (inside hl n d (sign cl) ts >>= f) post)
  (f:List Got×Nat×Toks->Res β) (hd:ar+d=40) (g:Gd (Eo hl ts)) (hn:20 * ts.length+13<=n+1)
  (k : ∀ a gs l c q,Commas l gs->kindOf c.tok=txt cl->Eo hl q <:+ Eo hl ts->Does ⟨.mk M'::td,tn++(.pc a::(l++[.tk c])),ar,Eo hl q⟩ (f (a::gs,c.halt_,q)) post) :
  Does ⟨.ru .expr :: .ru R::td,tn,ar,Eo hl ts⟩ (inside hl (n+1) d (sign cl) ts >>= f) post:=by
 unfold inside;rw [bind_assoc];refine .bind (A.ex d _ ts _ _ hd g (by omega)) fun y _ sy=>?_;obtain ⟨a,r⟩:=y;have ly:=bs_ sy;have gy:=g.sfx sy;have sy:Eo hl r <:+ Eo hl ts:=sy;dsimp only at ly gy ⊢;cases r with
 | nil =>
  refine bg_ hR0 hR (by simp) (fun z=>absurd z (eP_ (by left))) fun _=>?_;exact .bad (.other (t:=sent hl) (l:=[]) hc1)
 | cons c q =>
 have gc:=gy c (mem_cons_self ..);dsimp only;rw [length_cons] at ly;by_cases h:c.tok=sign cl
 ·have hk:kindOf c.tok=txt cl:=(aE_ hcl).mpr h
  rw [if_pos h,pure_bind];refine bg_ hR0 hR (by simp) (fun z=>absurd ((aE_ (by left)).mp (aI_.mp z)) (by show ¬ c.tok=sign ",";rw [h];exact hcm)) fun _=>bz_ hk ?_;have:=k a [] [] c q .nil hk (aT_.trans sy);rw [nil_append] at this;rw [show tn++[.pc (a,c::q).1]++[.tk c]=tn++[.pc a,.tk c] by simp];exact this
 rw [if_neg h];by_cases h2:c.tok=sign ","
 ·have hk:kindOf c.tok=txt ",":=(aE_ (by left)).mpr h2
  rw [if_pos h2,bind_assoc];refine bg_ hR0 hR (by simp) (fun _=>bz_ hk ?_) fun z=>absurd (aI_.mpr hk) z;refine rec_ d _ q _ _ _ _ hd (gy.sfx aT_) (by omega) fun b gs l c2 q2 hl2 hc2 s2=>?_;rw [pure_bind];have:=k a (b::gs) (.tk c :: .pc b::l) c2 q2 (.cons hk hl2) hc2 (s2.trans (aT_.trans sy));rw [show tn++[.pc (a,c::q).1]++[.tk c] ++ .pc b::(l++[.tk c2])=tn ++ .pc a::((.tk c :: .pc b::l)++[.tk c2]) by simp];exact this
 rw [if_neg h2];refine bg_ hR0 hR (by simp) (fun z=>absurd ((aE_ (by left)).mp (aI_.mp z)) h2) fun _=>?_;exact .bad (.other (t:=c) fun z=>h ((aE_ hcl).mp z))
end
section
variable {β:Type}{hl ar n:Nat}{td:List Ds}{tn tk:List It}{ts:Toks}{x:Res β}
theorem fh_ {k:List Nat}{ks:List String}{p:List Ds}{r:List Way} (h:k∈ks.map txt):aF_ k ((ks,p)::r)=some p:=if_pos (.inr h)
theorem bE_ {k:List Nat}{ks:List String}{p:List Ds}{r:List Way} (h0:ks≠[]) (h : ¬ k∈ks.map txt):aF_ k ((ks,p)::r)=aF_ k r:=if_neg fun z=>z.elim h0 h
theorem pH_ {α:Type}{l:List α} (h:l.length=2) : ∃ a b,l=[a,b]:=by
 cases l with
 | nil=>cases h
 | cons a l =>
 obtain ⟨b,rfl⟩:=List.length_eq_one_iff.mp (Nat.succ.inj h);exact ⟨a,b,rfl⟩
theorem qq_ {α:Type}{l:List α} (h:l.length=3) : ∃ a b c,l=[a,b,c]:=by
 cases l with
 | nil=>cases h
 | cons a l =>
 obtain ⟨b,c,rfl⟩:=pH_ (Nat.succ.inj h);exact ⟨a,b,c,rfl⟩
theorem gZ_ (k:Vaunid.Tok) (g:bh_ k):kindOf k∈["fst","snd","root"].map txt↔∃ o,Vaunid.formOne k=some o:=by
 rw [gn_ g (by left)];unfold Vaunid.formOne
 constructor
 ·rintro ⟨s,m,rfl⟩
  simp only [mem_cons,not_mem_nil,or_false] at m;rcases m with rfl | rfl | rfl
  ·exact ⟨.fst,by left⟩
  ·exact ⟨.snd,by left⟩
  exact ⟨.root,by left⟩
 rintro ⟨o,e⟩
 split at e
 ·exact ⟨"fst",by simp,by assumption⟩
 split at e
 ·exact ⟨"snd",by simp,by assumption⟩
 split at e
 ·exact ⟨"root",by simp,by assumption⟩
 cases e
theorem gw_ (k:Vaunid.Tok) (g:bh_ k):kindOf k∈["floor","rest"].map txt↔k=word "floor"\/k=word "rest":=by
 rw [gn_ g (by left)];simp
theorem oG_ (A:All hl n) {d:Nat} (hd:ar+d=40) (g:Gd (Eo hl ts)) (hn:20 * ts.length+2<=n+1):Does ⟨.ru .head::td,tn,ar,Eo hl ts⟩ (head hl (n+1) d ts) (pst hl td tn ar):=by
 unfold head;cases ts with
 | nil=>exact a5_ (p:=[.ru .atom]) (by decide) (endp (by left)) (eR_ (by decide) (endp (by left)))
 | cons k r =>
 have gk:=g k (mem_cons_self ..);have gr:Gd (Eo hl r):=g.sfx aT_;dsimp only;rw [length_cons] at hn;by_cases h1:k.tok=sign "-"
 ·rw [if_pos h1]
  have hk:kindOf k.tok=txt "-":=(aE_ (by left)).mpr h1;refine a5_ (p:=[.k "-",.ru .num,.mk .mnum]) (by decide) (by show aF_ (kindOf k.tok) _=_;rw [hk];left) (bz_ hk ?_);have wn:ways .num=[(["number","digit"],[.any])]:=rfl;cases r with
  | nil=>exact eR_ (by decide) (endp (by left))
  | cons c q =>
  have gc:=gr c (mem_cons_self ..);have m2:kindOf c.tok∈["number","digit"].map txt↔∃ v d,c.tok = .num v d:=by rw [<- ga_ gc];simp
  by_cases h2:kindOf c.tok∈["number","digit"].map txt
  ·obtain ⟨v,dg,e⟩:=m2.mp h2
   refine a5_ (p:=[.any]) (by decide) (fh_ h2) (lo_ ?_);obtain ⟨ct,cs,ch⟩:=c;dsimp only at e;subst e;exact d_mk (tn:=tn) (.mnum (t:=k) (k:=⟨.num v dg,cs,ch⟩) rfl) (by simp) (aK_ rfl)
  obtain ⟨ct,cs,ch⟩:=c;have lo:aF_ (kindOf (nx hl (⟨ct,cs,ch⟩::q)).tok) (ways .num)=none:=bE_ (by simp) h2;cases ct with
  | num v dg=>exact absurd (m2.mpr ⟨v,dg,rfl⟩) h2
  | word w=>exact eR_ (by decide) lo
  | sign s=>exact eR_ (by decide) lo
 rw [if_neg h1];have n1 : ¬ kindOf k.tok∈["-"].map txt:=fun z=>h1 ((aE_ (by left)).mp (aI_.mp z));unfold Vaunid.taking;by_cases h2:kindOf k.tok∈["fst","snd","root"].map txt
 ·obtain ⟨o,ho⟩:=(gZ_ _ gk).mp h2
  rw [if_pos (by rw [ho];rfl)];dsimp only;obtain ⟨p1,p2⟩:=A.sv d ar 1 r (.mk .one::td) (tn++[.tk k]) hd gr (by omega);refine a5_ (p:=[.any,.ru .atom,.mk .one]) (by decide) ((bE_ (by simp) n1).trans (fh_ h2)) (lo_ (.bind p1 fun y e _=>?_));obtain ⟨l,q⟩:=y;obtain ⟨a,rfl⟩:=List.length_eq_one_iff.mp (p2 _ e);have e2:Vaunid.gotTaking k.tok (k.start,([a].getLast?.map fun g=>g.halt_).getD k.halt_) [a]=some (Vaunid.gotOne o (k.start,a.halt_) a):=by
   show (Vaunid.formOne k.tok).map _=_;rw [ho];rfl
  dsimp only;rw [e2];exact d_mk (tn:=tn) (.one (t:=k) (a:=a) ho) (by simp) (aK_ rfl)
 have f1:Vaunid.formOne k.tok=none:=by
  cases e:Vaunid.formOne k.tok with
  | none=>rfl
  | some o=>exact absurd ((gZ_ _ gk).mpr ⟨o,e⟩) h2
 rw [if_neg (by rw [f1];decide)];by_cases h3:kindOf k.tok∈["floor","rest"].map txt
 ·have hw:=(gw_ _ gk).mp h3
  rw [if_pos hw];dsimp only;obtain ⟨o,ho⟩ : ∃ o,Vaunid.formTwo k.tok=some o:=by
   rcases hw with e | e <;> rw [e]
   ·exact ⟨.floor,by left⟩
   exact ⟨.rest,by left⟩
  obtain ⟨p1,p2⟩:=A.sv d ar 2 r (.mk .two::td) (tn++[.tk k]) hd gr (by omega);refine a5_ (p:=[.any,.ru .atom,.ru .atom,.mk .two]) (by decide) ((bE_ (by simp) n1).trans ((bE_ (by simp) h2).trans (fh_ h3))) (lo_ (.bind p1 fun y e _=>?_));obtain ⟨l,q⟩:=y;obtain ⟨a,b,rfl⟩:=pH_ (p2 _ e);have e2:Vaunid.gotTaking k.tok (k.start,([a,b].getLast?.map fun g=>g.halt_).getD k.halt_) [a,b]=some (Vaunid.gotTwo o (k.start,b.halt_) a b):=by
   show (Vaunid.formTwo k.tok).map _=_;rw [ho];rfl
  dsimp only;rw [e2];exact d_mk (tn:=tn) (.two (t:=k) (a:=a) (b:=b) ho hw) (by simp) (aK_ rfl)
 rw [if_neg fun z=>h3 ((gw_ _ gk).mpr z)];by_cases h4:k.tok=word "fold"
 ·have hk:=(cs_ (x:="fold") gk (by left)).mpr h4
  rw [if_pos h4];dsimp only;obtain ⟨p1,p2⟩:=A.sv d ar 3 r (.mk .three::td) (tn++[.tk k]) hd gr (by omega);refine a5_ (p:=[.k "fold",.ru .atom,.ru .atom,.ru .atom,.mk .three]) (by decide) (by show aF_ (kindOf k.tok) _=_;rw [hk];left) (bz_ hk (.bind p1 fun y e _=>?_));obtain ⟨l,q⟩:=y;refine x_30 (qq_ (p2 _ e)) fun a b c zr3=>?_;subst zr3;have e2:Vaunid.gotTaking k.tok (k.start,([a,b,c].getLast?.map fun g=>g.halt_).getD k.halt_) [a,b,c]=some (Vaunid.gotThree .fold (k.start,c.halt_) a b c):=by
   show (Vaunid.formThree k.tok).map _=_;rw [h4,show Vaunid.formThree (word "fold")=some .fold by left];rfl
  dsimp only;rw [e2];exact d_mk (tn:=tn) (.three (t:=k) (a:=a) (b:=b) (c:=c) h4) (by simp) (aK_ rfl)
 rw [if_neg h4];have n4 : ¬ kindOf k.tok∈["fold"].map txt:=fun z=>h4 ((cs_ gk (by left)).mp (aI_.mp z));refine a5_ (p:=[.ru .atom]) (by decide) ((bE_ (by simp) n1).trans ((bE_ (by simp) h2).trans ((bE_ (by simp) h3).trans ((bE_ (by simp) n4).trans hP_)))) ?_;exact (A.at_ d ar (k::r) td tn hd g (by rw [length_cons];omega)).1
theorem lA_ {d:Nat}{k:Token}{r:Toks}{s:RS}{x:Res (Got×Toks)} (h:Gs ⟨.ru .atom::td,tn,ar,Eo hl (k::r)⟩ s) (e:s.l=Eo hl r) (q:Does s x (pst hl td tn ar)):Does ⟨.ru .atom::td,tn,ar,Eo hl (k::r)⟩ x (pst hl td tn ar)/\∀ y,x = .ok y->y.2.length<(k::r).length :=
 ⟨.pre h (by rw [e];exact aT_) q,fun y z=>Nat.lt_succ_of_le (bs_ (by rw [<- e];exact q.sfx z))⟩
theorem eM_ {r:Ru}{p:List Ds} (hr:r ≠ .expr) (h:aF_ (kindOf (nx hl ts).tok) (ways r)=some p):Gs ⟨.ru r::td,tn,ar,Eo hl ts⟩ ⟨p++td,tn,ar,Eo hl ts⟩:=by
 obtain ⟨l,e⟩:=le_ hl ts;rw [e];exact .one (.path hr h)
theorem oV_ (A:All hl n) {d:Nat} (hd:ar+d=40) (g:Gd (Eo hl ts)) (hn:20 * ts.length+1<=n+1):Does ⟨.ru .atom::td,tn,ar,Eo hl ts⟩ (atom hl (n+1) d ts) (pst hl td tn ar)/\∀ y,atom hl (n+1) d ts = .ok y->y.2.length<ts.length:=by
 unfold atom;cases ts with
 | nil=>exact ⟨eR_ (by decide) (endp (by left)),fun y e=>by cases e⟩
 | cons k r =>
 have gk:=g k (mem_cons_self ..);have gr:Gd (Eo hl r):=g.sfx aT_;dsimp only;rw [length_cons] at hn;by_cases h1:k.tok=sign "("
 ·rw [if_pos h1]
  have hk:kindOf k.tok=txt "(":=(aE_ (by left)).mpr h1;refine lA_ (d:=d) ((eM_ (hl:=hl) (ts:=k::r) (r := .atom) (p:=[.k "(",.ru .expr,.ru .brR]) (by decide) (by show aF_ (kindOf k.tok) _=_;rw [hk];left)).trans (.one (.kind hk))) rfl ?_;refine A.br d ar r td (tn++[.tk k]) _ _ hd gr (by omega) fun a gs l c q hc hcl sq=>?_;dsimp only;cases gs with
  | nil =>
   cases hc;exact d_mk (tn:=tn) (.br1 (a:=a) hk hcl) (by simp) (aK_ rfl)
  | cons b gs=>exact d_mk (tn:=tn) (.brN (a:=a) hk hcl hc) (by simp) (aK_ rfl)
 rw [if_neg h1];by_cases h2:k.tok=sign "["
 ·rw [if_pos h2]
  have hk:kindOf k.tok=txt "[":=(aE_ (by left)).mpr h2;refine lA_ (d:=d) ((eM_ (hl:=hl) (ts:=k::r) (r := .atom) (p:=[.k "[",.ru .list]) (by decide) (by show aF_ (kindOf k.tok) _=_;rw [hk];left)).trans (.one (.kind hk))) rfl ?_;by_cases h3:nextIs (sign "]") r=true
  ·refine x_21 (eF_ h3) fun c q zr2 hc=>?_
   subst zr2;have hk2:kindOf c.tok=txt "]":=(aE_ (by left)).mpr hc;rw [if_pos h3];exact bg_ (r := .list) (by decide) rfl (by decide) (fun _=>bz_ hk2 (d_mk (tn:=tn) (.nil (t:=k) (u:=c) hk hk2) (by simp) (aK_ rfl))) fun z=>absurd (aI_.mpr hk2) z
  rw [if_neg h3];refine bg_ (r := .list) (by decide) rfl (by decide) (fun z=>absurd (aI_.mp z) (cV_ (kS (by left)) (by left) gr h3)) fun _=>?_;refine A.li d ar r td (tn++[.tk k]) _ _ hd gr (by omega) fun a gs l c q hc hcl sq=>?_;exact d_mk (tn:=tn) (.list (a:=a) hk hcl hc) (by simp) (aK_ rfl)
 rw [if_neg h2];have n4 : ¬ kindOf k.tok∈["("].map txt:=fun z=>h1 ((aE_ (by left)).mp (aI_.mp z));have n5 : ¬ kindOf k.tok∈["["].map txt:=fun z=>h2 ((aE_ (by left)).mp (aI_.mp z));have m2:kindOf k.tok∈["number","digit"].map txt↔∃ v d,k.tok = .num v d:=by rw [<- ga_ gk];simp
 by_cases k1:kindOf k.tok∈["name"].map txt
 ·have hk:=aI_.mp k1
  obtain ⟨w,e1,e2⟩:=(br_ gk).mp hk;have e3:Vaunid.leafOf k.tok=some (.name w):=by
   have nt:=(dE_ e2).2.2.2;rw [e1];show (if w=txt "true" then _ else if w=txt "false" then _ else if w=txt "nil" then _ else if isName w=true then some (Vaunid.Leaf.name w) else none)=_;rw [if_neg (fun z=>by rw [z] at nt;exact absurd nt (by left)),if_neg (fun z=>by rw [z] at nt;exact absurd nt (by left)),if_neg (fun z=>by rw [z] at nt;exact absurd nt (by left)),if_pos e2]
  rw [e3];refine lA_ (d:=d) ((eM_ (hl:=hl) (ts:=k::r) (r := .atom) (p:=[.k "name",.mk .name]) (by decide) (fh_ k1)).trans (.one (.kind hk))) rfl ?_;refine d_mk (tn:=tn) (.name (t:=k) hk) (by simp) (aK_ ?_);rw [e1];rfl
 by_cases k2:kindOf k.tok∈["number","digit"].map txt
 ·obtain ⟨v,dg,e⟩:=m2.mp k2
  rw [show Vaunid.leafOf k.tok=some (.num v) by rw [e];rfl];refine lA_ (d:=d) ((eM_ (hl:=hl) (ts:=k::r) (r := .atom) (p:=[.any,.mk .number]) (by decide) ((bE_ (by simp) k1).trans (fh_ k2))).trans (.one (.any (List.append_ne_nil_of_right_ne_nil _ (cons_ne_nil _ _))))) rfl ?_;exact d_mk (tn:=tn) (.number (t:=k) e) (by simp) (aK_ rfl)
 by_cases k3:kindOf k.tok∈["true","false"].map txt
 ·have key : ∃ b:Bool,k.tok=word (if b=true then "true" else "false")/\Vaunid.leafOf k.tok=some (.truth b):=by
   rcases (c8_ gk).mp k3 with e | e <;> rw [e]
   ·exact ⟨true,rfl,by left⟩
   exact ⟨false,rfl,by left⟩
  obtain ⟨b,e,e2⟩:=key;rw [e2];refine lA_ (d:=d) ((eM_ (hl:=hl) (ts:=k::r) (r := .atom) (p:=[.any,.mk .truth]) (by decide) ((bE_ (by simp) k1).trans ((bE_ (by simp) k2).trans (fh_ k3)))).trans (.one (.any (List.append_ne_nil_of_right_ne_nil _ (cons_ne_nil _ _))))) rfl ?_;exact d_mk (tn:=tn) (.truth (t:=k) e) (by simp) (aK_ rfl)
 have lo:aF_ (kindOf (nx hl (k::r)).tok) (ways .atom)=none:=(bE_ (by simp) k1).trans ((bE_ (by simp) k2).trans ((bE_ (by simp) k3).trans ((bE_ (by simp) n4).trans ((bE_ (by simp) n5).trans rfl))));have lf:Vaunid.leafOf k.tok=none\/Vaunid.leafOf k.tok=some .nil:=by
  cases e:k.tok with
  | num v dg=>exact absurd (m2.mpr ⟨v,dg,e⟩) k2
  | sign s=>exact .inl rfl
  | word w =>
  have ee:Vaunid.leafOf (.word w)=if w=txt "true" then some (.truth true) else if w=txt "false" then some (.truth false) else if w=txt "nil" then some .nil else if isName w=true then some (.name w) else none:=rfl;rw [ee,if_neg (fun z=>k3 ((c8_ gk).mpr (.inl (by rw [e,z];rfl)))),if_neg (fun z=>k3 ((c8_ gk).mpr (.inr (by rw [e,z];rfl))))];by_cases hn:w=txt "nil"
  ·rw [if_pos hn];exact .inr rfl
  rw [if_neg hn,if_neg fun z=>k1 (aI_.mpr ((br_ gk).mpr ⟨w,e,z⟩))];exact .inl rfl
 have:Does ⟨.ru .atom::td,tn,ar,Eo hl (k::r)⟩ (fault 6 k.start:Vaunid.P) (pst hl td tn ar)/\∀ y,(fault 6 k.start:Vaunid.P) = .ok y->y.2.length<(k::r).length:=⟨eR_ (by decide) lo,fun y e=>by cases e⟩;rcases lf with e | e <;> rw [e] <;> exact this
end
theorem qb_ (hl n:Nat):All hl n:=by
 induction n with
 | zero =>
  constructor
  ·intros;omega
  ·intros;omega
  ·intros;omega
  ·intros;omega
  ·intros;omega
  ·intros;omega
  ·intros;omega
  ·intros;omega
  ·intros;omega
  ·intros;omega
  intros;omega
 | succ n A =>
 exact ⟨fun _ _ _ _ _ h1 h2 h3=>oN_ A h1 h2 h3,fun _ _ _ _ _ _ h1 h2 h3 h4=>ox_ A h1 h2 h3 h4,fun _ _ _ _ _ _ h1 h2 h3 h4=>om_ A h1 h2 h3 h4,fun _ _ _ _ _ _ h1 h2 h3 h4 h5=>n1_ A h1 h2 h3 h4 h5,fun _ _ _ _ _ _ _ h1 h2 h3 h4 h5=>n2_ A h1 h2 h3 h4 h5,
  fun _ _ _ _ _ _ h1 h2 h3=>oW_ A h1 h2 h3,fun _ _ _ _ _ h1 h2 h3=>oG_ A h1 h2 h3,fun _ _ _ _ _ _ h1 h2 h3=>nP_ A h1 h2 h3,fun _ _ _ _ _ h1 h2 h3=>oV_ A h1 h2 h3,
  fun _ _ _ _ _ _ f _ h1 h2 h3 h4=>i0_ A rfl (by decide) (by left) (by left) (by left) A.br f h1 h2 h3 h4,
  fun _ _ _ _ _ _ f _ h1 h2 h3 h4=>i0_ A rfl (by decide) (by left) (by left) (by left) A.li f h1 h2 h3 h4⟩
noncomputable def j3_ (hl:Nat) (ts:Toks):RS:=⟨[.ru .expr,.k "end"],[],0,Eo hl ts⟩
noncomputable def e5_ (hl n:Nat) (ts:Toks):Res Got:=match expression hl n 40 ts with
 | .error e => .error e
 | .ok (g,[]) => .ok g
 | .ok (_,k::_)=>fault 6 k.start
theorem e4_ {hl:Nat}{ts:Toks} (g:Gd (Eo hl ts)) (h0 : ∀ k∈ts,¬ k.tok=sign "end") {n:Nat} (hn:20 * ts.length+12<=n) : ∃ m,Runs (j3_ hl ts) (e5_ hl n ts) m:=by
 have h:=(qb_ hl n).ex 40 0 ts [.k "end"] [] rfl g hn;unfold e5_;cases e:expression hl n 40 ts with
 | error z=>rw [e] at h;exact h
 | ok y =>
 rw [e] at h;obtain ⟨a,r⟩:=y;obtain ⟨h1,h2⟩:=h;have h2:Eo hl r <:+ Eo hl ts:=h2;cases r with
 | nil=>exact h1 _ 1 (.go (.kind rfl) .done)
 | cons k r =>
 refine h1 _ 1 (.bad (.other (t:=k) fun z=>?_));have z:=(aE_ (by left)).mp z;obtain ⟨p,e2⟩:=h2;have:k∈ts:=by
  unfold Eo at e2;have e2:(p++(k::r))++[sent hl]=ts++[sent hl]:=by rw [<- e2];simp
  have:=List.append_cancel_right e2;rw [<- this];simp
 exact h0 k this z
end M
namespace L2
open PySem PySem.Spec PyProof.Rows TL
def mY_ (K:Frag) (te:TE):TE:=fun σ H Q=>te σ H fun x H1=>∃ t b,TyOf K H1 x t/\kitOne K t (.type "int")=some b/\Q (.bl b) H1
section
variable {X:Cx}{e:Expr}{te:TE}{p1 p2 pos:Pos}
theorem l5_ (he:PE X e te) (hg:Gl X "isinstance") (hm:X.mg "isinstance"=none) (hg2:Gl X "int") (hm2:X.mg "int"=none)
  (hs:starEach [e,.Name "int" p2] X.env=[(false,eval e X.env),(false,eval (.Name "int" p2) X.env)]:=by rfl) (hpl:(backTo pos (starEach [.Name "int" p2] X.env)).any (·.1)=false:=by rfl)
  (hs2:starEach [.Name "int" p2] X.env=[(false,eval (.Name "int" p2) X.env)]:=by rfl) (hs1:starEach [e,.Name "int" p2] X.env=(false,eval e X.env)::starEach [.Name "int" p2] X.env:=by rfl):PE X (.Call (.Name "isinstance" p1) [e,.Name "int" p2] [] pos) (mY_ X.K te):=by
 intro zz s σ H Q I h;refine wpAny_Call_Name_kw (dS_ I hg hm d0_ ?_ (by decide) (by decide));refine PyProof.Rows.callWith_builtin1 ?_ hs1 hpl;rw [hs];show wpAny _ _ (spliced ((false,eval e X.env)::[(false,eval (.Name "int" p2) X.env)])) _ _ s;refine Calls.spliced_cons (thn (he zz s σ H _ I h) fun u s1 ⟨x,H1,I1,r1,t,b,ty,ke,q1⟩=>Calls.spliced_cons ?_);refine dS_ I1 hg2 hm2 ca_ (Calls.spliced_nil ?_) (by decide) (by decide);exact k2_ I1 r1 ty ke fun tk=>⟨.bl b,H1,I1.tok tk,rfl,q1⟩
end
theorem fR_ (K:Frag) {X:Cx}{e:Expr}{f:Str}{pos:Pos}{ta:TE} (he:PE X e ta) (hK:X.K=K) (hb:attributeBase e f X.env (eval e X.env)=eval e X.env):PE X (.Attribute e f pos) (tFld K ta f):=hK ▸ al_ he hb
theorem mW_ {wi:TI}{g:TG}{tt:TT}{te:TE}{vs:List Nat}{σ:St}{H H1:Hp}{Q:VK} (J:It) (xs:List V) (f:V->Option V) (hw : ∀ R:It->Hp->Prop,R J H1->wi σ H R) (hn:xs.length<=sizeLine)
  (hgo:(∀ i x H,Same H1 H->xs[i]? = some x->J.go i H/\∀ y H',J.yld i H y H'->H'=H/\y=x)/\∀ H,Same H1 H->J.stop xs.length H)
  (hs : ∀ x H D zx (Nx:Hp->Prop),x∈xs->Same H1 H->H D=some (.lst zx)->zx.length<sizeLine->(∀ y,f x=some y->Nx (upd H D (.lst (zx++[y]))))->(f x=none->Nx H) ->
   g x (wipe σ vs) H fun σ2 H2=>wipe σ2 vs=wipe σ vs/\tt σ2 H2 fun b H3=>if b=true then te σ2 H3 fun y H4=>∃ zx,H4 D=some (.lst zx)/\zx.length<sizeLine/\Nx (upd H4 D (.lst (zx++[y]))) else Nx H3)
  (hd : ∀ D H,H1 D=none->Same H1 H->H D=some (.lst (xs.filterMap f))->Q (.ref D) H):tLc wi g tt te vs σ H Q :=
 hw _ fun D hD=>by
 refine ⟨fun i m H=>m=xs.length - i/\i<=xs.length/\Same H1 H/\H D=some (.lst ((xs.take i).filterMap f)),⟨_,rfl,zero_le _,Same.upd hD,af_⟩,?_⟩
 rintro i m H ⟨rfl,hi,sm,hd1⟩
 by_cases hlt:i<xs.length
 ·have hx:xs[i]? = some xs[i]:=getElem?_eq_getElem hlt
  obtain ⟨go,yl⟩:=hgo.1 i xs[i] H sm hx;refine .inr ⟨go,fun H'=>Same H1 H'/\H' D=some (.lst ((xs.take (i+1)).filterMap f)),fun H' z=>⟨_,by omega,rfl,hlt,z.1,z.2⟩,fun y H' q=>?_⟩;obtain ⟨rfl,rfl⟩:=yl y H' q;have ll:((xs.take i).filterMap f).length<sizeLine:=Nat.lt_of_le_of_lt (List.length_filterMap_le ..) (by rw [length_take];omega);refine hs _ H' D _ _ (List.getElem_mem hlt) sm hd1 ll (fun y e=>⟨fun b o e=>?_,?_⟩) fun e=>⟨sm,?_⟩
  ·rw [ag_ (ai_ e hD)]
   exact sm _ _ e
  ·rw [af_,take_succ,hx,List.filterMap_append]
   simp [e]
  rw [hd1,take_succ,hx,List.filterMap_append];simp [e]
 have e:i=xs.length:=by omega
 subst e;rw [take_length] at hd1;exact .inl ⟨hgo.2 H sm,hd D H hD sm hd1⟩
end L2
namespace M
open PySem PySem.Spec PyProof.Rows L2 TL
open Vaunid (Token txt word sign Got Res)
def Ru.nm:Ru->String
 | .expr=>"EXPRESSION" | .names=>"NAMES" | .letN=>"LET NAMES" | .or_=>"OR" | .orR=>"OR REST" | .and_=>"AND" | .andR=>"AND REST" | .not_=>"NOT" | .cmp=>"COMPARE" | .cmpR=>"COMPARE REST" | .cons=>"CONSING" | .consR=>"CONSING REST" | .sum=>"SUM" | .sumR=>"SUM REST" | .prod=>"PRODUCT" | .prodR=>"PRODUCT REST" | .pow=>"POWER" | .powR=>"POWER REST" | .expo=>"EXPONENT" | .app=>"APPLY" | .appR=>"APPLY REST" | .head=>"HEAD" | .num=>"NUMBER" | .atom=>"ATOM" | .brR=>"BRACKET REST" | .list=>"LIST" | .listR=>"LIST REST"
noncomputable def Mq.nm:Mq->String
 | .fn=>"make fun" | .rec_=>"make rec" | .let_=>"make let" | .if_=>"make if" | .case_=>"make match" | .or_=>"make or" | .and_=>"make and" | .not_=>"make not" | .cmp=>"make compare" | .cons=>"make consing" | .sum=>"make sum" | .prod=>"make product" | .pow=>"make power" | .mpow=>"make minus power" | .app=>"make apply" | .mnum=>"make minus number" | .one=>"make word of one" | .two=>"make word of two" | .three=>"make word of three" | .name=>"make name" | .number=>"make number" | .truth=>"make truth" | .bracket=>"make bracket" | .list=>"make list"
noncomputable def Ds.nm:Ds->String
 | .ru r=>r.nm | .mk m=>m.nm | .leave=>"leave expression" | .any=>"any token" | .k s=>s
def cJ_:List Ru:=[.expr,.names,.letN,.or_,.orR,.and_,.andR,.not_,.cmp,.cmpR,.cons,.consR,.sum,.sumR,.prod,.prodR,.pow,.powR,.expo,.app,.appR,.head,.num,.atom,.brR,.list,.listR]
def d1_:List Mq:=[.fn,.rec_,.let_,.if_,.case_,.or_,.and_,.not_,.cmp,.cons,.sum,.prod,.pow,.mpow,.app,.mnum,.one,.two,.three,.name,.number,.truth,.bracket,.list]
def Mq.reach:Mq->Nat ⊕ String
 | .fn => .inr "fun" | .rec_ => .inr "rec" | .let_ => .inr "let" | .if_ => .inl 6 | .case_ => .inl 13 | .or_ => .inl 3 | .and_ => .inl 3 | .not_ => .inl 2 | .cmp => .inl 3 | .cons => .inl 3 | .sum => .inl 3 | .prod => .inl 3 | .pow => .inl 3 | .mpow => .inl 4 | .app => .inl 2 | .mnum => .inl 2 | .one => .inl 2 | .two => .inl 3 | .three => .inl 4 | .name => .inl 1 | .number => .inl 1 | .truth => .inl 1 | .bracket => .inr "(" | .list => .inr "["
def gP_:Nat ⊕ String->V
 | .inl n => .int (n:Int)
 | .inr s => .str (ofString s)
def mqF (l:List Addr) (m:Mq):Addr:=l.getD m.ctorIdx 0
def mQ_ (K:Frag) (b:Addr) (w:Way):Prop:=∃ k p,(∀ H,SqT K H b [.ref k,.ref p])/\lC_ K k (w.1.map ofString)/\lC_ K p (w.2.map fun d=>ofString d.nm)
def lD_ (w:World) (K:Frag) (a:Addr):Prop:=∃ ad:Ru->Addr,MDict w K a (cJ_.map fun r=>(ofString r.nm,.ref (ad r)))/\∀ r,∃ bs:List Addr,(∀ H,SqT K H (ad r) (bs.map V.ref))/\Paired (mQ_ K) bs (ways r)
def jd_ (w:World) (K:Frag) (a:Addr) (f:Mq->Addr):Prop:=∃ ad:Mq->Addr,MDict w K a (d1_.map fun m=>(ofString m.nm,.ref (ad m)))/\∀ m H,SqT K H (ad m) [gP_ m.reach,.ref (f m)]
def ex (ms:List Addr) (H:Hp):Hp:=fun a=>if a∈ms then none else H a
theorem be_ (ms:List Addr) (H:Hp):Same (ex ms H) H:=fun a o e=>by
 unfold ex at e;split at e
 ·cases e
 exact e
theorem jK_ {ms:List Addr}{H:Hp}{a:Addr}{o:HO} (n:a∉ms) (e:H a=some o):ex ms H a=some o:=by
 unfold ex;rw [if_neg n];exact e
theorem qt_ {ms:List Addr}{H:Hp}{a:Addr}{o:HO} (e:ex ms H a=some o):a∉ms:=fun m=>by
 unfold ex at e;rw [if_pos m] at e;cases e
theorem dJ_ {ms ns:List Addr}{H H':Hp} (s:ay_ ms H H') (h : ∀ a∈ns,a∈ms\/H a=none):Same (ex ms H) (ex ns H'):=fun a o e=>by
 have n:=qt_ e;have q:=be_ ms H a o e;exact jK_ (fun m=>(h a m).elim n fun z=>by rw [z] at q;cases q) (s a o n q)
theorem bN_ {ms:List Addr}{H H':Hp} (s:Same H H'):Same (ex ms H) (ex ms H'):=dJ_ (ay_.of s) fun _ m => .inl m
def Hre (ms:List Addr) (H:Hp):Prop:=∀ a∈ms,∃ o,H a=some o
theorem Hre.same {ms:List Addr}{H H':Hp} (h:Hre ms H) (s:Same H H'):Hre ms H':=fun a m=>let ⟨o,e⟩:=h a m;⟨o,s _ _ e⟩
theorem Hre.new {ms:List Addr}{H H':Hp}{a:Addr}{o:HO} (h:Hre ms H) (n:H a=none) (e:H' a=some o):ex ms H' a=some o:=jK_ (fun m=>by obtain ⟨o,q⟩:=h a m;rw [n] at q;cases q) e
mutual
noncomputable def stT:Tr->List (Nat×Nat)
 | .mk _ _ b e ps=>(b,e)::stTL ps
noncomputable def stTL:List Tr->List (Nat×Nat)
 | []=>[]
 | t::r=>stT t++stTL r
end
def hz_ (Cn:Addr) (H:Hp) (n:Addr) (x:Term) (l:List (Nat×Nat)):Prop:=∃ tr F,Rep x tr/\TreeAt Cn H n tr F/\stT tr=l
abbrev bB_ (Cn:Addr) (H:Hp) (n:Addr) (g:Got):Prop:=hz_ Cn H n g.term g.places
theorem hz_.same {Cn:Addr}{H H':Hp}{n:Addr}{x:Term}{l:List (Nat×Nat)} (h:hz_ Cn H n x l) (s:Same H H'):hz_ Cn H' n x l:=by
 obtain ⟨tr,F,r,t,e⟩:=h;exact ⟨tr,F,r,t.same s,e⟩
theorem mj_ {Cn:Addr}{H:Hp}{as:List Addr}{gs:List Got} (h:Paired (fun a g=>bB_ Cn H a g) as gs) : ∃ ts F,Reps (gs.map (·.term)) ts/\TreesAt Cn H as ts F/\stTL ts=gs.flatMap (·.places):=by
 induction h with
 | nil=>exact ⟨[],[],.nil,.nil,rfl⟩
 | cons h1 _ ih =>
 refine x_22 h1 fun tr F r t e=>?_;refine x_22 ih fun ts G rs hts es=>?_;exact ⟨tr::ts,F++G,.cons r rs,.cons t hts,by rw [List.flatMap_cons,<- e,<- es];rfl⟩
theorem hz_.of {Cn:Addr}{H:Hp}{n dx wl pl:Addr}{x:Term}{as:List Addr}{gs:List Got}{b e:Nat} (hn:H n=some (.ins Cn dx (di_ (S (la_ x)) wl pl (b:Int) (e:Int)))) (hw:H wl=some (.lst (((ei_ x).map S).map V.str))) (hp:H pl=some (.lst (as.map V.ref))) (h:Paired (fun a g=>bB_ Cn H a g) as gs) (q:eC_ x=gs.map (·.term)):hz_ Cn H n x ((b,e)::gs.flatMap (·.places)):=by
 refine x_22 (mj_ h) fun ts F r t es=>?_;exact ⟨.mk (la_ x) (ei_ x) b e ts,_,.mk (by rw [q];exact r),.mk hn hw hp t,by rw [<- es];rfl⟩
noncomputable def dB_ (n:Addr) (b e:Int):List (Str×V):=[("kind",.str "term"),("node",.ref n),("begin",.int b),("end",.int e)]
def IAt (Ca Ct Cp Cn:Addr) (H:Hp) (a:Addr):It->Prop
 | .tk t=>TokB Ca Ct H a t/\bh_ t.tok
 | .pc g=>∃ dx n,H a=some (.ins Cp dx (dB_ n (g.start:Int) (g.halt_:Int)))/\bB_ Cn H n g
theorem TokB.same {Ca Ct:Addr}{H H':Hp}{a:Addr}{k:Token} (h:TokB Ca Ct H a k) (s:Same H H'):TokB Ca Ct H' a k:=h.imm (Imm.of (ay_.of s) (xs:=[]) all0)
theorem IAt.same {Ca Ct Cp Cn:Addr}{H H':Hp}{a:Addr}{i:It} (h:IAt Ca Ct Cp Cn H a i) (s:Same H H'):IAt Ca Ct Cp Cn H' a i:=by
 cases i with
 | tk t=>exact ⟨TokB.same h.1 s,h.2⟩
 | pc g=>obtain ⟨dx,n,e,q⟩:=h;exact ⟨dx,n,s _ _ e,q.same s⟩
def It.start:It->Nat
 | .tk t=>t.start
 | .pc g=>g.start
def It.halt:It->Nat
 | .tk t=>t.halt_
 | .pc g=>g.halt_
theorem IAt.fields {Ca Ct Cp Cn:Addr}{H:Hp}{a:Addr}{i:It} (h:IAt Ca Ct Cp Cn H a i) : ∃ C dx fs,(C=Ct\/C=Cp)/\H a=some (.ins C dx fs)/\fs.lookup ("kind":Str)=some (V.str (S i.kind))/\fs.lookup ("begin":Str)=some (V.int (i.start:Int))/\fs.lookup ("end":Str)=some (V.int (i.halt:Int)):=by
 cases i with
 | tk t=>obtain ⟨⟨dx,c,e,_⟩,_⟩:=h;exact ⟨_,_,_,.inl rfl,e,rfl,rfl,rfl⟩
 | pc g=>obtain ⟨dx,n,e,_⟩:=h;exact ⟨_,_,_,.inr rfl,e,by show some (V.str "term")=_;rw [bM_];rfl,rfl,rfl⟩
theorem hb_ {t:Token} (g:bh_ t.tok) : ¬ kindOf t.tok=txt "term":=by
 cases e:t.tok with
 | word w =>
  simp only [kindOf];split
  ·rename_i q;intro z;rw [z] at q;exact absurd q (by left)
  left
 | num v d =>
  simp only [kindOf];split <;> left
 | sign s =>
 rw [e] at g;have : ∀ s∈sgs,¬ s=txt "term":=by left
 exact this s (g.elim (mem_cons_of_mem _) fun q=>by rw [q];exact mem_cons_self ..)
def ptsI:List It->List Got
 | []=>[]
 | .pc g::r=>g::ptsI r
 | .tk _::r=>ptsI r
noncomputable def nmsI:List It->List (List Nat)
 | []=>[]
 | .pc _::r=>nmsI r
 | .tk t::r=>if kindOf t.tok=txt "name" then aA_ t.tok::nmsI r else nmsI r
noncomputable def pick (Hx:Hp) (k f:Str):V->Option V
 | .ref a=>match Hx a with
  | some (.ins _ _ fs)=>if fs.lookup ("kind":Str)=some (V.str k) then fs.lookup f else none
  | _=>none
 | _=>none
theorem eb_ {Hx:Hp}{k f:Str}{a C dx:Addr}{fs:List (Str×V)} (h:Hx a=some (.ins C dx fs)) (e:fs.lookup ("kind":Str)=some (V.str k)):pick Hx k f (.ref a)=fs.lookup f:=by
 unfold pick;dsimp only;rw [h];exact if_pos e
theorem dC_ {Hx:Hp}{k k' f:Str}{a C dx:Addr}{fs:List (Str×V)} (h:Hx a=some (.ins C dx fs)) (e:fs.lookup ("kind":Str)=some (V.str k')) (n : ¬ k'=k):pick Hx k f (.ref a)=none:=by
 unfold pick;dsimp only;rw [h];exact if_neg (by rw [e];intro z;injection z with z;injection z with z;exact n z)
theorem jn_ {Ca Ct Cp Cn:Addr}{Hx:Hp}{as:List Addr}{sl:List It} (h:Paired (IAt Ca Ct Cp Cn Hx) as sl) : ∃ ns:List Addr,(as.map V.ref).filterMap (pick Hx "term" "node")=ns.map V.ref/\Paired (fun a g=>bB_ Cn Hx a g) ns (ptsI sl):=by
 induction h with
 | nil=>exact ⟨[],rfl,.nil⟩
 | @cons a i as sl h1 _ ih =>
 obtain ⟨ns,e,p⟩:=ih;rw [map_cons,filterMap_cons];cases i with
 | tk t =>
  obtain ⟨⟨dx,c,q,_⟩,g⟩:=h1;rw [dC_ q rfl (by rw [bM_,d3_];exact hb_ g)];exact ⟨ns,e,p⟩
 | pc g =>
 refine x_21 h1 fun dx n q hn=>?_;rw [eb_ q rfl];exact ⟨n::ns,by rw [e];rfl,.cons hn p⟩
theorem js_ {Ca Ct Cp Cn:Addr}{Hx:Hp}{as:List Addr}{sl:List It} (h:Paired (IAt Ca Ct Cp Cn Hx) as sl):(as.map V.ref).filterMap (pick Hx "name" "content")=((nmsI sl).map S).map V.str:=by
 induction h with
 | nil=>rfl
 | @cons a i as sl h1 _ ih =>
 rw [map_cons,filterMap_cons];cases i with
 | tk t =>
  obtain ⟨⟨dx,c,q,hc⟩,g⟩:=h1;by_cases z:kindOf t.tok=txt "name"
  ·obtain ⟨w,e1,e2⟩:=(br_ g).mp z
   rw [eb_ q (by show some (V.str (S _))=_;rw [z,bM_]),ih];have hc:c = .str (S w):=by rw [e1] at hc;exact hc
   show c::((nmsI sl).map S).map V.str=_;have:nmsI (.tk t::sl)=w::nmsI sl:=by
    show (if kindOf t.tok=txt "name" then _ else _)=_;rw [if_pos z,e1];rfl
   rw [this,hc];rfl
  rw [dC_ q rfl (by rw [bM_,d3_];exact z),ih];have:nmsI (.tk t::sl)=nmsI sl:=by
   show (if kindOf t.tok=txt "name" then _ else _)=_;rw [if_neg z]
  rw [this]
 | pc g =>
 refine x_21 h1 fun dx n q hn=>?_;rw [dC_ q rfl (by left),ih];rfl
theorem gV_ {α β:Type}{R:α->β->Prop}{as:List α}{bs:List β} (h:Paired R as bs) {a:α} (m:a∈as) : ∃ b,R a b:=by
 induction h with
 | nil=>cases m
 | cons h1 _ ih=>exact (mem_cons.mp m).elim (fun e=>⟨_,e ▸ h1⟩) ih
noncomputable def gv_ (l:Addr) (b e:Int):List (Str×V):=[("taken",.ref l),("begin",.int b),("end",.int e)]
structure UseAt (Ca Ct Cp Cn Cu:Addr) (H:Hp) (u:Addr) (l:Addr) (as:List Addr) (sl:List It) (b e:Nat):Prop where
 o : ∃ dx,H u=some (.ins Cu dx (gv_ l (b:Int) (e:Int)))
 l:H l=some (.lst (as.map V.ref))
 i:Paired (IAt Ca Ct Cp Cn H) as sl
 b:sl.head?.map It.start=some b
 e:sl.getLast?.map It.halt=some e
 n:sl.length<=20000
theorem df_ {α β:Type}{R:α->β->Prop}{as:List α}{bs:List β} (h:Paired R as bs) {i:Int}{b:β} (e:atI bs i=some b) : ∃ a,atI as i=some a/\R a b:=by
 have key : ∀ {as:List α}{bs:List β},Paired R as bs->∀ {j:Nat}{b:β},bs[j]? = some b->∃ a,as[j]? = some a/\R a b:=by
  intro as bs h
  induction h with
  | nil=>intro j b e;cases e
  | cons h1 _ ih =>
  intro j b e;cases j with
  | zero=>cases e;exact ⟨_,rfl,h1⟩
  | succ j=>exact ih e
 unfold atI at e ⊢;rw [Paired.length h];cases q:ixN bs.length i with
 | none=>rw [q] at e;cases e
 | some j=>rw [q] at e;exact key h e
theorem eX_ {α β:Type}{f:α->β}{xs:List α}{i:Int}{a:α} (h:atI xs i=some a):atI (xs.map f) i=some (f a):=by
 unfold atI at h ⊢;rw [length_map];cases q:ixN xs.length i with
 | none=>rw [q] at h;cases h
 | some j =>
 rw [q] at h;show (xs.map f)[j]? = _;rw [getElem?_map,show xs[j]? = some a from h];rfl
theorem eS_ (xs:List V) (k:Nat) (h:k<=xs.length):cutV xs (some (k:Int)) none=xs.drop k:=by
 unfold cutV;rw [HT.sIx_nat,HT.sIx_none,min_eq_left h];exact take_of_length_le (by rw [length_drop];exact Nat.le_refl _)
theorem ib_ (xs:List V) (k:Nat) (h:k<=xs.length):cutV xs none (some (k:Int))=xs.take k:=by
 unfold cutV;rw [HT.sIx_nat,HT.sIx_none,min_eq_left h];rfl
theorem lq_ (xs:List V) (v:V):cutV (xs++[v]) none (some (-1))=xs:=by
 unfold cutV;rw [HT.sIx_none];have:HT.sIx (xs++[v]).length (xs++[v]).length (some (-1))=xs.length:=by
  show (if (-1:Int)<0 then (-1+((xs++[v]).length:Int)).toNat else min (-1:Int).toNat (xs++[v]).length)=_;rw [if_pos (by decide),length_append];show (-1+((xs.length+1:Nat):Int)).toNat=_;omega
 rw [this];simp
theorem kG_ {A B:Type}{R:A->B->Prop}{l:List A}{m:List B} (h:Paired R l m):Paired R l.reverse m.reverse:=by
 induction h with
 | nil=>exact .nil
 | @cons a b l m h1 _ ih =>
 rw [List.reverse_cons,List.reverse_cons];have key : ∀ {l:List A}{m:List B},Paired R l m->Paired R (l++[a]) (m++[b]):=fun {l m} h=>by
  induction h with
  | nil=>exact .cons h1 .nil
  | cons q _ ih=>exact .cons q ih
 exact key ih
theorem ep_ {α:Type} (nm:α->Str) (v:α->V) (l:List α):(∀ a∈l,∀ b∈l,nm a=nm b->a=b)->∀ {a:α},a∈l->bx_ (l.map fun r=>(nm r,v r)) (nm a)=some (v a):=by
 induction l with
 | nil=>intro _ a h;cases h
 | cons b l ih =>
 intro inj a h;unfold bx_;rw [map_cons,find?_cons];by_cases e:nm b=nm a
 ·rw [show decide ((nm b,v b).1=nm a)=true from decide_eq_true e,inj b (mem_cons_self ..) a h e]
  rfl
 rw [show decide ((nm b,v b).1=nm a)=false from decide_eq_false e];exact ih (fun x hx y hy=>inj x (mem_cons_of_mem _ hx) y (mem_cons_of_mem _ hy)) ((mem_cons.mp h).elim (fun z=>absurd (by rw [z]) e) id)
theorem ir_ {α:Type} (nm:α->Str) (v:α->V) (l:List α) {x:Str} (h : ∀ a∈l,¬ nm a=x):bx_ (l.map fun r=>(nm r,v r)) x=none:=by
 unfold bx_;rw [List.find?_eq_none.mpr]
 ·rfl
 intro p hp;obtain ⟨a,m,rfl⟩:=mem_map.mp hp;exact fun z=>h a m (of_decide_eq_true z)
theorem b0_ (r:Ru):r∈cJ_:=by cases r <;> decide
theorem iU_ (m:Mq):m∈d1_:=by cases m <;> decide
theorem iB_ : ∀ a∈cJ_,∀ b∈cJ_,ofString a.nm=ofString b.nm->a=b:=by left
theorem kP_ : ∀ a∈d1_,∀ b∈d1_,ofString a.nm=ofString b.nm->a=b:=by left
theorem qo_ : ∀ m∈d1_,∀ r∈cJ_,¬ ofString r.nm=ofString m.nm:=by left
theorem hC_ {K:Frag}{H:Hp}{a:Addr}{ys:List Str} (t:lC_ K a ys) (h:ys.length<=100):SqT K H a (ys.map V.str):=by
 obtain ⟨zw,n,sl,l,v⟩:=t;exact .inr ⟨_,zw,n,l,rfl,rfl,by rw [<- Array.length_toList,<- L2.Vals.length v,length_map];exact Nat.le_trans h (by decide),v⟩
theorem oP_ {K:Frag}{H:Hp} (ys:List Str):DpAll K H (ys.map V.str) (ys.map PyData.str):=by
 induction ys with
 | nil=>exact .nil
 | cons y ys ih=>exact .cons (.str y) ih
theorem jQ_ : ∀ r∈cJ_,∀ w∈ways r,SeqAt.shaped (.tuple ((w.1.map ofString).map PyData.str))=true/\(w.1.map ofString).length<=100/\(w.2.map fun d=>ofString d.nm).length<=100:=by left
theorem oO_ (ks:List String):PyData.eqv (.tuple ((ks.map ofString).map PyData.str)) (.tuple [])=decide (ks=[]):=by
 cases ks with
 | nil=>rfl
 | cons k ks=>rfl
theorem mw_ (x:List Nat) (ks:List String):inV (.str (S x)) ((ks.map ofString).map V.str)=decide (x∈ks.map Vaunid.txt):=by
 rw [<- in_S,map_map,map_map,map_map];congr 1;exact List.map_congr_left fun s _=>by show V.str (ofString s)=_;rw [bM_];rfl
theorem at0 {α:Type}{x:α}{r:List α}:atI (x::r) 0=some x:=a0_ (j:=0) rfl
theorem at1 {α:Type}{y x:α}{r:List α}:atI (y::x::r) 1=some x:=a0_ (j:=1) rfl
theorem at2 {α:Type}{y z x:α}{r:List α}:atI (y::z::x::r) 2=some x:=a0_ (j:=2) rfl
theorem at3 {α:Type}{y z q x:α}{r:List α}:atI (y::z::q::x::r) 3=some x:=a0_ (j:=3) rfl
theorem sgo {t u:TS}{D:Ends}{σ:L2.St}{H:Hp} (h:t { D with nx:=u D } σ H):tSeq t u D σ H:=h
theorem jS_ {R:Addr->It->Prop}{as:List Addr}{sl:List It}{b:Nat} (h:Paired R as sl) (hb:sl.head?.map It.start=some b) : ∃ a i as',as=a::as'/\R a i/\i.start=b:=by
 cases h with
 | nil=>cases hb
 | cons h1 _=>cases hb;exact ⟨_,_,_,rfl,h1,rfl⟩
theorem fk_ {α β:Type}{R:α->β->Prop}{as:List α}{bs:List β}{b:β} (h:Paired R as (bs++[b])) : ∃ a as',as=as'++[a]/\R a b/\Paired R as' bs:=by
 induction bs generalizing as with
 | nil =>
  cases h with
  | cons h1 h2=>cases h2;exact ⟨_,[],rfl,h1,.nil⟩
 | cons c bs ih =>
 cases h with
 | cons h1 h2 =>
 refine x_22 (ih h2) fun a as' e q1 q2=>?_;exact ⟨a,_::as',by rw [e];rfl,q1,.cons h1 q2⟩
theorem lG_ {R:Addr->It->Prop}{as:List Addr}{sl:List It}{e:Nat} (h:Paired R as sl) (he:sl.getLast?.map It.halt=some e) : ∃ a i as',as=as'++[a]/\R a i/\i.halt=e:=by
 cases q:sl.getLast? with
 | none=>rw [q] at he;cases he
 | some i =>
 rw [q] at he;cases he;obtain ⟨r,rfl⟩:=List.getLast?_eq_some_iff.mp q;refine x_22 (fk_ h) fun a as' e1 h1 _=>?_;exact ⟨a,i,as',e1,h1,rfl⟩
theorem iQ_ {H:Hp}{a p C C' dx dx':Addr}{fs:List (Str×V)}{k:Str}{v:V} (h:H a=some (.ins C dx fs)) (l:fs.lookup k=some v) (q:H p=some (.ins C' dx' [])):a≠p:=fun z=>by
 rw [z,q] at h;injection h with h;injection h with _ _ h;rw [<- h] at l;cases l
def Ds.wt:Ds->Nat
 | .ru .head=>2 | .ru .app=>3 | .ru .pow=>4 | .ru .prod=>5 | .ru .sum=>6 | .ru .cons=>7 | .ru .cmp=>8 | .ru .not_=>9 | .ru .and_=>10 | .ru .or_=>11 | .ru .expr=>13 | .ru .list=>14 | .ru .letN=>2
 | _=>1
def wtL (l:List Ds):Nat:=(l.map Ds.wt).sum
def lev:List Ds->Nat
 | .k _::_=>120
 | .any::_=>120
 | .ru .atom::_=>60
 | _=>0
theorem o2_ (d:Ds):1<=d.wt:=by
 cases d with
 | ru r=>cases r <;> decide
 | _=>exact Nat.le_refl 1
theorem nE_ (l:List Ds):l.length<=wtL l:=by
 induction l with
 | nil=>exact Nat.le_refl _
 | cons d l ih =>
 have:=o2_ d;show l.length+1<=d.wt+wtL l;omega
theorem nF_ (l m:List Ds):wtL (l++m)=wtL l+wtL m:=by
 unfold wtL;rw [map_append,List.sum_append]
noncomputable def pF_ (w:Nat) (p:List Ds):Bool:=match p with
 | []=>true
 | .k _::_=>decide (wtL p<=60)
 | .any::_=>decide (wtL p<=60)
 | .ru .atom::_=>decide (wtL p<=60)
 | _=>decide (wtL p<=w)
def kY_ (p:List Ds):Bool:=match p with
 | .k _::_=>decide (wtL p<=60)
 | .any::_=>decide (wtL p<=60)
 | _=>false
theorem e7_ : ∀ r∈cJ_,∀ w∈ways r,pF_ ((Ds.ru r).wt - (if r = .expr then 1 else 0)) w.2=true/\(r = .atom->kY_ w.2=true):=by left
theorem fU_ {k:List Nat}{ws:List Way}{p:List Ds} (h:aF_ k ws=some p) : ∃ w∈ws,w.2=p:=by
 induction ws with
 | nil=>cases h
 | cons w ws ih =>
 unfold aF_ at h;split at h
 ·cases h;exact ⟨w,mem_cons_self ..,rfl⟩
 obtain ⟨w',m,e⟩:=ih h;exact ⟨w',mem_cons_of_mem _ m,e⟩
noncomputable def wI:It->Nat
 | .tk _=>4
 | .pc g=>szX g.term+1
noncomputable def wIs (l:List It):Nat:=(l.map wI).sum
theorem bP_ (l m:List It):wIs (l++m)=wIs l+wIs m:=by
 unfold wIs;rw [map_append,List.sum_append]
theorem o3_ (i:It):1<=wI i:=by
 cases i with
 | tk t=>show 1<=4;decide
 | pc g=>exact Nat.le_add_left ..
theorem nG_ (l:List It):l.length<=wIs l:=by
 induction l with
 | nil=>exact Nat.le_refl _
 | cons d l ih =>
 have:=o3_ d;show l.length+1<=wI d+wIs l;omega
def okI:It->Prop
 | .tk t=>bh_ t.tok
 | .pc g=>GT g.term
theorem il_ (ks:List Token):wIs (ks.map .tk)=4 * ks.length:=by
 induction ks with
 | nil=>rfl
 | cons k ks ih =>
 show 4+wIs (ks.map .tk)=_;rw [ih,length_cons];omega
theorem e8_ {l:List It}{gs:List Got} (h:Commas l gs):(gs.map fun g=>szX g.term+5).sum=wIs l:=by
 induction h with
 | nil=>rfl
 | cons _ _ ih =>
 rw [map_cons,sum_cons,ih];show _=4+(szX _+1+wIs _);omega
theorem it_ (s:Stretch) (ns:List (List Nat)) (a:Got):szX (Vaunid.gotFns s ns a).term=ns.length+szX a.term:=by
 induction ns with
 | nil=>exact (zero_add _).symm
 | cons x ns ih =>
 show 1+szX (Vaunid.gotFns s ns a).term=_;rw [ih,length_cons];omega
theorem lN_ (s:Stretch) (gs:List Got) : ∀ a:Got,szX (Vaunid.gotPairs s a gs).term<=szX a.term+(gs.map fun g=>szX g.term+5).sum:=by
 induction gs with
 | nil=>exact fun a=>Nat.le_refl _
 | cons b gs ih =>
 intro a;have:=ih b;rw [map_cons,sum_cons];show 1+szX a.term+szX (Vaunid.gotPairs s b gs).term<=_;omega
theorem nO_ (s:Stretch) (gs:List Got):szX (Vaunid.gotList s gs).term<=1+(gs.map fun g=>szX g.term+5).sum:=by
 induction gs with
 | nil=>exact Nat.le_refl _
 | cons b gs ih =>
 rw [map_cons,sum_cons];show 1+szX b.term+szX (Vaunid.gotList s gs).term<=_;omega
theorem ov_ {m:Mq}{sl:List It}{g:Got} (h:Made m sl g):szX g.term+1<=wIs sl:=by
 have c : ∀ (i:It) (l:List It),wIs (i::l)=wI i+wIs l:=fun _ _=>rfl;have n:wIs []=0:=rfl;have t : ∀ t:Token,wI (.tk t)=4:=fun _=>rfl;have p : ∀ g:Got,wI (.pc g)=szX g.term+1:=fun _=>rfl;cases h with
 | fn=>rw [c,bP_,il_,it_,length_map];simp only [c,n,t,p];omega
 | rec_=>rw [c,c,c,bP_,il_];show 1+szX (Vaunid.gotFns _ _ _).term+1<=_;rw [it_,length_map];simp only [c,n,t,p];omega
 | let_=>rw [c,c,bP_,il_];show 1+szX (Vaunid.gotFns _ _ _).term+szX _+1<=_;rw [it_,length_map];simp only [c,n,t,p];omega
 | letRec=>rw [c,c,c,c,bP_,il_];show 1+(1+szX (Vaunid.gotFns _ _ _).term)+szX _+1<=_;rw [it_,length_map];simp only [c,n,t,p];omega
 | @cmp tk a b g h =>
  simp only [c,n,t,p];unfold Vaunid.gotCompare at h
  repeat' split at h
  all_goals first | (cases h;simp only [Vaunid.gotTwo,Vaunid.gotThree,Vaunid.gotTruth,Vaunid.gotLeaf,szX];omega) | cases h
 | @brN t' u a b l gs h1 h2 h3 =>
  have:=lN_ (t'.start,u.halt_) (b::gs) a;have e:=e8_ h3;rw [c,c,bP_];simp only [c,n,t,p];omega
 | @list t' u a l gs h1 h2 h3 =>
  have:=nO_ (t'.start,u.halt_) (a::gs);have e:=e8_ h3;rw [map_cons,sum_cons] at this;rw [c,c,bP_];simp only [c,n,t,p];omega
 | _=>simp only [c,n,t,p,Vaunid.gotTwo,Vaunid.gotThree,Vaunid.gotOne,Vaunid.gotTruth,Vaunid.gotLeaf,szX];omega
theorem gt2 {o:Two}{a b:Term} (ha:GT a) (hb:GT b):GT (.two o a b) := .mk all0 (allc ha (allc hb all0))
theorem gt3 {o:Vaunid.Three}{a b c:Term} (ha:GT a) (hb:GT b) (hc:GT c):GT (.three o a b c) := .mk all0 (allc ha (allc hb (allc hc all0)))
theorem gtT (b:Bool):GT (.leaf (.truth b)) := .mk all0 all0
theorem gtF {x:List Nat}{a:Term} (hx:isName x=true) (ha:GT a):GT (.fn x a) := .mk (allc (cW_ hx _) all0) (allc ha all0)
theorem gtR {f x:List Nat}{a:Term} (hf:isName f=true) (hx:isName x=true) (ha:GT a):GT (.rec_ f x a) := .mk (allc (cW_ hf _) (allc (cW_ hx _) all0)) (allc ha all0)
theorem gtL {x:List Nat}{a b:Term} (hx:isName x=true) (ha:GT a) (hb:GT b):GT (.let_ x a b) := .mk (allc (cW_ hx _) all0) (allc ha (allc hb all0))
theorem i5_ {s:Stretch}{ns:List (List Nat)}{a:Got} (h : ∀ x∈ns,isName x=true) (ha:GT a.term):GT (Vaunid.gotFns s ns a).term:=by
 induction ns with
 | nil=>exact ha
 | cons x ns ih=>exact gtF (h x (mem_cons_self ..)) (ih fun y m=>h y (mem_cons_of_mem _ m))
theorem nq_ {a:Term} (ha:GT a) {m:Int} (h:m.natAbs<10 ^ 12):GT (.one (.pow m) a) :=
 .mk (allc ⟨by have:=bU_ h;omega,k5_ m,fun z=>absurd z (show ¬ txt "^"=txt "name" by left)⟩ all0) (allc ha all0)
theorem nr_ {v:Lit}{d:Option Int} (h:ij_ (.num v d)):GT (.leaf (.num v)) := .mk (allc (p0_ h (show txt "number"≠_ by left)) all0) all0
theorem bS_ {t:Token} (g:bh_ t.tok) (h:kindOf t.tok=txt "name"):isName (aA_ t.tok)=true:=by
 obtain ⟨w,e1,e2⟩:=(br_ g).mp h;rw [e1];exact e2
theorem my_ {s:Stretch} (gs:List Got) : ∀ {a:Got},GT a.term->(∀ g∈gs,GT g.term)->GT (Vaunid.gotPairs s a gs).term:=by
 induction gs with
 | nil=>exact fun h _=>h
 | cons b gs ih=>exact fun h q=>gt2 h (ih (q b (mem_cons_self ..)) fun g m=>q g (mem_cons_of_mem _ m))
theorem oI_ {s:Stretch} (gs:List Got):(∀ g∈gs,GT g.term)->GT (Vaunid.gotList s gs).term:=by
 induction gs with
 | nil=>exact fun _ => .mk all0 all0
 | cons b gs ih=>exact fun q=>gt2 (q b (mem_cons_self ..)) (ih fun g m=>q g (mem_cons_of_mem _ m))
theorem g1_ {l:List It}{gs:List Got} (h:Commas l gs):(∀ i∈l,okI i)->∀ g∈gs,GT g.term:=by
 induction h with
 | nil=>exact fun _=>all0
 | cons _ _ ih=>exact fun q=>allc (q _ (mem_cons_of_mem _ (mem_cons_self ..))) (ih fun i m=>q i (mem_cons_of_mem _ (mem_cons_of_mem _ m)))
theorem ow_ {m:Mq}{sl:List It}{g:Got} (h:Made m sl g) (q : ∀ i∈sl,okI i):GT g.term:=by
 have nm : ∀ (ks:List Token),(∀ k∈ks,kindOf k.tok=txt "name")->(∀ k∈ks,bh_ k.tok)->∀ x∈ks.map (fun k=>aA_ k.tok),isName x=true:=fun ks h1 h2 x hx=>by
  obtain ⟨k,m,rfl⟩:=mem_map.mp hx;exact bS_ (h2 k m) (h1 k m)
 have gk : ∀ {ks:List Token}{r:List It},(∀ i∈ks.map It.tk++r,okI i)->(∀ k∈ks,bh_ k.tok)/\∀ i∈r,okI i:=fun {ks r} h=>⟨fun k m=>h (.tk k) (mem_append_left _ (mem_map.mpr ⟨k,m,rfl⟩)),fun i m=>h i (mem_append_right _ m)⟩;have c : ∀ {i:It}{r:List It},(∀ j∈i::r,okI j)->okI i/\∀ j∈r,okI j:=forall_mem_cons.mp;have p : ∀ {g:Got},It.pc g∈sl->GT g.term:=fun m=>q _ m;cases h with
 | @fn t ar ks a h0 h1 h2 h3 =>
  obtain ⟨g1,g2⟩:=gk (c q).2;exact i5_ (nm ks h2 g1) (c (c g2).2).1
 | @rec_ t ar f x ks a h1 hf hx h2 h3 =>
  obtain ⟨q1,q⟩:=c q;obtain ⟨q2,q⟩:=c q;obtain ⟨q3,q⟩:=c q;obtain ⟨g1,g2⟩:=gk q;exact gtR (bS_ q2 hf) (bS_ q3 hx) (i5_ (nm ks h2 g1) (c (c g2).2).1)
 | @let_ t x eq i ks a b h1 hx h2 h3 h4 =>
  obtain ⟨q1,q⟩:=c q;obtain ⟨q2,q⟩:=c q;obtain ⟨g1,g2⟩:=gk q;exact gtL (bS_ q2 hx) (i5_ (nm ks h2 g1) (c (c g2).2).1) (c (c (c (c g2).2).2).2).1
 | @letRec t r f x eq i ks a b h1 hr hf hx h2 h3 h4 =>
  obtain ⟨q1,q⟩:=c q;obtain ⟨q2,q⟩:=c q;obtain ⟨q3,q⟩:=c q;obtain ⟨q4,q⟩:=c q;obtain ⟨g1,g2⟩:=gk q;exact gtL (bS_ q3 hf) (gtR (bS_ q3 hf) (bS_ q4 hx) (i5_ (nm ks h2 g1) (c (c g2).2).1)) (c (c (c (c g2).2).2).2).1
 | if_=>exact gt3 (p (by simp)) (p (by simp)) (p (by simp))
 | @case_ t u v w x y h z r s l a b k1 k2 k3 k4 k5 k6 k7 k8 k9 k10 =>
  exact .mk (allc (cW_ (bS_ (q (.tk h) (by simp)) k7) _) (allc (cW_ (bS_ (q (.tk r) (by simp)) k9) _) all0)) (allc (q (.pc l) (by simp)) (allc (q (.pc a) (by simp)) (allc (q (.pc b) (by simp)) all0)))
 | or_=>exact gt3 (p (by simp)) (gtT _) (p (by simp))
 | and_=>exact gt3 (p (by simp)) (p (by simp)) (gtT _)
 | not_=>exact gt3 (p (by simp)) (gtT _) (gtT _)
 | @cmp tk a b g h =>
  have ha:GT a.term:=q (.pc a) (by simp);have hb:GT b.term:=q (.pc b) (by simp);unfold Vaunid.gotCompare at h
  repeat' split at h
  all_goals first | (cases h;first | exact gt2 ha hb | exact gt2 hb ha | exact gt3 (gt2 hb ha) (gtT _) (gtT _) | exact gt3 (gt2 ha hb) (gtT _) (gtT _)) | cases h
 | cons=>exact gt2 (p (by simp)) (p (by simp))
 | sum=>exact gt2 (p (by simp)) (p (by simp))
 | prod=>exact gt2 (p (by simp)) (p (by simp))
 | @pow t k v m a h =>
  have g:bh_ k.tok:=q (.tk k) (by simp);rw [h] at g;have e:=g.2.2.2.1 m rfl;have n:=g.2.1;rw [e] at n;exact nq_ (q (.pc a) (by simp)) n
 | @mpow t s k v m a h =>
  have g:bh_ k.tok:=q (.tk k) (by simp);rw [h] at g;have e:=g.2.2.2.1 m rfl;have n:=g.2.1;rw [e] at n;exact nq_ (q (.pc a) (by simp)) (by rw [natAbs_neg];exact n)
 | app=>exact gt2 (p (by simp)) (p (by simp))
 | @mnum t k v d h =>
  have g:bh_ k.tok:=q (.tk k) (by simp);rw [h] at g;exact nr_ (d:=none) ⟨g.1,by show (-v.top).natAbs<_;rw [natAbs_neg];exact g.2.1,g.2.2.1,fun n e=>(by cases e),g.2.2.2.2⟩
 | @one t o a h =>
  have ha:GT a.term:=q (.pc a) (by simp);unfold Vaunid.formOne at h
  repeat' split at h
  all_goals first | (cases h;exact .mk all0 (allc ha all0)) | cases h
 | two=>exact gt2 (p (by simp)) (p (by simp))
 | three=>exact gt3 (p (by simp)) (p (by simp)) (p (by simp))
 | @name t h=>exact .mk (allc (cW_ (bS_ (q (.tk t) (by simp)) h) _) all0) all0
 | @number t v d h =>
  have g:bh_ t.tok:=q (.tk t) (by simp);rw [h] at g;exact nr_ g
 | truth=>exact gtT _
 | @br1 t u a h1 h2=>exact q (.pc a) (by simp)
 | @brN t u a b l gs h1 h2 h3=>exact my_ _ (q (.pc a) (by simp)) (g1_ h3 fun i m=>q i (by simp [m]))
 | nil=>exact .mk all0 all0
 | @list t u a l gs h1 h2 h3=>exact oI_ _ (allc (q (.pc a) (by simp)) (g1_ h3 fun i m=>q i (by simp [m])))
noncomputable def okD:Ds->Bool
 | .k s=>(cJ_.all fun r=>decide (¬ ofString r.nm=ofString s)) && (d1_.all fun m=>decide (¬ ofString m.nm=ofString s)) && decide (¬ ofString s=ofString "leave expression") && decide (¬ ofString s=ofString "any token")
 | _=>true
theorem ik_ : ∀ r∈cJ_,∀ w∈ways r,∀ d∈w.2,okD d=true:=by left
structure SI (N:Nat) (s:RS):Prop where
 w:wtL s.todo+121 * s.l.length<=14+121 * N+lev s.todo
 k:wIs s.taken+4 * s.l.length<=4 * N
 o : ∀ i∈s.taken,okI i
 g:Gd s.l
 d : ∀ d∈s.todo,okD d=true
theorem pG_ (l:List Ds):lev l<=120:=by
 unfold lev;split <;> decide
theorem SI.len {N:Nat}{s:RS} (h:SI N s):s.todo.length<=134+121 * N/\s.taken.length<=4 * N:=by
 have h1:=nE_ s.todo;have h2:=pG_ s.todo;have h3:=nG_ s.taken;have:=h.w;have:=h.k;exact ⟨by omega,by omega⟩
theorem fo_ {r:Ru}{p td:List Ds}{w n N:Nat} (hw:w+wtL td+n<=14+N+lev (.ru r::td)) (h1:pF_ w p=true) (h2:r = .atom->kY_ p=true):wtL (p++td)+n<=14+N+lev (p++td):=by
 rw [nF_];have l0:r ≠ .atom->lev (.ru r::td)=0:=by cases r <;> first | exact fun _=>rfl | exact fun h=>absurd rfl h
 have l1:lev (.ru r::td)<=60:=by
  by_cases q:r = .atom
  ·rw [q];exact Nat.le_refl 60
  rw [l0 q];exact zero_le _
 have na:kY_ p=false->lev (.ru r::td)=0:=fun z=>l0 fun q=>by rw [h2 q] at z;cases z
 cases p with
 | nil =>
  have:=na rfl;show 0+wtL td+n<=14+N+lev td;omega
 | cons d p =>
 cases d with
 | k s =>
  have h:wtL (.k s::p)<=60:=of_decide_eq_true h1;show _<=14+N+120;omega
 | any =>
  have h:wtL (.any::p)<=60:=of_decide_eq_true h1;show _<=14+N+120;omega
 | ru q =>
  have z:=na rfl;by_cases e:q = .atom
  ·subst e
   have h:wtL (.ru .atom::p)<=60:=of_decide_eq_true h1;show _<=14+N+60;omega
  have h:wtL (.ru q::p)<=w:=by
   cases q <;> first | exact of_decide_eq_true h1 | exact absurd rfl e
  omega
 | mk m =>
  have z:=na rfl;have h:wtL (.mk m::p)<=w:=of_decide_eq_true h1;omega
 | leave =>
 have z:=na rfl;have h:wtL (.leave::p)<=w:=of_decide_eq_true h1;omega
theorem SI.step {N:Nat}{s s':RS} (h:SI N s) (e:Stp s (.ok s')):SI N s':=by
 obtain ⟨hw,hk,ho,hg,hd⟩:=h;cases e with
 | @path r td tn ar t l p hr hp =>
  obtain ⟨wy,m,rfl⟩:=fU_ hp;refine ⟨?_,hk,ho,hg,forall_mem_append.mpr ⟨ik_ r (b0_ r) wy m,(forall_mem_cons.mp hd).2⟩⟩;obtain ⟨h1,h2⟩:=e7_ r (b0_ r) wy m;rw [if_neg hr,sub_zero] at h1;have hw:(Ds.ru r).wt+wtL td+121 * (t::l).length<=14+121 * N+lev (.ru r::td):=hw;exact fo_ hw h1 h2
 | @enter td tn ar t l p har hp =>
  obtain ⟨wy,m,rfl⟩:=fU_ hp;refine ⟨?_,hk,ho,hg,forall_mem_append.mpr ⟨ik_ .expr (b0_ .expr) wy m,allc rfl (forall_mem_cons.mp hd).2⟩⟩;obtain ⟨h1,_⟩:=e7_ .expr (b0_ .expr) wy m;have hw:13+wtL td+121 * (t::l).length<=14+121 * N+0:=hw;refine fo_ (r := .or_) (w:=12) (td := .leave::td) ?_ h1 (fun z=>by cases z);show 12+(1+wtL td)+121 * (t::l).length<=14+121 * N+0;omega
 | @leave td tn ar l =>
  have hw:1+wtL td+121 * l.length<=14+121 * N+0:=hw;exact ⟨by show wtL td+121 * l.length<=_;omega,hk,ho,hg,(forall_mem_cons.mp hd).2⟩
 | @any td tn ar t l hl =>
  have hw:1+wtL td+121 * (l.length+1)<=14+121 * N+120:=hw;have hk:wIs tn+4 * (l.length+1)<=4 * N:=hk;exact ⟨by show wtL td+121 * l.length<=_;omega,by show wIs (tn++[.tk t])+_<=_;rw [bP_];show _+(4+0)+4 * l.length<=_;omega,snoc ho (hg t (mem_cons_self ..)),fun k m=>hg k (mem_cons_of_mem _ m),(forall_mem_cons.mp hd).2⟩
 | @kind s td tn ar t l hl =>
  have hw:1+wtL td+121 * (l.length+1)<=14+121 * N+120:=hw;have hk:wIs tn+4 * (l.length+1)<=4 * N:=hk;exact ⟨by show wtL td+121 * l.length<=_;omega,by show wIs (tn++[.tk t])+_<=_;rw [bP_];show _+(4+0)+4 * l.length<=_;omega,snoc ho (hg t (mem_cons_self ..)),fun k m=>hg k (mem_cons_of_mem _ m),(forall_mem_cons.mp hd).2⟩
 | @make m td tn sl g ar l hm =>
 have hw:1+wtL td+121 * l.length<=14+121 * N+0:=hw;have h1:=ov_ hm;have hk:wIs (tn++sl)+4 * l.length<=4 * N:=hk;rw [bP_] at hk;have ho : ∀ i∈tn++sl,okI i:=ho;obtain ⟨o1,o2⟩:=forall_mem_append.mp ho;exact ⟨by show wtL td+121 * l.length<=_;omega,by show wIs (tn++[.pc g])+_<=_;rw [bP_];show _+(szX g.term+1+0)+4 * l.length<=_;omega,snoc o1 (ow_ hm o2),hg,(forall_mem_cons.mp hd).2⟩
theorem SI.start {hl:Nat}{ts:Toks} (g:Gd (Eo hl ts)):SI (ts.length+1) (j3_ hl ts):=by
 have e:(Eo hl ts).length=ts.length+1:=by unfold Eo;rw [length_append];rfl
 refine ⟨?_,?_,all0,g,(by left : ∀ d∈[Ds.ru .expr,.k "end"],okD d=true)⟩
 ·show 14+121 * (Eo hl ts).length<=14+121 * (ts.length+1)+0
  rw [e];exact Nat.le_refl _
 show 0+4 * (Eo hl ts).length<=_;rw [e];omega
def rdFs (row td tn:Addr) (ar:Int):List (Str×V):=[("row",.ref row),("todo",.ref td),("taken",.ref tn),("around",.int ar)]
theorem oK_ {a b:List (Str×V)} (h : ¬ a.map Prod.fst=b.map Prod.fst):a≠b:=fun e=>h (congrArg _ e)
theorem o5_ {g:Int}{k:Str}{b e:Int}{c:V}{r t n:Addr}{a:Int}:c9_ g k b e c≠rdFs r t n a:=oK_ (show ¬ ([("group":Str),"kind","begin","end","content"]:List Str)=[("row":Str),"todo","taken","around"] by left)
theorem qa_ {o u:Int}{m:Str}{r t n:Addr}{a:Int}:afs o u m≠rdFs r t n a:=oK_ (show ¬ ([("over":Str),"under","measure"]:List Str)=[("row":Str),"todo","taken","around"] by left)
theorem pn_ {la:Addr}{i:Int}{r t n:Addr}{a:Int}:gO_ la i≠rdFs r t n a:=oK_ (show ¬ ([("ahead":Str),"index"]:List Str)=[("row":Str),"todo","taken","around"] by left)
def NU (H:Hp) (x:Addr):Prop:=NT H x\/∃ C dx r t n a,H x=some (.ins C dx (rdFs r t n a))
theorem k6_ {xs:List Addr}{H H':Hp} (s:ay_ xs H H') (h : ∀ x∈xs,NU H x):Imm H H' :=
 ⟨fun a C dx g k b e c q=>s a _ (fun m=>(h a m).elim (fun z=>z.tok q) fun ⟨_,_,_,_,_,_,z⟩=>by rw [z] at q;injection q with q;injection q with _ _ q;exact o5_ q.symm) q,
 fun a C dx o u m q=>s a _ (fun n=>(h a n).elim (fun z=>z.amt q) fun ⟨_,_,_,_,_,_,z⟩=>by rw [z] at q;injection q with q;injection q with _ _ q;exact qa_ q.symm) q⟩
theorem lV_ (ms:List Addr) (H:Hp):ay_ ms H (ex ms H):=fun _ _ n e=>jK_ n e
theorem TokB.ex {Ca Ct:Addr}{H:Hp}{a:Addr}{k:Token} (h:TokB Ca Ct H a k) {ms:List Addr} (u : ∀ x∈ms,NU H x):TokB Ca Ct (M.ex ms H) a k:=h.imm (k6_ (lV_ ms H) u)
theorem bV_.keepU {Ca Ct Cr:Addr}{H H':Hp}{row la:Addr}{l:Toks} (h:bV_ Ca Ct Cr H row la l) {xs:List Addr} (s:ay_ xs H H') (nt : ∀ x∈xs,NU H x) (n1:row∉xs) (n2:la∉xs):bV_ Ca Ct Cr H' row la l:=by
 obtain ⟨dx,as,i,h1,h2,h3⟩:=h;exact ⟨dx,as,i,s _ _ n1 h1,s _ _ n2 h2,Paired.mapP h3 fun a k z=>z.imm (k6_ s nt)⟩
noncomputable def dsV (l:List Ds):List V:=l.reverse.map fun d=>V.str (ofString d.nm)
theorem ja_ (d:Ds) (l:List Ds):dsV (d::l)=dsV l++[V.str (ofString d.nm)]:=by
 unfold dsV;rw [List.reverse_cons,map_append];rfl
structure RdAt (Ca Ct Cp Cn Cr Ce:Addr) (H:Hp) (rd row la td tn dx:Addr) (as:List Addr) (s:RS):Prop where
 o:H rd=some (.ins Ce dx (rdFs row td tn (s.ar:Int)))
 t:H td=some (.lst (dsV s.todo))
 k:H tn=some (.lst (as.map V.ref))
 i:Paired (IAt Ca Ct Cp Cn (ex [rd,td,tn,row] H)) as s.taken
 r:bV_ Ca Ct Cr H row la s.l
 n1:td≠tn
 n2:la≠td
 n3:la≠tn
section
variable {Ca Ct Cp Cn Cr Ce:Addr}{H H':Hp}{rd row la td tn dx:Addr}{as:List Addr}{s:RS}
theorem RdAt.nu (h:RdAt Ca Ct Cp Cn Cr Ce H rd row la td tn dx as s) : ∀ x∈[rd,td,tn,row],NU H x:=by
 intro x m;simp only [mem_cons,not_mem_nil,or_false] at m;rcases m with rfl | rfl | rfl | rfl
 ·exact .inr ⟨_,_,_,_,_,_,h.o⟩
 ·exact .inl (.lst h.t)
 ·exact .inl (.lst h.k)
 exact .inl h.r.nt
theorem RdAt.nes (h:RdAt Ca Ct Cp Cn Cr Ce H rd row la td tn dx as s):rd≠td/\rd≠tn/\rd≠row/\rd≠la/\row≠td/\row≠tn/\row≠la:=by
 refine x_32 h.r fun _ _ _ hr hl _=>?_;exact ⟨dj_ h.o h.t (by intro z;cases z),dj_ h.o h.k (by intro z;cases z),dj_ h.o hr (by intro z;injection z with _ _ z;exact pn_ z.symm),dj_ h.o hl (by intro z;cases z),dj_ hr h.t (by intro z;cases z),dj_ hr h.k (by intro z;cases z),dj_ hr hl (by intro z;cases z)⟩
theorem RdAt.same (h:RdAt Ca Ct Cp Cn Cr Ce H rd row la td tn dx as s) (sm:Same H H'):RdAt Ca Ct Cp Cn Cr Ce H' rd row la td tn dx as s :=
 ⟨sm _ _ h.o,sm _ _ h.t,sm _ _ h.k,Paired.mapP h.i fun _ _ q=>q.same (bN_ sm),h.r.same sm,h.n1,h.n2,h.n3⟩
theorem RdAt.todo (h:RdAt Ca Ct Cp Cn Cr Ce H rd row la td tn dx as s) (sm:ay_ [rd,td] H H') {l:List Ds}{ar:Nat} (e1:H' rd=some (.ins Ce dx (rdFs row td tn (ar:Int)))) (e2:H' td=some (.lst (dsV l))):RdAt Ca Ct Cp Cn Cr Ce H' rd row la td tn dx as { s with todo:=l,ar:=ar }:=by
 refine x_06 h.nes fun m1 m2 m3 m4 m5 m6 m7=>?_;have nu:=h.nu;refine ⟨e1,e2,sm _ _ (by simp [h.n1.symm,m2.symm]) h.k,Paired.mapP h.i fun _ _ q=>q.same (dJ_ (sm.more (by simp)) fun _ m => .inl m),h.r.keepU sm (fun x m=>nu x ?_) (by simp [m3.symm,m5]) (by simp [m4.symm,h.n2]),h.n1,h.n2,h.n3⟩;simp only [mem_cons,not_mem_nil,or_false] at m ⊢;rcases m with m | m
 ·exact .inl m
 exact .inr (.inl m)
def mS_ (H:Hp) (rd td tn row:Addr) (H':Hp) (tn':Addr):Prop:=ay_ [rd,td,tn,row] H H'/\(tn'=tn\/H tn'=none)
end
theorem jw_ {m:Mq}{sl:List It}{g:Got} (h:Made m sl g) (q : ∀ i∈sl,∀ t,i = .tk t->bh_ t.tok):match m.reach with
  | .inl n=>sl.length=n
  | .inr c=>∃ i r,sl=i::r/\i.kind=txt c/\∀ j∈r,¬ j.kind=txt c:=by
 have nk : ∀ {ks:List Token}{c:String},(∀ k∈ks,kindOf k.tok=txt "name")->¬ txt "name"=txt c->∀ j∈ks.map It.tk,¬ j.kind=txt c:=fun {ks c} h1 h2 j hj=>by
  obtain ⟨k,m,rfl⟩:=mem_map.mp hj;show ¬ kindOf k.tok=_;rw [h1 k m];exact h2
 have one : ∀ {t:Token}{x c:String},kindOf t.tok=txt x->¬ txt x=txt c->¬ It.kind (.tk t)=txt c:=fun {t x c} h1 h2=>by
  show ¬ kindOf t.tok=_;rw [h1];exact h2
 have ap : ∀ {l r:List It}{c:String},(∀ j∈l,¬ j.kind=txt c)->(∀ j∈r,¬ j.kind=txt c)->∀ j∈l++r,¬ j.kind=txt c:=fun h1 h2=>forall_mem_append.mpr ⟨h1,h2⟩;have pc : ∀ {g:Got}{c:String},¬ txt "term"=txt c->¬ It.kind (.pc g)=txt c:=fun h=>h;have cm : ∀ {l:List It}{gs:List Got}{c:String},Commas l gs->¬ txt ","=txt c->¬ txt "term"=txt c->∀ j∈l,¬ j.kind=txt c:=fun {l gs c} h h1 h2=>by
  induction h with
  | nil=>exact all0
  | cons q _ ih=>exact allc (one q h1) (allc (pc h2) ih)
 cases h with
 | fn _ h1 h2 h3=>exact ⟨_,_,rfl,h1,ap (nk h2 (by left)) (allc (one h3 (by left)) (allc (pc (by left)) all0))⟩
 | rec_ h1 hf hx h2 h3=>exact ⟨_,_,rfl,h1,allc (one hf (by left)) (allc (one hx (by left)) (ap (nk h2 (by left)) (allc (one h3 (by left)) (allc (pc (by left)) all0))))⟩
 | let_ h1 hx h2 h3 h4=>exact ⟨_,_,rfl,h1,allc (one hx (by left)) (ap (nk h2 (by left)) (allc (one h3 (by left)) (allc (pc (by left)) (allc (one h4 (by left)) (allc (pc (by left)) all0)))))⟩
 | letRec h1 hr hf hx h2 h3 h4=>exact ⟨_,_,rfl,h1,allc (one hr (by left)) (allc (one hf (by left)) (allc (one hx (by left)) (ap (nk h2 (by left)) (allc (one h3 (by left)) (allc (pc (by left)) (allc (one h4 (by left)) (allc (pc (by left)) all0)))))))⟩
 | br1 h1 h2=>exact ⟨_,_,rfl,h1,allc (pc (by left)) (allc (one h2 (by left)) all0)⟩
 | brN h1 h2 h3=>exact ⟨_,_,rfl,h1,allc (pc (by left)) (ap (cm h3 (by left) (by left)) (allc (one h2 (by left)) all0))⟩
 | nil h1 h2=>exact ⟨_,_,rfl,h1,allc (one h2 (by left)) all0⟩
 | list h1 h2 h3=>exact ⟨_,_,rfl,h1,allc (pc (by left)) (ap (cm h3 (by left) (by left)) (allc (one h2 (by left)) all0))⟩
 | _=>rfl
theorem g8_ {m:Mq}{sl:List It}{g:Got} (h:Made m sl g):sl.head?.map It.start=some g.start/\sl.getLast?.map It.halt=some g.halt_:=by
 have la : ∀ {l:List It}{i:It},(l++[i]).getLast?.map It.halt=some i.halt:=fun {l i}=>by rw [List.getLast?_concat];rfl
 cases h with
 | @fn t ar ks a h0 h1 h2 h3 =>
  cases ks with
  | nil=>exact absurd rfl h0
  | cons k ks =>
  refine ⟨rfl,?_⟩;rw [show (It.tk t::((k::ks).map It.tk++[.tk ar,.pc a]))=(It.tk t::((k::ks).map It.tk++[.tk ar]))++[.pc a] by simp];exact la
 | @rec_ t ar f x ks a h1 hf hx h2 h3 =>
  refine ⟨rfl,?_⟩;rw [show (It.tk t :: .tk f :: .tk x::(ks.map It.tk++[.tk ar,.pc a]))=(It.tk t :: .tk f :: .tk x::(ks.map It.tk++[.tk ar]))++[.pc a] by simp];exact la
 | @let_ t x eq i ks a b h1 hx h2 h3 h4 =>
  refine ⟨rfl,?_⟩;rw [show (It.tk t :: .tk x::(ks.map It.tk++[.tk eq,.pc a,.tk i,.pc b]))=(It.tk t :: .tk x::(ks.map It.tk++[.tk eq,.pc a,.tk i]))++[.pc b] by simp];exact la
 | @letRec t r f x eq i ks a b h1 hr hf hx h2 h3 h4 =>
  refine ⟨rfl,?_⟩;rw [show (It.tk t :: .tk r :: .tk f :: .tk x::(ks.map It.tk++[.tk eq,.pc a,.tk i,.pc b]))=(It.tk t :: .tk r :: .tk f :: .tk x::(ks.map It.tk++[.tk eq,.pc a,.tk i]))++[.pc b] by simp];exact la
 | @cmp tk a b g h =>
  unfold Vaunid.gotCompare at h
  repeat' split at h
  all_goals first | (cases h;exact ⟨rfl,rfl⟩) | cases h
 | @brN t u a b l gs h1 h2 h3 =>
  refine ⟨rfl,?_⟩;rw [show (It.tk t :: .pc a::(l++[.tk u]))=(It.tk t :: .pc a::l)++[.tk u] by simp];exact la
 | @list t u a l gs h1 h2 h3 =>
  refine ⟨rfl,?_⟩;rw [show (It.tk t :: .pc a::(l++[.tk u]))=(It.tk t :: .pc a::l)++[.tk u] by simp];exact la
 | _=>exact ⟨rfl,rfl⟩
theorem fi_ {A B:Type}{R:A->B->Prop}{l l2:List A}{m m2:List B} (h:Paired R l m) (q:Paired R l2 m2):Paired R (l++l2) (m++m2):=by
 induction h with
 | nil=>exact q
 | cons h1 _ ih=>exact .cons h1 ih
theorem hR_ {A B:Type}{R:A->B->Prop}{bs:List B} : ∀ {as:List A}{cs:List B},Paired R as (bs++cs)->Paired R (as.take bs.length) bs/\Paired R (as.drop bs.length) cs:=by
 induction bs with
 | nil=>exact fun h=>⟨.nil,h⟩
 | cons b bs ih =>
 intro as cs h;cases h with
 | cons h1 h2 =>
 obtain ⟨q1,q2⟩:=ih h2;exact ⟨.cons h1 q1,q2⟩
theorem RdAt.took {Ca Ct Cp Cn Cr Ce:Addr}{H H1:Hp}{rd row la td tn dx:Addr}{as:List Addr}{s:RS}{t:Token}{l:Toks}{b:Addr} (h:RdAt Ca Ct Cp Cn Cr Ce H rd row la td tn dx as s) (sm:ay_ [row] H H1) (hb:TokB Ca Ct H1 b t) (g:bh_ t.tok) (hr:bV_ Ca Ct Cr H1 row la l) :
  H1 rd=some (.ins Ce dx (rdFs row td tn (s.ar:Int)))/\H1 tn=some (.lst (as.map V.ref))/\mS_ H rd td tn row (upd H1 tn (.lst (as.map V.ref++[V.ref b]))) tn/\RdAt Ca Ct Cp Cn Cr Ce (upd H1 tn (.lst (as.map V.ref++[V.ref b]))) rd row la td tn dx (as++[b]) { s with taken:=s.taken++[.tk t],l:=l }:=by
 refine x_06 h.nes fun m1 m2 m3 m4 m5 m6 m7=>?_;have up : ∀ {a:Addr}{o:HO},a≠row->H a=some o->H1 a=some o:=fun n e=>sm _ _ (fun z=>n (mem_singleton.mp z)) e;have e1:=up m3 h.o;have e2:=up m5.symm h.t;have e3:=up m6.symm h.k;have x2:ay_ [tn] H1 (upd H1 tn (.lst (as.map V.ref++[V.ref b]))):=ay_.upd (mem_singleton.mpr rfl);have nt : ∀ x∈[tn],NU H1 x:=fun x m=>by rw [mem_singleton.mp m];exact .inl (.lst e3)
 have sx:ay_ [rd,td,tn,row] H (upd H1 tn (.lst (as.map V.ref++[V.ref b]))):=(sm.more (by simp)).trans (x2.more (by simp));have hr2:bV_ Ca Ct Cr (upd H1 tn (.lst (as.map V.ref++[V.ref b]))) row la l:=hr.keepU x2 nt (by simp [m6]) (by simp [h.n3]);have f1:upd H1 tn (.lst (as.map V.ref++[V.ref b])) rd=some (.ins Ce dx (rdFs row td tn (s.ar:Int))):=by rw [ag_ m2];exact e1
 have f2:upd H1 tn (.lst (as.map V.ref++[V.ref b])) td=some (.lst (dsV s.todo)):=by rw [ag_ h.n1];exact e2
 have f3:upd H1 tn (.lst (as.map V.ref++[V.ref b])) tn=some (.lst ((as++[b]).map V.ref)):=by rw [af_,map_append];rfl
 refine ⟨e1,e3,⟨sx,.inl rfl⟩,f1,f2,f3,fi_ (Paired.mapP h.i fun _ _ q=>q.same (dJ_ sx fun _ m => .inl m)) (.cons ⟨(hb.imm (k6_ x2 nt)).ex fun x m=>?_,g⟩ .nil),hr2,h.n1,h.n2,h.n3⟩;simp only [mem_cons,not_mem_nil,or_false] at m;rcases m with rfl | rfl | rfl | rfl
 ·exact .inr ⟨_,_,_,_,_,_,f1⟩
 ·exact .inl (.lst f2)
 ·exact .inl (.lst f3)
 exact .inl hr2.nt
open Vaunid (Token txt word sign Got Res isSmall isDigit inWord)
theorem h2_ {p:Nat}{s r:List Nat}{k:Token} (hl:s.length<=10000) (h:token false p s = .ok (k,r)):bh_ k.tok/\¬ k.tok=sign "end":=by
 unfold token at h;cases s with
 | nil=>cases h
 | cons c s =>
 dsimp only at h;split at h
 ·rename_i hc
  unfold wordToken at h;dsimp only at h;split at h
  ·cases h
  rename_i hn;cases h;refine ⟨⟨?_,by simp only [MOSTSIGNS] at hn;omega⟩,by intro z;cases z⟩;rw [takeWhile_cons,cA_ hc];show (isSmall c && (s.takeWhile inWord).all inWord)=true;rw [hc];exact all_eq_true.mpr (dN_ _)
 have num : ∀ neg:Bool,(∃ c' s',(if neg=true then (c::s).drop 1 else c::s)=c'::s'/\isDigit c'=true)->numberToken neg p (c::s) = .ok (k,r)->bh_ k.tok/\¬ k.tok=sign "end":=by
  rintro neg ⟨c',s',e1,e2⟩ h
  unfold numberToken at h;dsimp only at h;cases h1:(numberText (if neg=true then (c::s).drop 1 else c::s)).2.1 with
  | none=>rw [h1] at h;cases h
  | some v =>
  obtain ⟨o,u⟩:=v;rw [h1] at h;dsimp only at h;obtain ⟨b1,b2,b3⟩:=mi_ e1 e2 h1;have bt:(if neg=true then -(o:Int) else (o:Int)).natAbs<10 ^ 12:=by
   split
   ·rw [natAbs_neg];exact b1
   exact b1
  have nr:=fZ_ (if neg=true then (c::s).drop 1 else c::s);split at h
  ·rename_i r' hr
   split at h
   ·cases h
   rename_i hm;cases h;have hm2:measureText ((r'.takeWhile fun c=>c != 93).length+1) (r'.takeWhile fun c=>c != 93)=true:=Bool.of_not_eq_false fun q=>hm (.inr q);refine ⟨⟨fun m e=>?_,bt,b2,fun n e=>(by cases e),fun m e=>(by cases e;exact hZ_ _ _ hm2)⟩,by intro z;cases z⟩;cases e;refine ⟨jt_ hm2,?_⟩;have l1:=cI_ (fun c=>c != 93) r';have l2:r'.length+1=((if neg=true then (c::s).drop 1 else c::s).drop (numberText (if neg=true then (c::s).drop 1 else c::s)).1).length:=by rw [<- nr.1,hr];rfl
   rw [length_drop] at l2;have l3:(if neg=true then (c::s).drop 1 else c::s).length<=(c::s).length:=by
    split
    ·rw [length_drop];omega
    exact Nat.le_refl _
   omega
  cases h;refine ⟨⟨fun m e=>(by cases e),bt,b2,fun n e=>?_,fun m e=>(by cases e)⟩,by intro z;cases z⟩;by_cases h1:(numberText (if neg=true then (c::s).drop 1 else c::s)).1=1
  ·rw [if_pos h1] at e
   cases e;rw [b3 h1]
  rw [if_neg h1] at e;cases e
 split at h
 ·rename_i hd
  exact num false ⟨c,s,rfl,hd⟩ h
 rw [if_neg (by rintro ⟨q,_⟩;cases q)] at h;unfold signToken at h;rw [if_neg (by intro q;cases q)] at h;cases h1:Vaunid.surfaceSigns.find? (fun x=>x.isPrefixOf (c::s)) with
 | none=>rw [h1] at h;cases h
 | some x =>
 rw [h1] at h;cases h;have hm:=List.mem_of_find?_eq_some h1;refine ⟨.inl hm,fun z=>?_⟩;have z:Vaunid.Tok.sign x=Vaunid.Tok.sign _:=z;injection z with z;rw [z] at hm;exact absurd hm (by left)
theorem dT_ (n:Nat) : ∀ (p:Nat) (s:List Nat) (l:List Token),s.length<=10000->tokens false n p s = .ok l->(∀ k∈l,bh_ k.tok/\¬ k.tok=sign "end")/\l.length<=s.length:=by
 induction n with
 | zero =>
  intro p s l hl h;have:l=[]:=by cases s <;> (cases h;rfl)
  subst this;exact ⟨all0,zero_le _⟩
 | succ n ih =>
 intro p s l hl h;cases s with
 | nil=>cases h;exact ⟨all0,zero_le _⟩
 | cons c r =>
 unfold tokens at h;have hl':r.length+1<=10000:=hl;rw [length_cons];split at h
 ·have:=ih _ r l (by omega) h
  exact ⟨this.1,by omega⟩
 split at h
 ·have dl:(r.dropWhile Vaunid.inComment).length<=r.length:=by
   have:=congrArg List.length (takeWhile_append_dropWhile (p:=Vaunid.inComment) (l:=r));rw [length_append] at this;omega
  split at h
  ·cases h
  ·rename_i s e
   rw [e,length_cons] at dl;have:=ih _ s l (by omega) h;exact ⟨this.1,by omega⟩
  cases h
 cases q:token false p (c::r) with
 | error e=>rw [q] at h;cases h
 | ok x =>
 obtain ⟨k,s⟩:=x;rw [q] at h;dsimp only at h;have tf:=bX_ q;have hs:s.length<=r.length:=by
  have h3:=tf.lt;rw [tf.rest,length_drop,length_cons];omega
 cases q2:tokens false n k.halt_ s with
 | error e=>rw [q2] at h;cases h
 | ok l2 =>
 rw [q2] at h;cases h;obtain ⟨h1,h2⟩:=ih _ s l2 (by omega) q2;exact ⟨allc (h2_ hl q) h1,by rw [length_cons];omega⟩
theorem cL_ (t:List Nat):readSurface t=(match allTokens false t with
  | .error e => .error e
  | .ok ts=>match e5_ t.length (20 * ts.length+40) ts with
   | .error e => .error e
   | .ok g=>match tooMuch 0 (depths 1 g.term) with
    | some (kind,i)=>fault kind (g.places.getD i (0,0)).1
    | none => .ok (g.term,g.places)):=by
 unfold readSurface e5_;cases h1:allTokens false t with
 | error e=>rfl
 | ok ts =>
 dsimp only;show (Vaunid.expression t.length (20 * ts.length+40) 40 ts >>= _)=_;cases h2:Vaunid.expression t.length (20 * ts.length+40) 40 ts with
 | error e=>rfl
 | ok y =>
 obtain ⟨g,r⟩:=y;cases r with
 | nil =>
  show (match tooMuch 0 (depths 1 g.term) with | some (kind,i)=>fault kind (g.places.getD i (0,0)).1 | none => .ok (g.term,g.places))=(match tooMuch 0 (depths 1 g.term) with | some (kind,i)=>fault kind (g.places.getD i (0,0)).1 | none => .ok (g.term,g.places))
  cases tooMuch 0 (depths 1 g.term) <;> rfl
 | cons k r=>rfl
mutual
theorem j4_ (d:Nat) : ∀ t:Tr,(bb_ d t).map (fun p=>p.2.b)=(stT t).map Prod.fst
 | .mk f ws b e ps=>by
  show b::(bT_ (d+1) ps).map (fun p=>p.2.b)=b::(stTL ps).map Prod.fst;rw [iv_ (d+1) ps]
theorem iv_ (d:Nat) : ∀ ts:List Tr,(bT_ d ts).map (fun p=>p.2.b)=(stTL ts).map Prod.fst
 | []=>rfl
 | t::r=>by
  show (bb_ d t++bT_ d r).map (fun p=>p.2.b)=(stT t++stTL r).map Prod.fst;rw [map_append,j4_ d t,iv_ d r,map_append]
end
mutual
theorem ho_ (m d:Nat) : ∀ t:Tr,(∀ p∈bb_ d t,p.1<=m)->d+mK_ t<=m+1
 | .mk f ws b e ps,h=>by
  have h : ∀ p∈(d,Tr.mk f ws b e ps)::bT_ (d+1) ps,p.1<=m:=h;obtain ⟨h1,h2⟩:=forall_mem_cons.mp h;have h1:d<=m:=h1;have:=fw_ m (d+1) ps (by omega) h2;show d+(1+lj_ ps)<=_;omega
theorem fw_ (m d:Nat) : ∀ ts:List Tr,d<=m+1->(∀ p∈bT_ d ts,p.1<=m)->d+lj_ ts<=m+1
 | [],h,_=>h
 | t::r,h0,h=>by
  obtain ⟨h1,h2⟩:=forall_mem_append.mp (show ∀ p∈bb_ d t++bT_ d r,p.1<=m from h);have a:=ho_ m d t h1;have b:=fw_ m d r h0 h2;show d+max (mK_ t) (lj_ r)<=_;omega
end
theorem iZ_ : ∀ (l:List (Nat×Tr)) (i:Nat),limT i l=match tooMuch i (l.map Prod.fst) with
  | none=>none
  | some (k,j)=>some (k,(l.map fun p=>p.2.b).getD (j - i) 0)
 | [],i=>rfl
 | p::r,i=>by
  rw [map_cons];unfold limT tooMuch;by_cases h1:40<p.1
  ·rw [if_pos h1,if_pos (show Vaunid.MOSTDEEP<p.1 from h1)]
   simp
  rw [if_neg h1,if_neg (show ¬ Vaunid.MOSTDEEP<p.1 from h1)];by_cases h2:i=300
  ·rw [if_pos h2,if_pos (show i=Vaunid.MOSTNODES from h2)]
   simp
  rw [if_neg h2,if_neg (show ¬ i=Vaunid.MOSTNODES from h2),iZ_ r (i+1)];cases q:tooMuch (i+1) (r.map Prod.fst) with
  | none=>rfl
  | some y =>
  obtain ⟨k,j⟩:=y;have:i+1<=j:=much_ge _ _ q;show some _=some _;rw [map_cons,show j - i=(j - (i+1))+1 by omega];rfl
where much_ge : ∀ (l:List Nat) (i:Nat) {k j:Nat},tooMuch i l=some (k,j)->i<=j
 | [],i,k,j,h=>by cases h
 | d::r,i,k,j,h=>by
  unfold tooMuch at h;split at h
  ·cases h;exact Nat.le_refl _
  split at h
  ·cases h;exact Nat.le_refl _
  have:=much_ge r (i+1) h;omega
theorem iY_ : ∀ (l:List (Nat×Tr)) (i:Nat),i<=300->limT i l=none->(∀ p∈l,p.1<=40)/\i+l.length<=300
 | [],i,hi,h=>⟨all0,hi⟩
 | p::r,i,hi,h=>by
  unfold limT at h;split at h
  ·cases h
  split at h
  ·cases h
  obtain ⟨h1,h2⟩:=iY_ r (i+1) (by omega) h;exact ⟨allc (by omega) h1,by rw [length_cons];omega⟩
theorem mD_ (l:List (Nat×Nat)) (i:Nat):(l.map Prod.fst).getD i 0=(l.getD i (0,0)).1:=by
 rw [List.getD_eq_getElem?_getD,List.getD_eq_getElem?_getD,getElem?_map];cases l[i]? <;> rfl
def mP_ (K:Frag) (v:Value) (y:Way):Prop:=∃ (b:Addr) (zw:Array Value) (n:Nat) (sl:Array (Option Value)) (k p:Addr),v = .ref b/\K.lookup b=some ⟨.type "tuple",none,.seq zw n,sl⟩/\zw.toList=[.ref k,.ref p]/\lC_ K k (y.1.map ofString)/\lC_ K p (y.2.map fun d=>ofString d.nm)
def aS_ (K:Frag) (a:Addr) (l:List Way):Prop:=∃ (zw:Array Value) (n:Nat) (sl:Array (Option Value)),K.lookup a=some ⟨.type "tuple",none,.seq zw n,sl⟩/\Paired (mP_ K) zw.toList l
def aL_ (K:Frag) (a:Addr) (x:Nat ⊕ String) (f:Addr):Prop:=∃ (zw:Array Value) (n:Nat) (sl:Array (Option Value)),K.lookup a=some ⟨.type "tuple",none,.seq zw n,sl⟩/\Vals [gP_ x,.ref f] zw.toList
theorem j6_ {K:Frag}{H:Hp}{a:Addr}{zw:Array Value}{n:Nat}{sl:Array (Option Value)}{vs:List V} (l:K.lookup a=some ⟨.type "tuple",none,.seq zw n,sl⟩) (v:Vals vs zw.toList) (h:vs.length<=100):SqT K H a vs :=
 .inr ⟨_,zw,n,l,rfl,rfl,by rw [<- Array.length_toList,<- L2.Vals.length v];exact Nat.le_trans h (by decide),v⟩
theorem mP_.at {K:Frag}{v:Value}{y:Way} (h:mP_ K v y) : ∃ b,v = .ref b/\mQ_ K b y:=by
 obtain ⟨b,zw,n,sl,k,p,e,l,q,h1,h2⟩:=h;exact ⟨b,e,k,p,fun H=>j6_ l (by rw [q];exact .cons rfl (.cons rfl .nil)) (by show 2<=100;decide),h1,h2⟩
theorem aS_.at {K:Frag}{a:Addr}{l:List Way} (h:aS_ K a l) (n:l.length<=100) : ∃ bs:List Addr,(∀ H,SqT K H a (bs.map V.ref))/\Paired (mQ_ K) bs l:=by
 refine x_30 h fun zw m sl zy=>x_01 zy fun q p=>?_;have key : ∀ {vs:List Value}{l:List Way},Paired (mP_ K) vs l->∃ bs:List Addr,Vals (bs.map V.ref) vs/\Paired (mQ_ K) bs l:=fun {vs l} p=>by
  induction p with
  | nil=>exact ⟨[],.nil,.nil⟩
  | cons h _ ih =>
  obtain ⟨bs,i1,i2⟩:=ih;obtain ⟨b,e,h⟩:=h.at;exact ⟨b::bs,.cons e i1,.cons h i2⟩
 obtain ⟨bs,i1,i2⟩:=key p;exact ⟨bs,fun H=>j6_ q i1 (by rw [length_map,Paired.length i2];exact n),i2⟩
theorem lF_ : ∀ r∈cJ_,(ways r).length<=100:=by left
theorem iR_:(cJ_.map fun r=>ofString r.nm).Nodup/\(d1_.map fun r=>ofString r.nm).Nodup:=by left
theorem lX_ {w:World}{K:Frag}{a:Addr}{es:Array DictEntry}{ep:Nat} (ad:Ru->Addr) (l:K.lookup a=some { cls := .type "dict",data := .dict es ep }) (p:Paired (dM_ w) (cJ_.map fun r=>(ofString r.nm,V.ref (ad r))) es.toList) (z:(a == sysModules)=false) (h : ∀ r,aS_ K (ad r) (ways r)):lD_ w K a :=
 ⟨ad,⟨⟨es,ep,l,p⟩,by rw [map_map];exact iR_.1,z⟩,fun r=>(h r).at (lF_ r (b0_ r))⟩
theorem kW_ {w:World}{K:Frag}{a:Addr}{f:Mq->Addr}{es:Array DictEntry}{ep:Nat} (ad:Mq->Addr) (l:K.lookup a=some { cls := .type "dict",data := .dict es ep }) (p:Paired (dM_ w) (d1_.map fun r=>(ofString r.nm,V.ref (ad r))) es.toList) (z:(a == sysModules)=false) (h : ∀ m,aL_ K (ad m) m.reach (f m)):jd_ w K a f :=
 ⟨ad,⟨⟨es,ep,l,p⟩,by rw [map_map];exact iR_.2,z⟩,fun m H=>by
  obtain ⟨zw,n,sl,q,v⟩:=h m;exact j6_ q v (by show 2<=100;decide)⟩
def adR (l:List Addr) (r:Ru):Addr:=l.getD r.ctorIdx 0
open Vaunid (Token txt word sign Got Res gotLeaf gotOne gotTwo gotThree gotFns gotRec gotLet gotPairs gotList gotTruth gotCompare formOne formTwo)
structure Nd (s:Nat×Nat) (g:Got) (f:List Nat) (ws:List (List Nat)) (gs:List Got):Prop where
 f:la_ g.term=f
 w:ei_ g.term=ws
 p:eC_ g.term=gs.map (·.term)
 l:s::gs.flatMap (·.places)=g.places
abbrev gst (g:Got):Nat×Nat:=(g.start,g.halt_)
theorem b2_ (o:Two) (s:Nat×Nat) (a b:Got):Nd s (gotTwo o s a b) (txt (el_ o).word) [] [a,b]:=⟨rfl,rfl,rfl,by simp [gotTwo]⟩
theorem mm_ (s:Nat×Nat) (a b c:Got):Nd s (gotThree .cond s a b c) (txt "if") [] [a,b,c]:=⟨rfl,rfl,rfl,by simp [gotThree]⟩
theorem eG_ (s:Nat×Nat) (l:Vaunid.Leaf):Nd s (gotLeaf l s) (txt (f9_ l)) (ha_ l) []:=⟨rfl,rfl,rfl,rfl⟩
def MAt (sl:List It) (i:Int) (g:Got):Prop:=atI sl i=some (.pc g)
def KAt (sl:List It) (i:Int) (t:Token):Prop:=atI sl i=some (.tk t)
def MBet (sl:List It) (g:Got):Prop:=∃ t a b,KAt sl 1 t/\MAt sl 0 a/\MAt sl 2 b/\Nd (gst g) g (kindOf t.tok) [] [a,b]
def mT_ (sl:List It) (g:Got):Prop:=∃ t,KAt sl 0 t/\Nd (gst g) g (kindOf t.tok) [] (ptsI sl)
def bW_:Mq->List It->Got->Prop
 | .fn=>fun sl g=>∃ a,MAt sl (-1) a/\g=gotFns (gst g) (nmsI sl) a
 | .rec_=>fun sl g=>∃ f x ns a,nmsI sl=f::x::ns/\MAt sl (-1) a/\g=gotRec (gst g) f x (gotFns (gst g) ns a)
 | .let_=>fun sl g=>∃ t f ks a b v,KAt sl 1 t/\nmsI sl=f::ks/\ptsI sl=[a,b]/\Nd (gst g) g (txt "let") [f] [v,b]/\if kindOf t.tok=txt "rec" then ∃ x ns,ks=x::ns/\v=gotRec (gst g) f x (gotFns (gst g) ns a) else v=gotFns (gst g) ks a
 | .if_=>fun sl g=>Nd (gst g) g (txt "if") [] (ptsI sl)
 | .case_=>fun sl g=>Nd (gst g) g (txt "case") (nmsI sl) (ptsI sl)
 | .or_=>fun sl g=>∃ a b,MAt sl 0 a/\MAt sl 2 b/\Nd (gst g) g (txt "if") [] [a,gotTruth true (gst g),b]
 | .and_=>fun sl g=>∃ a b,MAt sl 0 a/\MAt sl 2 b/\Nd (gst g) g (txt "if") [] [a,b,gotTruth false (gst g)]
 | .not_=>fun sl g=>∃ a,MAt sl 1 a/\g=gotThree .cond (gst g) a (gotTruth false (gst g)) (gotTruth true (gst g))
 | .cmp=>fun sl g=>∃ t a b,KAt sl 1 t/\MAt sl 0 a/\MAt sl 2 b/\gotCompare t.tok (gst g) a b=some g
 | .cons=>fun sl g=>∃ a b,MAt sl 0 a/\MAt sl 2 b/\Nd (gst g) g (txt "cons") [] [a,b]
 | .sum=>MBet
 | .prod=>MBet
 | .pow=>fun sl g=>∃ t v m a,KAt sl 2 t/\t.tok = .num v (some m)/\MAt sl 0 a/\Nd (gst g) g (txt "^") [decimalInt m] [a]
 | .mpow=>fun sl g=>∃ t v m a,KAt sl 3 t/\t.tok = .num v (some m)/\MAt sl 0 a/\Nd (gst g) g (txt "^") [decimalInt (-m)] [a]
 | .app=>fun sl g=>∃ a b,MAt sl 0 a/\MAt sl 1 b/\Nd (gst g) g (txt "apply") [] [a,b]
 | .mnum=>fun sl g=>∃ t v d,KAt sl 1 t/\t.tok = .num v d/\Nd (gst g) g (txt "number") [shownLit { v with top := -v.top }] []
 | .one=>mT_
 | .two=>mT_
 | .three=>mT_
 | .name=>fun sl g=>∃ t,KAt sl 0 t/\kindOf t.tok=txt "name"/\Nd (gst g) g (txt "name") [aA_ t.tok] []
 | .number=>fun sl g=>∃ t v d,KAt sl 0 t/\t.tok = .num v d/\Nd (gst g) g (txt "number") [shownLit v] []
 | .truth=>fun sl g=>∃ t,KAt sl 0 t/\Nd (gst g) g (kindOf t.tok) [] []
 | .bracket=>fun sl g=>∃ xs y,ptsI sl=xs++[y]/\g.term=(xs.foldr (gotTwo .pair (gst g)) y).term/\g.places=(xs.foldr (gotTwo .pair (gst g)) y).places
 | .list=>fun sl g=>g=(ptsI sl).foldr (gotTwo .cons (gst g)) (gotLeaf .nil (gst g))
theorem cg_ {t:Token}{s:String}{r:List It} (h1:kindOf t.tok=txt s) (h2 : ¬ txt s=txt "name"):nmsI (.tk t::r)=nmsI r:=by
 show (if kindOf t.tok=txt "name" then _ else _)=_;rw [if_neg (by rw [h1];exact h2)]
theorem dQ_ {t:Token}{r:List It} (h1:kindOf t.tok=txt "name"):nmsI (.tk t::r)=aA_ t.tok::nmsI r:=by
 show (if kindOf t.tok=txt "name" then _ else _)=_;rw [if_pos h1]
theorem iP_ {ks:List Token}{r:List It} (h : ∀ k∈ks,kindOf k.tok=txt "name"):nmsI (ks.map It.tk++r)=(ks.map fun k=>aA_ k.tok)++nmsI r:=by
 induction ks with
 | nil=>rfl
 | cons t ks ih=>rw [map_cons,cons_append,dQ_ (h t (mem_cons_self ..)),ih fun k m=>h k (mem_cons_of_mem _ m)];rfl
theorem ng_ (ks:List Token) (r:List It):ptsI (ks.map It.tk++r)=ptsI r:=by
 induction ks with
 | nil=>rfl
 | cons t ks ih=>exact ih
theorem ne_ {l:List It}{gs:List Got}{r:List It} (h:Commas l gs):ptsI (l++r)=gs++ptsI r:=by
 induction h with
 | nil=>rfl
 | cons _ _ ih=>exact congrArg _ ih
theorem nz_ {sl:List It}{g:Got} (l:List It) (h:sl=l++[.pc g]):MAt sl (-1) g:=by rw [h];exact gk_ _ _
theorem k8_ (s:Nat×Nat) (gs:List Got) : ∀ a:Got,∃ xs y,a::gs=xs++[y]/\gotPairs s a gs=xs.foldr (gotTwo .pair s) y:=by
 induction gs with
 | nil=>exact fun a=>⟨[],a,rfl,rfl⟩
 | cons c gs ih =>
 intro a;refine x_21 (ih c) fun xs y e1 e2=>?_;exact ⟨a::xs,y,by rw [e1];rfl,by show gotTwo .pair s a (gotPairs s c gs)=_;rw [e2];rfl⟩
theorem mz_ (s:Nat×Nat) (gs:List Got):gotList s gs=gs.foldr (gotTwo .cons s) (gotLeaf .nil s):=by
 induction gs with
 | nil=>rfl
 | cons x r ih=>show gotTwo .cons s x (gotList s r)=_;rw [ih];rfl
theorem hd_ {k:Nat}{c:Vaunid.Tok}{o:Two} (h:Vaunid.joins k c=some o):txt (el_ o).word=kindOf c:=by
 unfold Vaunid.joins at h
 repeat' split at h
 all_goals first | (cases h;subst_vars;left) | cases h
theorem iN_ {c:Vaunid.Tok}{o:Vaunid.One} (h:formOne c=some o):txt (hU_ o).word=kindOf c/\∀ t:Term,ei_ (.one o t)=[]:=by
 unfold formOne at h
 repeat' split at h
 all_goals first | (cases h;subst_vars;exact ⟨by left,fun _=>rfl⟩) | cases h
theorem lH_ {c:Vaunid.Tok}{o:Two} (h:formTwo c=some o) (q:c=word "floor"\/c=word "rest"):txt (el_ o).word=kindOf c:=by
 rcases q with q | q <;> subst q
 ·rw [show formTwo (word "floor")=some .floor by left] at h;cases h;left
 rw [show formTwo (word "rest")=some .rest by left] at h;cases h;left
theorem Made.p {m:Mq}{sl:List It}{g:Got} (h:Made m sl g):bW_ m sl g:=by
 cases h with
 | @fn t ar ks a h0 h1 h2 h3 =>
  have e:nmsI (.tk t::(ks.map It.tk++[.tk ar,.pc a]))=ks.map fun k=>aA_ k.tok:=by
   rw [cg_ h1 (by left),iP_ h2,cg_ h3 (by left)];exact append_nil _
  refine ⟨a,nz_ (.tk t::(ks.map It.tk++[.tk ar])) (by simp),?_⟩;rw [e];cases ks with
  | nil=>exact absurd rfl h0
  | cons k ks=>rfl
 | @rec_ t ar f x ks a h1 hf hx h2 h3 =>
  refine ⟨_,_,ks.map fun k=>aA_ k.tok,a,?_,nz_ (.tk t :: .tk f :: .tk x::(ks.map It.tk++[.tk ar])) (by simp),rfl⟩;rw [cg_ h1 (by left),dQ_ hf,dQ_ hx,iP_ h2,cg_ h3 (by left)];exact congrArg (fun l=>aA_ f.tok::aA_ x.tok::l) (append_nil _)
 | @let_ t x eq i ks a b' h1 h2 h3 h4 h5 =>
  refine ⟨x,aA_ x.tok,ks.map fun k=>aA_ k.tok,a,b',gotFns (t.start,b'.halt_) (ks.map fun k=>aA_ k.tok) a,at1,?_,?_,⟨rfl,rfl,rfl,by simp [gotLet,gst]⟩,?_⟩
  ·rw [cg_ h1 (by left),dQ_ h2,iP_ h3,cg_ h4 (by left)]
   show aA_ x.tok::(_++nmsI (.tk i::[.pc b']))=_;rw [cg_ h5 (by left)];exact congrArg _ (append_nil _)
  ·exact ng_ ks _
  rw [if_neg (by rw [h2];left)];rfl
 | @letRec t r f x eq i ks a b' h1 h2 h3 h3' h4 h5 h6 =>
  refine ⟨r,aA_ f.tok,aA_ x.tok::ks.map fun k=>aA_ k.tok,a,b',gotRec (t.start,b'.halt_) (aA_ f.tok) (aA_ x.tok) (gotFns (t.start,b'.halt_) (ks.map fun k=>aA_ k.tok) a),at1,?_,?_,⟨rfl,rfl,rfl,by simp [gotLet,gst]⟩,?_⟩
  ·rw [cg_ h1 (by left),cg_ h2 (by left),dQ_ h3,dQ_ h3',iP_ h4,cg_ h5 (by left)]
   show aA_ f.tok::aA_ x.tok::(_++nmsI (.tk i::[.pc b']))=_;rw [cg_ h6 (by left)];exact congrArg (fun l=>aA_ f.tok::aA_ x.tok::l) (append_nil _)
  ·exact ng_ ks _
  rw [if_pos h2];exact ⟨_,_,rfl,rfl⟩
 | if_ _ _ _=>exact mm_ _ _ _ _
 | @case_ t u' v w' x y h z q s lg a b' k1 k2 k3 k4 k5 k6 k7 k8 k9 k10 =>
  refine ⟨rfl,?_,rfl,by simp [ptsI,gst]⟩;rw [cg_ k1 (by left),show ∀ (g:Got) (r:List It),nmsI (.pc g::r)=nmsI r from fun _ _=>rfl,cg_ k2 (by left),cg_ k3 (by left),cg_ k4 (by left),cg_ k5 (by left),show ∀ (g:Got) (r:List It),nmsI (.pc g::r)=nmsI r from fun _ _=>rfl,cg_ k6 (by left),dQ_ k7,cg_ k8 (by left),dQ_ k9,cg_ k10 (by left)];rfl
 | or_=>exact ⟨_,_,at0,at2,mm_ _ _ _ _⟩
 | and_=>exact ⟨_,_,at0,at2,mm_ _ _ _ _⟩
 | not_=>exact ⟨_,at1,rfl⟩
 | @cmp t a b g h =>
  refine ⟨_,_,_,at1,at0,at2,?_⟩;have e:gst g=(a.start,b.halt_):=by
   unfold gotCompare at h
   repeat' split at h
   all_goals first | (cases h;rfl) | cases h
  rw [e];exact h
 | cons=>exact ⟨_,_,at0,at2,b2_ _ _ _ _⟩
 | sum h=>exact ⟨_,_,_,at1,at0,at2,hd_ h ▸ b2_ _ _ _ _⟩
 | prod h=>exact ⟨_,_,_,at1,at0,at2,hd_ h ▸ b2_ _ _ _ _⟩
 | pow h=>exact ⟨_,_,_,_,at2,h,at0,⟨rfl,rfl,rfl,by simp [gotOne,gst]⟩⟩
 | mpow h=>exact ⟨_,_,_,_,at3,h,at0,⟨rfl,rfl,rfl,by simp [gotOne,gst]⟩⟩
 | app=>exact ⟨_,_,at0,at1,b2_ _ _ _ _⟩
 | mnum h=>exact ⟨_,_,_,at1,h,eG_ _ _⟩
 | one h=>exact ⟨_,at0,(iN_ h).1,(iN_ h).2 _,rfl,by simp [gotOne,gst,ptsI]⟩
 | two h h2=>exact ⟨_,at0,lH_ h h2 ▸ b2_ _ _ _ _⟩
 | three h=>exact ⟨_,at0,by rw [h];show txt "fold"=kindOf (word "fold");left,rfl,rfl,by simp [gotThree,gst,ptsI]⟩
 | name h=>exact ⟨_,at0,h,eG_ _ _⟩
 | number h=>exact ⟨_,_,_,at0,h,eG_ _ _⟩
 | @truth t b h=>exact ⟨_,at0,by rw [h];cases b <;> first | exact (by left:txt "true"=kindOf (word "true")) | exact (by left:txt "false"=kindOf (word "false")),rfl,rfl,rfl⟩
 | br1 _ _=>exact ⟨[],_,rfl,rfl,rfl⟩
 | @brN t u' a b' l' gs h1 h2 h3 =>
  refine x_21 (k8_ (t.start,u'.halt_) (b'::gs) a) fun xs y e1 e2=>?_;exact ⟨xs,y,by rw [<- e1];exact congrArg _ ((ne_ h3).trans (append_nil _)),by show _=(xs.foldr (gotTwo .pair (t.start,u'.halt_)) y).term;rw [<- e2],by show _=(xs.foldr (gotTwo .pair (t.start,u'.halt_)) y).places;rw [<- e2]⟩
 | nil _ _=>rfl
 | @list t u' a l' gs h1 h2 h3 =>
 show gotList (t.start,u'.halt_) (a::gs)=(ptsI (.tk t :: .pc a::(l'++[.tk u']))).foldr (gotTwo .cons (t.start,u'.halt_)) (gotLeaf .nil (t.start,u'.halt_));rw [mz_,show ptsI (.tk t :: .pc a::(l'++[.tk u']))=a::gs from congrArg _ ((ne_ h3).trans (append_nil _))]
theorem jo_ (ns:List (List Nat)):Paired (fun v y=>v = .str (S y)) ((ns.map S).map V.str) ns:=by
 induction ns with
 | nil=>exact .nil
 | cons x r ih=>exact .cons rfl ih
theorem fj_ {R:Addr->Got->Prop}{as:List Addr}{gs:List Got} (h:Paired R as gs):Paired (fun v y=>∃ a,v = .ref a/\R a y) (as.map V.ref) gs:=by
 induction h with
 | nil=>exact .nil
 | cons h _ ih=>exact .cons ⟨_,rfl,h⟩ ih
def Ord (l:List (Nat×Nat)):Prop:=(∀ a∈l,a.1<=a.2)/\l.Pairwise fun a b=>a.2<=b.1
def itS (i:It):Nat×Nat:=(i.start,i.halt)
def tkS (t:Token):Nat×Nat:=(t.start,t.halt_)
def plG (g:Got):Prop:=∀ p∈g.places,p.1<=p.2
def subG (s:Nat×Nat) (sl:List It) (g:Got):Prop:=∀ p∈g.places,p=s\/∃ g',It.pc g'∈sl/\p∈g'.places
theorem i7_ (s:Nat×Nat) (ns:List (List Nat)) (a:Got) : ∀ p∈(gotFns s ns a).places,p=s\/p∈a.places:=by
 induction ns with
 | nil=>exact fun p h => .inr h
 | cons x r ih=>exact fun p h=>(mem_cons.mp h).elim .inl (ih p)
theorem md_ (s:Nat×Nat) (gs:List Got) : ∀ a:Got,∀ p∈(gotPairs s a gs).places,p=s\/∃ g'∈a::gs,p∈g'.places:=by
 induction gs with
 | nil=>exact fun a p h => .inr ⟨a,mem_cons_self ..,h⟩
 | cons b r ih =>
 intro a p h;rcases mem_cons.mp h with e | h
 ·exact .inl e
 rcases mem_append.mp h with h | h
 ·exact .inr ⟨a,mem_cons_self ..,h⟩
 exact (ih b p h).imp_right fun ⟨g',m,q⟩=>⟨g',mem_cons_of_mem _ m,q⟩
theorem oy_ (s:Nat×Nat) (gs:List Got) : ∀ p∈(gotList s gs).places,p=s\/∃ g'∈gs,p∈g'.places:=by
 induction gs with
 | nil=>exact fun p h => .inl (mem_singleton.mp h)
 | cons b r ih =>
 intro p h;rcases mem_cons.mp h with e | h
 ·exact .inl e
 rcases mem_append.mp h with h | h
 ·exact .inr ⟨b,mem_cons_self ..,h⟩
 exact (ih p h).imp_right fun ⟨g',m,q⟩=>⟨g',mem_cons_of_mem _ m,q⟩
theorem lr_ {l:List It}{gs:List Got} (h:Commas l gs) : ∀ g∈gs,It.pc g∈l:=by
 induction h with
 | nil=>exact fun _ m=>nomatch m
 | cons _ _ ih=>exact fun g m=>(mem_cons.mp m).elim (fun e=>by rw [e];exact .tail _ (.head _)) fun m => .tail _ (.tail _ (ih g m))
theorem Made.sub {m:Mq}{sl:List It}{g:Got} (h:Made m sl g):subG (gst g) sl g:=by
 intro p hp;cases h with
 | @fn t ar ks a h0 _ _ _ =>
  have e:gst (gotFns (t.start,a.halt_) (ks.map fun k=>aA_ k.tok) a)=(t.start,a.halt_):=by
   cases ks with
   | nil=>exact absurd rfl h0
   | cons _ _=>rfl
  rw [e];exact (i7_ _ _ _ p hp).imp_right fun q=>⟨a,by simp,q⟩
 | @rec_ t ar f x ks a _ _ _ _ _=>exact (mem_cons.mp hp).elim .inl fun hp=>(i7_ _ _ _ p hp).imp_right fun q=>⟨a,by simp,q⟩
 | @let_ t x eq i ks a b _ _ _ _ _ =>
  rcases mem_cons.mp hp with e | hp
  ·exact .inl e
  exact (mem_append.mp hp).elim (fun hp=>(i7_ _ _ _ p hp).imp_right fun q=>⟨a,by simp,q⟩) fun q => .inr ⟨b,by simp,q⟩
 | @letRec t r f x eq i ks a b _ _ _ _ _ _ _ =>
  rcases mem_cons.mp hp with e | hp
  ·exact .inl e
  exact (mem_append.mp hp).elim (fun hp=>(mem_cons.mp hp).elim .inl fun hp=>(i7_ _ _ _ p hp).imp_right fun q=>⟨a,by simp,q⟩) fun q => .inr ⟨b,by simp,q⟩
 | @if_ t u v a b c _ _ _=>rcases mem_cons.mp hp with e | hp;exact .inl e;rcases mem_append.mp hp with q | hp;exact .inr ⟨a,by simp,q⟩;exact .inr ((mem_append.mp hp).elim (fun q=>⟨b,by simp,q⟩) fun q=>⟨c,by simp,q⟩)
 | @case_ _ _ _ _ _ _ _ _ _ _ a b c=>rcases mem_cons.mp hp with e | hp;exact .inl e;rcases mem_append.mp hp with q | hp;exact .inr ⟨a,by simp,q⟩;exact .inr ((mem_append.mp hp).elim (fun q=>⟨b,by simp,q⟩) fun q=>⟨c,by simp,q⟩)
 | @or_ t a b=>rcases mem_cons.mp hp with e | hp;exact .inl e;rcases mem_append.mp hp with q | hp;exact .inr ⟨a,by simp,q⟩;exact (mem_append.mp hp).elim (fun q => .inl (mem_singleton.mp q)) fun q => .inr ⟨b,by simp,q⟩
 | @and_ t a b=>rcases mem_cons.mp hp with e | hp;exact .inl e;rcases mem_append.mp hp with q | hp;exact .inr ⟨a,by simp,q⟩;exact (mem_append.mp hp).elim (fun q => .inr ⟨b,by simp,q⟩) fun q => .inl (mem_singleton.mp q)
 | @not_ t a=>rcases mem_cons.mp hp with e | hp;exact .inl e;rcases mem_append.mp hp with q | hp;exact .inr ⟨a,by simp,q⟩;exact .inl ((mem_append.mp hp).elim mem_singleton.mp mem_singleton.mp)
 | @cmp t a b g h =>
  have two : ∀ {o:Two}{x y:Got},It.pc x∈[.pc a,.tk t,.pc b]->It.pc y∈[.pc a,.tk t,.pc b]->p∈(gotTwo o (a.start,b.halt_) x y).places->p=(a.start,b.halt_)\/∃ g',It.pc g'∈[.pc a,.tk t,.pc b]/\p∈g'.places:=fun {o x y} mx my hp=>(mem_cons.mp hp).elim .inl fun hp => .inr ((mem_append.mp hp).elim (fun q=>⟨x,mx,q⟩) fun q=>⟨y,my,q⟩);have opp : ∀ {x:Got},(p∈x.places->p=(a.start,b.halt_)\/∃ g',It.pc g'∈[.pc a,.tk t,.pc b]/\p∈g'.places)->p∈(gotThree .cond (a.start,b.halt_) x (gotTruth false (a.start,b.halt_)) (gotTruth true (a.start,b.halt_))).places->p=(a.start,b.halt_)\/∃ g',It.pc g'∈[.pc a,.tk t,.pc b]/\p∈g'.places:=fun {x} k hp=>(mem_cons.mp hp).elim .inl fun hp=>(mem_append.mp hp).elim k fun hp => .inl ((mem_append.mp hp).elim mem_singleton.mp mem_singleton.mp);have ma:It.pc a∈[.pc a,.tk t,.pc b]:=by simp
  have mb:It.pc b∈[.pc a,.tk t,.pc b]:=by simp
  unfold gotCompare at h;split at h
  ·cases h;exact two ma mb hp
  split at h
  ·cases h;exact two ma mb hp
  split at h
  ·cases h;exact two mb ma hp
  split at h
  ·cases h;exact opp (two mb ma) hp
  split at h
  ·cases h;exact opp (two ma mb) hp
  split at h
  ·cases h;exact opp (two ma mb) hp
  cases h
 | @cons t a b=>exact (mem_cons.mp hp).elim .inl fun hp => .inr ((mem_append.mp hp).elim (fun q=>⟨a,by simp,q⟩) fun q=>⟨b,by simp,q⟩)
 | @sum t o a b _=>exact (mem_cons.mp hp).elim .inl fun hp => .inr ((mem_append.mp hp).elim (fun q=>⟨a,by simp,q⟩) fun q=>⟨b,by simp,q⟩)
 | @prod t o a b _=>exact (mem_cons.mp hp).elim .inl fun hp => .inr ((mem_append.mp hp).elim (fun q=>⟨a,by simp,q⟩) fun q=>⟨b,by simp,q⟩)
 | @pow t k v m a _=>exact (mem_cons.mp hp).elim .inl fun q => .inr ⟨a,by simp,q⟩
 | @mpow t s k v m a _=>exact (mem_cons.mp hp).elim .inl fun q => .inr ⟨a,by simp,q⟩
 | @app a b=>exact (mem_cons.mp hp).elim .inl fun hp => .inr ((mem_append.mp hp).elim (fun q=>⟨a,by simp,q⟩) fun q=>⟨b,by simp,q⟩)
 | mnum _=>exact .inl (mem_singleton.mp hp)
 | @one t o a _=>exact (mem_cons.mp hp).elim .inl fun q => .inr ⟨a,by simp,q⟩
 | @two t o a b _ _=>exact (mem_cons.mp hp).elim .inl fun hp => .inr ((mem_append.mp hp).elim (fun q=>⟨a,by simp,q⟩) fun q=>⟨b,by simp,q⟩)
 | @three t a b c _=>rcases mem_cons.mp hp with e | hp;exact .inl e;rcases mem_append.mp hp with q | hp;exact .inr ⟨a,by simp,q⟩;exact .inr ((mem_append.mp hp).elim (fun q=>⟨b,by simp,q⟩) fun q=>⟨c,by simp,q⟩)
 | name _=>exact .inl (mem_singleton.mp hp)
 | number _=>exact .inl (mem_singleton.mp hp)
 | truth _=>exact .inl (mem_singleton.mp hp)
 | @br1 t u a _ _=>exact .inr ⟨a,by simp,hp⟩
 | @brN t u a b l gs _ _ hc =>
  refine (md_ _ _ _ p hp).imp_right fun ⟨g',m,q⟩=>⟨g',?_,q⟩;rcases mem_cons.mp m with e | m
  ·rw [e];simp
  have:=lr_ hc g' m;simp [this]
 | nil _ _=>exact .inl (mem_singleton.mp hp)
 | @list t u a l gs _ _ hc =>
 refine (oy_ _ _ p hp).imp_right fun ⟨g',m,q⟩=>⟨g',?_,q⟩;rcases mem_cons.mp m with e | m
 ·rw [e];simp
 have:=lr_ hc g' m;simp [this]
structure SO (s:RS):Prop where
 o:Ord (s.taken.map itS++s.l.map tkS)
 p : ∀ g,It.pc g∈s.taken->plG g
theorem oe_ {A S L:List (Nat×Nat)}{b e:Nat} (h:Ord (A++S++L)) (hb:S.head?.map (·.1)=some b) (he:S.getLast?.map (·.2)=some e):b<=e/\Ord (A++[(b,e)]++L):=by
 obtain ⟨h1,h2⟩:=h;obtain ⟨h3,h4,h5⟩:=pairwise_append.mp h2;obtain ⟨h6,h7,h8⟩:=pairwise_append.mp h3;obtain ⟨x,ex,hx⟩ : ∃ x,S.head? = some x/\x.1=b:=by
  cases q:S.head? with
  | none=>rw [q] at hb;cases hb
  | some x=>rw [q] at hb;exact ⟨x,rfl,Option.some.inj hb⟩
 obtain ⟨y,ey,hy⟩ : ∃ y,S.getLast? = some y/\y.2=e:=by
  cases q:S.getLast? with
  | none=>rw [q] at he;cases he
  | some x=>rw [q] at he;exact ⟨x,rfl,Option.some.inj he⟩
 have mx:=List.mem_of_head? ex;have my:=List.mem_of_getLast? ey;have lx:=h1 x (by simp [mx]);have ly:=h1 y (by simp [my]);have be:b<=e:=by
  cases S with
  | nil=>cases ex
  | cons s r =>
  cases ex;rcases mem_cons.mp my with z | z
  ·rw [<- hx,<- hy,z];exact lx
  have:=(List.pairwise_cons.mp h7).1 y z;omega
 refine ⟨be,fun a ha=>?_,pairwise_append.mpr ⟨pairwise_append.mpr ⟨h6,List.pairwise_singleton _ _,fun a ha c hc=>?_⟩,h4,fun a ha c hc=>?_⟩⟩
 ·rcases mem_append.mp ha with ha | ha
  ·rcases mem_append.mp ha with ha | ha
   ·exact h1 a (by simp [ha])
   rw [mem_singleton.mp ha];exact be
  exact h1 a (by simp [ha])
 ·rw [mem_singleton.mp hc]
  have:=h8 a ha x mx;show a.2<=b;omega
 rcases mem_append.mp ha with ha | ha
 ·exact h5 a (by simp [ha]) c hc
 rw [mem_singleton.mp ha];have:=h5 y (by simp [my]) c hc;show e<=c.1;omega
theorem SO.step {s s':RS} (h:SO s) (e:Stp s (.ok s')):SO s':=by
 obtain ⟨ho,hp⟩:=h;cases e with
 | path _ _=>exact ⟨ho,hp⟩
 | enter _ _=>exact ⟨ho,hp⟩
 | leave=>exact ⟨ho,hp⟩
 | @any td tn ar t l _ =>
  refine ⟨?_,fun g m=>hp g ((mem_append.mp m).elim id fun z=>nomatch (mem_singleton.mp z))⟩;rw [map_append,append_assoc];exact ho
 | @kind s td tn ar t l _ =>
  refine ⟨?_,fun g m=>hp g ((mem_append.mp m).elim id fun z=>nomatch (mem_singleton.mp z))⟩;rw [map_append,append_assoc];exact ho
 | @make m td tn sl g ar l hg =>
 obtain ⟨hb,he⟩:=g8_ hg;have ho:Ord ((tn++sl).map itS++l.map tkS):=ho;rw [map_append] at ho;obtain ⟨be,h2⟩:=oe_ (b:=g.start) (e:=g.halt_) ho (by rw [List.head?_map,Option.map_map];exact hb) (by rw [List.getLast?_map,Option.map_map];exact he);refine ⟨?_,fun g' mg=>?_⟩
 ·rw [map_append]
  exact h2
 rcases mem_append.mp mg with z | z
 ·exact hp g' (mem_append_left _ z)
 have z:=mem_singleton.mp z;cases z;intro p q;rcases hg.sub p q with z | ⟨g2,m2,q2⟩
 ·rw [z];exact be
 exact hp g2 (mem_append_right _ m2) p q2
theorem Runs.pl {s:RS}{R:Res Got}{n:Nat} (h:Runs s R n):SO s->∀ g,R = .ok g->plG g:=by
 induction h with
 | done=>intro h g e;cases e;exact h.p _ (mem_cons_self ..)
 | bad _=>intro _ g e;cases e
 | go e _ ih=>exact fun h=>ih (h.step e)
theorem d5_ (core:Bool) : ∀ (n p:Nat) (s:List Nat) (l:List Token),tokens core n p s = .ok l->Ord (l.map tkS)/\∀ k∈l,p<=k.start/\k.halt_<=p+s.length
 | n,p,[],l,h=>by
  have:l=[]:=by cases n <;> (cases h;rfl)
  subst this;exact ⟨⟨fun _ m=>(not_mem_nil m).elim,List.Pairwise.nil⟩,fun _ m=>(not_mem_nil m).elim⟩
 | 0,p,c::r,l,h=>by
  cases h;exact ⟨⟨fun _ m=>(not_mem_nil m).elim,List.Pairwise.nil⟩,fun _ m=>(not_mem_nil m).elim⟩
 | n+1,p,c::r,l,h=>by
  unfold tokens at h;rw [length_cons];split at h
  ·have:=d5_ core n _ r l h
   exact ⟨this.1,fun k m=>by have:=this.2 k m;omega⟩
  split at h
  ·have ha:(r.takeWhile Vaunid.inComment).length+(r.dropWhile Vaunid.inComment).length=r.length:=by rw [<- length_append,takeWhile_append_dropWhile]
   cases q:r.dropWhile Vaunid.inComment with
   | nil=>rw [q] at h;cases h
   | cons d s =>
   rw [q] at h ha;rw [length_cons] at ha;by_cases hd:d=125
   ·subst hd
    have:=d5_ core n _ s l h;exact ⟨this.1,fun k m=>by have:=this.2 k m;omega⟩
   split at h
   ·rename_i z;cases z
   ·rename_i z;cases z;exact absurd rfl hd
   cases h
  cases q:token core p (c::r) with
  | error e=>rw [q] at h;cases h
  | ok x =>
  obtain ⟨k,s⟩:=x;rw [q] at h;dsimp only at h;have tf:=bX_ q;cases q2:tokens core n k.halt_ s with
  | error e=>rw [q2] at h;cases h
  | ok l2 =>
  rw [q2] at h;cases h;have:=d5_ core n _ s l2 q2;have h1:=tf.start;have h2:=tf.lt;have h3:=tf.le;have hs:s.length=(c::r).length - (k.halt_ - p):=by rw [tf.rest,length_drop]
  rw [length_cons] at hs h3;refine ⟨⟨fun a ha=>?_,List.pairwise_cons.mpr ⟨fun a ha=>?_,this.1.2⟩⟩,fun y hy=>?_⟩
  ·rcases mem_cons.mp ha with e | e
   ·rw [e];show k.start<=k.halt_;omega
   exact this.1.1 a e
  ·obtain ⟨y,my,rfl⟩:=mem_map.mp ha
   exact (this.2 y my).1
  rcases mem_cons.mp hy with e | e
  ·rw [e];omega
  have:=this.2 y e;omega
theorem jh_ {t:List Nat}{x:Term×List (Nat×Nat)} (ht:t.length<=10000) (h:readSurface t = .ok x) : ∀ p∈x.2,p.1<=p.2:=by
 rw [cL_] at h;cases e:allTokens false t with
 | error z=>rw [e] at h;cases h
 | ok ts =>
 rw [e] at h;dsimp only at h;cases e2:e5_ t.length (20 * ts.length+40) ts with
 | error z=>rw [e2] at h;cases h
 | ok g =>
 rw [e2] at h;dsimp only at h;obtain ⟨ho,hk⟩:=d5_ false _ 0 t ts e;obtain ⟨gts,_⟩:=dT_ _ _ _ _ ht e;obtain ⟨m,hm⟩:=e4_ (hl:=t.length) (ts:=ts) (forall_mem_append.mpr ⟨fun k hk=>(gts k hk).1,allc (.inr rfl) all0⟩) (fun k hk=>(gts k hk).2) (n:=20 * ts.length+40) (by omega);rw [e2] at hm;have pl:=hm.pl ⟨by
  show Ord ([]++(ts++[sent t.length]).map tkS);rw [nil_append,map_append];refine ⟨fun a ha=>(mem_append.mp ha).elim (ho.1 a) fun z=>?_,pairwise_append.mpr ⟨ho.2,List.pairwise_singleton _ _,fun a ha b hb=>?_⟩⟩
  ·rw [mem_singleton.mp z]
   exact Nat.le_refl _
  obtain ⟨k,mk,rfl⟩:=mem_map.mp ha;rw [mem_singleton.mp hb];have:=(hk k mk).2;show k.halt_<=t.length;omega,fun _ z=>(not_mem_nil z).elim⟩ g rfl
 split at h
 ·cases h
 cases h;exact pl
mutual
theorem fH_ (d:Nat) : ∀ tr:Tr,stT tr=(bb_ d tr).map fun p=>(p.2.b,p.2.e)
 | .mk f ws b e ps=>congrArg ((b,e) :: ·) (gA_ (d+1) ps)
theorem gA_ (d:Nat) : ∀ ps:List Tr,stTL ps=(bT_ d ps).map fun p=>(p.2.b,p.2.e)
 | []=>rfl
 | t::r=>by
  show stT t++stTL r=(bb_ d t++bT_ d r).map _;rw [map_append,fH_ d t,gA_ d r]
end
end M
section
set_option maxHeartbeats 2000000
namespace L2
open PySem PySem.Spec PyProof.Rows
open PySem.W (WData Codec OpenSpec Well WellAll ReadsW ReadsAllW)
mutual
inductive Dw (K:Frag) (H:Hp):V->WData->Prop
 | non:Dw K H .non .none
 | bl (b:Bool):Dw K H (.bl b) (.bool b)
 | int (i:Int):Dw K H (.int i) (.int i)
 | str (x:Str):Dw K H (.str x) (.str x)
 | byt (b:Array UInt8):Dw K H (.byt b) (.bytes b.toList)
 | lst {a:Addr}{xs:List V}{ds:List WData}:SqL K H a xs->DwAll K H xs ds->Dw K H (.ref a) (.list ds)
 | tup {a:Addr}{xs:List V}{ds:List WData}:SqT K H a xs->DwAll K H xs ds->Dw K H (.ref a) (.tuple ds)
inductive DwAll (K:Frag) (H:Hp):List V->List WData->Prop
 | nil:DwAll K H [] []
 | cons {v:V}{vs:List V}{d:WData}{ds:List WData}:Dw K H v d->DwAll K H vs ds->DwAll K H (v::vs) (d::ds)
end
theorem lg_ {K:Frag}{H:Hp} : ∀ ns:List Int,DwAll K H (ns.map V.int) (ns.map WData.int)
 | [] => .nil
 | n::r => .cons (.int n) (lg_ r)
theorem k4_ {K:Frag}{H:Hp} : ∀ (ns:List Int) (xs:List V),DwAll K H xs (ns.map WData.int)->xs=ns.map V.int
 | [],xs,h=>by
  cases h;rfl
 | n::r,xs,h=>by
  cases h with
  | cons h1 h2 =>
  cases h1;rw [k4_ r _ h2] <;> rfl
section
variable {P:Program}{w:World}{K:Frag}{H:Hp}{h:Heap}{R:PySem.W.WRecords}{cl:Str->Option Addr}
theorem pd_ {a:Addr}{xs:List V} (hok:HOk P w H h) (KX:K.In h) (q:SqL K H a xs) : ∃ (zw:List Value) (o:Obj) (n:Nat),Vals xs zw/\h.get? a=some o/\o.cls = .type "list"/\o.data = .seq zw.toArray n:=by
 rcases q with q | ⟨o,zw,n,e,hc,_,hd,_,hv⟩
 ·refine x_01 ((show bd_ P w H h a (.lst xs) from q.ok hok)) fun _ zz0=>?_
  refine x_21 zz0 fun zw n hv e=>?_;exact ⟨zw,_,n,hv,e,rfl,rfl⟩
 exact ⟨zw.toList,o,n,hv,KX _ _ e,hc,by simp [hd]⟩
theorem pc_ {a:Addr}{xs:List V} (hok:HOk P w H h) (KX:K.In h) (q:SqT K H a xs) : ∃ (zw:List Value) (o:Obj) (n:Nat),Vals xs zw/\h.get? a=some o/\o.cls = .type "tuple"/\o.data = .seq zw.toArray n:=by
 rcases q with q | ⟨o,zw,n,e,hc,hd,_,hv⟩
 ·obtain ⟨_,zw,hv,o,e,hc,n,hd⟩:=(show bd_ P w H h a (.tup xs) from q.ok hok)
  exact ⟨zw,o,n,hv,e,hc,hd⟩
 exact ⟨zw.toList,o,n,hv,KX _ _ e,hc,by simp [hd]⟩
mutual
theorem Dw.reads (hok:HOk P w H h) (KX:K.In h) : ∀ (d:WData) (v:V) (u:Value),Dw K H v d->RelV v u->∃ as,ReadsW R cl h u d as
 | .none,_,_,x,r=>by
  cases x;cases r;exact ⟨_,ReadsW.none⟩
 | .bool b,_,_,x,r=>by
  cases x;cases r;exact ⟨_,ReadsW.bool b⟩
 | .int i,_,_,x,r=>by
  cases x;obtain ⟨t,rfl⟩:=r;exact ⟨_,ReadsW.int i t⟩
 | .str s,_,_,x,r=>by
  cases x;obtain ⟨t,rfl⟩:=r;exact ⟨_,ReadsW.str s t⟩
 | .bytes b,_,_,x,r=>by
  cases x;obtain ⟨t,rfl⟩:=r;exact ⟨_,ReadsW.bytes _ t⟩
 | .list ds,_,_,x,r=>by
  cases x with
  | lst hs ha =>
  cases r;obtain ⟨zw,o,n,rv,ho,hc,hd⟩:=pd_ hok KX hs;obtain ⟨as,hr⟩:=Dw.readsAll hok KX ds _ zw ha rv;exact ⟨_,ReadsW.list ho hc hd hr⟩
 | .tuple ds,_,_,x,r=>by
  cases x with
  | tup hs ha =>
  cases r;obtain ⟨zw,o,n,rv,ho,hc,hd⟩:=pc_ hok KX hs;obtain ⟨as,hr⟩:=Dw.readsAll hok KX ds _ zw ha rv;exact ⟨_,ReadsW.tuple ho hc hd hr⟩
 | .float _,_,_,x,_=>by cases x
 | .dict _,_,_,x,_=>by cases x
 | .bytearray _,_,_,x,_=>by cases x
 | .set _,_,_,x,_=>by cases x
 | .frozenset _,_,_,x,_=>by cases x
 | .obj _ _,_,_,x,_=>by cases x
theorem Dw.readsAll (hok:HOk P w H h) (KX:K.In h) : ∀ (ds:List WData) (vs:List V) (us:List Value),DwAll K H vs ds->Vals vs us->∃ as,ReadsAllW R cl h us ds as
 | [],_,_,x,r=>by
  cases x;cases r;exact ⟨_,ReadsAllW.nil⟩
 | d::ds,_,_,x,r=>by
  cases x with
  | cons h1 h2 =>
  cases r with
  | cons r1 r2 =>
  obtain ⟨as,q1⟩:=Dw.reads hok KX d _ _ h1 r1;obtain ⟨bs,q2⟩:=Dw.readsAll hok KX ds _ _ h2 r2;exact ⟨_,ReadsAllW.cons q1 q2⟩
end
end
mutual
def plW:WData->Bool
 | .none=>true
 | .bool _=>true
 | .int _=>true
 | .str _=>true
 | .bytes _=>true
 | .list xs=>plWs xs
 | .tuple xs=>plWs xs
 | _=>false
def plWs:List WData->Bool
 | []=>true
 | x::r=>plW x && plWs r
end
theorem iH_ {α:Type}{f:α->WData} (h : ∀ a,plW (f a)=true) : ∀ l:List α,plWs (l.map f)=true
 | []=>rfl
 | x::r=>by
  show (plW (f x) && plWs (r.map f))=true;rw [h x,iH_ h r] <;> rfl
theorem dO_ : ∀ (c:Codec) (a:c.denote),plW (c.enc a)=true
 | .unit,_=>rfl
 | .bool,_=>rfl
 | .int _ _,_=>rfl
 | .nat _ _,_=>rfl
 | .u8,_=>rfl
 | .bytes _ _,_=>rfl
 | .text _ _ _ _,_=>rfl
 | .list _ _ c,a=>iH_ (fun x=>dO_ c x) a
 | .pair c d,a=>by
  show (plW (c.enc a.1) && (plW (d.enc a.2) && true))=true;rw [dO_ c a.1,dO_ d a.2] <;> rfl
 | .triple c d e,a=>by
  show (plW (c.enc a.1) && (plW (d.enc a.2.1) && (plW (e.enc a.2.2) && true)))=true;rw [dO_ c a.1,dO_ d a.2.1,dO_ e a.2.2] <;> rfl
 | .option c,none=>rfl
 | .option c,some x=>dO_ c x
theorem gQ_ : ∀ (cs:List Codec) (a:Codec.denoteAll cs),plWs (Codec.encAll cs a)=true
 | [],_=>rfl
 | c::cs,a=>by
  show (plW (c.enc a.1) && plWs (Codec.encAll cs a.2))=true;rw [dO_ c a.1,gQ_ cs a.2] <;> rfl
theorem dv_ : ∀ {xs:List WData}{d:WData},d∈xs->d.weight<=WData.weightAll xs
 | [],d,h=>absurd h (by simp)
 | x::r,d,h=>by
  show d.weight<=x.weight+1+WData.weightAll r;rcases mem_cons.mp h with e | m
  ·rw [e]
   omega
  have z:=dv_ m;omega
noncomputable def toV:Value->V
 | .none => .non
 | .bool b => .bl b
 | .int i _ => .int i
 | .str x _ => .str x
 | .bytes b _ => .byt b
 | .ref a => .ref a
 | _ => .non
def OkU (A:List Addr):Value->Prop
 | .none=>True
 | .bool _=>True
 | .int _ _=>True
 | .str _ _=>True
 | .bytes _ _=>True
 | .ref a=>a∈A
 | _=>False
theorem OkU.mono {A B:List Addr} (h : ∀ a∈A,a∈B) : ∀ {u:Value},OkU A u->OkU B u:=fun {u} x=>by
 cases u with
 | ref a=>exact h a x
 | none=>trivial
 | bool b=>trivial
 | int i t=>trivial
 | str s t=>trivial
 | bytes b t=>trivial
 | _=>exact False.elim x
theorem lY_ {A:List Addr}{u:Value} (x:OkU A u):RelV (toV u) u:=by
 cases u with
 | ref a=>rfl
 | none=>rfl
 | bool b=>rfl
 | int i t=>exact ⟨t,rfl⟩
 | str s t=>exact ⟨t,rfl⟩
 | bytes b t=>exact ⟨t,rfl⟩
 | _=>exact False.elim x
theorem cz_ {A:List Addr} : ∀ {vs:List Value},(∀ u∈vs,OkU A u)->Vals (vs.map toV) vs
 | [],_ => .nil
 | u::r,h => .cons (lY_ (h u (mem_cons_self ..))) (cz_ fun x hx=>h x (mem_cons_of_mem _ hx))
def d4_ (h:Heap) (A:List Addr) (a:Addr):Prop:=∃ vs:List Value,vs.length<=sizeLine/\(∀ u∈vs,OkU A u) /\
 (h.get? a=some { cls := .type "list",data := .seq vs.toArray }\/h.get? a=some { cls := .type "tuple",data := .seq vs.toArray })
theorem d4_.mono {h:Heap}{A B:List Addr}{a:Addr} (k : ∀ a∈A,a∈B) (x:d4_ h A a):d4_ h B a:=by
 obtain ⟨vs,h1,h2,h3⟩:=x;exact ⟨vs,h1,fun u hu=>(h2 u hu).mono k,h3⟩
theorem cc_ {P:Params}{h:Heap} : ∀ {vs:List Value}{ds:List WData},WellAll P h vs ds->vs.length=ds.length
 | _,_,.nil=>rfl
 | _,_,.cons _ b=>by
  show _+1=_+1;rw [cc_ b]
theorem gs_ {P:Params}{h:Heap}{v:Value}{ds:List WData} (x:Well P h v (.list ds)) : ∃ (a:Addr) (vs:List Value),v = .ref a/\h.get? a=some { cls := .type "list",data := .seq vs.toArray }/\WellAll P h vs ds:=by
 cases x with
 | list ho hall=>exact ⟨_,_,rfl,ho,hall⟩
theorem e6_ {P:Params}{h:Heap}{v:Value}{ds:List WData} (x:Well P h v (.tuple ds)) : ∃ (a:Addr) (vs:List Value),v = .ref a/\h.get? a=some { cls := .type "tuple",data := .seq vs.toArray }/\WellAll P h vs ds:=by
 cases x with
 | tuple ho hall=>exact ⟨_,_,rfl,ho,hall⟩
theorem gt_ {P:Params}{h:Heap}{us:List Value}{d:WData}{ds:List WData} (x:WellAll P h us (d::ds)) : ∃ (v:Value) (vs:List Value),us=v::vs/\Well P h v d/\WellAll P h vs ds:=by
 cases x with
 | cons a b=>exact ⟨_,_,rfl,a,b⟩
theorem kX_ {n:Nat} (h:n<=1048576):n<=sizeLine:=Nat.le_trans h (by decide)
section
variable {P:Params}{h:Heap}
mutual
theorem mN_ : ∀ (d:WData) (v:Value),Well P h v d->plW d=true->d.weight<=1048576->∃ A:List Addr,OkU A v/\∀ a∈A,d4_ h A a
 | .none,_,x,_,_=>by
  cases x;exact ⟨[],trivial,fun a m=>absurd m (by simp)⟩
 | .bool b,_,x,_,_=>by
  cases x;exact ⟨[],trivial,fun a m=>absurd m (by simp)⟩
 | .int i,_,x,_,_=>by
  cases x;exact ⟨[],trivial,fun a m=>absurd m (by simp)⟩
 | .str s,_,x,_,_=>by
  cases x;exact ⟨[],trivial,fun a m=>absurd m (by simp)⟩
 | .bytes b,_,x,_,_=>by
  cases x;exact ⟨[],trivial,fun a m=>absurd m (by simp)⟩
 | .list ds,_,x,p,z=>by
  refine x_22 (gs_ x) fun a vs zr2 ho hall=>?_;subst zr2;have z2:WData.weightAll ds<=1048576:=z;obtain ⟨A,h1,h2⟩:=eh_ ds _ hall p fun d hd=>Nat.le_trans (dv_ hd) z2;have k : ∀ b∈A,b∈a::A:=fun b hb=>mem_cons_of_mem _ hb;refine ⟨a::A,mem_cons_self ..,fun b hb=>?_⟩;rcases mem_cons.mp hb with e | m
  ·rw [e]
   exact ⟨vs,kX_ (by rw [cc_ hall];exact Nat.le_trans (PySem.W.length_le_weightAllW ds) z2),fun u hu=>(h1 u hu).mono k,.inl ho⟩
  exact (h2 b m).mono k
 | .tuple ds,_,x,p,z=>by
  refine x_22 (e6_ x) fun a vs zr2 ho hall=>?_;subst zr2;have z2:WData.weightAll ds<=1048576:=z;obtain ⟨A,h1,h2⟩:=eh_ ds _ hall p fun d hd=>Nat.le_trans (dv_ hd) z2;have k : ∀ b∈A,b∈a::A:=fun b hb=>mem_cons_of_mem _ hb;refine ⟨a::A,mem_cons_self ..,fun b hb=>?_⟩;rcases mem_cons.mp hb with e | m
  ·rw [e]
   exact ⟨vs,kX_ (by rw [cc_ hall];exact Nat.le_trans (PySem.W.length_le_weightAllW ds) z2),fun u hu=>(h1 u hu).mono k,.inr ho⟩
  exact (h2 b m).mono k
 | .float _,_,_,p,_=>Bool.noConfusion (show false=true from p)
 | .dict _,_,_,p,_=>Bool.noConfusion (show false=true from p)
 | .bytearray _,_,_,p,_=>Bool.noConfusion (show false=true from p)
 | .set _,_,_,p,_=>Bool.noConfusion (show false=true from p)
 | .frozenset _,_,_,p,_=>Bool.noConfusion (show false=true from p)
 | .obj _ _,_,_,p,_=>Bool.noConfusion (show false=true from p)
theorem eh_ : ∀ (ds:List WData) (vs:List Value),WellAll P h vs ds->plWs ds=true->(∀ d∈ds,d.weight<=1048576)->∃ A:List Addr,(∀ u∈vs,OkU A u)/\∀ a∈A,d4_ h A a
 | [],_,x,_,_=>by
  cases x;exact ⟨[],fun u m=>absurd m (by simp),fun a m=>absurd m (by simp)⟩
 | d::ds,_,x,p,z=>by
  refine x_22 (gt_ x) fun v vs zr2 x1 x2=>?_;subst zr2;have q:plW d=true/\plWs ds=true:=Bool.and_eq_true_iff.mp p;obtain ⟨A,a1,a2⟩:=mN_ d v x1 q.1 (z d (mem_cons_self ..));obtain ⟨B,b1,b2⟩:=eh_ ds vs x2 q.2 fun e he=>z e (mem_cons_of_mem _ he);have kA : ∀ b∈A,b∈A++B:=fun b hb=>mem_append.mpr (.inl hb);have kB : ∀ b∈B,b∈A++B:=fun b hb=>mem_append.mpr (.inr hb);refine ⟨A++B,fun u hu=>?_,fun b hb=>?_⟩
  ·rcases mem_cons.mp hu with e | m
   ·rw [e]
    exact a1.mono kA
   exact (b1 u m).mono kB
  rcases mem_append.mp hb with m | m
  ·exact (a2 b m).mono kA
  exact (b2 b m).mono kB
end
end
noncomputable def hoOf (o:Obj):Option HO:=match o.data with
 | .seq vs _=>if (o.cls == Value.type "list")=true then some (.frz o (.lst (vs.toList.map toV))) else some (.frz o (.tup (vs.toList.map toV)))
 | _=>none
noncomputable def argH (K:Frag) (h:Heap) (A:List Addr):Hp:=fun b=>if b∈A then (if (K.lookup b).isNone=true then (h.get? b).bind hoOf else none) else none
def qe_ (H:Hp):Prop:=∀ b,H b=none\/∃ o u,H b=some (.frz o u)
theorem i2_ (vs:List Value):hoOf { cls := .type "list",data := .seq vs.toArray }=some (.frz { cls := .type "list",data := .seq vs.toArray } (.lst (vs.map toV))):=by
 show (if (Value.type "list" == Value.type "list")=true then some (HO.frz { cls := .type "list",data := .seq vs.toArray } (.lst (vs.toArray.toList.map toV))) else some (HO.frz { cls := .type "list",data := .seq vs.toArray } (.tup (vs.toArray.toList.map toV))))=_;rw [if_pos (beq_self_eq_true _)]
theorem i1_ (vs:List Value):hoOf { cls := .type "tuple",data := .seq vs.toArray }=some (.frz { cls := .type "tuple",data := .seq vs.toArray } (.tup (vs.map toV))):=by
 show (if (Value.type "tuple" == Value.type "list")=true then some (HO.frz { cls := .type "tuple",data := .seq vs.toArray } (.lst (vs.toArray.toList.map toV))) else some (HO.frz { cls := .type "tuple",data := .seq vs.toArray } (.tup (vs.toArray.toList.map toV))))=_;rw [if_neg (by decide)]
section
variable {P:Program}{w:World}{K:Frag}{h:Heap}{A:List Addr}
theorem gm_ {b:Addr}{o:Obj} (hb:b∈A) (hk:K.lookup b=none) (e:h.get? b=some o):argH K h A b=hoOf o:=by
 unfold argH;rw [if_pos hb,hk,if_pos (show (none:Option Obj).isNone=true from rfl),e] <;> rfl
theorem ol_ {b:Addr}{u:HO} (q:argH K h A b=some u):b∈A/\K.lookup b=none:=by
 unfold argH at q;by_cases hb:b∈A
 ·rw [if_pos hb] at q
  cases hk:K.lookup b with
  | none=>exact ⟨hb,rfl⟩
  | some o =>
  rw [hk,if_neg (by simp)] at q;cases q
 rw [if_neg hb] at q;cases q
theorem gl_ (ar : ∀ a∈A,d4_ h A a) {b:Addr}{u:HO} (q:argH K h A b=some u):K.lookup b=none/\∃ vs:List Value,vs.length<=sizeLine/\(∀ u∈vs,OkU A u) /\
  ((h.get? b=some { cls := .type "list",data := .seq vs.toArray }/\u = .frz { cls := .type "list",data := .seq vs.toArray } (.lst (vs.map toV))) \/
   (h.get? b=some { cls := .type "tuple",data := .seq vs.toArray }/\u = .frz { cls := .type "tuple",data := .seq vs.toArray } (.tup (vs.map toV)))):=by
 obtain ⟨hb,hk⟩:=ol_ q;refine x_12 (ar b hb) fun vs h1 h2 h3=>?_;refine ⟨hk,vs,h1,h2,?_⟩;rcases h3 with e | e
 ·rw [gm_ hb hk e,i2_] at q
  exact .inl ⟨e,(Option.some.inj q).symm⟩
 rw [gm_ hb hk e,i1_] at q;exact .inr ⟨e,(Option.some.inj q).symm⟩
theorem lB_ (ar : ∀ a∈A,d4_ h A a):qe_ (argH K h A):=fun b=>by
 cases q:argH K h A b with
 | none=>exact .inl rfl
 | some u =>
 refine x_01 (gl_ ar q) fun _ zz0=>?_;refine x_12 zz0 fun vs _ _ zn4=>?_;obtain ⟨_,e⟩ | ⟨_,e⟩:=zn4
 ·exact .inr ⟨_,_,by rw [e]⟩
 exact .inr ⟨_,_,by rw [e]⟩
theorem oX_ (ar : ∀ a∈A,d4_ h A a):HOk P w (argH K h A) h:=fun b u q=>by
 obtain ⟨_,vs,h1,h2,⟨e,rfl⟩ | ⟨e,rfl⟩⟩:=gl_ ar q
 ·exact ⟨e,by rw [length_map];exact h1,vs,_,cz_ h2,e⟩
 exact ⟨e,by rw [length_map];exact h1,vs,cz_ h2,_,e,rfl,_,rfl⟩
theorem fM_ {c c':Value}{vs us:List Value} (e:(some { cls:=c,data := .seq vs.toArray }:Option Obj)=some { cls:=c',data := .seq us.toArray }):c=c'/\vs=us:=by
 have e1:=Option.some.inj e;have e2:c=c':=congrArg Obj.cls e1;have e3:Data.seq vs.toArray=Data.seq us.toArray:=congrArg Obj.data e1;injection e3 with e4;refine ⟨e2,?_⟩;have e5:=congrArg Array.toList e4;simpa using e5
theorem argL (KX:K.In h) (ar : ∀ a∈A,d4_ h A a) {a:Addr}{vs:List Value} (ha:a∈A) (e:h.get? a=some { cls := .type "list",data := .seq vs.toArray }):(∀ u∈vs,OkU A u)/\SqL K (argH K h A) a (vs.map toV):=by
 refine x_12 (ar a ha) fun us h1 h2 h3=>?_;have hu:us=vs:=by
  rcases h3 with q | q
  ·rw [e] at q
   exact (fM_ q).2.symm
  rw [e] at q;exact absurd (Value.type.inj (fM_ q).1) (by decide)
 subst hu;refine ⟨h2,?_⟩;cases hk:K.lookup a with
 | none=>exact .inl (.inr ⟨_,by rw [gm_ ha hk e,i2_]⟩)
 | some o =>
 have e2:=KX a o hk;rw [e] at e2;obtain rfl:=Option.some.inj e2;exact .inr ⟨_,us.toArray,_,hk,rfl,rfl,rfl,by rw [size_toArray];exact h1,by simpa using cz_ h2⟩
theorem argT (KX:K.In h) (ar : ∀ a∈A,d4_ h A a) {a:Addr}{vs:List Value} (ha:a∈A) (e:h.get? a=some { cls := .type "tuple",data := .seq vs.toArray }):(∀ u∈vs,OkU A u)/\SqT K (argH K h A) a (vs.map toV):=by
 refine x_12 (ar a ha) fun us h1 h2 h3=>?_;have hu:us=vs:=by
  rcases h3 with q | q
  ·rw [e] at q
   exact absurd (Value.type.inj (fM_ q).1) (by decide)
  rw [e] at q;exact (fM_ q).2.symm
 subst hu;refine ⟨h2,?_⟩;cases hk:K.lookup a with
 | none=>exact .inl (.inr ⟨_,by rw [gm_ ha hk e,i1_]⟩)
 | some o =>
 have e2:=KX a o hk;rw [e] at e2;obtain rfl:=Option.some.inj e2;exact .inr ⟨_,us.toArray,_,hk,rfl,rfl,by rw [size_toArray];exact h1,by simpa using cz_ h2⟩
mutual
theorem p3_ {Pm:Params} (KX:K.In h) (ar : ∀ a∈A,d4_ h A a) : ∀ (d:WData) (v:Value),Well Pm h v d->plW d=true->OkU A v->Dw K (argH K h A) (toV v) d
 | .none,_,x,_,_=>by
  cases x;exact .non
 | .bool b,_,x,_,_=>by
  cases x;exact .bl b
 | .int i,_,x,_,_=>by
  cases x;exact .int i
 | .str s,_,x,_,_=>by
  cases x;exact .str s
 | .bytes b,_,x,_,_=>by
  cases x;have z:=Dw.byt (K:=K) (H:=argH K h A) b.toArray;exact z
 | .list ds,_,x,p,hu=>by
  obtain ⟨a,vs,rfl,ho,hall⟩:=gs_ x;obtain ⟨h2,hs⟩:=argL KX ar hu ho;exact .lst hs (i9_ KX ar ds _ hall p h2)
 | .tuple ds,_,x,p,hu=>by
  obtain ⟨a,vs,rfl,ho,hall⟩:=e6_ x;obtain ⟨h2,hs⟩:=argT KX ar hu ho;exact .tup hs (i9_ KX ar ds _ hall p h2)
 | .float _,_,_,p,_=>Bool.noConfusion (show false=true from p)
 | .dict _,_,_,p,_=>Bool.noConfusion (show false=true from p)
 | .bytearray _,_,_,p,_=>Bool.noConfusion (show false=true from p)
 | .set _,_,_,p,_=>Bool.noConfusion (show false=true from p)
 | .frozenset _,_,_,p,_=>Bool.noConfusion (show false=true from p)
 | .obj _ _,_,_,p,_=>Bool.noConfusion (show false=true from p)
theorem i9_ {Pm:Params} (KX:K.In h) (ar : ∀ a∈A,d4_ h A a) : ∀ (ds:List WData) (vs:List Value),WellAll Pm h vs ds->plWs ds=true->(∀ u∈vs,OkU A u)->DwAll K (argH K h A) (vs.map toV) ds
 | [],_,x,_,_=>by
  cases x;exact .nil
 | d::ds,_,x,p,hu=>by
  obtain ⟨v,vs,rfl,x1,x2⟩:=gt_ x;have q:plW d=true/\plWs ds=true:=Bool.and_eq_true_iff.mp p;exact .cons (p3_ KX ar d v x1 q.1 (hu _ (mem_cons_self ..))) (i9_ KX ar ds vs x2 q.2 fun u m=>hu u (mem_cons_of_mem _ m))
end
end
theorem e1_ {ds:List WData} (h:WData.layableAll ds=true) : ∀ d∈ds,d.weight<=1048576:=fun d hd =>
 (PySem.W.layableW_iff.mp (all_eq_true.mp h d hd)).2.2
theorem fz_ : ∀ (cs:List Codec) (a:Codec.denoteAll cs),(Codec.encAll cs a).length=cs.length
 | [],_=>rfl
 | c::cs,a=>by
  show (Codec.encAll cs a.2).length+1=cs.length+1;rw [fz_ cs a.2]
end L2
end
set_option maxHeartbeats 2000000
namespace L2
open PySem PySem.Spec PyProof.Rows
open PySem.W (kla_obj kla_fn envX tabObj CodeHd)
structure Clo (base:Heap) (f:Addr) (qual:Str) (lp:Arguments) (lb:Expr) (ls:Scope) (x:Str) (v:V):Prop where
 ex : ∃ (c c':Addr) (pm ct u:Value),base.get? f=some (kla_obj "<lambda>" qual lp lb ls [(x,c)] pm c' ct)/\base.CodeRec (.ref c') qual/\base.IsCell c (some u)/\RelV v u
noncomputable def cxL (P:Program) (w:World) (K:Frag) (mg:zM) (base:Heap) (N:List Str) (qual:Str) (ls:Scope) (f:Addr) (cd:Value) (cl:List (Str×Addr)) (A:Around) (outer:List Env) (s:Shared) (H:Hp):Cx where
 prog:=P
 w:=w
 K:=K
 mg:=mg
 base:=base
 A:=A.deeper (envX qual ls s.heap.objs.size f cd cl)
 N:=N
 s_0:=s
 H_0:=H
 env:=envX qual ls s.heap.objs.size f cd cl
 outer:=outer
 stack:=envX qual ls s.heap.objs.size f cd cl::outer
 ex:=[]
 calm:=true
 fn:=fun _=>false
 pn:=[]
 xe:=fun _ _=>False
structure LScope (N ps:List Str) (x:Str) (ls:Scope):Prop where
 kind:ls.kind = .function
 co:ls.isCoroutine=false
 gen:ls.isGenerator=false
 nocell : ∀ y∈ls.names,y.2 ≠ .cell
 par : ∀ y∈ps,ls.names.lookup y=some .local
 free : ∀ y,ls.names.lookup y=some .free->y=x
 keeps:ls.names.lookup x=some .free
 eq:N=ps++[x]
 get : ∀ us:List Value,us.length=ps.length->∀ (i:Nat) (y:Str) (u:Value),ps[i]? = some y->us[i]? = some u->(ps.zip us).reverse.lookup y=some u
theorem pZ_ {P:Program}{w:World}{K:Frag}{mg:zM}{base:Heap}{f:Addr}{qual:Str}{lp:Arguments}{lb:Expr}{ls:Scope}{x:Str}{v:V}{N ps:List Str}{k:Nat}{sp:Sp} (C:Clo base f qual lp lb ls x v) (S:LScope N ps x ls)
  (hb : ∀ (cl:List (Str×Addr)) (pm cdv ct:Value) (us:List Value),us.length=ps.length->bindArgs (kla_fn "<lambda>" qual lp lb ls cl pm cdv ct) ⟨us,[]⟩=pure (ps.zip us)) (len : ∀ vs H Q E,sp vs H Q E->vs.length=ps.length)
  (hbody : ∀ (cd:Value) (cl:List (Str×Addr)) (A:Around) (outer:List Env) (s:Shared) (H:Hp) (vs:List V) (Q:VK) (E:XK),Room k (A.deeper (envX qual ls s.heap.objs.size f cd cl))->sp vs H Q E ->
   ∃ t,PE (cxL P w K mg base N qual ls f cd cl A outer s H) lb t/\t ((vs++[v]).map some) H Q) :
  ∃ fd,FnOk P w K mg base CX0 (k+1) f fd ps sp/\aY_ K fd ps []/\∃ oc od sl,base.get? f=some ⟨oc,od,.func fd,sl⟩:=by
 refine x_50 C.ex fun c c' pm ct u zy=>x_03 zy fun hf hcd hc rv=>?_;refine ⟨_,⟨len,fun A outer s H args us vs Q E hr e0 hbt r hsp=>?_⟩,aY_.all fun us hl=>hb _ _ _ _ us hl,_,_,_,hf⟩;have hl:=len _ _ _ _ hsp;have lim:s.heap.NoLimit:=e0.mod.nolimit.keeps fun b o e=>(e0.bs b o e).1;have kb : ∀ b o,base.get? b=some o->s.heap.get? b=some o:=fun b o e=>(e0.bs b o e).1;refine PySem.W.kla_callFunE hr.depth (kb _ _ hf) rfl S.co S.gen rfl (hcd.keeps kb) (hbt _ _ _ _ ?_);refine wpAny_newFunctionEnv S.nocell (fun y hy=>S.par _ (of_mem_zip hy).1) (fun h1 hns hsb=>?_) S.kind;have hk1 : ∀ b o,s.heap.get? b=some o->h1.get? b=some o:=fun b o e=>hsb.extBut b o (Nat.ne_of_lt (lt_size e)) (get?_push_of_some _ e);refine ⟨lim.keeps hk1,?_⟩;show codeAny _ _ (.expr lb (envX qual ls s.heap.objs.size f (.ref c') [(x,c)])) _ _;obtain ⟨t,ht,hq⟩:=hbody (.ref c') [(x,c)] A outer s H vs Q E (hr.deeper _) hsp;have noA : ∀ b:Addr,b∉(cxL P w K mg base N qual ls f (.ref c') [(x,c)] A outer s H).ex:=fun b z=>absurd (show b∈([]:List Addr) from z) (by simp);have one : ∀ {y:Str}{d:Addr},List.lookup y [(x,c)]=some d->y=x/\d=c:=fun {y d} h=>by
  unfold List.lookup at h;split at h
  ·rename_i q
   exact ⟨eq_of_beq q,(Option.some.inj h).symm⟩
  cases h
 have self:List.lookup x [(x,c)]=some c:=by unfold List.lookup;rw [beq_self_eq_true]
 have hfr:=e0.bs;have icell : ∃ o,base.get? c=some o:=by
  obtain ⟨o,e,_⟩:=hc;exact ⟨o,e⟩
 have I:Inv (cxL P w K mg base N qual ls f (.ref c') [(x,c)] A outer s H) [] ((vs++[v]).map some) H { s with heap:=h1,toks:=s.toks+(ps.zip us).length }:=by
  refine ⟨⟨e0.mod,S.kind,rfl,rfl,Nat.le_refl _,fun y z d h1 h2=>(one h1).1.trans (one h2).1.symm,fun y hy=>?_,fun y d h=>(Bool.noConfusion (show false=true from h)),fun _=>hr.hd,Around.frames_deeper e0.frames,.inr ⟨rfl,rfl⟩,fun b z=>absurd z (noA b),e0.bs,e0.bsz,fun b _ _=>noA b,fun b z=>absurd z (noA b),e0.funs,e0.frf⟩,
   rfl,e0.bare,Un.kept hk1,⟨_,hns,fun i y v' h1 h2 h3=>?_⟩,fun y d h=>?_,e0.hok.fresh (Nat.le_refl _),fun y d h=>?_,fun p hp=>absurd (show p∈([]:zP) from hp) (by simp),e0.hok.kept hk1,?_⟩
  ·rcases hy with hy | hy
   ·exact absurd rfl (S.nocell _ (PySem.mem_of_lookup (show ls.names.lookup y=some .cell from hy)))
   rw [S.free y hy];exact ⟨c,self⟩
  ·have e1:N[i]? = some y:=h1
   rw [S.eq] at e1;rw [getElem?_map] at h2;by_cases hi:i<ps.length
   ·rw [List.getElem?_append_left hi] at e1
    rw [List.getElem?_append_left (by rw [hl];exact hi)] at h2;cases q:vs[i]? with
    | none=>rw [q] at h2;cases h2
    | some a =>
    rw [q] at h2;cases h2;obtain ⟨u',hu,ru⟩:=r.get q;exact ⟨u',ru,.inl ⟨S.par _ (mem_of_getElem? e1),S.get us (by rw [<- r.length];exact hl) i y u' e1 hu⟩⟩
   have ei:i=ps.length:=by
    have:=(List.getElem?_eq_some_iff.mp e1).1;rw [length_append] at this;simp at this;omega
   subst ei;rw [getElem?_append_right (Nat.le_refl _),Nat.sub_self] at e1;rw [getElem?_append_right (by rw [hl];exact Nat.le_refl _),hl,Nat.sub_self] at h2;cases e1;cases h2;exact ⟨u,rv,.inr ⟨.inr S.keeps,c,self,(hc.keeps kb).keeps hk1⟩⟩
  ·obtain ⟨_,rfl⟩:=one h
   exact ⟨_,(hc.keeps kb).keeps hk1⟩
  ·obtain ⟨_,rfl⟩:=one h
   obtain ⟨o,e⟩:=icell;exact (e0.bs _ _ e).2
  show _=N.length;rw [S.eq,length_map,length_append,length_append,hl];rfl
 refine PySem.W.kla_codeExpr (wpAny_mono (ht [] _ _ H _ I hq) (fun u' s' hs=>?_) fun e s' hs=>False.elim hs);obtain ⟨v',H',J,rv',q⟩:=hs;exact ⟨v',H',J.os,J.bare,J.base,J.hok,rv',q⟩
section
variable {X:Cx}{zz:zP}{σ:St}{H:Hp}{s:Shared}
def fe_ (X:Cx) (H:Hp) (h:Heap):Heap:=PySem.W.hideAll (hidT h H) (frs X.stack)
theorem ks_ {h:Heap}{b:Addr}{o:Obj} (e:h.get? b=some o) (n:H b=none) (q:b∉frs X.stack):(fe_ X H h).get? b=some o:=PySem.W.hideAll_get _ (i3_ e n) q
theorem qn_ {h:Heap}{b:Addr}{o:Obj} (e:(fe_ X H h).get? b=some o):h.get? b=some o/\H b=none:=kK_ (PySem.W.of_hideAll _ e)
theorem i6_ {h base base':Heap} : ∀ {l:List Env},h.FunFrames base l->(∀ b∈frs l,base'.get? b=none)->h.FunFrames base' l
 | [],_,_=>trivial
 | env::l,⟨k,⟨L,o,hf,hn,ho,hd⟩,r⟩,q=>⟨k,⟨L,o,hf,q L (by unfold frs;rw [filterMap_cons,hf];exact mem_cons_self ..),ho,hd⟩,i6_ r fun b hb=>q b (by
   unfold frs at hb ⊢;rw [filterMap_cons,hf];exact mem_cons_of_mem _ hb)⟩
theorem Inv.old (I:Inv X zz σ H s) : ∀ b o,X.base.get? b=some o->(fe_ X H s.heap).get? b=some o:=fun b o e =>
 ks_ (I.bs b o e).1 (I.bs b o e).2 fun hb=>by
  have:=(I.stack.mem hb).1;rw [e] at this;cases this
theorem Mod.keeps {K:Frag}{mg:zM}{b b':Heap} (m:Mod K mg b) (k : ∀ a o,b.get? a=some o->b'.get? a=some o):Mod K mg b' :=
 ⟨m.kin.keeps k,m.glob.keeps k,let ⟨mb,h1,h2⟩:=m.blt;⟨mb,h1.keeps k,h2⟩,m.nolimit.keeps k⟩
theorem Inv.re (I:Inv X zz σ H s):Env0 X.prog X.w X.K X.mg (fe_ X H s.heap) X.A X.stack s H :=
 ⟨I.ok.frames,I.ok.mod.keeps I.old,fun b o e=>qn_ e,Nat.le_of_eq ((PySem.W.hideAll_size _ _).trans (hi_ _ _)),i6_ I.stack fun b hb=>PySem.W.hideAll_none _ hb,I.stkFree,I.hok,I.bare⟩
end
def m1_ (X:Cx) (sp:Heap->Sp) (Pt:Addr) (i:Nat) (lp:Arguments) (lb:Expr) (ls:Scope) (y:Str) (E:XK) (t1 t2:TE):TE:=fun σ H Q=>t1 σ H fun v1 H1=>t2 σ H1 fun v2 H2=>H2 Pt=some (.tbl #[])/\∃ v,σ[i]? = some (some v) /\
 ∀ base f ps,Mod X.K X.mg base->Clo base f (X.env.qual++"<lambda>") lp lb ls y v->sp base [v1,v2,.ref f] (upd H2 Pt (.tbl ps)) Q E
theorem l9_ {X:Cx}{CX:CXT}{k:Nat}{g:Addr}{fd:FuncData}{gs:List Str}{sp:Heap->Sp}{E:XK}{x y:Str}{p pos lpos:Pos}{e1 e2 lb:Expr}{t1 t2:TE}{lp:Arguments}{ls:Scope}{c cc Pt:Addr}{i:Nat}
  (F : ∀ base,Mod X.K X.mg base->FnOk X.prog X.w X.K X.mg base CX k g fd gs (sp base)) (hr:Room k X.A) (hg:Gl X x) (hm:X.mg x=some (.ref g)) (hk:keepIn X.K (.ref g)=true) (hb:aY_ X.K fd gs []) (hx:bF_ CX X E)
  (h1:PE X e1 t1) (h2:PE X e2 t2) (hcode:X.env.code = .ref cc) (hC:CodeHd X.base cc Pt) (hbm:X.base.BuiltinsAt X.mg Pt) (hfn:X.fn y=true)
  (hyc:X.env.cells.lookup y=some c) (hcl:closureFor ls X.env=pure [(y,c)]) (hky:X.env.kindOf y=some .cell:=by rfl) (hN:X.N[i]? = some y:=by rfl) (hd0:defaultsOf lp X.env=([],[]):=by rfl)
  (hdb:(x == ("__debug__":Str))=false:=by decide)
  (hst:starEach [e1,e2,.Lambda lp lb ls lpos] X.env=[(false,eval e1 X.env),(false,eval e2 X.env),(false,eval (.Lambda lp lb ls lpos) X.env)]:=by rfl) (hs2:starEach [e2,.Lambda lp lb ls lpos] X.env=[(false,eval e2 X.env),(false,eval (.Lambda lp lb ls lpos) X.env)]:=by rfl)
  (hpl:(backTo pos (starEach [e2,.Lambda lp lb ls lpos] X.env)).any (·.1)=false:=by rfl) :
  PE X (.Call (.Name x p) [e1,e2,.Lambda lp lb ls lpos] [] pos) (m1_ X sp Pt i lp lb ls y E t1 t2):=by
 intro zz s σ H Q I h;refine wpAny_Call_Name_kw (c0_ I hg hm ?_ hdb);refine callWith_K (h₀:=X.base) I.ok.mod.kin hk ?_ (by rw [hst,hs2]) hpl;rw [hst];show wpAny _ _ (spliced ((false,eval e1 X.env)::_)) _ _ s;refine Calls.spliced_cons (thn (h1 zz s σ H _ I h) fun u1 s1 zq=>?_);refine x_22 zq fun v1 H1 I1 r1 q1=>?_;show wpAny _ _ (spliced ((false,eval e2 X.env)::_)) _ _ s1;refine Calls.spliced_cons (thn (h2 zz s1 σ H1 _ I1 q1) fun u2 s2 zq=>?_);refine x_23 zq fun v2 H2 I2 r2 hP zz0=>?_;refine x_11 zz0 fun v hv q2=>?_;have gP:s2.heap.get? Pt=some (tabObj #[]):=I2.hok Pt _ hP;have nG:mainGlobals≠Pt:=fun z=>by
  obtain ⟨o,es,ep,e,hd,_⟩:=I2.mod.glob.keeps I2.bk;rw [z,gP] at e;cases e;cases hd
 have nL:X.env.locals≠Pt:=ai_ hP I2.free |>.symm;show wpAny _ _ (spliced ((false,eval (.Lambda lp lb ls lpos) X.env)::_)) _ _ s2;refine Calls.spliced_cons (PySem.W.kla_eval hd0 (PySem.W.kla_makeFunction hcl I2.ok.glob (I2.mod.glob.keeps I2.bk) hcode (hC.keeps I2.bk) gP trivial rfl nG (by
  obtain ⟨bm,ob,b1,b2,b3,b4,b5,b6⟩:=hbm;exact ⟨bm,ob,b1,b2,b3,b4,I2.bk _ _ b5,b6⟩) fun c' ctv h' tk hxb hge hlt hrec htb=>?_))
 have htb:h'.get? Pt=some (tabObj (#[] ++ #[rawInt lpos.line,rawInt lpos.col,.ref c'])):=htb;generalize (#[] ++ #[rawInt lpos.line,rawInt lpos.col,Value.ref c'])=ps at htb;have ltP:Pt<h'.objs.size:=lt_size htb;have hsz:s2.heap.objs.size<=h'.objs.size:=Nat.le_trans hge (Nat.le_of_lt hlt);have nP : ∀ {b:Addr},H2 b=none->b≠Pt:=fun {b} e z=>by rw [z,hP] at e;cases e
 have keep : ∀ {b:Addr}{o:Obj}{fo:Obj},b≠Pt->s2.heap.get? b=some o->(h'.push fo).get? b=some o:=fun {b o fo} n e=>get?_push_of_some _ (hxb b o n e);generalize hfo:kla_obj "<lambda>" (X.env.qual++"<lambda>") lp lb ls [(y,c)] ((X.mg "__name__").getD .none) c' ctv=fo;have I3:Inv X zz σ (upd H2 Pt (.tbl ps)) { s2 with heap:=h'.push fo,toks:=tk }:=by
  refine I2.step (g':=s2.gens) (d':=s2.drawn) (t':=tk) (ch:=[]) (fun _ z=>nomatch z) (fun b o _ _ _ e n=>keep (nP n) e) (fun b o _ _ _ e n=>⟨o.slots,keep (nP n) e⟩) (fun b o _ e n=>by rw [ag_ (nP n)];exact n) (fun b o _ e=>?_)
   (fun b xs e=>?_) (fun b o u e=>?_) (fun b qs e=>?_) (fun m hn=>(hn.extBut hxb nL).push _) (fun a o e=>?_) I2.bare
  ·by_cases z:b=Pt
   ·subst z
    exact ⟨_,get?_push_of_some _ htb⟩
   exact ⟨_,keep z e⟩
  ·rw [ag_ (fun z=>by rw [z,hP] at e;cases e)];exact e
  ·rw [ag_ (fun z=>by rw [z,hP] at e;cases e)];exact e
  ·by_cases z:b=Pt
   ·subst z
    rw [hP] at e;cases e;exact ⟨ps,by rw [af_];simp⟩
   exact ⟨#[],by rw [ag_ z,e];simp⟩
  by_cases z:a=Pt
  ·subst z
   rw [af_] at e;cases e;exact get?_push_of_some _ htb
  rw [ag_ z] at e;refine (I2.hok a o e).stay (fun b u hc q=>keep (fun zb=>?_) q) (fun b q=>by rw [ag_ (fun zb=>by rw [zb,hP] at q;cases q)];exact q) fun b xs q=>by rw [ag_ (fun zb=>by rw [zb,hP] at q;cases q)];exact q
  rcases hc with hc | hc
  ·exact z (hc.symm.trans zb)
  rw [zb,hP] at hc;cases hc
 refine Calls.spliced_nil ⟨I3.kIn,?_⟩;have nfr : ∀ {b:Addr},s2.heap.objs.size<=b->b∉frs X.stack:=fun {b} hs hb=>by
  obtain ⟨_,o,ho,_⟩:=I2.stack.mem hb;exact absurd (Nat.lt_of_lt_of_le (lt_size ho) hs) (Nat.lt_irrefl _)
 have new : ∀ {b:Addr}{o:Obj},s2.heap.objs.size<=b->(h'.push fo).get? b=some o->(fe_ X (upd H2 Pt (.tbl ps)) (h'.push fo)).get? b=some o:=fun {b o} hs e=>by
  have hn:H2 b=none:=I2.hok.fresh hs;exact ks_ e (by rw [ag_ (nP hn)];exact hn) (nfr hs)
 have C:Clo (fe_ X (upd H2 Pt (.tbl ps)) (h'.push fo)) h'.objs.size (X.env.qual++"<lambda>") lp lb ls y v:=by
  obtain ⟨m,hns,loc⟩:=I3.loc;obtain ⟨u,ru,lk⟩:=loc i y v hN hv (.inr (.inl hky));rcases lk with ⟨z,_⟩ | ⟨_,c2,e2,hc⟩
  ·rw [hky] at z;cases z
  rw [hyc] at e2;cases e2;refine ⟨c,c',_,_,u,new hsz (by rw [hfo];exact get?_push_size _ (by rw [<- hfo];rfl)),?_,?_,ru⟩
  ·refine x_40 hrec fun c3 o vs t zy=>x_03 zy fun e3 hoc hd hq=>?_
   cases e3;exact ⟨c',o,vs,t,rfl,new hge (get?_push_of_some _ hoc),hd,hq⟩
  obtain ⟨o,ho,hd⟩:=hc;refine ⟨o,ks_ ho (I3.freeC y c hyc) fun hb=>?_,hd⟩;rcases mem_cons.mp (I3.stkSub c hb) with z | z
  ·obtain ⟨o',es,ep,e',hd',_⟩:=hns
   rw [<- z] at e';have:=ho.symm.trans e';cases this;rw [hd] at hd';cases hd'
  obtain ⟨_,o',ho',_⟩:=I3.ok.funs.mem z;exact absurd (Nat.lt_of_lt_of_le (lt_size ho') (I3.ok.cab y c hfn hyc)) (Nat.lt_irrefl _)
 have hsp:=q2 _ _ ps (I3.ok.mod.keeps I3.old) C;have r3:Vals [v1,v2,.ref h'.objs.size] [u1,u2,.ref h'.objs.size] := .cons r1 (.cons r2 (.cons rfl .nil));have FF:=F _ (I3.ok.mod.keeps I3.old);have hl:([u1,u2,Value.ref h'.objs.size]++[]).length=gs.length:=by
  have:=FF.len _ _ _ _ hsp;rw [append_nil,<- r3.length];exact this
 refine wpAny_call (codeAny_mono (FF.run X.A X.stack _ _ ⟨[u1,u2,.ref h'.objs.size],[]⟩ ([u1,u2,.ref h'.objs.size]++[]) _ Q E hr I3.re (hb _ _ I3.kIn hl) (by rw [append_nil];exact r3) hsp) fun r s' hq=>?_);cases r with
 | error e=>exact hx zz σ _ _ e s' I3 hq
 | ok fl =>
 cases fl with
 | ret u=>exact I3.after hq
 | next=>exact False.elim hq
 | brk=>exact False.elim hq
 | cont=>exact False.elim hq
section
open PySem.W (WData Codec OpenSpec Well WellAll ReadsW ReadsAllW)
theorem ji_ {P:Program}{w:World}{K:Frag}{mg mb:zM}{CX:CXT}{k:Nat}{fa cc Pt:Addr}{fd:FuncData}{ps:List Str}{sp:Sp}{s₁:Shared}{vals:List Value}{ds:List WData}{R:PySem.W.WRecords}{cl:Str->Option Addr}{d0:WData}
  (KX:K.In s₁.heap) (hns:s₁.heap.Ns mainGlobals mg) (hb:s₁.heap.Ns builtinsNs mb) (hbb : ∀ x:Str,x≠"__name__"->mb x=bootBuiltins x) (hlim:s₁.heap.NoLimit) (hg:s₁.gens = #[])
  (hwl:WellAll w.params s₁.heap vals ds) (hpl:plWs ds=true) (hwt : ∀ d∈ds,d.weight<=1048576) (hr:Room k callerA) (hKP:K.lookup Pt=none) (hP:s₁.heap.get? Pt=some (tabObj #[])) (hC:CodeHd s₁.heap cc Pt) (hbm:s₁.heap.BuiltinsAt mg Pt)
  (F : ∀ base:Heap,K.In base->base.Ns mainGlobals mg->CodeHd base cc Pt->base.BuiltinsAt mg Pt->FnOk P w K mg base CX k fa fd ps sp) (hbind : ∀ (s:Shared) (us:List Value),us.length=ps.length->BindsTo s fd ⟨us,[]⟩ (ps.zip us)) (zp:ds.length=ps.length)
  (hsp : ∀ (H:Hp) (xs:List V),H Pt=none->DwAll K H xs ds->sp xs (upd H Pt (.tbl #[])) (fun v H'=>Dw K H' v d0) fun _ _ _=>False)
  (hCX : ∀ H e s',CX [] H s₁ (fun _ _ _=>False) e s'->False) :
  codeAny (model P w) callerA (.call (.ref fa) ⟨vals,[]⟩) (fun r s'=>∃ u as,r = .ok (.ret u)/\ReadsW R cl s'.heap u d0 as/\OldK s₁.heap s'.heap/\s'.os=s₁.os/\AllBare s'.gens) s₁:=by
 obtain ⟨A,ho,ar⟩:=eh_ ds vals hwl hpl hwt;have hO:qe_ (argH K s₁.heap A):=lB_ ar;have hok:HOk P w (argH K s₁.heap A) s₁.heap:=oX_ ar;have hS:=i9_ KX ar ds vals hwl hpl ho;have hV:=cz_ ho;have hK : ∀ b u,argH K s₁.heap A b=some u->K.lookup b=none:=fun b u q=>(gl_ ar q).1;have noA : ∀ {b:Addr}{o:Obj},s₁.heap.get? b=some o->(∀ vs n,o.data ≠ .seq vs n)->argH K s₁.heap A b=none:=fun {b o} e d=>by
  cases q:argH K s₁.heap A b with
  | none=>rfl
  | some u =>
  obtain ⟨_,vs,_,_,⟨e2,_⟩ | ⟨e2,_⟩⟩:=gl_ ar q
  ·rw [e2] at e
   cases e;exact absurd rfl (d _ _)
  rw [e2] at e;cases e;exact absurd rfl (d _ _)
 generalize argH K s₁.heap A=H0 at hO hok hS hK noA;have n0:H0 Pt=none:=noA hP fun _ _ z=>nomatch z;obtain ⟨H,eH⟩ : ∃ H,H=upd H0 Pt (.tbl #[]):=⟨_,rfl⟩;have hHP:H Pt=some (.tbl #[]):=by rw [eH];exact af_
 have hne : ∀ {b:Addr},b≠Pt->H b=H0 b:=fun {b} z=>by rw [eH];exact ag_ z
 have hno : ∀ {b:Addr}{o:Obj},s₁.heap.get? b=some o->b≠Pt->(∀ vs n,o.data ≠ .seq vs n)->H b=none:=fun {b o} e z d=>(hne z).trans (noA e d);have hok1:HOk P w H s₁.heap:=fun a o e=>by
  by_cases z:a=Pt
  ·subst z
   rw [hHP] at e;cases e;exact hP
  rw [hne z] at e;exact (hok a o e).stay (fun b u _ q=>q) (fun b q=>by rw [hne (fun zb=>by rw [zb,n0] at q;cases q)];exact q) fun b xs q=>by rw [hne (fun zb=>by rw [zb,n0] at q;cases q)];exact q
 have base_of : ∀ {b:Addr}{o:Obj},s₁.heap.get? b=some o->H b=none->(hidT s₁.heap H).get? b=some o:=fun e n=>i3_ e n;have nsK : ∀ {b:Addr}{m:zM},s₁.heap.Ns b m->(hidT s₁.heap H).Ns b m:=fun {b m} ⟨o,es,ep,e,d,r⟩=>⟨o,es,ep,base_of e (hno e (fun z=>by
  rw [z,hP] at e;cases e;cases d) (fun _ _ z=>by rw [d] at z;cases z)),d,r⟩
 have nK : ∀ b o,K.lookup b=some o->H b=none:=fun b o e=>by
  have z:b≠Pt:=fun z=>by rw [z,hKP] at e;cases e
  rw [hne z];cases q:H0 b with
  | none=>rfl
  | some u =>
  rw [hK b u q] at e;cases e
 have hKb:K.In (hidT s₁.heap H):=fun b o e=>base_of (KX b o e) (nK b o e);have hCb:CodeHd (hidT s₁.heap H) cc Pt:=by
  obtain ⟨o,vs,file,tf,flags,tg,inF,text,tt,e,c1,c2,r⟩:=hC;have z:cc≠Pt:=r.2.2.2.2.2.2;exact ⟨o,vs,file,tf,flags,tg,inF,text,tt,base_of e (hno e z fun _ _ y=>by rw [c2] at y;cases y),c1,c2,r⟩
 have hBb:(hidT s₁.heap H).BuiltinsAt mg Pt:=by
  obtain ⟨bm,ob,b1,b2,b3,b4,b5,b6,b7,b8⟩:=hbm;exact ⟨bm,ob,b1,b2,b3,b4,base_of b5 (hno b5 b4 fun _ _ y=>by rw [b8] at y;cases y),b6,b7,b8⟩
 have hM:Mod K mg (hidT s₁.heap H):=⟨hKb,nsK hns,⟨mb,nsK hb,hbb⟩,let ⟨mc,h1,h2⟩:=hlim;⟨mc,nsK h1,h2⟩⟩;have e0:Env0 P w K mg (hidT s₁.heap H) callerA [] s₁ H:=⟨rfl,hM,fun b o e=>kK_ e,Nat.le_of_eq (hi_ _ _),trivial,fun b hb=>absurd (show b∈([]:List Addr) from hb) (by simp),hok1,.of_eq hg⟩;have hl:vals.length=ps.length:=by rw [cc_ hwl];exact zp
 have hs2:=hsp H0 _ n0 hS;rw [<- eH] at hs2;refine codeAny_mono ((F _ hKb (nsK hns) hCb hBb).run callerA [] s₁ H ⟨vals,[]⟩ vals (vals.map toV) _ _ hr e0 (hbind s₁ vals hl) hV hs2) fun r s' x=>?_;cases r with
 | error e=>exact (hCX H e s' x).elim
 | ok fl =>
 cases fl with
 | next=>exact False.elim x
 | brk=>exact False.elim x
 | cont=>exact False.elim x
 | ret u =>
 refine x_20 x fun v H' zy=>x_05 zy fun os bare un hok' r' q=>?_;have kept : ∀ b o,b≠Pt->s₁.heap.get? b=some o->s'.heap.get? b=some o:=fun b o z e=>by
  cases q2:H b with
  | none=>exact un.keep b o e q2 (by intro z;exact absurd (show b∈([]:List Addr) from z) (by simp)) (by simp)
  | some u2 =>
  rw [hne z] at q2;rcases hO b with z1 | ⟨ob,u3,z1⟩
  ·rw [q2] at z1
   cases z1
  have z2:=un.frzs b ob _ ((hne z).trans z1);obtain ⟨e1,_⟩:=hok b _ z1;obtain ⟨e2,_⟩:=hok' b _ z2;rw [e] at e1;cases e1;exact e2
 obtain ⟨more,eP⟩:=un.tbls Pt #[] hHP;have gP:s'.heap.get? Pt=some (tabObj (#[]++more)):=hok' Pt _ eP;have KX':K.In s'.heap:=fun b o e=>kept b o (fun z=>by rw [z,hKP] at e;cases e) (KX b o e);obtain ⟨as,hrd⟩:=Dw.reads (R:=R) (cl:=cl) hok' KX' d0 v u q r';refine ⟨u,as,rfl,hrd,⟨fun b o e=>?_,fun b o e=>?_⟩,os,bare⟩
 ·by_cases z:b=Pt
  ·subst z
   rw [hP] at e;cases e;obtain ⟨oc,vs,file,tf,flags,tg,inF,text,tt,e1,c1,c2,c3,_⟩:=hC;exact .inr (.inl ⟨⟨cc,oc,vs,e1,c1,c2,c3⟩,rfl,#[],more,rfl,gP⟩)
  exact .inl (kept b o z e)
 by_cases z:b=Pt
 ·subst z
  exact ⟨_,gP⟩
 exact ⟨o,kept b o z e⟩
theorem je_ {r:OpenSpec}{k:Nat}{q:Program}{loose:List Str}{XP:(zM)->Heap->Prop}{YP:World->Heap->Prop}{d:DefRec}{K:Params->Frag}{CX:CXT}{ps:List Str}{sp:Frag->Addr->Sp}
  (hwell:r.wellSaid=true) (hdf:d.params.defaults=[]) (zp:r.args.length=ps.length) (hr:Room k callerA) (hd:d∈recsOf q) (hnt : ∀ w:World,PySem.W.noTabs (K w.params)=true)
  (hY : ∀ (w:World) (h:Heap),YP w h->(K w.params).In h)
  (F : ∀ (w:World) (mg:zM) (fa:Addr) (h:Heap),YP w h->(K w.params).In h->h.Ns mainGlobals mg->mg d.name=some (.ref fa) ->
   ∃ fd:FuncData,(∀ (s:Shared) (us:List Value),us.length=ps.length->BindsTo s fd ⟨us,[]⟩ (ps.zip us))/\(∃ oc od sl,(K w.params).lookup fa=some ⟨oc,od,.func fd,sl⟩) /\
    ∀ (base:Heap) (cc Pt:Addr),fd.code = .ref cc->(K w.params).In base->base.Ns mainGlobals mg->CodeHd base cc Pt->base.BuiltinsAt mg Pt->FnOk r.prog w (K w.params) mg base CX k fa fd ps (sp (K w.params) Pt))
  (hsp : ∀ (K:Frag) (Pt:Addr) (H:Hp) (xs:List V) (a:Codec.denoteAll r.args),H Pt=none->Codec.withinAll r.args a=true->Codec.app r.args r.asked a=true->DwAll K H xs (Codec.encAll r.args a) ->
   sp K Pt xs (upd H Pt (.tbl #[])) (fun v H'=>Dw K H' v (r.ret.enc (Codec.app r.args r.f a))) fun _ _ _=>False)
  (hCX : ∀ (H:Hp) (s:Shared) (e:Value) (s':Shared),CX [] H s (fun _ _ _=>False) e s'->False) :
  PySem.W.WalkOS q loose XP YP r d [] (fun f vs=>PySem.call f vs):=by
 intro w s_0 s₁ mg mb G Y fa o pm cd doc dV kV ho hdd hcd hD hmg hg args vals as hpre hlay hrd hwl hlo;obtain ⟨a,e1,e2⟩:=PySem.W.os_pre_some hpre;obtain ⟨e3,hwi⟩:=Codec.encAll_of_decAll r.args args a e1;subst e3;have KX:=hY w _ Y;refine x_12 (F w mg fa _ Y KX G.T.g hmg) fun fd hb zn2 hF=>?_;obtain ⟨oc,od,sl,lk⟩:=zn2;refine x_50 (G.T.tab d hd) fun a' o' fd' cc Pt zy=>x_05 zy fun t1 t2 t3 t4 t5 t6=>?_;rw [hmg] at t1;cases t1;rw [KX _ _ lk] at t2;cases t2;cases t3;have hC:CodeHd s₁.heap cc Pt:=PySem.W.CodeHd.of t5 t6;have hP:s₁.heap.get? Pt=some (tabObj #[]):=t6.2;have hKP:(K w.params).lookup Pt=none:=by
  cases q2:(K w.params).lookup Pt with
  | none=>rfl
  | some o2 =>
  have z:=KX _ _ q2;rw [hP] at z;cases z;have:=all_eq_true.mp (hnt w) _ (PySem.W.mem_of_lookupK q2);cases this
 have hbm:s₁.heap.BuiltinsAt mg Pt:=by
  obtain ⟨bm,ob,b1,b2,b3,b4,b5,b6⟩:=G.T.bmain;have g1:bm≠mainGlobals:=fun z=>by
   obtain ⟨o3,es,ep,e,hd3,_⟩:=G.T.g;rw [z,e] at b3;cases b3;rw [hd3] at b6;cases b6
  have g2:bm≠Pt:=fun z=>by
   rw [z,hP] at b3;cases b3;cases b4
  exact ⟨bm,ob,b1,b2,g1,g2,b3,b4,b5,b6⟩
 refine PySem.W.enter_call (codeAny_mono (ji_ (R:=[]) (cl:=classAt s_0.heap) (d0:=r.ret.enc (Codec.app r.args r.f a)) KX G.T.g G.T.b G.T.builtins G.T.nolimit hg hwl (gQ_ _ _) (e1_ hlay) hr hKP hP hC hbm (fun base k1 k2 k3 k4=>hF base cc Pt t4 k1 k2 k3 k4) hb (by rw [fz_];exact zp)
  (fun H xs hO hS=>hsp (K w.params) Pt H xs a hO hwi e2 hS) fun H e s'=>hCX H s₁ e s') fun r' s' hq=>?_)
 obtain ⟨u,as',rfl,h1,h2,h3,h4⟩:=hq;exact ⟨.inl ⟨u,_,as',rfl,fun _=>rfl,h1,(OpenSpec.post_iff hwell hwi _ _).mpr rfl,fun z=>Bool.noConfusion (show false=true from z)⟩,h2,h3,h4⟩
end
section
variable {X:Cx}{CX:CXT}{k:Nat}{E:XK}{x:Str}{p pos:Pos}{e:Expr}{es:List Expr}{t:TA}
def mZ_ (X:Cx) (CX:CXT) (k i:Nat) (E:XK) (t:TA):TE:=fun σ H Q=>∃ f fd ps sp,σ[i]? = some (some (.ref f))/\FnOk X.prog X.w X.K X.mg X.base CX k f fd ps sp/\aY_ X.K fd ps []/\PySem.W.FnAt f X.base /\
 t σ H fun vs H1=>sp vs H1 Q E
theorem fv_ {f:Addr}{h h':Heap} (q:PySem.W.FnAt f h) (k : ∀ b o,h.get? b=some o->h'.get? b=some o):PySem.W.FnAt f h':=let ⟨a,b,c,d,e⟩:=q;⟨a,b,c,d,k _ _ e⟩
theorem l6_ (i:Nat) (hr:Room k X.A) (hx:bF_ CX X E) (ha:PA X (e::es) t) (hN:X.N[i]? = some x:=by rfl)
  (hv:Vis X.env.scope x:=by first | exact Or.inl rfl | exact Or.inr (Or.inl rfl) | exact Or.inr (Or.inr rfl)) (hd:(x == ("__debug__":Str))=false:=by decide) (hcd:(x == ("__classdict__":Str))=false:=by decide)
  (he:starEach (e::es) X.env=(false,eval e X.env)::starEach es X.env:=by rfl) (hpl:(backTo pos (starEach es X.env)).any (·.1)=false:=by rfl) :
  PE X (.Call (.Name x p) (e::es) [] pos) (mZ_ X CX k i E t):=by
 intro zz s σ H Q I h;refine x_40 h fun f fd ps sp zy=>x_04 zy fun h1 F hb hk h2=>?_;refine wpAny_Call_Name_kw (thn (pv (X:=X) i hN hv hd hcd zz s σ H (fun v H'=>v = .ref f/\H'=H) I (a6_ h1 ⟨rfl,rfl⟩)) fun u s1 zq=>?_);refine x_23 zq fun v H1 I1 r1 ev eH=>?_;subst ev eH;cases r1;refine PySem.W.callWith_F (fv_ hk I1.bk) (thn (ha pos zz s1 σ _ _ I1 h2) fun us s2 ⟨vs,H2,I2,r,q⟩=>⟨fv_ hk I2.bk,?_⟩) he hpl;exact gN_ (dvs:=[]) F hr hb .nil hx I2 r (by rw [append_nil];exact q)
end
theorem Fun.okC {P:Program}{w:World}{K:Frag}{mg:zM}{base:Heap}{x qual:Str}{st:Stmt}{f cc:Addr}{fd:FuncData}{N ps:List Str}{k:Nat}{sp:Sp} (F:Fun K x qual st f fd) (hcc:fd.code = .ref cc) (S:FnScope N ps (ae_ st))
  (hbody : ∀ (A:Around) (outer:List Env) (s:Shared) (H:Hp) (vs:List V) (Q:VK) (E:XK),Room k (A.deeper (envOfC qual (ae_ st) s.heap.objs.size f (.ref cc)))->sp vs H Q E ->
   ∃ t,PSs (cxOf CX0 P w K mg base N qual (ae_ st) f (.ref cc) A outer s H E).nox (bw_ st) t/\t { nx:=fun _ H'=>Q .non H',rt:=Q } (start N vs) H) (len : ∀ vs H Q E,sp vs H Q E->vs.length=ps.length):FnOk P w K mg base CX0 (k+1) f fd ps sp:=by
 refine x_90 F.ex fun oc od kV doc pm an cdv ct osl zy=>x_02 zy fun zr9 lk hcd=>?_;subst zr9;have e:cdv = .ref cc:=hcc;subst e;refine oM_ lk hcd S len fun A outer s H vs Q E hr hsp=>?_;obtain ⟨t,h,q⟩:=hbody A outer s H vs Q E hr hsp;exact ⟨t,h.nox,q⟩
theorem mt_ {l:List (Str×NameKind)}{x:Str} (h:l.all (fun p => !(p.2 == .free) || p.1 == x)=true) : ∀ y,l.lookup y=some .free->y=x:=fun y e=>by
 have:=all_eq_true.mp h _ (PySem.mem_of_lookup e);simpa using this
theorem ms_ {p:Str} : ∀ us:List Value,us.length=[p].length->∀ (i:Nat) (y:Str) (u:Value),[p][i]? = some y->us[i]? = some u->([p].zip us).reverse.lookup y=some u
 | [a],_,0,y,u,h1,h2=>by
  cases h1;cases h2;show List.lookup p [(p,a)]=some a;unfold List.lookup;rw [beq_self_eq_true]
 | [a],_,i+1,y,u,h1,h2=>by cases h1
theorem mr_ {Q:List Value->Prop} (h : ∀ a,Q [a]) : ∀ us:List Value,us.length=1->Q us
 | [a],_=>h a
theorem pa_ {K:Frag}{H:Hp}{a Pt:Addr}{xs:List V}{ps qs:Array Value} (h:H Pt=some (.tbl ps)) (q:SqL K H a xs):SqL K (upd H Pt (.tbl qs)) a xs:=by
 rcases q with (q | ⟨o,q⟩) | q
 ·exact .inl (.inl (by rw [ag_ (fun z=>by rw [z,h] at q;cases q)];exact q))
 ·exact .inl (.inr ⟨o,by rw [ag_ (fun z=>by rw [z,h] at q;cases q)];exact q⟩)
 exact .inr q
theorem pb_ {K:Frag}{H:Hp}{a Pt:Addr}{xs:List V}{qs:Array Value} (h:H Pt=none) (q:SqL K H a xs):SqL K (upd H Pt (.tbl qs)) a xs:=by
 rcases q with (q | ⟨o,q⟩) | q
 ·exact .inl (.inl (by rw [ag_ (fun z=>by rw [z,h] at q;cases q)];exact q))
 ·exact .inl (.inr ⟨o,by rw [ag_ (fun z=>by rw [z,h] at q;cases q)];exact q⟩)
 exact .inr q
end L2
namespace M
open PySem PySem.Spec PyProof.Rows L2 TL
set_option hygiene false
local macro_rules
 | `(tactic| simp! [$l,*]) => `(tactic| ((try dsimp only [tRet,qj_,nM_,j0_,tC,tVar,tOp,tUn,rI0,rI,rU,hG_,isB,tB,tIfS,tIf,tAnd,tOr,tNot,o8_,tOrV,qk_,tAsg,tCB,a1_,tNil,cS_,o7_,tAug,ipI,tSl,lL_,fG_,tM0,tM1,rEq,rNe,tIsN,ql_,rIxS,rIxL,rIxT,rAll,rMax,rSum,rSlL,rSlS,rIn,tLst,tTup,iStr,mx_,iTup,tYes,if_true,if_false,ite_true,ite_false,do_,cx_K,cx_P,cx_w,qw_,oR_,cx_N,wipe,L2.start,map_cons,map_nil,cons_append,nil_append,List.getElem?_cons_zero,List.getElem?_cons_succ,List.set_cons_zero,List.set_cons_succ,$(⟨l.elemsAndSeps⟩),*]);(try simp only [nY_,nX_,nZ_,map_cons,map_nil,length_cons,length_nil,List.replicate,cons_append,nil_append,append_nil,List.getElem?_cons_zero,List.getElem?_cons_succ,List.set_cons_zero,List.set_cons_succ,Nat.reduceSub,Nat.reduceAdd,add_zero,zero_add,Option.some.injEq,V.int.injEq,V.bl.injEq,V.str.injEq,V.ref.injEq,List.cons.injEq,and_true,true_and,exists_eq_left,exists_eq_left',exists_and_left,exists_eq,exists_eq',reduceCtorEq,false_and,false_eq_true,if_true,if_false,ite_true,ite_false,decide_eq_true_eq,oi_,oj_,S_eq,a7_,and_assoc,natCast_inj,af_,fF_,HO.ins.injEq,List.zip_cons_cons,List.zip_nil_left,List.zip_nil_right,$l,*])))
set_option hygiene true
def top (i:Nat):Stmt:=PySem.Challenge.pw_measuretext_s06_where.main.body.getD i (.Pass ⟨0,0,0,0⟩)
abbrev s_L:Stmt:=top 6
theorem sc_L:FnScope ["term","found","todo","item","part"] ["term"] (ae_ s_L):=by right
abbrev s_aA:Stmt:=top 7
theorem sc_aA:FnScope ["term","number","item"] ["term"] (ae_ s_aA):=by right
abbrev s_R:Stmt:=top 21
theorem sc_R:FnScope ["byte"] ["byte"] (ae_ s_R):=by right
abbrev s_u:Stmt:=top 22
theorem sc_u:FnScope ["byte"] ["byte"] (ae_ s_u):=by right
abbrev s_O:Stmt:=top 23
theorem sc_O:FnScope ["byte"] ["byte"] (ae_ s_O):=by right
abbrev s_S:Stmt:=top 24
theorem sc_S:FnScope ["text","sign"] ["text"] (ae_ s_S):=by right
abbrev s_T:Stmt:=top 25
theorem sc_T:FnScope ["byte"] ["byte"] (ae_ s_T):=by right
abbrev s_as:Stmt:=top 26
theorem sc_as:FnScope ["byte"] ["byte"] (ae_ s_as):=by right
abbrev s_at:Stmt:=top 27
theorem sc_at:FnScope ["byte"] ["byte"] (ae_ s_at):=by right
abbrev s_s:Stmt:=top 28
theorem sc_s:FnScope ["text","place","belongs"] ["text","place","belongs"] (ae_ s_s):=by right
abbrev s_aK:Stmt:=top 29
theorem sc_aK:FnScope ["byte"] ["byte"] (ae_ s_aK):=by right
abbrev s_x:Stmt:=top 30
theorem sc_x:FnScope ["some_bytes","byte"] ["some_bytes"] (ae_ s_x):=by right
abbrev s_aB:Stmt:=top 36
theorem sc_aB:FnScope ["text","begin","end"] ["text","begin"] (ae_ s_aB):=by right
abbrev s_U:Stmt:=top 37
theorem sc_U:FnScope ["spelling","divided","rows","row"] ["spelling"] (ae_ s_U):=by right
abbrev s_H:Stmt:=top 38
theorem sc_H:FnScope ["over","under","divisor"] ["over","under"] (ae_ s_H):=by right
abbrev s_au:Stmt:=top 39
theorem sc_au:FnScope ["first","second","remainder"] ["first","second"] (ae_ s_au):=by right
abbrev s_av:Stmt:=top 40
theorem sc_av:FnScope ["measure","factor"] ["measure"] (ae_ s_av):=by right
abbrev s_aw:Stmt:=top 41
theorem sc_aw:FnScope ["factor","halves"] ["factor"] (ae_ s_aw):=by right
abbrev s_ax:Stmt:=top 42
theorem sc_ax:FnScope ["power","digits","sign"] ["power"] (ae_ s_ax):=by right
abbrev s_aL:Stmt:=top 43
theorem sc_aL:FnScope ["amount","measure"] ["amount","measure"] (ae_ s_aL):=by right
abbrev s_aC:Stmt:=top 44
theorem sc_aC:FnScope ["amount"] ["amount"] (ae_ s_aC):=by right
abbrev s_P:Stmt:=top 45
theorem sc_P:FnScope ["amount","shown"] ["amount"] (ae_ s_P):=by right
abbrev s_aM:Stmt:=top 53
theorem sc_aM:FnScope ["text"] ["text"] (ae_ s_aM):=by right
abbrev s_V:Stmt:=top 54
theorem sc_V:FnScope ["text","gap_end","token_at","found","place","token"] ["text","gap_end","token_at"] (ae_ s_V):=by right
abbrev s_Q:Stmt:=top 55
theorem sc_Q:FnScope ["text","place","end"] ["text","place"] (ae_ s_Q):=by right
abbrev s_aH:Stmt:=top 56
theorem sc_aH:FnScope ["text","begin","end"] ["text","begin"] (ae_ s_aH):=by right
abbrev s_ay:Stmt:=top 57
theorem sc_ay:FnScope ["text","begin"] ["text","begin"] (ae_ s_ay):=by right
abbrev s_az:Stmt:=top 58
theorem sc_az:FnScope ["text","begin","end","word","kind"] ["text","begin"] (ae_ s_az):=by right
abbrev s_I:Stmt:=top 59
theorem sc_I:FnScope ["text","begin","digits","end","amount","measure","kind"] ["text","begin","digits"] (ae_ s_I):=by right
abbrev s_aD:Stmt:=top 60
theorem sc_aD:FnScope ["text","begin","end","measure"] ["text","begin"] (ae_ s_aD):=by right
abbrev s_aE:Stmt:=top 61
theorem sc_aE:FnScope ["text","begin","signs","sign"] ["text","begin","signs"] (ae_ s_aE):=by right
abbrev s_M:Stmt:=top 66
theorem sc_M:FnScope ["use","names","body","name"] ["use","names","body"] (ae_ s_M):=by right
abbrev s_aF:Stmt:=top 67
theorem sc_aF:FnScope ["use","names","body"] ["use","names","body"] (ae_ s_aF):=by right
abbrev s_W:Stmt:=top 68
theorem sc_W:FnScope ["use"] ["use"] (ae_ s_W):=by right
abbrev s_X:Stmt:=top 69
theorem sc_X:FnScope ["use"] ["use"] (ae_ s_X):=by right
abbrev s_A:Stmt:=top 70
theorem sc_A:FnScope ["use","names","parts","value"] ["use"] (ae_ s_A):=by right
abbrev s_Y:Stmt:=top 71
theorem sc_Y:FnScope ["use"] ["use"] (ae_ s_Y):=by right
abbrev s_Z:Stmt:=top 72
theorem sc_Z:FnScope ["use"] ["use"] (ae_ s_Z):=by right
abbrev s_aa:Stmt:=top 73
theorem sc_aa:FnScope ["use"] ["use"] (ae_ s_aa):=by right
abbrev s_ab:Stmt:=top 74
theorem sc_ab:FnScope ["use"] ["use"] (ae_ s_ab):=by right
abbrev s_N:Stmt:=top 75
theorem sc_N:FnScope ["use","condition"] ["use","condition"] (ae_ s_N):=by right
abbrev s_ac:Stmt:=top 76
theorem sc_ac:FnScope ["use"] ["use"] (ae_ s_ac):=by right
abbrev s_J:Stmt:=top 77
theorem sc_J:FnScope ["use","sign","straight","turned"] ["use"] (ae_ s_J):=by right
abbrev s_ad:Stmt:=top 78
theorem sc_ad:FnScope ["use"] ["use"] (ae_ s_ad):=by right
abbrev s_y:Stmt:=top 79
theorem sc_y:FnScope ["use"] ["use"] (ae_ s_y):=by right
abbrev s_ae:Stmt:=top 80
theorem sc_ae:FnScope ["use"] ["use"] (ae_ s_ae):=by right
abbrev s_af:Stmt:=top 81
theorem sc_af:FnScope ["use"] ["use"] (ae_ s_af):=by right
abbrev s_ag:Stmt:=top 82
theorem sc_ag:FnScope ["use"] ["use"] (ae_ s_ag):=by right
abbrev s_ah:Stmt:=top 83
theorem sc_ah:FnScope ["use"] ["use"] (ae_ s_ah):=by right
abbrev s_r:Stmt:=top 84
theorem sc_r:FnScope ["use"] ["use"] (ae_ s_r):=by right
abbrev s_ai:Stmt:=top 85
theorem sc_ai:FnScope ["use"] ["use"] (ae_ s_ai):=by right
abbrev s_aj:Stmt:=top 86
theorem sc_aj:FnScope ["use"] ["use"] (ae_ s_aj):=by right
abbrev s_ak:Stmt:=top 87
theorem sc_ak:FnScope ["use"] ["use"] (ae_ s_ak):=by right
abbrev s_B:Stmt:=top 88
theorem sc_B:FnScope ["use","parts","node","part"] ["use"] (ae_ s_B):=by right
abbrev s_K:Stmt:=top 89
theorem sc_K:FnScope ["use","node","part"] ["use"] (ae_ s_K):=by right
abbrev s_al:Stmt:=top 94
theorem sc_al:FnScope ["text","reader","term"] ["text"] (ae_ s_al):=by right
abbrev s_aN:Stmt:=top 95
theorem sc_aN:FnScope ["reader","step"] ["reader","step"] (ae_ s_aN):=by right
abbrev s_aI:Stmt:=top 96
theorem sc_aI:FnScope ["reader","rule","step"] ["reader","rule"] (ae_ s_aI):=by right
abbrev s_aO:Stmt:=top 97
theorem sc_aO:FnScope ["reader"] ["reader"] (ae_ s_aO):=by right
abbrev s_aJ:Stmt:=top 98
theorem sc_aJ:FnScope ["rule","token","way"] ["rule","token"] (ae_ s_aJ):=by right
abbrev s_am:Stmt:=top 99
theorem sc_am:FnScope ["reader","step","reach","maker","first","use"] ["reader","step"] (ae_ s_am):=by right
abbrev s_aG:Stmt:=top 100
theorem sc_aG:FnScope ["taken","reach","first"] ["taken","reach"] (ae_ s_aG):=by right
abbrev s_m:Stmt:=top 105
theorem sc_m:FnScope ["node","text"] ["node","text"] (ae_ s_m):=by right
abbrev s_an:Stmt:=top 106
theorem sc_an:FnScope ["text","reading","answering","found","fault"] ["text","reading","answering"] (ae_ s_an):=by right
abbrev s_ao:Stmt:=top 107
theorem sc_ao:FnScope ["term","number","found","node"] ["term","number"] (ae_ s_ao):=by right
abbrev s_q:Stmt:=bm_ (top 1) 0
theorem sc_q:FnScope ["self","kind","place"] ["self","kind","place"] (ae_ s_q):=by right
abbrev s_C:Stmt:=bm_ (top 5) 0
theorem sc_C:FnScope ["self","form","words","parts","begin","end"] ["self","form","words","parts","begin","end"] (ae_ s_C):=by right
abbrev s_z:Stmt:=bm_ (top 35) 0
theorem sc_z:FnScope ["self","over","under","measure"] ["self","over","under","measure"] (ae_ s_z):=by right
abbrev s_v:Stmt:=bm_ (top 51) 0
theorem sc_v:FnScope ["self","group","kind","begin","end","content"] ["self","group","kind","begin","end","content"] (ae_ s_v):=by right
abbrev s_D:Stmt:=bm_ (top 52) 0
theorem sc_D:FnScope ["self","found","length"] ["self","found","length"] (ae_ s_D):=by right
abbrev s_o:Stmt:=bm_ (top 52) 1
theorem sc_o:FnScope ["self"] ["self"] (ae_ s_o):=by right
abbrev s_t:Stmt:=bm_ (top 52) 2
theorem sc_t:FnScope ["self","token"] ["self"] (ae_ s_t):=by right
abbrev s_w:Stmt:=bm_ (top 52) 3
theorem sc_w:FnScope ["self","kind"] ["self","kind"] (ae_ s_w):=by right
abbrev s_E:Stmt:=bm_ (top 64) 0
theorem sc_E:FnScope ["self","node","begin","end"] ["self","node","begin","end"] (ae_ s_E):=by right
abbrev s_F:Stmt:=bm_ (top 65) 0
theorem sc_F:FnScope ["self","taken"] ["self","taken"] (ae_ s_F):=by right
abbrev s_h:Stmt:=bm_ (top 65) 1
theorem sc_h:FnScope ["self","form","words","parts"] ["self","form","words","parts"] (ae_ s_h):=by right
abbrev s_l:Stmt:=bm_ (top 65) 2
theorem sc_l:FnScope ["self","place"] ["self","place"] (ae_ s_l):=by right
abbrev s_n:Stmt:=bm_ (top 65) 3
theorem sc_n:FnScope ["self","item"] ["self"] (ae_ s_n):=by right
abbrev s_p:Stmt:=bm_ (top 65) 4
theorem sc_p:FnScope ["self","item"] ["self"] (ae_ s_p):=by right
abbrev s_G:Stmt:=bm_ (top 93) 0
theorem sc_G:FnScope ["self","row"] ["self","row"] (ae_ s_G):=by right
set_option genInjectivity false in
set_option genSizeOfSpec false in
set_option genSizeOf false in
structure TA where
 (a_ap a_aq a_ar a_b a_e C_c f_q C_d f_C C_f f_z C_g f_v C_k f_D f_o f_t f_w C_j f_E C_a f_F f_h f_l f_n f_p C_i f_G f_L f_aA f_R f_u f_O f_S f_T f_as f_at f_s f_aK f_x f_aB f_U f_H f_au f_av f_aw f_ax f_aL f_aC f_P f_aM f_V f_Q f_aH f_ay f_az f_I f_aD f_aE f_M f_aF f_W f_X f_A f_Y f_Z f_aa f_ab f_N f_ac f_J f_ad f_y f_ae f_af f_ag f_ah f_r f_ai f_aj f_ak f_B f_K f_al f_aN f_aI f_aO f_aJ f_am f_aG f_m f_an f_ao:Addr)
 (d_q d_C d_z d_v d_D d_o d_t d_w d_E d_F d_h d_l d_n d_p d_G d_L d_aA d_R d_u d_O d_S d_T d_as d_at d_s d_aK d_x d_aB d_U d_H d_au d_av d_aw d_ax d_aL d_aC d_P d_aM d_V d_Q d_aH d_ay d_az d_I d_aD d_aE d_M d_aF d_W d_X d_A d_Y d_Z d_aa d_ab d_N d_ac d_J d_ad d_y d_ae d_af d_ag d_ah d_r d_ai d_aj d_ak d_B d_K d_al d_aN d_aI d_aO d_aJ d_am d_aG d_m d_an d_ao:FuncData)
structure TX (w:World) (K:Frag) (mg:zM) (J:TA):Prop where
 g_a9 : ∃ u,mg "MOST_DEPTH"=some u/\RelV (.int 40) u
 g_ba : ∃ u,mg "MOST_NODES"=some u/\RelV (.int 300) u
 g_bb : ∃ u,mg "BLANK"=some u/\RelV (.int 32) u
 g_aZ : ∃ u,mg "LINE_END"=some u/\RelV (.int 10) u
 g_bc : ∃ u,mg "COMMENT_BEGIN"=some u/\RelV (.int 123) u
 g_a0 : ∃ u,mg "COMMENT_END"=some u/\RelV (.int 125) u
 g_bd : ∃ u,mg "MEASURE_BEGIN"=some u/\RelV (.int 91) u
 g_be : ∃ u,mg "MEASURE_END"=some u/\RelV (.int 93) u
 g_ap:mg "FRACTION_SIGNS"=some (.ref J.a_ap)
 t_ap : ∀ H,SqT K H J.a_ap [V.int 46,V.int 47]
 g_aS : ∃ u,mg "FIRST_PRINTED"=some u/\RelV (.int 32) u
 g_a1 : ∃ u,mg "LAST_PRINTED"=some u/\RelV (.int 126) u
 g_a2 : ∃ u,mg "MOST_SIGNS"=some u/\RelV (.int 12) u
 g_bf : ∃ u,mg "PRINTED"=some u/\RelV (.str " !\"#$?&'()*+,-./0123456789:;<=>?@ABCDEFGHIJKLMNOPQRSTUVWXYZ[\\]^_`abcdefghijklmnopqrstuvwxyz{|}~") u
 g_aq:mg "TAKEN_WORDS"=some (.ref J.a_aq)
 t_aq : ∀ H,SqT K H J.a_aq [V.str "fn",V.str "let",V.str "rec",V.str "if",V.str "cons",V.str "case",V.str "pair",V.str "fst",V.str "snd",V.str "fold",V.str "root",V.str "floor",V.str "rest",V.str "true",V.str "false",V.str "nil",V.str "truth",V.str "num",V.str "list",V.str "base",V.str "unit",V.str "def",V.str "fun",V.str "in",V.str "then",V.str "else",V.str "match",V.str "with",V.str "and",V.str "or",V.str "not"]
 g_bg : ∃ u,mg "MOST_DIGITS"=some u/\RelV (.int 12) u
 g_a3 : ∃ u,mg "FIRST_TOO_GREAT"=some u/\RelV (.int 1000000000000) u
 g_bh : ∃ u,mg "MOST_POWER_DIGITS"=some u/\RelV (.int 2) u
 g_bi : ∃ u,mg "WORD_GROUP"=some u/\RelV (.int 0) u
 g_bj : ∃ u,mg "NUMBER_GROUP"=some u/\RelV (.int 1) u
 g_a4 : ∃ u,mg "SIGN_GROUP"=some u/\RelV (.int 2) u
 g_ar:mg "SURFACE_SIGNS"=some (.ref J.a_ar)
 t_ar : ∀ H,SqT K H J.a_ar [V.str "->",V.str "::",V.str "<=",V.str ">=",V.str "<>",V.str "|",V.str "<",V.str ">",V.str "=",V.str "+",V.str "-",V.str "*",V.str "/",V.str "^",V.str "(",V.str ")",V.str "[",V.str "]",V.str ","]
 g_b:mg "RULES"=some (.ref J.a_b)
 t_b:lD_ w K J.a_b
 g_e:mg "MAKERS"=some (.ref J.a_e)
 g_bk : ∃ u,mg "MOST_OUTER_EXPRESSIONS"=some u/\RelV (.int 39) u
 g_bl : ∃ u,mg "MOST_BYTES"=some u/\RelV (.int 2000) u
 g_bm : ∃ u,mg "TEXT_TOO_LONG"=some u/\RelV (.int (-1)) u
 g_bn : ∃ u,mg "NOT_THERE"=some u/\RelV (.int (-2)) u
 b_all:mg "all"=none
 b_enumerate:mg "enumerate"=none
 b_int:mg "int"=none
 b_isinstance:mg "isinstance"=none
 b_len:mg "len"=none
 b_max:mg "max"=none
 b_ord:mg "ord"=none
 b_reversed:mg "reversed"=none
 b_str:mg "str"=none
 G_c:mg "Fault"=some (.ref J.C_c)
 F_q:Fun K "__init__" "Fault.__init__" s_q J.f_q J.d_q
 b_q:aY_ K J.d_q ["self","kind","place"] []
 X_c:XCls K J.C_c J.f_q
 n_bt:ax_ K J.C_c "kind"
 n_bu:ax_ K J.C_c "place"
 G_d:mg "Node"=some (.ref J.C_d)
 F_C:Fun K "__init__" "Node.__init__" s_C J.f_C J.d_C
 b_C:aY_ K J.d_C ["self","form","words","parts","begin","end"] []
 cl_d:Cls K J.C_d
 M_d:Mk K J.C_d J.f_C
 ns_d:NotStr K J.C_d
 n_bA:ax_ K J.C_d "form"
 n_bB:ax_ K J.C_d "words"
 n_bv:ax_ K J.C_d "parts"
 n_aT:ax_ K J.C_d "begin"
 n_bw:ax_ K J.C_d "end"
 G_f:mg "Amount"=some (.ref J.C_f)
 F_z:Fun K "__init__" "Amount.__init__" s_z J.f_z J.d_z
 b_z:aY_ K J.d_z ["self","over","under","measure"] []
 cl_f:Cls K J.C_f
 M_f:Mk K J.C_f J.f_z
 n_aU:ax_ K J.C_f "over"
 n_aV:ax_ K J.C_f "under"
 n_a5:ax_ K J.C_f "measure"
 G_g:mg "Token"=some (.ref J.C_g)
 F_v:Fun K "__init__" "Token.__init__" s_v J.f_v J.d_v
 b_v:aY_ K J.d_v ["self","group","kind","begin","end","content"] []
 cl_g:Cls K J.C_g
 M_g:Mk K J.C_g J.f_v
 n_bC:ax_ K J.C_g "group"
 n_aQ:ax_ K J.C_g "kind"
 n_aW:ax_ K J.C_g "begin"
 n_bo:ax_ K J.C_g "end"
 n_bp:ax_ K J.C_g "content"
 G_k:mg "Row"=some (.ref J.C_k)
 F_D:Fun K "__init__" "Row.__init__" s_D J.f_D J.d_D
 b_D:aY_ K J.d_D ["self","found","length"] []
 F_o:Fun K "upcoming" "Row.upcoming" s_o J.f_o J.d_o
 b_o:aY_ K J.d_o ["self"] []
 m_o:Meth K J.C_k "upcoming" J.f_o
 F_t:Fun K "take" "Row.take" s_t J.f_t J.d_t
 b_t:aY_ K J.d_t ["self"] []
 m_t:Meth K J.C_k "take" J.f_t
 F_w:Fun K "take_kind" "Row.take_kind" s_w J.f_w J.d_w
 b_w:aY_ K J.d_w ["self","kind"] []
 m_w:Meth K J.C_k "take_kind" J.f_w
 cl_k:Cls K J.C_k
 M_k:Mk K J.C_k J.f_D
 n_bx:ax_ K J.C_k "ahead"
 n_bq:ax_ K J.C_k "index"
 G_j:mg "Piece"=some (.ref J.C_j)
 F_E:Fun K "__init__" "Piece.__init__" s_E J.f_E J.d_E
 b_E:aY_ K J.d_E ["self","node","begin","end"] []
 cl_j:Cls K J.C_j
 M_j:Mk K J.C_j J.f_E
 n_a6:ax_ K J.C_j "kind"
 n_a7:ax_ K J.C_j "node"
 n_by:ax_ K J.C_j "begin"
 n_bz:ax_ K J.C_j "end"
 G_a:mg "Use"=some (.ref J.C_a)
 F_F:Fun K "__init__" "Use.__init__" s_F J.f_F J.d_F
 b_F:aY_ K J.d_F ["self","taken"] []
 F_h:Fun K "make" "Use.make" s_h J.f_h J.d_h
 b_h:aY_ K J.d_h ["self","form","words","parts"] []
 m_h:Meth K J.C_a "make" J.f_h
 F_l:Fun K "part" "Use.part" s_l J.f_l J.d_l
 b_l:aY_ K J.d_l ["self","place"] []
 m_l:Meth K J.C_a "part" J.f_l
 F_n:Fun K "parts_within" "Use.parts_within" s_n J.f_n J.d_n
 b_n:aY_ K J.d_n ["self"] []
 m_n:Meth K J.C_a "parts_within" J.f_n
 F_p:Fun K "names_within" "Use.names_within" s_p J.f_p J.d_p
 b_p:aY_ K J.d_p ["self"] []
 m_p:Meth K J.C_a "names_within" J.f_p
 cl_a:Cls K J.C_a
 M_a:Mk K J.C_a J.f_F
 n_aR:ax_ K J.C_a "taken"
 n_br:ax_ K J.C_a "begin"
 n_bs:ax_ K J.C_a "end"
 G_i:mg "Reader"=some (.ref J.C_i)
 F_G:Fun K "__init__" "Reader.__init__" s_G J.f_G J.d_G
 b_G:aY_ K J.d_G ["self","row"] []
 cl_i:Cls K J.C_i
 M_i:Mk K J.C_i J.f_G
 n_aX:ax_ K J.C_i "row"
 n_aY:ax_ K J.C_i "todo"
 n_aP:ax_ K J.C_i "taken"
 n_a8:ax_ K J.C_i "around"
 F_L:FG K mg "numbered" s_L ["term"] J.f_L J.d_L
 F_aA:FG K mg "check_limits" s_aA ["term"] J.f_aA J.d_aA
 F_R:FG K mg "is_letter" s_R ["byte"] J.f_R J.d_R
 F_u:FG K mg "is_digit" s_u ["byte"] J.f_u J.d_u
 F_O:FG K mg "is_in_word" s_O ["byte"] J.f_O J.d_O
 F_S:FG K mg "is_short_word" s_S ["text"] J.f_S J.d_S
 F_T:FG K mg "is_space" s_T ["byte"] J.f_T J.d_T
 F_as:FG K mg "is_in_comment" s_as ["byte"] J.f_as J.d_as
 F_at:FG K mg "is_before_measure_end" s_at ["byte"] J.f_at J.d_at
 F_s:FG K mg "run_end" s_s ["text","place","belongs"] J.f_s J.d_s
 F_aK:FG K mg "sign_of" s_aK ["byte"] J.f_aK J.d_aK
 F_x:FG K mg "signs_of" s_x ["some_bytes"] J.f_x J.d_x
 F_aB:FG K mg "number_end" s_aB ["text","begin"] J.f_aB J.d_aB
 F_U:FG K mg "fraction_of" s_U ["spelling"] J.f_U J.d_U
 F_H:FG K mg "lowest" s_H ["over","under"] J.f_H J.d_H
 F_au:FG K mg "common_divisor" s_au ["first","second"] J.f_au J.d_au
 F_av:FG K mg "is_measure" s_av ["measure"] J.f_av J.d_av
 F_aw:FG K mg "is_factor" s_aw ["factor"] J.f_aw J.d_aw
 F_ax:FG K mg "is_power" s_ax ["power"] J.f_ax J.d_ax
 F_aL:FG K mg "measured" s_aL ["amount","measure"] J.f_aL J.d_aL
 F_aC:FG K mg "negated" s_aC ["amount"] J.f_aC J.d_aC
 F_P:FG K mg "amount_text" s_P ["amount"] J.f_P J.d_P
 F_aM:FG K mg "surface_tokens" s_aM ["text"] J.f_aM J.d_aM
 F_V:FG K mg "tokens_between" s_V ["text","gap_end","token_at"] J.f_V J.d_V
 F_Q:FG K mg "surface_gap_end" s_Q ["text","place"] J.f_Q J.d_Q
 F_aH:FG K mg "comment_end" s_aH ["text","begin"] J.f_aH J.d_aH
 F_ay:FG K mg "surface_token" s_ay ["text","begin"] J.f_ay J.d_ay
 F_az:FG K mg "word_token" s_az ["text","begin"] J.f_az J.d_az
 F_I:FG K mg "number_token" s_I ["text","begin","digits"] J.f_I J.d_I
 F_aD:FG K mg "measure_at" s_aD ["text","begin"] J.f_aD J.d_aD
 F_aE:FG K mg "sign_token" s_aE ["text","begin","signs"] J.f_aE J.d_aE
 F_M:FG K mg "functions" s_M ["use","names","body"] J.f_M J.d_M
 F_aF:FG K mg "recursive" s_aF ["use","names","body"] J.f_aF J.d_aF
 F_W:FG K mg "make_fun" s_W ["use"] J.f_W J.d_W
 F_X:FG K mg "make_rec" s_X ["use"] J.f_X J.d_X
 F_A:FG K mg "make_let" s_A ["use"] J.f_A J.d_A
 F_Y:FG K mg "make_if" s_Y ["use"] J.f_Y J.d_Y
 F_Z:FG K mg "make_match" s_Z ["use"] J.f_Z J.d_Z
 F_aa:FG K mg "make_or" s_aa ["use"] J.f_aa J.d_aa
 F_ab:FG K mg "make_and" s_ab ["use"] J.f_ab J.d_ab
 F_N:FG K mg "opposite" s_N ["use","condition"] J.f_N J.d_N
 F_ac:FG K mg "make_not" s_ac ["use"] J.f_ac J.d_ac
 F_J:FG K mg "make_compare" s_J ["use"] J.f_J J.d_J
 F_ad:FG K mg "make_consing" s_ad ["use"] J.f_ad J.d_ad
 F_y:FG K mg "make_between" s_y ["use"] J.f_y J.d_y
 F_ae:FG K mg "make_power" s_ae ["use"] J.f_ae J.d_ae
 F_af:FG K mg "make_minus_power" s_af ["use"] J.f_af J.d_af
 F_ag:FG K mg "make_apply" s_ag ["use"] J.f_ag J.d_ag
 F_ah:FG K mg "make_minus_number" s_ah ["use"] J.f_ah J.d_ah
 F_r:FG K mg "make_word" s_r ["use"] J.f_r J.d_r
 F_ai:FG K mg "make_name" s_ai ["use"] J.f_ai J.d_ai
 F_aj:FG K mg "make_number" s_aj ["use"] J.f_aj J.d_aj
 F_ak:FG K mg "make_truth" s_ak ["use"] J.f_ak J.d_ak
 F_B:FG K mg "make_bracket" s_B ["use"] J.f_B J.d_B
 F_K:FG K mg "make_list" s_K ["use"] J.f_K J.d_K
 F_al:FG K mg "surface_term" s_al ["text"] J.f_al J.d_al
 F_aN:FG K mg "go_on" s_aN ["reader","step"] J.f_aN J.d_aN
 F_aI:FG K mg "begin_rule" s_aI ["reader","rule"] J.f_aI J.d_aI
 F_aO:FG K mg "enter_expression" s_aO ["reader"] J.f_aO J.d_aO
 F_aJ:FG K mg "path_of" s_aJ ["rule","token"] J.f_aJ J.d_aJ
 F_am:FG K mg "make_piece" s_am ["reader","step"] J.f_am J.d_am
 F_aG:FG K mg "first_taken" s_aG ["taken","reach"] J.f_aG J.d_aG
 F_m:FG K mg "where" s_m ["node","text"] J.f_m J.d_m
 F_an:FG K mg "answered" s_an ["text","reading","answering"] J.f_an J.d_an
 F_ao:FG K mg "stretch_answer" s_ao ["term","number"] J.f_ao J.d_ao
 t_e:jd_ w K J.a_e (mqF [J.f_W,J.f_X,J.f_A,J.f_Y,J.f_Z,J.f_aa,J.f_ab,J.f_ac,J.f_J,J.f_ad,J.f_y,J.f_y,J.f_ae,J.f_af,J.f_ag,J.f_ah,J.f_r,J.f_r,J.f_r,J.f_ai,J.f_aj,J.f_ak,J.f_B,J.f_K])
section
variable {P:Program}{w:World}{K:Frag}{mg:zM}{base:Heap}{J:TA}
theorem f8_ {C:Addr}{names:List Str}{vs:List V}{H:Hp}{Q:VK}{E:XK} (h:bZ_ C names vs H Q E):vs.length=names.length+1:=by
 obtain ⟨p,dx,args,rfl,hl,_⟩:=h;rw [length_cons,hl]
theorem ok_R (T:TX w K mg J):FnOk P w K mg base CX0 1 J.f_R J.d_R ["byte"] (spB Vaunid.isSmall):=by
 refine T.F_R.fn.ok sc_R fun _ _ _ _ H _ Q E hr h=>?_;obtain ⟨n,rfl,k⟩:=h;refine ⟨_,(ad_ (aj_ (fT_ gY_ gY_ ah_ (pv 0) ah_))),?_⟩;simp! [tSeq];have e:Vaunid.isSmall n=(decide ((97:Int)<=n) && decide ((n:Int)<=122)):=by unfold Vaunid.isSmall;congr 1 <;> exact decide_eq_decide.mpr (by omega)
 rw [e] at k;split <;> rename_i q <;> simpa [q] using k
theorem ok_u (T:TX w K mg J):FnOk P w K mg base CX0 1 J.f_u J.d_u ["byte"] (spB Vaunid.isDigit):=by
 refine T.F_u.fn.ok sc_u fun _ _ _ _ H _ Q E hr h=>?_;obtain ⟨n,rfl,k⟩:=h;refine ⟨_,(ad_ (aj_ (fT_ gY_ gY_ ah_ (pv 0) ah_))),?_⟩;simp! [tSeq];have e:Vaunid.isDigit n=(decide ((48:Int)<=n) && decide ((n:Int)<=57)):=by unfold Vaunid.isDigit;congr 1 <;> exact decide_eq_decide.mpr (by omega)
 rw [e] at k;split <;> rename_i q <;> simpa [q] using k
theorem ok_O (T:TX w K mg J):FnOk P w K mg base CX0 2 J.f_O J.d_O ["byte"] (spB Vaunid.inWord):=by
 refine T.F_O.fn.ok sc_O fun _ _ _ _ H _ Q E hr h=>?_;obtain ⟨n,rfl,k⟩:=h;refine ⟨_,(ad_ (aj_ (n9_ (aH_ T.F_R (ok_R T) hr.m ak_ (aa_ (pv 0) ab_)) (n9_ (aH_ T.F_u (ok_u T) hr.m ak_ (aa_ (pv 0) ab_)) (iL_ (dD_ bD_ (pv 0) ah_ (ar_ _))))))),?_⟩;simp! [tSeq,spB,natCast_inj];have e:decide ((n:Int)=95)=(n == 95):=h1_ n 95;unfold Vaunid.inWord at k;rw [e];cases h1:Vaunid.isSmall n <;> cases h2:Vaunid.isDigit n <;> rw [h1,h2] at k <;> simpa using k
def nS_:Sp:=fun vs H Q _=>∃ l:List Nat,vs=[.str (S l)]/\l.length<=sizeLine/\∀ H',Same H H'->Q (.bl (az_ l)) H'
theorem ok_S (T:TX w K mg J):FnOk P w K mg base CX0 3 J.f_S J.d_S ["text"] nS_:=by
 refine T.F_S.fn.ok sc_S fun _ _ _ _ H _ Q E hr h=>?_;obtain ⟨l,rfl,hl,k⟩:=h;refine ⟨_,(ac_ (aV_ (PW.pt (pw_or (am_ bD_ (pv 0) ao_ (ar_ _)) (pw_or (am_ hT_ (aB_ a2_ rfl T.b_len PySem.boot_len (aa_ (pv 0) ab_)) (pe_g T.g_a2) (ar_ _)) (pw_or1 (nd_ (cM_ (aH_ T.F_R (ok_R T) hr.m ak_ (aa_ (aB_ gj_ rfl T.b_ord eV_ (aa_ (aM_ no_ (pv 0) ah_ (fun _ _=>rfl)) ab_)) ab_)))))))) (ad_ (aj_ jm_)) aq_)
  (ad_ (aj_ (aB_ (ny_ rfl) rfl T.b_all hs_ (aa_ (jl_ rfl sc_S.nd (ni_ (pv 0)) (cG_ (own:=[("sign",1)]) (by kernel_rfl)) (fun _ _ _ _ _=>pg_q 1 sc_S.nd) (fun _ _ _ _ _=>fO_) (fun _ _ _ _ _=>(aH_ T.F_O (ok_O T) hr.m ak_ (aa_ (aB_ gj_ rfl T.b_ord eV_ (aa_ (pv 1) ab_)) ab_)))) ab_))))),?_⟩
 simp! [tSeq,spB,natCast_inj];have k0:=k H (Same.refl H)
 match l,hl,k,k0 with
 | [],hl,k,k0 =>
  exact ite2 (fun _=>k0) fun z=>absurd rfl z
 | c::r,hl,k,k0 =>
  rw [if_neg (by intro z;cases z)];refine ⟨hl,ite2 (fun h=>?_) fun h=>⟨hl,c,a0_ (j:=0) rfl,ite2 (fun h2=>?_) fun h2=>?_⟩⟩
  ·have e:az_ (c::r)=false:=by
    unfold az_;rw [decide_eq_false (by omega)];simp
   rw [e] at k0;exact k0
  ·have e:az_ (c::r)=false:=by
    have h3:Vaunid.isSmall c=false:=by simpa using h2
    unfold az_;rw [headD_cons,h3];simp
   rw [e] at k0;exact k0
  have h3:Vaunid.isSmall c=true:=by simpa using h2
  refine iq_ (Its (S (c::r))) ((c::r).map fun d=>V.str ⟨#[d]⟩) (fun v=>match v with | .str x=>V.bl (Vaunid.inWord (x.cps.getD 0 0)) | _ => .non) (H1:=H) (fun R h=>?_) (by rw [length_map];exact hl) (ns_ (x:=S (c::r))) (fun x H' D zx Nx hx sm hD hacc nx=>?_) fun D H' hD sm e=>?_
  ·simp! [tSeq]
   exact h
  ·obtain ⟨d,hd,rfl⟩:=mem_map.mp hx
   simp! [tSeq,spB,natCast_inj];exact ⟨zx,hD,hacc,nx H' (Same.refl _)⟩
  simp! [tSeq];refine ⟨(c::r).map Vaunid.inWord,SqL.of ?_,?_⟩
  ·rw [e,map_map,map_map]
   rfl
  have e2:az_ (c::r)=((c::r).map Vaunid.inWord).all id:=by
   unfold az_;rw [headD_cons,h3,decide_eq_true (by omega),all_map];rfl
  rw [<- e2];exact k H' sm
theorem ok_T (T:TX w K mg J):FnOk P w K mg base CX0 1 J.f_T J.d_T ["byte"] (spB fun c=>c == 32 || c == 10):=by
 refine T.F_T.fn.ok sc_T fun _ _ _ _ H _ Q E hr h=>?_;obtain ⟨n,rfl,k⟩:=h;refine ⟨_,(ad_ (aj_ (n9_ (dD_ bD_ (pv 0) (pe_g T.g_bb) (ar_ _)) (iL_ (dD_ bD_ (pv 0) (pe_g T.g_aZ) (ar_ _)))))),?_⟩;simp! [tSeq];have e:decide ((n:Int)=10)=(n == 10):=h1_ n 10;rw [e];refine ite2 (fun h=>?_) fun h=>?_
 ·have h':n=32:=by omega
  subst h';exact k
 have h':(n == 32)=false:=by simp;omega
 have k:Q (V.bl (n == 32 || n == 10)) H:=k;rw [h'] at k;exact k
theorem ok_as (T:TX w K mg J):FnOk P w K mg base CX0 1 J.f_as J.d_as ["byte"] (spB Vaunid.inComment):=by
 refine T.F_as.fn.ok sc_as fun _ _ _ _ H _ Q E hr h=>?_;obtain ⟨n,rfl,k⟩:=h;refine ⟨_,(ac_ (aV_ (am_ bD_ (pv 0) (pe_g T.g_aZ) (ar_ _)) (ad_ (aj_ jm_)) aq_)
  (ad_ (aj_ (nk_ (fT_ gY_ gY_ (pe_g T.g_aS) (pv 0) (pe_g T.g_a1)) (iL_ (dD_ gX_ (pv 0) (pe_g T.g_a0) (ar_ _))))))),?_⟩
 simp! [tSeq];have e:Vaunid.inComment n=((decide ((n:Int)=10) || (decide ((32:Int)<=n) && decide ((n:Int)<=126))) && !decide ((n:Int)=125)):=by
  unfold Vaunid.inComment;rw [Bool.eq_iff_iff];simp;omega
 rw [e] at k;split <;> rename_i q
 ·have q2 : ¬ (n:Int)=125:=by omega
  simpa [q,q2] using k
 split <;> rename_i q1
 ·split <;> rename_i q2 <;> simpa [q,q1,q2] using k
 simpa [q,q1] using k
theorem ok_at (T:TX w K mg J):FnOk P w K mg base CX0 1 J.f_at J.d_at ["byte"] (spB fun c=>c != 93):=by
 refine T.F_at.fn.ok sc_at fun _ _ _ _ H _ Q E hr h=>?_;obtain ⟨n,rfl,k⟩:=h;refine ⟨_,(ad_ (aj_ (dD_ gX_ (pv 0) (pe_g T.g_be) (ar_ _)))),?_⟩;simp! [tSeq];have e:decide ((n:Int)=93)=(n == 93):=h1_ n 93;rw [e];exact k
def hJ_ (P:Program) (w:World) (K:Frag) (mg:zM) (base:Heap):Sp:=fun vs H Q _=>∃ (a f:Addr) (t:List Nat) (p:Nat) (b:Nat->Bool),vs=[.ref a,.int (p:Int),.ref f]/\SqL K H a (bs t)/\jO_ P w K mg base 2 f b /\
 Q (.int ((p+((t.drop p).takeWhile b).length:Nat):Int)) H
theorem ok_s (T:TX w K mg J):FnOk P w K mg base CX0 3 J.f_s J.d_s ["text","place","belongs"] (hJ_ P w K mg base):=by
 refine T.F_s.fn.ok sc_s fun _ _ _ _ H _ Q E hr h=>?_;obtain ⟨a,f,t,p,b,rfl,ht,⟨fd,ps,F,hb,hk⟩,k⟩:=h;refine ⟨_,(ac_ (cd_ PassesOwn.never (PW.pt (pw_and (am_ hS_ (pv 1) (aB_ aG_ rfl T.b_len PySem.boot_len (aa_ (pv 0) ab_)) (ar_ _)) (pw_and1 (cM_ (cC_ (CX:=CX0) (k:=2) 2 hr.m ak_ (aa_ (aM_ aw_ (pv 0) (pv 1) (fun _ _=>rfl)) ab_)))))) (ad_ (nh_ (i:=1) sc_s.nd rfl (Or.inl rfl) ah_ pR_)))
  (ad_ (aj_ (pv 1)))),?_⟩
 simp! [tSeq];obtain ⟨Pv,hPv⟩ : ∃ Pv:Nat->L2.St->Hp->Prop,Pv=fun m σ H'=>H'=H/\∃ j,m=t.length - (p+j)/\σ=[some (.ref a),some (.int ((p+j:Nat):Int)),some (.ref f)]/\((t.drop p).takeWhile b).length=j+((t.drop (p+j)).takeWhile b).length:=⟨_,rfl⟩;refine cR_ Pv _ (by rw [hPv];exact ⟨rfl,0,rfl,rfl,by simp⟩) fun m σ H' hp=>?_;rw [hPv] at hp;obtain ⟨rfl,j,rfl,rfl,hj⟩:=hp;simp! [tSeq,e9_];refine ⟨bs t,.inl ht,ite2 (fun h=>?_) fun h=>?_⟩
 ·rw [ck_] at h
  have hlt:p+j<t.length:=by omega
  refine ⟨fd,ps,spB b,F,hb,hk,bs t,ht,_,a0_ (dX_ (getElem?_eq_getElem hlt)),?_⟩;simp! [tSeq,spB,natCast_inj];have hd:t.drop (p+j)=t[p+j]::t.drop (p+j+1):=drop_eq_getElem_cons hlt;rw [hd,takeWhile_cons] at hj;refine cE_ (fun q=>⟨_,fun _ _ z=>z,t.length - (p+(j+1)),by omega,?_⟩) fun q=>?_
  ·rw [hPv]
   refine ⟨rfl,j+1,rfl,?_,?_⟩
   ·have e:((p+j:Nat):Int)+1=((p+(j+1):Nat):Int):=by omega
    rw [e]
   rw [q,if_pos rfl,length_cons] at hj;rw [hj,show p+(j+1)=p+j+1 by omega];omega
  rw [q,if_neg (by simp)] at hj;have e:p+(List.takeWhile b (List.drop p t)).length=p+j:=by rw [hj];rfl
  rw [e] at k;exact k
 rw [ck_] at h;have hd:t.drop (p+j)=[]:=drop_eq_nil_of_le (by omega);rw [hd] at hj;have e:p+(List.takeWhile b (List.drop p t)).length=p+j:=by rw [hj];rfl
 rw [e] at k;exact k
def m4_:Sp:=fun vs H Q _=>∃ n:Nat,vs=[.int (n:Int)]/\Q (.str ⟨#[sgn n]⟩) H
theorem jj_ (n:Nat) (h1:32<=n) (h2:n<=126):(tl (ofString " !\"#$?&'()*+,-./0123456789:;<=>?@ABCDEFGHIJKLMNOPQRSTUVWXYZ[\\]^_`abcdefghijklmnopqrstuvwxyz{|}~"))[n - 32]? = some (sgn n):=by
 have key : ∀ m:Fin 95,(tl (ofString " !\"#$?&'()*+,-./0123456789:;<=>?@ABCDEFGHIJKLMNOPQRSTUVWXYZ[\\]^_`abcdefghijklmnopqrstuvwxyz{|}~"))[m.1]? = some (sgn (m.1+32)):=by left
 have e:=key ⟨n - 32,by omega⟩;rw [show n=n - 32+32 by omega];simpa using e
theorem ok_aK (T:TX w K mg J):FnOk P w K mg base CX0 1 J.f_aK J.d_aK ["byte"] m4_:=by
 refine T.F_aK.fn.ok sc_aK fun _ _ _ _ H _ Q E hr h=>?_;obtain ⟨n,rfl,k⟩:=h;refine ⟨_,(ac_ (aV_ (lZ_ gY_ gY_ (pe_g T.g_aS) (pv 0) (pe_g T.g_a1)) (ad_ (aj_ (aM_ no_ (pe_g T.g_bf) (bt_ fm_ (pv 0) (pe_g T.g_aS)) (fun _ _=>rfl)))) aq_)
  (ad_ (aj_ ao_))),?_⟩
 simp! [tSeq];refine ite2 (fun h1=>ite2 (fun h2=>?_) fun h2=>?_) fun h1=>?_
 ·refine ⟨by left,sgn n,?_,k⟩
  have e:(n:Int) - 32=((n - 32:Nat):Int):=by omega
  rw [e];exact a0_ (jj_ n (by omega) (by omega))
 ·have e:sgn n=63:=by unfold sgn;rw [if_neg (by omega)]
  rw [e] at k;exact k
 have e:sgn n=63:=by unfold sgn;rw [if_neg (by omega)]
 rw [e] at k;exact k
def eu_ (K:Frag):Sp:=fun vs H Q _=>∃ (a:Addr) (t:List Nat),vs=[.ref a]/\SqL K H a (bs t)/\t.length<=1000000/\∀ H',Same H H'->Q (.str (S (t.map sgn))) H'
theorem hc_ : ∀ l:List Nat,eJ_ [] (l.map fun c=>[c])=l
 | []=>rfl
 | [c]=>rfl
 | c::d::r=>by
  have ih:=hc_ (d::r);show c::([]++eJ_ [] ((d::r).map fun c=>[c]))=_;rw [ih];rfl
theorem iu_ : ∀ l:List Nat,((l.map fun c=>(⟨#[c]⟩:Str)).map (·.length)).sum=l.length
 | []=>rfl
 | c::r=>by
  have ih:=iu_ r;simp only [map_cons,sum_cons,length_cons,ih];show 1+r.length=r.length+1;omega
theorem ok_x (T:TX w K mg J):FnOk P w K mg base CX0 2 J.f_x J.d_x ["some_bytes"] (eu_ K):=by
 refine T.F_x.fn.ok sc_x fun _ _ _ _ H _ Q E hr h=>?_;obtain ⟨a,t,rfl,ht,hl,k⟩:=h;refine ⟨_,(ad_ (aj_ (ob_ ao_ (jl_ rfl sc_x.nd (fQ_ (pv 0)) (cG_ (own:=[("byte",1)]) (by kernel_rfl)) (fun _ _ _ _ _=>pg_q 1 sc_x.nd) (fun _ _ _ _ _=>fO_) (fun _ _ _ _ _=>(aH_ T.F_aK (ok_aK T) hr.m ak_ (aa_ (pv 1) ab_))))))),?_⟩;simp! [tSeq];refine iq_ (Itl K a) (bs t) (fun v=>match v with | .int n=>V.str ⟨#[sgn n.toNat]⟩ | _ => .non) (H1:=H) (fun R h=>?_) (by rw [ck_];exact Nat.le_trans hl (by decide)) (gd_ ht) (fun x H' D zx Nx hx sm hD hacc nx=>?_) fun D H' hD sm e=>?_
 ·simp! [tSeq]
  exact ⟨⟨_,ht⟩,h⟩
 ·obtain ⟨d,hd,rfl⟩:=mem_map.mp hx
  simp! [tSeq,m4_,natCast_inj];exact ⟨zx,hD,hacc,nx H' (Same.refl _)⟩
 simp! [tSeq];refine ⟨t.map fun c=>⟨#[sgn c]⟩,.inl (SqL.of ?_),?_,?_⟩
 ·rw [e]
  unfold bs;rw [map_map,map_map];rfl
 ·have e1:(t.map fun c=>(⟨#[sgn c]⟩:Str))=(t.map sgn).map fun c=>(⟨#[c]⟩:Str):=by rw [map_map];rfl
  rw [e1,iu_,length_map,length_map];show t.length+t.length * 0<=16777216;omega
 have e1:Txt.join (ofString "") (t.map fun c=>(⟨#[sgn c]⟩:Str))=S (t.map sgn):=by
  refine cv_ ?_;rw [oA_,hF_,map_map];have e2:(t.map (tl ∘ fun c=>(⟨#[sgn c]⟩:Str)))=(t.map sgn).map fun c=>[c]:=by rw [map_map];rfl
  rw [e2];exact hc_ _
 rw [e1];exact k H' sm
theorem ok_f (T:TX w K mg J):FnOk P w K mg base CX0 1 J.f_z J.d_z ["self","over","under","measure"] (bZ_ J.C_f ["over","under","measure"]):=by
 refine T.F_z.ok sc_z (fun _ _ _ _ H _ Q E hr h=>?_) fun _ _ _ _ h=>f8_ h;obtain ⟨p,dx,args,rfl,hl,hp,k⟩:=h;obtain ⟨a,b,c,rfl⟩:=len3 hl;refine ⟨_,(ac_ (aZ_ (pv 0) (pv 1) rfl)
  (ac_ (aZ_ (pv 0) (pv 2) rfl)
  (ad_ (aZ_ (pv 0) (pv 3) rfl)))),?_⟩
 simp! [tSeq,sFld];refine ⟨_,_,_,hp,T.cl_f,T.n_aU,(by decide),T.cl_f,T.n_aV,few1,T.cl_f,T.n_a5,few2,?_⟩;exact k
def ix_ (K:Frag):Sp:=fun vs H Q _=>∃ (a:Addr) (t:List Nat) (p:Nat),vs=[.ref a,.int (p:Int)]/\SqL K H a (bs t)/\p<=t.length/\∀ H',Same H H'->Q (.int ((p+(numberText (t.drop p)).1:Nat):Int)) H'
theorem ok_aB (T:TX w K mg J):FnOk P w K mg base CX0 4 J.f_aB J.d_aB ["text","begin"] (ix_ K):=by
 have PD:jO_ P w K mg base 2 J.f_u Vaunid.isDigit:=⟨_,_,(ok_u T).mono (by decide),T.F_u.b,T.F_u.fn.kp⟩;refine T.F_aB.fn.ok sc_aB fun _ _ _ _ H _ Q E hr h=>?_;obtain ⟨a,t,p,rfl,ht,hp,k⟩:=h;refine ⟨_,(ac_ (aC_ 2 sc_aB.nd (aH_ T.F_s (ok_s T) hr.m ak_ (aa_ (pv 0) (aa_ (pv 1) (aa_ (pe_r T.F_u.mg) ab_)))))
  (ac_ (aV_ (PW.pt (pw_and (am_ hS_ (bt_ cN_ (pv 2) ah_) (aB_ aG_ rfl T.b_len PySem.boot_len (aa_ (pv 0) ab_)) (ar_ _)) (pw_and (am_ eE_ (aM_ aw_ (pv 0) (pv 2) (fun _ _=>rfl)) (pe_r T.g_ap) rfl) (pw_and1 (cM_ (aH_ T.F_u (ok_u T) hr.m ak_ (aa_ (aM_ aw_ (pv 0) (bt_ cN_ (pv 2) ah_) (fun _ _=>rfl)) ab_))))))) (ad_ (aC_ 2 sc_aB.nd (aH_ T.F_s (ok_s T) hr.m ak_ (aa_ (pv 0) (aa_ (bt_ cN_ (pv 2) ah_) (aa_ (pe_r T.F_u.mg) ab_)))))) aq_)
  (ad_ (aj_ (pv 2))))),?_⟩
 simp! [tSeq,hJ_];refine ⟨t,ht,Vaunid.isDigit,PD,bs t,.inl ht,?_⟩;rw [ck_];have k0:=k H (Same.refl H);refine ite2 (fun h=>?_) fun h=>?_
 ·have hlt:p+((t.drop p).takeWhile Vaunid.isDigit).length+1<t.length:=by omega
  have h1:t[p+((t.drop p).takeWhile Vaunid.isDigit).length]? = some _:=getElem?_eq_getElem (by omega);have h2:t[p+((t.drop p).takeWhile Vaunid.isDigit).length+1]? = some _:=getElem?_eq_getElem hlt;refine ⟨bs t,ht,_,a0_ (dX_ h1),_,.inr (T.t_ap H),rfl,rfl,?_⟩;rw [oF_];have nl:=mh_ h1 h2;refine ite2 (fun q=>⟨bs t,ht,_,a0_ (dX_ h2),?_⟩) fun q=>?_
  ·simp! [tSeq,spB]
   have q':=of_decide_eq_true q;refine cE_ (fun r=>?_) fun r=>?_
   ·rw [if_pos ⟨q'.symm,r⟩] at nl
    refine ⟨_,_,_,rfl,rfl,ht,_,PD,?_⟩;rw [nl,<- add_assoc,<- add_assoc] at k0;exact k0
   rw [if_neg (by rw [r];simp)] at nl;rw [nl] at k0;exact k0
  rw [if_neg (fun z=>q (decide_eq_true z.1.symm))] at nl;rw [nl] at k0;exact k0
 rw [kM_ (by omega)] at k0;exact k0
def pj_:Sp:=fun vs H Q _=>∃ o u:Nat,vs=[.int (o:Int),.int (u:Int)]/\Q (.int (Nat.gcd o u:Int)) H
theorem ok_au (T:TX w K mg J):FnOk P w K mg base CX0 1 J.f_au J.d_au ["first","second"] pj_:=by
 refine T.F_au.fn.ok sc_au fun _ _ _ _ H _ Q E hr h=>?_;obtain ⟨o,u,rfl,k⟩:=h;refine ⟨_,(ac_ (cd_ PassesOwn.never (am_ gX_ (pv 1) ah_ (ar_ _)) (ac_ (aC_ 2 sc_au.nd (bt_ px_ (pv 0) (pv 1)))
  (ac_ (aC_ 0 sc_au.nd (pv 1))
  (ad_ (aC_ 1 sc_au.nd (pv 2))))))
  (ad_ (aj_ (pv 0)))),?_⟩
 simp! [tSeq];obtain ⟨Pv,hPv⟩ : ∃ Pv:Nat->L2.St->Hp->Prop,Pv=fun m σ H'=>H'=H/\∃ (x y:Nat) (z:Option V),m=y/\σ=[some (.int (x:Int)),some (.int (y:Int)),z]/\Nat.gcd x y=Nat.gcd o u:=⟨_,rfl⟩;refine cR_ Pv _ (by rw [hPv];exact ⟨rfl,o,u,none,rfl,rfl,rfl⟩) fun m σ H' hp=>?_;rw [hPv] at hp;obtain ⟨rfl,x,y,z,rfl,rfl,hg⟩:=hp;simp! [tSeq];refine ite2 (fun h=>⟨_,fun _ _ q=>q,?_,x % m,?_,?_⟩) fun h=>?_
 ·simp at h
  omega
 ·have:m≠0:=by
   intro e;subst e;simp at h
  exact Nat.mod_lt _ (Nat.pos_of_ne_zero this)
 ·rw [hPv]
  refine ⟨rfl,m,x % m,_,rfl,by rw [<- Int.natCast_emod],?_⟩;rw [<- hg,Nat.gcd_comm x m,Nat.gcd_rec m x,Nat.gcd_comm]
 have e:m=0:=by simp at h;omega
 subst e;rw [Nat.gcd_zero_right] at hg;rw [hg];exact k
def lS_ (C:Addr):Sp:=fun vs H Q _=>∃ o u:Nat,vs=[.int (o:Int),.int (u:Int)]/\u<2 ^ 200/\eZ_ C H Q (M.iX_ o u)
theorem ok_H (T:TX w K mg J):FnOk P w K mg base CX0 3 J.f_H J.d_H ["over","under"] (lS_ J.C_f):=by
 refine T.F_H.fn.ok sc_H fun _ _ _ _ H _ Q E hr h=>?_;obtain ⟨o,u,rfl,hu,k⟩:=h;refine ⟨_,(ac_ (aV_ (am_ bD_ (pv 1) ah_ (ar_ _)) (ad_ (aj_ kC_)) aq_)
  (ac_ (aC_ 2 sc_H.nd (aH_ T.F_au (ok_au T) hr.m ak_ (aa_ (pv 0) (aa_ (pv 1) ab_))))
  (ac_ (aC_ 0 sc_H.nd (bt_ iM_ (pv 0) (pv 2)))
  (ac_ (aC_ 1 sc_H.nd (bt_ iM_ (pv 1) (pv 2)))
  (ac_ (aV_ (PW.pt (pw_or (am_ of_ (pv 0) (pe_g T.g_a3) (ar_ _)) (pw_or1 (am_ of_ (pv 1) (pe_g T.g_a3) (ar_ _))))) (ad_ (aj_ kC_)) aq_)
  (ad_ (aj_ (bC_ T.M_f (ok_f T) hr.m rfl T.G_f T.b_z .nil ak_ (aa_ (pv 0) (aa_ (pv 1) (aa_ ao_ ab_))))))))))),?_⟩
 simp! [tSeq,pj_,db_,bZ_];unfold M.iX_ at k;refine ite2 (fun h=>?_) fun h=>?_
 ·rw [if_pos (by omega)] at k
  exact k H (Same.refl H)
 have hu0:u≠0:=by omega
 have hg:0<o.gcd u:=Nat.gcd_pos_of_pos_right _ (Nat.pos_of_ne_zero hu0);have hg2:o.gcd u<=u:=Nat.gcd_le_right _ (Nat.pos_of_ne_zero hu0);have cd : ∀ i:Int,qh_ i ((o.gcd u:Nat):Int):=fun i=>⟨by omega,jx_ (by rw [Int.natAbs_natCast];omega)⟩;rw [if_neg hu0] at k;refine ⟨cd _,cd _,?_⟩;rw [<- Int.natCast_ediv,<- Int.natCast_ediv];refine ite2 (fun h1=>?_) fun h1=>ite2 (fun h2=>?_) fun h2=>?_
 ·rw [if_pos (.inl (by omega))] at k
  exact k H (Same.refl H)
 ·rw [if_pos (.inr (by omega))] at k
  exact k H (Same.refl H)
 rw [if_neg (by omega)] at k;intro x dx hx hdx hne;exact k x _ (aU_ hx hdx) ⟨dx,af_⟩
def pl_ (C:Addr):Sp:=fun vs H Q _=>∃ (a b:List Nat) (c:Nat),vs=[.str (S (a++(if c=0 then [] else c::b)))]/\(∀ x∈a,Vaunid.isDigit x=true)/\a≠[]/\a.length+b.length<=100000 /\
 ((c=0/\b=[])\/((c=46\/c=47)/\b≠[]/\∀ x∈b,Vaunid.isDigit x=true))/\eZ_ C H Q (frac a c b)
theorem ok_U (T:TX w K mg J):FnOk P w K mg base CX0 4 J.f_U J.d_U ["spelling"] (pl_ J.C_f):=by
 refine T.F_U.fn.ok sc_U fun _ _ _ _ H _ Q E hr h=>?_;obtain ⟨a,b,c,rfl,ha,hne,hl,hc,k⟩:=h;refine ⟨_,(ac_ (aC_ 1 sc_U.nd (dD_ jr_ ao_ (pv 0) rfl))
  (ac_ (aC_ 2 sc_U.nd (ec_ (cM_ (pv 1)) (iK_ (pv 0) ao_) (iK_ (pv 0) ao_)))
  (ac_ (aV_ (am_ hT_ (aB_ (p8_ rfl) rfl T.b_max lw_ (aa_ (jl_ rfl sc_U.nd (fQ_ (pv 2)) (cG_ (own:=[("row",3)]) (by kernel_rfl)) (fun _ _ _ _ _=>pg_q 3 sc_U.nd) (fun _ _ _ _ _=>fO_) (fun _ _ _ _ _=>(aB_ a2_ rfl T.b_len PySem.boot_len (aa_ (pv 3) ab_)))) ab_)) (pe_g T.g_bg) (ar_ _)) (ad_ (aj_ kC_)) aq_)
  (ac_ (aV_ (cM_ (pv 1)) (ad_ (aj_ (aH_ T.F_H (ok_H T) hr.m ak_ (aa_ (bp_ bA_ rfl T.b_int ca_ (aa_ (aM_ aw_ (pv 2) ah_ (fun _ _=>rfl)) ab_)) (aa_ (bp_ bA_ rfl T.b_int ca_ (aa_ (aM_ aw_ (pv 2) ah_ (fun _ _=>rfl)) ab_)) ab_))))) aq_)
  (ac_ (aV_ (am_ bD_ (aB_ aG_ rfl T.b_len PySem.boot_len (aa_ (pv 2) ab_)) ah_ (ar_ _)) (ad_ (aj_ (aH_ T.F_H (ok_H T) hr.m ak_ (aa_ (bp_ bA_ rfl T.b_int ca_ (aa_ (bt_ bv_ (aM_ aw_ (pv 2) ah_ (fun _ _=>rfl)) (aM_ aw_ (pv 2) ah_ (fun _ _=>rfl))) ab_)) (aa_ (bp_ bA_ rfl T.b_int ca_ (aa_ (bt_ bv_ ao_ (bt_ jq_ ao_ (aB_ a2_ rfl T.b_len PySem.boot_len (aa_ (aM_ aw_ (pv 2) ah_ (fun _ _=>rfl)) ab_)))) ab_)) ab_))))) aq_)
  (ad_ (aj_ (aH_ T.F_H (ok_H T) hr.m ak_ (aa_ (bp_ bA_ rfl T.b_int ca_ (aa_ (aM_ aw_ (pv 2) ah_ (fun _ _=>rfl)) ab_)) (aa_ ah_ ab_)))))))))),?_⟩
 simp! [tSeq];refine ⟨47,kj_,?_⟩;have big : ∀ n:Nat,n<=100001->n+2<=sizeLine:=fun n h=>Nat.le_trans (Nat.add_le_add_right h 2) (by decide);have big2 : ∀ n:Nat,n<=100001->n<=sizeLine:=fun n h=>Nat.le_trans (Nat.le_add_right n 2) (big n h);have p12:(10:Nat) ^ 12<2 ^ 200:=by decide
 have n47:47∉a:=fun m=>by have:=ha _ m;revert this;decide
 have dotne:((ofString ".").length == 0)=false:=by left
 have slane:((ofString "/").length == 0)=false:=by left
 rcases hc with ⟨rfl,rfl⟩ | ⟨rfl | rfl,hb,hbd⟩
 ·simp only [if_true,append_nil]
  rw [if_neg (by rw [e3_];exact n47)];refine ⟨dotne,big _ (by simp at hl;omega),?_⟩;rw [mI_ ha];intro p hp;refine f7_ af_ (by intro y hy;rw [mem_singleton.mp hy,a7_];exact big2 _ (by simp at hl;omega)) (by show 1<=sizeLine;decide) fun D H' sm e=>?_;have hpp:H' p=some (.lst [.str (S a)]):=sm _ _ af_;have sm2:Same H H':=(Same.upd hp).trans sm;simp! [tSeq];refine ⟨[((S a).length:Int)],SqL.of e,by simp,fun m hm hmax=>?_⟩;rw [mem_singleton.mp hm,a7_];refine ite2 (fun h=>?_) fun h=>?_
  ·rw [eN_ (.inl (by omega))] at k
   exact k _ sm2
  rw [if_neg (by rw [e3_];exact n47)];refine ⟨_,.inl (SqL.of hpp),?_⟩;rw [if_neg (by simp)];refine ⟨_,SqL.of hpp,_,rfl,_,rfl,_,hf_ ha hne (by omega),by rw [a7_];omega,?_⟩;rw [c1_ (by omega) (by decide)] at k;exact ⟨_,1,rfl,by decide,k.mono sm2⟩
 ·have e0:(a++if 46=0 then [] else 46::b)=a++46::b:=rfl
  rw [e0];have n47b:47∉a++46::b:=fun m=>by
   rcases mem_append.mp m with q | q
   ·exact n47 q
   rcases mem_cons.mp q with q | q
   ·cases q
   have:=hbd _ q;revert this;decide
  have zp:(a++46::b).length<=100001:=by rw [length_append,length_cons];omega
  rw [if_neg (by rw [e3_];exact n47b)];refine ⟨dotne,big _ zp,?_⟩;rw [oQ_ ha hbd];intro p hp;refine f7_ af_ (by intro y hy;exact (mem_cons.mp hy).elim (fun q=>by rw [q,a7_];exact big2 _ (by omega)) fun q=>by rw [mem_singleton.mp q,a7_];exact big2 _ (by omega)) (by show 2<=sizeLine;decide) fun D H' sm e=>?_;have hpp:H' p=some (.lst [.str (S a),.str (S b)]):=sm _ _ af_;have sm2:Same H H':=(Same.upd hp).trans sm;simp! [tSeq];refine ⟨[((S a).length:Int),((S b).length:Int)],SqL.of e,by simp,fun m hm hmax=>?_⟩;have m1:=hmax ((S a).length:Int) (by simp);have m2:=hmax ((S b).length:Int) (by simp);rw [a7_] at m1 m2;have m3:m=(a.length:Int)\/m=(b.length:Int):=by
   rcases mem_cons.mp hm with q | q
   ·rw [q,a7_];exact .inl rfl
   rw [mem_singleton.mp q,a7_];exact .inr rfl
  refine ite2 (fun h=>?_) fun h=>?_
  ·rw [eN_ (by omega)] at k
   exact k _ sm2
  rw [if_neg (by rw [e3_];exact n47b)];refine ⟨_,.inl (SqL.of hpp),?_⟩;rw [if_pos (by simp)];have hl24:(a++b).length<=24:=by rw [length_append];omega
  have hab : ∀ x∈a++b,Vaunid.isDigit x=true:=fun x hx=>(mem_append.mp hx).elim (ha x) (hbd x);obtain ⟨t1,t2,t3⟩:=og_ b.length (by omega);refine ⟨_,SqL.of hpp,_,rfl,_,SqL.of hpp,_,rfl,_,rfl,_,rfl,?_⟩;rw [hy_,a7_,a7_,a7_];refine ⟨big2 _ (by omega),_,hf_ hab (by simp [hne]) (by omega),by omega,_,SqL.of hpp,_,rfl,_,rfl,?_⟩;rw [a7_];refine ⟨big2 _ (by omega),pC_ _ (by omega),t3,_,t1,t2,?_⟩;rw [c1_ (by omega) (by omega)] at k;exact ⟨_,10 ^ b.length,rfl,Nat.lt_of_le_of_lt (ff_ (by omega)) p12,k.mono sm2⟩
 have e0:(a++if 47=0 then [] else 47::b)=a++47::b:=rfl;rw [e0];have i47:47∈a++47::b:=by simp
 have zp:(a++47::b).length<=100001:=by rw [length_append,length_cons];omega
 rw [if_pos (by rw [e3_];exact i47)];refine ⟨slane,big _ zp,?_⟩;rw [kk_ ha hbd];intro p hp;refine f7_ af_ (by intro y hy;exact (mem_cons.mp hy).elim (fun q=>by rw [q,a7_];exact big2 _ (by omega)) fun q=>by rw [mem_singleton.mp q,a7_];exact big2 _ (by omega)) (by show 2<=sizeLine;decide) fun D H' sm e=>?_;have hpp:H' p=some (.lst [.str (S a),.str (S b)]):=sm _ _ af_;have sm2:Same H H':=(Same.upd hp).trans sm;simp! [tSeq];refine ⟨[((S a).length:Int),((S b).length:Int)],SqL.of e,by simp,fun m hm hmax=>?_⟩;have m1:=hmax ((S a).length:Int) (by simp);have m2:=hmax ((S b).length:Int) (by simp);rw [a7_] at m1 m2;have m3:m=(a.length:Int)\/m=(b.length:Int):=by
  rcases mem_cons.mp hm with q | q
  ·rw [q,a7_];exact .inl rfl
  rw [mem_singleton.mp q,a7_];exact .inr rfl
 refine ite2 (fun h=>?_) fun h=>?_
 ·rw [eN_ (by omega)] at k
  exact k _ sm2
 rw [if_pos (by rw [e3_];exact i47)];refine ⟨_,SqL.of hpp,_,rfl,_,rfl,_,hf_ ha hne (by omega),by rw [a7_];omega,_,SqL.of hpp,_,rfl,_,rfl,_,hf_ hbd hb (by omega),by rw [a7_];omega,?_⟩;rw [c1_ (by omega) (by omega)] at k;exact ⟨_,_,rfl,Nat.lt_trans (p5_ hbd (by omega)) p12,k.mono sm2⟩
def nT_:Sp:=fun vs H Q _=>∃ l:List Nat,vs=[.str (S l)]/\l.length<=sizeLine/\∀ H',Same H H'->Q (.bl (bl_ l)) H'
theorem ok_ax (T:TX w K mg J):FnOk P w K mg base CX0 2 J.f_ax J.d_ax ["power"] nT_:=by
 refine T.F_ax.fn.ok sc_ax fun _ _ _ _ H _ Q E hr h=>?_;obtain ⟨l,rfl,hl,k⟩:=h;refine ⟨_,(ac_ (aC_ 1 sc_ax.nd (ec_ (cM_ (l4_ F.slot_str_startswith F.type_str_startswith f1_ (pv 0) ao_)) (bc_ m8_ (pv 0) (a9_ ah_) ce_) (pv 0)))
  (ac_ (aV_ (PW.pt (pw_or (am_ bD_ (pv 1) ao_ (ar_ _)) (pw_or1 (am_ hT_ (aB_ a2_ rfl T.b_len PySem.boot_len (aa_ (pv 1) ab_)) (pe_g T.g_bh) (ar_ _))))) (ad_ (aj_ jm_)) aq_)
  (ad_ (aj_ (aB_ (ny_ rfl) rfl T.b_all hs_ (aa_ (jl_ rfl sc_ax.nd (ni_ (pv 1)) (cG_ (own:=[("sign",2)]) (by kernel_rfl)) (fun _ _ _ _ _=>pg_q 2 sc_ax.nd) (fun _ _ _ _ _=>fO_) (fun _ _ _ _ _=>(aH_ T.F_u (ok_u T) hr.m ak_ (aa_ (aB_ gj_ rfl T.b_ord eV_ (aa_ (pv 2) ab_)) ab_)))) ab_)))))),?_⟩
 simp! [tSeq];have k0:=k H (Same.refl H);have part : ∀ d:List Nat,bl_ l=(!d.isEmpty && (decide (d.length<=2) && d.all Vaunid.isDigit))->d.length<=sizeLine->(if S d=ofString "" then Q (V.bl false) H else (S d).length<=sizeLine/\if 2<((S d).length:Int) then Q (V.bl false) H else
   tLc (iStr (tVar 1)) (do_ 2) tYes (cS_ (spB Vaunid.isDigit) [] E0 (a1_ (tCB (fun xs H Q=>∃ x,xs=[V.str x]/\x.length=1/\Q (V.int ↑(x.cps.getD 0 0)) H) (a1_ (tVar 2) tNil)) tNil)) [2] [some (V.str (S l)),some (V.str (S d)),none] H fun x H1 =>
    ∃ a,x=V.ref a/\∃ x,SqL K H1 a (List.map V.bl x)/\Q (V.bl (x.all id)) H1):=fun d hd hdl=>by
  rw [hd] at k0 k;rw [a7_];refine ite2 (fun z=>?_) fun z=>⟨hdl,ite2 (fun z2=>?_) fun z2=>?_⟩
  ·have e:d=[]:=by rw [S_eq] at z;exact z
   subst e;exact k0
  ·rw [decide_eq_false (by omega)] at k0
   simpa using k0
  refine lv_ hdl fun D H' sm e=>⟨D,rfl,d.map Vaunid.isDigit,SqL.of e,?_⟩;have k1:=k H' sm;have e2:(!d.isEmpty && (decide (d.length<=2) && d.all Vaunid.isDigit))=(d.map Vaunid.isDigit).all id:=by
   rw [decide_eq_true (by omega),all_map];cases d with
   | nil=>exact absurd (by rw [S_eq];rfl) z
   | cons c r=>rfl
  rw [e2] at k1;exact k1
 have ec:cutS (S l) (some 1) none=S (l.drop 1):=mL_ l 1;rw [gB_,ec];refine ite2 (fun h=>?_) fun h=>?_
 ·have hh:=of_decide_eq_true h
  refine ⟨hl,part (l.drop 1) ?_ (by rw [length_drop];omega)⟩;unfold bl_;rw [if_pos hh];cases l with
  | nil=>cases hh
  | cons c r=>rfl
 have hh : ¬ l.head? = some 45:=fun z=>h (decide_eq_true z);have:=part l (by unfold bl_;rw [if_neg hh]) hl;simp only [S_eq,a7_] at this;exact this
def lT_:Sp:=fun vs H Q _=>∃ l:List Nat,vs=[.str (S l)]/\l.length<=sizeLine/\∀ H',Same H H'->Q (.bl (av_ l)) H'
theorem ok_aw (T:TX w K mg J):FnOk P w K mg base CX0 4 J.f_aw J.d_aw ["factor"] lT_:=by
 refine T.F_aw.fn.ok sc_aw fun _ _ _ _ H _ Q E hr h=>?_;obtain ⟨l,rfl,hl,k⟩:=h;refine ⟨_,(ac_ (aV_ (am_ bD_ (pv 0) ao_ (ar_ _)) (ad_ (aj_ jm_)) aq_)
  (ac_ (aV_ (am_ fY_ ao_ (pv 0) rfl) (ad_ (aj_ (aH_ T.F_S (ok_S T) hr.m ak_ (aa_ (pv 0) ab_)))) aq_)
  (ac_ (aC_ 1 sc_aw.nd (gS_ (pv 0) ao_))
  (ad_ (aj_ (nk_ (aH_ T.F_S (ok_S T) hr.m ak_ (aa_ (aM_ b7_ (pv 1) ah_ (fun _ _=>rfl)) ab_)) (iL_ (aH_ T.F_ax (ok_ax T) hr.m ak_ (aa_ (aM_ b7_ (pv 1) ah_ (fun _ _=>rfl)) ab_))))))))),?_⟩
 simp! [tSeq];have k0:=k H (Same.refl H);refine ite2 (fun h=>?_) fun h=>⟨94,oH_,?_⟩
 ·have e:av_ l=true:=by rw [h];left
  rw [e] at k0;exact k0
 have h1:(l == [49])=false:=by
  cases q:l == [49] with
  | false=>rfl
  | true=>exact absurd ((eq_of_beq q).trans (by left)) h
 rw [e3_];have hc:l.contains 94=decide (94∈l):=by rw [Bool.eq_iff_iff];simp
 refine ite2 (fun q=>?_) fun q=>?_
 ·have q' : ¬ 94∈l:=by simpa using q
  have e:av_ l=az_ l:=by
   unfold av_;rw [h1,hc,decide_eq_false q'];rfl
  refine ⟨l,rfl,hl,?_⟩;rw [e] at k;exact k
 have q':94∈l:=by simpa using q
 have e:av_ l=(az_ (l.takeWhile (· != 94)) && bl_ ((l.dropWhile (· != 94)).drop 1)):=by
  unfold av_;rw [h1,hc,decide_eq_true q'];rfl
 rw [e] at k;refine ⟨by left,hl,fun p hp=>⟨_,SqT.of af_,_,rfl,?_⟩⟩;rw [ma_ q'];refine ⟨_,rfl,Nat.le_trans (cI_ _ _) hl,fun H' sm=>⟨_,rfl,?_⟩⟩;have sm2:Same H H':=(Same.upd hp).trans sm;refine cE_ (fun r=>?_) fun r=>?_
 ·refine ⟨_,SqT.of (sm _ _ af_),_,rfl,_,rfl,?_,fun H2 s2=>?_⟩
  ·rw [length_drop,bf_,length_drop]
   omega
  have:=k H2 (sm2.trans s2);rw [r] at this;exact this
 have:=k H' sm2;rw [r] at this;exact this
def ke_:Sp:=fun vs H Q _=>∃ l:List Nat,vs=[.str (S l)]/\l.length<=1000000/\∀ H',Same H H'->Q (.bl (measureText (l.length+1) l)) H'
theorem ok_av (T:TX w K mg J):FnOkT P w K mg base CX0 5 J.f_av J.d_av ["measure"] ke_:=by
 refine T.F_av.fn.okT sc_av (fun _ _ _ _ h=>?_) (fun _ _ _ _ H _ Q E hr h=>?_)
 ·obtain ⟨n,rfl,_⟩:=h
  rfl
 obtain ⟨l,rfl,hl,k⟩:=h;refine ⟨_,(kv_ (n6_ PassesOwn.never rfl (l3_ (pu_ PySem.F.slot_str_split PySem.F.type_str_split iT_ (hO_ (pv 0)) ao_)) (kA_ (i:=1) (sc_av).nd rfl (Or.inl rfl)) (ad_ (aV_ (nd_ (cM_ (eB_ (ok_aw T) (hr.mono (by decide)) rfl T.F_aw.mg T.F_aw.fn.kp T.F_aw.b .nil ak_ (aa_ (pv 1) ab_)))) (ad_ (aj_ jm_)) aq_)))
  (ad_ (aj_ jm_))),?_⟩
 have ea:(Txt.split (Txt.replace (S l) (ofString "/") (ofString ".")) (ofString ".")).map tl=cut sep [] l:=by rw [ey_,er_,hI_]
 have ea2:Txt.split (Txt.replace (S l) (ofString "/") (ofString ".")) (ofString ".")=(cut sep [] l).map S:=by
  refine b6_ ?_;rw [ea,map_map];exact (List.map_id _).symm
 refine bG_ ?_;simp! [tSeq,ea_];rw [ea2];have me:=b5_ (l.length+1) l (by omega);rw [me] at k;have sz:(1000000:Nat)+2<=sizeLine:=by decide
 refine ⟨by omega,by left,by rw [ey_,a7_,length_map];omega,fun p hp=>⟨⟨_,SqL.of af_⟩,?_⟩⟩;refine jF_ (((cut sep [] l).map S).map V.str) (fun i σ H'=>Same (upd H p (HO.lst (List.map V.str (List.map S (cut sep [] l))))) H'/\(∃ z,σ=[some (.str (S l)),z])/\((cut sep [] l).take i).all av_=true) ⟨Same.refl _,⟨_,rfl⟩,rfl⟩ (fun i σ H' _ hp=>SqL.of (hp.1 _ _ af_)) (fun i x σ H' hx hp=>?_) fun σ H' hp=>?_
 ·obtain ⟨sm,⟨z,rfl⟩,hall⟩:=hp
  rw [getElem?_map,getElem?_map] at hx;cases q:(cut sep [] l)[i]? with
  | none=>rw [q] at hx;cases hx
  | some f =>
  rw [q] at hx;cases hx;simp! [tSeq];have hf:=ia_ sep l [] f (mem_of_getElem? q);rw [length_nil] at hf;refine ⟨f,rfl,by omega,fun H2 s2=>⟨_,rfl,?_⟩⟩;have sm2:Same H H2:=((Same.upd hp).trans sm).trans s2;cases r:av_ f with
  | false =>
   have k1:=k H2 sm2;rw [qd_ q r] at k1;exact iteT k1
  | true =>
  refine iteF ⟨sm.trans s2,?_⟩;rw [lK_ q,hall,r];rfl
 obtain ⟨sm,⟨z,rfl⟩,hall⟩:=hp;rw [length_map,length_map,take_length] at hall;have k1:=k H' ((Same.upd hp).trans sm);rw [hall] at k1;exact k1
def fb_ (C:Addr):Sp:=fun vs H Q _=>∃ (a:Addr) (o u:Int) (m l:List Nat),vs=[.ref a,.str (S l)]/\aP_ C H a o u m/\∀ (b:Addr) (H':Hp),Same H H'->aP_ C H' b o u l->Q (.ref b) H'
theorem ok_aL (T:TX w K mg J):FnOk P w K mg base CX0 3 J.f_aL J.d_aL ["amount","measure"] (fb_ J.C_f):=by
 refine T.F_aL.fn.ok sc_aL fun _ _ _ _ H _ Q E hr h=>?_;obtain ⟨a,o,u,m,l,rfl,⟨dx,ha⟩,k⟩:=h;refine ⟨_,(ad_ (aj_ (bC_ T.M_f (ok_f T) hr.m rfl T.G_f T.b_z .nil ak_ (aa_ (al_ (pv 0) rfl) (aa_ (al_ (pv 0) rfl) (aa_ (pv 1) ab_)))))),?_⟩;simp! [tSeq,tFld,db_,bZ_,ha];refine ⟨T.cl_f,T.n_aU,_,rfl,T.cl_f,T.n_aV,_,rfl,fun x dx hx hdx hne=>?_⟩;exact k x _ (aU_ hx hdx) ⟨dx,af_⟩
def ev_ (C:Addr):Sp:=fun vs H Q _=>∃ (a:Addr) (o u:Int) (m:List Nat),vs=[.ref a]/\aP_ C H a o u m/\∀ (b:Addr) (H':Hp),Same H H'->aP_ C H' b (-o) u m->Q (.ref b) H'
theorem ok_aC (T:TX w K mg J):FnOk P w K mg base CX0 3 J.f_aC J.d_aC ["amount"] (ev_ J.C_f):=by
 refine T.F_aC.fn.ok sc_aC fun _ _ _ _ H _ Q E hr h=>?_;obtain ⟨a,o,u,m,rfl,⟨dx,ha⟩,k⟩:=h;refine ⟨_,(ad_ (aj_ (bC_ T.M_f (ok_f T) hr.m rfl T.G_f T.b_z .nil ak_ (aa_ (hN_ ek_ (al_ (pv 0) rfl)) (aa_ (al_ (pv 0) rfl) (aa_ (al_ (pv 0) rfl) ab_)))))),?_⟩;simp! [tSeq,tFld,db_,bZ_,ha];refine ⟨T.cl_f,T.n_aU,_,rfl,_,rfl,T.cl_f,T.n_aV,_,rfl,T.cl_f,T.n_a5,_,rfl,fun x dx hx hdx hne=>?_⟩;exact k x _ (aU_ hx hdx) ⟨dx,af_⟩
theorem ok_c (T:TX w K mg J):FnOk P w K mg base CX0 1 J.f_q J.d_q ["self","kind","place"] (ew_ J.C_c):=by
 refine T.F_q.ok sc_q fun _ _ _ _ H _ Q E hr h=>?_;obtain ⟨p,k,q,rfl,hp,kk⟩:=h;refine ⟨_,(ac_ (l1_ (pv 0) (pv 1) rfl)
  (ad_ (l0_ (pv 0) (pv 2) rfl))),?_⟩
 simp! [tSeq,nb_,na_];refine ⟨_,hp,_,T.X_c,T.n_bt,fun dx hdx hne=>⟨_,_,_,rfl,_,(by rw [ag_ hne];exact af_),T.X_c,T.n_bu,(by show 1<1000;decide),?_⟩⟩;have e:upd (upd (upd H dx (XDic dx [(ofString "kind",k)])) p (XNew J.C_c p (some dx))) dx (XDic dx (putF (ofString "place") q [(ofString "kind",k)]))=upd (upd H dx (XDic dx [("kind",k),("place",q)])) p (XNew J.C_c p (some dx)):=by
  rw [io_ (fun z=>hne z.symm),fF_];rfl
 rw [e];exact kk dx hdx hne
theorem ok_g (T:TX w K mg J):FnOk P w K mg base CX0 1 J.f_v J.d_v ["self","group","kind","begin","end","content"] (bZ_ J.C_g ["group","kind","begin","end","content"]):=by
 refine T.F_v.ok sc_v (fun _ _ _ _ H _ Q E hr h=>?_) fun _ _ _ _ h=>f8_ h;obtain ⟨p,dx,args,rfl,hl,hp,k⟩:=h;obtain ⟨a,b,c,d,e,rfl⟩:=len5 hl;refine ⟨_,(ac_ (aZ_ (pv 0) (pv 1) rfl)
  (ac_ (aZ_ (pv 0) (pv 2) rfl)
  (ac_ (aZ_ (pv 0) (pv 3) rfl)
  (ac_ (aZ_ (pv 0) (pv 4) rfl)
  (ad_ (aZ_ (pv 0) (pv 5) rfl)))))),?_⟩
 simp! [tSeq,sFld];refine ⟨_,_,_,hp,T.cl_g,T.n_bC,few0,T.cl_g,T.n_aQ,few1,T.cl_g,T.n_aW,few2,T.cl_g,T.n_bo,few3,T.cl_g,T.n_bp,few4,?_⟩;exact k
def gF_ (C:Addr) (K:Frag):Sp:=fun vs H Q E=>∃ (a:Addr) (t:List Nat) (p:Nat) (r:List Nat),vs=[.ref a,.int (p:Int)]/\SqL K H a (bs t)/\t.drop p=123::r /\
 RES C H Q E (match r.dropWhile Vaunid.inComment with | []=>fault 2 p | 125::s=>(.ok (p+(r.takeWhile Vaunid.inComment).length+2):Vaunid.Res Nat) | _=>fault 1 (p+1+(r.takeWhile Vaunid.inComment).length)) (fun n v _=>v = .int (n:Int))
theorem ok_aH (T:TX w K mg J):FnOk P w K mg base (CX1 P w) 4 J.f_aH J.d_aH ["text","begin"] (gF_ J.C_c K):=by
 have PD:jO_ P w K mg base 2 J.f_as Vaunid.inComment:=⟨_,_,(ok_as T).mono (by decide),T.F_as.b,T.F_as.fn.kp⟩;refine T.F_aH.fn.okX sc_aH fun _ _ _ _ H _ Q E hr h=>?_;obtain ⟨a,t,p,r,rfl,ht,hr2,k⟩:=h;refine ⟨_,(ac_ (aC_ 2 sc_aH.nd (aH_ T.F_s (ok_s T) hr.m ak_ (aa_ (pv 0) (aa_ (pv 1) (aa_ (pe_r T.F_as.mg) ab_)))))
  (ac_ (aV_ (am_ bD_ (pv 2) (aB_ aG_ rfl T.b_len PySem.boot_len (aa_ (pv 0) ab_)) (ar_ _)) (ad_ (bo_ T.X_c (ok_c T) hr.m rfl T.G_c T.b_q a8_ rfl (aa_ ah_ (aa_ (pv 1) ab_)))) aq_)
  (ac_ (aV_ (am_ gX_ (aM_ aw_ (pv 0) (pv 2) (fun _ _=>rfl)) (pe_g T.g_a0) (ar_ _)) (ad_ (bo_ T.X_c (ok_c T) hr.m rfl T.G_c T.b_q a8_ rfl (aa_ ah_ (aa_ (pv 2) ab_)))) aq_)
  (ad_ (aj_ (bt_ cN_ (pv 2) ah_)))))),?_⟩
 simp! [tSeq,hJ_,cq_];have e1:(t.drop p).takeWhile Vaunid.inComment=123::r.takeWhile Vaunid.inComment:=by rw [hr2];rfl
 have hp:=bn_ hr2;have zp:=dq_ hr2 (Nat.le_of_lt hp);rw [length_cons] at zp;have hd:t.drop (p+((r.takeWhile Vaunid.inComment).length+1))=r.dropWhile Vaunid.inComment:=by rw [b9_ hr2,drop_succ_cons,bf_]
 have htw:=cI_ Vaunid.inComment r;refine ⟨t,ht,Vaunid.inComment,PD,bs t,.inl ht,?_⟩;rw [e1,length_cons,ck_];cases q:r.dropWhile Vaunid.inComment with
 | nil =>
  rw [q] at hd k;have hm : ¬ p+((r.takeWhile Vaunid.inComment).length+1)<t.length:=fun z=>by
   have:=length_drop (l:=t) (i:=p+((r.takeWhile Vaunid.inComment).length+1));rw [hd] at this;simp at this;omega
  rw [if_pos (by omega)];exact ⟨by decide,bk_ k⟩
 | cons d s2 =>
 rw [q] at hd k;have hg:=mC_ hd;have hlt:=bn_ hd;rw [if_neg (by omega)];refine ⟨bs t,ht,_,a0_ (dX_ hg),rfl,?_⟩;by_cases h125:d=125
 ·subst h125
  refine qr_ rfl ?_;refine k _ H (Same.refl H) ?_;show V.int _=V.int _;congr 1
 have hne : ¬ V.int (d:Int)=V.int 125:=fun z=>h125 (by injection z with z;omega);rw [decide_eq_false hne];have k':ExF J.C_c E H 1 ((p+((r.takeWhile Vaunid.inComment).length+1):Nat):Int):=by
  have e2:p+1+(r.takeWhile Vaunid.inComment).length=p+((r.takeWhile Vaunid.inComment).length+1):=by omega
  rw [<- e2];split at k
  ·rename_i z;cases z
  ·rename_i z;cases z;exact absurd rfl h125
  exact k
 exact iteT ⟨by decide,bk_ k'⟩
def pk_ (core:Bool) (C:Addr) (K:Frag):Sp:=fun vs H Q E=>∃ (a:Addr) (t:List Nat) (p:Nat),vs=[.ref a,.int (p:Int)]/\SqL K H a (bs t)/\p<=t.length/\RES C H Q E (gapT core p (t.drop p)) (fun x v _=>v = .int (x.1:Int))
theorem ok_Q (T:TX w K mg J):FnOk P w K mg base (CX1 P w) 5 J.f_Q J.d_Q ["text","place"] (pk_ false J.C_c K):=by
 have PD:jO_ P w K mg base 2 J.f_T (fun c=>c == 32 || c == 10):=⟨_,_,(ok_T T).mono (by decide),T.F_T.b,T.F_T.fn.kp⟩;refine T.F_Q.fn.okX sc_Q fun _ _ _ _ H _ Q E hr h=>?_;obtain ⟨a,t,p,rfl,ht,hp,k⟩:=h;refine ⟨_,(ac_ (aC_ 2 sc_Q.nd (aH_ T.F_s (ok_s T) hr.m ak_ (aa_ (pv 0) (aa_ (pv 1) (aa_ (pe_r T.F_T.mg) ab_)))))
  (ac_ (cd_ fl_ (PW.pt (pw_and (am_ hS_ (pv 2) (aB_ aG_ rfl T.b_len PySem.boot_len (aa_ (pv 0) ab_)) (ar_ _)) (pw_and1 (am_ bD_ (aM_ aw_ (pv 0) (pv 2) (fun _ _=>rfl)) (pe_g T.g_bc) (ar_ _))))) (ad_ (aC_ 2 sc_Q.nd (aH_ T.F_s (ok_s T) hr.m ak_ (aa_ (pv 0) (aa_ (aH_ T.F_aH (ok_aH T) hr.m aN_ (aa_ (pv 0) (aa_ (pv 2) ab_))) (aa_ (pe_r T.F_T.mg) ab_)))))))
  (ad_ (aj_ (pv 2))))),?_⟩
 simp! [tSeq,hJ_];refine ⟨t,ht,_,PD,?_⟩;obtain ⟨Pv,hPv⟩ : ∃ Pv:Nat->L2.St->Hp->Prop,Pv=fun m σ H'=>Same H H'/\∃ e:Nat,m=t.length - e/\e<=t.length/\σ=[some (.ref a),some (.int (p:Int)),some (.int (e:Int))]/\gapT false p (t.drop p)=gapT false e (t.drop e) /\
  ∀ c r,t.drop e=c::r->(c == 32 || c == 10)=false:=⟨_,rfl⟩
 have hk0:p+((t.drop p).takeWhile fun c=>c == 32 || c == 10).length<=t.length:=by
  have:=cI_ (fun c=>c == 32 || c == 10) (t.drop p);rw [length_drop] at this;omega
 refine cR_ Pv _ (by rw [hPv];exact ⟨Same.refl H,_,rfl,hk0,rfl,by rw [dI_ (t.drop p) p,drop_drop],fun c r e=>by rw [<- drop_drop] at e;exact hj_ _ _ e⟩) fun m σ H' hp2=>?_;rw [hPv] at hp2;obtain ⟨sm,e,rfl,he,rfl,hg,hh⟩:=hp2;have ht':=sm.seq ht;simp! [tSeq];refine ⟨bs t,.inl ht',?_⟩;rw [ck_];have fin:(∀ c r,t.drop e=c::r->c≠123)->Q (V.int (e:Int)) H':=fun h123=>by
  rw [hg] at k;cases q:t.drop e with
  | nil=>rw [q] at k;exact k _ H' sm rfl
  | cons c r =>
  have h1:=hh c r q;have h2:=h123 c r q;rw [q,jC_ (by simpa using h1) (by simpa using h2)] at k;exact k _ H' sm rfl
 refine ite2 (fun hlt=>?_) fun hlt=>fin fun c r q=>absurd (bn_ q) (by omega);have hlt':e<t.length:=by omega
 have hg1:t[e]? = some t[e]:=getElem?_eq_getElem hlt';have hd1:=dL_ hg1;generalize t[e]=c at hg1 hd1;refine ⟨bs t,ht',_,a0_ (dX_ hg1),rfl,ite2 (fun h=>?_) fun h=>fin fun c' r q=>?_⟩
 ·have hc:c=123:=by injection h with h;omega
  subst hc;refine ⟨_,fun _ _ z=>z,_,t,e,_,rfl,ht',hd1,?_⟩;rw [hg,hd1,dU_] at k;generalize hr:t.drop (e+1)=r at k hd1 ⊢;cases q:r.dropWhile Vaunid.inComment with
  | nil =>
   rw [q] at k;exact ExF.mono k sm
  | cons d s2 =>
  by_cases h125:d=125
  ·subst h125
   rintro v H2 s2' rfl
   have hd2:t.drop (e+(r.takeWhile Vaunid.inComment).length+2)=s2:=by
    have:t.drop (e+((r.takeWhile Vaunid.inComment).length+2))=s2:=by
     rw [b9_ hd1,drop_succ_cons];rw [bf_] at q;exact b9_ q 1
    rw [<- this];congr 1
   have ht2:=s2'.seq ht';simp! [tSeq,hJ_];refine ⟨t,ht2,_,PD,?_⟩;have hle:e+(r.takeWhile Vaunid.inComment).length+2<=t.length:=by
    have h1:=bn_ hd1;have h2:=dq_ hd1 (Nat.le_of_lt h1);have h3:=cI_ Vaunid.inComment r;have h4:r.length=(r.takeWhile Vaunid.inComment).length+(s2.length+1):=by
     rw [bf_] at q;have:=congrArg List.length q;rw [length_drop,length_cons] at this;omega
    rw [length_cons] at h2;omega
   have hle2:=cI_ (fun c=>c == 32 || c == 10) s2;have hls:=dq_ hd2 hle;rw [hd2];refine ⟨t.length - (e+(r.takeWhile Vaunid.inComment).length+2+(s2.takeWhile fun c=>c == 32 || c == 10).length),by omega,?_⟩;rw [hPv];refine ⟨sm.trans s2',_,rfl,by omega,rfl,?_,fun c r' e'=>?_⟩
   ·rw [hg,hd1,dU_,q]
    show gapT false _ s2=_;rw [dI_ s2,b9_ hd2]
   rw [b9_ hd2] at e';exact hj_ _ _ e'
  rw [q] at k;split
  ·rename_i z;cases z
  ·rename_i z;cases z;exact absurd rfl h125
  split at k
  ·rename_i z;cases z
  ·rename_i z;cases z;exact absurd rfl h125
  exact ExF.mono k sm
 rw [hd1] at q;cases q;intro z;subst z;exact h rfl
inductive IWord (Ca Ct C:Addr) (K:Frag) (H:Hp) (Q:VK) (E:XK):List V->Prop
 | mk (a:Addr) (t:List Nat) (p:Nat):SqL K H a (bs t)->p<=t.length->t.length<=10000->RES C H Q E (wordToken p (t.drop p)) (fun x v H'=>∃ b,v = .ref b/\cK_ Ca Ct H' b x.1)->IWord Ca Ct C K H Q E [.ref a,.int (p:Int)]
def pe_ (Ca Ct C:Addr) (K:Frag):Sp:=fun vs H Q E=>IWord Ca Ct C K H Q E vs
theorem ok_az (T:TX w K mg J):FnOk P w K mg base (CX1 P w) 4 J.f_az J.d_az ["text","begin"] (pe_ J.C_f J.C_g J.C_c K):=by
 have PD:jO_ P w K mg base 2 J.f_O Vaunid.inWord:=⟨_,_,(ok_O T),T.F_O.b,T.F_O.fn.kp⟩;refine T.F_az.fn.okX sc_az fun _ _ _ _ H _ Q E hr h=>?_;obtain ⟨a,t,p,ht,hp,hl,k⟩:=h;refine ⟨_,(ac_ (aC_ 2 sc_az.nd (aH_ T.F_s (ok_s T) hr.m ak_ (aa_ (pv 0) (aa_ (pv 1) (aa_ (pe_r T.F_O.mg) ab_)))))
  (ac_ (aV_ (am_ hT_ (bt_ fm_ (pv 2) (pv 1)) (pe_g T.g_a2) (ar_ _)) (ad_ (bo_ T.X_c (ok_c T) hr.m rfl T.G_c T.b_q a8_ rfl (aa_ ah_ (aa_ (pv 1) ab_)))) aq_)
  (ac_ (aC_ 3 sc_az.nd (aH_ T.F_x (ok_x T) hr.m ak_ (aa_ (bc_ bI_ (pv 0) (a9_ (pv 1)) (a9_ (pv 2))) ab_)))
  (ac_ (aC_ 4 sc_az.nd (ec_ (am_ eE_ (pv 3) (pe_r T.g_aq) rfl) (pv 3) ao_))
  (ad_ (aj_ (bC_ T.M_g (ok_g T) hr.m rfl T.G_g T.b_v .nil ak_ (aa_ (pe_g T.g_bi) (aa_ (pv 4) (aa_ (pv 1) (aa_ (pv 2) (aa_ (pv 3) ab_)))))))))))),?_⟩
 simp! [tSeq,hJ_,cq_,eu_];refine ⟨t,ht,_,PD,?_⟩;unfold wordToken at k;dsimp only at k;have hw:=dN_ (p:=Vaunid.inWord) (t.drop p);have htk:=em_ Vaunid.inWord (t.drop p);have hle:=cI_ Vaunid.inWord (t.drop p);rw [length_drop] at hle;generalize (t.drop p).takeWhile Vaunid.inWord=wd at k hw htk hle ⊢;refine ite2 (fun h=>?_) fun h=>⟨bs t,ht,fun q hq=>?_⟩
 ·rw [if_pos (show MOSTSIGNS<wd.length by show 12<_;omega)] at k
  exact ⟨by decide,bk_ k⟩
 rw [if_neg (show ¬ MOSTSIGNS<wd.length by show ¬ 12<_;omega)] at k;rw [ds_ t p _ hp,add_sub_cancel_left,htk];refine ⟨wd,SqL.of af_,by omega,fun H' sm=>⟨_,.inr (T.t_aq H'),rfl,rfl,?_⟩⟩;rw [jg_,mo_ hw,in_S,<- jY_];have sm2:Same H H':=(Same.upd hq).trans sm;refine cE_ (fun r=>?_) fun r=>?_
 ·simp! [tSeq,db_,bZ_]
  intro x dx hx hdx hne;refine k _ _ (sm2.trans (aU_ hx hdx)) ⟨x,rfl,dx,.str (S wd),?_,rfl⟩;rw [af_];have hk:kindOf (.word wd)=wd:=if_pos r;show _=some (HO.ins J.C_g dx (c9_ 0 (S (kindOf (.word wd))) _ _ _));rw [hk];rfl
 simp! [tSeq,db_,bZ_];intro x dx hx hdx hne;refine k _ _ (sm2.trans (aU_ hx hdx)) ⟨x,rfl,dx,.str (S wd),?_,rfl⟩;rw [af_];have hk:kindOf (.word wd)=Vaunid.txt "name":=if_neg (by rw [r];simp);show _=some (HO.ins J.C_g dx (c9_ 0 (S (kindOf (.word wd))) _ _ _));rw [hk,<- bM_];rfl
def hK_ (C:Addr) (K:Frag):Sp:=fun vs H Q E=>∃ (a:Addr) (t:List Nat) (p:Nat) (r:List Nat),vs=[.ref a,.int (p:Int)]/\SqL K H a (bs t)/\t.drop p=91::r/\t.length<=10000 /\
 RES C H Q E (if (r.takeWhile fun c=>c != 93).length=r.length\/measureText ((r.takeWhile fun c=>c != 93).length+1) (r.takeWhile fun c=>c != 93)=false then fault 5 p else (.ok (r.takeWhile fun c=>c != 93):Vaunid.Res (List Nat))) (fun m v _=>v = .str (S m))
theorem ok_aD (T:TX w K mg J):FnOk P w K mg base (CX1 P w) 6 J.f_aD J.d_aD ["text","begin"] (hK_ J.C_c K):=by
 have PD:jO_ P w K mg base 2 J.f_at (fun c=>c != 93):=⟨_,_,(ok_at T).mono (by decide),T.F_at.b,T.F_at.fn.kp⟩;refine T.F_aD.fn.okX sc_aD fun _ _ _ _ H _ Q E hr h=>?_;obtain ⟨a,t,p,r,rfl,ht,hd,hl,k⟩:=h;refine ⟨_,(ac_ (iE_ (i:=2) (sc_aD).nd rfl (Or.inl rfl) (eB_ (ok_s T) (hr.mono (by decide)) rfl T.F_s.mg T.F_s.fn.kp T.F_s.b .nil ak_ (aa_ (pv 0) (aa_ (pv 1) (aa_ (pe_r T.F_at.mg) ab_)))))
  (ac_ (iE_ (i:=3) (sc_aD).nd rfl (Or.inl rfl) (eB_ (ok_x T) (hr.mono (by decide)) rfl T.F_x.mg T.F_x.fn.kp T.F_x.b .nil ak_ (aa_ (bc_ bI_ (pv 0) (a9_ (bt_ cN_ (pv 1) ah_)) (a9_ (pv 2))) ab_)))
  (ac_ (aV_ (pw_orP (n5_ bD_ (pv 2) (oa_ rfl T.b_len (pv 0)) (ar_ _)) (pw_or1T (n4_ (n3_ (l7_ (ok_av T) (hr.mono (by decide)) rfl T.F_av.mg T.F_av.fn.kp T.F_av.b ak_ (aa_ (pv 3) ab_))))))
    (ad_ (bo_ T.X_c (ok_c T) (hr.mono (by decide)) rfl T.G_c T.b_q a8_ rfl (aa_ ah_ (aa_ (pv 1) ab_)))) aq_)
  (ad_ (aj_ (pv 3)))))),?_⟩
 simp! [tSeq,hJ_,cq_,eu_];refine ⟨t,ht,_,PD,bs t,ht,fun q hq=>?_⟩;have e1:((t.drop p).takeWhile fun c=>c != 93)=91::r.takeWhile fun c=>c != 93:=by rw [hd];rfl
 have hp:=bn_ hd;have zp:=dq_ hd (Nat.le_of_lt hp);rw [length_cons] at zp;have hm:=hY_ (r.takeWhile fun c=>c != 93);have hmm:=h0_ (m:=r.takeWhile fun c=>c != 93);have htk:=em_ (fun c=>c != 93) r;have hle:=cI_ (fun c=>c != 93) r;rw [e1,length_cons];generalize (r.takeWhile fun c=>c != 93)=m at k hm hmm htk hle ⊢;have ec:cutV (bs t) (some ((p:Int)+1)) (some ((p+(m.length+1):Nat):Int))=bs m:=by
  have:=ds_ t (p+1) (p+(m.length+1)) (by omega);rw [show ((p:Int)+1)=((p+1:Nat):Int) by omega,this,show p+(m.length+1) - (p+1)=m.length by omega,b9_ hd];show bs (r.take m.length)=_;rw [htk]
 rw [ec];refine ⟨m,SqL.of af_,by omega,fun H' sm=>?_⟩;have sm2:Same H H':=(Same.upd hq).trans sm;refine ⟨bs t,sm2.seq ht,?_⟩;rw [ck_];refine ite2 (fun h=>?_) fun h=>?_
 ·rw [if_pos (.inl (by omega))] at k
  exact ⟨by decide,bk_ (ExF.mono k sm2)⟩
 refine ⟨m.map sgn,rfl,by rw [length_map];omega,fun H2 s2=>⟨_,rfl,?_⟩⟩;rw [hm];cases q2:measureText (m.length+1) m with
 | false =>
  rw [if_pos (.inr q2)] at k;exact iteT ⟨by decide,bk_ (ExF.mono k (sm2.trans s2))⟩
 | true =>
 rw [if_neg (fun z=>z.elim (by omega) (by rw [q2];simp))] at k;refine iteF ?_;rw [hmm q2];exact k _ H2 (sm2.trans s2) rfl
inductive ISignTok (Ca Ct C:Addr) (K:Frag) (H:Hp) (Q:VK) (E:XK):List V->Prop
 | mk (a b:Addr) (t:List Nat) (p:Nat) (L:List (List Nat)):SqL K H a (bs t)->p<t.length->t.length<=10000->GoodSigns L->(∀ H,SqT K H b ((L.map S).map V.str))->RES C H Q E (signToken L p (t.drop p)) (fun x v H'=>∃ b,v = .ref b/\cK_ Ca Ct H' b x.1)->ISignTok Ca Ct C K H Q E [.ref a,.int (p:Int),.ref b]
def kb_ (Ca Ct C:Addr) (K:Frag):Sp:=fun vs H Q E=>ISignTok Ca Ct C K H Q E vs
theorem ok_aE (T:TX w K mg J):FnOk P w K mg base (CX1 P w) 3 J.f_aE J.d_aE ["text","begin","signs"] (kb_ J.C_f J.C_g J.C_c K):=by
 refine T.F_aE.fn.okX sc_aE fun _ _ _ _ H _ Q E hr h=>?_;obtain ⟨a,b,t,p,L,ht,hp,hl,hL,hb,k⟩:=h;refine ⟨_,(ac_ (aC_ 3 sc_aE.nd (aH_ T.F_x (ok_x T) hr.m ak_ (aa_ (bc_ bI_ (pv 0) (a9_ (pv 1)) (a9_ (bt_ cN_ (pv 1) ah_))) ab_)))
  (ac_ (aV_ (am_ dP_ (pv 3) (pv 2) rfl) (ad_ (aC_ 3 sc_aE.nd (bc_ m8_ (pv 3) ce_ (a9_ ah_)))) aq_)
  (ac_ (aV_ (am_ dP_ (pv 3) (pv 2) rfl) (ad_ (bo_ T.X_c (ok_c T) hr.m rfl T.G_c T.b_q a8_ rfl (aa_ ah_ (aa_ (pv 1) ab_)))) aq_)
  (ad_ (aj_ (bC_ T.M_g (ok_g T) hr.m rfl T.G_g T.b_v .nil ak_ (aa_ (pe_g T.g_a4) (aa_ (pv 3) (aa_ (pv 1) (aa_ (bt_ cN_ (pv 1) (aB_ a2_ rfl T.b_len PySem.boot_len (aa_ (pv 3) ab_))) (aa_ (pv 3) ab_))))))))))),?_⟩
 simp! [tSeq,cq_,eu_];refine ⟨bs t,ht,fun q hq=>?_⟩;have ec:cutV (bs t) (some (p:Int)) (some ((p:Int)+2))=bs ((t.drop p).take 2):=by
  have:=ds_ t p (p+2) (by omega);rw [show ((p:Int)+2)=((p+2:Nat):Int) by omega,this,add_sub_cancel_left]
 rw [ec];refine ⟨(t.drop p).take 2,SqL.of af_,by rw [length_take];omega,fun H' sm=>?_⟩;have sm2:Same H H':=(Same.upd hq).trans sm;unfold signToken at k;rw [jH_ hL] at k;unfold km_ at k;have et:((t.drop p).take 2).take 1=(t.drop p).take 1:=by rw [List.take_take];rfl
 have ec2:cutS (S (((t.drop p).take 2).map sgn)) none (some 1)=S (((t.drop p).take 1).map sgn):=by
  have:=p7_ (((t.drop p).take 2).map sgn) 1;rw [<- List.map_take,et] at this;exact this
 have l2:(((t.drop p).take 2).map sgn).length<=sizeLine:=by
  rw [length_map,length_take];exact Nat.le_trans (Nat.min_le_left _ _) (by decide)
 rw [ec2];have plain : ∀ {x},x∈L->x.map sgn=x:=fun hx=>dH_ fun c hc=>(hL.plain _ hx c hc).1;generalize (t.drop p).take 2=s2 at k l2 ⊢;generalize (t.drop p).take 1=s1 at k ⊢;have inL : ∀ l:List Nat,inV (.str (S (l.map sgn))) ((L.map S).map V.str)=decide (l∈L):=fun l=>by
  rw [in_S,decide_eq_decide];exact oq_ hL l
 refine ⟨_,.inr (hb H'),rfl,eO_ _,?_⟩;rw [inL];by_cases m2:s2∈L
 ·rw [if_pos m2] at k
  rw [decide_eq_true m2];refine iteF ⟨_,.inr (hb H'),rfl,eO_ _,?_⟩;rw [inL,decide_eq_true m2];refine iteF ?_;rw [plain m2];simp! [tSeq,db_,bZ_,a2_];refine ⟨by rw [<- plain m2];exact l2,fun x dx hx hdx hne=>?_⟩;refine k _ _ (sm2.trans (aU_ hx hdx)) ⟨x,rfl,dx,.str (S s2),?_,rfl⟩;rw [af_];rfl
 rw [if_neg m2] at k;rw [decide_eq_false m2];refine iteT ⟨l2,_,.inr (hb H'),rfl,eO_ _,?_⟩;rw [inL];by_cases m1:s1∈L
 ·rw [if_pos m1] at k
  rw [decide_eq_true m1];refine iteF ?_;rw [plain m1];simp! [tSeq,db_,bZ_,a2_];refine ⟨?_,fun x dx hx hdx hne=>?_⟩
  ·have:s1.length=1\/s1.length=2:=by
    obtain ⟨L2,L1,rfl,h2,h1⟩:=hL.parts;rcases mem_append.mp m1 with z | z
    ·exact .inr (h2 _ z)
    exact .inl (h1 _ z)
   exact Nat.le_trans (show s1.length<=2 by omega) (by decide)
  refine k _ _ (sm2.trans (aU_ hx hdx)) ⟨x,rfl,dx,.str (S s1),?_,rfl⟩;rw [af_];rfl
 rw [if_neg m1] at k;rw [decide_eq_false m1];exact iteT ⟨by decide,bk_ (ExF.mono k sm2)⟩
inductive INumTok (Ca Ct C:Addr) (K:Frag) (H:Hp) (Q:VK) (E:XK):List V->Prop
 | mk (a:Addr) (t:List Nat) (p d c:Nat) (r:List Nat) (neg:Bool):SqL K H a (bs t)->t.length<=10000->d=p+(if neg=true then 1 else 0)->t.drop d=c::r->Vaunid.isDigit c=true->RES C H Q E (numberToken neg p (t.drop p)) (fun x v H'=>∃ b,v = .ref b/\cK_ Ca Ct H' b x.1)->INumTok Ca Ct C K H Q E [.ref a,.int (p:Int),.int (d:Int)]
def lR_ (Ca Ct C:Addr) (K:Frag):Sp:=fun vs H Q E=>INumTok Ca Ct C K H Q E vs
theorem ok_I (T:TX w K mg J):FnOk P w K mg base (CX1 P w) 7 J.f_I J.d_I ["text","begin","digits"] (lR_ J.C_f J.C_g J.C_c K):=by
 refine T.F_I.fn.okX sc_I fun _ _ _ _ H _ Q E hr h=>?_;obtain ⟨a,t,p,d,c,r,neg,ht,hl,hd,hdr,hc,k⟩:=h;refine ⟨_,(ac_ (aC_ 3 sc_I.nd (aH_ T.F_aB (ok_aB T) hr.m ak_ (aa_ (pv 0) (aa_ (pv 2) ab_))))
  (ac_ (aC_ 4 sc_I.nd (aH_ T.F_U (ok_U T) hr.m ak_ (aa_ (aH_ T.F_x (ok_x T) hr.m ak_ (aa_ (bc_ bI_ (pv 0) (a9_ (pv 2)) (a9_ (pv 3))) ab_)) ab_)))
  (ac_ (aV_ (nf_ (pv_ (pv 4))) (ad_ (bo_ T.X_c (ok_c T) hr.m rfl T.G_c T.b_q a8_ rfl (aa_ ah_ (aa_ (pv 1) ab_)))) aq_)
  (ac_ (aV_ (PW.pt (pw_and (am_ hS_ (pv 3) (aB_ aG_ rfl T.b_len PySem.boot_len (aa_ (pv 0) ab_)) (ar_ _)) (pw_and1 (am_ bD_ (aM_ aw_ (pv 0) (pv 3) (fun _ _=>rfl)) (pe_g T.g_bd) (ar_ _))))) (ac_ (aC_ 5 sc_I.nd (aH_ T.F_aD (ok_aD T) hr.m aN_ (aa_ (pv 0) (aa_ (pv 3) ab_))))
  (ac_ (aC_ 4 sc_I.nd (aH_ T.F_aL (ok_aL T) hr.m ak_ (aa_ (pv 4) (aa_ (pv 5) ab_))))
  (ad_ (aC_ 3 sc_I.nd (bt_ cN_ (bt_ cN_ (pv 3) (aB_ a2_ rfl T.b_len PySem.boot_len (aa_ (pv 5) ab_))) ah_))))) aq_)
  (ac_ (aV_ (am_ hS_ (pv 1) (pv 2) (ar_ _)) (ad_ (aC_ 4 sc_I.nd (aH_ T.F_aC (ok_aC T) hr.m ak_ (aa_ (pv 4) ab_)))) aq_)
  (ac_ (aC_ 6 sc_I.nd (ec_ (am_ bD_ (bt_ fm_ (pv 3) (pv 2)) ah_ (ar_ _)) ao_ ao_))
  (ad_ (aj_ (bC_ T.M_g (ok_g T) hr.m rfl T.G_g T.b_v .nil ak_ (aa_ (pe_g T.g_bj) (aa_ (pv 6) (aa_ (pv 1) (aa_ (pv 3) (aa_ (pv 4) ab_)))))))))))))),?_⟩
 have es:(if neg=true then (t.drop p).drop 1 else t.drop p)=t.drop d:=by
  cases neg with
  | false=>rw [hd];rfl
  | true=>rw [hd,if_pos rfl,drop_drop];rfl
 unfold numberToken at k;dsimp only at k;rw [es] at k;obtain ⟨hrest,hsz⟩:=fZ_ (t.drop d);have hpos:=kN_ hdr hc;obtain ⟨b2,c2,sp1,sp2,sp3,sp4⟩:=kL_ (t.drop d);have hdlt:=bn_ hdr;generalize hx:numberText (t.drop d)=x at k hrest hsz hpos sp1 sp3;obtain ⟨n,o,rest⟩:=x;dsimp only at k hrest hsz hpos sp1 sp3;rw [length_drop] at hsz sp4;refine dA_ (fun σ' H'=>Same H H'/\σ'=[some (.ref a),some (.int (p:Int)),some (.int (d:Int)),some (.int ((d+n:Nat):Int)),none,none,none]) (fun X hX=>?_) ?_
 ·simp! [tSeq,ix_]
  refine ⟨t,ht,by omega,fun H' sm=>?_⟩;rw [hx];exact hX _ _ ⟨sm,rfl⟩
 rintro σ' H1 ⟨sm1,rfl⟩
 have ht1:=sm1.seq ht;refine dA_ (fun σ' H'=>Same H H'/\∃ am,σ'=[some (.ref a),some (.int (p:Int)),some (.int (d:Int)),some (.int ((d+n:Nat):Int)),some am,none,none]/\(match o with | none=>am = .non | some (tp,lw)=>∃ b,am = .ref b/\aP_ J.C_f H' b (tp:Int) (lw:Int) [])) (fun X hX=>?_) ?_
 ·simp! [tSeq,eu_]
  refine ⟨bs t,ht1,fun q hq=>?_⟩;rw [ds_ t d (d+n) (by omega),add_sub_cancel_left];refine ⟨_,SqL.of af_,by rw [length_take];omega,fun H2 s2=>?_⟩;have sm2:Same H H2:=sm1.trans ((Same.upd hq).trans s2);rw [sp1];have hall:=dN_ (p:=Vaunid.isDigit) (t.drop d);have hpl:((t.drop d).takeWhile Vaunid.isDigit++(if c2=0 then [] else c2::b2)).map sgn=(t.drop d).takeWhile Vaunid.isDigit++(if c2=0 then [] else c2::b2):=dH_ fun y hy=>by
   rcases mem_append.mp hy with z | z
   ·have:=dr_ (hall y z);omega
   rcases sp2 with ⟨rfl,rfl⟩ | ⟨h46,_,hbd⟩
   ·simp at z
   rw [if_neg (by omega)] at z;rcases mem_cons.mp z with z | z
   ·omega
   have:=dr_ (hbd y z);omega
  rw [hpl];refine ⟨_,b2,c2,rfl,hall,?_,by omega,sp2,?_⟩
  ·rw [hdr,takeWhile_cons,hc]
   simp
  rw [<- sp3];cases o with
  | none=>exact fun H3 s3=>hX _ _ ⟨sm2.trans s3,.non,rfl,rfl⟩
  | some tp=>exact fun b H3 s3 hb=>hX _ _ ⟨sm2.trans s3,.ref b,rfl,b,rfl,hb⟩
 rintro σ' H2 ⟨sm2,am,rfl,ham⟩
 have ht2:=sm2.seq ht;cases o with
 | none =>
  subst ham;simp! [tSeq,cq_];exact ⟨by decide,bk_ (ExF.mono k sm2)⟩
 | some tl =>
 obtain ⟨tp,lw⟩:=tl;obtain ⟨b,rfl,hb⟩:=ham;dsimp only at k;refine dA_ (fun σ' H'=>H'=H2/\σ'=[some (.ref a),some (.int (p:Int)),some (.int (d:Int)),some (.int ((d+n:Nat):Int)),some (.ref b),none,none]) (fun X hX=>?_) ?_
 ·simp! [tSeq,cq_]
  exact hX _ _ ⟨rfl,rfl⟩
 rintro σ' H2' ⟨rfl,rfl⟩
 have hrest':rest=t.drop (d+n):=by rw [hrest,drop_drop]
 have hpd:p+(n+if neg=true then 1 else 0)=d+n:=by omega
 rw [hpd] at k;refine dA_ (fun σ' H'=>Same H H'/\∃ (am:Addr) (m:Option (List Nat)) (e:Nat) (dg:Option Int) (mz:Option V),σ'=[some (.ref a),some (.int (p:Int)),some (.int (d:Int)),some (.int (e:Int)),some (.ref am),mz,none]/\aP_ J.C_f H' am (tp:Int) (lw:Int) (m.getD [])/\(dg.isSome=decide (e=d+1))/\d<e /\
   (∀ v H',Same H H'->(∃ b,v = .ref b/\cK_ J.C_f J.C_g H' b { tok := .num { top:=if neg=true then -(tp:Int) else (tp:Int),low:=lw,measure:=m } dg,start:=p,halt_:=e })->Q v H')) (fun X hX=>?_) ?_
 ·simp! [tSeq]
  refine ⟨bs t,.inl ht2,?_⟩;rw [ck_];have nomeas:(∀ r2,rest≠91::r2)->X [some (.ref a),some (.int (p:Int)),some (.int (d:Int)),some (.int ((d+n:Nat):Int)),some (.ref b),none,none] H2':=fun hno=>by
   refine hX _ _ ⟨sm2,b,none,d+n,(if n=1 then some (if neg=true then -(tp:Int) else (tp:Int)) else none),none,rfl,hb,?_,by omega,?_⟩
   ·by_cases h1:n=1
    ·subst h1
     simp
    rw [if_neg h1,decide_eq_false (by omega)];rfl
   split at k
   ·exact absurd rfl (hno _)
   exact fun v H' s' q=>k v H' s' q
  refine ite2 (fun hlt=>?_) fun hlt=>nomeas fun r2 z=>?_
  ·have hlt':d+n<t.length:=by omega
   have hg1:t[d+n]? = some t[d+n]:=getElem?_eq_getElem hlt';have hd1:=dL_ hg1;generalize t[d+n]=c3 at hg1 hd1;refine ⟨bs t,ht2,_,a0_ (dX_ hg1),rfl,ite2 (fun h=>?_) fun h=>nomeas fun r2 z=>?_⟩
   ·have hc3:c3=91:=by injection h with h;omega
    subst hc3;rw [<- hrest'] at hd1;rw [hd1] at k;change RES J.C_c H Q E (if _\/_ then _ else _) _ at k;refine ⟨a,t,d+n,_,rfl,ht2,by rw [<- hrest'];exact hd1,hl,?_⟩;generalize t.drop (d+n+1)=r2 at k hd1 ⊢;by_cases hbad:(r2.takeWhile fun c=>c != 93).length=r2.length\/measureText ((r2.takeWhile fun c=>c != 93).length+1) (r2.takeWhile fun c=>c != 93)=false
    ·rw [if_pos hbad] at k ⊢
     exact ExF.mono k sm2
    rw [if_neg hbad] at k ⊢
    rintro v H3 s3 rfl
    simp! [tSeq,fb_];refine ⟨_,_,_,_,rfl,hb.same s3,fun b3 H4 s4 hb4=>⟨?_,?_⟩⟩
    ·have h1:=cI_ (fun c=>c != 93) r2
     have h2:=bn_ (hrest'.symm.trans hd1);have h3:=dq_ (hrest'.symm.trans hd1) (Nat.le_of_lt h2);rw [length_cons] at h3;exact Nat.le_trans (show _<=10000 by omega) (by decide)
    refine hX _ _ ⟨sm2.trans (s3.trans s4),b3,some (r2.takeWhile fun c=>c != 93),d+n+(r2.takeWhile fun c=>c != 93).length+2,none,_,rfl,hb4,?_,by omega,?_⟩
    ·rw [decide_eq_false (by omega)]
     rfl
    exact fun v H' s' q=>k v H' s' q
   rw [hrest',hd1] at z;cases z;exact h rfl
  rw [hrest'] at z;exact absurd (bn_ z) (by omega)
 rintro σ' H3 ⟨sm3,am,m,e,dg,mz,rfl,ham,hdg,hde,k⟩
 refine dA_ (fun σ' H'=>Same H H'/\∃ (am:Addr) (mz:Option V),σ'=[some (.ref a),some (.int (p:Int)),some (.int (d:Int)),some (.int (e:Int)),some (.ref am),mz,none]/\aP_ J.C_f H' am (if neg=true then -(tp:Int) else (tp:Int)) (lw:Int) (m.getD [])) (fun X hX=>?_) ?_
 ·simp! [tSeq,ev_]
  refine ite2 (fun h=>?_) fun h=>?_
  ·have hn:neg=true:=by
    cases neg with
    | true=>rfl
    | false=>simp at hd;omega
   rw [if_pos hn] at hX;exact ⟨_,_,_,ham,fun b4 H4 s4 hb4=>hX _ _ ⟨sm3.trans s4,_,_,rfl,hb4⟩⟩
  have hn:neg=false:=by
   cases neg with
   | false=>rfl
   | true=>simp at hd;omega
  rw [if_neg (by rw [hn];simp)] at hX;exact hX _ _ ⟨sm3,_,_,rfl,ham⟩
 rintro σ' H4 ⟨sm4,am,mz,rfl,ham⟩
 simp! [tSeq,db_,bZ_];refine ite2 (fun h=>?_) fun h=>?_
 ·intro x dx hx hdx hne
  refine k _ _ (sm4.trans (aU_ hx hdx)) ⟨x,rfl,dx,.ref am,?_,am,rfl,ham.same (aU_ hx hdx)⟩;rw [af_];have hk:kindOf (.num { top:=if neg=true then -(tp:Int) else (tp:Int),low:=lw,measure:=m } dg)=Vaunid.txt "digit":=if_pos (by rw [hdg];exact decide_eq_true (by omega));show _=some (HO.ins J.C_g dx (c9_ 1 (S (kindOf (.num _ dg))) _ _ _));rw [hk,<- bM_];rfl
 intro x dx hx hdx hne;refine k _ _ (sm4.trans (aU_ hx hdx)) ⟨x,rfl,dx,.ref am,?_,am,rfl,ham.same (aU_ hx hdx)⟩;rw [af_];have hk:kindOf (.num { top:=if neg=true then -(tp:Int) else (tp:Int),low:=lw,measure:=m } dg)=Vaunid.txt "number":=if_neg (by rw [hdg,decide_eq_true_eq];omega);show _=some (HO.ins J.C_g dx (c9_ 1 (S (kindOf (.num _ dg))) _ _ _));rw [hk,<- bM_];rfl
def pg_ (core:Bool) (Ca Ct C:Addr) (K:Frag):Sp:=fun vs H Q E=>∃ (a:Addr) (t:List Nat) (p:Nat),vs=[.ref a,.int (p:Int)]/\SqL K H a (bs t)/\p<t.length/\t.length<=10000 /\
 RES C H Q E (token core p (t.drop p)) (fun x v H'=>∃ b,v = .ref b/\cK_ Ca Ct H' b x.1)
theorem ok_ay (T:TX w K mg J):FnOk P w K mg base (CX1 P w) 8 J.f_ay J.d_ay ["text","begin"] (pg_ false J.C_f J.C_g J.C_c K):=by
 refine T.F_ay.fn.okX sc_ay fun _ _ _ _ H _ Q E hr h=>?_;obtain ⟨a,t,p,rfl,ht,hp,hl,k⟩:=h;refine ⟨_,(ac_ (aV_ (cM_ (aH_ T.F_R (ok_R T) hr.m ak_ (aa_ (aM_ aw_ (pv 0) (pv 1) (fun _ _=>rfl)) ab_))) (ad_ (aj_ (aH_ T.F_az (ok_az T) hr.m aN_ (aa_ (pv 0) (aa_ (pv 1) ab_))))) aq_)
  (ac_ (aV_ (cM_ (aH_ T.F_u (ok_u T) hr.m ak_ (aa_ (aM_ aw_ (pv 0) (pv 1) (fun _ _=>rfl)) ab_))) (ad_ (aj_ (aH_ T.F_I (ok_I T) hr.m aN_ (aa_ (pv 0) (aa_ (pv 1) (aa_ (pv 1) ab_)))))) aq_)
  (ad_ (aj_ (aH_ T.F_aE (ok_aE T) hr.m aN_ (aa_ (pv 0) (aa_ (pv 1) (aa_ (pe_r T.g_ar) ab_)))))))),?_⟩
 simp! [tSeq];have hg1:t[p]? = some t[p]:=getElem?_eq_getElem hp;have hd1:=dL_ hg1;generalize t[p]=c at hg1 hd1;have k':=k;rw [hd1] at k;unfold token at k;dsimp only at k;rw [<- hd1] at k;refine ⟨bs t,ht,_,a0_ (dX_ hg1),?_⟩;simp! [tSeq,spB];refine cE_ (fun h=>?_) fun h=>⟨bs t,ht,_,a0_ (dX_ hg1),?_⟩
 ·rw [if_pos h] at k
  exact ⟨a,t,p,ht,Nat.le_of_lt hp,hl,k⟩
 rw [if_neg (by rw [h];simp)] at k;simp! [tSeq,spB];refine cE_ (fun h2=>?_) fun h2=>?_
 ·rw [if_pos h2] at k
  exact ⟨a,t,p,p,c,_,false,ht,hl,rfl,hd1,h2,k⟩
 rw [if_neg (by rw [h2];simp),if_neg (by simp)] at k;refine ⟨a,_,t,p,surfaceSigns,ht,hp,hl,hl_,fun H'=>?_,k⟩;rw [<- gz_];exact T.t_ar H'
def GapF (P:Program) (w:World) (K:Frag) (mg:zM) (base:Heap) (k:Nat) (C f:Addr) (core:Bool):Prop:=∃ fd ps,FnOk P w K mg base (CX1 P w) k f fd ps (pk_ core C K)/\aY_ K fd ps []/\keepIn K (.ref f)=true
def TokF (P:Program) (w:World) (K:Frag) (mg:zM) (base:Heap) (k:Nat) (Ca Ct C f:Addr) (core:Bool):Prop:=∃ fd ps,FnOk P w K mg base (CX1 P w) k f fd ps (pg_ core Ca Ct C K)/\aY_ K fd ps []/\keepIn K (.ref f)=true
def iG_ (Ca Ct:Addr) (l:List Vaunid.Token) (v:V) (H:Hp):Prop:=∃ (b:Addr) (as:List Addr),v = .ref b/\H b=some (.lst (as.map V.ref))/\cl_ Ca Ct H as l
def ki_ (P:Program) (w:World) (K:Frag) (mg:zM) (base:Heap) (Ca Ct C:Addr):Sp:=fun vs H Q E=>∃ (a f g:Addr) (t:List Nat) (core:Bool),vs=[.ref a,.ref f,.ref g]/\SqL K H a (bs t)/\t.length<=10000/\GapF P w K mg base 8 C f core/\TokF P w K mg base 8 Ca Ct C g core /\
 RES C H Q E (dZ_ core 0 t) (iG_ Ca Ct)
theorem ok_V (T:TX w K mg J):FnOk P w K mg base (CX1 P w) 9 J.f_V J.d_V ["text","gap_end","token_at"] (ki_ P w K mg base J.C_f J.C_g J.C_c):=by
 refine T.F_V.fn.okX sc_V fun _ _ _ _ H _ Q E hr h=>?_;obtain ⟨a,f,g,t,core,rfl,ht,hl,⟨fd1,ps1,F1,b1,k1⟩,⟨fd2,ps2,F2,b2,k2⟩,k⟩:=h;refine ⟨_,(ac_ (aC_ 3 sc_V.nd (ap_ ab_))
  (ac_ (aC_ 4 sc_V.nd (cC_ (CX:=CX1 P w) (k:=8) 1 hr.m aN_ (aa_ (pv 0) (aa_ ah_ ab_))))
  (ac_ (cd_ fl_ (am_ hS_ (pv 4) (aB_ aG_ rfl T.b_len PySem.boot_len (aa_ (pv 0) ab_)) (ar_ _)) (ac_ (aC_ 5 sc_V.nd (cC_ (CX:=CX1 P w) (k:=8) 2 hr.m aN_ (aa_ (pv 0) (aa_ (pv 4) ab_))))
  (ac_ (bu_ (gT_ pla sla tla by_ (pv 3) (aa_ (pv 5) ab_)))
  (ad_ (aC_ 4 sc_V.nd (cC_ (CX:=CX1 P w) (k:=8) 1 hr.m aN_ (aa_ (pv 0) (aa_ (al_ (pv 5) rfl) ab_))))))))
  (ad_ (aj_ (pv 3)))))),?_⟩
 simp! [tSeq,e9_];refine ⟨zero_le _,fun b hb=>⟨fd1,ps1,_,F1,b1,k1,a,t,0,rfl,(Same.upd hb).seq ht,zero_le _,?_⟩⟩;rw [drop_zero];cases q0:gapT core 0 t with
 | error e =>
  rw [dw_,q0] at k;exact ExF.mono k (Same.upd hb)
 | ok x =>
 obtain ⟨g1,g2,g3⟩:=ee_ core _ _ _ _ q0;rw [sub_zero] at g3;rw [zero_add] at g2
 rintro v H1 s1 rfl
 have hk0:dZ_ core 0 t=preR [] (aR_ core (x.1,t.drop x.1)):=by
  rw [dw_,q0];show aR_ core x=_;rw [<- g3];show aR_ core (x.1,x.2)=_;cases aR_ core (x.1,x.2) <;> rfl
 obtain ⟨Pv,hPv⟩ : ∃ Pv:Nat->L2.St->Hp->Prop,Pv=fun m σ H'=>Same H H'/\∃ (q:Nat) (as:List Addr) (l:List Vaunid.Token) (z:Option V),m=t.length - q/\q<=t.length/\as.length<=q/\σ=[some (.ref a),some (.ref f),some (.ref g),some (.ref b),some (.int (q:Int)),z] /\
  H' b=some (.lst (as.map V.ref))/\cl_ J.C_f J.C_g H' as l/\dZ_ core 0 t=preR l (aR_ core (q,t.drop q)):=⟨_,rfl⟩
 refine cR_ Pv _ (by rw [hPv];exact ⟨(Same.upd hb).trans s1,x.1,[],[],none,rfl,g2,zero_le _,rfl,s1 _ _ af_,.nil,hk0⟩) fun m σ H' hp=>?_;rw [hPv] at hp;obtain ⟨sm,q,as,l,z,rfl,hq,hal,rfl,hbl,hto,hk⟩:=hp;have ht':=sm.seq ht;simp! [tSeq,e9_];refine ⟨bs t,.inl ht',?_⟩;rw [ck_];refine ite2 (fun hlt=>?_) fun hlt=>?_
 ·have hlt':q<t.length:=by omega
  have hg1:t[q]? = some t[q]:=getElem?_eq_getElem hlt';have hd1:=dL_ hg1;generalize t[q]=c at hg1 hd1;refine ⟨_,fun _ _ z=>z,fd2,ps2,_,F2,b2,k2,a,t,q,rfl,ht',hlt',hl,?_⟩;cases qt:token core q (t.drop q) with
  | error e =>
   have e1:dZ_ core 0 t = .error e:=by
    rw [hk];unfold aR_;rw [hd1] at qt;rw [hd1];dsimp only;rw [qt];rfl
   rw [e1] at k;exact ExF.mono k sm
  | ok y =>
  obtain ⟨kt,rest⟩:=y;have tf:=bX_ qt;have hhl:kt.halt_<=t.length:=by have:=tf.le;rw [length_drop] at this;omega
  have hqh:q<kt.halt_:=tf.lt;have hrest:rest=t.drop kt.halt_:=by rw [tf.rest,drop_drop];congr 1;omega
  rintro v H2 s2 ⟨bt,rfl,htk⟩
  have hk2:dZ_ core 0 t=preR l (match gapT core kt.halt_ (t.drop kt.halt_) with | .error e => .error e | .ok y=>preR [kt] (aR_ core y)):=by
   rw [hk];congr 1;have e2:aR_ core (q,t.drop q)=(match dZ_ core kt.halt_ rest with | .error e => .error e | .ok l => .ok (kt::l)):=by
    unfold aR_;rw [hd1] at qt ⊢;dsimp only;rw [qt] <;> rfl
   rw [e2,hrest,dw_];cases gapT core kt.halt_ (t.drop kt.halt_) with
   | error e=>rfl
   | ok y =>
   show (match aR_ core y with | .error e => .error e | .ok l => .ok (kt::l))=preR [kt] (aR_ core y)
   cases aR_ core y <;> rfl
  simp! [tSeq,tBM,cr_,tFld,e9_];have hbl2:=s2 _ _ hbl;obtain ⟨dt,ct,hins,hcont⟩:=htk;have nbt:bt≠b:=dj_ hins hbl2 (by intro z;cases z);have sI:d2_ H2 (upd H2 b (.lst (as.map V.ref++[.ref bt]))):=d2_.lst hbl2;have sH:Same H (upd H2 b (.lst (as.map V.ref++[.ref bt]))):=fun c o e=>by
   rw [ag_ (ai_ e hb)];exact s2 _ _ (sm _ _ e)
  refine ⟨.inl ⟨rfl,_,SqL.of hbl2⟩,_,hbl2,?_,?_⟩
  ·rw [length_map]
   exact Nat.lt_of_le_of_lt (show as.length<=10000 by omega) (by decide)
  refine ⟨fd1,ps1,_,F1,b1,k1,J.C_g,dt,_,by rw [ag_ nbt];exact hins,T.cl_g,T.n_bo,_,rfl,a,t,kt.halt_,rfl,sH.seq ht,hhl,?_⟩;cases qg:gapT core kt.halt_ (t.drop kt.halt_) with
  | error e =>
   rw [qg] at hk2;rw [hk2] at k;exact ExF.mono k sH
  | ok y =>
  obtain ⟨g1,g2,g3⟩:=ee_ core _ _ _ _ qg;rw [length_drop] at g2
  rintro v H3 s3 rfl
  refine ⟨t.length - y.1,by omega,?_⟩;rw [hPv];refine ⟨sH.trans s3,y.1,as++[bt],l++[kt],_,rfl,by omega,by rw [length_append,length_singleton];omega,rfl,?_,?_,?_⟩
  ·rw [map_append]
   exact s3 _ _ af_
  ·exact cl_.snoc (cl_.sameI hto ((Same.insts s2).trans (sI.trans (Same.insts s3)))) (cK_.sameI ⟨dt,ct,hins,hcont⟩ (sI.trans (Same.insts s3)))
  rw [hk2,qg];dsimp only;have e3:y=(y.1,t.drop y.1):=by
   have:y.2=t.drop y.1:=by rw [g3,drop_drop];congr 1;omega
   rw [<- this]
  rw [<- e3];cases aR_ core y with
  | error e=>rfl
  | ok l2 =>
  show Except.ok _=Except.ok _;rw [append_assoc]
 have e0:t.drop q=[]:=drop_eq_nil_of_le (by omega);rw [e0] at hk;have e1:dZ_ core 0 t = .ok l:=by
  rw [hk];show Except.ok (l++[])=_;rw [append_nil]
 rw [e1] at k;exact k _ H' sm ⟨b,as,rfl,hbl,hto⟩
def gE_ (core:Bool) (Ca Ct C:Addr) (K:Frag):Sp:=fun vs H Q E=>∃ (a:Addr) (t:List Nat),vs=[.ref a]/\SqL K H a (bs t)/\t.length<=10000/\RES C H Q E (allTokens core t) (iG_ Ca Ct)
theorem ok_aM (T:TX w K mg J):FnOk P w K mg base (CX1 P w) 10 J.f_aM J.d_aM ["text"] (gE_ false J.C_f J.C_g J.C_c K):=by
 have GF:GapF P w K mg base 8 J.C_c J.f_Q false:=⟨_,_,(ok_Q T).mono (by decide),T.F_Q.b,T.F_Q.fn.kp⟩;have TF:TokF P w K mg base 8 J.C_f J.C_g J.C_c J.f_ay false:=⟨_,_,ok_ay T,T.F_ay.b,T.F_ay.fn.kp⟩;refine T.F_aM.fn.okX sc_aM fun _ _ _ _ H _ Q E hr h=>?_;obtain ⟨a,t,rfl,ht,hl,k⟩:=h;refine ⟨_,(ad_ (aj_ (aH_ T.F_V (ok_V T) hr.m aN_ (aa_ (pv 0) (aa_ (pe_r T.F_Q.mg) (aa_ (pe_r T.F_ay.mg) ab_)))))),?_⟩;simp! [tSeq];exact ⟨a,_,_,t,false,rfl,ht,hl,GF,TF,k⟩
def cp_ (Ca:Addr):Sp:=fun vs H Q _=>∃ (a:Addr) (v:Lit),vs=[.ref a]/\aP_ Ca H a v.top (v.low:Int) (v.measure.getD [])/\gp_ v/\Q (.str (S (shownLit v))) H
theorem ok_P (T:TX w K mg J):FnOk P w K mg base CX0 1 J.f_P J.d_P ["amount"] (cp_ J.C_f):=by
 refine T.F_P.fn.ok sc_P fun _ _ _ _ H _ Q E hr h=>?_;obtain ⟨a,v,rfl,⟨dx,ha⟩,g,k⟩:=h;refine ⟨_,(ac_ (aC_ 1 sc_P.nd (bp_ bO_ rfl T.b_str du_ (aa_ (al_ (pv 0) rfl) ab_)))
  (ac_ (aV_ (am_ gX_ (al_ (pv 0) rfl) ah_ (ar_ _)) (ad_ (aC_ 1 sc_P.nd (bt_ bv_ (bt_ bv_ (pv 1) ao_) (bp_ bO_ rfl T.b_str du_ (aa_ (al_ (pv 0) rfl) ab_))))) aq_)
  (ac_ (aV_ (am_ gX_ (al_ (pv 0) rfl) ao_ (ar_ _)) (ad_ (aC_ 1 sc_P.nd (bt_ bv_ (bt_ bv_ (bt_ bv_ (pv 1) ao_) (al_ (pv 0) rfl)) ao_))) aq_)
  (ad_ (aj_ (pv 1)))))),?_⟩
 have big : ∀ n:Nat,n<=20000->n<=sizeLine:=fun n h=>Nat.le_trans h (by decide);have d1:=bU_ g.2.1;have d2:=c4_ g.2.2;have lm:(v.measure.getD []).length<=10000:=by
  cases h:v.measure with
  | none=>exact zero_le _
  | some m=>exact (g.1 m h).2
 rw [gJ_ v g] at k;simp! [tSeq,tFld,ha];refine ⟨T.cl_f,T.n_aU,_,rfl,_,rfl,dc_ g.2.1,?_⟩;refine ⟨T.cl_f,T.n_aV,_,rfl,rfl,?_⟩;rw [str_int];generalize hm:v.measure.getD []=m at *;have tail : ∀ l:List Nat,l.length<=1000->Q (.str (S (l++(if m=[] then [] else 91::(m++[93]))))) H->Cls K J.C_f/\ax_ K J.C_f (ofString "measure")/\∃ x,List.lookup (ofString "measure") (afs v.top (↑v.low) (S m))=some x/\scal x (V.str (ofString ""))=true /\
   if (!decide (x=V.str (ofString "")))=true then (S l).length+(ofString "[").length<=sizeLine/\Cls K J.C_f/\ax_ K J.C_f (ofString "measure")/\∃ x,List.lookup (ofString "measure") (afs v.top (↑v.low) (S m))=some x/\∃ x_1,x=V.str x_1 /\
    (S l++ofString "[").length+x_1.length<=sizeLine/\(S l++ofString "["++x_1).length+(ofString "]").length<=sizeLine/\Q (V.str (S l++ofString "["++x_1++ofString "]")) H
   else Q (V.str (S l)) H:=fun l hl q=>by
  refine ⟨T.cl_f,T.n_a5,_,rfl,rfl,?_⟩;simp only [me_,lt_,lf_,V.str.injEq,d3_,hy_,a7_,length_append,length_singleton];by_cases hm0:m=[]
  ·rw [if_pos hm0,append_nil] at q
   rw [decide_eq_true hm0];exact q
  rw [if_neg hm0] at q;rw [decide_eq_false hm0];refine ⟨big _ (by omega),T.cl_f,T.n_a5,_,rfl,S m,rfl,big _ (by rw [a7_];omega),?_⟩;simp only [hy_,a7_,length_append,length_singleton,append_assoc,List.singleton_append];exact ⟨big _ (by simp only [length_cons];omega),q⟩
 by_cases h1:v.low=1
 ·rw [if_pos h1,append_nil] at k
  rw [if_neg (by simp [h1])];exact tail _ (by omega) k
 rw [if_neg h1] at k;rw [if_pos (by simp;omega)];refine ⟨by rw [a7_,gI_,a7_];exact big _ (by simp;omega),T.cl_f,T.n_aV,_,rfl,_,rfl,dc_ (by rw [Int.natAbs_natCast];exact g.2.2),?_⟩;rw [str_int,gI_,hy_,hy_,e2_,append_assoc];refine ⟨by simp only [a7_,length_append,length_singleton];exact big _ (by omega),?_⟩;exact tail _ (by simp;omega) k
theorem ok_d (T:TX w K mg J):FnOk P w K mg base CX0 1 J.f_C J.d_C ["self","form","words","parts","begin","end"] (bZ_ J.C_d ["form","words","parts","begin","end"]):=by
 refine T.F_C.ok sc_C (fun _ _ _ _ H _ Q E hr h=>?_) fun _ _ _ _ h=>f8_ h;obtain ⟨p,dx,args,rfl,hl,hp,k⟩:=h;obtain ⟨a,b,c,d,e,rfl⟩:=len5 hl;refine ⟨_,(ac_ (aZ_ (pv 0) (pv 1) rfl)
  (ac_ (aZ_ (pv 0) (pv 2) rfl)
  (ac_ (aZ_ (pv 0) (pv 3) rfl)
  (ac_ (aZ_ (pv 0) (pv 4) rfl)
  (ad_ (aZ_ (pv 0) (pv 5) rfl)))))),?_⟩
 simp! [tSeq,sFld];refine ⟨_,_,_,hp,T.cl_d,T.n_bA,few0,T.cl_d,T.n_bB,few1,T.cl_d,T.n_bv,few2,T.cl_d,T.n_aT,few3,T.cl_d,T.n_bw,few4,?_⟩;exact k
inductive IRowInit (Ca Ct Cr:Addr) (H:Hp) (Q:VK):List V->Prop
 | mk (p dx b:Addr) (as:List Addr) (l:Toks) (hl:Nat):H p=some (.ins Cr dx [])->H b=some (.lst (as.map V.ref))->as.length<=10000->cl_ Ca Ct H as l->(∀ (la:Addr) (H':Hp),H la=none->ay_ [p] H H'->bV_ Ca Ct Cr H' p la (l++[sent hl])->Q .non H')->IRowInit Ca Ct Cr H Q [.ref p,.ref b,.int (hl:Int)]
def kc_ (Ca Ct Cr:Addr):Sp:=fun vs H Q _=>IRowInit Ca Ct Cr H Q vs
theorem ok_k (T:TX w K mg J):FnOk P w K mg base CX0 3 J.f_D J.d_D ["self","found","length"] (kc_ J.C_f J.C_g J.C_k):=by
 refine T.F_D.ok sc_D fun _ _ _ _ H _ Q E hr h=>?_;obtain ⟨p,dx,b,as,l,hl,hp,hb,hn,hto,k⟩:=h;refine ⟨_,(ac_ (aZ_ (pv 0) (bt_ pz_ (pv 1) (ap_ (aa_ (bC_ T.M_g (ok_g T) hr.m rfl T.G_g T.b_v .nil ak_ (aa_ (pe_g T.g_a4) (aa_ ao_ (aa_ (pv 2) (aa_ (pv 2) (aa_ ao_ ab_)))))) ab_))) rfl)
  (ad_ (aZ_ (pv 0) ah_ rfl))),?_⟩
 simp! [tSeq,sFld,db_,rCat];refine kS_ rfl fun x dx1 H1 hx s1 e1=>⟨by decide,fun q hq=>?_⟩;have s2:Same H1 (upd H1 q (.lst [.ref x])):=Same.upd hq;have e2:upd H1 q (.lst [.ref x]) q=some (.lst [.ref x]):=af_;generalize upd H1 q (.lst [.ref x])=H2 at s2 e2 ⊢;have s12:Same H H2:=s1.trans s2;refine ⟨_,s12 _ _ hb,_,rfl,?_,fun la hla=>?_⟩
 ·rw [length_map]
  exact Nat.le_trans (show as.length+1<=10001 by omega) (by decide)
 have hla0:=none_of s12 hla;have nla:la≠p:=fun z=>by rw [z,s12 _ _ hp] at hla;cases hla
 have s3:Same H2 (upd H2 la (.lst (as.map V.ref++[.ref x]))):=Same.upd hla;have e3:upd H2 la (.lst (as.map V.ref++[.ref x])) la=some (.lst (as.map V.ref++[.ref x])):=af_;generalize upd H2 la (.lst (as.map V.ref++[.ref x]))=H3 at s3 e3 ⊢;have s13:Same H H3:=s12.trans s3;have hp3:=s13 _ _ hp;refine ⟨_,_,_,hp3,T.cl_k,T.n_bx,few0,T.cl_k,T.n_bq,few1,?_⟩;have im:Imm H3 (upd H3 p (.ins J.C_k dx (gO_ la 0))):=⟨fun a C dx' g k b e c q=>by
   rw [ag_ (dj_ q hp3 (by intro z;injection z with _ _ z;cases z))];exact q,fun a C dx' o u m q=>by
   rw [ag_ (dj_ q hp3 (by intro z;injection z with _ _ z;cases z))];exact q⟩
 refine k la (upd H3 p (.ins J.C_k dx (gO_ la 0))) hla0 (fun a o n e=>?_) ⟨dx,as++[x],0,af_,?_,?_⟩
 ·rw [ag_ (fun z=>n (by rw [z];exact mem_singleton.mpr rfl))]
  exact s13 _ _ e
 ·rw [ag_ nla,e3,map_append]
  rfl
 rw [drop_zero];refine cU_ (Paired.mapP hto fun a k z=>((z.same s13).b).imm im) ?_;refine TokB.imm ⟨dx1,.str (ofString ""),?_,trivial⟩ im;rw [s3 _ _ (s2 _ _ e1)];show some (HO.ins J.C_g dx1 (c9_ 2 (ofString "end") (hl:Int) (hl:Int) (.str (ofString ""))))=_;rw [bM_];rfl
def bY_ (Ca Ct Cr:Addr):Sp:=fun vs H Q _=>∃ (row la:Addr) (t:Vaunid.Token) (l:Toks),vs=[.ref row]/\bV_ Ca Ct Cr H row la (t::l)/\∀ b,TokB Ca Ct H b t->Q (.ref b) H
theorem iC_ {Ca Ct:Addr}{H:Hp}{as:List Addr}{i:Nat}{t:Vaunid.Token}{l:Toks} (h:Paired (fun a k=>TokB Ca Ct H a k) (as.drop i) (t::l)) : ∃ b,as[i]? = some b/\TokB Ca Ct H b t/\Paired (fun a k=>TokB Ca Ct H a k) (as.drop (i+1)) l:=by
 cases q:as.drop i with
 | nil=>rw [q] at h;cases h
 | cons b r =>
 rw [q] at h;cases h with
 | cons h1 h2 =>
 refine ⟨b,?_,h1,?_⟩
 ·rw [<- List.head?_drop,q]
  rfl
 rw [<- List.tail_drop,q];exact h2
theorem bJ_ (T:TX w K mg J):FnOk P w K mg base CX0 1 J.f_o J.d_o ["self"] (bY_ J.C_f J.C_g J.C_k):=by
 refine T.F_o.ok sc_o fun _ _ _ _ H _ Q E hr h=>?_;obtain ⟨row,la,t,l,rfl,⟨dx,as,i,h1,h2,h3⟩,k⟩:=h;obtain ⟨b,hb,htk,_⟩:=iC_ h3;refine ⟨_,(ad_ (aj_ (aM_ aw_ (al_ (pv 0) rfl) (al_ (pv 0) rfl) (fun _ _=>rfl)))),?_⟩;simp! [tSeq,tFld,h1];refine ⟨T.cl_k,T.n_bx,_,rfl,T.cl_k,T.n_bq,_,rfl,_,rfl,_,_,rfl,SqL.of h2,_,a0_ (by rw [getElem?_map,hb];rfl),?_⟩;exact k b htk
def j9_ (Ca Ct Cr:Addr):Sp:=fun vs H Q _=>∃ (row la:Addr) (t:Vaunid.Token) (l:Toks),vs=[.ref row]/\bV_ Ca Ct Cr H row la (t::l)/\∀ b H',TokB Ca Ct H' b t->ay_ [row] H H'->bV_ Ca Ct Cr H' row la l->Q (.ref b) H'
theorem kH_ (T:TX w K mg J):FnOk P w K mg base CX0 2 J.f_t J.d_t ["self"] (j9_ J.C_f J.C_g J.C_k):=by
 refine T.F_t.ok sc_t fun _ _ _ _ H _ Q E hr h=>?_;obtain ⟨row,la,t,l,rfl,hrow,k⟩:=h;have hr0:=hrow;obtain ⟨dx,as,i,h1,h2,h3⟩:=hrow;obtain ⟨b,hb,htk,hrest⟩:=iC_ h3;refine ⟨_,(ac_ (aC_ 1 sc_t.nd (aW_ (pv 0) T.cl_k T.m_o (bJ_ T) hr.m T.b_o .nil ak_))
  (ac_ (eA_ (pv 0) ah_ np_)
  (ad_ (aj_ (pv 1))))),?_⟩
 simp! [tSeq,dx_,bY_,fN_,rAdd,h1];refine ⟨rfl,la,t,l,hr0,fun b' hb'=>⟨T.cl_k,T.n_bq,_,rfl,_,rfl,(by show 2<1000;decide),?_⟩⟩;have sx:ay_ [row] H (upd H row (.ins J.C_k dx (gO_ la ((i+1:Nat):Int)))):=ay_.upd (mem_singleton.mpr rfl);have nt : ∀ x∈[row],NT H x:=fun x hx=>by rw [mem_singleton.mp hx];exact hr0.nt
 have im:=Imm.of sx nt;have nla:la≠row:=dj_ h2 h1 (by intro z;cases z);exact k b' _ (hb'.imm im) sx ⟨dx,as,i+1,af_,by rw [ag_ nla];exact h2,Paired.mapP hrest fun a k z=>z.imm im⟩
def fa_ (Ca Ct Cr C:Addr):Sp:=fun vs H Q E=>∃ (row la:Addr) (t:Vaunid.Token) (l:Toks) (x:List Nat),vs=[.ref row,.str (S x)]/\bV_ Ca Ct Cr H row la (t::l) /\
 if kindOf t.tok=x then (∀ b H',TokB Ca Ct H' b t->ay_ [row] H H'->bV_ Ca Ct Cr H' row la l->Q (.ref b) H') else ExF C E H 6 (t.start:Int)
theorem g0_ (T:TX w K mg J):FnOk P w K mg base (CX1 P w) 3 J.f_w J.d_w ["self","kind"] (fa_ J.C_f J.C_g J.C_k J.C_c):=by
 refine T.F_w.okX sc_w fun _ _ _ _ H _ Q E hr h=>?_;obtain ⟨row,la,t,l,x,rfl,hrow,k⟩:=h;have hr0:=hrow;obtain ⟨dx,as,i,h1,h2,h3⟩:=hrow;refine ⟨_,(ac_ (aV_ (am_ gX_ (al_ (aW_ (pv 0) T.cl_k T.m_o (bJ_ T) hr.m T.b_o .nil ak_) rfl) (pv 1) (ar_ _)) (ad_ (bo_ T.X_c (ok_c T) hr.m rfl T.G_c T.b_q a8_ rfl (aa_ ah_ (aa_ (al_ (aW_ (pv 0) T.cl_k T.m_o (bJ_ T) hr.m T.b_o .nil ak_) rfl) ab_)))) aq_)
  (ad_ (aj_ (aW_ (pv 0) T.cl_k T.m_t (kH_ T) hr.m T.b_t .nil ak_)))),?_⟩
 simp! [tSeq,dx_,bY_,j9_,cq_,tFld,h1];refine ⟨rfl,la,t,l,hr0,fun b ⟨dt,ct,e1,_⟩=>?_⟩;refine ⟨J.C_g,dt,_,e1,T.cl_g,T.n_aQ,_,rfl,rfl,?_⟩;by_cases hk:kindOf t.tok=x
 ·rw [if_pos hk] at k
  rw [if_neg (by rw [hk];simp)];exact ⟨rfl,la,t,l,hr0,k⟩
 rw [if_neg hk] at k;rw [if_pos (by simp only [V.str.injEq,d3_];simp [hk])];refine ⟨rfl,la,t,l,hr0,fun b2 ⟨dt2,ct2,e2,_⟩=>⟨J.C_g,dt2,_,e2,T.cl_g,T.n_aW,_,rfl,by decide,?_⟩⟩;exact bk_ k
def kd_ (Cp:Addr):Sp:=fun vs H Q _=>∃ (p dx n:Addr) (b e:Int),vs=[.ref p,.ref n,.int b,.int e]/\H p=some (.ins Cp dx [])/\Q .non (upd H p (.ins Cp dx (dB_ n b e)))
theorem ok_j (T:TX w K mg J):FnOk P w K mg base CX0 1 J.f_E J.d_E ["self","node","begin","end"] (kd_ J.C_j):=by
 refine T.F_E.ok sc_E fun _ _ _ _ H _ Q E hr h=>?_;obtain ⟨p,dx,n,b,e,rfl,hp,k⟩:=h;refine ⟨_,(ac_ (aZ_ (pv 0) ao_ rfl)
  (ac_ (aZ_ (pv 0) (pv 1) rfl)
  (ac_ (aZ_ (pv 0) (pv 2) rfl)
  (ad_ (aZ_ (pv 0) (pv 3) rfl))))),?_⟩
 simp! [tSeq,sFld,hp];exact ⟨T.cl_j,T.n_a6,few0,T.cl_j,T.n_a7,few1,T.cl_j,T.n_by,few2,T.cl_j,T.n_bz,few3,k⟩
theorem k7_ (T:TX w K mg J) {H:Hp}{a:Addr}{i:It} (h:IAt J.C_f J.C_g J.C_j J.C_d H a i) : ∃ C dx fs,H a=some (.ins C dx fs)/\Cls K C/\(ax_ K C "kind"/\fs.lookup ("kind":Str)=some (V.str (S i.kind)))/\(ax_ K C "begin"/\fs.lookup ("begin":Str)=some (V.int (i.start:Int)))/\ax_ K C "end"/\fs.lookup ("end":Str)=some (V.int (i.halt:Int)):=by
 obtain ⟨C,dx,fs,h1,h2,h3,h4,h5⟩:=h.fields;rcases h1 with rfl | rfl
 ·exact ⟨_,_,_,h2,T.cl_g,⟨T.n_aQ,h3⟩,⟨T.n_aW,h4⟩,T.n_bo,h5⟩
 exact ⟨_,_,_,h2,T.cl_j,⟨T.n_a6,h3⟩,⟨T.n_by,h4⟩,T.n_bz,h5⟩
def pf_ (Ca Ct Cp Cn Cu:Addr):Sp:=fun vs H Q _=>∃ (p dx l:Addr) (as:List Addr) (sl:List It) (b e:Nat),vs=[.ref p,.ref l]/\H p=some (.ins Cu dx [])/\H l=some (.lst (as.map V.ref))/\Paired (IAt Ca Ct Cp Cn H) as sl/\sl.head?.map It.start=some b/\sl.getLast?.map It.halt=some e/\Q .non (upd H p (.ins Cu dx (gv_ l (b:Int) (e:Int))))
theorem ok_a (T:TX w K mg J):FnOk P w K mg base CX0 1 J.f_F J.d_F ["self","taken"] (pf_ J.C_f J.C_g J.C_j J.C_d J.C_a):=by
 refine T.F_F.ok sc_F fun _ _ _ _ H _ Q E hr h=>?_;obtain ⟨p,dx,l,as,sl,b,e,rfl,hp,hl,hi,hb,he,k⟩:=h;refine ⟨_,(ac_ (aZ_ (pv 0) (pv 1) rfl)
  (ac_ (aZ_ (pv 0) (al_ (aM_ aw_ (pv 1) ah_ (fun _ _=>rfl)) rfl) rfl)
  (ad_ (aZ_ (pv 0) (al_ (aM_ aw_ (pv 1) (hN_ ek_ ah_) (fun _ _=>rfl)) rfl) rfl)))),?_⟩
 have nlp:l≠p:=dj_ hl hp (by intro z;cases z);obtain ⟨a0,i0,as0,e0,q0,rfl⟩:=jS_ hi hb;obtain ⟨a1,i1,as1,e1,q1,rfl⟩:=lG_ hi he;obtain ⟨C0,d0,f0,g0,c0,_,⟨n0,l0⟩,_⟩:=k7_ T q0;obtain ⟨C1,d1,f1,g1,c1,_,_,n1,l1⟩:=k7_ T q1;simp! [tSeq,sFld,tFld,hp];refine ⟨T.cl_a,T.n_aR,few0,_,SqL.of (by rw [ag_ nlp];exact hl),_,by rw [e0];exact a0_ (j:=0) rfl,a0,rfl,_,_,_,by rw [ag_ (iQ_ g0 l0 hp)];exact g0,c0,n0,_,l0,T.cl_a,T.n_br,few1,_,SqL.of (by rw [ag_ nlp];exact hl),_,by rw [e1,map_append];exact gk_ _ _,a1,rfl,_,_,_,by rw [ag_ (iQ_ g1 l1 hp)];exact g1,c1,n1,_,l1,T.cl_a,T.n_bs,few2,?_⟩;exact k
def fJ_ (Cn Cu:Addr):Sp:=fun vs H Q _=>∃ (u dx l wl pl:Addr) (f:Str) (b e:Int),vs=[.ref u,.str f,.ref wl,.ref pl]/\H u=some (.ins Cu dx (gv_ l b e))/\∀ (n dxn:Addr) (H':Hp),H n=none->Same H H'->H' n=some (.ins Cn dxn (di_ f wl pl b e))->Q (.ref n) H'
theorem au_ (T:TX w K mg J):FnOk P w K mg base CX0 3 J.f_h J.d_h ["self","form","words","parts"] (fJ_ J.C_d J.C_a):=by
 refine T.F_h.ok sc_h fun _ _ _ _ H _ Q E hr h=>?_;obtain ⟨u,dx,l,wl,pl,f,b,e,rfl,hu,k⟩:=h;refine ⟨_,(ad_ (aj_ (bC_ T.M_d (ok_d T) hr.m rfl T.G_d T.b_C .nil ak_ (aa_ (pv 1) (aa_ (pv 2) (aa_ (pv 3) (aa_ (al_ (pv 0) rfl) (aa_ (al_ (pv 0) rfl) ab_)))))))),?_⟩;simp! [tSeq,tFld,db_,hu];refine ⟨T.cl_a,T.n_br,_,rfl,T.cl_a,T.n_bs,_,rfl,?_⟩;exact kS_ rfl fun c dxc H3 hc s3 e3=>k c dxc H3 hc s3 e3
def j8_ (Ca Ct Cp Cn Cu:Addr):Sp:=fun vs H Q _=>∃ (u l:Addr) (as:List Addr) (sl:List It) (b e:Nat) (Hx:Hp) (i:Int) (g:Vaunid.Got),vs=[.ref u,.int i]/\Same Hx H/\UseAt Ca Ct Cp Cn Cu Hx u l as sl b e/\atI sl i=some (.pc g)/\∀ n,bB_ Cn Hx n g->Q (.ref n) H
theorem aO_ (T:TX w K mg J):FnOk P w K mg base CX0 1 J.f_l J.d_l ["self","place"] (j8_ J.C_f J.C_g J.C_j J.C_d J.C_a):=by
 refine T.F_l.ok sc_l fun _ _ _ _ H _ Q E hr h=>?_;obtain ⟨u,l,as,sl,b,e,Hx,i,g,rfl,sx,hu,hi,k⟩:=h;obtain ⟨dx,ho⟩:=hu.o;have ho:=sx _ _ ho;have hl:=sx _ _ hu.l;obtain ⟨a,ha,d,n,q,hn⟩:=df_ hu.i hi;refine ⟨_,(ad_ (aj_ (al_ (aM_ aw_ (al_ (pv 0) rfl) (pv 1) (fun _ _=>rfl)) rfl))),?_⟩;simp! [tSeq,tFld,ho,hl];exact ⟨T.cl_a,T.n_aR,_,rfl,_,rfl,_,SqL.of hl,_,eX_ ha,_,rfl,_,_,_,sx _ _ q,T.cl_j,T.n_a7,_,rfl,k n hn⟩
def iw_ (Ca Ct Cp Cn Cu:Addr):Sp:=fun vs H Q _=>∃ (u l:Addr) (as:List Addr) (sl:List It) (b e:Nat) (Hx:Hp),vs=[.ref u]/\Same Hx H/\UseAt Ca Ct Cp Cn Cu Hx u l as sl b e/\∀ (p:Addr) (ns:List Addr) (H':Hp),H p=none->Same H H'->H' p=some (.lst (ns.map V.ref))->Paired (fun a g=>bB_ Cn Hx a g) ns (ptsI sl)->Q (.ref p) H'
theorem b1_ (T:TX w K mg J):FnOk P w K mg base CX0 1 J.f_n J.d_n ["self"] (iw_ J.C_f J.C_g J.C_j J.C_d J.C_a):=by
 refine T.F_n.ok sc_n fun _ _ _ _ H _ Q E hr h=>?_;obtain ⟨u,l,as,sl,b,e,Hx,rfl,sx,hu,k⟩:=h;refine ⟨_,(ad_ (aj_ (jl_ rfl sc_n.nd (fQ_ (al_ (pv 0) rfl)) (cG_ (own:=[("item",1)]) (by kernel_rfl)) (fun _ _ _ _ _=>pg_q 1 sc_n.nd) (fun _ _ _ _ _=>(kt_ (am_ bD_ (fR_ K (pv 1) rfl rfl) ao_ (ar_ _)))) (fun _ _ _ _ _=>(fR_ K (pv 1) rfl rfl))))),?_⟩;obtain ⟨dx,ho⟩:=hu.o;have ho:=sx _ _ ho;have hl:=sx _ _ hu.l;simp! [tSeq,tFld,ho];refine mW_ (Itl K l) (as.map V.ref) (pick Hx "term" "node") (H1:=H) (fun R h=>?_) ?_ (gd_ (SqL.of hl)) (fun x H' D zx Nx hx sm hD hacc n1 n2=>?_) fun D H' hD sm e=>?_
 ·simp! [tSeq,tFld,ho]
  exact ⟨T.cl_a,T.n_aR,_,rfl,_,rfl,⟨_,SqL.of hl⟩,h⟩
 ·rw [length_map,Paired.length hu.i]
  exact Nat.le_trans hu.n (by decide)
 ·obtain ⟨a,ma,rfl⟩:=mem_map.mp hx
  obtain ⟨i,hi⟩:=gV_ hu.i ma;cases i with
  | tk t =>
   obtain ⟨⟨d,c,q,_⟩,g⟩:=hi;have g5:=sm _ _ (sx _ _ q);have nk : ¬ kindOf t.tok=Vaunid.txt "term":=hb_ g;simp! [tSeq,tFld,g5];refine ⟨T.cl_g,T.n_aQ,_,rfl,rfl,?_⟩;rw [if_neg (by rw [bM_];simp only [V.str.injEq,d3_];exact nk)];exact n2 (dC_ q rfl (by rw [bM_,d3_];exact nk))
  | pc g =>
  obtain ⟨d,n,q,hn⟩:=hi;have g5:=sm _ _ (sx _ _ q);simp! [tSeq,tFld,g5];refine ⟨T.cl_j,T.n_a6,_,rfl,rfl,?_⟩;rw [if_pos rfl];exact ⟨T.cl_j,T.n_a7,_,rfl,zx,hD,hacc,n1 _ (eb_ q rfl)⟩
 obtain ⟨ns,en,pn⟩:=jn_ hu.i;exact k D ns H' hD sm (by rw [e,en]) pn
def iy_ (Ca Ct Cp Cn Cu:Addr):Sp:=fun vs H Q _=>∃ (u l:Addr) (as:List Addr) (sl:List It) (b e:Nat) (Hx:Hp),vs=[.ref u]/\Same Hx H/\UseAt Ca Ct Cp Cn Cu Hx u l as sl b e/\∀ (p:Addr) (H':Hp),H p=none->Same H H'->H' p=some (.lst (((nmsI sl).map S).map V.str))->Q (.ref p) H'
theorem dg_ (T:TX w K mg J):FnOk P w K mg base CX0 1 J.f_p J.d_p ["self"] (iy_ J.C_f J.C_g J.C_j J.C_d J.C_a):=by
 refine T.F_p.ok sc_p fun _ _ _ _ H _ Q E hr h=>?_;obtain ⟨u,l,as,sl,b,e,Hx,rfl,sx,hu,k⟩:=h;refine ⟨_,(ad_ (aj_ (jl_ rfl sc_p.nd (fQ_ (al_ (pv 0) rfl)) (cG_ (own:=[("item",1)]) (by kernel_rfl)) (fun _ _ _ _ _=>pg_q 1 sc_p.nd) (fun _ _ _ _ _=>(kt_ (am_ bD_ (fR_ K (pv 1) rfl rfl) ao_ (ar_ _)))) (fun _ _ _ _ _=>(fR_ K (pv 1) rfl rfl))))),?_⟩;obtain ⟨dx,ho⟩:=hu.o;have ho:=sx _ _ ho;have hl:=sx _ _ hu.l;simp! [tSeq,tFld,ho];refine mW_ (Itl K l) (as.map V.ref) (pick Hx "name" "content") (H1:=H) (fun R h=>?_) ?_ (gd_ (SqL.of hl)) (fun x H' D zx Nx hx sm hD hacc n1 n2=>?_) fun D H' hD sm e=>?_
 ·simp! [tSeq,tFld,ho]
  exact ⟨T.cl_a,T.n_aR,_,rfl,_,rfl,⟨_,SqL.of hl⟩,h⟩
 ·rw [length_map,Paired.length hu.i]
  exact Nat.le_trans hu.n (by decide)
 ·obtain ⟨a,ma,rfl⟩:=mem_map.mp hx
  obtain ⟨i,hi⟩:=gV_ hu.i ma;cases i with
  | tk t =>
   obtain ⟨⟨d,c,q,_⟩,g⟩:=hi;have g5:=sm _ _ (sx _ _ q);simp! [tSeq,tFld,g5];refine ⟨T.cl_g,T.n_aQ,_,rfl,rfl,?_⟩;by_cases z:kindOf t.tok=Vaunid.txt "name"
   ·rw [if_pos (by rw [z,bM_])]
    exact ⟨T.cl_g,T.n_bp,_,rfl,zx,hD,hacc,n1 _ (eb_ q (by show some (V.str (S _))=_;rw [z,bM_]))⟩
   rw [if_neg (by rw [bM_];simp only [V.str.injEq,d3_];exact z)];exact n2 (dC_ q rfl (by rw [bM_,d3_];exact z))
  | pc g =>
  obtain ⟨d,n,q,hn⟩:=hi;have g5:=sm _ _ (sx _ _ q);simp! [tSeq,tFld,g5];refine ⟨T.cl_j,T.n_a6,_,rfl,rfl,?_⟩;rw [if_neg (by left)];exact n2 (dC_ q rfl (by left))
 exact k D H' hD sm (by rw [e,js_ hu.i])
structure Uo (J:TA) (X:List Addr) (u:Addr) (s:Nat×Nat) (H:Hp):Prop where
 r:Hre X H
 o : ∃ dx l,H u=some (.ins J.C_a dx (gv_ l (s.1:Int) (s.2:Int)))
structure UO (J:TA) (X:List Addr) (u:Addr) (s:Nat×Nat) (σ:L2.St) (H:Hp):Prop extends Uo J X u s H where
 v:σ[0]? = some (some (.ref u))
structure UZ (J:TA) (X:List Addr) (u:Addr) (sl:List It) (s:Nat×Nat) (σ:L2.St) (H:Hp):Prop where
 v:σ[0]? = some (some (.ref u))
 r:Hre X H
 u : ∃ l as,UseAt J.C_f J.C_g J.C_j J.C_d J.C_a (ex X H) u l as sl s.1 s.2
def Me (σ:L2.St) (H0:Hp) (t:TE) (v:V):Prop:=∀ H Q,Same H0 H->Q v H->t σ H Q
def Mw (X:List Addr) (σ:L2.St) (H0:Hp) (t:TE) (ws:List V):Prop:=∀ H Q,Same H0 H->(∀ a H',Same H H'->ex X H' a=some (.lst ws)->Q (.ref a) H')->t σ H Q
def Mn (J:TA) (X:List Addr) (σ:L2.St) (H0:Hp) (t:TE) (g:Vaunid.Got):Prop:=∀ H Q,Same H0 H->(∀ n H',Same H H'->bB_ J.C_d (ex X H') n g->Q (.ref n) H')->t σ H Q
def Ms (J:TA) (X:List Addr) (H:Hp) (as:List Addr) (gs:List Vaunid.Got):Prop:=Paired (fun a g=>bB_ J.C_d (ex X H) a g) as gs
def Ml (J:TA) (X:List Addr) (σ:L2.St) (H0:Hp) (t:L2.TA) (gs:List Vaunid.Got):Prop:=∀ H Q,Same H0 H->(∀ as H',Same H H'->Ms J X H' as gs->Q (as.map V.ref) H')->t σ H Q
def Mp (J:TA) (X:List Addr) (σ:L2.St) (H0:Hp) (t:TE) (gs:List Vaunid.Got):Prop:=∀ H Q,Same H0 H->(∀ a as H',Same H H'->ex X H' a=some (.lst (as.map V.ref))->Ms J X H' as gs->Q (.ref a) H')->t σ H Q
def Mt (J:TA) (X:List Addr) (σ:L2.St) (H0:Hp) (t:TS) (g:Vaunid.Got):Prop:=∀ D:Ends,(∀ n H',Same H0 H'->bB_ J.C_d (ex X H') n g->D.rt (.ref n) H')->t D σ H0
section
variable {X:List Addr}{u:Addr}{sl:List It}{s:Nat×Nat}{σ:L2.St}{H H':Hp}{g g':Vaunid.Got}{gs:List Vaunid.Got}{ws:List V}{te tf tw tp:TE}{i:Nat}{v:V}{f:List Nat}{ns:List (List Nat)}{a:Addr}{as:List Addr}{k:Vaunid.Token}{n:Int}
theorem Ms.up (h:Ms J X H as gs) (m:Same H H'):Ms J X H' as gs:=Paired.mapP h fun _ _ q=>q.same (bN_ m)
theorem UZ.o (z:UZ J X u sl s σ H):UO J X u s σ H:=by
 obtain ⟨l,as,q⟩:=z.u;obtain ⟨dx,e⟩:=q.o;exact ⟨⟨z.r,dx,l,be_ _ _ _ _ e⟩,z.v⟩
theorem UZ.at (z:UZ J X u sl s σ H) {σ':L2.St} (v:σ'[0]? = some (some (.ref u))) (m:Same H H'):UZ J X u sl s σ' H':=by
 obtain ⟨l,as,q⟩:=z.u;obtain ⟨dx,e⟩:=q.o;exact ⟨v,z.r.same m,l,as,⟨dx,bN_ m _ _ e⟩,bN_ m _ _ q.l,Paired.mapP q.i fun _ _ y=>y.same (bN_ m),q.b,q.e,q.n⟩
theorem Uo.same (z:Uo J X u s H) (m:Same H H'):Uo J X u s H':=let ⟨dx,l,e⟩:=z.o;⟨z.r.same m,dx,l,m _ _ e⟩
theorem no_p {H:Hp}{Q:Option Int->Hp->Prop} (k:Q none H):fG_ σ H Q:=k
theorem at_p {H:Hp}{Q:Option Int->Hp->Prop} (k:Q (some n) H):lL_ (tC (.int n)) σ H Q:=⟨n,rfl,k⟩
theorem me_c:Me σ H (tC v) v:=fun _ _ _ k=>k
theorem Me.eq {v':V} (h:Me σ H te v) (e:v=v'):Me σ H te v':=e ▸ h
theorem me_f (f:String):Me σ H (tC (.str (ofString f))) (.str (S (Vaunid.txt f))):=by rw [bM_];exact me_c
theorem me_v (h:σ[i]? = some (some v)):Me σ H (tVar i) v:=fun _ _ _ k=>a6_ h k
theorem iW_ (h:Me σ H te (.int n)):Me σ H (tUn (rU fun i=>V.int (-i)) te) (.int (-n)):=fun H1 _ m k=>h H1 _ m ⟨n,rfl,k⟩
theorem nn_ (h:Me σ H te (.int n)) (q:n.natAbs.log2<1920):Me σ H (tCB (fun xs H Q=>∃ i,xs=[V.int i]/\i.natAbs.log2<1920/\Q (V.str (ofString (toString i))) H) (a1_ te tNil)) (.str (S (decimalInt n))):=fun H1 _ m k=>h H1 _ m ⟨n,rfl,q,by rw [str_int];exact k⟩
theorem jX_ (T:TX w K mg J) (z:UZ J X u sl s σ H) (h:KAt sl n k):bh_ k.tok/\∃ c,qg_ J.C_f H c k.tok/\Me σ H (tFld K (tOp (rIxL K) (tFld K (tVar 0) (ofString "taken")) (tC (.int n))) (ofString "kind")) (.str (S (kindOf k.tok)))/\Me σ H (tFld K (tOp (rIxL K) (tFld K (tVar 0) (ofString "taken")) (tC (.int n))) (ofString "content")) c:=by
 obtain ⟨l,as,q⟩:=z.u;obtain ⟨dx,ho⟩:=q.o;obtain ⟨a,ha,hk,gt⟩:=df_ q.i h;obtain ⟨d,c,qt,ct⟩:=TokB.same hk (be_ X H);refine ⟨gt,c,ct,fun H1 Q m k=>?_,fun H1 Q m k=>?_⟩
 ·have sx:=(be_ X H).trans m
  dsimp only [tFld,tOp];exact a6_ z.v ⟨u,_,dx,_,_,rfl,sx _ _ ho,T.cl_a,T.n_aR,rfl,l,_,_,_,rfl,rfl,SqL.of (sx _ _ q.l),eX_ ha,a,_,d,_,_,rfl,m _ _ qt,T.cl_g,T.n_aQ,rfl,k⟩
 have sx:=(be_ X H).trans m;dsimp only [tFld,tOp];exact a6_ z.v ⟨u,_,dx,_,_,rfl,sx _ _ ho,T.cl_a,T.n_aR,rfl,l,_,_,_,rfl,rfl,SqL.of (sx _ _ q.l),eX_ ha,a,_,d,_,_,rfl,m _ _ qt,T.cl_g,T.n_bp,rfl,k⟩
theorem dG_ (T:TX w K mg J) (z:UZ J X u sl s σ H) (h:KAt sl n k):Me σ H (tFld K (tOp (rIxL K) (tFld K (tVar 0) (ofString "taken")) (tC (.int n))) (ofString "kind")) (.str (S (kindOf k.tok))):=let ⟨_,_,_,q,_⟩:=jX_ T z h;q
theorem ot_ (T:TX w K mg J) (z:UZ J X u sl s σ H) (h:KAt sl n k) (e:kindOf k.tok=Vaunid.txt "name"):Me σ H (tFld K (tOp (rIxL K) (tFld K (tVar 0) (ofString "taken")) (tC (.int n))) (ofString "content")) (.str (S (aA_ k.tok))):=by
 obtain ⟨gt,c,ct,_,q⟩:=jX_ T z h;obtain ⟨wd,e1,e2⟩:=(br_ gt).mp e;rw [e1] at ct;rw [e1];exact (show c = .str (S wd) from ct) ▸ q
theorem kU_ (T:TX w K mg J) (z:UZ J X u sl s σ H) (h:KAt sl n k) {lt:Lit}{d:Option Int} (e:k.tok = .num lt d):bh_ (.num lt d)/\∃ am,aP_ J.C_f H am lt.top (lt.low:Int) (lt.measure.getD [])/\Me σ H (tFld K (tOp (rIxL K) (tFld K (tVar 0) (ofString "taken")) (tC (.int n))) (ofString "content")) (.ref am):=by
 obtain ⟨gt,c,ct,_,q⟩:=jX_ T z h;rw [e] at ct gt;obtain ⟨am,rfl,ha⟩:=ct;exact ⟨gt,am,ha,q⟩
theorem kT_ (T:TX w K mg J) (z:UZ J X u sl s σ H) (h:KAt sl n k) {lt:Lit}{d:Int} (e:k.tok = .num lt (some d)):d.natAbs<10 ^ 12/\Me σ H (tFld K (tFld K (tOp (rIxL K) (tFld K (tVar 0) (ofString "taken")) (tC (.int n))) (ofString "content")) (ofString "over")) (.int d):=by
 obtain ⟨gt,am,⟨dx,ha⟩,q⟩:=kU_ T z h e;have hv:=gt.2.2.2.1 d rfl;subst hv;exact ⟨gt.2.1,fun H1 Q m k=>q H1 _ m ⟨am,_,dx,_,_,rfl,m _ _ ha,T.cl_f,T.n_aU,rfl,k⟩⟩
theorem os_ (h:Me σ H te (.ref a)) {lt:Lit} (q:aP_ J.C_f H a lt.top (lt.low:Int) (lt.measure.getD [])) (gl:gp_ lt):Me σ H (cS_ (cp_ J.C_f) [] E0 (a1_ te tNil)) (.str (S (shownLit lt))):=fun H1 Q m k=>h H1 _ m ⟨a,lt,rfl,q.same m,gl,k⟩
theorem f6_ (r:Hre X H) {H1:Hp}{Q:VK} (m:Same H H1) (hn:Nat.ble ws.length 9=true) (k : ∀ a H',Same H1 H'->ex X H' a=some (.lst ws)->Q (.ref a) H'):ws.length<=sizeLine/\∀ p,H1 p=none->Q (.ref p) (upd H1 p (.lst ws)) :=
 ⟨Nat.le_trans (Nat.le_of_ble_eq_true hn) (by decide),fun p hp=>k p _ (Same.upd hp) (r.new (none_of m hp) af_)⟩
theorem bq_ (r:Hre X H):Mw X σ H (tLst tNil) []:=fun H1 _ m k=>f6_ r m rfl k
theorem g4_ (r:Hre X H) (h:Me σ H te v):Mw X σ H (tLst (a1_ te tNil)) [v]:=fun H1 _ m k=>h H1 _ m (f6_ r m rfl k)
theorem g3_ (h:σ[i]? = some (some (.ref a))) (e:ex X H a=some (.lst ws)):Mw X σ H (tVar i) ws:=fun H1 _ m k=>a6_ h (k a H1 (Same.refl _) (bN_ m _ _ e))
theorem iS_ (r:Hre X H) {tl th:TO}{lo hi:Option Int} (h:Mw X σ H te ws) (h1 : ∀ {H Q},Q lo H->tl σ H Q) (h2 : ∀ {H Q},Q hi H->th σ H Q) {vs:List V} (e:cutV ws lo hi=vs):Mw X σ H (tSl (rSlL K) te tl th) vs:=fun H1 _ m k=>h H1 _ m fun a H2 m2 q=>h1 (h2 ⟨a,ws,rfl,SqL.of (be_ _ _ _ _ q),fun p hp=>e ▸ k p _ (m2.trans (Same.upd hp)) (r.new (none_of (m.trans m2) hp) af_)⟩)
theorem bj_:Ml J X σ H tNil []:=fun H1 _ _ k=>k [] H1 (Same.refl _) .nil
theorem aD_ {ts:L2.TA} (h:Mn J X σ H te g) (t:Ml J X σ H ts gs):Ml J X σ H (a1_ te ts) (g::gs):=fun H1 _ m k=>h H1 _ m fun n H2 m2 q=>t H2 _ (m.trans m2) fun as H3 m3 qs=>k (n::as) H3 (m2.trans m3) (.cons (q.same (bN_ m3)) qs)
theorem bi_ (r:Hre X H) {ts:L2.TA} (h:Ml J X σ H ts gs) (hn:Nat.ble gs.length 9=true:=by rfl):Mp J X σ H (tLst ts) gs:=fun H1 _ m k=>h H1 _ m fun as H2 m2 qs=>f6_ r (m.trans m2) (by rw [length_map,Paired.length qs];exact hn) fun a H3 m3 e=>k a as H3 (m2.trans m3) e (Ms.up qs m3)
theorem fn_ (h:σ[i]? = some (some (.ref a))) (e:ex X H a=some (.lst (as.map V.ref))) (q:Ms J X H as gs):Mp J X σ H (tVar i) gs:=fun H1 _ m k=>a6_ h (k a as H1 (Same.refl _) (bN_ m _ _ e) (Ms.up q m))
theorem dR_ (h:σ[i]? = some (some (.ref a))) (q:bB_ J.C_d (ex X H) a g):Mn J X σ H (tVar i) g:=fun H1 _ m k=>a6_ h (k a H1 (Same.refl _) (q.same (bN_ m)))
theorem mn_ (h:Mp J X σ H tp gs) (hi:Me σ H te (.int n)) (e:atI gs n=some g):Mn J X σ H (tOp (rIxL K) tp te) g:=fun H1 _ m k=>h H1 _ m fun a as H2 m2 q qs=>by
 obtain ⟨b,hb,y⟩:=df_ qs e;exact hi H2 _ (m.trans m2) ⟨a,_,n,_,rfl,rfl,SqL.of (be_ _ _ _ _ q),eX_ hb,k b H2 m2 y⟩
theorem a3_ (z:UZ J X u sl s σ H) (hi:Me σ H te (.int n)) (h:MAt sl n g):Mn J X σ H (dx_ J.C_a (ofString "part") (j8_ J.C_f J.C_g J.C_j J.C_d J.C_a) [] E0 (tVar 0) (a1_ te tNil)) g:=fun H1 Q m k=>by
 obtain ⟨l,as,q⟩:=z.u;obtain ⟨dx,ho⟩:=q.o;have sx:=(be_ X H).trans m;exact a6_ z.v ⟨u,dx,_,rfl,sx _ _ ho,rfl,hi H1 _ m ⟨u,l,as,sl,_,_,ex X H,n,g,rfl,sx,q,h,fun b y=>k b H1 (Same.refl _) (y.same (bN_ m))⟩⟩
theorem b3_ (z:UZ J X u sl s σ H):Mp J X σ H (dx_ J.C_a (ofString "parts_within") (iw_ J.C_f J.C_g J.C_j J.C_d J.C_a) [] E0 (tVar 0) tNil) (ptsI sl):=fun H1 Q m k=>by
 obtain ⟨l,as,q⟩:=z.u;obtain ⟨dx,ho⟩:=q.o;have sx:=(be_ X H).trans m;exact a6_ z.v ⟨u,dx,_,rfl,sx _ _ ho,rfl,u,l,as,sl,_,_,ex X H,rfl,sx,q,fun p bs H2 hp m2 e ps=>k p bs H2 m2 (z.r.new (none_of m hp) e) (Paired.mapP ps fun _ _ y=>y.same (bN_ (m.trans m2)))⟩
theorem ed_ (z:UZ J X u sl s σ H):Mw X σ H (dx_ J.C_a (ofString "names_within") (iy_ J.C_f J.C_g J.C_j J.C_d J.C_a) [] E0 (tVar 0) tNil) (((nmsI sl).map S).map V.str):=fun H1 Q m k=>by
 obtain ⟨l,as,q⟩:=z.u;obtain ⟨dx,ho⟩:=q.o;have sx:=(be_ X H).trans m;exact a6_ z.v ⟨u,dx,_,rfl,sx _ _ ho,rfl,u,l,as,sl,_,_,ex X H,rfl,sx,q,fun p H2 hp m2 e=>k p H2 m2 (z.r.new (none_of m hp) e)⟩
theorem aJ_ (z:UO J X u s σ H) (d:Nd s g f ns gs) (hf:Me σ H tf (.str (S f))) (hw:Mw X σ H tw ((ns.map S).map V.str)) (hp:Mp J X σ H tp gs):Mn J X σ H (dx_ J.C_a (ofString "make") (fJ_ J.C_d J.C_a) [] E0 (tVar 0) (a1_ tf (a1_ tw (a1_ tp tNil)))) g:=fun H1 Q m k=>by
 obtain ⟨dx,l,ho⟩:=z.o;refine a6_ z.v ⟨u,dx,_,rfl,m _ _ ho,rfl,hf H1 _ m (hw H1 _ m fun wl H2 m2 ew=>hp H2 _ (m.trans m2) fun pl as H3 m3 ep qs=>?_)⟩;have m13:=m.trans (m2.trans m3);refine ⟨u,dx,l,wl,pl,_,_,_,rfl,m13 _ _ ho,fun n dn H4 hn m4 en=>k n H4 (m2.trans (m3.trans m4)) ?_⟩;have e:=hz_.of (x:=g.term) (as:=as) (gs:=gs) (b:=s.1) (e:=s.2) (by rw [d.f];exact z.r.new (none_of m13 hn) en) (by rw [d.w];exact bN_ (m3.trans m4) _ _ ew) (bN_ m4 _ _ ep) (Ms.up qs m4) d.p;show hz_ _ _ _ g.term g.places;rw [<- d.l];exact e
theorem ba_ (h:Mn J X σ H te g):Mt J X σ H (tRet te) g:=fun D k=>h H D.rt (Same.refl _) k
theorem f2_ {t:TS} (h:Mn J X σ H te g):Mt J X σ H (tSeq (tRet te) t) g:=ba_ h
theorem Mt.eq {t:TS} (h:Mt J X σ H t g') (e:g.term=g'.term) (q:g.places=g'.places):Mt J X σ H t g:=fun D k=>h D fun n H' m y=>k n H' m (by unfold bB_;rw [e,q];exact y)
theorem Mt.of {t:TS}{H1:Hp} (m:Same H H1) {D:Ends} (k : ∀ n H',Same H H'->bB_ J.C_d (ex X H') n g->D.rt (.ref n) H') {σ':L2.St} (h:Mt J X σ' H1 t g):t D σ' H1:=h D fun n H' q=>k n H' (m.trans q)
theorem op_ {t:TS} (h:Me σ H te v) (k:Mt J X (σ.set i (some v)) H t g):Mt J X σ H (tSeq (tAsg te (do_ i)) t) g:=fun D q=>h H _ (Same.refl _) (k D q)
theorem oo_ {t:TS} (h:Mw X σ H te ws) (k : ∀ a H',Same H H'->ex X H' a=some (.lst ws)->Mt J X (σ.set i (some (.ref a))) H' t g):Mt J X σ H (tSeq (tAsg te (do_ i)) t) g:=fun D q=>h H _ (Same.refl _) fun a H1 m e=>Mt.of m q (k a H1 m e)
theorem f3_ {t:TS} (h:Mp J X σ H te gs) (k : ∀ a as H',Same H H'->ex X H' a=some (.lst (as.map V.ref))->Ms J X H' as gs->Mt J X (σ.set i (some (.ref a))) H' t g):Mt J X σ H (tSeq (tAsg te (do_ i)) t) g:=fun D q=>h H _ (Same.refl _) fun a as H1 m e qs=>Mt.of m q (k a as H1 m e qs)
theorem f4_ {t:TS} (h:Mn J X σ H te g') (k : ∀ a H',Same H H'->bB_ J.C_d (ex X H') a g'->Mt J X (σ.set i (some (.ref a))) H' t g):Mt J X σ H (tSeq (tAsg te (do_ i)) t) g:=fun D q=>h H _ (Same.refl _) fun a H1 m e=>Mt.of m q (k a H1 m e)
theorem g5_ {t t' t2:TS}{y:Str} (h:Me σ H te (.str (S f))) (e:S f=y) (k:Mt J X σ H (tSeq t t2) g):Mt J X σ H (tSeq (tIfS (hG_ (tOp rEq te (tC (.str y)))) t t') t2) g:=fun D q=>h H _ (Same.refl _) ⟨rfl,by subst e;dsimp only [isB];rw [if_pos (decide_eq_true rfl)];exact k D q⟩
theorem dk_ {t t2:TS}{y:Str} (h:Me σ H te (.str (S f))) (e : ¬ S f=y) (k:Mt J X σ H t2 g):Mt J X σ H (tSeq (tIfS (hG_ (tOp rEq te (tC (.str y)))) t nM_) t2) g:=fun D q=>h H _ (Same.refl _) ⟨rfl,by dsimp only [isB];rw [if_neg (by rw [decide_eq_true_eq];intro z;injection z with z;exact e z)];exact k D q⟩
theorem pD_ {t t' t2:TS}{y:Str} (h:Me σ H te (.str (S f))) (e : ¬ S f=y) (k:Mt J X σ H (tSeq t' t2) g):Mt J X σ H (tSeq (tIfS (hG_ (tOp rEq te (tC (.str y)))) t t') t2) g:=fun D q=>h H _ (Same.refl _) ⟨rfl,by dsimp only [isB];rw [if_neg (by rw [decide_eq_true_eq];intro z;injection z with z;exact e z)];exact k D q⟩
end
def spMk (J:TA) (R:List It->Vaunid.Got->Prop):Sp:=fun vs H Q _=>∃ (X:List Addr) (u:Addr) (sl:List It) (g:Vaunid.Got),vs=[.ref u]/\Hre X H/\(∃ l as,UseAt J.C_f J.C_g J.C_j J.C_d J.C_a (ex X H) u l as sl g.start g.halt_)/\R sl g/\∀ n H',Same H H'->bB_ J.C_d (ex X H') n g->Q (.ref n) H'
theorem bR_ {x qual:Str}{st:Stmt}{f:Addr}{fd:FuncData}{N:List Str}{R:List It->Vaunid.Got->Prop} (F:Fun K x qual st f fd) (S:FnScope (ofString "use"::N) ["use"] (ae_ st))
  (h : ∀ (cdv:Value) (A:Around) (outer:List Env) (s:Shared) (H:Hp) (E:XK),Room 8 (A.deeper (envOfC qual (ae_ st) s.heap.objs.size f cdv))->∀ X u sl g,UZ J X u sl (gst g) (start (ofString "use"::N) [.ref u]) H->R sl g ->
   ∃ t,PSs (cxOf CX0 P w K mg base (ofString "use"::N) qual (ae_ st) f cdv A outer s H E).nox (bw_ st) t/\Mt J X (start (ofString "use"::N) [.ref u]) H t g):FnOk P w K mg base CX0 9 f fd ["use"] (spMk J R):=by
 refine F.ok S (fun cdv A outer s H vs Q E hr h1=>?_) fun _ _ _ _ ⟨_,_,_,_,e,_⟩=>by rw [e];rfl
 obtain ⟨X,u,sl,g,rfl,r,q,hR,k⟩:=h1;obtain ⟨t,h2,h3⟩:=h cdv A outer s H E hr X u sl g ⟨rfl,r,q⟩ hR;exact ⟨t,h2,h3 _ k⟩
section
variable {X:List Addr}{u:Addr}{s:Nat×Nat}{σ:L2.St}{H H':Hp}{g g':Vaunid.Got}{te:TE}{v:V}{f:List Nat}{a:Addr}{k:Vaunid.Token}{n:Int}
theorem Mn.eq (h:Mn J X σ H te g') (e:g=g'):Mn J X σ H te g:=by subst e;exact h
theorem f5_ (z:UO J X u s σ H) (b:Bool) {f:String} (e:f9_ (.truth b)=f):Mn J X σ H (dx_ J.C_a (ofString "make") (fJ_ J.C_d J.C_a) [] E0 (tVar 0) (a1_ (tC (.str (ofString f))) (a1_ (tLst tNil) (a1_ (tLst tNil) tNil)))) (Vaunid.gotTruth b s):=by
 subst e;exact aJ_ z (eG_ _ _) (me_f _) (bq_ z.r) (bi_ z.r bj_)
theorem hW_ {α:Type}{Rv:Hp->V->α->Prop}{F:α->Vaunid.Got->Vaunid.Got}{ys:List α}{tl:TE}{i j:Nat}{n0:Addr} (hv:σ[0]? = some (some (.ref u))) (hi:σ[i]? = some (some (.ref n0))) (hg:bB_ J.C_d (ex X H) n0 g)
  (hl : ∀ Q:VK,(∀ a vs H',Same H H'->H' a=some (.lst vs)->Paired (Rv H') vs ys->Q (.ref a) H')->tl σ H Q) (c:(i≠j/\i≠0/\j≠0)/\j<σ.length)
  (st : ∀ σ1 Hs H1 n1 g1 v y,σ1[0]? = some (some (.ref u))->σ1[i]? = some (some (.ref n1))->σ1[j]? = some (some v)->Same H Hs->Same Hs H1->bB_ J.C_d (ex X H1) n1 g1->Rv Hs v y->Mn J X σ1 H1 te (F y g1)) :
  Mt J X σ H (tSeq (tFor (iRev K (a1_ tl tNil)) (do_ j) (tAsg te (do_ i))) (tRet (tVar i))) (ys.foldr F g):=fun D k=>by
 refine bG_ (hl _ fun a vs H1 m e hp=>⟨a,vs,rfl,SqL.of e,?_⟩);refine hm_ vs (fun d σ' H'=>∃ n,σ'[0]? = some (some (.ref u))/\σ'.length=σ.length/\σ'[i]? = some (some (.ref n))/\Same H1 H'/\bB_ J.C_d (ex X H') n ((ys.reverse.take d).reverse.foldr F g)) ⟨n0,hv,rfl,hi,Same.refl _,hg.same (bN_ m)⟩ (fun d σ' H' _ q=>?_) (fun d x σ' H' hx q=>?_) fun σ' H' q=>?_
 ·obtain ⟨n,_,_,_,m2,_⟩:=q
  exact SqL.of (m2 _ _ e)
 ·obtain ⟨n,q0,q1,q2,m2,q3⟩:=q
  obtain ⟨y,hy,ry⟩:=cD_ (kG_ hp) hx;have et:(ys.reverse.take (d+1)).reverse=y::(ys.reverse.take d).reverse:=by rw [take_succ,hy,reverse_append];rfl
  have i0:(σ'.set j (some x))[0]? = some (some (.ref u)):=by rw [getElem?_set_ne c.1.2.2];exact q0
  refine st (σ'.set j (some x)) H1 H' n _ x y i0 (by rw [getElem?_set_ne c.1.1.symm];exact q2) (by rw [getElem?_set_self (by rw [q1];exact c.2)]) m m2 q3 ry H' _ (Same.refl _) fun b H2 m3 y3=>?_;refine ⟨b,by rw [getElem?_set_ne c.1.2.1];exact i0,by rw [length_set,length_set];exact q1,by rw [getElem?_set_self (by rw [length_set,q1];exact (List.getElem?_eq_some_iff.mp hi).1)],m2.trans m3,?_⟩;rw [et];exact y3
 obtain ⟨n,q0,q1,q2,m2,q3⟩:=q;rw [Paired.length hp,take_of_length_le (by rw [length_reverse];exact Nat.le_refl _),List.reverse_reverse] at q3;exact a6_ q2 (k n H' (m.trans m2) q3)
end
def ph_ (J:TA):Sp:=fun vs H Q _=>∃ (X:List Addr) (u c:Addr) (s:Nat×Nat) (g:Vaunid.Got),vs=[.ref u,.ref c]/\Uo J X u s H/\bB_ J.C_d (ex X H) c g/\∀ n H',Same H H'->bB_ J.C_d (ex X H') n (Vaunid.gotThree .cond s g (Vaunid.gotTruth false s) (Vaunid.gotTruth true s))->Q (.ref n) H'
theorem ok_N (T:TX w K mg J):FnOk P w K mg base CX0 5 J.f_N J.d_N ["use","condition"] (ph_ J):=by
 refine T.F_N.fn.ok sc_N fun _ _ _ _ H _ Q E hr h=>?_;obtain ⟨X,u,c,s,g,rfl,z,hg,k⟩:=h;have z:UO J X u s (start [ofString "use",ofString "condition"] [.ref u,.ref c]) H:=⟨z,rfl⟩;exact ⟨_,(ad_ (aj_ (an_ (pv 0) T.cl_a T.m_h (au_ T) hr.m T.b_h .nil ak_ (aa_ ao_ (aa_ (ap_ ab_) (aa_ (ap_ (aa_ (pv 1) (aa_ (an_ (pv 0) T.cl_a T.m_h (au_ T) hr.m T.b_h .nil ak_ (aa_ ao_ (aa_ (ap_ ab_) (aa_ (ap_ ab_) ab_)))) (aa_ (an_ (pv 0) T.cl_a T.m_h (au_ T) hr.m T.b_h .nil ak_ (aa_ ao_ (aa_ (ap_ ab_) (aa_ (ap_ ab_) ab_)))) ab_)))) ab_)))))),ba_ (aJ_ z (mm_ _ _ _ _) (me_f _) (bq_ z.r) (bi_ z.r (aD_ (dR_ rfl hg) (aD_ (f5_ z false rfl) (aD_ (f5_ z true rfl) bj_))))) _ k⟩
theorem iV_ {X:List Addr}{u:Addr}{s:Nat×Nat}{σ:L2.St}{H:Hp}{g:Vaunid.Got}{te:TE} (z:UO J X u s σ H) (h:Mn J X σ H te g):Mn J X σ H (cS_ (ph_ J) [] E0 (a1_ (tVar 0) (a1_ te tNil))) (Vaunid.gotThree .cond s g (Vaunid.gotTruth false s) (Vaunid.gotTruth true s)):=fun H1 Q m k=>by
 dsimp only [cS_,a1_,tNil];exact a6_ z.v (h H1 _ m fun n H2 m2 y=>⟨X,u,n,s,g,rfl,z.toUo.same (m.trans m2),y,fun n' H3 m3 q=>k n' H3 (m2.trans m3) q⟩)
def pm_ (J:TA):Sp:=fun vs H Q _=>∃ (X:List Addr) (u nl bd:Addr) (s:Nat×Nat) (ns:List (List Nat)) (g:Vaunid.Got),vs=[.ref u,.ref nl,.ref bd]/\Uo J X u s H/\ex X H nl=some (.lst ((ns.map S).map V.str))/\bB_ J.C_d (ex X H) bd g/\∀ n H',Same H H'->bB_ J.C_d (ex X H') n (Vaunid.gotFns s ns g)->Q (.ref n) H'
theorem mF_ (s:Stretch) (ns:List (List Nat)) (g:Vaunid.Got):ns.foldr (fun x g=>Vaunid.gotFns s [x] g) g=Vaunid.gotFns s ns g:=by
 induction ns with
 | nil=>rfl
 | cons x r ih=>rw [List.foldr_cons,ih];rfl
theorem ok_M (T:TX w K mg J):FnOk P w K mg base CX0 5 J.f_M J.d_M ["use","names","body"] (pm_ J):=by
 refine T.F_M.fn.ok sc_M fun _ _ _ _ H _ Q E hr h=>?_;obtain ⟨X,u,nl,bd,s,ns,g,rfl,z,hnl,hg,k⟩:=h;refine ⟨_,(ac_ (ez_ PassesOwn.never rfl (cf_ rfl T.b_reversed (aa_ (pv 1) ab_)) (pg_q 3 sc_M.nd) (ad_ (aC_ 2 sc_M.nd (an_ (pv 0) T.cl_a T.m_h (au_ T) hr.m T.b_h .nil ak_ (aa_ ao_ (aa_ (ap_ (aa_ (pv 3) ab_)) (aa_ (ap_ (aa_ (pv 2) ab_)) ab_)))))))
  (ad_ (aj_ (pv 2)))),hW_ (F:=fun x g=>Vaunid.gotFns s [x] g) (Rv:=fun _ v y=>v = .str (S y)) (ys:=ns) (u:=u) rfl rfl hg (fun Q k=>k nl _ H (Same.refl _) (be_ _ _ _ _ hnl) (jo_ ns)) ⟨by decide,by show 3<4;decide⟩ (fun σ1 Hs H1 n1 g1 v y h0 h1 h2 m1 m2 hn hv=>?_) _ (by rw [mF_];exact k)⟩
 subst hv;have z:UO J X u s σ1 H1:=⟨z.same (m1.trans m2),h0⟩;exact aJ_ (f:=Vaunid.txt "fn") (ns:=[y]) (gs:=[g1]) z ⟨rfl,rfl,rfl,by simp [Vaunid.gotFns]⟩ (me_f _) (g4_ z.r (me_v h2)) (bi_ z.r (aD_ (dR_ h1 hn) bj_))
theorem kR_ {X:List Addr}{u:Addr}{s:Nat×Nat}{σ:L2.St}{H:Hp}{g:Vaunid.Got}{te tw:TE}{ns:List (List Nat)} (z:UO J X u s σ H) (hw:Mw X σ H tw ((ns.map S).map V.str)) (h:Mn J X σ H te g):Mn J X σ H (cS_ (pm_ J) [] E0 (a1_ (tVar 0) (a1_ tw (a1_ te tNil)))) (Vaunid.gotFns s ns g):=fun H1 Q m k=>by
 dsimp only [cS_,a1_,tNil];exact a6_ z.v (hw H1 _ m fun a H2 m2 ea=>h H2 _ (m.trans m2) fun n H3 m3 y=>⟨X,u,a,n,s,ns,g,rfl,z.toUo.same (m.trans (m2.trans m3)),bN_ m3 _ _ ea,y,fun n' H4 m4 q=>k n' H4 (m2.trans (m3.trans m4)) q⟩)
def m5_ (J:TA):Sp:=fun vs H Q _=>∃ (X:List Addr) (u nl bd:Addr) (s:Nat×Nat) (f x:List Nat) (ns:List (List Nat)) (g:Vaunid.Got),vs=[.ref u,.ref nl,.ref bd]/\Uo J X u s H/\ex X H nl=some (.lst (((f::x::ns).map S).map V.str))/\bB_ J.C_d (ex X H) bd g/\∀ n H',Same H H'->bB_ J.C_d (ex X H') n (Vaunid.gotRec s f x (Vaunid.gotFns s ns g))->Q (.ref n) H'
theorem ok_aF (T:TX w K mg J):FnOk P w K mg base CX0 6 J.f_aF J.d_aF ["use","names","body"] (m5_ J):=by
 refine T.F_aF.fn.ok sc_aF fun _ _ _ _ H _ Q E hr h=>?_;obtain ⟨X,u,nl,bd,s,f,x,ns,g,rfl,z,hnl,hg,k⟩:=h;have z:UO J X u s (start [ofString "use",ofString "names",ofString "body"] [.ref u,.ref nl,.ref bd]) H:=⟨z,rfl⟩;exact ⟨_,(ad_ (aj_ (an_ (pv 0) T.cl_a T.m_h (au_ T) hr.m T.b_h .nil ak_ (aa_ ao_ (aa_ (bc_ bI_ (pv 1) ce_ (a9_ ah_)) (aa_ (ap_ (aa_ (aH_ T.F_M (ok_M T) hr.m ak_ (aa_ (pv 0) (aa_ (bc_ bI_ (pv 1) (a9_ ah_) ce_) (aa_ (pv 2) ab_)))) ab_)) ab_)))))),ba_ (aJ_ (f:=Vaunid.txt "rec") (ns:=[f,x]) (gs:=[Vaunid.gotFns s ns g]) z ⟨rfl,rfl,rfl,by simp [Vaunid.gotRec]⟩ (me_f _) (iS_ z.r (g3_ rfl hnl) no_p at_p (ib_ _ 2 (by simp))) (bi_ z.r (aD_ (kR_ z (iS_ z.r (g3_ rfl hnl) at_p no_p (eS_ _ 2 (by simp))) (dR_ rfl hg)) bj_))) _ k⟩
theorem kQ_ {X:List Addr}{u:Addr}{s:Nat×Nat}{σ:L2.St}{H:Hp}{g:Vaunid.Got}{te tw:TE}{f x:List Nat}{ns:List (List Nat)} (z:UO J X u s σ H) (hw:Mw X σ H tw (((f::x::ns).map S).map V.str)) (h:Mn J X σ H te g):Mn J X σ H (cS_ (m5_ J) [] E0 (a1_ (tVar 0) (a1_ tw (a1_ te tNil)))) (Vaunid.gotRec s f x (Vaunid.gotFns s ns g)):=fun H1 Q m k=>by
 dsimp only [cS_,a1_,tNil];exact a6_ z.v (hw H1 _ m fun a H2 m2 ea=>h H2 _ (m.trans m2) fun n H3 m3 y=>⟨X,u,a,n,s,f,x,ns,g,rfl,z.toUo.same (m.trans (m2.trans m3)),bN_ m3 _ _ ea,y,fun n' H4 m4 q=>k n' H4 (m2.trans (m3.trans m4)) q⟩)
theorem ok_Y (T:TX w K mg J):FnOk P w K mg base CX0 9 J.f_Y J.d_Y ["use"] (spMk J (bW_ .if_)):=by
 refine bR_ T.F_Y.fn sc_Y fun _ _ _ _ H _ hr X u sl g z h=>?_;exact ⟨_,(ad_ (aj_ (an_ (pv 0) T.cl_a T.m_h (au_ T) hr.m T.b_h .nil ak_ (aa_ ao_ (aa_ (ap_ ab_) (aa_ (aW_ (pv 0) T.cl_a T.m_n (b1_ T) hr.m T.b_n .nil ak_) ab_)))))),ba_ (aJ_ z.o h (me_f _) (bq_ z.r) (b3_ z))⟩
theorem ok_Z (T:TX w K mg J):FnOk P w K mg base CX0 9 J.f_Z J.d_Z ["use"] (spMk J (bW_ .case_)):=by
 refine bR_ T.F_Z.fn sc_Z fun _ _ _ _ H _ hr X u sl g z h=>?_;exact ⟨_,(ad_ (aj_ (an_ (pv 0) T.cl_a T.m_h (au_ T) hr.m T.b_h .nil ak_ (aa_ ao_ (aa_ (aW_ (pv 0) T.cl_a T.m_p (dg_ T) hr.m T.b_p .nil ak_) (aa_ (aW_ (pv 0) T.cl_a T.m_n (b1_ T) hr.m T.b_n .nil ak_) ab_)))))),ba_ (aJ_ z.o h (me_f _) (ed_ z) (b3_ z))⟩
theorem ok_aa (T:TX w K mg J):FnOk P w K mg base CX0 9 J.f_aa J.d_aa ["use"] (spMk J (bW_ .or_)):=by
 refine bR_ T.F_aa.fn sc_aa fun _ _ _ _ H _ hr X u sl g z h=>?_;obtain ⟨a,b,h1,h2,d⟩:=h;exact ⟨_,(ad_ (aj_ (an_ (pv 0) T.cl_a T.m_h (au_ T) hr.m T.b_h .nil ak_ (aa_ ao_ (aa_ (ap_ ab_) (aa_ (ap_ (aa_ (an_ (pv 0) T.cl_a T.m_l (aO_ T) hr.m T.b_l .nil ak_ (aa_ ah_ ab_)) (aa_ (an_ (pv 0) T.cl_a T.m_h (au_ T) hr.m T.b_h .nil ak_ (aa_ ao_ (aa_ (ap_ ab_) (aa_ (ap_ ab_) ab_)))) (aa_ (an_ (pv 0) T.cl_a T.m_l (aO_ T) hr.m T.b_l .nil ak_ (aa_ ah_ ab_)) ab_)))) ab_)))))),ba_ (aJ_ z.o d (me_f _) (bq_ z.r) (bi_ z.r (aD_ (a3_ z me_c h1) (aD_ (f5_ z.o true rfl) (aD_ (a3_ z me_c h2) bj_)))))⟩
theorem ok_ab (T:TX w K mg J):FnOk P w K mg base CX0 9 J.f_ab J.d_ab ["use"] (spMk J (bW_ .and_)):=by
 refine bR_ T.F_ab.fn sc_ab fun _ _ _ _ H _ hr X u sl g z h=>?_;obtain ⟨a,b,h1,h2,d⟩:=h;exact ⟨_,(ad_ (aj_ (an_ (pv 0) T.cl_a T.m_h (au_ T) hr.m T.b_h .nil ak_ (aa_ ao_ (aa_ (ap_ ab_) (aa_ (ap_ (aa_ (an_ (pv 0) T.cl_a T.m_l (aO_ T) hr.m T.b_l .nil ak_ (aa_ ah_ ab_)) (aa_ (an_ (pv 0) T.cl_a T.m_l (aO_ T) hr.m T.b_l .nil ak_ (aa_ ah_ ab_)) (aa_ (an_ (pv 0) T.cl_a T.m_h (au_ T) hr.m T.b_h .nil ak_ (aa_ ao_ (aa_ (ap_ ab_) (aa_ (ap_ ab_) ab_)))) ab_)))) ab_)))))),ba_ (aJ_ z.o d (me_f _) (bq_ z.r) (bi_ z.r (aD_ (a3_ z me_c h1) (aD_ (a3_ z me_c h2) (aD_ (f5_ z.o false rfl) bj_)))))⟩
theorem ok_ad (T:TX w K mg J):FnOk P w K mg base CX0 9 J.f_ad J.d_ad ["use"] (spMk J (bW_ .cons)):=by
 refine bR_ T.F_ad.fn sc_ad fun _ _ _ _ H _ hr X u sl g z h=>?_;obtain ⟨a,b,h1,h2,d⟩:=h;exact ⟨_,(ad_ (aj_ (an_ (pv 0) T.cl_a T.m_h (au_ T) hr.m T.b_h .nil ak_ (aa_ ao_ (aa_ (ap_ ab_) (aa_ (ap_ (aa_ (an_ (pv 0) T.cl_a T.m_l (aO_ T) hr.m T.b_l .nil ak_ (aa_ ah_ ab_)) (aa_ (an_ (pv 0) T.cl_a T.m_l (aO_ T) hr.m T.b_l .nil ak_ (aa_ ah_ ab_)) ab_))) ab_)))))),ba_ (aJ_ z.o d (me_f _) (bq_ z.r) (bi_ z.r (aD_ (a3_ z me_c h1) (aD_ (a3_ z me_c h2) bj_))))⟩
theorem ok_ag (T:TX w K mg J):FnOk P w K mg base CX0 9 J.f_ag J.d_ag ["use"] (spMk J (bW_ .app)):=by
 refine bR_ T.F_ag.fn sc_ag fun _ _ _ _ H _ hr X u sl g z h=>?_;obtain ⟨a,b,h1,h2,d⟩:=h;exact ⟨_,(ad_ (aj_ (an_ (pv 0) T.cl_a T.m_h (au_ T) hr.m T.b_h .nil ak_ (aa_ ao_ (aa_ (ap_ ab_) (aa_ (ap_ (aa_ (an_ (pv 0) T.cl_a T.m_l (aO_ T) hr.m T.b_l .nil ak_ (aa_ ah_ ab_)) (aa_ (an_ (pv 0) T.cl_a T.m_l (aO_ T) hr.m T.b_l .nil ak_ (aa_ ah_ ab_)) ab_))) ab_)))))),ba_ (aJ_ z.o d (me_f _) (bq_ z.r) (bi_ z.r (aD_ (a3_ z me_c h1) (aD_ (a3_ z me_c h2) bj_))))⟩
theorem ok_ac (T:TX w K mg J):FnOk P w K mg base CX0 9 J.f_ac J.d_ac ["use"] (spMk J (bW_ .not_)):=by
 refine bR_ T.F_ac.fn sc_ac fun _ _ _ _ H _ hr X u sl g z h=>?_;obtain ⟨a,h1,e⟩:=h;exact ⟨_,(ad_ (aj_ (aH_ T.F_N (ok_N T) hr.m ak_ (aa_ (pv 0) (aa_ (an_ (pv 0) T.cl_a T.m_l (aO_ T) hr.m T.b_l .nil ak_ (aa_ ah_ ab_)) ab_))))),ba_ (Mn.eq (iV_ z.o (a3_ z me_c h1)) e)⟩
theorem ok_y (T:TX w K mg J):FnOk P w K mg base CX0 9 J.f_y J.d_y ["use"] (spMk J MBet):=by
 refine bR_ T.F_y.fn sc_y fun _ _ _ _ H _ hr X u sl g z h=>?_;obtain ⟨t,a,b,h0,h1,h2,d⟩:=h;exact ⟨_,(ad_ (aj_ (an_ (pv 0) T.cl_a T.m_h (au_ T) hr.m T.b_h .nil ak_ (aa_ (al_ (aM_ aw_ (al_ (pv 0) rfl) ah_ (fun _ _=>rfl)) rfl) (aa_ (ap_ ab_) (aa_ (ap_ (aa_ (an_ (pv 0) T.cl_a T.m_l (aO_ T) hr.m T.b_l .nil ak_ (aa_ ah_ ab_)) (aa_ (an_ (pv 0) T.cl_a T.m_l (aO_ T) hr.m T.b_l .nil ak_ (aa_ ah_ ab_)) ab_))) ab_)))))),ba_ (aJ_ z.o d (dG_ T z h0) (bq_ z.r) (bi_ z.r (aD_ (a3_ z me_c h1) (aD_ (a3_ z me_c h2) bj_))))⟩
theorem ok_r (T:TX w K mg J):FnOk P w K mg base CX0 9 J.f_r J.d_r ["use"] (spMk J mT_):=by
 refine bR_ T.F_r.fn sc_r fun _ _ _ _ H _ hr X u sl g z h=>?_;obtain ⟨t,h0,d⟩:=h;exact ⟨_,(ad_ (aj_ (an_ (pv 0) T.cl_a T.m_h (au_ T) hr.m T.b_h .nil ak_ (aa_ (al_ (aM_ aw_ (al_ (pv 0) rfl) ah_ (fun _ _=>rfl)) rfl) (aa_ (ap_ ab_) (aa_ (aW_ (pv 0) T.cl_a T.m_n (b1_ T) hr.m T.b_n .nil ak_) ab_)))))),ba_ (aJ_ z.o d (dG_ T z h0) (bq_ z.r) (b3_ z))⟩
theorem ok_ak (T:TX w K mg J):FnOk P w K mg base CX0 9 J.f_ak J.d_ak ["use"] (spMk J (bW_ .truth)):=by
 refine bR_ T.F_ak.fn sc_ak fun _ _ _ _ H _ hr X u sl g z h=>?_;obtain ⟨t,h0,d⟩:=h;exact ⟨_,(ad_ (aj_ (an_ (pv 0) T.cl_a T.m_h (au_ T) hr.m T.b_h .nil ak_ (aa_ (al_ (aM_ aw_ (al_ (pv 0) rfl) ah_ (fun _ _=>rfl)) rfl) (aa_ (ap_ ab_) (aa_ (ap_ ab_) ab_)))))),ba_ (aJ_ z.o d (dG_ T z h0) (bq_ z.r) (bi_ z.r bj_))⟩
theorem ok_ai (T:TX w K mg J):FnOk P w K mg base CX0 9 J.f_ai J.d_ai ["use"] (spMk J (bW_ .name)):=by
 refine bR_ T.F_ai.fn sc_ai fun _ _ _ _ H _ hr X u sl g z h=>?_;obtain ⟨t,h0,h1,d⟩:=h;exact ⟨_,(ad_ (aj_ (an_ (pv 0) T.cl_a T.m_h (au_ T) hr.m T.b_h .nil ak_ (aa_ ao_ (aa_ (ap_ (aa_ (al_ (aM_ aw_ (al_ (pv 0) rfl) ah_ (fun _ _=>rfl)) rfl) ab_)) (aa_ (ap_ ab_) ab_)))))),ba_ (aJ_ z.o d (me_f _) (g4_ z.r (ot_ T z h0 h1)) (bi_ z.r bj_))⟩
theorem ok_aj (T:TX w K mg J):FnOk P w K mg base CX0 9 J.f_aj J.d_aj ["use"] (spMk J (bW_ .number)):=by
 refine bR_ T.F_aj.fn sc_aj fun _ _ _ _ H _ hr X u sl g z h=>?_;obtain ⟨t,v,dd,h0,h1,d⟩:=h;obtain ⟨gt,am,ha,q⟩:=kU_ T z h0 h1;exact ⟨_,(ad_ (aj_ (an_ (pv 0) T.cl_a T.m_h (au_ T) hr.m T.b_h .nil ak_ (aa_ ao_ (aa_ (ap_ (aa_ (aH_ T.F_P (ok_P T) hr.m ak_ (aa_ (al_ (aM_ aw_ (al_ (pv 0) rfl) ah_ (fun _ _=>rfl)) rfl) ab_)) ab_)) (aa_ (ap_ ab_) ab_)))))),ba_ (aJ_ z.o d (me_f _) (g4_ z.r (os_ q ha ⟨gt.1,gt.2.1,gt.2.2.1⟩)) (bi_ z.r bj_))⟩
theorem ok_ae (T:TX w K mg J):FnOk P w K mg base CX0 9 J.f_ae J.d_ae ["use"] (spMk J (bW_ .pow)):=by
 refine bR_ T.F_ae.fn sc_ae fun _ _ _ _ H _ hr X u sl g z h=>?_;obtain ⟨t,v,m,a,h0,h1,h2,d⟩:=h;obtain ⟨gt,q⟩:=kT_ T z h0 h1;exact ⟨_,(ad_ (aj_ (an_ (pv 0) T.cl_a T.m_h (au_ T) hr.m T.b_h .nil ak_ (aa_ ao_ (aa_ (ap_ (aa_ (bp_ bO_ rfl T.b_str du_ (aa_ (al_ (al_ (aM_ aw_ (al_ (pv 0) rfl) ah_ (fun _ _=>rfl)) rfl) rfl) ab_)) ab_)) (aa_ (ap_ (aa_ (an_ (pv 0) T.cl_a T.m_l (aO_ T) hr.m T.b_l .nil ak_ (aa_ ah_ ab_)) ab_)) ab_)))))),ba_ (aJ_ z.o d (me_f _) (g4_ z.r (nn_ q (dc_ gt))) (bi_ z.r (aD_ (a3_ z me_c h2) bj_)))⟩
theorem ok_af (T:TX w K mg J):FnOk P w K mg base CX0 9 J.f_af J.d_af ["use"] (spMk J (bW_ .mpow)):=by
 refine bR_ T.F_af.fn sc_af fun _ _ _ _ H _ hr X u sl g z h=>?_;obtain ⟨t,v,m,a,h0,h1,h2,d⟩:=h;obtain ⟨gt,q⟩:=kT_ T z h0 h1;exact ⟨_,(ad_ (aj_ (an_ (pv 0) T.cl_a T.m_h (au_ T) hr.m T.b_h .nil ak_ (aa_ ao_ (aa_ (ap_ (aa_ (bp_ bO_ rfl T.b_str du_ (aa_ (hN_ ek_ (al_ (al_ (aM_ aw_ (al_ (pv 0) rfl) ah_ (fun _ _=>rfl)) rfl) rfl)) ab_)) ab_)) (aa_ (ap_ (aa_ (an_ (pv 0) T.cl_a T.m_l (aO_ T) hr.m T.b_l .nil ak_ (aa_ ah_ ab_)) ab_)) ab_)))))),ba_ (aJ_ z.o d (me_f _) (g4_ z.r (nn_ (iW_ q) (dc_ (by rw [natAbs_neg];exact gt)))) (bi_ z.r (aD_ (a3_ z me_c h2) bj_)))⟩
theorem pB_ {X:List Addr}{u:Addr}{sl:List It}{s:Nat×Nat}{σ:L2.St}{H:Hp}{a:Addr}{te:TE} (r:Hre X H) (h:Me σ H te (.ref a)) {lt:Lit} (q:aP_ J.C_f H a lt.top (lt.low:Int) (lt.measure.getD [])) (gl:gp_ { lt with top := -lt.top }):Mw X σ H (tLst (a1_ (cS_ (cp_ J.C_f) [] E0 (a1_ (cS_ (ev_ J.C_f) [] E0 (a1_ te tNil)) tNil)) tNil)) [.str (S (shownLit { lt with top := -lt.top }))]:=fun H1 Q m k =>
 h H1 _ m ⟨a,_,_,_,rfl,q.same m,fun b H2 m2 hb=>⟨b,{ lt with top := -lt.top },rfl,hb,gl,f6_ r (m.trans m2) rfl fun p H3 m3 e=>k p H3 (m2.trans m3) e⟩⟩
theorem ok_ah (T:TX w K mg J):FnOk P w K mg base CX0 9 J.f_ah J.d_ah ["use"] (spMk J (bW_ .mnum)):=by
 refine bR_ T.F_ah.fn sc_ah fun _ _ _ _ H _ hr X u sl g z h=>?_;obtain ⟨t,v,dd,h0,h1,d⟩:=h;obtain ⟨gt,am,ha,q⟩:=kU_ T z h0 h1;exact ⟨_,(ad_ (aj_ (an_ (pv 0) T.cl_a T.m_h (au_ T) hr.m T.b_h .nil ak_ (aa_ ao_ (aa_ (ap_ (aa_ (aH_ T.F_P (ok_P T) hr.m ak_ (aa_ (aH_ T.F_aC (ok_aC T) hr.m ak_ (aa_ (al_ (aM_ aw_ (al_ (pv 0) rfl) ah_ (fun _ _=>rfl)) rfl) ab_)) ab_)) ab_)) (aa_ (ap_ ab_) ab_)))))),ba_ (aJ_ z.o d (me_f _) (pB_ (u:=u) (sl:=sl) (s:=gst g) z.r q ha ⟨gt.1,by show (-v.top).natAbs<_;rw [natAbs_neg];exact gt.2.1,gt.2.2.1⟩) (bi_ z.r bj_))⟩
theorem ok_W (T:TX w K mg J):FnOk P w K mg base CX0 9 J.f_W J.d_W ["use"] (spMk J (bW_ .fn)):=by
 refine bR_ T.F_W.fn sc_W fun _ _ _ _ H _ hr X u sl g z h=>?_;obtain ⟨a,h1,e⟩:=h;exact ⟨_,(ad_ (aj_ (aH_ T.F_M (ok_M T) hr.m ak_ (aa_ (pv 0) (aa_ (aW_ (pv 0) T.cl_a T.m_p (dg_ T) hr.m T.b_p .nil ak_) (aa_ (an_ (pv 0) T.cl_a T.m_l (aO_ T) hr.m T.b_l .nil ak_ (aa_ (hN_ ek_ ah_) ab_)) ab_)))))),ba_ (Mn.eq (kR_ z.o (ed_ z) (a3_ z (iW_ me_c) h1)) e)⟩
theorem ok_X (T:TX w K mg J):FnOk P w K mg base CX0 9 J.f_X J.d_X ["use"] (spMk J (bW_ .rec_)):=by
 refine bR_ T.F_X.fn sc_X fun _ _ _ _ H _ hr X u sl g z h=>?_;obtain ⟨f,x,ns,a,h0,h1,e⟩:=h;exact ⟨_,(ad_ (aj_ (aH_ T.F_aF (ok_aF T) hr.m ak_ (aa_ (pv 0) (aa_ (aW_ (pv 0) T.cl_a T.m_p (dg_ T) hr.m T.b_p .nil ak_) (aa_ (an_ (pv 0) T.cl_a T.m_l (aO_ T) hr.m T.b_l .nil ak_ (aa_ (hN_ ek_ ah_) ab_)) ab_)))))),ba_ (Mn.eq (kQ_ z.o (h0 ▸ ed_ z) (a3_ z (iW_ me_c) h1)) e)⟩
theorem ok_J (T:TX w K mg J):FnOk P w K mg base CX0 9 J.f_J J.d_J ["use"] (spMk J (bW_ .cmp)):=by
 refine bR_ T.F_J.fn sc_J fun _ _ _ _ H _ hr X u sl g z h=>?_;obtain ⟨t,a,b,h0,h1,h2,e⟩:=h;have z1:=z.at (σ':=[some (.ref u),some (.str (S (kindOf t.tok))),none,none]) rfl (Same.refl _);refine ⟨_,(ac_ (aC_ 1 sc_J.nd (al_ (aM_ aw_ (al_ (pv 0) rfl) ah_ (fun _ _=>rfl)) rfl))
   (ac_ (aC_ 2 sc_J.nd (ap_ (aa_ (an_ (pv 0) T.cl_a T.m_l (aO_ T) hr.m T.b_l .nil ak_ (aa_ ah_ ab_)) (aa_ (an_ (pv 0) T.cl_a T.m_l (aO_ T) hr.m T.b_l .nil ak_ (aa_ ah_ ab_)) ab_))))
   (ac_ (aC_ 3 sc_J.nd (ap_ (aa_ (an_ (pv 0) T.cl_a T.m_l (aO_ T) hr.m T.b_l .nil ak_ (aa_ ah_ ab_)) (aa_ (an_ (pv 0) T.cl_a T.m_l (aO_ T) hr.m T.b_l .nil ak_ (aa_ ah_ ab_)) ab_))))
   (ac_ (aV_ (am_ bD_ (pv 1) ao_ (ar_ _)) (ad_ (aj_ (an_ (pv 0) T.cl_a T.m_h (au_ T) hr.m T.b_h .nil ak_ (aa_ ao_ (aa_ (ap_ ab_) (aa_ (pv 3) ab_)))))) aq_)
   (ac_ (aV_ (am_ bD_ (pv 1) ao_ (ar_ _)) (ad_ (aj_ (aH_ T.F_N (ok_N T) hr.m ak_ (aa_ (pv 0) (aa_ (an_ (pv 0) T.cl_a T.m_h (au_ T) hr.m T.b_h .nil ak_ (aa_ ao_ (aa_ (ap_ ab_) (aa_ (pv 3) ab_)))) ab_))))) aq_)
   (ac_ (aV_ (am_ bD_ (pv 1) ao_ (ar_ _)) (ad_ (aj_ (aH_ T.F_N (ok_N T) hr.m ak_ (aa_ (pv 0) (aa_ (an_ (pv 0) T.cl_a T.m_h (au_ T) hr.m T.b_h .nil ak_ (aa_ ao_ (aa_ (ap_ ab_) (aa_ (pv 2) ab_)))) ab_))))) aq_)
   (ac_ (aV_ (am_ bD_ (pv 1) ao_ (ar_ _)) (ad_ (aj_ (aH_ T.F_N (ok_N T) hr.m ak_ (aa_ (pv 0) (aa_ (an_ (pv 0) T.cl_a T.m_h (au_ T) hr.m T.b_h .nil ak_ (aa_ ao_ (aa_ (ap_ ab_) (aa_ (pv 2) ab_)))) ab_))))) aq_)
   (ad_ (aj_ (an_ (pv 0) T.cl_a T.m_h (au_ T) hr.m T.b_h .nil ak_ (aa_ (pv 1) (aa_ (ap_ ab_) (aa_ (pv 2) ab_))))))))))))),op_ (dG_ T z h0) (f3_ (bi_ z1.r (aD_ (a3_ z1 me_c h1) (aD_ (a3_ z1 me_c h2) bj_))) fun st sa H1 m1 e1 q1=>?_)⟩
 have z:=z.at (σ':=[some (.ref u),some (.str (S (kindOf t.tok))),some (.ref st),none]) rfl m1;refine f3_ (bi_ z.r (aD_ (a3_ z me_c h2) (aD_ (a3_ z me_c h1) bj_))) fun tu ta H2 m2 e2 q2=>?_;have z:=(z.at (σ':=[some (.ref u),some (.str (S (kindOf t.tok))),some (.ref st),some (.ref tu)]) rfl m2).o;have x1:=fn_ (J:=J) (σ:=[some (.ref u),some (.str (S (kindOf t.tok))),some (.ref st),some (.ref tu)]) (i:=2) rfl (bN_ m2 _ _ e1) (Ms.up q1 m2);have x2:=fn_ (J:=J) (σ:=[some (.ref u),some (.str (S (kindOf t.tok))),some (.ref st),some (.ref tu)]) (i:=3) rfl e2 q2;have hs:Me [some (.ref u),some (.str (S (kindOf t.tok))),some (.ref st),some (.ref tu)] H2 (tVar 1) (.str (S (kindOf t.tok))):=me_v rfl;unfold Vaunid.gotCompare at e;split at e
 ·rename_i c
  have e:=(Option.some.inj e).symm;have hk:kindOf t.tok=Vaunid.txt "<":=by rw [c];rfl
  exact dk_ hs (by rw [hk];left) (dk_ hs (by rw [hk];left) (dk_ hs (by rw [hk];left) (dk_ hs (by rw [hk];left) (ba_ (Mn.eq (aJ_ z (b2_ .less _ _ _) (Me.eq hs (by rw [hk];rfl)) (bq_ z.r) x1) e)))))
 split at e
 ·rename_i c
  have e:=(Option.some.inj e).symm;have hk:kindOf t.tok=Vaunid.txt "=":=by rw [c];rfl
  exact dk_ hs (by rw [hk];left) (dk_ hs (by rw [hk];left) (dk_ hs (by rw [hk];left) (dk_ hs (by rw [hk];left) (ba_ (Mn.eq (aJ_ z (b2_ .equal _ _ _) (Me.eq hs (by rw [hk];rfl)) (bq_ z.r) x1) e)))))
 split at e
 ·rename_i c
  have e:=(Option.some.inj e).symm;have hk:kindOf t.tok=Vaunid.txt ">":=by rw [c];rfl
  exact g5_ hs (by rw [hk];left) (f2_ (Mn.eq (aJ_ z (b2_ .less _ _ _) (me_f _) (bq_ z.r) x2) e))
 split at e
 ·rename_i c
  have e:=(Option.some.inj e).symm;have hk:kindOf t.tok=Vaunid.txt "<=":=by rw [c];rfl
  exact dk_ hs (by rw [hk];left) (g5_ hs (by rw [hk];left) (f2_ (Mn.eq (iV_ z (aJ_ z (b2_ .less _ _ _) (me_f _) (bq_ z.r) x2)) e)))
 split at e
 ·rename_i c
  have e:=(Option.some.inj e).symm;have hk:kindOf t.tok=Vaunid.txt ">=":=by rw [c];rfl
  exact dk_ hs (by rw [hk];left) (dk_ hs (by rw [hk];left) (g5_ hs (by rw [hk];left) (f2_ (Mn.eq (iV_ z (aJ_ z (b2_ .less _ _ _) (me_f _) (bq_ z.r) x1)) e))))
 split at e
 ·rename_i c
  have e:=(Option.some.inj e).symm;have hk:kindOf t.tok=Vaunid.txt "<>":=by rw [c];rfl
  exact dk_ hs (by rw [hk];left) (dk_ hs (by rw [hk];left) (dk_ hs (by rw [hk];left) (g5_ hs (by rw [hk];left) (f2_ (Mn.eq (iV_ z (aJ_ z (b2_ .equal _ _ _) (me_f _) (bq_ z.r) x1)) e)))))
 cases e
theorem ok_A (T:TX w K mg J):FnOk P w K mg base CX0 9 J.f_A J.d_A ["use"] (spMk J (bW_ .let_)):=by
 refine bR_ T.F_A.fn sc_A fun _ _ _ _ H _ hr X u sl g z h=>?_;obtain ⟨t,f,ks,a,b,v,h0,hn,hp,d,hv⟩:=h;refine ⟨_,(ac_ (aC_ 1 sc_A.nd (aW_ (pv 0) T.cl_a T.m_p (dg_ T) hr.m T.b_p .nil ak_))
   (ac_ (aC_ 2 sc_A.nd (aW_ (pv 0) T.cl_a T.m_n (b1_ T) hr.m T.b_n .nil ak_))
   (ac_ (aV_ (am_ bD_ (al_ (aM_ aw_ (al_ (pv 0) rfl) ah_ (fun _ _=>rfl)) rfl) ao_ (ar_ _)) (ad_ (aC_ 3 sc_A.nd (aH_ T.F_aF (ok_aF T) hr.m ak_ (aa_ (pv 0) (aa_ (pv 1) (aa_ (aM_ aw_ (pv 2) ah_ (fun _ _=>rfl)) ab_)))))) (ad_ (aC_ 3 sc_A.nd (aH_ T.F_M (ok_M T) hr.m ak_ (aa_ (pv 0) (aa_ (bc_ bI_ (pv 1) (a9_ ah_) ce_) (aa_ (aM_ aw_ (pv 2) ah_ (fun _ _=>rfl)) ab_)))))))
   (ad_ (aj_ (an_ (pv 0) T.cl_a T.m_h (au_ T) hr.m T.b_h .nil ak_ (aa_ ao_ (aa_ (bc_ bI_ (pv 1) ce_ (a9_ ah_)) (aa_ (ap_ (aa_ (pv 3) (aa_ (aM_ aw_ (pv 2) ah_ (fun _ _=>rfl)) ab_))) ab_))))))))),oo_ (hn ▸ ed_ z) fun nl H1 m1 e1=>?_⟩
 have z:=z.at (σ':=[some (.ref u),some (.ref nl),none,none]) rfl m1;refine f3_ (hp ▸ b3_ z) fun pl as H2 m2 e2 q2=>?_;have z:=z.at (σ':=[some (.ref u),some (.ref nl),some (.ref pl),none]) rfl m2;have e1:=bN_ m2 _ _ e1;have fin : ∀ nv H3,Same H2 H3->bB_ J.C_d (ex X H3) nv v->Mt J X [some (.ref u),some (.ref nl),some (.ref pl),some (.ref nv)] H3 (tRet (dx_ J.C_a (ofString "make") (fJ_ J.C_d J.C_a) [] E0 (tVar 0) (a1_ (tC (.str (ofString "let"))) (a1_ (tSl (rSlL K) (tVar 1) fG_ (lL_ (tC (.int 1)))) (a1_ (tLst (a1_ (tVar 3) (a1_ (tOp (rIxL K) (tVar 2) (tC (.int 1))) tNil))) tNil))))) g:=fun nv H3 m3 y=>by
  have z:=z.at (σ':=[some (.ref u),some (.ref nl),some (.ref pl),some (.ref nv)]) rfl m3;exact ba_ (aJ_ z.o d (me_f _) (iS_ z.r (g3_ rfl (bN_ m3 _ _ e1)) no_p at_p (ib_ _ 1 (by simp))) (bi_ z.r (aD_ (dR_ rfl y) (aD_ (mn_ (fn_ rfl (bN_ m3 _ _ e2) (Ms.up q2 m3)) me_c at1) bj_))))
 split at hv
 ·rename_i hr1
  obtain ⟨x,ns,rfl,rfl⟩:=hv;exact g5_ (dG_ T z h0) (by rw [hr1,bM_]) (f4_ (kQ_ z.o (g3_ rfl e1) (mn_ (fn_ rfl e2 q2) me_c at0)) fin)
 rename_i hr1;subst hv;exact pD_ (dG_ T z h0) (by rw [bM_,d3_];exact hr1) (f4_ (kR_ z.o (iS_ z.r (g3_ rfl e1) at_p no_p (eS_ _ 1 (by simp))) (mn_ (fn_ rfl e2 q2) me_c at0)) fin)
theorem ok_K (T:TX w K mg J):FnOk P w K mg base CX0 9 J.f_K J.d_K ["use"] (spMk J (bW_ .list)):=by
 refine bR_ T.F_K.fn sc_K fun _ _ _ _ H _ hr X u sl g z h=>?_;refine ⟨_,(ac_ (aC_ 1 sc_K.nd (an_ (pv 0) T.cl_a T.m_h (au_ T) hr.m T.b_h .nil ak_ (aa_ ao_ (aa_ (ap_ ab_) (aa_ (ap_ ab_) ab_)))))
   (ac_ (ez_ PassesOwn.never rfl (cf_ rfl T.b_reversed (aa_ (aW_ (pv 0) T.cl_a T.m_n (b1_ T) hr.m T.b_n .nil ak_) ab_)) (pg_q 2 sc_K.nd) (ad_ (aC_ 1 sc_K.nd (an_ (pv 0) T.cl_a T.m_h (au_ T) hr.m T.b_h .nil ak_ (aa_ ao_ (aa_ (ap_ ab_) (aa_ (ap_ (aa_ (pv 2) (aa_ (pv 1) ab_))) ab_)))))))
   (ad_ (aj_ (pv 1))))),f4_ (aJ_ z.o (eG_ _ .nil) (me_f _) (bq_ z.r) (bi_ z.r bj_)) fun n0 H1 m1 y0=>?_⟩
 have z:=z.at (σ':=[some (.ref u),some (.ref n0),none]) rfl m1;refine Mt.eq (hW_ (F:=Vaunid.gotTwo .cons (gst g)) (Rv:=fun H v y=>∃ a,v = .ref a/\bB_ J.C_d (ex X H) a y) (ys:=ptsI sl) (u:=u) rfl rfl y0 (fun Q k=>b3_ z H1 Q (Same.refl _) fun a as H2 m e q=>k a _ H2 m (be_ _ _ _ _ e) (fj_ q)) ⟨by decide,by show 2<3;decide⟩ fun σ1 Hs H2 n1 g1 v y h0 h1 h2 m1 m2 hn hv=>?_) (congrArg _ h) (congrArg _ h);obtain ⟨a,rfl,ya⟩:=hv;have z:UO J X u (gst g) σ1 H2:=⟨z.o.toUo.same (m1.trans m2),h0⟩;exact aJ_ z (b2_ .cons _ _ _) (me_f _) (bq_ z.r) (bi_ z.r (aD_ (dR_ h2 (ya.same (bN_ m2))) (aD_ (dR_ h1 hn) bj_)))
theorem ok_B (T:TX w K mg J):FnOk P w K mg base CX0 9 J.f_B J.d_B ["use"] (spMk J (bW_ .bracket)):=by
 refine bR_ T.F_B.fn sc_B fun _ _ _ _ H _ hr X u sl g z h=>?_;obtain ⟨xs,yg,hp,e1,e2⟩:=h;refine ⟨_,(ac_ (aC_ 1 sc_B.nd (aW_ (pv 0) T.cl_a T.m_n (b1_ T) hr.m T.b_n .nil ak_))
   (ac_ (aC_ 2 sc_B.nd (aM_ aw_ (pv 1) (hN_ ek_ ah_) (fun _ _=>rfl)))
   (ac_ (ez_ PassesOwn.never rfl (cf_ rfl T.b_reversed (aa_ (bc_ bI_ (pv 1) ce_ (a9_ (hN_ ek_ ah_))) ab_)) (pg_q 3 sc_B.nd) (ad_ (aC_ 2 sc_B.nd (an_ (pv 0) T.cl_a T.m_h (au_ T) hr.m T.b_h .nil ak_ (aa_ ao_ (aa_ (ap_ ab_) (aa_ (ap_ (aa_ (pv 3) (aa_ (pv 2) ab_))) ab_)))))))
   (ad_ (aj_ (pv 2)))))),f3_ (hp ▸ b3_ z) fun pl as H1 m1 el ql=>?_⟩
 refine f4_ (mn_ (fn_ rfl el ql) (iW_ me_c) (gk_ _ _)) fun n0 H2 m2 y0=>?_;have z:=z.at (σ':=[some (.ref u),some (.ref pl),some (.ref n0),none]) rfl (m1.trans m2);obtain ⟨ny,as',rfl,_,qs⟩:=fk_ (Ms.up ql m2);have el:=m2 _ _ (be_ _ _ _ _ el);rw [map_append] at el;refine Mt.eq (hW_ (F:=Vaunid.gotTwo .pair (gst g)) (Rv:=fun H v y=>∃ a,v = .ref a/\bB_ J.C_d (ex X H) a y) (ys:=xs) (u:=u) rfl rfl y0 (fun Q k=>?_) ⟨by decide,by show 3<4;decide⟩ fun σ1 Hs H3 n1 g1 v y h0 h1 h2 m1 m2 hn hv=>?_) e1 e2
 ·exact a6_ (H:=H2) rfl ⟨1,rfl,-1,rfl,pl,_,rfl,SqL.of el,fun p hp=>by
   rw [show cutV (as'.map V.ref++[ny].map V.ref) none (some (-1))=as'.map V.ref from lq_ _ _];exact k p _ _ (Same.upd hp) af_ (fj_ (Ms.up qs (Same.upd hp)))⟩
 obtain ⟨a,rfl,ya⟩:=hv;have z:UO J X u (gst g) σ1 H3:=⟨z.o.toUo.same (m1.trans m2),h0⟩;exact aJ_ z (b2_ .pair _ _ _) (me_f _) (bq_ z.r) (bi_ z.r (aD_ (dR_ h2 (ya.same (bN_ m2))) (aD_ (dR_ h1 hn) bj_)))
def m6_ (K:Frag) (Ca Ct C:Addr):Sp:=fun vs H Q E=>∃ (a:Addr) (r:Ru) (t:Vaunid.Token),vs=[.str (ofString r.nm),.ref a]/\TokB Ca Ct H a t/\(match aF_ (kindOf t.tok) (ways r) with
 | none=>ExF C E H 6 (t.start:Int)
 | some p=>∀ (b:Addr) (H':Hp),Same H H'->(∀ H,SqT K H b (p.map fun d=>V.str (ofString d.nm)))->Q (.ref b) H')
theorem ok_aJ (T:TX w K mg J):FnOk P w K mg base (CX1 P w) 3 J.f_aJ J.d_aJ ["rule","token"] (m6_ K J.C_f J.C_g J.C_c):=by
 refine T.F_aJ.fn.okX sc_aJ fun _ _ _ _ H _ Q E hr h=>?_;obtain ⟨a,r,t,rfl,⟨dt,ct,ht,_⟩,k⟩:=h;obtain ⟨ad,hd,hw⟩:=T.t_b;obtain ⟨bs,hbs,hways⟩:=hw r;refine ⟨_,(ac_ (ez_ fl_ rfl (pr_ (fS_ (pe_r T.g_b) (pv 0))) (pg_q 2 sc_aJ.nd) (ad_ (aV_ (PW.pt (pw_or (am_ (py_ hr.units) (aM_ b7_ (pv 2) ah_ (fun _ _=>rfl)) (kB_ ab_) (ar_ _)) (pw_or1 (am_ eE_ (al_ (pv 1) rfl) (aM_ b7_ (pv 2) ah_ (fun _ _=>rfl)) rfl)))) (ad_ (aj_ (aM_ b7_ (pv 2) ah_ (fun _ _=>rfl)))) aq_)))
  (ad_ (bo_ T.X_c (ok_c T) hr.m rfl T.G_c T.b_q a8_ rfl (aa_ ah_ (aa_ (al_ (pv 1) rfl) ab_))))),?_⟩
 refine sgo ?_;refine bG_ ?_;have hkr:H a=some (.ins J.C_g dt (c9_ (Vaunid.sortOf t.tok) (S (kindOf t.tok)) (t.start:Int) (t.halt_:Int) ct)):=ht;simp! [is_];refine ⟨_,hd,_,ep_ _ _ _ iB_ (b0_ r),_,rfl,⟨_,hbs _⟩,?_⟩;obtain ⟨Pw,hPw⟩ : ∃ Pw:Nat->L2.St->Hp->Prop,Pw=fun i σ H'=>(∃ z,σ=[some (.str (ofString r.nm)),some (.ref a),z])/\Same H H'/\aF_ (kindOf t.tok) (ways r)=aF_ (kindOf t.tok) ((ways r).drop i):=⟨_,rfl⟩;refine oL_ (xs:=bs.map V.ref) Pw (by rw [hPw];exact ⟨⟨_,rfl⟩,Same.refl _,rfl⟩) (fun i σ H' _ _=>hbs H') (fun i v σ H' hx q=>?_) fun σ H' q=>?_
 ·rw [hPw] at q
  obtain ⟨⟨z,rfl⟩,s1,hp⟩:=q;rw [getElem?_map] at hx;cases qi:bs[i]? with
  | none=>rw [qi] at hx;cases hx
  | some b =>
  rw [qi] at hx;cases hx;obtain ⟨wy,hwy,kk,pp,hb2,hkk,hpp⟩:=cD_ hways qi;have hmem:=mem_of_getElem? hwy;obtain ⟨w1,w2,w3⟩:=jQ_ r (b0_ r) wy hmem;have hdrop:(ways r).drop i=wy::(ways r).drop (i+1):=by
   obtain ⟨hlt,e⟩:=List.getElem?_eq_some_iff.mp hwy;rw [drop_eq_getElem_cons hlt,e]
  have found:(wy.1=[]\/kindOf t.tok∈wy.1.map Vaunid.txt)->∀ H'',Same H H''->Q (.ref pp) H'':=fun h H'' s''=>by
   rw [hp,hdrop] at k;rw [show aF_ (kindOf t.tok) (wy::(ways r).drop (i+1))=some wy.2 from if_pos h] at k;refine k pp H'' s'' fun H3=>?_;have:=hC_ (H:=H3) hpp w3;rw [map_map] at this;exact this
  have at0 : ∀ {α:Type}{x:α}{r:List α},atI (x::r) 0=some x:=fun {α x r}=>a0_ (j:=0) rfl;have at1 : ∀ {α:Type}{y x:α}{r:List α},atI (y::x::r) 1=some x:=fun {α y x r}=>a0_ (j:=1) rfl;simp! [tSeq,tFld];refine ⟨_,hb2 _,_,at0,zero_le _,fun e0 he0=>?_⟩;have s2:=Same.upd (o := .tup []) he0;refine ⟨_,_,.tup (hC_ hkk w2) (oP_ _),.tup (.inl (.inl af_)) .nil,w1,by left,?_⟩;rw [oO_];by_cases hk0:wy.1=[]
  ·rw [decide_eq_true hk0]
   exact ⟨_,hb2 _,_,at1,found (.inl hk0) _ (s1.trans s2)⟩
  rw [decide_eq_false hk0];refine ⟨_,_,_,(s1.trans s2) _ _ hkr,T.cl_g,T.n_aQ,_,rfl,_,hb2 _,_,at0,_,rfl,_,.inr (hC_ hkk w2),rfl,?_,?_⟩
  ·rw [all_map];exact all_eq_true.mpr fun _ _=>rfl
  rw [mw_];by_cases hk1:kindOf t.tok∈wy.1.map Vaunid.txt
  ·rw [decide_eq_true hk1,if_pos rfl]
   exact ⟨_,hb2 _,_,at1,found (.inr hk1) _ (s1.trans s2)⟩
  rw [decide_eq_false hk1,if_neg (by decide),hPw];refine ⟨⟨_,rfl⟩,s1.trans s2,?_⟩;rw [hp,hdrop];exact if_neg fun z=>z.elim hk0 hk1
 rw [hPw] at q;obtain ⟨⟨z,rfl⟩,s1,hp⟩:=q;simp! [tSeq,tFld,cq_];rw [length_map,Paired.length hways,drop_length] at hp;rw [hp] at k;exact ⟨_,_,_,s1 _ _ hkr,T.cl_g,T.n_aW,_,rfl,by decide,bk_ (ExF.mono k s1)⟩
def lQ_ (Ce:Addr):Sp:=fun vs H Q _=>∃ (p dx row:Addr),vs=[.ref p,.ref row]/\H p=some (.ins Ce dx [])/\∀ (td tn:Addr) (H':Hp),H td=none->H tn=none->td≠tn->ay_ [p] H H'->H' p=some (.ins Ce dx (rdFs row td tn 0))->H' td=some (.lst (dsV [.ru .expr,.k "end"]))->H' tn=some (.lst [])->Q .non H'
theorem ok_i (T:TX w K mg J):FnOk P w K mg base CX0 1 J.f_G J.d_G ["self","row"] (lQ_ J.C_i):=by
 refine T.F_G.ok sc_G fun _ _ _ _ H _ Q E hr h=>?_;obtain ⟨p,dx,row,rfl,hp,k⟩:=h;refine ⟨_,(ac_ (aZ_ (pv 0) (pv 1) rfl)
  (ac_ (aZ_ (pv 0) (ap_ (aa_ ao_ (aa_ ao_ ab_))) rfl)
  (ac_ (aZ_ (pv 0) (ap_ ab_) rfl)
  (ad_ (aZ_ (pv 0) ah_ rfl))))),?_⟩
 simp! [tSeq,sFld,hp];refine ⟨T.cl_i,T.n_aX,few0,by decide,fun td htd=>?_⟩;have n1:td≠p:=fun z=>by rw [z,af_] at htd;cases htd
 rw [ag_ n1] at htd;refine ⟨_,_,_,by rw [ag_ n1.symm,af_],T.cl_i,T.n_aY,few1,zero_le _,fun tn htn=>?_⟩;have n2:tn≠p:=fun z=>by rw [z,af_] at htn;cases htn
 rw [ag_ n2] at htn;have n3:tn≠td:=fun z=>by rw [z,af_] at htn;cases htn
 rw [ag_ n3,ag_ n2] at htn;refine ⟨_,_,_,by rw [ag_ n2.symm,af_],T.cl_i,T.n_aP,few2,T.cl_i,T.n_a8,few3,?_⟩;refine k td tn _ htd htn n3.symm (fun a o n e=>?_) af_ ?_ ?_
 ·have a1:a≠p:=fun z=>n (mem_singleton.mpr z)
  have a2:a≠td:=ai_ e htd;have a3:a≠tn:=ai_ e htn;rw [ag_ a1,ag_ a3,ag_ a1,ag_ a2,ag_ a1];exact e
 ·rw [ag_ n1,ag_ n3.symm,ag_ n1,af_]
  rfl
 rw [ag_ n2,af_]
def kh_ (Ca Ct Cp Cn Cr Ce C:Addr):Sp:=fun vs H Q E=>∃ (rd row la td tn dx:Addr) (as:List Addr) (s:RS) (t:Vaunid.Token) (l:Toks),vs=[.ref rd]/\RdAt Ca Ct Cp Cn Cr Ce H rd row la td tn dx as s/\s.l=t::l/\s.todo.length<=1000000 /\
 if s.ar<40 then (∀ H',ay_ [rd,td] H H'->RdAt Ca Ct Cp Cn Cr Ce H' rd row la td tn dx as { s with todo := .leave::s.todo,ar:=s.ar+1 }->Q .non H') else ExF C E H 7 (t.start:Int)
theorem mg_ (T:TX w K mg J):FnOk P w K mg base (CX1 P w) 4 J.f_aO J.d_aO ["reader"] (kh_ J.C_f J.C_g J.C_j J.C_d J.C_k J.C_i J.C_c):=by
 refine T.F_aO.fn.okX sc_aO fun _ _ _ _ H _ Q E hr h=>?_;obtain ⟨rd,row,la,td,tn,dx,as,s,t,l,rfl,hs,el,hn,k⟩:=h;refine ⟨_,(ac_ (aV_ (am_ hT_ (al_ (pv 0) rfl) (pe_g T.g_bk) (ar_ _)) (ad_ (bo_ T.X_c (ok_c T) hr.m rfl T.G_c T.b_q a8_ rfl (aa_ ah_ (aa_ (al_ (aW_ (al_ (pv 0) rfl) T.cl_k T.m_o (bJ_ T) hr.m T.b_o .nil ak_) rfl) ab_)))) aq_)
  (ac_ (eA_ (pv 0) ah_ np_)
  (ad_ (bu_ (gT_ pla sla tla by_ (al_ (pv 0) rfl) (aa_ ao_ ab_)))))),?_⟩
 have ho:=hs.o;have hrow:=hs.r;rw [el] at hrow;obtain ⟨m1,m2,m3,m4,m5,m6,m7⟩:=hs.nes;have hr0:=hrow;obtain ⟨dr,ra,ri,hr1,_⟩:=hr0;simp! [tSeq,tFld,dx_,bY_,cq_,fN_,rAdd,tBM,cr_,ho];refine ⟨T.cl_i,T.n_a8,_,rfl,_,rfl,?_⟩;by_cases h40:s.ar<40
 ·rw [if_pos h40] at k
  rw [if_neg (by omega)];have et:upd H rd (.ins J.C_i dx (rdFs row td tn ((s.ar:Int)+1))) td=some (.lst (dsV s.todo)):=by rw [ag_ m1.symm];exact hs.t
  refine ⟨T.cl_i,T.n_a8,_,rfl,_,rfl,(by show 4<1000;decide),T.cl_i,T.n_aY,_,rfl,.inl ⟨rfl,_,SqL.of et⟩,_,rfl,_,et,?_,?_⟩
  ·unfold dsV
   rw [length_map,length_reverse];exact Nat.lt_of_le_of_lt hn (by decide)
  have sm:ay_ [rd,td] H (upd (upd H rd (.ins J.C_i dx (rdFs row td tn ((s.ar:Int)+1)))) td (.lst (dsV s.todo++[V.str (ofString "leave expression")]))):=(ay_.upd (by simp)).trans (ay_.upd (by simp));exact k _ sm (hs.todo sm (by rw [ag_ m1,af_];rfl) (by rw [af_,ja_];rfl))
 rw [if_neg h40] at k;rw [if_pos (by omega)];exact ⟨T.cl_i,T.n_aX,_,rfl,_,rfl,_,_,hr1,rfl,_,rfl,la,t,l,hrow,fun b ⟨db,cb,eb,_⟩=>⟨_,_,_,eb,T.cl_g,T.n_aW,_,rfl,by decide,bk_ k⟩⟩
def iA_ (Ca Ct Cp Cn Cr Ce C:Addr):Sp:=fun vs H Q E=>∃ (rd row la td tn dx:Addr) (as:List Addr) (s:RS) (r:Ru) (t:Vaunid.Token) (l:Toks) (R:Vaunid.Res RS),vs=[.ref rd,.str (ofString r.nm)]/\RdAt Ca Ct Cp Cn Cr Ce H rd row la td tn dx as s/\s.l=t::l/\s.todo.length<=900000/\Stp { s with todo := .ru r::s.todo } R /\
 match R with
 | .ok s'=>∀ H',ay_ [rd,td] H H'->RdAt Ca Ct Cp Cn Cr Ce H' rd row la td tn dx as s'->Q .non H'
 | .error e=>ExF C E H (e.kind:Int) (e.place:Int)
theorem ok_aI (T:TX w K mg J):FnOk P w K mg base (CX1 P w) 5 J.f_aI J.d_aI ["reader","rule"] (iA_ J.C_f J.C_g J.C_j J.C_d J.C_k J.C_i J.C_c):=by
 refine T.F_aI.fn.okX sc_aI fun _ _ _ _ H _ Q E hr h=>?_;obtain ⟨rd,row,la,td,tn,dx,as,s,r,t,l,R,rfl,hs,el,hn,hst,k⟩:=h;refine ⟨_,(ac_ (aV_ (am_ bD_ (pv 1) ao_ (ar_ _)) (ad_ (bu_ (aH_ T.F_aO (mg_ T) hr.m aN_ (aa_ (pv 0) ab_)))) aq_)
  (ad_ (ez_ fl_ rfl (gR_ rfl T.b_reversed (aa_ (aH_ T.F_aJ (ok_aJ T) hr.m aN_ (aa_ (pv 1) (aa_ (aW_ (al_ (pv 0) rfl) T.cl_k T.m_o (bJ_ T) hr.m T.b_o .nil ak_) ab_))) ab_)) (pg_q 2 sc_aI.nd) (ad_ (bu_ (gT_ pla sla tla by_ (al_ (pv 0) rfl) (aa_ (pv 2) ab_))))))),?_⟩
 obtain ⟨sd,sk,sa,sl⟩:=s;dsimp only at el hn hst;subst el;have he:V.str (ofString r.nm)=V.str (ofString "EXPRESSION")↔r = .expr:=⟨fun z=>iB_ r (b0_ r) .expr (b0_ _) (by injection z),fun z=>by rw [z];rfl⟩;have ne:r ≠ .expr->¬ ofString r.nm=ofString "EXPRESSION":=fun h z=>h (iB_ r (b0_ r) .expr (b0_ _) z);refine dA_ (fun σ' H1=>σ'=[some (.ref rd),some (.str (ofString r.nm)),none]/\∃ s1,RdAt J.C_f J.C_g J.C_j J.C_d J.C_k J.C_i H1 rd row la td tn dx as s1/\s1.l=t::l/\s1.todo.length<=1000000/\(match aF_ (kindOf t.tok) (ways r) with
   | none=>ExF J.C_c E H1 6 (t.start:Int)
   | some p=>∀ H',ay_ [rd,td] H1 H'->RdAt J.C_f J.C_g J.C_j J.C_d J.C_k J.C_i H' rd row la td tn dx as { s1 with todo:=p++s1.todo }->Q .non H')) (fun Z hZ=>?_) fun σ' H1 h=>?_
 ·simp! [kh_]
  cases hst with
  | path hr hp =>
   rw [if_neg (ne hr)];exact hZ _ _ ⟨rfl,_,hs,rfl,Nat.le_trans hn (by decide),by rw [hp];exact k⟩
  | lost hr hp =>
   rw [if_neg (ne hr)];exact hZ _ _ ⟨rfl,_,hs,rfl,Nat.le_trans hn (by decide),by rw [hp];exact k⟩
  | enter har hp =>
   rw [if_pos (show ofString Ru.expr.nm=ofString "EXPRESSION" from rfl)];refine ⟨row,la,td,tn,dx,as,_,hs,t,l,rfl,Nat.le_trans hn (by decide),?_⟩;rw [if_pos har];exact fun H1 sm q=>hZ _ _ ⟨rfl,_,q,rfl,by show sd.length+1<=_;omega,by rw [hp];exact fun H' sm' q'=>k H' (sm.trans sm') q'⟩
  | deep =>
  rw [if_pos (show ofString Ru.expr.nm=ofString "EXPRESSION" from rfl)];refine ⟨row,la,td,tn,dx,as,_,hs,t,l,rfl,Nat.le_trans hn (by decide),?_⟩;rw [if_neg (Nat.lt_irrefl 40)];exact k
 obtain ⟨rfl,s1,h1,el,hn1,k1⟩:=h;have ho:=h1.o;have hrow:=h1.r;rw [el] at hrow;obtain ⟨m1,m2,m3,m4,m5,m6,m7⟩:=h1.nes;have hr0:=hrow;obtain ⟨dr,ra,ri,hr1,_⟩:=hr0;refine bG_ ?_;simp! [tFld,dx_,bY_,m6_,pU_,ho];refine ⟨T.cl_i,T.n_aX,_,rfl,_,rfl,_,_,hr1,rfl,_,rfl,la,t,l,hrow,fun tb htb=>⟨tb,r,rfl,rfl,t,htb,?_⟩⟩;cases hp:aF_ (kindOf t.tok) (ways r) with
 | none=>rw [hp] at k1;exact k1
 | some p =>
 rw [hp] at k1;intro pb H2 s2 hpb;refine ⟨_,hpb _,?_⟩;have h2:=h1.same s2;have hpl:p.length<=100:=by
  obtain ⟨wy,m,rfl⟩:=fU_ hp;have:=(jQ_ r (b0_ r) wy m).2.2;rw [length_map] at this;exact this
 obtain ⟨Pw,hPw⟩ : ∃ Pw:Nat->L2.St->Hp->Prop,Pw=fun i σ H'=>(∃ z,σ=[some (.ref rd),some (.str (ofString r.nm)),z])/\ay_ [rd,td] H2 H'/\H' rd=some (.ins J.C_i dx (rdFs row td tn (s1.ar:Int)))/\H' td=some (.lst (dsV s1.todo++(dsV p).take i)):=⟨_,rfl⟩;refine jE_ (p.map fun d=>V.str (ofString d.nm)) Pw ?_ (fun i σ H' _ _=>hpb H') (fun i v σ H' hx q=>?_) fun σ H' q=>?_
 ·rw [hPw]
  exact ⟨⟨_,rfl⟩,fun _ _ _ q=>q,h2.o,by rw [List.take_zero,append_nil];exact h2.t⟩
 ·rw [hPw] at q
  obtain ⟨⟨z,rfl⟩,sm,e1,e2⟩:=q;have hx:(dsV p)[i]? = some v:=by unfold dsV;rw [List.map_reverse];exact hx
  simp! [tSeq,tFld,tBM,cr_,e1];refine ⟨T.cl_i,T.n_aY,_,rfl,.inl ⟨rfl,_,SqL.of e2⟩,_,rfl,_,e2,?_,?_⟩
  ·unfold dsV
   rw [length_append,length_take,length_map,length_map,length_reverse,length_reverse];exact Nat.lt_of_le_of_lt (show _<=1000100 by omega) (by decide)
  rw [hPw];refine ⟨⟨_,rfl⟩,sm.trans (ay_.upd (by simp)),by rw [ag_ m1];exact e1,?_⟩;rw [af_,take_succ,hx,append_assoc];rfl
 rw [hPw] at q;obtain ⟨⟨z,rfl⟩,sm,e1,e2⟩:=q;have sm2:ay_ [rd,td] H1 H':=(ay_.of s2).trans sm;refine k1 H' sm2 (h1.todo sm2 e1 ?_);rw [e2,take_of_length_le (by unfold dsV;rw [length_map,length_map,length_reverse];exact Nat.le_refl _)];unfold dsV;rw [reverse_append,map_append]
def kg_ (Ca Ct Cp Cn:Addr):Sp:=fun vs H Q _=>∃ (l:Addr) (as:List Addr) (tk sl:List It) (Hx:Hp) (c:Nat ⊕ String),vs=[.ref l,gP_ c]/\Same Hx H/\H l=some (.lst (as.map V.ref))/\Paired (IAt Ca Ct Cp Cn Hx) as (tk++sl)/\(tk++sl).length<=20000 /\
 (match c with
  | .inl n=>sl.length=n
  | .inr c=>∃ i r,sl=i::r/\i.kind=Vaunid.txt c/\∀ j∈r,¬ j.kind=Vaunid.txt c)/\Q (.int (tk.length:Int)) H
theorem ok_aG (T:TX w K mg J):FnOk P w K mg base CX0 1 J.f_aG J.d_aG ["taken","reach"] (kg_ J.C_f J.C_g J.C_j J.C_d):=by
 refine T.F_aG.fn.ok sc_aG fun _ _ _ _ H _ Q E hr h=>?_;obtain ⟨l,as,tk,sl,Hx,c,rfl,sx,hl,hi,hn,hc,k⟩:=h;refine ⟨_,(ac_ (aV_ (cM_ (l5_ (pv 1) rfl T.b_isinstance rfl T.b_int)) (ad_ (aj_ (bt_ fm_ (aB_ aG_ rfl T.b_len PySem.boot_len (aa_ (pv 0) ab_)) (pv 1)))) aq_)
  (ac_ (aC_ 2 sc_aG.nd (bt_ fm_ (aB_ aG_ rfl T.b_len PySem.boot_len (aa_ (pv 0) ab_)) ah_))
  (ac_ (cd_ PassesOwn.never (am_ gX_ (al_ (aM_ aw_ (pv 0) (pv 2) (fun _ _=>rfl)) rfl) (pv 1) (ar_ _)) (ad_ (nh_ (i:=2) sc_aG.nd rfl (Or.inl rfl) ah_ pQ_)))
  (ad_ (aj_ (pv 2)))))),?_⟩
 refine sgo ?_;have hal:as.length=tk.length+sl.length:=by rw [Paired.length hi,length_append]
 simp! [mY_];cases c with
 | inl n =>
  have hc:sl.length=n:=hc;refine ⟨_,.int _,true,rfl,?_⟩;rw [if_pos rfl];refine ⟨_,.inl (SqL.of hl),_,rfl,?_⟩;rw [length_map,show ((as.length:Nat):Int) - (n:Int)=(tk.length:Int) by omega];exact k
 | inr c =>
 obtain ⟨i,r,rfl,h1,h2⟩:=hc;refine ⟨_,.str _,false,rfl,?_⟩;rw [if_neg (by decide)];rw [length_cons] at hal;refine sgo ?_;simp! [tRet];refine ⟨_,.inl (SqL.of hl),?_⟩;rw [length_map,show ((as.length:Nat):Int) - 1=((tk.length+r.length:Nat):Int) by omega];refine sgo ?_;refine cR_ (fun m σ H'=>∃ j:Nat,m=j/\j<=r.length/\σ=[some (.ref l),some (gP_ (.inr c)),some (.int ((tk.length+j:Nat):Int))]/\H'=H) _ ⟨r.length,rfl,Nat.le_refl _,rfl,rfl⟩ fun m σ H' hp=>?_;obtain ⟨j,ej,hj,rfl,eH⟩:=hp;subst ej eH;obtain ⟨it,hit⟩ : ∃ it,(tk++i::r)[tk.length+m]? = some it:=by
  rw [getElem?_append_right (by omega),add_sub_cancel_left];exact ⟨_,getElem?_eq_getElem (by rw [length_cons];omega)⟩
 obtain ⟨a,ha,hA⟩:=df_ hi (i:=((tk.length+m:Nat):Int)) (a0_ hit);obtain ⟨C,d,fs,g1,g2,⟨g3,g4⟩,_⟩:=k7_ T hA;have g1:=sx _ _ g1;simp! [tFld];refine ⟨_,SqL.of hl,_,eX_ ha,_,rfl,_,_,_,g1,g2,g3,_,g4,rfl,?_⟩;rw [getElem?_append_right (by omega),add_sub_cancel_left] at hit;have hk:gP_ (.inr c)=V.str (S (Vaunid.txt c)):=by show V.str (ofString c)=_;rw [bM_]
 cases m with
 | zero =>
  cases hit;rw [hk,h1,decide_eq_true rfl];exact k
 | succ j =>
 have hm:=h2 it (mem_of_getElem? hit);rw [hk,decide_eq_false (by simp only [V.str.injEq,d3_];exact hm)];refine ⟨_,fun _ _ z=>z,j,lt_succ_self j,by omega,?_,rfl⟩;rw [show (((tk.length+(j+1):Nat):Int) - 1)=((tk.length+j:Nat):Int) by omega]
def mks (J:TA):List Addr:=[J.f_W,J.f_X,J.f_A,J.f_Y,J.f_Z,J.f_aa,J.f_ab,J.f_ac,J.f_J,J.f_ad,J.f_y,J.f_y,J.f_ae,J.f_af,J.f_ag,J.f_ah,J.f_r,J.f_r,J.f_r,J.f_ai,J.f_aj,J.f_ak,J.f_B,J.f_K]
theorem mf_ (T:TX w K mg J) (m:Mq) : ∃ fd,FnOk P w K mg base CX0 9 (mqF (mks J) m) fd ["use"] (spMk J (bW_ m))/\aY_ K fd ["use"] []/\keepIn K (.ref (mqF (mks J) m))=true:=by
 cases m with
 | fn=>exact ⟨_,ok_W T,T.F_W.b,T.F_W.fn.kp⟩
 | rec_=>exact ⟨_,ok_X T,T.F_X.b,T.F_X.fn.kp⟩
 | let_=>exact ⟨_,ok_A T,T.F_A.b,T.F_A.fn.kp⟩
 | if_=>exact ⟨_,ok_Y T,T.F_Y.b,T.F_Y.fn.kp⟩
 | case_=>exact ⟨_,ok_Z T,T.F_Z.b,T.F_Z.fn.kp⟩
 | or_=>exact ⟨_,ok_aa T,T.F_aa.b,T.F_aa.fn.kp⟩
 | and_=>exact ⟨_,ok_ab T,T.F_ab.b,T.F_ab.fn.kp⟩
 | not_=>exact ⟨_,ok_ac T,T.F_ac.b,T.F_ac.fn.kp⟩
 | cmp=>exact ⟨_,ok_J T,T.F_J.b,T.F_J.fn.kp⟩
 | cons=>exact ⟨_,ok_ad T,T.F_ad.b,T.F_ad.fn.kp⟩
 | sum=>exact ⟨_,ok_y T,T.F_y.b,T.F_y.fn.kp⟩
 | prod=>exact ⟨_,ok_y T,T.F_y.b,T.F_y.fn.kp⟩
 | pow=>exact ⟨_,ok_ae T,T.F_ae.b,T.F_ae.fn.kp⟩
 | mpow=>exact ⟨_,ok_af T,T.F_af.b,T.F_af.fn.kp⟩
 | app=>exact ⟨_,ok_ag T,T.F_ag.b,T.F_ag.fn.kp⟩
 | mnum=>exact ⟨_,ok_ah T,T.F_ah.b,T.F_ah.fn.kp⟩
 | one=>exact ⟨_,ok_r T,T.F_r.b,T.F_r.fn.kp⟩
 | two=>exact ⟨_,ok_r T,T.F_r.b,T.F_r.fn.kp⟩
 | three=>exact ⟨_,ok_r T,T.F_r.b,T.F_r.fn.kp⟩
 | name=>exact ⟨_,ok_ai T,T.F_ai.b,T.F_ai.fn.kp⟩
 | number=>exact ⟨_,ok_aj T,T.F_aj.b,T.F_aj.fn.kp⟩
 | truth=>exact ⟨_,ok_ak T,T.F_ak.b,T.F_ak.fn.kp⟩
 | bracket=>exact ⟨_,ok_B T,T.F_B.b,T.F_B.fn.kp⟩
 | list=>exact ⟨_,ok_K T,T.F_K.b,T.F_K.fn.kp⟩
def kf_ (Ca Ct Cp Cn Cr Ce:Addr):Sp:=fun vs H Q _=>∃ (rd row la td tn dx:Addr) (as:List Addr) (s:RS) (m:Mq) (tk sl:List It) (g:Vaunid.Got),vs=[.ref rd,.str (ofString m.nm)]/\RdAt Ca Ct Cp Cn Cr Ce H rd row la td tn dx as s/\s.taken=tk++sl/\s.taken.length<=20000/\(∀ i∈s.taken,okI i)/\Made m sl g /\
 ∀ (H':Hp) (tn':Addr) (as':List Addr),mS_ H rd td tn row H' tn'->RdAt Ca Ct Cp Cn Cr Ce H' rd row la td tn' dx as' { s with taken:=tk++[.pc g] }->Q .non H'
theorem ok_am (T:TX w K mg J):FnOk P w K mg base CX0 12 J.f_am J.d_am ["reader","step"] (kf_ J.C_f J.C_g J.C_j J.C_d J.C_k J.C_i):=by
 refine T.F_am.fn.ok sc_am fun _ _ _ _ H _ Q E hr h=>?_;obtain ⟨rd,row,la,td,tn,dx,as,s,m,tk,sl,g,rfl,hs,et,hn,hok,hg,k⟩:=h;refine ⟨_,(ac_ (aC_ 2 sc_am.nd (aM_ b7_ (fS_ (pe_r T.g_e) (pv 1)) ah_ (fun _ _=>rfl)))
  (ac_ (aC_ 3 sc_am.nd (aM_ b7_ (fS_ (pe_r T.g_e) (pv 1)) ah_ (fun _ _=>rfl)))
  (ac_ (aC_ 4 sc_am.nd (aH_ T.F_aG (ok_aG T) hr.m ak_ (aa_ (al_ (pv 0) rfl) (aa_ (pv 2) ab_))))
  (ac_ (aC_ 5 sc_am.nd (bC_ T.M_a (ok_a T) hr.m rfl T.G_a T.b_F .nil ak_ (aa_ (bc_ bI_ (al_ (pv 0) rfl) (a9_ (pv 4)) ce_) ab_)))
  (ac_ (aZ_ (pv 0) (bc_ bI_ (al_ (pv 0) rfl) ce_ (a9_ (pv 4))) rfl)
  (ad_ (bu_ (gT_ pla sla tla by_ (al_ (pv 0) rfl) (aa_ (bC_ T.M_j (ok_j T) hr.m rfl T.G_j T.b_E .nil ak_ (aa_ (cC_ (CX:=CX0) (k:=9) 3 hr.m ak_ (aa_ (pv 5) ab_)) (aa_ (al_ (pv 5) rfl) (aa_ (al_ (pv 5) rfl) ab_)))) ab_))))))))),?_⟩
 obtain ⟨ad,hd,hw⟩:=T.t_e;have ho:=hs.o;obtain ⟨m1,m2,m3,m4,m5,m6,m7⟩:=hs.nes;refine sgo ?_;simp! [is_];refine ⟨_,hd,_,ep_ _ _ _ kP_ (iU_ m),_,rfl,_,hw m _,_,at0,?_⟩;refine sgo ?_;simp! [is_];refine ⟨_,hd,_,ep_ _ _ _ kP_ (iU_ m),_,rfl,_,hw m _,_,at1,?_⟩;refine sgo ?_;obtain ⟨fd,fk1,fk2,fk3⟩:=mf_ (P:=P) (base:=base) T m;have hok2 : ∀ i∈sl,∀ t,i=It.tk t->bh_ t.tok:=fun i hi t e=>by
  have:=hok i (by rw [et];exact mem_append_right _ hi);rw [e] at this;exact this
 have hi:=hs.i;rw [et] at hi hn;simp! [tFld,kg_,ho];refine ⟨T.cl_i,T.n_aP,_,rfl,_,rfl,as,tk,sl,_,m.reach,rfl,be_ _ _,hs.k,hi,hn,jw_ hg hok2,?_⟩;have hal:as.length=tk.length+sl.length:=by rw [Paired.length hi,length_append]
 refine sgo ?_;simp! [tFld,db_,pf_,ho];refine ⟨T.cl_i,T.n_aP,_,rfl,_,rfl,_,SqL.of hs.k,fun ul hul u du hu0 hdu ndu=>?_⟩;have c1:cutV (as.map V.ref) (some (tk.length:Int)) none=(as.drop tk.length).map V.ref:=by rw [eS_ _ _ (by rw [length_map];omega),List.map_drop]
 rw [c1] at hu0 hdu ⊢;have s1:=Same.upd (o := .lst ((as.drop tk.length).map V.ref)) hul;have e1:upd H ul (.lst ((as.drop tk.length).map V.ref)) ul=some (.lst ((as.drop tk.length).map V.ref)):=af_;generalize upd H ul (.lst ((as.drop tk.length).map V.ref))=H1 at s1 e1 hu0 hdu ⊢;have s2:Same H1 (upd (upd H1 du (.own u)) u (.ins J.C_a du [])):=(Same.upd hdu).trans (Same.upd (by rw [ag_ ndu.symm];exact hu0));obtain ⟨pi1,pi2⟩:=hR_ hi;obtain ⟨hb,he⟩:=g8_ hg;refine ⟨as.drop tk.length,s2 _ _ e1,sl,Paired.mapP pi2 fun _ _ q=>q.same ((be_ _ _).trans (s1.trans s2)),_,hb,_,he,?_⟩;have s3:Same H1 (upd (upd H1 du (.own u)) u (.ins J.C_a du (gv_ ul (g.start:Int) (g.halt_:Int)))):=fun a o e=>by
  rw [ag_ (ai_ e hu0),ag_ (ai_ e hdu)];exact e
 have e3:upd (upd H1 du (.own u)) u (.ins J.C_a du (gv_ ul (g.start:Int) (g.halt_:Int))) u=some (.ins J.C_a du (gv_ ul (g.start:Int) (g.halt_:Int))):=af_;generalize upd (upd H1 du (.own u)) u (.ins J.C_a du (gv_ ul (g.start:Int) (g.halt_:Int)))=H3 at s3 e3 ⊢;have hun:H u=none:=none_of s1 hu0;have s13:=s1.trans s3;have ho3:=s13 _ _ ho;refine sgo ?_;simp! [sFld,tFld,ho3];refine ⟨T.cl_i,T.n_aP,_,rfl,_,rfl,_,SqL.of (s13 _ _ hs.k),fun tn' htn=>?_⟩;have c2:cutV (as.map V.ref) none (some (tk.length:Int))=(as.take tk.length).map V.ref:=by rw [ib_ _ _ (by rw [length_map];omega),List.map_take]
 rw [c2];have htn0:H tn'=none:=none_of s13 htn;have nrd:rd≠tn':=ai_ ho3 htn;have ntd:td≠tn':=ai_ (s13 _ _ hs.t) htn;have nla:la≠tn':=by obtain ⟨_,_,_,_,q,_⟩:=hs.r;exact ai_ (s13 _ _ q) htn
 have nrow:row≠tn':=by obtain ⟨_,_,_,q,_⟩:=hs.r;exact ai_ (s13 _ _ q) htn
 refine ⟨_,_,_,by rw [ag_ nrd];exact ho3,T.cl_i,T.n_aP,(by show 4<1000;decide),?_⟩;have e5:upd (upd H3 tn' (.lst ((as.take tk.length).map V.ref))) rd (.ins J.C_i dx (putF (ofString "taken") (V.ref tn') (rdFs row td tn (s.ar:Int)))) rd=some (.ins J.C_i dx (rdFs row td tn' (s.ar:Int))):=af_;have f5:upd (upd H3 tn' (.lst ((as.take tk.length).map V.ref))) rd (.ins J.C_i dx (putF (ofString "taken") (V.ref tn') (rdFs row td tn (s.ar:Int)))) tn'=some (.lst ((as.take tk.length).map V.ref)):=by rw [ag_ nrd.symm,af_]
 have x5:ay_ [rd] H3 (upd (upd H3 tn' (.lst ((as.take tk.length).map V.ref))) rd (.ins J.C_i dx (putF (ofString "taken") (V.ref tn') (rdFs row td tn (s.ar:Int))))):=fun a o n e=>by
  rw [ag_ (fun z=>n (mem_singleton.mpr z)),ag_ (ai_ e htn)];exact e
 generalize upd (upd H3 tn' (.lst ((as.take tk.length).map V.ref))) rd (.ins J.C_i dx (putF (ofString "taken") (V.ref tn') (rdFs row td tn (s.ar:Int))))=H5 at e5 f5 x5 ⊢;have sX:ay_ [rd,td,tn,row] H H5:=(ay_.of s13).trans (x5.more (by simp));have exm:Same (ex [rd,td,tn,row] H) (ex [rd,td,tn',row] H5):=dJ_ sX fun a ma=>by
  simp only [mem_cons,not_mem_nil,or_false] at ma ⊢;rcases ma with z | z | z | z
  ·exact .inl (.inl z)
  ·exact .inl (.inr (.inl z))
  ·exact .inr (by rw [z];exact htn0)
  exact .inl (.inr (.inr (.inr z)))
 have up : ∀ {a:Addr}{o:HO},H a=some o->a≠rd->H5 a=some o:=fun e n=>x5 _ _ (fun z=>n (mem_singleton.mp z)) (s13 _ _ e);have ht5:=up hs.t m1.symm;have hr5:bV_ J.C_f J.C_g J.C_k H5 row la s.l:=(hs.r.same s13).keepU x5 (fun x hx=>by rw [mem_singleton.mp hx];exact .inr ⟨_,_,_,_,_,_,ho3⟩) (by simp [m3.symm]) (by simp [m4.symm]);have hrow5 : ∃ o,H5 row=some o:=by obtain ⟨_,_,_,q,_⟩:=hr5;exact ⟨_,q⟩
 have hre5:Hre [rd,td,tn',row] H5:=allc ⟨_,e5⟩ (allc ⟨_,ht5⟩ (allc ⟨_,f5⟩ (allc hrow5 all0)));have nin5 : ∀ {a:Addr}{o:HO},H a=none->H3 a=some o->a∉[rd,td,tn',row]:=fun {a o} n e ma=>by
  simp only [mem_cons,not_mem_nil,or_false] at ma;rcases ma with z | z | z | z
  ·rw [z,ho] at n;cases n
  ·rw [z,hs.t] at n;cases n
  ·rw [z,htn] at e;cases e
  obtain ⟨_,_,_,q,_⟩:=hs.r;rw [z,q] at n;cases n
 have nrd5 : ∀ {a:Addr}{o:HO},H a=none->H3 a=some o->H5 a=some o:=fun {a o} n e=>x5 _ _ (fun z=>by rw [mem_singleton.mp z,ho] at n;cases n) e;have hU:UseAt J.C_f J.C_g J.C_j J.C_d J.C_a (ex [rd,td,tn',row] H5) u ul (as.drop tk.length) sl g.start g.halt_:=by
  have hl3:=s3 _ _ e1;refine ⟨⟨du,jK_ (nin5 hun e3) (nrd5 hun e3)⟩,jK_ (nin5 hul hl3) (nrd5 hul hl3),Paired.mapP pi2 fun _ _ q=>q.same exm,hb,he,?_⟩;rw [length_append] at hn;omega
 have eu5:=nrd5 hun e3;simp! [tSeq,tBM,cr_,tFld,db_,e9_,kd_,e5];refine ⟨T.cl_i,T.n_aP,_,rfl,.inl ⟨rfl,_,SqL.of f5⟩,fd,_,_,fk1,fk2,fk3,?_⟩;refine ⟨[rd,td,tn',row],u,sl,g,rfl,hre5,⟨ul,_,hU⟩,hg.p,fun nn H6 s6 gn=>?_⟩;refine ⟨_,_,_,s6 _ _ eu5,T.cl_a,T.n_br,_,rfl,_,_,_,s6 _ _ eu5,T.cl_a,T.n_bs,_,rfl,fun px pd hpx hpd npd=>?_⟩;refine ⟨pd,nn,rfl,_,rfl,_,rfl,rfl,_,rfl,(as.take tk.length).map V.ref,?_,?_,?_⟩
 rotate_left
 rotate_left
 ·have s7:Same H6 (upd (upd H6 pd (.own px)) px (.ins J.C_j pd (dB_ nn (g.start:Int) (g.halt_:Int)))):=fun a o e=>by
   rw [ag_ (ai_ e hpx),ag_ (ai_ e hpd)];exact e
  have e7:upd (upd H6 pd (.own px)) px (.ins J.C_j pd (dB_ nn (g.start:Int) (g.halt_:Int))) px=some (.ins J.C_j pd (dB_ nn (g.start:Int) (g.halt_:Int))):=af_;generalize upd (upd H6 pd (.own px)) px (.ins J.C_j pd (dB_ nn (g.start:Int) (g.halt_:Int)))=H7 at s7 e7 ⊢;have s57:=s6.trans s7;have x8:ay_ [tn'] H7 (upd H7 tn' (.lst ((as.take tk.length).map V.ref++[V.ref px]))):=ay_.upd (mem_singleton.mpr rfl);have x58:ay_ [rd,td,tn',row] H5 (upd H7 tn' (.lst ((as.take tk.length).map V.ref++[V.ref px]))):=(ay_.of s57).trans (x8.more (by simp));have npx:px∉[rd,td,tn',row]:=fun ma=>by
   obtain ⟨o,q⟩:=(hre5.same s6) px ma;rw [hpx] at q;cases q
  have exm2:Same (ex [rd,td,tn',row] H5) (ex [rd,td,tn',row] (upd H7 tn' (.lst ((as.take tk.length).map V.ref++[V.ref px])))):=dJ_ x58 fun _ ma => .inl ma;have exm6:Same (ex [rd,td,tn',row] H6) (ex [rd,td,tn',row] (upd H7 tn' (.lst ((as.take tk.length).map V.ref++[V.ref px])))):=dJ_ ((ay_.of s7).trans (x8.more (by simp))) fun _ ma => .inl ma;refine k _ tn' (as.take tk.length++[px]) ⟨fun a o n e=>?_,.inr htn0⟩ ⟨?_,?_,?_,?_,?_,ntd,hs.n2,nla⟩
  ·rw [ag_ (ai_ e htn0)]
   exact s57 _ _ (sX _ _ n e)
  ·rw [ag_ nrd]
   exact s57 _ _ e5
  ·rw [ag_ ntd]
   exact s57 _ _ ht5
  ·rw [af_,map_append]
   rfl
  ·refine fi_ (Paired.mapP pi1 fun _ _ q=>q.same (exm.trans exm2)) (.cons ⟨pd,nn,jK_ npx ?_,gn.same exm6⟩ .nil)
   rw [ag_ (fun z=>npx (by rw [z];simp))];exact e7
  exact (hr5.same s57).keepU x8 (fun x hx=>by rw [mem_singleton.mp hx];exact .inl (.lst (s57 _ _ f5))) (by simp [nrow]) (by simp [nla])
 ·rw [ag_ (ai_ (s6 _ _ f5) hpx),ag_ (ai_ (s6 _ _ f5) hpd)]
  exact s6 _ _ f5
 rw [length_map,length_take];rw [length_append] at hn;exact Nat.lt_of_le_of_lt (show _<=20000 by omega) (by decide)
def nU_ (Ca Ct Cp Cn Cr Ce C:Addr):Sp:=fun vs H Q E=>∃ (rd row la td tn dx:Addr) (as:List Addr) (s:RS) (d:Ds) (R:Vaunid.Res RS),vs=[.ref rd,.str (ofString d.nm)]/\RdAt Ca Ct Cp Cn Cr Ce H rd row la td tn dx as s/\okD d=true/\s.todo.length<=900000/\s.taken.length<=20000/\(∀ i∈s.taken,okI i)/\Gd s.l/\Stp { s with todo:=d::s.todo } R /\
 match R with
 | .ok s'=>∀ (H':Hp) (tn':Addr) (as':List Addr),mS_ H rd td tn row H' tn'->RdAt Ca Ct Cp Cn Cr Ce H' rd row la td tn' dx as' s'->Q .non H'
 | .error e=>ExF C E H (e.kind:Int) (e.place:Int)
theorem kI_ (T:TX w K mg J):FnOk P w K mg base (CX1 P w) 13 J.f_aN J.d_aN ["reader","step"] (nU_ J.C_f J.C_g J.C_j J.C_d J.C_k J.C_i J.C_c):=by
 refine T.F_aN.fn.okX sc_aN fun _ _ _ _ H _ Q E hr h=>?_;obtain ⟨rd,row,la,td,tn,dx,as,s,d,R,rfl,hs,hd,hn,hk,hok,hgd,hst,k⟩:=h;refine ⟨_,(ad_ (aV_ (ku_ (pv 1) (pe_r T.g_b)) (ad_ (bu_ (aH_ T.F_aI (ok_aI T) hr.m aN_ (aa_ (pv 0) (aa_ (pv 1) ab_))))) (ad_ (aV_ (ku_ (pv 1) (pe_r T.g_e)) (ad_ (bu_ (aH_ T.F_am (ok_am T) hr.m ak_ (aa_ (pv 0) (aa_ (pv 1) ab_))))) (ad_ (aV_ (am_ bD_ (pv 1) ao_ (ar_ _)) (ad_ (eA_ (pv 0) ah_ pT_)) (ad_ (aV_ (am_ bD_ (pv 1) ao_ (ar_ _)) (ad_ (bu_ (gT_ pla sla tla by_ (al_ (pv 0) rfl) (aa_ (aW_ (al_ (pv 0) rfl) T.cl_k T.m_t (kH_ T) hr.m T.b_t .nil ak_) ab_)))) (ad_ (bu_ (gT_ pla sla tla by_ (al_ (pv 0) rfl) (aa_ (an_ (al_ (pv 0) rfl) T.cl_k T.m_w (g0_ T) hr.m T.b_w .nil aN_ (aa_ (pv 1) ab_)) ab_)))))))))))),?_⟩;obtain ⟨sd,sk,sa,sl⟩:=s;obtain ⟨rad,hrd,_⟩:=T.t_b;obtain ⟨mad,hmd,_⟩:=T.t_e;have ho:=hs.o;obtain ⟨m1,m2,m3,m4,m5,m6,m7⟩:=hs.nes;have noR : ∀ {x:Str},(∀ r∈cJ_,¬ ofString r.nm=x)->¬ (bx_ (List.map (fun r=>(ofString r.nm,V.ref (rad r))) cJ_) x).isSome=true:=fun h=>by rw [ir_ _ _ _ h];exact Bool.false_ne_true
 have noM : ∀ {x:Str},(∀ r∈d1_,¬ ofString r.nm=x)->¬ (bx_ (List.map (fun r=>(ofString r.nm,V.ref (mad r))) d1_) x).isSome=true:=fun h=>by rw [ir_ _ _ _ h];exact Bool.false_ne_true
 have step2 : ∀ {H'},ay_ [rd,td] H H'->mS_ H rd td tn row H' tn:=fun sm=>⟨sm.more (by simp),.inl rfl⟩;obtain ⟨x,hx⟩ : ∃ x,ofString d.nm=x:=⟨_,rfl⟩;rw [hx];have hr0:=hs.r;obtain ⟨dr,ra,ri,hr1,_⟩:=hr0;have nR : ¬ (∃ r,d = .ru r)->¬ (bx_ (List.map (fun r=>(ofString r.nm,V.ref (rad r))) cJ_) x).isSome=true:=fun n=>by
  subst hx;cases d with
  | ru r=>exact absurd ⟨r,rfl⟩ n
  | mk m=>exact noR fun r hr=>qo_ m (iU_ m) r hr
  | leave=>exact noR (by left)
  | any=>exact noR (by left)
  | k c =>
  have hd:=(and_eq_true _ _ ▸ (and_eq_true _ _ ▸ (and_eq_true _ _ ▸ hd).1).1).1;exact noR fun r hr=>of_decide_eq_true (all_eq_true.mp hd r hr)
 have nM : ¬ (∃ m,d = .mk m)->¬ (∃ r,d = .ru r)->¬ (bx_ (List.map (fun r=>(ofString r.nm,V.ref (mad r))) d1_) x).isSome=true:=fun n n2=>by
  subst hx;cases d with
  | ru r=>exact absurd ⟨r,rfl⟩ n2
  | mk m=>exact absurd ⟨m,rfl⟩ n
  | leave=>exact noM (by left)
  | any=>exact noM (by left)
  | k c =>
  have hd:=(and_eq_true _ _ ▸ (and_eq_true _ _ ▸ (and_eq_true _ _ ▸ hd).1).1).2;exact noM fun r hr=>of_decide_eq_true (all_eq_true.mp hd r hr)
 have yR : ¬ (bx_ (List.map (fun r=>(ofString r.nm,V.ref (rad r))) cJ_) x).isSome=true->∀ r,¬ d = .ru r:=fun h r e=>h (by subst e hx;show (bx_ _ (ofString r.nm)).isSome=true;rw [ep_ _ _ _ iB_ (b0_ r)];rfl);have yM : ¬ (bx_ (List.map (fun r=>(ofString r.nm,V.ref (mad r))) d1_) x).isSome=true->∀ r,¬ d = .mk r:=fun h r e=>h (by subst e hx;show (bx_ _ (ofString r.nm)).isSome=true;rw [ep_ _ _ _ kP_ (iU_ r)];rfl);have kd : ∀ c,d = .k c->¬ x=ofString "leave expression"/\¬ x=ofString "any token":=fun c e=>by
  subst e hx;have h1:=and_eq_true _ _ ▸ hd;exact ⟨of_decide_eq_true (and_eq_true _ _ ▸ h1.1).2,of_decide_eq_true h1.2⟩
 have dl:x=ofString "leave expression"->(∀ r,¬ d = .ru r)->(∀ r,¬ d = .mk r)->d = .leave:=fun e a b=>by
  cases d with
  | ru r=>exact absurd rfl (a r)
  | mk r=>exact absurd rfl (b r)
  | leave=>rfl
  | any=>subst hx;exact absurd e (by left)
  | k c=>exact absurd e (kd c rfl).1
 have da:x=ofString "any token"->(∀ r,¬ d = .ru r)->(∀ r,¬ d = .mk r)->d = .any:=fun e a b=>by
  cases d with
  | ru r=>exact absurd rfl (a r)
  | mk r=>exact absurd rfl (b r)
  | any=>rfl
  | leave=>subst hx;exact absurd e (by left)
  | k c=>exact absurd e (kd c rfl).2
 have dk : ¬ x=ofString "leave expression"->¬ x=ofString "any token"->(∀ r,¬ d = .ru r)->(∀ r,¬ d = .mk r)->∃ c,d = .k c:=fun e e2 a b=>by
  cases d with
  | ru r=>exact absurd rfl (a r)
  | mk r=>exact absurd rfl (b r)
  | any=>exact absurd hx.symm e2
  | leave=>exact absurd hx.symm e
  | k c=>exact ⟨c,rfl⟩
 simp! [tSeq,nN_,iA_,kf_,j9_,fa_,dx_,tFld,fN_,rSub,tBM,cr_,ho];refine ⟨_,hrd,ite2 (fun h=>?_) fun h=>⟨_,hmd,ite2 (fun h'=>?_) fun h'=>ite2 (fun h2=>?_) fun h2=>ite2 (fun h3=>?_) fun h3=>?_⟩⟩
 ·obtain ⟨r,rfl⟩:=Classical.not_not.mp fun n=>nR n h
  obtain ⟨t,l,rfl⟩ : ∃ t l,sl=t::l:=by cases hst <;> exact ⟨_,_,rfl⟩
  refine ⟨row,la,td,tn,dx,as,_,r,hx.symm,hs,t,l,rfl,hn,R,hst,?_⟩;cases R with
  | ok s'=>exact fun H' sm q=>k H' tn as (step2 sm) q
  | error e=>exact k
 ·obtain ⟨m,rfl⟩:=Classical.not_not.mp fun n=>nM n (fun ⟨r,e⟩=>yR h r e) h'
  cases hst with
  | @make _ _ tk sl' g _ _ hm =>
  exact ⟨row,la,td,tn,dx,as,_,m,hx.symm,hs,tk,sl',rfl,hk,hok,g,hm,k⟩
 ·cases dl h2 (yR h) (yM h')
  cases hst with
  | @leave _ _ ar _ =>
  refine ⟨T.cl_i,T.n_a8,_,rfl,_,rfl,(by show 4<1000;decide),?_⟩;have sm:ay_ [rd,td] H (upd H rd (.ins J.C_i dx (rdFs row td tn (ar:Int)))):=ay_.upd (by simp);have:=k _ tn as (step2 sm) (hs.todo sm af_ (by rw [ag_ m1.symm];exact hs.t));rw [show ((ar:Nat):Int)=((ar+1:Nat):Int) - 1 by omega] at this;exact this
 ·cases da h3 (yR h) (yM h')
  cases hst with
  | @any _ _ _ t l hl =>
  refine ⟨T.cl_i,T.n_aP,_,rfl,.inl ⟨rfl,_,SqL.of hs.k⟩,T.cl_i,T.n_aX,_,rfl,_,rfl,_,_,hr1,rfl,_,rfl,la,t,l,hs.r,fun b H1 hb sm hr=>?_⟩;obtain ⟨e1,e2,q1,q2⟩:=hs.took sm hb (hgd t (mem_cons_self ..)) hr;exact ⟨_,rfl,_,e2,by rw [length_map,Paired.length hs.i];exact Nat.lt_of_le_of_lt hk (by decide),k _ _ _ q1 q2⟩
 obtain ⟨c,rfl⟩:=dk h2 h3 (yR h) (yM h');obtain ⟨t,l,rfl⟩ : ∃ t l,sl=t::l:=by cases hst <;> exact ⟨_,_,rfl⟩
 refine ⟨T.cl_i,T.n_aP,_,rfl,.inl ⟨rfl,_,SqL.of hs.k⟩,T.cl_i,T.n_aX,_,rfl,_,rfl,_,_,hr1,rfl,_,rfl,la,t,l,Vaunid.txt c,(by rw [<- hx];show ofString c=_;rw [bM_]),hs.r,ite2 (fun hk2=>?_) fun hk2=>?_⟩
 ·intro b H1 hb sm hr
  obtain ⟨e1,e2,q1,q2⟩:=hs.took sm hb (hgd t (mem_cons_self ..)) hr;cases hst with
  | kind _=>exact ⟨_,rfl,_,e2,by rw [length_map,Paired.length hs.i];exact Nat.lt_of_le_of_lt hk (by decide),k _ _ _ q1 q2⟩
  | other n=>exact absurd hk2 n
 cases hst with
 | kind n=>exact absurd n hk2
 | other _=>exact k
theorem hH_ {t u:TS}{D:Ends}{σ:L2.St}{H:Hp} (h:t { D with nx:=u D } σ H):tSeq t u D σ H:=h
def dy_ (Cn:Addr):Sp:=fun vs H Q _=>∃ (a:Addr) (tr:Tr) (F:List Addr),vs=[.ref a]/\TreeAt Cn H a tr F/\(bb_ 1 tr).length<=10000/\∀ (p:Addr) (items:List Addr) (H':Hp),Same H H'->H' p=some (.lst (items.map V.ref))->Paired (cb_ Cn H H') items (bb_ 1 tr)->Q (.ref p) H'
theorem cb_.keep {Cn:Addr}{H H1 H2:Hp}{xs:List Addr} (sx:ay_ xs H1 H2) (nt : ∀ x∈xs,∃ l,H1 x=some (.lst l)) {it:Addr}{p:Nat×Tr} (h:cb_ Cn H H1 it p):cb_ Cn H H2 it p:=by
 obtain ⟨a,F,e,t⟩:=h;refine ⟨a,F,sx _ _ (fun m=>?_) e,t⟩;obtain ⟨l,q⟩:=nt _ m;rw [q] at e;cases e
theorem jp_ {A B:Type}{R:A->B->Prop}{l l2:List A}{m m2:List B} (h:Paired R l m) (q:Paired R l2 m2):Paired R (l++l2) (m++m2):=by
 induction h with
 | nil=>exact q
 | cons r t ih=>exact .cons r ih
theorem ok_L (T:TX w K mg J):FnOk P w K mg base CX0 1 J.f_L J.d_L ["term"] (dy_ J.C_d):=by
 refine T.F_L.fn.ok sc_L fun _ _ _ _ H _ Q E hr h=>?_;obtain ⟨a,tr,F,rfl,htr,zp,k⟩:=h;refine ⟨_,(ac_ (aC_ 1 sc_L.nd (ap_ ab_))
  (ac_ (aC_ 2 sc_L.nd (ap_ (aa_ (kB_ (aa_ (pv 0) (aa_ ah_ ab_))) ab_)))
  (ac_ (cd_ PassesOwn.never (iD_ (pv 2) (fun _=>rfl)) (ac_ (aC_ 3 sc_L.nd (nj_ pla slp tlp nm_ (pv 2)))
  (ac_ (bu_ (gT_ pla sla tla by_ (pv 1) (aa_ (pv 3) ab_)))
  (ad_ (ez_ PassesOwn.never rfl (cf_ rfl T.b_reversed (aa_ (al_ (aM_ b7_ (pv 3) ah_ (fun _ _=>rfl)) rfl) ab_)) (pg_q 4 sc_L.nd) (ad_ (bu_ (gT_ pla sla tla by_ (pv 2) (aa_ (kB_ (aa_ (pv 4) (aa_ (bt_ cN_ (aM_ b7_ (pv 3) ah_ (fun _ _=>rfl)) ah_) ab_))) ab_)))))))))
  (ad_ (aj_ (pv 1)))))),?_⟩
 refine hH_ ?_;simp! [tRet];refine ⟨zero_le _,fun fd hfd=>hH_ ?_⟩;simp! [tRet];refine ⟨by decide,fun it0 hit0=>⟨by decide,fun td htd=>?_⟩⟩;have nf:fd≠it0:=fun z=>by rw [z,af_] at hit0;cases hit0
 have hit00:H it0=none:=by rw [ag_ (Ne.symm nf)] at hit0;exact hit0
 have ntd:td≠it0:=fun z=>by rw [z,af_] at htd;cases htd
 have ntf:td≠fd:=fun z=>by rw [ag_ ntd,z,af_] at htd;cases htd
 have htd0:H td=none:=by rw [ag_ ntd,ag_ ntf] at htd;exact htd
 obtain ⟨Pv,hPv⟩ : ∃ Pv:Nat->L2.St->Hp->Prop,Pv=fun m σ H'=>Same H H'/\∃ (dn sk:List Addr) (dl sl:List (Nat×Tr)) (z z2:Option V),m=(dp_ sl).length/\σ=[some (.ref a),some (.ref fd),some (.ref td),z,z2]/\H' fd=some (.lst (dn.map V.ref))/\H' td=some (.lst (sk.map V.ref)) /\
  Paired (cb_ J.C_d H H') dn dl/\Paired (cb_ J.C_d H H') sk sl/\bb_ 1 tr=dl++dp_ sl:=⟨_,rfl⟩
 refine hH_ (cR_ Pv _ (by
  rw [hPv];refine ⟨?_,[],[it0],[],[(1,tr)],none,none,rfl,rfl,?_,af_,.nil,.cons ⟨a,F,?_,htr⟩ .nil,?_⟩
  ·exact (Same.upd hfd).trans ((Same.upd hit0).trans (Same.upd htd))
  ·rw [ag_ (Ne.symm ntf),ag_ nf]
   exact af_
  ·rw [ag_ (Ne.symm ntd)]
   exact af_
  show bb_ 1 tr=[]++dp_ ([]++[(1,tr)]);rw [cF_];show _=bb_ 1 tr++[];rw [append_nil]) fun m σ H' hp=>?_)
 rw [hPv] at hp;obtain ⟨sm,dn,sk,dl,sl,z,z2,rfl,rfl,hf,ht,pd,ps,hfl⟩:=hp;simp! [tRet];by_cases hsk:sk=[]
 ·subst hsk
  cases ps;refine ⟨false,.inl ⟨_,SqL.of ht,rfl⟩,?_⟩;rw [if_neg (by simp)];rw [show dp_ []=[] from rfl,append_nil] at hfl;exact k fd dn H' sm hf (by rw [hfl];exact pd)
 refine ⟨true,.inl ⟨_,SqL.of ht,by cases sk with | nil=>exact absurd rfl hsk | cons _ _=>rfl⟩,?_⟩;rw [if_pos rfl];refine ⟨_,fun _ _ z=>z,?_⟩;obtain ⟨sk',it,sl',⟨d,t⟩,rfl,rfl,ps',hit⟩:=hQ_ ps hsk;obtain ⟨n,Fn,hitv,htn⟩:=hit;have hlens:dn.length<=10000/\sk'.length<=10000/\sk'.length+t.parts.length<=10000:=by
  have q1:=Paired.length pd;have q2:=Paired.length ps';have q3:=lb_ (sl'++(t.parts.reverse.map fun x=>(d+1,x)));rw [c2_,length_append,length_map,length_reverse] at q3;rw [hfl,length_append,cF_,length_append] at zp;have q4:bb_ d t=(d,t)::bT_ (d+1) t.parts:=by cases t;rfl
  rw [q4,length_cons] at zp;rw [length_append] at q3;omega
 obtain ⟨hl1,hl2,hl3⟩:=hlens;have ht':H' td=some (.lst (sk'.map V.ref++[.ref it])):=by rw [ht,map_append];rfl
 refine hH_ ?_;simp! [tBM0,rPop];refine ⟨.inl ⟨rfl,_,SqL.of ht⟩,_,ht',V.ref it,by simp,?_⟩;rw [List.dropLast_concat];have sx1:ay_ [td] H' (upd H' td (.lst (sk'.map V.ref))):=ay_.upd (mem_singleton.mpr rfl);have e1:upd H' td (.lst (sk'.map V.ref)) td=some (.lst (sk'.map V.ref)):=af_;generalize upd H' td (.lst (sk'.map V.ref))=H1 at sx1 e1 ⊢;have hf1:=sx1 _ _ (nin (Ne.symm ntf)) hf;refine hH_ ?_;simp! [tBM,cr_];refine ⟨.inl ⟨rfl,_,SqL.of hf1⟩,_,hf1,by rw [length_map];exact Nat.lt_of_le_of_lt hl1 (by decide),?_⟩;have sx2:ay_ [fd] H1 (upd H1 fd (.lst (dn.map V.ref++[.ref it]))):=ay_.upd (mem_singleton.mpr rfl);have e2:upd H1 fd (.lst (dn.map V.ref++[.ref it])) fd=some (.lst (dn.map V.ref++[.ref it])):=af_;have e12:=sx2 _ _ (nin ntf) e1;generalize upd H1 fd (.lst (dn.map V.ref++[.ref it]))=H2 at sx2 e2 e12 ⊢;have sx12:ay_ [fd,td] H' H2:=(sx1.more (by simp)).trans (sx2.more (by simp));have nt12 : ∀ x∈[fd,td],∃ l,H' x=some (.lst l):=fun x hx=>by
  rcases mem_cons.mp hx with rfl | hx
  ·exact ⟨_,hf⟩
  rw [mem_singleton.mp hx];exact ⟨_,ht⟩
 have pd2:Paired (cb_ J.C_d H H2) dn dl:=Paired.mapP pd fun _ _ q=>q.keep sx12 nt12;have ps2:Paired (cb_ J.C_d H H2) sk' sl':=Paired.mapP ps' fun _ _ q=>q.keep sx12 nt12;have it2:cb_ J.C_d H H2 it (d,t):=cb_.keep sx12 nt12 ⟨n,Fn,hitv,htn⟩;obtain ⟨n',Fn',hitv2,_⟩:=it2;have hn':n'=n:=by
  have:=sx12 _ _ (fun m=>by
   obtain ⟨l,q⟩:=nt12 _ m;rw [q] at hitv;cases hitv) hitv
  rw [this] at hitv2;cases hitv2;rfl
 subst hn';have sm2:Same H H2:=sx12.base sm (fun x hx=>by
  rcases mem_cons.mp hx with rfl | hx
  ·exact hfd
  rw [mem_singleton.mp hx];exact htd0)
 cases htn with
 | @mk _ dxn wl pl f ws b e as ps3 G t1 t2 t3 t4 =>
 have t1':=sm2 _ _ t1;have t3':=sm2 _ _ t3;refine bG_ ?_;simp! [iRev,tFld];refine ⟨_,SqT.of hitv2,_,rfl,_,rfl,_,_,_,t1',T.cl_d,T.n_bv,_,rfl,_,rfl,_,SqL.of t3',?_⟩;refine hm_ (as.map V.ref) (fun i σ H3=>(∃ z2,σ=[some (.ref a),some (.ref fd),some (.ref td),some (.ref it),z2])/\ay_ [td] H2 H3/\∃ nw,H3 td=some (.lst ((sk'++nw).map V.ref))/\Paired (cb_ J.C_d H H3) nw ((ps3.reverse.take i).map fun t=>(d+1,t)))
  ⟨⟨_,rfl⟩,fun _ _ _ q=>q,[],by rw [append_nil];exact e12,.nil⟩ (fun i σ H3 _ q=>SqL.of (q.2.1 _ _ (nin (ai_ t3 htd0)) t3')) (fun i x σ H3 hx q=>?_) fun σ H3 q=>?_
 ·obtain ⟨⟨z2,rfl⟩,sx3,nw,hnw,pnw⟩:=q
  have hit3:=sx3 _ _ (nin (dj_ hitv2 e12 (by intro z;cases z))) hitv2;rw [<- List.map_reverse,getElem?_map] at hx;cases qa:as.reverse[i]? with
  | none=>rw [qa] at hx;cases hx
  | some c =>
  rw [qa] at hx;cases hx;have hil:i<as.length:=by
   have:=(List.getElem?_eq_some_iff.mp qa).1;rw [length_reverse] at this;exact this
  have hal:=t4.length;rw [getElem?_reverse hil] at qa;obtain ⟨tc,Gc,hc1,hc2⟩:=t4.get qa;have hnl:nw.length=i:=by
   have:=Paired.length pnw;rw [length_map,length_take,length_reverse] at this;omega
  simp! [tSeq,tBM,cr_];refine ⟨.inl ⟨rfl,_,SqL.of hnw⟩,_,SqT.of hit3,_,rfl,_,rfl,by decide,fun q hq=>?_⟩;have s4:Same H3 (upd H3 q (.tup [.ref c,.int ((d:Int)+1)])):=Same.upd hq;have e4:upd H3 q (.tup [.ref c,.int ((d:Int)+1)]) q=some (.tup [.ref c,.int ((d:Int)+1)]):=af_;generalize upd H3 q (.tup [.ref c,.int ((d:Int)+1)])=H4 at s4 e4 ⊢;have hnw4:=s4 _ _ hnw;have sx5:ay_ [td] H4 (upd H4 td (.lst ((sk'++nw).map V.ref++[.ref q]))):=ay_.upd (mem_singleton.mpr rfl);have nt5 : ∀ x∈[td],∃ l,H4 x=some (.lst l):=fun x hx=>by rw [mem_singleton.mp hx];exact ⟨_,hnw4⟩
  refine ⟨_,hnw4,?_,sx3.trans ((ay_.of s4).trans sx5),nw++[q],?_,?_⟩
  ·rw [length_map,length_append]
   have:(Tr.mk f ws b e ps3).parts.length=ps3.length:=rfl;exact Nat.lt_of_le_of_lt (show _<=10000 by omega) (by decide)
  ·rw [<- append_assoc,map_append (l₁:=sk'++nw)]
   rfl
  have hr:ps3.reverse[i]? = some tc:=by rw [getElem?_reverse (by omega),<- hal];exact hc1
  rw [take_succ,hr,map_append (f:=fun t=>(d+1,t))];refine cU_ (Paired.mapP pnw fun _ _ q=>(q.keep (ay_.of (xs:=[]) s4) (by simp)).keep sx5 nt5) ?_;exact cb_.keep sx5 nt5 ⟨c,Gc,e4,hc2⟩
 obtain ⟨⟨z2,rfl⟩,sx3,nw,hnw,pnw⟩:=q;have hal:=t4.length;rw [length_map,hal,<- length_reverse,take_length] at pnw;have nt3 : ∀ x∈[td],∃ l,H2 x=some (.lst l):=fun x hx=>by rw [mem_singleton.mp hx];exact ⟨_,e12⟩
 refine ⟨(dp_ (sl'++(ps3.reverse.map fun t=>(d+1,t)))).length,?_,?_⟩
 ·rw [c2_,cF_]
  show _<((d,Tr.mk f ws b e ps3)::bT_ (d+1) ps3++dp_ sl').length;rw [cons_append,length_cons];exact lt_succ_self _
 rw [hPv];refine ⟨sx3.base sm2 (fun x hx=>by rw [mem_singleton.mp hx];exact htd0),dn++[it],sk'++nw,dl++[(d,.mk f ws b e ps3)],_,_,_,rfl,rfl,?_,hnw,?_,?_,?_⟩
 ·rw [sx3 _ _ (nin (Ne.symm ntf)) e2,map_append]
  rfl
 ·exact cU_ (Paired.mapP pd2 fun _ _ q=>q.keep sx3 nt3) (cb_.keep sx3 nt3 ⟨n',_,hitv2,.mk t1 t2 t3 t4⟩)
 ·exact jp_ (Paired.mapP ps2 fun _ _ q=>q.keep sx3 nt3) pnw
 rw [hfl,c2_,cF_,append_assoc];rfl
def iz_ (Cn C:Addr):Sp:=fun vs H Q E=>∃ (a:Addr) (tr:Tr) (F:List Addr),vs=[.ref a]/\TreeAt Cn H a tr F/\(bb_ 1 tr).length<=10000/\(match limT 0 (bb_ 1 tr) with
 | none=>∀ H',Same H H'->Q .non H'
 | some (k,b)=>ExF C E H (k:Int) (b:Int))
theorem ok_aA (T:TX w K mg J):FnOk P w K mg base (CX1 P w) 3 J.f_aA J.d_aA ["term"] (iz_ J.C_d J.C_c):=by
 refine T.F_aA.fn.okX sc_aA fun _ _ _ _ H _ Q E hr h=>?_;obtain ⟨a,tr,F,rfl,htr,zp,k⟩:=h;refine ⟨_,(ad_ (ez_ fl_ rfl (n7_ rfl T.b_enumerate (aa_ (aH_ T.F_L (ok_L T) hr.m ak_ (aa_ (pv 0) ab_)) ab_)) (ps_ rfl (iJ_ (pg_q 1 sc_aA.nd) (iJ_ (pg_q 2 sc_aA.nd) n8_))) (ac_ (aV_ (am_ hT_ (aM_ b7_ (pv 2) ah_ (fun _ _=>rfl)) (pe_g T.g_a9) (ar_ _)) (ad_ (bo_ T.X_c (ok_c T) hr.m rfl T.G_c T.b_q a8_ rfl (aa_ ah_ (aa_ (al_ (aM_ b7_ (pv 2) ah_ (fun _ _=>rfl)) rfl) ab_)))) aq_)
  (ad_ (aV_ (am_ bD_ (pv 1) (pe_g T.g_ba) (ar_ _)) (ad_ (bo_ T.X_c (ok_c T) hr.m rfl T.G_c T.b_q a8_ rfl (aa_ ah_ (aa_ (al_ (aM_ b7_ (pv 2) ah_ (fun _ _=>rfl)) rfl) ab_)))) aq_))))),?_⟩
 refine bG_ ?_;simp! [tSeq,dy_,pV_];refine ⟨tr,F,htr,zp,fun p items H1 s1 hp hit=>⟨_,SqL.of hp,?_⟩⟩;refine jG_ (items.map V.ref) (fun i σ H2=>Same H1 H2/\(∃ z1 z2,σ=[some (.ref a),z1,z2])/\limT 0 (bb_ 1 tr)=limT i ((bb_ 1 tr).drop i)) ⟨Same.refl _,⟨_,_,rfl⟩,rfl⟩ (fun i σ H2 _ q=>SqL.of (q.1 _ _ hp)) (fun i x σ H2 A hx q hA=>?_) fun σ H2 q=>?_
 ·obtain ⟨sm,⟨z1,z2,rfl⟩,hlim⟩:=q
  rw [getElem?_map] at hx;cases qa:items[i]? with
  | none=>rw [qa] at hx;cases hx
  | some it =>
  rw [qa] at hx;cases hx;obtain ⟨⟨d,t⟩,hd,n,G,hit1,htn⟩:=cD_ hit qa;have hdr:(bb_ 1 tr).drop i=(d,t)::(bb_ 1 tr).drop (i+1):=by
   obtain ⟨hlt,e⟩:=List.getElem?_eq_some_iff.mp hd;rw [drop_eq_getElem_cons hlt,e]
  rw [hdr] at hlim;have hlim':limT i ((d,t)::(bb_ 1 tr).drop (i+1))=if 40<d then some (8,t.b) else if i=300 then some (9,t.b) else limT (i+1) ((bb_ 1 tr).drop (i+1)):=rfl;rw [hlim'] at hlim;have s3:Same H2 (upd H2 A (.tup [.int (i:Nat),.ref it])):=Same.upd hA;have e3:upd H2 A (.tup [.int (i:Nat),.ref it]) A=some (.tup [.int (i:Nat),.ref it]):=af_;generalize upd H2 A (.tup [.int (i:Nat),.ref it])=H3 at s3 e3 ⊢;have sm3:=sm.trans s3;have hit3:=sm3 _ _ hit1;have htn3:=htn.same (s1.trans sm3);simp! [tSeq,gTup,pX_,gNil,cq_,tFld];have hnode : ∃ dxn f wl pl e,H3 n=some (.ins J.C_d dxn (di_ f wl pl (t.b:Int) e)):=by
   cases htn3 with
   | @mk _ dxn wl pl f ws b e as ps3 G t1 t2 t3 t4=>exact ⟨dxn,_,wl,pl,_,t1⟩
  obtain ⟨dxn,f,wl,pl,e,hn⟩:=hnode;refine ⟨_,SqT.of e3,rfl,_,_,rfl,_,_,rfl,rfl,_,rfl,_,SqT.of hit3,_,rfl,_,rfl,?_⟩;by_cases h40:40<d
  ·rw [if_pos h40] at hlim
   rw [hlim] at k;rw [if_pos (show (40:Int)<(d:Int) by omega)];exact ⟨_,rfl,_,SqT.of hit3,_,rfl,_,rfl,_,_,_,hn,T.cl_d,T.n_aT,_,rfl,by decide,bk_ (k.mono (s1.trans sm3))⟩
  rw [if_neg h40] at hlim;rw [if_neg (show ¬ (40:Int)<(d:Int) by omega)];refine ⟨rfl,?_⟩;by_cases h300:i=300
  ·rw [if_pos h300] at hlim
   rw [hlim] at k;rw [if_pos (by rw [h300];rfl)];exact ⟨_,rfl,_,SqT.of hit3,_,rfl,_,rfl,_,_,_,hn,T.cl_d,T.n_aT,_,rfl,by decide,bk_ (k.mono (s1.trans sm3))⟩
  rw [if_neg h300] at hlim;rw [if_neg (by simp only [V.int.injEq];omega)];exact ⟨sm3,hlim⟩
 obtain ⟨sm,⟨z1,z2,rfl⟩,hlim⟩:=q;have e1:items.length=(bb_ 1 tr).length:=Paired.length hit;rw [length_map,e1,drop_length] at hlim;rw [hlim] at k;exact k H2 (s1.trans sm)
def de_ (Cn:Addr) (xp:Term×List (Nat×Nat)) (v:V) (H:Hp):Prop:=∃ (b:Addr) (tr:Tr) (F:List Addr),v = .ref b/\Rep xp.1 tr/\TreeAt Cn H b tr F/\stT tr=xp.2/\(bb_ 1 tr).length<=300/\mK_ tr<=40/\GT xp.1
def nR_ (Cn C:Addr) (K:Frag):Sp:=fun vs H Q E=>∃ (a:Addr) (t:List Nat),vs=[.ref a]/\SqL K H a (bs t)/\t.length<=2000/\RES C H Q E (readSurface t) (de_ Cn)
theorem ok_al (T:TX w K mg J):FnOk P w K mg base (CX1 P w) 14 J.f_al J.d_al ["text"] (nR_ J.C_d J.C_c K):=by
 refine T.F_al.fn.okX sc_al fun _ _ _ _ H _ Q E hr h=>?_;obtain ⟨a,t,rfl,ht,hl,k⟩:=h;refine ⟨_,(ac_ (aC_ 1 sc_al.nd (bC_ T.M_i (ok_i T) hr.m rfl T.G_i T.b_G .nil ak_ (aa_ (bC_ T.M_k (ok_k T) hr.m rfl T.G_k T.b_D .nil ak_ (aa_ (aH_ T.F_aM (ok_aM T) hr.m aN_ (aa_ (pv 0) ab_)) (aa_ (aB_ aG_ rfl T.b_len PySem.boot_len (aa_ (pv 0) ab_)) ab_))) ab_)))
  (ac_ (cd_ fl_ (iD_ (al_ (pv 1) rfl) (fun _=>rfl)) (ad_ (bu_ (aH_ T.F_aN (kI_ T) hr.m aN_ (aa_ (pv 1) (aa_ (nj_ pla slp tlp nm_ (al_ (pv 1) rfl)) ab_))))))
  (ac_ (aC_ 2 sc_al.nd (al_ (aM_ aw_ (al_ (pv 1) rfl) ah_ (fun _ _=>rfl)) rfl))
  (ac_ (bu_ (aH_ T.F_aA (ok_aA T) hr.m aN_ (aa_ (pv 2) ab_)))
  (ad_ (aj_ (pv 2))))))),?_⟩
 refine hH_ ?_;simp! [gE_,db_];rw [cL_] at k;refine ⟨t,ht,by omega,?_⟩;cases qt:allTokens false t with
 | error e=>rw [qt] at k;exact k
 | ok l =>
 rw [qt] at k;intro v H1 s1 ⟨b,as,ev,hb,hto⟩;subst ev;obtain ⟨gts,ltk⟩:=dT_ _ _ _ _ (by omega) qt;have las:as.length=l.length:=Paired.length hto;have gE:Gd (Eo t.length l):=forall_mem_append.mpr ⟨fun k hk=>(gts k hk).1,allc (.inr rfl) all0⟩;obtain ⟨m0,hrun⟩:=e4_ gE (fun k hk=>(gts k hk).2) (n:=20 * l.length+40) (by omega);dsimp only at k;generalize e5_ t.length (20 * l.length+40) l=R at hrun k;refine ⟨bs t,.inl (s1.seq ht),?_⟩;rw [ck_];intro row dxr hrow0 hdxr hner;have sA:=aU_ (o1:=HO.own row) (o2:=HO.ins J.C_k dxr []) hrow0 hdxr;refine ⟨row,dxr,b,as,l,t.length,af_,sA _ _ hb,by omega,Paired.mapP hto fun _ _ z=>z.same sA,fun la H2 hla sx2 hr2=>⟨rfl,fun rd dx hrd hdx ndx=>?_⟩⟩;have s12:Same H1 H2:=sx2.base sA (fun x hx=>by rw [mem_singleton.mp hx];exact hrow0);have s02:=s1.trans s12;have sB:=aU_ (o1:=HO.own rd) (o2:=HO.ins J.C_i dx []) hrd hdx;refine ⟨rd,dx,row,rfl,af_,fun td tn H3 htd htn ntn sx3 e1 e2 e3=>⟨rfl,?_⟩⟩;have s23:Same H2 H3:=sx3.base sB (fun x hx=>by rw [mem_singleton.mp hx];exact hrd);have s03:=s02.trans s23;have n_row:=none_of s1 hrow0;have n_rd:=none_of s02 hrd;have n_td:=none_of (s02.trans sB) htd;have n_tn:=none_of (s02.trans sB) htn;have hr2':=hr2;obtain ⟨dxr2,asr,ir,r1,r2,r3⟩:=hr2';have atS:RdAt J.C_f J.C_g J.C_j J.C_d J.C_k J.C_i H3 rd row la td tn dx [] (j3_ t.length l) :=
  ⟨e1,e2,e3,.nil,hr2.same s23,ntn,ai_ (sB _ _ r2) htd,ai_ (sB _ _ r2) htn⟩
 obtain ⟨Pv,hPv⟩ : ∃ Pv:Nat->L2.St->Hp->Prop,Pv=fun m σ H'=>σ=[some (.ref a),some (.ref rd),none]/\Same H H'/\∃ tn as s,RdAt J.C_f J.C_g J.C_j J.C_d J.C_k J.C_i H' rd row la td tn dx as s/\SI (l.length+1) s/\Runs s R m/\H tn=none:=⟨_,rfl⟩;refine hH_ (cR_ Pv m0 (by rw [hPv];exact ⟨rfl,s03,tn,[],_,atS,SI.start gE,hrun,n_tn⟩) fun m σ H' hp=>?_);rw [hPv] at hp;obtain ⟨rfl,sm,tn,as,s,hs,hsi,hrn,htn0⟩:=hp;have ho:=hs.o;obtain ⟨m1,m2,m3,m4,m5,m6,m7⟩:=hs.nes;obtain ⟨sl1,sl2⟩:=hsi.len;obtain ⟨sd,sk,sa,sl⟩:=s;have ht':=hs.t;simp! [tFld,ho];refine ⟨T.cl_i,T.n_aY,_,rfl,?_⟩;cases sd with
 | cons d sd =>
  rw [ja_] at ht';refine ⟨true,.inl ⟨_,SqL.of ht',by simp⟩,?_⟩;rw [if_pos rfl];refine ⟨_,fun _ _ z=>z,?_⟩;simp! [tFld,tBM0,rPop,ho];refine ⟨T.cl_i,T.n_aY,_,rfl,.inl ⟨rfl,_,SqL.of ht'⟩,_,rfl,_,ht',V.str (ofString d.nm),by simp,?_⟩;rw [List.dropLast_concat];have su:ay_ [rd,td] H' (upd H' td (.lst (dsV sd))):=ay_.upd (by simp);have h4:=hs.todo su (l:=sd) (ar:=sa) (by rw [ag_ m1];exact ho) af_;have sm4:Same H (upd H' td (.lst (dsV sd))):=(ay_.upd (mem_singleton.mpr rfl)).base sm (fun x hx=>by rw [mem_singleton.mp hx];exact n_td);generalize upd H' td (.lst (dsV sd))=H4 at h4 sm4 ⊢;have hst : ∃ r,Stp ⟨d::sd,sk,sa,sl⟩ r/\(match r with
    | .error e=>R = .error e
    | .ok s'=>∃ m',m=m'+1/\Runs s' R m'):=by
   cases hrn with
   | bad h=>exact ⟨_,h,rfl⟩
   | go h h2=>exact ⟨_,h,_,rfl,h2⟩
  obtain ⟨r,hr1,hr2⟩:=hst;have hsd:sd.length<=900000:=by
   have:sd.length+1<=134+121 * (l.length+1):=sl1;omega
  refine ⟨rd,row,la,td,tn,dx,as,_,d,r,rfl,h4,hsi.d d (mem_cons_self ..),hsd,Nat.le_trans sl2 (by omega),hsi.o,hsi.g,hr1,?_⟩;cases r with
  | error e =>
   have e1:R = .error e:=hr2;rw [e1] at k;exact ExF.mono k sm4
  | ok s' =>
  obtain ⟨m',e1,h2⟩:=hr2
  rintro H5 tn' as' ⟨q1,q2⟩ h5
  refine ⟨m',by omega,?_⟩;rw [hPv];refine ⟨rfl,q1.base sm4 fun x hx=>?_,tn',as',s',h5,hsi.step hr1,h2,?_⟩
  ·simp only [mem_cons,not_mem_nil,or_false] at hx
   rcases hx with rfl | rfl | rfl | rfl <;> assumption
  rcases q2 with rfl | q2
  ·exact htn0
  exact none_of sm4 q2
 | nil =>
 refine ⟨false,.inl ⟨_,SqL.of ht',rfl⟩,?_⟩;rw [if_neg (by simp)];cases hrn with
 | bad h=>cases h
 | go h=>cases h
 | @done g sk' =>
 have hi:=hs.i;cases hi with
 | @cons p0 _ as' _ hp _ =>
 obtain ⟨dp,nd,hp1,tr,F,hrep,htree,hst⟩:=hp;have ex0:Same (ex [rd,td,tn,row] H') H':=be_ _ _;have hp1:=ex0 _ _ hp1;have htree:=htree.same ex0;have hgt:GT g.term:=hsi.o (.pc g) (mem_cons_self ..);have hsz:szX g.term<=10000:=by
  have q:szX g.term+1+wIs sk'+4 * sl.length<=4 * (l.length+1):=hsi.k;omega
 simp! [tSeq,tFld,iz_,ho];have hk2:H' tn=some (.lst ((p0::as').map V.ref)):=hs.k;refine ⟨T.cl_i,T.n_aP,_,rfl,_,rfl,_,SqL.of hk2,_,at0,_,rfl,_,_,_,hp1,T.cl_j,T.n_a7,_,rfl,nd,rfl,tr,F,htree,by rw [po_ hrep];exact hsz,?_⟩;have hlim:=iZ_ (bb_ 1 tr) 0;rw [fd_ hrep,j4_,hst] at hlim;dsimp only at k;cases qm:tooMuch 0 (depths 1 g.term) with
 | some y =>
  obtain ⟨kd,j⟩:=y;rw [qm] at hlim k;rw [hlim];dsimp only;rw [sub_zero,mD_];exact ExF.mono k sm
 | none =>
 rw [qm] at hlim k;obtain ⟨l1,l2⟩:=iY_ _ 0 (by decide) hlim;rw [hlim];intro H9 s9;refine k _ H9 (sm.trans s9) ⟨nd,tr,F,rfl,hrep,htree.same s9,hst,by omega,?_,hgt⟩;have:=ho_ 40 1 tr l1;omega
def ka_ (Cn:Addr):Sp:=fun vs H Q _=>∃ (x:Term×List (Nat×Nat)) (v:V) (i:Int),vs=[v,.int i]/\de_ Cn x v H/\(∀ s∈x.2,s.1<=s.2)/\∀ (p:Addr) (H':Hp),Same H H'->H' p=some (.lst ((whereAnswer i x.2).map V.int))->Q (.ref p) H'
theorem ok_ao (T:TX w K mg J):FnOk P w K mg base CX0 2 J.f_ao J.d_ao ["term","number"] (ka_ J.C_d):=by
 refine T.F_ao.fn.ok sc_ao fun _ _ _ _ H _ Q E hr h=>?_;obtain ⟨x,v,i,rfl,⟨a,tr,F,rfl,hrep,htr,hst,hfl,hdp,_⟩,hpl,k⟩:=h;refine ⟨_,(ac_ (aC_ 2 sc_ao.nd (aH_ T.F_L (ok_L T) hr.m ak_ (aa_ (pv 0) ab_)))
  (ac_ (aV_ (PW.pt (pw_or (am_ hS_ (pv 1) ah_ (ar_ _)) (pw_or1 (am_ of_ (pv 1) (aB_ aG_ rfl T.b_len PySem.boot_len (aa_ (pv 2) ab_)) (ar_ _))))) (ad_ (aj_ (ap_ (aa_ (pe_g T.g_bn) ab_)))) aq_)
  (ac_ (aC_ 3 sc_ao.nd (aM_ b7_ (aM_ aw_ (pv 2) (pv 1) (fun _ _=>rfl)) ah_ (fun _ _=>rfl)))
  (ad_ (aj_ (ap_ (aa_ ah_ (aa_ (al_ (pv 3) rfl) (aa_ (bt_ fm_ (al_ (pv 3) rfl) (al_ (pv 3) rfl)) ab_))))))))),?_⟩
 refine sgo ?_;simp! [dy_];refine ⟨tr,F,htr,by omega,fun p items H1 s1 hp hit=>?_⟩;have zp:items.length=x.2.length:=by rw [Paired.length hit,<- hst,fH_ 1 tr,length_map]
 refine sgo ?_;simp! [tRet];refine ite2 (fun h=>?_) fun h=>?_
 ·have e:whereAnswer i x.2=[-2]:=by unfold whereAnswer;rw [if_pos h]
  rw [e] at k;exact ⟨by decide,fun q hq=>k q _ (s1.trans (Same.upd hq)) af_⟩
 refine ⟨items.map V.ref,.inl (SqL.of hp),?_⟩;rw [length_map];refine ite2 (fun h2=>?_) fun h2=>?_
 ·have e:whereAnswer i x.2=[-2]:=by unfold whereAnswer;rw [if_neg h,List.getElem?_eq_none (by omega)]
  rw [e] at k;exact ⟨by decide,fun q hq=>k q _ (s1.trans (Same.upd hq)) af_⟩
 obtain ⟨n,rfl⟩ : ∃ n:Nat,i=n:=⟨i.toNat,by omega⟩;obtain ⟨it,qi⟩ : ∃ it,items[n]? = some it:=⟨_,getElem?_eq_getElem (by omega)⟩;obtain ⟨⟨d,t⟩,hd,nd,G,hit1,htn⟩:=cD_ hit qi;have hnode : ∃ dxn f wl pl,H1 nd=some (.ins J.C_d dxn (di_ f wl pl (t.b:Int) (t.e:Int))):=by
  cases htn.same s1 with
  | @mk _ dxn wl pl f ws b e as ps3 G t1 t2 t3 t4=>exact ⟨dxn,_,wl,pl,t1⟩
 obtain ⟨dxn,f,wl,pl,hn⟩:=hnode;have hs:x.2[n]? = some (t.b,t.e):=by rw [<- hst,fH_ 1 tr,getElem?_map,hd];rfl
 have le:=hpl _ (mem_of_getElem? hs);have e:whereAnswer (n:Int) x.2=[0,(t.b:Int),(t.e:Int) - (t.b:Int)]:=by
  unfold whereAnswer;rw [if_neg h,show ((n:Int)).toNat=n from rfl,hs];show [0,(t.b:Int),((t.e - t.b:Nat):Int)]=_;rw [Int.ofNat_sub le]
 rw [e] at k;refine sgo ?_;simp! [tRet];refine ⟨_,SqL.of hp,_,a0_ (by rw [getElem?_map,qi];rfl),it,rfl,_,SqT.of hit1,_,at0,?_⟩;simp! [tSeq,tFld,hn];exact ⟨T.cl_d,T.n_aT,_,rfl,T.cl_d,T.n_bw,_,rfl,T.cl_d,T.n_aT,_,rfl,_,rfl,_,rfl,by decide,fun q hq=>k q _ (s1.trans (Same.upd hq)) af_⟩
def qx_ (P:Program) (w:World) (K:Frag) (mg:zM) (base:Heap) (C f a:Addr) (t:List Nat) {A:Type} (res:Vaunid.Res A) (post:A->V->Hp->Prop):Prop:=∃ fd ps sp,FnOk P w K mg base (CX1 P w) 20 f fd ps sp/\aY_ K fd ps []/\keepIn K (.ref f)=true /\
 ∀ H Q E,SqL K H a (bs t)->RES C H Q E res post->sp [.ref a] H Q E
def AnsL (P:Program) (w:World) (K:Frag) (mg:zM) (base:Heap) (f:Addr) {A:Type} (res:Vaunid.Res A) (post:A->V->Hp->Prop) (ans:A->List Int):Prop:=∃ fd ps sp,FnOk P w K mg base CX0 20 f fd ps sp/\aY_ K fd ps []/\PySem.W.FnAt f base /\
 ∀ x v H Q E,res = .ok x->post x v H->(∀ (p:Addr) (H':Hp),Same H H'->H' p=some (.lst ((ans x).map V.int))->Q (.ref p) H')->sp [v] H Q E
def m7_ (P:Program) (w:World) (K:Frag) (mg:zM) (C:Addr) (base:Heap):Sp:=fun vs H Q _=>∃ (a f g:Addr) (t:List Nat) (A:Type) (res:Vaunid.Res A) (post:A->V->Hp->Prop) (ans:A->List Int),vs=[.ref a,.ref f,.ref g]/\SqL K H a (bs t) /\
 (t.length<=2000->qx_ P w K mg base C f a t res post/\AnsL P w K mg base g res post ans)/\∀ (p:Addr) (H':Hp),Same H H'->H' p=some (.lst ((if Vaunid.long t=true then [-1] else Vaunid.reading res ans).map V.int))->Q (.ref p) H'
theorem ok_an (T:TX w K mg J):FnOk P w K mg base CX0 21 J.f_an J.d_an ["text","reading","answering"] (m7_ P w K mg J.C_c base):=by
 refine T.F_an.fn.ok sc_an fun _ _ _ _ H _ Q E hr h=>?_;obtain ⟨a,f,g,t,A,res,post,ans,rfl,ht,hF,k⟩:=h;refine ⟨_,(ac_ (aV_ (am_ hT_ (aB_ aG_ rfl T.b_len PySem.boot_len (aa_ (pv 0) ab_)) (pe_g T.g_bl) (ar_ _)) (ad_ (aj_ (ap_ (aa_ (pe_g T.g_bm) ab_)))) aq_)
  (ac_ (pq_ (i:=4) (ts:=tRet (tLst (a1_ (lM_ K (tVar 4) "kind") (a1_ (lM_ K (tVar 4) "place") tNil)))) T.X_c rfl T.G_c (sc_an).nd rfl rfl rfl rfl
    (fun pn E' D hx=>ad_ (iE_ (i:=3) (sc_an).nd rfl (Or.inl rfl) (l8_ (P:=P) (w:=w) (K:=K) (mg:=mg) (base:=base) (CX:=CX1 P w) (k:=20) 1 (hr.mono (by decide)) hx (aa_ (pv 0) ab_))))
    (fun a=>ad_ (aj_ (ap_ (aa_ (kE_ (pv 4) rfl) (aa_ (kE_ (pv 4) rfl) ab_))))))
  (ad_ (aj_ (l6_ (CX:=CX0) (k:=20) 2 (hr.mono (by decide)) ak_ (aa_ (pv 3) ab_)))))),?_⟩
 simp! [tSeq,m0_,mZ_];refine ⟨bs t,.inl ht,?_⟩;rw [ck_];have elong:Vaunid.long t=decide (2000<t.length):=rfl;refine ite2 (fun h=>?_) fun h=>?_
 ·rw [elong,decide_eq_true (by omega)] at k
  exact ⟨by decide,fun p hp=>k p _ (Same.upd hp) af_⟩
 rw [elong,decide_eq_false (by omega)] at k;obtain ⟨⟨fd1,ps1,sp1,F1,b1,k1,r1⟩,⟨fd2,ps2,sp2,F2,b2,k2,r2⟩⟩:=hF (by omega);refine ⟨fd1,ps1,sp1,F1,b1,k1,r1 _ _ _ ht ?_⟩;cases res with
 | ok x =>
  intro v H' s' hp;exact ⟨fd2,ps2,sp2,F2,b2,k2,r2 x v H' _ _ rfl hp fun p H2 s2 e=>k p H2 (s'.trans s2) e⟩
 | error e =>
 intro dx H' s' hdx;refine ⟨rfl,fun ax dx' e1 hax=>?_⟩;cases e1;have hne:dx≠ax:=ai_ hdx hax;simp! [tSeq,lM_];have hd2:upd H' ax (XGot J.C_c ax dx) dx=some (XDic dx (lc_ (e.kind:Int) (e.place:Int))):=by rw [ag_ hne];exact hdx
 exact ⟨_,_,_,rfl,_,hd2,T.X_c,T.n_bt,_,rfl,_,_,_,rfl,_,hd2,T.X_c,T.n_bu,_,rfl,by decide,fun p hp=>k p _ (s'.trans ((Same.upd hax).trans (Same.upd hp))) af_⟩
theorem oC_ {ns:List Int} (h : ∀ n∈ns,0<=n/\n<=255):ns.map V.int=bs (ns.map Int.toNat):=by
 unfold bs;rw [map_map];refine List.map_congr_left fun n hn=>?_;show V.int n=V.int ((n.toNat:Nat):Int);rw [Int.toNat_of_nonneg (h n hn).1]
theorem nK_ {ns:List Int} (h : ∀ n∈ns,0<=n/\n<=255):VaunidNeutral.text? ns=some (ns.map Int.toNat):=by
 unfold VaunidNeutral.text?;rw [if_pos];unfold NeutralIO.bytes;exact all_eq_true.mpr fun n hn=>by have:=h n hn;simp;omega
theorem li_ {i:Int}{ns:List Int} (h : ∀ n∈ns,0<=n/\n<=255):PyVaunid.where_ i ns=if Vaunid.long (ns.map Int.toNat)=true then [-1] else Vaunid.reading (readSurface (ns.map Int.toNat)) fun x=>whereAnswer i x.2:=by
 have e:VaunidNeutral.callOf [[5,i],ns]=some (.where_ i (ns.map Int.toNat)):=by
  show (VaunidNeutral.text? ns).map _=_;rw [nK_ h];rfl
 unfold PyVaunid.where_ VaunidNeutral.step;rw [e];rfl
def hL_ (f:Int->List Int->List Int) (K:Frag) (Pt:Addr):Sp:=fun vs H Q _=>∃ (i:Int) (a:Addr) (ns:List Int),vs=[.int i,.ref a]/\H Pt=some (.tbl #[])/\SqL K H a (ns.map V.int)/\ns.length<=10000/\(∀ n∈ns,0<=n/\n<=255)/\∀ (H':Hp) (p:Addr),H' p=some (.lst ((f i ns).map V.int))->Q (.ref p) H'
def pi_ (Cn:Addr) (i:Int):Sp:=fun vs H Q _=>∃ (x:Term×List (Nat×Nat)) (v:V),vs=[v]/\de_ Cn x v H/\(∀ s∈x.2,s.1<=s.2)/\∀ (p:Addr) (H':Hp),Same H H'->H' p=some (.lst ((whereAnswer i x.2).map V.int))->Q (.ref p) H'
theorem ok_ (T:TX w K mg J) {cc Pt:Addr} (hC:PySem.W.CodeHd base cc Pt) (hbm:base.BuiltinsAt mg Pt) (hcc:J.d_m.code = .ref cc):FnOk P w K mg base CX0 22 J.f_m J.d_m ["node","text"] (hL_ PyVaunid.where_ K Pt):=by
 refine T.F_m.fn.okC hcc sc_m (fun A outer s H vs Q E hr h=>?_) fun _ _ _ _ ⟨_,_,_,e,_⟩=>by rw [e];rfl
 obtain ⟨i,a,ns,rfl,hP,ht,hl,hn,k⟩:=h;rw [oC_ hn] at ht;rw [li_ hn] at k;refine ⟨_,ad_ (aj_ (l9_ (sp:=m7_ P w K mg J.C_c) (i:=0) (fun base _=>ok_an (P:=P) (base:=base) T) hr rfl T.F_an.mg T.F_an.fn.kp T.F_an.b ak_ (pv 1) (pe_r T.F_al.mg) rfl hC hbm rfl rfl rfl)),?_⟩;dsimp only [tRet,m1_,tC];refine a6_ rfl ⟨hP,.int i,rfl,fun base' f ps m C=>?_⟩;refine ⟨a,_,f,ns.map Int.toNat,_,readSurface (ns.map Int.toNat),de_ J.C_d,_,rfl,pa_ hP ht,fun h2=>⟨?_,?_⟩,fun p H' _ e=>k H' p e⟩
 ·exact ⟨_,_,_,(ok_al T).mono (by decide),T.F_al.b,T.F_al.fn.kp,fun H Q E h1 h3=>⟨a,_,rfl,h1,h2,h3⟩⟩
 obtain ⟨fd,F,B,oc,od,sl,e⟩:=pZ_ (P:=P) (w:=w) (K:=K) (mg:=mg) (k:=2) (ps:=["term"]) (N:=["term","node"]) (sp:=pi_ J.C_d i) C ⟨rfl,rfl,rfl,by decide,by decide,mt_ (by left),rfl,rfl,ms_⟩ (fun _ _ _ _=>mr_ fun _=>rfl) (fun _ _ _ _ ⟨_,_,e,_⟩=>by rw [e];rfl) fun cd cl A outer s H vs Q E hr h=>by
  obtain ⟨x,v,rfl,hp,hpl,k⟩:=h;refine ⟨_,eB_ (ok_ao T) hr rfl T.F_ao.mg T.F_ao.fn.kp T.F_ao.b .nil ak_ (aa_ (pv 0) (aa_ (pv 1) ab_)),?_⟩;exact ⟨x,v,i,rfl,hp,hpl,k⟩
 exact ⟨fd,_,_,F.mono (by decide),B,⟨_,_,_,_,e⟩,fun x v H Q E er hp kk=>⟨x,v,rfl,hp,jh_ (by omega) er,kk⟩⟩
end
set_option maxHeartbeats 4000000
open PySem.W (Codec nsIn findIn)
def FnIn (K:Frag) (nm qual:Str) (st:Stmt) (f:Addr):Prop:=∃ (oc kV dc pm cd ct:Value) (od an:Option Addr) (sl:Array (Option Value)),K.lookup f=some ⟨oc,od,.func (fnOf nm qual (cx_ st) (bw_ st) (ae_ st) .none kV dc pm an cd ct),sl⟩/\codeIn K cd qual=true/\keepIn K (.ref f)=true
def FnAt (K:Frag) (nm:Str) (st:Stmt) (f:Addr):Prop:=PySem.W.nsIn K mainGlobals nm=some (some (.ref f))/\FnIn K nm nm st f
theorem FnIn.fn {K:Frag}{nm qual:Str}{st:Stmt}{f:Addr} (h:FnIn K nm qual st f) : ∃ d,Fun K nm qual st f d:=by
 obtain ⟨oc,kV,dc,pm,cd,ct,od,an,sl,l,c,k⟩:=h;exact ⟨_,nt_ l c k⟩
theorem mo {K:Frag}{h:Heap}{mg:zM} (X:K.In h) (G:h.Ns mainGlobals mg) {x:Str}{u:Value} (e:PySem.W.nsIn K mainGlobals x=some (some u)):mg x=some u:=PySem.W.mg_of X G e
theorem mn {K:Frag}{h:Heap}{mg:zM} (X:K.In h) (G:h.Ns mainGlobals mg) {x:Str} (e:PySem.W.nsIn K mainGlobals x=some none):mg x=none:=PySem.W.mg_none_of X G e
theorem ln0 {Q:List Value->Prop} (h:Q []) : ∀ us:List Value,us.length=0->Q us
 | [],_=>h
theorem lnS {n:Nat}{Q:List Value->Prop} (h : ∀ a us,us.length=n->Q (a::us)) : ∀ us:List Value,us.length=n+1->Q us
 | a::us,e=>h a us (Nat.succ.inj e)
theorem ln1 {Q:List Value->Prop} (h : ∀ a,Q [a]) : ∀ us:List Value,us.length=1->Q us:=lnS fun a=>ln0 (Q:=fun l=>Q (a::l)) (h a)
theorem ln2 {Q:List Value->Prop} (h : ∀ a b,Q [a,b]) : ∀ us:List Value,us.length=2->Q us:=lnS fun a=>ln1 (Q:=fun l=>Q (a::l)) (h a)
theorem ln3 {Q:List Value->Prop} (h : ∀ a b c,Q [a,b,c]) : ∀ us:List Value,us.length=3->Q us:=lnS fun a=>ln2 (Q:=fun l=>Q (a::l)) (h a)
theorem ln4 {Q:List Value->Prop} (h : ∀ a b c d,Q [a,b,c,d]) : ∀ us:List Value,us.length=4->Q us:=lnS fun a=>ln3 (Q:=fun l=>Q (a::l)) (h a)
theorem ln5 {Q:List Value->Prop} (h : ∀ a b c d e,Q [a,b,c,d,e]) : ∀ us:List Value,us.length=5->Q us:=lnS fun a=>ln4 (Q:=fun l=>Q (a::l)) (h a)
theorem ln6 {Q:List Value->Prop} (h : ∀ a b c d e f,Q [a,b,c,d,e,f]) : ∀ us:List Value,us.length=6->Q us:=lnS fun a=>ln5 (Q:=fun l=>Q (a::l)) (h a)
theorem _root_.Internal.L2.Fun.b {K:Frag}{x qual:Str}{st:Stmt}{f:Addr}{fd:FuncData}{ps:List Str} (F:Fun K x qual st f fd) (h : ∀ (kV doc pm:Value) (an:Option Addr) (cdv ct:Value) (us:List Value),us.length=ps.length->bindArgs (fnOf x qual (cx_ st) (bw_ st) (ae_ st) .none kV doc pm an cdv ct) ⟨us,[]⟩=pure (ps.zip us):=by
  intro _ _ _ _ _ _;first | exact ln1 fun _=>rfl | exact ln2 fun _ _=>rfl | exact ln3 fun _ _ _=>rfl | exact ln4 fun _ _ _ _=>rfl | exact ln5 fun _ _ _ _ _=>rfl | exact ln6 fun _ _ _ _ _ _=>rfl):aY_ K fd ps []:=F.binds h
noncomputable def FnIn.d {K:Frag}{nm qual:Str}{st:Stmt}{f:Addr} (h:FnIn K nm qual st f):FuncData:=h.fn.choose
theorem FnIn.F {K:Frag}{nm qual:Str}{st:Stmt}{f:Addr} (h:FnIn K nm qual st f):Fun K nm qual st f h.d:=h.fn.choose_spec
theorem FnAt.t {K:Frag}{h:Heap}{mg:zM}{x:Str}{st:Stmt}{f:Addr}{ps:List Str} (l:FnAt K x st f) (X:K.In h) (G:h.Ns mainGlobals mg) (q : ∀ (kV doc pm:Value) (an:Option Addr) (cdv ct:Value) (us:List Value),us.length=ps.length->bindArgs (fnOf x x (cx_ st) (bw_ st) (ae_ st) .none kV doc pm an cdv ct) ⟨us,[]⟩=pure (ps.zip us):=by
  intro _ _ _ _ _ _;first | exact ln1 fun _=>rfl | exact ln2 fun _ _=>rfl | exact ln3 fun _ _ _=>rfl | exact ln4 fun _ _ _ _=>rfl | exact ln5 fun _ _ _ _ _=>rfl | exact ln6 fun _ _ _ _ _ _=>rfl):FG K mg x st ps f l.2.d:=⟨mo X G l.1,l.2.F,l.2.F.b q⟩
theorem pJ_ {K:Frag}{C:Addr} (h:mroIn K C (.type "str")=some false):kitOne K (.ref C) (.type "str")=some false:=by
 unfold kitOne PySem.W.kitCls;rw [if_neg (by intro z;simp at z)];show (if PySem.W.kitMeta "str"=true then PySem.W.subIn K (.ref C) (.type "str") else none)=_;rw [if_pos (by left)];unfold PySem.W.subIn;exact h
theorem j5_ {K:Frag}{H:Hp}{a:Addr}{od:Option Addr}{zw:Array Value}{n:Nat}{sl:Array (Option Value)}{vs:List V} (l:K.lookup a=some ⟨.type "tuple",od,.seq zw n,sl⟩) (v:Vals vs zw.toList) (hs:vs.length<=sizeLine):SqT K H a vs :=
 .inr ⟨_,zw,n,l,rfl,rfl,by rw [<- Array.length_toList,<- L2.Vals.length v];exact hs,v⟩
set_option hygiene false
local macro_rules
 | `($x ^^^ $y) => `(nsIn K mainGlobals $x=some (some $y))
local macro_rules
 | `($x ||| $y) => `(findIn K (.ref $x) $y=some none)
set_option hygiene true
theorem qc_ {P:Program}{w:World}{K:W.Frag}{h:Heap}{mg:zM}{fa:Addr} (X:K.In h) (G:h.Ns mainGlobals mg) (hfa:mg "where"=some (.ref fa))
  {t_a9 t_ba t_bb t_aZ t_bc t_a0 t_bd t_be t_aS t_a1 t_a2 t_bf t_bg t_a3 t_bh t_bi t_bj t_a4 t_bk t_bl t_bm t_bn:Tok}{a_ap a_aq a_ar a_b ad_b_0 ad_b_1 ad_b_2 ad_b_3 ad_b_4 ad_b_5 ad_b_6 ad_b_7 ad_b_8 ad_b_9 ad_b_10 ad_b_11 ad_b_12 ad_b_13 ad_b_14 ad_b_15 ad_b_16 ad_b_17 ad_b_18 ad_b_19 ad_b_20 ad_b_21 ad_b_22 ad_b_23 ad_b_24 ad_b_25 ad_b_26 a_e ad_e_0 ad_e_1 ad_e_2 ad_e_3 ad_e_4 ad_e_5 ad_e_6 ad_e_7 ad_e_8 ad_e_9 ad_e_10 ad_e_11 ad_e_12 ad_e_13 ad_e_14 ad_e_15 ad_e_16 ad_e_17 ad_e_18 ad_e_19 ad_e_20 ad_e_21 ad_e_22 ad_e_23 C_c N_c C_d C_f C_g C_k C_j C_a C_i f_q f_C f_z f_v f_D f_o f_t f_w f_E f_F f_h f_l f_n f_p f_G f_L f_aA f_R f_u f_O f_S f_T f_as f_at f_s f_aK f_x f_aB f_U f_H f_au f_av f_aw f_ax f_aL f_aC f_P f_aM f_V f_Q f_aH f_ay f_az f_I f_aD f_aE f_M f_aF f_W f_X f_A f_Y f_Z f_aa f_ab f_N f_ac f_J f_ad f_y f_ae f_af f_ag f_ah f_r f_ai f_aj f_ak f_B f_K f_al f_aN f_aI f_aO f_aJ f_am f_aG f_m f_an f_ao:Addr}{od_ap od_aq od_ar dd_c od_m an_m:Option Addr}{its_ap its_aq its_ar:Array Value}{n_ap n_aq n_ar ep_b ep_e:Nat}{sl_ap sl_aq sl_ar sl_m:Array (Option Value)}{es_b es_e:Array DictEntry}{nm_c qq_c:Str}{bs_c sub_c:List Value}{sn_c:List Str}{ab_c:Bool}{col_c:Option Bool}{x0_c x1_c x2_c x3_c x5_c:Option Value}{oc_m kV_m dc_m pm_m cd_m ct_m:Value}
  (g_a9:"MOST_DEPTH" ^^^ (.int 40 t_a9)) (g_ba:"MOST_NODES" ^^^ (.int 300 t_ba)) (g_bb:"BLANK" ^^^ (.int 32 t_bb)) (g_aZ:"LINE_END" ^^^ (.int 10 t_aZ)) (g_bc:"COMMENT_BEGIN" ^^^ (.int 123 t_bc)) (g_a0:"COMMENT_END" ^^^ (.int 125 t_a0)) (g_bd:"MEASURE_BEGIN" ^^^ (.int 91 t_bd)) (g_be:"MEASURE_END" ^^^ (.int 93 t_be)) (g_ap:"FRACTION_SIGNS" ^^^ (.ref a_ap)) (l_ap:K.lookup a_ap=some ⟨.type "tuple",od_ap,.seq its_ap n_ap,sl_ap⟩) (v_ap:Vals [V.int 46,V.int 47] its_ap.toList) (g_aS:"FIRST_PRINTED" ^^^ (.int 32 t_aS)) (g_a1:"LAST_PRINTED" ^^^ (.int 126 t_a1)) (g_a2:"MOST_SIGNS" ^^^ (.int 12 t_a2)) (g_bf:"PRINTED" ^^^ (.str " !\"#$?&'()*+,-./0123456789:;<=>?@ABCDEFGHIJKLMNOPQRSTUVWXYZ[\\]^_`abcdefghijklmnopqrstuvwxyz{|}~" t_bf)) (g_aq:"TAKEN_WORDS" ^^^ (.ref a_aq)) (l_aq:K.lookup a_aq=some ⟨.type "tuple",od_aq,.seq its_aq n_aq,sl_aq⟩) (v_aq:Vals [V.str "fn",V.str "let",V.str "rec",V.str "if",V.str "cons",V.str "case",V.str "pair",V.str "fst",V.str "snd",V.str "fold",V.str "root",V.str "floor",V.str "rest",V.str "true",V.str "false",V.str "nil",V.str "truth",V.str "num",V.str "list",V.str "base",V.str "unit",V.str "def",V.str "fun",V.str "in",V.str "then",V.str "else",V.str "match",V.str "with",V.str "and",V.str "or",V.str "not"] its_aq.toList) (g_bg:"MOST_DIGITS" ^^^ (.int 12 t_bg)) (g_a3:"FIRST_TOO_GREAT" ^^^ (.int 1000000000000 t_a3)) (g_bh:"MOST_POWER_DIGITS" ^^^ (.int 2 t_bh)) (g_bi:"WORD_GROUP" ^^^ (.int 0 t_bi)) (g_bj:"NUMBER_GROUP" ^^^ (.int 1 t_bj)) (g_a4:"SIGN_GROUP" ^^^ (.int 2 t_a4)) (g_ar:"SURFACE_SIGNS" ^^^ (.ref a_ar)) (l_ar:K.lookup a_ar=some ⟨.type "tuple",od_ar,.seq its_ar n_ar,sl_ar⟩) (v_ar:Vals [V.str "->",V.str "::",V.str "<=",V.str ">=",V.str "<>",V.str "|",V.str "<",V.str ">",V.str "=",V.str "+",V.str "-",V.str "*",V.str "/",V.str "^",V.str "(",V.str ")",V.str "[",V.str "]",V.str ","] its_ar.toList) (g_b:"RULES" ^^^ (.ref a_b)) (l_b:K.lookup a_b=some { cls := .type "dict",data := .dict es_b ep_b }) (p_b:Paired (dM_ w) [("EXPRESSION",V.ref ad_b_0),("NAMES",V.ref ad_b_1),("LET NAMES",V.ref ad_b_2),("OR",V.ref ad_b_3),("OR REST",V.ref ad_b_4),("AND",V.ref ad_b_5),("AND REST",V.ref ad_b_6),("NOT",V.ref ad_b_7),("COMPARE",V.ref ad_b_8),("COMPARE REST",V.ref ad_b_9),("CONSING",V.ref ad_b_10),("CONSING REST",V.ref ad_b_11),("SUM",V.ref ad_b_12),("SUM REST",V.ref ad_b_13),("PRODUCT",V.ref ad_b_14),("PRODUCT REST",V.ref ad_b_15),("POWER",V.ref ad_b_16),("POWER REST",V.ref ad_b_17),("EXPONENT",V.ref ad_b_18),("APPLY",V.ref ad_b_19),("APPLY REST",V.ref ad_b_20),("HEAD",V.ref ad_b_21),("NUMBER",V.ref ad_b_22),("ATOM",V.ref ad_b_23),("BRACKET REST",V.ref ad_b_24),("LIST",V.ref ad_b_25),("LIST REST",V.ref ad_b_26)] es_b.toList) (z_b:(a_b == sysModules)=false) (_:aS_ K ad_b_0 (ways .expr)) (_:aS_ K ad_b_1 (ways .names)) (_:aS_ K ad_b_2 (ways .letN)) (_:aS_ K ad_b_3 (ways .or_)) (_:aS_ K ad_b_4 (ways .orR)) (_:aS_ K ad_b_5 (ways .and_)) (_:aS_ K ad_b_6 (ways .andR)) (_:aS_ K ad_b_7 (ways .not_)) (_:aS_ K ad_b_8 (ways .cmp)) (_:aS_ K ad_b_9 (ways .cmpR)) (_:aS_ K ad_b_10 (ways .cons)) (_:aS_ K ad_b_11 (ways .consR)) (_:aS_ K ad_b_12 (ways .sum)) (_:aS_ K ad_b_13 (ways .sumR)) (_:aS_ K ad_b_14 (ways .prod)) (_:aS_ K ad_b_15 (ways .prodR)) (_:aS_ K ad_b_16 (ways .pow)) (_:aS_ K ad_b_17 (ways .powR)) (_:aS_ K ad_b_18 (ways .expo)) (_:aS_ K ad_b_19 (ways .app)) (_:aS_ K ad_b_20 (ways .appR)) (_:aS_ K ad_b_21 (ways .head)) (_:aS_ K ad_b_22 (ways .num)) (_:aS_ K ad_b_23 (ways .atom)) (_:aS_ K ad_b_24 (ways .brR)) (_:aS_ K ad_b_25 (ways .list)) (_:aS_ K ad_b_26 (ways .listR)) (g_e:"MAKERS" ^^^ (.ref a_e)) (l_e:K.lookup a_e=some { cls := .type "dict",data := .dict es_e ep_e }) (p_e:Paired (dM_ w) [("make fun",V.ref ad_e_0),("make rec",V.ref ad_e_1),("make let",V.ref ad_e_2),("make if",V.ref ad_e_3),("make match",V.ref ad_e_4),("make or",V.ref ad_e_5),("make and",V.ref ad_e_6),("make not",V.ref ad_e_7),("make compare",V.ref ad_e_8),("make consing",V.ref ad_e_9),("make sum",V.ref ad_e_10),("make product",V.ref ad_e_11),("make power",V.ref ad_e_12),("make minus power",V.ref ad_e_13),("make apply",V.ref ad_e_14),("make minus number",V.ref ad_e_15),("make word of one",V.ref ad_e_16),("make word of two",V.ref ad_e_17),("make word of three",V.ref ad_e_18),("make name",V.ref ad_e_19),("make number",V.ref ad_e_20),("make truth",V.ref ad_e_21),("make bracket",V.ref ad_e_22),("make list",V.ref ad_e_23)] es_e.toList) (z_e:(a_e == sysModules)=false) (_:aL_ K ad_e_0 (.inr "fun") f_W) (_:aL_ K ad_e_1 (.inr "rec") f_X) (_:aL_ K ad_e_2 (.inr "let") f_A) (_:aL_ K ad_e_3 (.inl 6) f_Y) (_:aL_ K ad_e_4 (.inl 13) f_Z) (_:aL_ K ad_e_5 (.inl 3) f_aa) (_:aL_ K ad_e_6 (.inl 3) f_ab) (_:aL_ K ad_e_7 (.inl 2) f_ac) (_:aL_ K ad_e_8 (.inl 3) f_J) (_:aL_ K ad_e_9 (.inl 3) f_ad) (_:aL_ K ad_e_10 (.inl 3) f_y) (_:aL_ K ad_e_11 (.inl 3) f_y) (_:aL_ K ad_e_12 (.inl 3) f_ae) (_:aL_ K ad_e_13 (.inl 4) f_af) (_:aL_ K ad_e_14 (.inl 2) f_ag) (_:aL_ K ad_e_15 (.inl 2) f_ah) (_:aL_ K ad_e_16 (.inl 2) f_r) (_:aL_ K ad_e_17 (.inl 3) f_r) (_:aL_ K ad_e_18 (.inl 4) f_r) (_:aL_ K ad_e_19 (.inl 1) f_ai) (_:aL_ K ad_e_20 (.inl 1) f_aj) (_:aL_ K ad_e_21 (.inl 1) f_ak) (_:aL_ K ad_e_22 (.inr "(") f_B) (_:aL_ K ad_e_23 (.inr "[") f_K) (g_bk:"MOST_OUTER_EXPRESSIONS" ^^^ (.int 39 t_bk)) (g_bl:"MOST_BYTES" ^^^ (.int 2000 t_bl)) (g_bm:"TEXT_TOO_LONG" ^^^ (.int (-1) t_bm)) (g_bn:"NOT_THERE" ^^^ (.int (-2) t_bn)) (b_all:nsIn K mainGlobals "all"=some none) (b_enumerate:nsIn K mainGlobals "enumerate"=some none) (b_int:nsIn K mainGlobals "int"=some none) (b_isinstance:nsIn K mainGlobals "isinstance"=some none) (b_len:nsIn K mainGlobals "len"=some none) (b_max:nsIn K mainGlobals "max"=some none) (b_ord:nsIn K mainGlobals "ord"=some none) (b_reversed:nsIn K mainGlobals "reversed"=some none) (b_str:nsIn K mainGlobals "str"=some none) (G_c:"Fault" ^^^ (.ref C_c)) (a_q:findIn K (.ref C_c) "__init__"=some (some (.ref f_q))) (i_q:W.isFn K (.ref f_q)=true) (l_q:FnIn K "__init__" "Fault.__init__" s_q f_q) (kc_c:W.keepIn K (.ref C_c)=true) (hd_c:W.hasDictIn K C_c=true) (sa_c:findIn K (.ref C_c) "__setattr__"=some (some (.builtin "object.__setattr__"))) (lx_c:K.lookup C_c=some (excClassObj nm_c qq_c C_c N_c bs_c cP_ true sn_c sub_c ab_c col_c dd_c x0_c x1_c x2_c x3_c x5_c "Exception.__new__")) (ga_c:findIn K (.ref C_c) "__getattribute__"=some (some (.builtin "BaseException.__getattribute__"))) (gn_c:C_c ||| "__getattr__") (n_bt:C_c ||| "kind") (n_bu:C_c ||| "place") (G_d:"Node" ^^^ (.ref C_d)) (a_C:findIn K (.ref C_d) "__init__"=some (some (.ref f_C))) (i_C:W.isFn K (.ref f_C)=true) (l_C:FnIn K "__init__" "Node.__init__" s_C f_C) (kc_d:W.keepIn K (.ref C_d)=true) (hd_d:W.hasDictIn K C_d=true) (sa_d:findIn K (.ref C_d) "__setattr__"=some (some (.builtin "object.__setattr__"))) (pg_d:W.plainGet K C_d Str.empty=true) (po_d:W.plainOver K C_d=true) (mk_d:W.makesIn K C_d=true) (y1_d:findIn K (.ref C_d) "__class__"=some (some (.builtin "object.__class__"))) (y2_d:W.specialIn K (.builtin "object.__class__") "__get__"=some (some (.builtin "getset_descriptor.__get__"))) (y3_d:W.takesIn K (.builtin "object.__class__")=some true) (y4_d:W.mroIn K C_d (.type "object")=some true) (y5_d:W.mroIn K C_d (.type "str")=some false) (n_bA:C_d ||| "form") (n_bB:C_d ||| "words") (n_bv:C_d ||| "parts") (n_aT:C_d ||| "begin") (n_bw:C_d ||| "end") (G_f:"Amount" ^^^ (.ref C_f)) (a_z:findIn K (.ref C_f) "__init__"=some (some (.ref f_z))) (i_z:W.isFn K (.ref f_z)=true) (l_z:FnIn K "__init__" "Amount.__init__" s_z f_z) (kc_f:W.keepIn K (.ref C_f)=true) (hd_f:W.hasDictIn K C_f=true) (sa_f:findIn K (.ref C_f) "__setattr__"=some (some (.builtin "object.__setattr__"))) (pg_f:W.plainGet K C_f Str.empty=true) (po_f:W.plainOver K C_f=true) (mk_f:W.makesIn K C_f=true) (n_aU:C_f ||| "over") (n_aV:C_f ||| "under") (n_a5:C_f ||| "measure") (G_g:"Token" ^^^ (.ref C_g)) (a_v:findIn K (.ref C_g) "__init__"=some (some (.ref f_v))) (i_v:W.isFn K (.ref f_v)=true) (l_v:FnIn K "__init__" "Token.__init__" s_v f_v) (kc_g:W.keepIn K (.ref C_g)=true) (hd_g:W.hasDictIn K C_g=true) (sa_g:findIn K (.ref C_g) "__setattr__"=some (some (.builtin "object.__setattr__"))) (pg_g:W.plainGet K C_g Str.empty=true) (po_g:W.plainOver K C_g=true) (mk_g:W.makesIn K C_g=true) (n_bC:C_g ||| "group") (n_aQ:C_g ||| "kind") (n_aW:C_g ||| "begin") (n_bo:C_g ||| "end") (n_bp:C_g ||| "content") (G_k:"Row" ^^^ (.ref C_k)) (a_D:findIn K (.ref C_k) "__init__"=some (some (.ref f_D))) (i_D:W.isFn K (.ref f_D)=true) (l_D:FnIn K "__init__" "Row.__init__" s_D f_D) (a_o:findIn K (.ref C_k) "upcoming"=some (some (.ref f_o))) (i_o:W.isFn K (.ref f_o)=true) (l_o:FnIn K "upcoming" "Row.upcoming" s_o f_o) (a_t:findIn K (.ref C_k) "take"=some (some (.ref f_t))) (i_t:W.isFn K (.ref f_t)=true) (l_t:FnIn K "take" "Row.take" s_t f_t) (a_w:findIn K (.ref C_k) "take_kind"=some (some (.ref f_w))) (i_w:W.isFn K (.ref f_w)=true) (l_w:FnIn K "take_kind" "Row.take_kind" s_w f_w) (kc_k:W.keepIn K (.ref C_k)=true) (hd_k:W.hasDictIn K C_k=true) (sa_k:findIn K (.ref C_k) "__setattr__"=some (some (.builtin "object.__setattr__"))) (pg_k:W.plainGet K C_k Str.empty=true) (po_k:W.plainOver K C_k=true) (mk_k:W.makesIn K C_k=true) (n_bx:C_k ||| "ahead") (n_bq:C_k ||| "index") (G_j:"Piece" ^^^ (.ref C_j)) (a_E:findIn K (.ref C_j) "__init__"=some (some (.ref f_E))) (i_E:W.isFn K (.ref f_E)=true) (l_E:FnIn K "__init__" "Piece.__init__" s_E f_E) (kc_j:W.keepIn K (.ref C_j)=true) (hd_j:W.hasDictIn K C_j=true) (sa_j:findIn K (.ref C_j) "__setattr__"=some (some (.builtin "object.__setattr__"))) (pg_j:W.plainGet K C_j Str.empty=true) (po_j:W.plainOver K C_j=true) (mk_j:W.makesIn K C_j=true) (n_a6:C_j ||| "kind") (n_a7:C_j ||| "node") (n_by:C_j ||| "begin") (n_bz:C_j ||| "end") (G_a:"Use" ^^^ (.ref C_a)) (a_F:findIn K (.ref C_a) "__init__"=some (some (.ref f_F))) (i_F:W.isFn K (.ref f_F)=true) (l_F:FnIn K "__init__" "Use.__init__" s_F f_F) (a_h:findIn K (.ref C_a) "make"=some (some (.ref f_h))) (i_h:W.isFn K (.ref f_h)=true) (l_h:FnIn K "make" "Use.make" s_h f_h) (a_l:findIn K (.ref C_a) "part"=some (some (.ref f_l))) (i_l:W.isFn K (.ref f_l)=true) (l_l:FnIn K "part" "Use.part" s_l f_l) (a_n:findIn K (.ref C_a) "parts_within"=some (some (.ref f_n))) (i_n:W.isFn K (.ref f_n)=true) (l_n:FnIn K "parts_within" "Use.parts_within" s_n f_n) (a_p:findIn K (.ref C_a) "names_within"=some (some (.ref f_p))) (i_p:W.isFn K (.ref f_p)=true) (l_p:FnIn K "names_within" "Use.names_within" s_p f_p) (kc_a:W.keepIn K (.ref C_a)=true) (hd_a:W.hasDictIn K C_a=true) (sa_a:findIn K (.ref C_a) "__setattr__"=some (some (.builtin "object.__setattr__"))) (pg_a:W.plainGet K C_a Str.empty=true) (po_a:W.plainOver K C_a=true) (mk_a:W.makesIn K C_a=true) (n_aR:C_a ||| "taken") (n_br:C_a ||| "begin") (n_bs:C_a ||| "end") (G_i:"Reader" ^^^ (.ref C_i)) (a_G:findIn K (.ref C_i) "__init__"=some (some (.ref f_G))) (i_G:W.isFn K (.ref f_G)=true) (l_G:FnIn K "__init__" "Reader.__init__" s_G f_G) (kc_i:W.keepIn K (.ref C_i)=true) (hd_i:W.hasDictIn K C_i=true) (sa_i:findIn K (.ref C_i) "__setattr__"=some (some (.builtin "object.__setattr__"))) (pg_i:W.plainGet K C_i Str.empty=true) (po_i:W.plainOver K C_i=true) (mk_i:W.makesIn K C_i=true) (n_aX:C_i ||| "row") (n_aY:C_i ||| "todo") (n_aP:C_i ||| "taken") (n_a8:C_i ||| "around") (l_L:FnAt K "numbered" s_L f_L) (l_aA:FnAt K "check_limits" s_aA f_aA) (l_R:FnAt K "is_letter" s_R f_R) (l_u:FnAt K "is_digit" s_u f_u) (l_O:FnAt K "is_in_word" s_O f_O) (l_S:FnAt K "is_short_word" s_S f_S) (l_T:FnAt K "is_space" s_T f_T) (l_as:FnAt K "is_in_comment" s_as f_as) (l_at:FnAt K "is_before_measure_end" s_at f_at) (l_s:FnAt K "run_end" s_s f_s) (l_aK:FnAt K "sign_of" s_aK f_aK) (l_x:FnAt K "signs_of" s_x f_x) (l_aB:FnAt K "number_end" s_aB f_aB) (l_U:FnAt K "fraction_of" s_U f_U) (l_H:FnAt K "lowest" s_H f_H) (l_au:FnAt K "common_divisor" s_au f_au) (l_av:FnAt K "is_measure" s_av f_av) (l_aw:FnAt K "is_factor" s_aw f_aw) (l_ax:FnAt K "is_power" s_ax f_ax) (l_aL:FnAt K "measured" s_aL f_aL) (l_aC:FnAt K "negated" s_aC f_aC) (l_P:FnAt K "amount_text" s_P f_P) (l_aM:FnAt K "surface_tokens" s_aM f_aM) (l_V:FnAt K "tokens_between" s_V f_V) (l_Q:FnAt K "surface_gap_end" s_Q f_Q) (l_aH:FnAt K "comment_end" s_aH f_aH) (l_ay:FnAt K "surface_token" s_ay f_ay) (l_az:FnAt K "word_token" s_az f_az) (l_I:FnAt K "number_token" s_I f_I) (l_aD:FnAt K "measure_at" s_aD f_aD) (l_aE:FnAt K "sign_token" s_aE f_aE) (l_M:FnAt K "functions" s_M f_M) (l_aF:FnAt K "recursive" s_aF f_aF) (l_W:FnAt K "make_fun" s_W f_W) (l_X:FnAt K "make_rec" s_X f_X) (l_A:FnAt K "make_let" s_A f_A) (l_Y:FnAt K "make_if" s_Y f_Y) (l_Z:FnAt K "make_match" s_Z f_Z) (l_aa:FnAt K "make_or" s_aa f_aa) (l_ab:FnAt K "make_and" s_ab f_ab) (l_N:FnAt K "opposite" s_N f_N) (l_ac:FnAt K "make_not" s_ac f_ac) (l_J:FnAt K "make_compare" s_J f_J) (l_ad:FnAt K "make_consing" s_ad f_ad) (l_y:FnAt K "make_between" s_y f_y) (l_ae:FnAt K "make_power" s_ae f_ae) (l_af:FnAt K "make_minus_power" s_af f_af) (l_ag:FnAt K "make_apply" s_ag f_ag) (l_ah:FnAt K "make_minus_number" s_ah f_ah) (l_r:FnAt K "make_word" s_r f_r) (l_ai:FnAt K "make_name" s_ai f_ai) (l_aj:FnAt K "make_number" s_aj f_aj) (l_ak:FnAt K "make_truth" s_ak f_ak) (l_B:FnAt K "make_bracket" s_B f_B) (l_K:FnAt K "make_list" s_K f_K) (l_al:FnAt K "surface_term" s_al f_al) (l_aN:FnAt K "go_on" s_aN f_aN) (l_aI:FnAt K "begin_rule" s_aI f_aI) (l_aO:FnAt K "enter_expression" s_aO f_aO) (l_aJ:FnAt K "path_of" s_aJ f_aJ) (l_am:FnAt K "make_piece" s_am f_am) (l_aG:FnAt K "first_taken" s_aG f_aG) (a_m:"where" ^^^ (.ref f_m)) (l_m:K.lookup f_m=some ⟨oc_m,od_m,.func (W.fnOf "where" "where" (cx_ s_m) (bw_ s_m) (ae_ s_m) .none kV_m dc_m pm_m an_m cd_m ct_m),sl_m⟩) (c_where:W.codeIn K cd_m "where"=true) (k_m:W.keepIn K (.ref f_m)=true) (l_an:FnAt K "answered" s_an f_an) (l_ao:FnAt K "stretch_answer" s_ao f_ao)
  : ∃ fd:FuncData,(∀ (s:Shared) (us:List Value),us.length=(["node","text"]:List Str).length->BindsTo s fd ⟨us,[]⟩ ((["node","text"]:List Str).zip us))/\(∃ oc od sl,K.lookup fa=some ⟨oc,od,.func fd,sl⟩)/\∀ (base:Heap) (cc Pt:Addr),fd.code = .ref cc->K.In base->base.Ns mainGlobals mg->W.CodeHd base cc Pt->base.BuiltinsAt mg Pt->FnOk P w K mg base CX0 22 fa fd ["node","text"] (hL_ PyVaunid.where_ K Pt):=by
 have F_m:=nt_ (st:=s_m) l_m c_where k_m;have T:=(⟨⟨_,mo X G g_a9,_,rfl⟩,⟨_,mo X G g_ba,_,rfl⟩,⟨_,mo X G g_bb,_,rfl⟩,⟨_,mo X G g_aZ,_,rfl⟩,⟨_,mo X G g_bc,_,rfl⟩,⟨_,mo X G g_a0,_,rfl⟩,⟨_,mo X G g_bd,_,rfl⟩,⟨_,mo X G g_be,_,rfl⟩,mo X G g_ap,fun _=>j5_ l_ap v_ap (by show 2<=sizeLine;decide),⟨_,mo X G g_aS,_,rfl⟩,⟨_,mo X G g_a1,_,rfl⟩,⟨_,mo X G g_a2,_,rfl⟩,⟨_,mo X G g_bf,_,rfl⟩,mo X G g_aq,fun _=>j5_ l_aq v_aq (by show 31<=sizeLine;decide),⟨_,mo X G g_bg,_,rfl⟩,⟨_,mo X G g_a3,_,rfl⟩,⟨_,mo X G g_bh,_,rfl⟩,⟨_,mo X G g_bi,_,rfl⟩,⟨_,mo X G g_bj,_,rfl⟩,⟨_,mo X G g_a4,_,rfl⟩,mo X G g_ar,fun _=>j5_ l_ar v_ar (by show 19<=sizeLine;decide),mo X G g_b,lX_ (adR [ad_b_0,ad_b_1,ad_b_2,ad_b_3,ad_b_4,ad_b_5,ad_b_6,ad_b_7,ad_b_8,ad_b_9,ad_b_10,ad_b_11,ad_b_12,ad_b_13,ad_b_14,ad_b_15,ad_b_16,ad_b_17,ad_b_18,ad_b_19,ad_b_20,ad_b_21,ad_b_22,ad_b_23,ad_b_24,ad_b_25,ad_b_26]) l_b p_b z_b fun r=>by cases r <;> assumption,mo X G g_e,⟨_,mo X G g_bk,_,rfl⟩,⟨_,mo X G g_bl,_,rfl⟩,⟨_,mo X G g_bm,_,rfl⟩,⟨_,mo X G g_bn,_,rfl⟩,mn X G b_all,mn X G b_enumerate,mn X G b_int,mn X G b_isinstance,mn X G b_len,mn X G b_max,mn X G b_ord,mn X G b_reversed,mn X G b_str,mo X G G_c,l_q.F,l_q.F.b,nD_ lx_c a_q i_q kc_c ga_c gn_c sa_c hd_c,n_bt,n_bu,mo X G G_d,l_C.F,l_C.F.b,⟨pg_d,hd_d,po_d,sa_d⟩,⟨mk_d,a_C,i_C,kc_d⟩,⟨y1_d,y2_d,y3_d,y4_d,pJ_ y5_d⟩,n_bA,n_bB,n_bv,n_aT,n_bw,mo X G G_f,l_z.F,l_z.F.b,⟨pg_f,hd_f,po_f,sa_f⟩,⟨mk_f,a_z,i_z,kc_f⟩,n_aU,n_aV,n_a5,mo X G G_g,l_v.F,l_v.F.b,⟨pg_g,hd_g,po_g,sa_g⟩,⟨mk_g,a_v,i_v,kc_g⟩,n_bC,n_aQ,n_aW,n_bo,n_bp,mo X G G_k,l_D.F,l_D.F.b,l_o.F,l_o.F.b,⟨a_o,i_o,l_o.F.kp⟩,l_t.F,l_t.F.b,⟨a_t,i_t,l_t.F.kp⟩,l_w.F,l_w.F.b,⟨a_w,i_w,l_w.F.kp⟩,⟨pg_k,hd_k,po_k,sa_k⟩,⟨mk_k,a_D,i_D,kc_k⟩,n_bx,n_bq,mo X G G_j,l_E.F,l_E.F.b,⟨pg_j,hd_j,po_j,sa_j⟩,⟨mk_j,a_E,i_E,kc_j⟩,n_a6,n_a7,n_by,n_bz,mo X G G_a,l_F.F,l_F.F.b,l_h.F,l_h.F.b,⟨a_h,i_h,l_h.F.kp⟩,l_l.F,l_l.F.b,⟨a_l,i_l,l_l.F.kp⟩,l_n.F,l_n.F.b,⟨a_n,i_n,l_n.F.kp⟩,l_p.F,l_p.F.b,⟨a_p,i_p,l_p.F.kp⟩,⟨pg_a,hd_a,po_a,sa_a⟩,⟨mk_a,a_F,i_F,kc_a⟩,n_aR,n_br,n_bs,mo X G G_i,l_G.F,l_G.F.b,⟨pg_i,hd_i,po_i,sa_i⟩,⟨mk_i,a_G,i_G,kc_i⟩,n_aX,n_aY,n_aP,n_a8,l_L.t X G,l_aA.t X G,l_R.t X G,l_u.t X G,l_O.t X G,l_S.t X G,l_T.t X G,l_as.t X G,l_at.t X G,l_s.t X G,l_aK.t X G,l_x.t X G,l_aB.t X G,l_U.t X G,l_H.t X G,l_au.t X G,l_av.t X G,l_aw.t X G,l_ax.t X G,l_aL.t X G,l_aC.t X G,l_P.t X G,l_aM.t X G,l_V.t X G,l_Q.t X G,l_aH.t X G,l_ay.t X G,l_az.t X G,l_I.t X G,l_aD.t X G,l_aE.t X G,l_M.t X G,l_aF.t X G,l_W.t X G,l_X.t X G,l_A.t X G,l_Y.t X G,l_Z.t X G,l_aa.t X G,l_ab.t X G,l_N.t X G,l_ac.t X G,l_J.t X G,l_ad.t X G,l_y.t X G,l_ae.t X G,l_af.t X G,l_ag.t X G,l_ah.t X G,l_r.t X G,l_ai.t X G,l_aj.t X G,l_ak.t X G,l_B.t X G,l_K.t X G,l_al.t X G,l_aN.t X G,l_aI.t X G,l_aO.t X G,l_aJ.t X G,l_am.t X G,l_aG.t X G,⟨mo X G a_m,F_m,F_m.b⟩,l_an.t X G,l_ao.t X G,kW_ (mqF [ad_e_0,ad_e_1,ad_e_2,ad_e_3,ad_e_4,ad_e_5,ad_e_6,ad_e_7,ad_e_8,ad_e_9,ad_e_10,ad_e_11,ad_e_12,ad_e_13,ad_e_14,ad_e_15,ad_e_16,ad_e_17,ad_e_18,ad_e_19,ad_e_20,ad_e_21,ad_e_22,ad_e_23]) l_e p_e z_e fun m=>by cases m <;> assumption⟩:TX w K mg ⟨_,_,_,_,_,_,_,_,_,_,_,_,_,_,_,_,_,_,_,_,_,_,_,_,_,_,_,_,_,_,_,_,_,_,_,_,_,_,_,_,_,_,_,_,_,_,_,_,_,_,_,_,_,_,_,_,_,_,_,_,_,_,_,_,_,_,_,_,_,_,_,_,_,_,_,_,_,_,_,_,_,_,_,_,_,_,_,_,_,_,_,_,_,_,_,_,_,_,_,_,_,_,_,_,_,_,_,_,_,_,_,_,_,_,_,_,_,_,_,_,_,_,_,_,_,_,_,_,_,_,_,_,_,_,_,_,_,_,_,_,_,_,_,_,_,_,_,_,_,_,_,_,_,_,_,_,_,_,_,_,_,_,_,_,_,_,_,_,_,_,_,_,_⟩)
 have e:=hfa.symm.trans T.F_m.mg;cases e;refine ⟨_,?_,⟨_,_,_,l_m⟩,fun base cc Pt hcc _ _ hC hb=>ok_ T hC hb hcc⟩;exact fun s us hu=>match us,hu with | [_,_],_ => .of_eq rfl
end M
end Internal
set_option genInjectivity false in
set_option genSizeOfSpec false in
set_option genSizeOf false in
structure PySem.W.Fast:Prop where
 (tw5375045438598043482 tw17687622981096258295 tw2801236444560165396 tw7057392818357474199 tw17549477142619327766 tw5098721320022092959 tw4918362305656208804 tw15525271837869676277 tw12784817947732019009 tw13234637479701626839 tw1388658240451664203 tw10417433285101797004 tw17846737723495317267 tw4394430330767603563 tw8229393534554870170 tw4565684796262990066 tw8470753256212698893 tw2295236740722544808 tw9654751278640170568 tw15326135069543061972 tw2063940504417589591 tw8316669614363816862 tw5517139842928306073 tw9129166779392485648 tw7444947360400968272 tw14240787561635682943 tw7495455122508345569 tw18125154580417883623 tw7125198275957030517 tw13919649806692575843 tw17353000959103037582 tw6279940110469373662 tw345208838247039807 tw9020347327702188473 tw8023728069906567098 tw9296291002198671467 tw11498024126886115502 tw1435635767450449819 tw14161368253848001354 tw14773615385398447764 tw12362833334748732732 tw10436215582869840909 tw15819938880719015493 tw4681967960542706557 tw16644215397965089063 tw7666222555898151506 tw11729944149253632815 tw12638745535790922277 tw15725102104704622653 tw2640844491509279012 tw15015238621095436248 tw9440273260685365966 tw10010761279185297275 tw12844314276442028711 tw8056974951016223373 tw5765187126335796296 tw14603162856741577484 tw10957944832312371145 tw17932383925731180730 tw5430777054789512360 tw16697772875097856255 tw1731490222260427049 tw6429719682145819705 tw7679751898187763237 tw13789198325609232982 tw3353136193342973911 tw11912293897406532469 tw2908014125230396492 tw3673703721673312309 tw10449932677817492617 tw15656381436132198834 tw2615075022190502206 tw11234979323432336888 tw6512085290347374602 tw5095206436042085915 tw3323939071426928468 tw14006444045123739625 tw6485202852258100867 tw12145545731576955406 tw15702976921930974774 tw12972978347164169438 tw17737108451105246813 tw9239769531499520978 tw7695935410359271009 tw3507695203156869671 tw4258690333906854731 tw6617125607725149996 tw16589888631914939823 tw388955131008031110 tw8533454351000731166 tw15604141979992832198 tw1792661525137306233 tw13595689520062851440 tw12653399636160535132 tw13065658152303634293 tw363972534784805727 tw7581537799165668677 tw2129641389290173091 tw11055758615396517982 tw7137898416681044577 tw5313692811894406820 tw2762909238128813940 tw15044076179512970315 tw17989345347429211070 tw2446425723333011384 tw13304331018931541115 tw8927429916355639668 tw9649582062268963192 tw16164121033544412640 tw3216247476705697784 tw17537157265677014137 tw13485844680164423400 tw4495045049864549267 tw13880928672122906441 tw14137427606244337725 tw2541363913354367318 tw2217924052612710671 tw9887689804424722092 tw14461329185029106311 tw7137007062294341793 tw17168393926567843898 tw10495046514476713204 tw10542253302637421098 tw2895165612229309276 tw16695171333011326116 tw11218333508037384286 tw12613533776871313535 tw2185693023875968685 tw1076840343812643681 tw2362887139745573447 tw7162721311056835239 tw13410289010921400974 tw7823726058459269005 tw3757417135542018028 tw9274534024339576537 tw1331987241706005562 tw7861082790375819578 tw2261891040503946316 tw8008782571315878410 tw10192538020472992085 tw2557180797055830430 tw11728560216930778072 tw1867449962912529589 tw6376473222516902191 tw17127493128594982097 tw826783476672631039 tw1963166443480255741 tw1447921722637321929 tw11037342644829125075 tw12925282242925423406 tw9203173751219814264 tw10748218532334058735 tw17099695188355196784 tw9246848574771247895 tw14551911342167451270 tw11255790978757834230 tw18299135699788041676 tw984187579177903180 tw11681288573051750774 tw15627968472326472910 tw15254953735280751693 tw12743286967812708925 tw15401293382200066122 tw15704158960721365226 tw622603158168416615 tw153696718240829250 tw11608139768543252979 tw1878415489874900760 tw14931405669792520340 tw10279904225238898835 tw17966028635281434066 tw6999215057667919907 tw2344915393810065801 tw8739689901012143524 tw9731217810418833669 tw16216227253003860699 tw13467885688728158596 tw9670742953994592864 tw10782555295631130992 tw7948150978979409295 tw183079453015810455 tw12559210112071538697 tw18266721382037646181 tw10747118787283039069 tw8811513014930510573 tw127593353993666169 tw1055169128261451983 tw11840581427864004373 tw16104035359171399317 tw16417968524605392516 tw328921974539415478 tw7970574350339779935 tw12436143350658310018 tw16731002011503665313 tw17883067639296990973 tw9957050991698959697 tw10990779334528196377 tw4259980127295548207 tw17189526539161856181 tw1359487720108914948 tw10670542227226063351 tw5247072484146822360 tw854193067225998001 tw4149657606320617789 tw7575975027137808035 tw508736190432274683 tw16045392212334195687 tw16169258643611574975 tw2841426146390902522 tw3378552574265090620 tw4953656405650229854 tw12368545069024884765 tw4991577008224406552 tw7762576837379491471 tw9151769493100293552 tw7907954968881786208 tw5912510708984872815 tw17223938968815017849 tw18009952752406446794 tw3461899983472029414 tw9321797387327765736 tw7351609874605496619 tw1701971706630804569 tw16737782510428818860 tw5826083879415129643 tw17006619567396869559 tw13177762279841476475 tw8095634497573463920 tw2508937556236520733 tw4216699535698184144 tw14938740391747633832 tw14568133920352052393 tw14434098122131371186 tw12694568510461214691 tw15249859005500303210 tw12455099460200872810 tw5880841607175380203 tw7390031509058123673 tw8964606784164666126 tw2496350739876527860 tw14111419500986092958 tw902651750659005327 tw11505873083976347020 tw1123330574018828190 tw1306699019070521920 tw15539149752290029254 tw14265827853964455756 tw4107575862007375448 tw4966090306471188638 tw18317879867468553598 tw8099242618620766927 tw1054028247533322096 tw14835753291836192327 tw18183023935798448247 tw6971153746662791539 tw10029666337298308746 tw6053311292220855551 tw14263881487954732475 tw11875229993091608007 tw3333000878387134101 tw8677550502826252405 tw17573511633919558273 tw17059886701169246491 tw17254041210371008856 tw9807146707782382258 tw11720212921714865041 tw7804278792684224380 tw9083659201070257223 tw3752099463814739924 tw9953884459152431226 tw15327393034936387341 tw8180673486814630262 tw12581704901038675461 tw14594392774740822642 tw6563360207401729841 tw7491423597555557926 tw6238325476592686829 tw15973337531012384144 tw569241748926574014 tw17800411301087605566 tw6929565534448094075 tw6939532063999923828 tw12869457307656936 tw11604806846537684206 tw10977418457842109066 tw8516892029911164260 tw4104243340105235551 tw10907371164692905104 tw9670732788126133210 tw8135439075012253927 tw9828240731140197711 tw3511164276849118896 tw4758785939018916755 tw4374512863507580814 tw13473051642822910150 tw5297006143010642641 tw8248216111535534853 tw4699350964153421039 tw7713831320436190730 tw4336541794791657070 tw1645149466012081232 tw15066730790038134922 tw4194461315023239434 tw6014565602450876163 tw8986633408963812895 tw13645660456581876534 tw14275619881058747391 tw1256803383499826677 tw17190302567591890277 tw13245657803983904989 tw13917610829440510796 tw14721324073536511744 tw8799596802617344352 tw6348291090267453352 tw1038251397391790824 tw3539840986973452269 tw14644690978554425619 tw15528840735676818968 tw7675656173030162303 tw12973775052002137179 tw6562874546447192934 tw14353359743461707697 tw984227639609428823 tw1997524171709695689 tw2797692783517458958 tw2615092103340682469 tw9928306354069349794 tw14331091397970405421 tw13678455938105778712 tw18155034259861527196 tw12907106766626402781 tw8950120515297703295 tw8801916062330959143 tw1914581511580816030 tw6190202051946325811 tw1139808644636625863 tw11542186150820857123 tw4823989636299230661 tw10095312475746208681 tw10158644271165131449 tw17810532595610191237 tw13421891356936023242 tw4680579452541279504 tw5074868619446618537 tw12491114087913090543 tw1640367019791442303 tw18431512624115957982 tw8281644962482601345 tw9576196257763304467 tw16160467193349621344 tw4738046795820383801 tw15872727712254386349 tw9822730237361088065 tw17547711753026872445 tw11620094625364624810 tw15272485477732141051 tw12095127562173573241 tw14810437530123127649 tw696599978014621609 tw18062432495236782751 tw981523258703852339 tw7021040578521399679 tw10542512134508089930 tw17968291556894996111 tw11206795806378534493 tw13533633584173591301 tw18320815539509824060 tw6077924246783629262 tw601697642987063593 tw1250612015976119768 tw11434383430703820916 tw57448792861654549 tw16198819094682378258 tw8761487282411955128 tw3889776299606961976 tw9856422938044350977 tw11102879355920983770 tw7483441891469805277 tw11253372171528087202 tw855449536202892058 tw7036067909459407337 tw2982392992808558355 tw7014891378501726371 tw7674205516911379004 tw12987978447664999276 tw15131174988162882262 tw440758880793893617 tw16492933782381839010 tw14232918001521454188 tw10997180322893080739 tw14102732337063622328 tw12145716142994870984 tw15173505108605624002 tw941730078214127329 tw5181657925783378768 tw7152542663229121803 tw14680544697163128871 tw17786029837625331874 tw11722827054752481954 tw2711677930161624653 tw13528187555741232580 tw9191421143391944459 tw9813244268818297983 tw17834718008363641970 tw2980210747170888022 tw8155912573618954486 tw13920520017304683007 tw4036086099816074473 tw9707936136764750486 tw4685719784771096137 tw840601484412215177 tw14910950053032860130 tw13205465935040350679 tw15565751115287477921 tw4432961238483838990 tw7083842125942894116 tw11780961184987212613 tw3614577689218426730 tw7120573401169089242 tw4762994126680381402 tw17435513784967860363 tw12999761621856729085 tw5469025560322585293 tw12227465305924427045 tw6055092051990510318 tw12162235172408365751 tw14895055963087413535 tw761765709256822739 tw5761844098031752208 tw4102679587513886536 tw16419813025272972493 tw10116822467332961988 tw7152168185794412661 tw1704106227381576132 tw2183274529431355425 tw2098631255878215019 tw5713699015106337217 tw9464073048217289983 tw18108857340892492418 tw5183379254518476654 tw2093356390957024070 tw7644873158233913706 tw6485709527045755471 tw9485071871199478849 tw16482396386060992689 tw12886394672834596608 tw5529057734487275551 tw17926355151527129168 tw8792302700119652179 tw15579400217241376907 tw16053522488230448390 tw11858758224558482585 tw12808916587051012753 tw4216678111617450644 tw15990843114216648508 tw8494080399596864685 tw13617298762097747701 tw15715779594214580019 tw13127698347657100086 tw6392836544270557036 tw6501010381791239416 tw176746490886184455 tw16168667795041322445 tw15064312498402273671 tw14858384855195866668 tw7751066522295924742 tw2018586887712954270 tw15549111849535555016 tw836803060689592991 tw12412019867361751385 tw10604463372994499472 tw3933805847643321914 tw16973211641908018096 tw16165031825493134415 tw4960244047584601678 tw2761608349001485653 tw958353355704093988 tw15490867156175544223 tw1226098930409578542 tw10329399392335843981 tw10360299892545394532 tw2181000684160867702 tw5929185175221959261 tw11063591268175399455 tw7722407485289181306 tw1992658858166008169 tw5388595564239835640 tw4555048006167017374 tw6237758692887507635 tw11735018318713719875 tw4095776222004878067 tw16342041320491027191 tw4143202581334760264 tw1466642765596663407 tw18371811123735216625 tw1233752675537479953 tw6825319597280192714 tw18431716377756237407 tw14812226523054688976 tw4153207463596096408 tw2813296548794422777 tw2950659966400218603 tw12461817713264500236 tw8949562107899832750 tw15143483501539094617 tw4421104617150171405 tw7563094558646709226 tw14481968897301700062 tw8415335046308189705 tw9638767312791008023 tw8788219875782474067 tw10157660888906898586 tw16565988966481419696 tw11714471894863383421 tw14623030168145856984 tw7028419203097307027 tw13603613729462992331 tw16670256320492743905 tw7805816106444862464 tw8094841026391002568 tw131840588255051300 tw17586486475430716539 tw9998151171146376032 tw17875096454315099144 tw15581080948531890519 tw16413966495582413595 tw4672781306580478493 tw9222599923001180559 tw14245413753390146729 tw11549269463860972064 tw13369411240193639235 tw9942568425133728035 tw15268148774943201087 tw6498598397071933096 tw18006977296718827498 tw8220952067411920113 tw13194325536685349178 tw17580989759416584121 tw2027089023990650155 tw2118010009959180720 tw15709345607525988529 tw14396252408847385652 tw17848306950259869569 tw6543359323584846246 tw18154618703268333635 tw686288491877772796 tw4852743135586820 tw2693406333087982730 tw15276645926125533584 tw13725518994537955197 tw5676592538319589848 tw9784824702562532842 tw16022670575499596725 tw7726223258812451778 tw262573693547030062 tw10019056224872129343 tw10249895481059017569 tw2049011147147412693 tw8160743780171564564 tw16625081060197399754 tw855469265218247444 tw9490411261094232538 tw8790074426498586145 tw16220383599585252536 tw1487984812673435058 tw11193399188431384587 tw15117343974171590919 tw17357375709467452931 tw16616257290755279496 tw4657463096565134688 tw2513587568879599782 tw13223923987204302497 tw15615917048677636103 tw8829418656626202032 tw14715275656662588006 tw3075613373719984332 tw14989122122323943125 tw5695828117349200954 tw11881059080336588175 tw13972553708163918735 tw17137536896779451257 tw4079053875468632059 tw9718116708470909123 tw7887852529804603777 tw8614859371028152810 tw17195017769257897758 tw12578727462876240110 tw2836074139261993374 tw11613406358102487415 tw537878702947867368 tw7733326174959109884 tw13141334761192068434 tw14727132283334311948 tw7457334706115532077 tw11999890300619647680 tw13647184910417586250 tw3561540514481342014 tw18310923275202226618 tw13981527384901883610 tw6455532011155477192 tw14775893524235319126 tw2286279596089010072 tw16519607177318431781 tw12468314818477692077 tw10524073313277581205 tw6517340042627011942 tw15687014275656935739 tw2889128905817086967 tw13397738515120417127 tw1852403590310043424 tw16651436195370644974 tw8529550074707253548 tw8301476222442050143 tw13303166801981043445 tw14239535253708997278 tw7582467567704550579 tw8926590776834719650 tw2958418266617773018 tw6342497080195030136 tw4943239033355386783 tw2995485299999999995 tw1780768012665890838 tw7060599254039355176 tw9440528170253276727 tw13570932654840314020 tw9067063930892241472 tw16816942821597758431 tw1565499340784071848 tw17740887708200432894 tw4758697001038158683 tw14167861390268555336 tw9527952945663245799 tw4208431152646377751 tw17100502425177014330 tw8151861996125277990 tw5445469224270900874 tw16765583108855306751 tw15802365308089663354 tw12101813799163812973 tw7777754008083958841 tw16404753934422643378 tw14829823937097127108 tw433556414425694554 tw18183140907506830583 tw5437268873821146119 tw3275496312200774369 tw14123218127105510954 tw1318729121230217997 tw12512624531431864457 tw17953941861721409376 tw15514853136095563583 tw2495650117476536882 tw15488774685565834513 tw13001853425226957345 tw10376061083733073565 tw5214441454220749165 tw11025213195989547956 tw16082886721997063031 tw13848062910420594258 tw9165492757332202524 tw3752354051757546814 tw6863963221067625992 tw18334081991428875585 tw6381506497174673444 tw17541269876948120785 tw18224931246148918325 tw13103839744664067662 tw4238488384346781773 tw17377266543359718745 tw15914391564111819686 tw4093080285955763430 tw3006458724900590664 tw3823142380654507615 tw18416583720328271748 tw5943358268897612542 tw14843449785678440322 tw4666656414003911305 tw13171144501740436755 tw14749711077358544785 tw14327906818203639898 tw9255140811747124467 tw5780200460528118755 tw9369362945266983037 tw4597262926090155615 tw11642759244073142161 tw3403297700700835125 tw9347017781060923650 tw4588370668282761955 tw13969977481636420358 tw1549322191482759323 tw17393187461166161253 tw14839774362968678857 tw17011534771107107511 tw1355773378200733391 tw6143470222930848746 tw1878617135864920114 tw8688841107888175679 tw11119054622536722 tw14536372309847599858 tw4233751253242277080 tw10429153931824473253 tw13719772037567596428 tw9673107618235132306 tw12152857721699962669 tw18445751215729155122 tw6138881068503893670 tw10216450932178701026 tw8504693744521802281 tw7687341481836387152 tw18337982491243431369 tw2343977193337404420 tw15107419718853595811 tw707046328722012663 tw17232030594916109823 tw9365921777626820564 tw3895547349496468393 tw1815182206368393260 tw8872272399482883300 tw14608362937245273066 tw14166383004620456749 tw9364061345417983359 tw11133138477735032772 tw2158393075659027652 tw2658477455827029642 tw12580068689896197083 tw1693696384322800811 tw2122486087084267904 tw13014598122931335138 tw6930314168630694879 tw17136001656394220281 tw6475720243891664828 tw2548468850670774362 tw16225620603015857970 tw5127212615054237766 tw7653912436496135808 tw2626024239268115268 tw11428262248278407249 tw3222819384887203257 tw11005841242865132457 tw8158366861496013127 tw15778489857685919179 tw12685246568970241250 tw1530855189915663128 tw4809264653963858039 tw14056097279874710133 tw10960289579287122233 tw17329054258639263455 tw15462803220843108309 tw15939559954075546607 tw9490864545271594119 tw7570406613072749286 tw10403804317694102848 tw18366381862014550903 tw3733319166162136022 tw2561592157138000943 tw17974973502855951574 tw18250841631043861787 tw17696891330874876089 tw6339879080441045812 tw700242380176033727 tw8813254870685116044 tw364316836707618459 tw14607002772646583686 tw9820205905187609614 tw6006332089778188265 tw15950045726457817394 tw11043862093840258721 tw13399913963111764424 tw16028499499266685289 tw6971134993937019243 tw2423477865402868706 tw2089907135041517732 tw13506344540460033354 tw13551659834717402473 tw5665698218988349313 tw3768740896580707236 tw14893670794477781844 tw6249417677895342970 tw13617708234611342875 tw6443285525303013939 tw14939895245040042324 tw14981070577064854225 tw6664155207094366971 tw14445840065951192817 tw15850094274994109654 tw1089290223860910576 tw8462222270625390664 tw2650323183893436440 tw7788919668110117843 tw12282358464554699320 tw8676535557003284805 tw10837399175812958734 tw14739852641271690460 tw3072926022279567062 tw9442842828026721377 tw15712836068087060365 tw17365681406404408523 tw2389977153872194987 tw5481623294515044024 tw17386232749966578372 tw5848150364826229302 tw5579805204088633996 tw11751551931522469488 tw12114320487970837206 tw9363501922799825513 tw4907369166870943193 tw5158804352818510591 tw6542213063653527380 tw14028909769404517108 tw12171016611051631018 tw11491280377051555784 tw13711657190127690343 tw13466155769615195419 tw4455693311287997661 tw9280108673810055302 tw4242785077296666712 tw1405892388883400522 tw13616260252853485125 tw13228613797150419170 tw5441674254096725141 tw5996342829289158784 tw7344194953322300208 tw6610207248049386222 tw7313294757546758956 tw14964867200991429775 tw5956199332461745696 tw12096056307020364978 tw16379845767282504126 tw15982796584913022938 tw10628056452361098550 tw2990259355220937102 tw5798347612265627647 tw5231199145679384972 tw13232696662174208574 tw3825866156939995452 tw5107841826387374382 tw12119888921674506434 tw12347093223956348887 tw16496971516768945926 tw6045732578803727758 tw14159057124930983752 tw10860869106779274244 tw5030695405926665720 tw14824554030519966967 tw11974446205828207480 tw11859722401258685758 tw6539732767956949932 tw2320697074589759312 tw12456227546905110644 tw2553520574027365798 tw2114748001544135505 tw3898111542869791565 tw5077283971934322378 tw6178876601482080879 tw10177000859298870151:True)
open PySem PySem.W PyProof.Rows
set_option maxRecDepth 100000 in
set_option maxHeartbeats 0 in
theorem PySem.Challenge.cw_measuretext_s06_where_holds : PySem.Challenge.rw_measuretext_s06_where.Holds := by
 w_on;k_headS;(case hw=>exact ⟨[.int 0,.list []],by left,by left⟩)
 k_fillS
 refine L2.je_ (r:=PySem.Challenge.rw_measuretext_s06_where) (k:=22) (CX:=L2.CX0) (ps:=["node","text"]) (sp:=M.hL_ PyVaunid.where_) (by left) rfl rfl ⟨rfl,by decide,by decide⟩ (List.mem_of_find?_eq_some (p:=fun e=>e.name == ("where":PySem.Str)) (by kernel_rfl)) (fun w=>by kernel_rfl) (fun w h Y=>PySem.W.kIn_of Y) ?F ?S (fun _ _ _ _ z=>z)
 case F =>
  intro w mg fa h Y KX G hmg;apply M.qc_ KX G hmg
  all_goals first | k_is | (exact ⟨_,_,_,_,_,_,_,_,_,by k_is,by k_is,by k_is⟩) | (exact ⟨_,_,_,by k_is,by ((repeat (refine .cons ⟨_,rfl⟩ ?_));exact .nil)⟩) | ((repeat (refine .cons ⟨_,rfl⟩ ?_));exact .nil) | decide | ((repeat (refine .cons ⟨rfl,⟨_,rfl⟩,rfl⟩ ?_));exact .nil) | ((repeat (refine .cons ⟨rfl,⟨_,rfl⟩,⟨_,rfl⟩⟩ ?_));exact .nil) | (exact ⟨by k_is,_,_,_,_,_,_,_,_,_,by k_is,by k_is,by k_is⟩) | (refine ⟨_,_,_,by k_is,?_⟩;(repeat (refine .cons ⟨_,_,_,_,_,_,rfl,by k_is,rfl,⟨_,_,_,by k_is,by ((repeat (refine .cons ⟨_,rfl⟩ ?_));exact .nil)⟩,⟨_,_,_,by k_is,by ((repeat (refine .cons ⟨_,rfl⟩ ?_));exact .nil)⟩⟩ ?_));exact .nil) | (exact ⟨_,_,_,by k_is,.cons ⟨_,rfl⟩ (.cons rfl .nil)⟩)
 case S =>
  intro K Pt H xs a hO hwi hask hx;cases hx with
  | cons h1 h2 =>
  cases h2 with
  | cons h2 h3 =>
  cases h3;cases h1;cases h2 with
  | lst hs ha =>
  have e:=L2.k4_ a.2.1 _ ha;subst e;have q:(Codec.inInt (-1000000000000000000) 1000000000000000000 a.1 && ((Codec.inLen 0 10000 a.2.1 && a.2.1.all (Codec.inInt 0 255)) && true))=true:=hwi;rw [and_eq_true,and_eq_true,and_eq_true] at q;refine ⟨a.1,_,a.2.1,rfl,L2.af_,L2.pb_ hO hs,(Codec.inNat_iff.mp q.2.1.1).2,fun n hn=>?_,fun H' p hp => .lst (L2.SqL.of hp) (L2.lg_ _)⟩;have:=all_eq_true.mp q.2.1.2 n hn;unfold Codec.inInt at this;simpa using this
#print axioms PySem.Challenge.cw_measuretext_s06_where_holds
