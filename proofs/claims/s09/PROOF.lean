import PyProof.Rows.All
import Wide.All
import OpenK.AllK
import Wide.FinOn
import PyProof.EqAt
import PyProof.EqKinds
import PyProof.TupleCall
import KE.BitLaws
import PyProof.EnumStmt
import PyProof.Rows.CountFlat
import PyProof.ExcBaseAll.Exception
import PyProof.ExcAttrAll.Exception
import Open.SpecLaws
import KE.OsHead
import KE.OsGo
import PySem.Challenge.RW_measuretext_s09_plain
open List (filterMap_cons mem_cons_self mem_cons_of_mem mem_cons mem_append mem_append_left mem_append_right size_toArray length_cons map_cons length_map append_nil nodup_cons of_mem_zip length_take getElem?_map mem_of_getElem? length_append length_drop all_cons any_cons reverse_cons replicate_succ flatten_cons length_singleton map_nil all_map lookup_cons mem_map all_eq_true find?_cons cons_append length_nil drop_zero take_succ_cons drop_eq_getElem_cons append_assoc drop_drop length_pos_iff take_of_length_le drop_length nil_append drop_left take_length getElem?_eq_getElem take_succ map_append takeWhile_cons dropWhile_cons takeWhile_append_dropWhile takeWhile_append_of_pos headD_cons mem_singleton foldl_cons any_map drop_succ_cons map_map drop_eq_nil_of_le any_eq_true getElem?_reverse not_mem_nil sublist_cons_self reverse_append map_reverse reverse_reverse length_reverse sum_cons dropLast_concat)
open Nat (ne_of_gt zero_le lt_succ_self le_succ le_of_succ_le le_add_right add_zero add_comm zero_add sub_zero mul_comm add_assoc add_sub_cancel_left)
open Option (map_some)
open Bool (and_eq_true false_eq_true or_eq_true_iff)
open Int (natCast_inj)
open Vaunid (factorText MOSTSIGNS measureText digitsValue fits numberText secondRow wordToken numberToken signToken token minusDigit Res fault tokens coreSigns isTaken Core coreTerm want wantName wantDigit Term coreForm formOne formTwo formThree readCore allTokens Leaf shownLit decimalInt isName decimal depths shownLeaf coreText bracketed long answerText)
open PySem.W (instObj Frag lookIn plainGet hasDictIn isFn looks_clsIn emptyDict looks_findIn keepIn mroIn kitOne kia_one callWith_K fnOf codeIn clsIn)
open PySem.F (slot_dict_get)
open PySem.Str (ofString)
open PySem.Heap (lt_size get?_none_of_le get?_push_of_some get?_push_size size_push get?_update_other get?_update_self)
abbrev zM:=PySem.Str->Option PySem.Value
abbrev zP:=List (PySem.Addr×PySem.Obj)
abbrev zQ:=PySem.Value->PySem.Shared->Prop
set_option Elab.async false
set_option linter.all false
set_option maxRecDepth 100000
local macro_rules
 | `(tactic| omega) => `(tactic| lia)
local macro_rules
 | `(tactic| left) => `(tactic| decide +kernel)
local macro_rules
 | `(tactic| right) => `(tactic| constructor <;> first | rfl | decide +kernel)
namespace Internal
theorem x_01 {P Q:Prop}{G:Prop} (h:P/\Q) (k:P->Q->G):G:=by
 obtain ⟨p,q⟩:=h;exact k p q
theorem x_02 {P Q R:Prop}{G:Prop} (h:P/\Q/\R) (k:P->Q->R->G):G:=by
 obtain ⟨p,q,r⟩:=h;exact k p q r
theorem x_03 {P Q R S:Prop}{G:Prop} (h:P/\Q/\R/\S) (k:P->Q->R->S->G):G:=by
 obtain ⟨p,q,r,s⟩:=h;exact k p q r s
theorem x_04 {P Q R S T:Prop}{G:Prop} (h:P/\Q/\R/\S/\T) (k:P->Q->R->S->T->G):G:=by
 obtain ⟨p,q,r,s,t⟩:=h;exact k p q r s t
theorem x_05 {P Q R S T U:Prop}{G:Prop} (h:P/\Q/\R/\S/\T/\U) (k:P->Q->R->S->T->U->G):G:=by
 obtain ⟨p,q,r,s,t,u⟩:=h;exact k p q r s t u
theorem x_06 {P Q R S T U V:Prop}{G:Prop} (h:P/\Q/\R/\S/\T/\U/\V) (k:P->Q->R->S->T->U->V->G):G:=by
 obtain ⟨p,q,r,s,t,u,v⟩:=h;exact k p q r s t u v
theorem x_07 {P Q R S T U V W:Prop}{G:Prop} (h:P/\Q/\R/\S/\T/\U/\V/\W) (k:P->Q->R->S->T->U->V->W->G):G:=by
 obtain ⟨p,q,r,s,t,u,v,w⟩:=h;exact k p q r s t u v w
theorem x_10 {A:Type}{P:A->Prop}{G:Prop} (h : ∃ a,P a) (k : ∀ a,P a->G):G:=by
 obtain ⟨a,p⟩:=h;exact k a p
theorem x_20 {A B:Type}{P:A->B->Prop}{G:Prop} (h : ∃ a b,P a b) (k : ∀ a b,P a b->G):G:=by
 obtain ⟨a,b,p⟩:=h;exact k a b p
theorem x_30 {A B C:Type}{P:A->B->C->Prop}{G:Prop} (h : ∃ a b c,P a b c) (k : ∀ a b c,P a b c->G):G:=by
 obtain ⟨a,b,c,p⟩:=h;exact k a b c p
theorem x_40 {A B C D:Type}{P:A->B->C->D->Prop}{G:Prop} (h : ∃ a b c d,P a b c d) (k : ∀ a b c d,P a b c d->G):G:=by
 obtain ⟨a,b,c,d,p⟩:=h;exact k a b c d p
theorem x_50 {A B C D E:Type}{P:A->B->C->D->E->Prop}{G:Prop} (h : ∃ a b c d e,P a b c d e) (k : ∀ a b c d e,P a b c d e->G):G:=by
 obtain ⟨a,b,c,d,e,p⟩:=h;exact k a b c d e p
theorem x_60 {A B C D E F:Type}{P:A->B->C->D->E->F->Prop}{G:Prop} (h : ∃ a b c d e f,P a b c d e f) (k : ∀ a b c d e f,P a b c d e f->G):G:=by
 obtain ⟨a,b,c,d,e,f,p⟩:=h;exact k a b c d e f p
theorem x_90 {A B C D E F I J K:Type}{P:A->B->C->D->E->F->I->J->K->Prop}{G:Prop} (h : ∃ a b c d e f i j l,P a b c d e f i j l) (k : ∀ a b c d e f i j l,P a b c d e f i j l->G):G:=by
 obtain ⟨a,b,c,d,e,f,i,j,l,p⟩:=h;exact k a b c d e f i j l p
theorem x_11 {A:Type}{P Q:A->Prop}{G:Prop} (h : ∃ a,P a/\Q a) (k : ∀ a,P a->Q a->G):G:=x_10 h fun a z=>x_01 z (k a)
theorem x_12 {A:Type}{P Q R:A->Prop}{G:Prop} (h : ∃ a,P a/\Q a/\R a) (k : ∀ a,P a->Q a->R a->G):G:=x_10 h fun a z=>x_02 z (k a)
theorem x_13 {A:Type}{P Q R S:A->Prop}{G:Prop} (h : ∃ a,P a/\Q a/\R a/\S a) (k : ∀ a,P a->Q a->R a->S a->G):G:=x_10 h fun a z=>x_03 z (k a)
theorem x_21 {A B:Type}{P Q:A->B->Prop}{G:Prop} (h : ∃ a b,P a b/\Q a b) (k : ∀ a b,P a b->Q a b->G):G:=x_20 h fun a b z=>x_01 z (k a b)
theorem x_22 {A B:Type}{P Q R:A->B->Prop}{G:Prop} (h : ∃ a b,P a b/\Q a b/\R a b) (k : ∀ a b,P a b->Q a b->R a b->G):G:=x_20 h fun a b z=>x_02 z (k a b)
theorem x_23 {A B:Type}{P Q R S:A->B->Prop}{G:Prop} (h : ∃ a b,P a b/\Q a b/\R a b/\S a b) (k : ∀ a b,P a b->Q a b->R a b->S a b->G):G:=x_20 h fun a b z=>x_03 z (k a b)
theorem x_24 {A B:Type}{P Q R S T:A->B->Prop}{G:Prop} (h : ∃ a b,P a b/\Q a b/\R a b/\S a b/\T a b) (k : ∀ a b,P a b->Q a b->R a b->S a b->T a b->G):G:=x_20 h fun a b z=>x_04 z (k a b)
theorem x_32 {A B C:Type}{P Q R:A->B->C->Prop}{G:Prop} (h : ∃ a b c,P a b c/\Q a b c/\R a b c) (k : ∀ a b c,P a b c->Q a b c->R a b c->G):G:=x_30 h fun a b c z=>x_02 z (k a b c)
theorem x_33 {A B C:Type}{P Q R S:A->B->C->Prop}{G:Prop} (h : ∃ a b c,P a b c/\Q a b c/\R a b c/\S a b c) (k : ∀ a b c,P a b c->Q a b c->R a b c->S a b c->G):G:=x_30 h fun a b c z=>x_03 z (k a b c)
theorem x_34 {A B C:Type}{P Q R S T:A->B->C->Prop}{G:Prop} (h : ∃ a b c,P a b c/\Q a b c/\R a b c/\S a b c/\T a b c) (k : ∀ a b c,P a b c->Q a b c->R a b c->S a b c->T a b c->G):G:=x_30 h fun a b c z=>x_04 z (k a b c)
namespace L2
open PySem PySem.Spec PyProof.Rows
section
abbrev Key:=Sum Int Str
def hE_:Key->Value->Bool
 | .inl k,v=>Value.isInt k v
 | .inr x,v=>Value.isStrOf x v
noncomputable def keyH (w:World):Key->Int
 | .inl k=>hashInt k
 | .inr x=>hashStr w x
theorem aZ_ : ∀ {k:Key}{v:Value},hE_ k v=true->(∃ i t,k=Sum.inl i/\v=Value.int i t)\/(∃ x t,k=Sum.inr x/\v=Value.str x t)
 | .inl i,v,h=>by
  obtain ⟨t,e⟩:=Value.isInt_shape (k:=i) (v:=v) h;exact .inl ⟨i,t,rfl,e⟩
 | .inr x,v,h=>by
  obtain ⟨t,e⟩:=Value.isStrOf_shape (x:=x) (v:=v) h;exact .inr ⟨x,t,rfl,e⟩
theorem kA_ (i:Int) (t:Tok):hE_ (.inl i) (.int i t)=true:=by simp [hE_,Value.isInt]
theorem kz_ (x:Str) (t:Tok):hE_ (.inr x) (.str x t)=true:=by simp [hE_,Value.isStrOf]
theorem o4_ (a b:Int):decide ((Sum.inl a:Key)=Sum.inl b)=(a == b):=by
 by_cases e:a=b
 ·subst e;simp
 have h : ¬ (Sum.inl a:Key)=Sum.inl b:=fun q=>e (Sum.inl.inj q);rw [decide_eq_false h];exact (beq_eq_false_iff_ne.mpr e).symm
theorem o1_ (a b:Str):decide ((Sum.inr a:Key)=Sum.inr b)=decide (a=b):=by
 by_cases e:a=b
 ·subst e;simp
 have h : ¬ (Sum.inr a:Key)=Sum.inr b:=fun q=>e (Sum.inr.inj q);rw [decide_eq_false h,decide_eq_false e]
theorem o3_ (a:Int) (b:Str):decide ((Sum.inl a:Key)=Sum.inr b)=false:=decide_eq_false (fun q=>nomatch q)
theorem o2_ (a:Str) (b:Int):decide ((Sum.inr a:Key)=Sum.inl b)=false:=decide_eq_false (fun q=>nomatch q)
noncomputable def aM_ (prog:Program) (w:World):PySem.KeyKind prog w Key where
 is:=hE_
 hash:=keyH w
 inj:=fun v a b ha hb=>by
  rcases aZ_ ha with ⟨i,t,rfl,rfl⟩ | ⟨x,t,rfl,rfl⟩
  ·rcases aZ_ hb with ⟨j,u,rfl,e⟩ | ⟨y,u,rfl,e⟩
   ·injection e with e1 _;rw [e1]
   exact nomatch e
  rcases aZ_ hb with ⟨j,u,rfl,e⟩ | ⟨y,u,rfl,e⟩
  ·exact nomatch e
  injection e with e1 _;rw [e1]
 byValue:=fun k v h=>by
  rcases aZ_ h with ⟨i,t,rfl,rfl⟩ | ⟨x,t,rfl,rfl⟩ <;> rfl
 pyHash:=fun hv h=>by
  rcases aZ_ hv with ⟨i,t,rfl,rfl⟩ | ⟨x,t,rfl,rfl⟩
  ·exact wpAny_pyHash_int h
  exact wpAny_pyHash_str h
 eqBool:=fun hu hv h=>by
  rcases aZ_ hu with ⟨i,t,rfl,rfl⟩ | ⟨x,t,rfl,rfl⟩
  ·rcases aZ_ hv with ⟨j,u,rfl,rfl⟩ | ⟨y,u,rfl,rfl⟩
   ·rw [o4_] at h;exact wpAny_eqBool_int h
   rw [o3_] at h;exact SeqAt.EqAt.int_str i t y u _ _ _ _ h
  rcases aZ_ hv with ⟨j,u,rfl,rfl⟩ | ⟨y,u,rfl,rfl⟩
  ·rw [o2_] at h;exact SeqAt.EqAt.str_int x t j u _ _ _ _ h
  rw [o1_] at h;exact wpAny_eqBool_str h
 «strs» := fun k x t v h=>by
  rcases aZ_ h with ⟨i,u,rfl,e⟩ | ⟨y,u,rfl,e⟩
  ·exact nomatch e
  injection e with e1 _;subst e1;cases v <;> rfl
theorem hy_ (prog:Program) (w:World) (i:Int) (t:Tok):(aM_ prog w).is (.inl i) (.int i t)=true:=kA_ i t
theorem eK_ (prog:Program) (w:World) (x:Str) (t:Tok):(aM_ prog w).is (.inr x) (.str x t)=true:=kz_ x t
end
section
inductive V where
 | non | bl (b:Bool) | int (i:Int) | str (x:Str) | byt (b:Array UInt8) | flt (b:UInt64) | ref (a:Addr) | ty (n:String)
 deriving DecidableEq
def RelV:V->Value->Prop
 | .non,u=>u=Value.none
 | .bl b,u=>u=Value.bool b
 | .int i,u=>∃ t,u=Value.int i t
 | .str x,u=>∃ t,u=Value.str x t
 | .byt b,u=>∃ t,u=Value.bytes b t
 | .flt b,u=>∃ t,u=Value.float b t
 | .ref a,u=>u=Value.ref a
 | .ty n,u=>u=Value.type n
abbrev Vals:List V->List Value->Prop:=Paired RelV
theorem Vals.length {xs:List V}{us:List Value} (r:Vals xs us):xs.length=us.length:=Paired.length r
theorem Vals.get : ∀ {xs:List V}{us:List Value}{i:Nat}{x:V},Vals xs us->xs[i]? = some x->∃ u,us[i]? = some u/\RelV x u
 | _,_,_,_,.nil,e=>by simp at e
 | _,_,0,_,.cons r _,e=>by simp at e;subst e;exact ⟨_,rfl,r⟩
 | _,_,i+1,x,.cons _ t,e=>by
  obtain ⟨u,h1,h2⟩:=Vals.get (i:=i) (x:=x) t (by simpa using e);exact ⟨u,by simpa using h1,h2⟩
theorem Vals.set {x:V}{u:Value} (r:RelV x u) : ∀ {xs:List V}{us:List Value} (i:Nat),Vals xs us->Vals (xs.set i x) (us.set i u)
 | _,_,_,.nil => .nil
 | _,_,0,.cons _ t => .cons r t
 | _,_,i+1,.cons q t => .cons q (Vals.set r i t)
theorem Vals.append : ∀ {xs ys:List V}{us ws:List Value},Vals xs us->Vals ys ws->Vals (xs++ys) (us++ws)
 | _,_,_,_,.nil,s=>s
 | _,_,_,_,.cons r t,s => .cons r (Vals.append t s)
theorem Vals.take : ∀ {xs:List V}{us:List Value} (n:Nat),Vals xs us->Vals (xs.take n) (us.take n)
 | _,_,0,_ => .nil
 | _,_,_+1,.nil => .nil
 | _,_,n+1,.cons r t => .cons r (Vals.take n t)
theorem Vals.drop : ∀ {xs:List V}{us:List Value} (n:Nat),Vals xs us->Vals (xs.drop n) (us.drop n)
 | _,_,0,r=>r
 | _,_,_+1,.nil => .nil
 | _,_,n+1,.cons _ t=>Vals.drop n t
def RelO:Option V->Option Value->Prop
 | some v,some u=>RelV v u
 | none,none=>True
 | _,_=>False
def KV {κ:Type}:List (κ×V)->List (κ×Value)->Prop:=Paired fun (p:κ×V) (q:κ×Value)=>p.1=q.1/\RelV p.2 q.2
def kV:Key->V
 | .inl i => .int i
 | .inr x => .str x
inductive HO where
 | lst (xs:List V)
 | tup (xs:List V)
 | dK (kvs:List (Key×V)) | dT (kvs:List (List Key×V))
 | set (S:Int->Bool) (n:Nat)
 | ins (C dx:Addr) (fs:List (Str×V))
 | own (x:Addr)
 | xd (fs:List (Str×V))
 | met (f x:Addr)
 | rng (lo hi:Int)
 | frz (o:Obj) (u:HO)
 | tbl (ps:Array Value)
 | ext (φ:Heap->Prop)
abbrev Hp:=Addr->Option HO
noncomputable def upd (H:Hp) (a:Addr) (o:HO):Hp:=fun b=>if b=a then some o else H b
theorem ad_ {H:Hp}{a:Addr}{o:HO}:upd H a o a=some o:=by unfold upd;rw [if_pos rfl]
theorem am_ {H:Hp}{a b:Addr}{o:HO} (h:b≠a):upd H a o b=H b:=by unfold upd;rw [if_neg h]
theorem er_ {H:Hp}{a:Addr}{o u:HO}:upd (upd H a o) a u=upd H a u:=by
 funext b;unfold upd;split <;> rfl
theorem be_ {H:Hp}{a b:Addr}{o u:HO} (h:H a=some o) (h':H b=some u) (d:o≠u):a≠b:=by
 intro e;subst e;rw [h] at h';exact d (Option.some.inj h')
theorem af_ {H:Hp}{a b:Addr}{o:HO} (h:H a=some o) (h':H b=none):a≠b:=by
 intro e;subst e;rw [h] at h';cases h'
section
variable (P:Program) (w:World)
def a1_ (H:Hp) (h:Heap) (a:Addr):HO->Prop
 | .lst xs=>xs.length<=sizeLine/\∃ (its:List Value) (n:Nat),Vals xs its/\h.get? a=some { cls := .type "list",data := .seq its.toArray n }
 | .tup xs=>xs.length<=sizeLine/\∃ its:List Value,Vals xs its/\IsTup h a its.toArray
 | .dK kvs=>kvs.length<=sizeLine/\(a == sysModules)=false/\∃ vs,KV kvs vs/\h.DictOf (aM_ P w) a vs
 | .dT kvs=>kvs.length<=sizeLine/\(a == sysModules)=false/\∃ xs:List (List Key×Addr×Value),
   Paired (fun (p:List Key×V) (q:List Key×Addr×Value)=>p.1=q.1/\H q.2.1=some (.tup (p.1.map kV))/\RelV p.2 q.2.2) kvs xs /\
   ∃ o es ep,h.get? a=some o/\o.ExactDict/\o.data = .dict es ep/\es.toList=xs.map (entryOfKey (tupleKind (aM_ P w)))/\(xs.map (·.1)).Nodup
 | .set S n=>h.SetOf (intKind P w) a S n
 | .ins C dx fs=>H dx=some (.own a)/\fs.length<=1000/\dx≠a/\h.get? a=some (instObj C dx) /\
   ∃ mA,h.Ns1 dx mA/\(∀ f,RelO (fs.lookup f) (mA f))/\PySem.Within mA (fs.map (·.1))
 | .own _=>∃ o,h.get? a=some o
 | .xd fs=>∃ mA,h.Ns1 a mA/\∀ f,RelO (fs.lookup f) (mA f)
 | .rng lo hi=>∃ t u v,h.get? a=some { cls := .type "range",data := .fields #[.int lo t,.int hi u,.int 1 v] }
 | .frz o u=>h.get? a=some o/\a1_ H h a u
 | .tbl ps=>h.get? a=some { cls := .none,data := .fields ps }
 | .met f x=>h.get? a=some (PySem.W.methodObj (.ref f) (.ref x))
 | .ext φ=>φ h/\(∃ o,h.get? a=some o)/\∀ h1 h2:Heap,φ h1->(∀ o,h1.get? a=some o->h2.get? a=some o)->φ h2
def HOk (H:Hp) (h:Heap):Prop:=∀ a o,H a=some o->a1_ P w H h a o
end
section
variable {P:Program}{w:World}{H H':Hp}{h h':Heap}{a:Addr}{o:HO}
theorem a1_.lt (x:a1_ P w H h a o):a<h.objs.size:=by
 cases o with
 | lst xs=>obtain ⟨_,_,_,_,e⟩:=x;exact lt_size e
 | tup xs=>obtain ⟨_,_,_,p⟩:=x;exact p.lt
 | dK kvs=>obtain ⟨_,_,_,_,o,_,_,e,_⟩:=x;exact lt_size e
 | dT kvs=>obtain ⟨_,_,_,_,o,_,_,e,_⟩:=x;exact lt_size e
 | set S n=>obtain ⟨o,_,_,_,e,_⟩:=x;exact lt_size e
 | ins C dx fs=>obtain ⟨_,_,_,e,_⟩:=x;exact lt_size e
 | own y=>obtain ⟨_,e⟩:=x;exact lt_size e
 | xd fs=>obtain ⟨_,⟨_,_,_,e,_⟩,_⟩:=x;exact lt_size e
 | rng lo hi=>obtain ⟨_,_,_,e⟩:=x;exact lt_size e
 | frz ob u=>obtain ⟨e,_⟩:=x;exact lt_size e
 | tbl ps=>exact lt_size (show h.get? a=some _ from x)
 | met f y=>exact lt_size (show h.get? a=some _ from x)
 | ext φ=>obtain ⟨_,⟨_,e⟩,_⟩:=x;exact lt_size e
theorem Paired.mapP {α β:Type}{F G:α->β->Prop} : ∀ {l₁:List α}{l₂:List β},Paired F l₁ l₂->(∀ a b,F a b->G a b)->Paired G l₁ l₂
 | _,_,.nil,_ => .nil
 | _,_,.cons r t,f => .cons (f _ _ r) (Paired.mapP t f)
theorem a1_.stay (x:a1_ P w H h a o) (k : ∀ b u,(b=a\/H b=some (.own a))->h.get? b=some u->h'.get? b=some u)
  (ho : ∀ b,H b=some (.own a)->H' b=some (.own a)) (ht : ∀ b xs,H b=some (.tup xs)->H' b=some (.tup xs)):a1_ P w H' h' a o:=by
 induction o with
 | lst xs=>obtain ⟨z,its,n,r,e⟩:=x;exact ⟨z,its,n,r,k _ _ (.inl rfl) e⟩
 | tup xs=>obtain ⟨z,its,r,ob,e,c⟩:=x;exact ⟨z,its,r,ob,k _ _ (.inl rfl) e,c⟩
 | dK kvs=>obtain ⟨z,y,vs,r,ob,es,ep,e,c⟩:=x;exact ⟨z,y,vs,r,ob,es,ep,k _ _ (.inl rfl) e,c⟩
 | dT kvs =>
  obtain ⟨z,y,xs,r,ob,es,ep,e,c⟩:=x;exact ⟨z,y,xs,Paired.mapP r fun p q z=>⟨z.1,ht _ _ z.2.1,z.2.2⟩,ob,es,ep,k _ _ (.inl rfl) e,c⟩
 | set S n=>obtain ⟨ob,es,ep,t,e,c⟩:=x;exact ⟨ob,es,ep,t,k _ _ (.inl rfl) e,c⟩
 | ins C dx fs =>
  obtain ⟨d,z,ne,e,mA,⟨od,es,ep,e2,c⟩,r⟩:=x;exact ⟨ho _ d,z,ne,k _ _ (.inl rfl) e,mA,⟨od,es,ep,k _ _ (.inr d) e2,c⟩,r⟩
 | own y=>obtain ⟨ob,e⟩:=x;exact ⟨ob,k _ _ (.inl rfl) e⟩
 | xd fs=>obtain ⟨mA,⟨od,es,ep,e,c⟩,r⟩:=x;exact ⟨mA,⟨od,es,ep,k _ _ (.inl rfl) e,c⟩,r⟩
 | rng lo hi=>obtain ⟨t,u,v,e⟩:=x;exact ⟨t,u,v,k _ _ (.inl rfl) e⟩
 | frz ob u ih=>obtain ⟨e,q⟩:=x;exact ⟨k _ _ (.inl rfl) e,ih q⟩
 | tbl ps =>
  have e:h.get? a=some { cls := .none,data := .fields ps }:=x;show h'.get? a=some { cls := .none,data := .fields ps };exact k a _ (.inl rfl) e
 | met f y =>
  have e:h.get? a=some (PySem.W.methodObj (.ref f) (.ref y)):=x;show h'.get? a=some (PySem.W.methodObj (.ref f) (.ref y));exact k a _ (.inl rfl) e
 | ext φ=>obtain ⟨p,⟨o,e⟩,st⟩:=x;exact ⟨st _ _ p fun o q=>k _ _ (.inl rfl) q,⟨o,k _ _ (.inl rfl) e⟩,st⟩
theorem HOk.lt (x:HOk P w H h) (e:H a=some o):a<h.objs.size:=(x a o e).lt
theorem HOk.fresh (x:HOk P w H h) (e:h.objs.size<=a):H a=none:=by
 cases q:H a with
 | none=>rfl
 | some u=>exact absurd (Nat.lt_of_lt_of_le (x.lt q) e) (Nat.lt_irrefl _)
theorem HOk.kept (x:HOk P w H h) (k : ∀ b u,h.get? b=some u->h'.get? b=some u):HOk P w H h':=fun a o e =>
 (x a o e).stay (fun b u _ q=>k b u q) (fun _ q=>q) fun _ _ q=>q
theorem HOk.laid (x:HOk P w H h) (k : ∀ b u,h.get? b=some u->h'.get? b=some u) (hp:h.objs.size<=a) (new:a1_ P w (upd H a o) h' a o):HOk P w (upd H a o) h':=fun b u e=>by
 have hn:=x.fresh hp;by_cases hb:b=a
 ·subst hb;rw [ad_] at e;cases e;exact new
 rw [am_ hb] at e;exact (x b u e).stay (fun c v _ q=>k c v q) (fun c q=>by rw [am_ (af_ q hn)];exact q) fun c xs q=>by rw [am_ (af_ q hn)];exact q
end
def Rd (H:Hp) (a:Addr) (u:HO):Prop:=H a=some u\/∃ o,H a=some (.frz o u)
theorem Rd.ok {P:Program}{w:World}{H:Hp}{h:Heap}{a:Addr}{u:HO} (r:Rd H a u) (x:HOk P w H h):a1_ P w H h a u:=by
 rcases r with r | ⟨o,r⟩
 ·exact x a u r
 obtain ⟨_,q⟩:=x a _ r;exact q
def Mut:Option HO->Prop
 | some (.lst _)=>True
 | some (.dK _)=>True
 | some (.dT _)=>True
 | some (.set _ _)=>True
 | some (.ins _ _ _)=>True
 | some (.ext _)=>True
 | _=>False
section
variable {P:Program}{w:World}{H:Hp}{h h':Heap}{x e:Addr}{o':HO}
theorem HOk.write (ok:HOk P w H h) (mu:Mut (H x)) (he:e=x\/H e=some (.own x)) (k : ∀ b u,b≠e->h.get? b=some u->h'.get? b=some u) (heo : ∃ u,h'.get? e=some u)
  (new:a1_ P w (upd H x o') h' x o'):HOk P w (upd H x o') h':=fun b u q=>by
 have nown : ∀ c y,H c=some (.own y)->c≠x:=fun c y r z=>by subst z;rw [r] at mu;exact mu
 have ntup : ∀ c xs,H c=some (.tup xs)->c≠x:=fun c xs r z=>by subst z;rw [r] at mu;exact mu
 by_cases hb:b=x
 ·subst hb;rw [ad_] at q;cases q;exact new
 rw [am_ hb] at q;by_cases hbe:b=e
 ·have q':H b=some (.own x):=by
   rcases he with z | z
   ·exact absurd (hbe.trans z) hb
   rw [hbe];exact z
  rw [q] at q';cases q';obtain ⟨v,hv⟩:=heo;exact ⟨v,by rw [hbe];exact hv⟩
 refine (ok b u q).stay (fun c v hc r=>k c v ?_ r) (fun c r=>by rw [am_ (nown c b r)];exact r) fun c xs r=>by rw [am_ (ntup c xs r)];exact r
 rcases hc with rfl | hc
 ·exact hbe
 rintro rfl
 rcases he with z | z
 ·exact nown c b hc z
 rw [hc] at z;cases z;exact hb rfl
end
structure Un (fs ex:List Addr) (H H':Hp) (h h':Heap):Prop where
 keep : ∀ b o,h.get? b=some o->H b=none->b∉fs->b∉ex->h'.get? b=some o
 slot : ∀ b o,h.get? b=some o->H b=none->b∈fs->b∉ex->∃ sl,h'.get? b=some { o with slots:=sl }
 free : ∀ b o,h.get? b=some o->H b=none->b∉ex->H' b=none
 there : ∀ b o,h.get? b=some o->b∉ex->∃ o',h'.get? b=some o'
 tups : ∀ b xs,H b=some (.tup xs)->H' b=some (.tup xs)
 frzs : ∀ b o u,H b=some (.frz o u)->H' b=some (.frz o u)
 tbls : ∀ b ps,H b=some (.tbl ps)->∃ more,H' b=some (.tbl (ps++more))
section
variable {fs fs' ex ex':List Addr}{H H1 H2:Hp}{h h1 h2 h':Heap}{a x e:Addr}{o:HO}
theorem Un.any (u:Un fs ex H H1 h h1) {b:Addr}{ob:Obj} (q:h.get? b=some ob) (n:H b=none) (hx:b∉ex) : ∃ sl,h1.get? b=some { ob with slots:=sl }:=by
 by_cases hb:b∈fs
 ·exact u.slot b ob q n hb hx
 exact ⟨ob.slots,u.keep b ob q n hb hx⟩
theorem Un.kept (k : ∀ b u,h.get? b=some u->h'.get? b=some u):Un fs ex H H h h' :=
 ⟨fun b ob q _ _ _=>k b ob q,fun b ob q _ _ _=>⟨ob.slots,k b ob q⟩,fun _ _ _ n _=>n,fun b ob q _=>⟨ob,k b ob q⟩,fun _ _ q=>q,fun _ _ _ q=>q,fun _ ps q=>⟨#[],by rw [q];simp⟩⟩
theorem Un.refl:Un fs ex H H h h:=Un.kept fun _ _ q=>q
theorem Un.laid (k : ∀ b u,h.get? b=some u->h'.get? b=some u) (hp:h.objs.size<=a) (hn:H a=none):Un fs ex H (upd H a o) h h' where
 keep:=fun b u q _ _ _=>k b u q
 slot:=fun b u q _ _ _=>⟨u.slots,k b u q⟩
 free:=fun b u q n _=>by rw [am_ (Nat.ne_of_lt (Nat.lt_of_lt_of_le (lt_size q) hp))];exact n
 there:=fun b u q _=>⟨u,k b u q⟩
 tups:=fun b xs q=>by rw [am_ (af_ q hn)];exact q
 frzs:=fun b u xs q=>by rw [am_ (af_ q hn)];exact q
 tbls:=fun b ps q=>⟨#[],by rw [am_ (af_ q hn),q];simp⟩
theorem Un.write (mu:Mut (H x)) (he:e=x\/H e=some (.own x)) (k : ∀ b u,b≠e->h.get? b=some u->h'.get? b=some u) (heo : ∃ u,h'.get? e=some u):Un fs ex H (upd H x o) h h':=by
 have hx : ∀ b,H b=none->b≠x:=fun b n z=>by subst z;rw [n] at mu;exact mu
 have hb : ∀ b,H b=none->b≠e:=fun b n z=>by
  subst z;rcases he with r | r
  ·exact hx b n r
  rw [n] at r;cases r
 have hm : ∀ b u,H b=some u->¬ Mut (some u)->b≠x:=fun b u q nm z=>by subst z;rw [q] at mu;exact nm mu
 refine ⟨fun b u q n _ _=>k b u (hb b n) q,fun b u q n _ _=>⟨u.slots,k b u (hb b n) q⟩,fun b u q n _=>by rw [am_ (hx b n)];exact n,fun b u q _=>?_,
  fun b xs q=>by rw [am_ (hm b _ q fun z=>z)];exact q,fun b u xs q=>by rw [am_ (hm b _ q fun z=>z)];exact q,fun b ps q=>⟨#[],by rw [am_ (hm b _ q fun z=>z),q];simp⟩⟩
 by_cases hbe:b=e
 ·subst hbe;exact heo
 exact ⟨u,k b u hbe q⟩
end
def trk (h:Heap) (H:Hp):List Addr:=(List.range h.objs.size).filter fun a=>(H a).isSome
def hidT (h:Heap) (H:Hp):Heap:=PySem.W.hideAll h (trk h H)
theorem kH_ (h:Heap) (H:Hp):(hidT h H).objs.size=h.objs.size:=PySem.W.hideAll_size _ _
theorem l8_ {h:Heap}{H:Hp}{b:Addr}{o:Obj} (e:h.get? b=some o) (n:H b=none):(hidT h H).get? b=some o :=
 PySem.W.hideAll_get _ e fun hm=>by
  have q:(H b).isSome=true:=(List.mem_filter.mp hm).2;rw [n] at q;simp at q
theorem nK_ {h:Heap}{H:Hp}{b:Addr}{o:Obj} (e:(hidT h H).get? b=some o):h.get? b=some o/\H b=none:=by
 have e':h.get? b=some o:=PySem.W.of_hideAll (trk h H) e;refine ⟨e',?_⟩;cases q:H b with
 | none=>rfl
 | some x =>
 have hm:b∈trk h H:=List.mem_filter.mpr ⟨List.mem_range.mpr (lt_size e'),by simp [q]⟩;have z:(hidT h H).get? b=none:=PySem.W.hideAll_none (trk h H) hm;rw [z] at e;cases e
def og_ (g h:Heap) (L:Addr):zP:=(List.range h.objs.size).filterMap fun a=>if a=L\/(g.get? a).isSome=true then none else (h.get? a).map fun o=>(a,o)
def rest (g h:Heap) (L d:Addr):zP:=(og_ g h L).filter fun p=>decide (p.1≠d)
end
section
structure Mod (K:Frag) (mg:zM) (base:Heap):Prop where
 kin:K.In base
 glob:base.Ns mainGlobals mg
 blt : ∃ mb,base.Ns builtinsNs mb/\∀ x:Str,x≠"__name__"->mb x=bootBuiltins x
 nolimit:base.NoLimit
structure Cx where
 prog:Program
 w:World
 K:Frag
 mg:Str->Option Value
 base:Heap
 A:Around
 N:List Str
 s_0:Shared
 H_0:Hp
 env:Env
 outer:List Env
 stack:List Env
 ex:List Addr
 fn:Str->Bool
 calm:Bool
 pn:List (Addr×Obj)
 xe:Value->Shared->Prop
def frs (l:List Env):List Addr:=l.filterMap (·.frame)
abbrev Cx.fs (X:Cx):List Addr:=frs X.outer
def Vis (sc:Scope) (x:Str):Prop:=sc.names.lookup x=some .local\/sc.names.lookup x=some .cell\/sc.names.lookup x=some .free
def Loc (sc:Scope) (x:Str):Prop:=sc.names.lookup x=some .local\/sc.names.lookup x=some .cell
def Look (env:Env) (h:Heap) (m:zM) (x:Str) (u:Value):Prop :=
 (env.kindOf x=some .local/\m x=some u)\/((env.kindOf x=some .cell\/env.kindOf x=some .free)/\∃ c,env.cells.lookup x=some c/\h.IsCell c (some u))
structure Cx.Ok (X:Cx):Prop where
 mod:Mod X.K X.mg X.base
 kind:X.env.scope.kind = .function
 glob:X.env.globals=mainGlobals
 blt:X.env.builtins=builtinsNs
 above:X.s_0.heap.objs.size<=X.env.locals
 inj : ∀ x y c,X.env.cells.lookup x=some c->X.env.cells.lookup y=some c->x=y
 has : ∀ x,(X.env.kindOf x=some .cell\/X.env.kindOf x=some .free)->∃ c,X.env.cells.lookup x=some c
 cab : ∀ x c,X.fn x=true->X.env.cells.lookup x=some c->X.s_0.heap.objs.size<=c
 hd:X.calm=true->X.A.handled=none
 frames:X.A.frames=some X.stack
 stk:X.stack=X.outer\/(X.stack=X.env::X.outer/\X.env.frame=some X.env.locals)
 exf : ∀ b∈X.ex,b≠X.env.locals/\∀ x c,X.env.cells.lookup x=some c->c≠b
 bs : ∀ b o,X.base.get? b=some o->X.s_0.heap.get? b=some o/\X.H_0 b=none
 bsz:X.base.objs.size<=X.s_0.heap.objs.size
 noex : ∀ b o,X.base.get? b=some o->b∉X.ex
 exfs : ∀ b∈X.ex,b∉X.fs
 funs:X.s_0.heap.FunFrames X.base X.outer
 frf : ∀ b∈X.fs,X.H_0 b=none
structure Inv (X:Cx) (pins:zP) (σ:List (Option V)) (H:Hp) (s:Shared):Prop where
 ok:X.Ok
 os:s.os=X.s_0.os
 bare:AllBare s.gens
 base:Un X.fs X.ex X.H_0 H X.s_0.heap s.heap
 loc : ∃ m,s.heap.Ns X.env.locals m/\∀ (i:Nat) (x:Str) (v:V),X.N[i]? = some x->σ[i]? = some (some v)->Vis X.env.scope x->∃ u,RelV v u/\Look X.env s.heap m x u
 cell : ∀ x c,X.env.cells.lookup x=some c->∃ v,s.heap.IsCell c v
 free:H X.env.locals=none
 freeC : ∀ x c,X.env.cells.lookup x=some c->H c=none
 pin : ∀ p∈X.pn++pins,s.heap.get? p.1=some p.2/\H p.1=none/\p.1≠X.env.locals/\p.1∉X.fs/\∀ v,p.2.data ≠ .cell v
 hok:HOk X.prog X.w H s.heap
 len:σ.length=X.N.length
section
variable {X:Cx}{pins:zP}{σ:List (Option V)}{H H':Hp}{s:Shared}{h':Heap}
theorem Cx.Ok.nofr (ok:X.Ok) {b:Addr}{o:Obj} (e:X.base.get? b=some o):b∉X.fs:=fun hb=>by
 have:=(ok.funs.mem hb).1;rw [e] at this;cases this
theorem Inv.bs (I:Inv X pins σ H s) : ∀ b o,X.base.get? b=some o->s.heap.get? b=some o/\H b=none:=fun b o e =>
 ⟨I.base.keep b o (I.ok.bs b o e).1 (I.ok.bs b o e).2 (I.ok.nofr e) (I.ok.noex b o e),I.base.free b o (I.ok.bs b o e).1 (I.ok.bs b o e).2 (I.ok.noex b o e)⟩
theorem Inv.bk (I:Inv X pins σ H s) : ∀ b o,X.base.get? b=some o->s.heap.get? b=some o:=fun b o e=>(I.bs b o e).1
theorem Inv.mod (I:Inv X pins σ H s):Mod X.K X.mg X.base:=I.ok.mod
theorem Inv.kIn (I:Inv X pins σ H s):X.K.In s.heap:=I.ok.mod.kin.keeps I.bk
theorem Inv.nolimit (I:Inv X pins σ H s):s.heap.NoLimit:=I.ok.mod.nolimit.keeps I.bk
theorem Inv.fr (I:Inv X pins σ H s) : ∃ m,Fr X.base X.env.locals s.heap m :=
 let ⟨m,hn,_⟩:=I.loc
 ⟨m,hn,I.bk,Nat.le_trans I.ok.bsz I.ok.above⟩
theorem Inv.lt (I:Inv X pins σ H s):X.env.locals<s.heap.objs.size:=let ⟨_,hn,_⟩:=I.loc;hn.lt
theorem Inv.sz (I:Inv X pins σ H s):X.s_0.heap.objs.size<=s.heap.objs.size:=Nat.le_trans I.ok.above (Nat.le_of_lt I.lt)
theorem Inv.nofs (I:Inv X pins σ H s) {a:Addr} (h:s.heap.objs.size<=a):a∉X.fs:=fun hb=>by
 obtain ⟨_,o,ho,_⟩:=I.ok.funs.mem hb;exact absurd (Nat.lt_of_lt_of_le (lt_size ho) (Nat.le_trans I.sz h)) (Nat.lt_irrefl _)
theorem Inv.cne (I:Inv X pins σ H s) : ∀ x c,X.env.cells.lookup x=some c->c≠X.env.locals:=fun x c e z=>by
 obtain ⟨v,o,ho,hd⟩:=I.cell x c e;obtain ⟨m,⟨o',es,ep,ho',hd',_⟩,_⟩:=I.loc;rw [z,ho'] at ho;cases ho;rw [hd'] at hd;cases hd
theorem Inv.funs (I:Inv X pins σ H s):s.heap.FunFrames X.base X.outer:=by
 have all : ∀ (l:List Env),(∀ b∈frs l,b∈X.fs)->X.s_0.heap.FunFrames X.base l->s.heap.FunFrames X.base l:=by
  intro l
  induction l with
  | nil=>intro _ _;trivial
  | cons env r ih =>
  intro hs hl;obtain ⟨hk,⟨L,o,hf,hn,ho,hd⟩,hr⟩:=hl;have hL:L∈X.fs:=hs L (by unfold frs;rw [filterMap_cons,hf];exact mem_cons_self);obtain ⟨sl,e⟩:=I.base.slot L o ho (I.ok.frf L hL) hL fun z=>I.ok.exfs L z hL;exact ⟨hk,⟨L,_,hf,hn,e,hd⟩,ih (fun b hb=>hs b (by unfold frs;rw [filterMap_cons,hf];exact mem_cons_of_mem _ hb)) hr⟩
 exact all X.outer (fun _ hb=>hb) I.ok.funs
theorem Inv.stack (I:Inv X pins σ H s):s.heap.FunFrames X.base X.stack:=by
 rcases I.ok.stk with e | ⟨e,hf⟩
 ·rw [e];exact I.funs
 rw [e];obtain ⟨m,hn,_⟩:=I.loc;refine .cons (by rw [I.ok.kind];decide) hf hn ?_ I.funs;exact get?_none_of_le (Nat.le_trans I.ok.bsz I.ok.above)
theorem Inv.stkSub (I:Inv X pins σ H s) : ∀ b∈frs X.stack,b∈X.env.locals::X.fs:=fun b hb=>by
 rcases I.ok.stk with e | ⟨e,hf⟩
 ·rw [e] at hb;exact mem_cons_of_mem _ hb
 rw [e] at hb;unfold frs at hb;rw [filterMap_cons,hf] at hb;exact hb
theorem Inv.stkFree (I:Inv X pins σ H s) : ∀ b∈frs X.stack,H b=none:=fun b hb=>by
 rcases mem_cons.mp (I.stkSub b hb) with e | hb
 ·rw [e];exact I.free
 obtain ⟨_,o,ho,_⟩:=I.ok.funs.mem hb;exact I.base.free b o ho (I.ok.frf b hb) fun z=>I.ok.exfs b z hb
theorem Inv.step {g':Array GenState}{t':Nat}{d':Drawn}{ch:List Addr} (I:Inv X pins σ H s)
  (hch : ∀ b∈ch,(b∈X.ex\/X.s_0.heap.objs.size<=b)/\b≠X.env.locals/\(∀ x c,X.env.cells.lookup x=some c->c≠b)/\∀ p∈X.pn++pins,p.1≠b)
  (keep : ∀ b o,b≠X.env.locals->b∉X.fs->b∉ch->s.heap.get? b=some o->H b=none->h'.get? b=some o)
  (slot : ∀ b o,b≠X.env.locals->b∈X.fs->b∉ch->s.heap.get? b=some o->H b=none->∃ sl,h'.get? b=some { o with slots:=sl }) (free : ∀ b o,b∉ch->s.heap.get? b=some o->H b=none->H' b=none)
  (there : ∀ b o,b∉ch->s.heap.get? b=some o->∃ o',h'.get? b=some o')
  (tups : ∀ b xs,H b=some (.tup xs)->H' b=some (.tup xs)) (frzs : ∀ b o u,H b=some (.frz o u)->H' b=some (.frz o u)) (tbls : ∀ b ps,H b=some (.tbl ps)->∃ more,H' b=some (.tbl (ps++more)))
  (ns : ∀ m,s.heap.Ns X.env.locals m->h'.Ns X.env.locals m) (hok:HOk X.prog X.w H' h') (hg:AllBare g') :
  Inv X pins σ H' { s with heap:=h',gens:=g',drawn:=d',toks:=t' }:=by
 have neL : ∀ b o,X.s_0.heap.get? b=some o->b≠X.env.locals:=fun b o e=>Nat.ne_of_lt (Nat.lt_of_lt_of_le (lt_size e) I.ok.above);have neC : ∀ b o,X.s_0.heap.get? b=some o->b∉X.ex->b∉ch:=fun b o e hx hb=>by
  rcases (hch b hb).1 with z | z
  ·exact hx z
  exact absurd (Nat.lt_of_lt_of_le (lt_size e) z) (Nat.lt_irrefl _)
 have cellK : ∀ x c,X.env.cells.lookup x=some c->∀ v,s.heap.IsCell c v->h'.IsCell c v:=fun x c e v ⟨o,ho,hd⟩=>by
  have nch:c∉ch:=fun z=>(hch c z).2.2.1 x c e rfl;by_cases hc:c∈X.fs
  ·obtain ⟨sl,q⟩:=slot c o (I.cne x c e) hc nch ho (I.freeC x c e)
   exact ⟨_,q,hd⟩
  exact ⟨o,keep c o (I.cne x c e) hc nch ho (I.freeC x c e),hd⟩
 refine ⟨I.ok,I.os,hg,⟨fun b o e n hb hx=>?_,fun b o e n hb hx=>?_,fun b o e n hx=>?_,fun b o e hx=>?_,fun b xs e=>tups b xs (I.base.tups b xs e),fun b o xs e=>frzs b o xs (I.base.frzs b o xs e),fun b ps e=>?_⟩,?_,fun x c e=>?_,?_,fun x c e=>?_,fun p hp=>?_,hok,I.len⟩
 ·exact keep b o (neL b o e) hb (neC b o e hx) (I.base.keep b o e n hb hx) (I.base.free b o e n hx)
 ·obtain ⟨sl,e1⟩:=I.base.slot b o e n hb hx
  obtain ⟨sl',e2⟩:=slot b _ (neL b o e) hb (neC b o e hx) e1 (I.base.free b o e n hx);exact ⟨sl',e2⟩
 ·obtain ⟨o',e1⟩:=I.base.there b o e hx
  exact free b o' (neC b o e hx) e1 (I.base.free b o e n hx)
 ·obtain ⟨o',e1⟩:=I.base.there b o e hx
  exact there b o' (neC b o e hx) e1
 ·obtain ⟨m1,e1⟩:=I.base.tbls b ps e
  obtain ⟨m2,e2⟩:=tbls b _ e1;exact ⟨m1++m2,by rw [e2,Array.append_assoc]⟩
 ·obtain ⟨m,hn,hl⟩:=I.loc
  refine ⟨m,ns m hn,fun i x v e1 e2 e3=>?_⟩;obtain ⟨u,r,l⟩:=hl i x v e1 e2 e3;refine ⟨u,r,?_⟩;rcases l with l | ⟨k,c,e,z⟩
  ·exact .inl l
  exact .inr ⟨k,c,e,cellK x c e _ z⟩
 ·obtain ⟨v,z⟩:=I.cell x c e
  exact ⟨v,cellK x c e v z⟩
 ·obtain ⟨m,⟨o,_,_,ho,_⟩,_⟩:=I.loc
  exact free _ o (fun z=>(hch _ z).2.1 rfl) ho I.free
 ·obtain ⟨v,o,ho,hd⟩:=I.cell x c e
  exact free c o (fun z=>(hch c z).2.2.1 x c e rfl) ho (I.freeC x c e)
 refine x_04 (I.pin p hp) fun e n ne nf d=>?_;have nch:p.1∉ch:=fun z=>(hch p.1 z).2.2.2 p hp rfl;exact ⟨keep p.1 p.2 ne nf nch e n,free p.1 p.2 nch e n,ne,nf,d⟩
theorem Inv.un {t':Nat} (I:Inv X pins σ H s) (u:Un X.fs [] H H' s.heap h') (hok:HOk X.prog X.w H' h'):Inv X pins σ H' { s with heap:=h',toks:=t' }:=by
 obtain ⟨m,⟨o,es,ep,ho,r⟩,_⟩:=id I.loc;obtain ⟨sl,hL⟩:=u.any ho I.free (by simp);exact I.step (g':=s.gens) (d':=s.drawn) (ch:=[]) (fun _ z=>nomatch z) (fun b o _ hb _ e n=>u.keep b o e n hb (by simp)) (fun b o _ hb _ e n=>u.slot b o e n hb (by simp)) (fun b o _ e n=>u.free b o e n (by simp)) (fun b o _ e=>u.there b o e (by simp)) u.tups u.frzs u.tbls (fun m' hm=>by
  obtain ⟨o',es',ep',ho',r'⟩:=hm;rw [ho] at ho';cases ho';exact ⟨_,es',ep',hL,r'⟩) hok I.bare
theorem Inv.call {g':Array GenState}{t':Nat}{d':Drawn}{ch:List Addr} (I:Inv X pins σ H s) (u:Un (frs X.stack) ch H H' s.heap h') (hok:HOk X.prog X.w H' h') (hg:AllBare g')
  (hch : ∀ b∈ch,(b∈X.ex\/X.s_0.heap.objs.size<=b)/\b≠X.env.locals/\(∀ x c,X.env.cells.lookup x=some c->c≠b)/\∀ p∈X.pn++pins,p.1≠b) :
  Inv X pins σ H' { s with heap:=h',gens:=g',drawn:=d',toks:=t' }:=by
 obtain ⟨m,⟨o,es,ep,ho,r⟩,_⟩:=id I.loc;obtain ⟨sl,hL⟩:=u.any ho I.free fun z=>(hch _ z).2.1 rfl;exact I.step (ch:=ch) hch (fun b o hL hb hc e n=>u.keep b o e n (fun z=>(mem_cons.mp (I.stkSub b z)).elim hL hb) hc) (fun b o _ _ hc e n=>u.any e n hc) (fun b o hc e n=>u.free b o e n hc) (fun b o hc e=>u.there b o e hc) u.tups u.frzs u.tbls (fun m' hm=>by
  obtain ⟨o',es',ep',ho',r'⟩:=hm;rw [ho] at ho';cases ho';exact ⟨_,es',ep',hL,r'⟩) hok hg
theorem Inv.turned {t':Nat}{it:Addr} (I:Inv X pins σ H s) (k : ∀ b o,b≠it->s.heap.get? b=some o->h'.get? b=some o) (hn:H it=none) (hL:it≠X.env.locals)
  (h1:it∈X.ex\/X.s_0.heap.objs.size<=it) (h2 : ∀ x c,X.env.cells.lookup x=some c->c≠it) (h3 : ∀ p∈X.pn++pins,p.1≠it):Inv X pins σ H { s with heap:=h',toks:=t' }:=by
 have nit : ∀ b u,H b=some u->b≠it:=fun b u e z=>by rw [z,hn] at e;cases e
 refine I.step (g':=s.gens) (d':=s.drawn) (ch:=[it]) (fun b hb=>?_) (fun b o _ _ hc e _=>k b o (fun z=>hc (by simp [z])) e) (fun b o _ _ hc e _=>⟨o.slots,k b o (fun z=>hc (by simp [z])) e⟩) (fun _ _ _ _ n=>n)
  (fun b o hc e=>⟨o,k b o (fun z=>hc (by simp [z])) e⟩) (fun _ _ e=>e) (fun _ _ _ e=>e) (fun b ps e=>⟨#[],by rw [e];simp⟩) (fun m hm=>?_) (fun b u e=>?_) I.bare
 ·have e:b=it:=by simpa using hb
  subst e;exact ⟨h1,hL,h2,h3⟩
 ·obtain ⟨o,es,ep,ho,r⟩:=hm
  exact ⟨o,es,ep,k _ o (Ne.symm hL) ho,r⟩
 refine (I.hok b u e).stay (fun c v hc q=>k c v ?_ q) (fun _ q=>q) fun _ _ q=>q;rcases hc with z | z
 ·rw [z];exact nit b u e
 exact nit c _ z
theorem Inv.tok (I:Inv X pins σ H s) (t:Nat):Inv X pins σ H { s with toks:=t }:=I.un (h':=s.heap) (t':=t) Un.refl I.hok
theorem Inv.kept {t':Nat} (I:Inv X pins σ H s) (k : ∀ b u,s.heap.get? b=some u->h'.get? b=some u):Inv X pins σ H { s with heap:=h',toks:=t' }:=I.un (Un.kept k) (I.hok.kept k)
theorem Inv.laid {a:Addr}{o:HO}{t':Nat} (I:Inv X pins σ H s) (k : ∀ b u,s.heap.get? b=some u->h'.get? b=some u) (hp:s.heap.objs.size<=a) (new:a1_ X.prog X.w (upd H a o) h' a o) :
  Inv X pins σ (upd H a o) { s with heap:=h',toks:=t' }:=I.un (Un.laid k hp (I.hok.fresh hp)) (I.hok.laid k hp new)
theorem Inv.write {x e:Addr}{o:HO}{t':Nat} (I:Inv X pins σ H s) (mu:Mut (H x)) (he:e=x\/H e=some (.own x)) (k : ∀ b u,b≠e->s.heap.get? b=some u->h'.get? b=some u) (heo : ∃ u,h'.get? e=some u)
  (new:a1_ X.prog X.w (upd H x o) h' x o):Inv X pins σ (upd H x o) { s with heap:=h',toks:=t' }:=I.un (Un.write mu he k heo) (I.hok.write mu he k heo new)
theorem Inv.weak {σ':List (Option V)} (I:Inv X pins σ H s) (hl:σ'.length=σ.length) (w : ∀ (i:Nat) v,σ'[i]? = some (some v)->σ[i]? = some (some v)):Inv X pins σ' H s :=
 ⟨I.ok,I.os,I.bare,I.base,let ⟨m,hn,hl'⟩:=I.loc;⟨m,hn,fun i x v e1 e2 e3=>hl' i x v e1 (w i v e2) e3⟩,I.cell,I.free,I.freeC,I.pin,I.hok,hl.trans I.len⟩
theorem Inv.pins_of {pins':zP} (I:Inv X pins σ H s) (h : ∀ p∈pins',s.heap.get? p.1=some p.2/\H p.1=none/\p.1≠X.env.locals/\p.1∉X.fs/\∀ v,p.2.data ≠ .cell v):Inv X pins' σ H s :=
 ⟨I.ok,I.os,I.bare,I.base,I.loc,I.cell,I.free,I.freeC,fun p hp=>(mem_append.mp hp).elim (fun z=>I.pin p (mem_append_left _ z)) (h p),I.hok,I.len⟩
theorem fZ_ {N:List Str} (hN:N.Nodup) {i j:Nat}{x:Str} (a:N[i]? = some x) (b:N[j]? = some x):i=j:=by
 obtain ⟨h1,e1⟩:=List.getElem?_eq_some_iff.mp a;obtain ⟨h2,e2⟩:=List.getElem?_eq_some_iff.mp b;exact (List.getElem_inj hN).mp (e1.trans e2.symm)
theorem jK_ {M:Model}{A:Around}{E:zQ}{i:Nat}{x:Str}{v:V}{u:Value}{Q:Unit->Shared->Prop} (I:Inv X pins σ H s) (hN:X.N.Nodup) (hi:X.N[i]? = some x) (hx:Loc X.env.scope x) (r:RelV v u)
  (h : ∀ s',Inv X pins (σ.set i (some v)) H s'->(∃ a,Heap.SameBut a s.heap s'.heap/\(a=X.env.locals\/X.env.cells.lookup x=some a))->Q () s') (hf:X.fn x=true\/X.env.scope.names.lookup x=some .local:=by first | exact .inl rfl | exact .inr rfl | assumption):wpAny M A (storeName X.env x u) Q E s:=by
 obtain ⟨m,hn,hl⟩:=id I.loc;have hcls:(X.env.scope.kind == .class || (X.env.scope.kind == .module && X.env.locals != X.env.globals))=false:=by rw [I.ok.kind];rfl
 have hiσ:i<σ.length:=by rw [I.len];exact (List.getElem?_eq_some_iff.mp hi).1
 have cne:=I.cne;have tracked : ∀ {a:Addr}{h':Heap},(∃ o,s.heap.get? a=some o/\H a=none)->Heap.SameBut a s.heap h'->HOk X.prog X.w H h':=fun {a h'} ha hs b ob e=>by
  obtain ⟨_,_,hfree⟩:=ha;refine (I.hok b ob e).stay (fun c w' hc q=>(hs.2 c ?_).trans q) (fun _ q=>q) fun _ _ q=>q
  rintro rfl
  rcases hc with rfl | hc
  ·rw [hfree] at e;cases e
  rw [hfree] at hc;cases hc
 rcases hx with hk | hk
 ·refine wpAny_storeName_local hk hn (fun h' hn' hs=>?_) hcls
  refine x_30 (id hn) fun oL _ _ zy=>x_01 zy fun hoL _=>?_;refine h _ ⟨I.ok,I.os,I.bare,⟨fun b o e n hb hx=>?_,fun b o e n hb hx=>?_,I.base.free,fun b o e hx=>?_,I.base.tups,I.base.frzs,I.base.tbls⟩,⟨_,hn',fun j y v' e1 e2 e3=>?_⟩,fun y c e=>?_,I.free,I.freeC,fun p hp=>?_,tracked ⟨oL,hoL,I.free⟩ hs,by simpa using I.len⟩ ⟨_,hs,.inl rfl⟩
  ·exact (hs.2 b (Nat.ne_of_lt (Nat.lt_of_lt_of_le (lt_size e) I.ok.above))).trans (I.base.keep b o e n hb hx)
  ·obtain ⟨sl,e1⟩:=I.base.slot b o e n hb hx
   exact ⟨sl,(hs.2 b (Nat.ne_of_lt (Nat.lt_of_lt_of_le (lt_size e) I.ok.above))).trans e1⟩
  ·obtain ⟨o',e1⟩:=I.base.there b o e hx
   exact ⟨o',(hs.2 b (Nat.ne_of_lt (Nat.lt_of_lt_of_le (lt_size e) I.ok.above))).trans e1⟩
  ·by_cases hj:j=i
   ·subst hj
    rw [hi] at e1;cases e1;rw [List.getElem?_set_self hiσ] at e2;cases e2;exact ⟨u,r,.inl ⟨hk,by simp⟩⟩
   rw [List.getElem?_set_ne (Ne.symm hj)] at e2;obtain ⟨u',r',q⟩:=hl j y v' e1 e2 e3;refine ⟨u',r',?_⟩;rcases q with ⟨k,e⟩ | ⟨k,c,e,z⟩
   ·refine .inl ⟨k,?_⟩
    have:y≠x:=fun e=>hj (fZ_ hN e1 (e ▸ hi));simp [this,e]
   exact .inr ⟨k,c,e,z.sameBut hs (cne y c e)⟩
  ·obtain ⟨w',z⟩:=I.cell y c e
   exact ⟨w',z.sameBut hs (cne y c e)⟩
  refine x_04 (I.pin p hp) fun e n ne nf d=>?_;exact ⟨(hs.2 p.1 ne).trans e,n,ne,nf,d⟩
 have hfn:X.fn x=true:=by
  rcases hf with z | z
  ·exact z
  rw [z] at hk;cases hk
 obtain ⟨c,hc⟩:=I.ok.has x (.inl hk);obtain ⟨w',z⟩:=I.cell x c hc;refine wpAny_storeName_cell I.ok.kind hk hc z (fun h' hc' hs=>?_);obtain ⟨oc,hoc,hocd⟩:=id z;refine h { s with heap:=h' } ⟨I.ok,I.os,I.bare,⟨fun b o e n hb hx=>?_,fun b o e n hb hx=>?_,I.base.free,fun b o e hx=>?_,I.base.tups,I.base.frzs,I.base.tbls⟩,⟨m,hn.sameBut hs (Ne.symm (cne x c hc)),fun j y v' e1 e2 e3=>?_⟩,fun y c' e=>?_,I.free,I.freeC,fun p hp=>?_,tracked ⟨oc,hoc,I.freeC x c hc⟩ hs,by simpa using I.len⟩ ⟨c,hs,.inr hc⟩
 ·exact (hs.2 b (Nat.ne_of_lt (Nat.lt_of_lt_of_le (lt_size e) (I.ok.cab x c hfn hc)))).trans (I.base.keep b o e n hb hx)
 ·obtain ⟨sl,e1⟩:=I.base.slot b o e n hb hx
  exact ⟨sl,(hs.2 b (Nat.ne_of_lt (Nat.lt_of_lt_of_le (lt_size e) (I.ok.cab x c hfn hc)))).trans e1⟩
 ·obtain ⟨o',e1⟩:=I.base.there b o e hx
  exact ⟨o',(hs.2 b (Nat.ne_of_lt (Nat.lt_of_lt_of_le (lt_size e) (I.ok.cab x c hfn hc)))).trans e1⟩
 ·by_cases hj:j=i
  ·subst hj
   rw [hi] at e1;cases e1;rw [List.getElem?_set_self hiσ] at e2;cases e2;exact ⟨u,r,.inr ⟨.inl hk,c,hc,hc'⟩⟩
  rw [List.getElem?_set_ne (Ne.symm hj)] at e2;obtain ⟨u',r',q⟩:=hl j y v' e1 e2 e3;refine ⟨u',r',?_⟩;rcases q with q | ⟨k,c',e,z'⟩
  ·exact .inl q
  refine .inr ⟨k,c',e,z'.sameBut hs ?_⟩
  rintro rfl
  exact hj (fZ_ hN e1 (I.ok.inj _ _ _ e hc ▸ hi))
 ·by_cases hcc:c'=c
  ·subst hcc;exact ⟨_,hc'⟩
  obtain ⟨w2,z2⟩:=I.cell y c' e;exact ⟨w2,z2.sameBut hs hcc⟩
 refine x_04 (I.pin p hp) fun e n ne nf d=>?_;refine ⟨(hs.2 p.1 ?_).trans e,n,ne,nf,d⟩;intro q;rw [q,hoc] at e;have q':oc=p.2:=Option.some.inj e;exact d w' (by rw [<- q'];exact hocd)
theorem eb_ {M:Model}{A:Around}{E:zQ}{i:Nat}{x:Str}{v:V}{u:Value}{Q:Unit->Shared->Prop} (I:Inv X pins σ H s) (hN:X.N.Nodup) (hi:X.N[i]? = some x) (hx:Loc X.env.scope x) (r:RelV v u)
  (h : ∀ s',Inv X pins (σ.set i (some v)) H s'->Q () s') (hf:X.fn x=true\/X.env.scope.names.lookup x=some .local:=by first | exact .inl rfl | exact .inr rfl | assumption):wpAny M A (storeName X.env x u) Q E s :=
 jK_ I hN hi hx r (fun s' I' _=>h s' I') hf
theorem Inv.call' {s':Shared}{ch:List Addr} (I:Inv X pins σ H s) (ho:s'.os=s.os) (u:Un (frs X.stack) ch H H' s.heap s'.heap) (hok:HOk X.prog X.w H' s'.heap) (hg:AllBare s'.gens)
  (hch : ∀ b∈ch,(b∈X.ex\/X.s_0.heap.objs.size<=b)/\b≠X.env.locals/\(∀ x c,X.env.cells.lookup x=some c->c≠b)/\∀ p∈X.pn++pins,p.1≠b):Inv X pins σ H' s':=by
 obtain ⟨h',g',d',t',o'⟩:=s';have e:o'=s.os:=ho;subst e;exact I.call (g':=g') (t':=t') (d':=d') u hok hg hch
end
abbrev XK:=Value->Option Addr->Hp->Prop
abbrev St:=List (Option V)
abbrev VK:=V->Hp->Prop
abbrev TE:=St->Hp->VK->Prop
abbrev TT:=St->Hp->(Bool->Hp->Prop)->Prop
abbrev TA:=St->Hp->(List V->Hp->Prop)->Prop
structure Ends where
 nx:St->Hp->Prop
 rt:VK
 bk:St->Hp->Prop:=fun _ _=>False
 ct:St->Hp->Prop:=fun _ _=>False
abbrev TS:=Ends->St->Hp->Prop
def EP (X:Cx) (pins:zP) (σ:St) (Q:VK) (u:Value) (s':Shared):Prop:=∃ v H',Inv X pins σ H' s'/\RelV v u/\Q v H'
def TP (X:Cx) (pins:zP) (σ:St) (Q:Bool->Hp->Prop) (b:Bool) (s':Shared):Prop:=∃ H',Inv X pins σ H' s'/\Q b H'
def AP (X:Cx) (pins:zP) (σ:St) (Q:List V->Hp->Prop) (us:List Value) (s':Shared):Prop:=∃ vs H',Inv X pins σ H' s'/\Vals vs us/\Q vs H'
def SP (X:Cx) (pins:zP) (D:Ends) (f:Flow) (s':Shared):Prop :=
 match f with
 | .next=>∃ σ' H',Inv X pins σ' H' s'/\D.nx σ' H'
 | .brk=>∃ σ' H',Inv X pins σ' H' s'/\D.bk σ' H'
 | .cont=>∃ σ' H',Inv X pins σ' H' s'/\D.ct σ' H'
 | .ret u=>∃ v σ' H',Inv X pins σ' H' s'/\RelV v u/\D.rt v H'
def PE (X:Cx) (e:Expr) (t:TE):Prop :=
 ∀ (pins:zP) (s:Shared) (σ:St) (H:Hp) (Q:VK),Inv X pins σ H s->t σ H Q->wpAny (model X.prog X.w) X.A (eval e X.env) (EP X pins σ Q) X.xe s
def PT (X:Cx) (e:Expr) (t:TT):Prop :=
 ∀ (pins:zP) (s:Shared) (σ:St) (H:Hp) (Q:Bool->Hp->Prop),Inv X pins σ H s->t σ H Q->wpAny (model X.prog X.w) X.A (isTrue e X.env (eval e X.env)) (TP X pins σ Q) X.xe s
def PW (X:Cx) (e:Expr) (t:TT):Prop :=
 ∀ (whole:Sem Value) (pins:zP) (s:Shared) (σ:St) (H:Hp) (Q:Bool->Hp->Prop),Inv X pins σ H s->t σ H Q->wpAny (model X.prog X.w) X.A (isTrue e X.env whole) (TP X pins σ Q) X.xe s
theorem PW.pt {X:Cx}{e:Expr}{t:TT} (h:PW X e t):PT X e t:=h _
def PA (X:Cx) (es:List Expr) (t:TA):Prop :=
 ∀ (pos:Pos) (pins:zP) (s:Shared) (σ:St) (H:Hp) (Q:List V->Hp->Prop),Inv X pins σ H s->t σ H Q->wpAny (model X.prog X.w) X.A (spliced (backTo pos (starEach es X.env))) (AP X pins σ Q) X.xe s
def PS (X:Cx) (st:Stmt) (t:TS):Prop :=
 ∀ (pins:zP) (s:Shared) (σ:St) (H:Hp) (D:Ends),Inv X pins σ H s->t D σ H->wpAny (model X.prog X.w) X.A (exec st X.env) (SP X pins D) X.xe s
def PSs (X:Cx) (st:List Stmt) (t:TS):Prop :=
 ∀ (pins:zP) (s:Shared) (σ:St) (H:Hp) (D:Ends),Inv X pins σ H s->t D σ H->wpAny (model X.prog X.w) X.A (execs st X.env) (SP X pins D) X.xe s
theorem thn {α:Type}{t:Sem α}{Q Q':α->Shared->Prop}{M:Model}{A:Around}{E:zQ}{s:Shared} (h:wpAny M A t Q E s) (hQ : ∀ a s,Q a s->Q' a s):wpAny M A t Q' E s:=wpAny_mono h hQ fun _ _ x=>x
end
section
section
variable {X:Cx}
def tVar (i:Nat):TE:=fun σ H Q=>match σ[i]? with
 | some (some v)=>Q v H
 | _=>False
theorem nb_ {i:Nat}{σ:St}{H:Hp}{Q:VK} (h:tVar i σ H Q) : ∃ v,σ[i]? = some (some v)/\Q v H:=by
 unfold tVar at h;split at h
 ·rename_i v e
  exact ⟨v,e,h⟩
 exact h.elim
def tC (v:V):TE:=fun _ H Q=>Q v H
theorem oP_ {i:Nat}{x:Str}{pos:Pos} (hN:X.N[i]? = some x) (hv:Vis X.env.scope x) (hd:(x == ("__debug__":Str))=false:=by decide) (hcd:(x == ("__classdict__":Str))=false:=by decide):PE X (.Name x pos) (tVar i):=by
 intro pins s σ H Q I h;obtain ⟨v,e,h⟩:=nb_ h;obtain ⟨m,hn,hl⟩:=I.loc;obtain ⟨u,r,l⟩:=hl i x v hN e hv;have fin:EP X pins σ Q u s:=⟨v,H,I,r,h⟩;rcases l with ⟨hk,hm⟩ | ⟨hk,c,hc,hcell⟩
 ·exact wpAny_Name (wpAny_loadName_local I.ok.kind hk hn hm fin) hd
 rcases hk with hk | hk
 ·exact wpAny_Name (wpAny_loadName_cell I.ok.kind hk hc hcell fin) hd
 exact wpAny_Name (wpAny_loadName_free I.ok.kind hk hc hcell fin hcd) hd
theorem ak_ {i j pos}:PE X (.Constant (.int i) j pos) (tC (.int i)):=fun _ _ _ H _ I h=>wpAny_Constant_int ⟨.int i,H,I.tok _,⟨_,rfl⟩,h⟩
theorem iS_ {b j pos}:PE X (.Constant (.bool b) j pos) (tC (.bl b)):=fun _ _ _ H _ I h=>Constant_bool ⟨.bl b,H,I,rfl,h⟩
theorem ke_ {j pos}:PE X (.Constant .none j pos) (tC .non):=fun _ _ _ H _ I h=>Constant_none ⟨.non,H,I,rfl,h⟩
theorem as_ {x j pos}:PE X (.Constant (.str x) j pos) (tC (.str x)):=fun _ _ _ H _ I h=>Calls.Constant_str ⟨.str x,H,I.tok _,⟨_,rfl⟩,h⟩
def Gl (X:Cx) (x:Str):Prop:=X.env.kindOf x=some .globalImplicit
theorem dN_ {E:zQ}{pins:zP}{s:Shared}{σ:St}{H:Hp}{x:Str}{u:Value}{pos:Pos}{Q:zQ} (I:Inv X pins σ H s) (hg:Gl X x) (hm:X.mg x=some u) (h:Q u s)
  (hd:(x == ("__debug__":Str))=false:=by decide):wpAny (model X.prog X.w) X.A (eval (.Name x pos) X.env) Q E s :=
 Calls.Name_function_global I.ok.kind hg (Calls.loadGlobal_global (by rw [I.ok.glob];exact I.mod.glob.keeps I.bk) hm h) hd
theorem dX_ {E:zQ}{pins:zP}{s:Shared}{σ:St}{H:Hp}{x:Str}{u:Value}{pos:Pos}{Q:zQ} (I:Inv X pins σ H s) (hg:Gl X x) (hm:X.mg x=none) (hv:bootBuiltins x=some u) (h:Q u s)
  (hn:x≠"__name__":=by decide) (hd:(x == ("__debug__":Str))=false:=by decide):wpAny (model X.prog X.w) X.A (eval (.Name x pos) X.env) Q E s:=by
 obtain ⟨mb,h1,h2⟩:=I.mod.blt;exact Calls.Name_function_global I.ok.kind hg (Calls.loadGlobal_builtin (by rw [I.ok.glob];exact I.mod.glob.keeps I.bk) hm (by rw [I.ok.blt];exact h1.keeps I.bk) ((h2 x hn).trans hv) h) hd
theorem kh_ {x:Str}{v:V}{u:Value}{pos:Pos} (hg:Gl X x) (hm:X.mg x=some u) (r:RelV v u) (hd:(x == ("__debug__":Str))=false:=by decide):PE X (.Name x pos) (tC v) :=
 fun _ _ _ H _ I h=>dN_ I hg hm ⟨v,H,I,r,h⟩ hd
variable {a b:Expr}{ta tb:TE}{pos:Pos}
def PC (X:Cx) (op:CmpOp) (a b:Expr) (t:TE):Prop :=
 ∀ (pins:zP) (s:Shared) (σ:St) (H:Hp) (Q:VK),Inv X pins σ H s->t σ H Q ->
  wpAny (model X.prog X.w) X.A (eval a X.env) (fun v s₁=>wpAny (model X.prog X.w) X.A (eval b X.env) (fun u s₂=>wpAny (model X.prog X.w) X.A (compareOp op v u) (EP X pins σ Q) X.xe s₂) X.xe s₁) X.xe s
theorem l0_ (b:Expr) {op:CmpOp} (h:op ≠ .In) (h2:op ≠ .NotIn):behindInMarks op b=false:=by
 have e1:(op == CmpOp.In)=false:=by cases op <;> first | rfl | exact absurd rfl h
 have e2:(op == CmpOp.NotIn)=false:=by cases op <;> first | rfl | exact absurd rfl h2
 cases b <;> simp [behindInMarks,e1,e2]
def tIsN (ta:TE):TE:=fun σ H Q=>ta σ H fun x H1=>Q (.bl (decide (x = .non))) H1
def pw_ (ta:TE):TE:=fun σ H Q=>ta σ H fun x H1=>Q (.bl (!decide (x = .non))) H1
theorem RelV.none_iff {x:V}{v:Value} (r:RelV x v):(v == Value.none)=decide (x = .non):=by
 cases x with
 | non=>cases r;rfl
 | bl _=>cases r;rfl
 | int _=>obtain ⟨t,rfl⟩:=r;rfl
 | str _=>obtain ⟨t,rfl⟩:=r;rfl
 | byt _=>obtain ⟨t,rfl⟩:=r;rfl
 | flt _=>obtain ⟨t,rfl⟩:=r;rfl
 | ref _=>cases r;rfl
 | ty _=>cases r;rfl
theorem oT_ {j pos'} (ha:PE X a ta):PC X .Is a (.Constant .none j pos') (tIsN ta):=by
 intro pins s σ H Q I h;refine thn (ha pins s σ H _ I h) fun v s1 zq=>?_;refine x_22 zq fun x H1 I1 r1 q1=>?_;exact Constant_none (is_none_gen ⟨.bl _,H1,I1,by rw [r1.none_iff];rfl,q1⟩)
def tB (t:TE):TT:=fun σ H Q=>t σ H fun x H1=>∃ c,x = .bl c/\Q c H1
theorem mL_ {op:CmpOp}{t:TE} (h:PC X op a b t) (h1:behindInMarks op b=false:=by first | exact l0_ _ (by decide) (by decide) | rfl):PT X (.Compare a [op] [b] pos) (tB t):=by
 intro pins s σ H Q I hw;refine wpAny_isTrue_Compare1 (thn (h pins s σ H _ I hw) fun v s1 h1=>thn h1 fun u s2 h2=>thn h2 fun c s3 zq=>?_) h1;obtain ⟨x,H1,I1,r1,q1⟩:=zq;obtain ⟨d,rfl,q⟩:=q1;cases r1;exact wpAny_truthy_bool ⟨H1,I1,q⟩
theorem cU_ {e:Expr}{t:TE} (h:PE X e t) (he : ∀ whole,isTrue e X.env whole=(do let v <- whole;standAt e.pos;holding [v] (truthy v)):=by intro _;rfl):PT X e (tB t):=by
 intro pins s σ H Q I hw;refine isTrue_plain (thn (h pins s σ H _ I hw) fun v s1 zq=>?_) (he _);obtain ⟨x,H1,I1,r1,q1⟩:=zq;obtain ⟨d,rfl,q⟩:=q1;cases r1;exact wpAny_truthy_bool ⟨H1,I1,q⟩
variable {tA tB':TT}{rest:List Expr}
def tAnd (t u:TT):TT:=fun σ H Q=>t σ H fun c H1=>if c=true then u σ H1 Q else Q false H1
def tOr (t u:TT):TT:=fun σ H Q=>t σ H fun c H1=>if c=true then Q true H1 else u σ H1 Q
def tNot (t:TT):TT:=fun σ H Q=>t σ H fun c H1=>Q (!c) H1
theorem pw_and1 (ha:PT X a tA):PW X (.BoolOp .And [a] pos) tA:=by
 intro wh pins s σ H Q I h;refine isTrue_and (thn (ha pins s σ H Q I h) fun c s1 e=>?_);cases c with
 | true=>exact isTrue_and_nil e
 | false=>exact e
theorem pw_or1 (ha:PT X a tA):PW X (.BoolOp .Or [a] pos) tA:=by
 intro wh pins s σ H Q I h;refine isTrue_or (thn (ha pins s σ H Q I h) fun c s1 e=>?_);cases c with
 | false=>exact isTrue_or_nil e
 | true=>exact e
theorem pw_and (ha:PT X a tA) (hb:PW X (.BoolOp .And (b::rest) pos) tB'):PW X (.BoolOp .And (a::b::rest) pos) (tAnd tA tB'):=by
 intro wh pins s σ H Q I h;refine isTrue_and (thn (ha pins s σ H _ I h) fun c s1 ⟨H1,I1,q1⟩=>?_);cases c with
 | true=>exact hb wh pins s1 σ H1 Q I1 q1
 | false=>exact ⟨H1,I1,q1⟩
theorem pw_or (ha:PT X a tA) (hb:PW X (.BoolOp .Or (b::rest) pos) tB'):PW X (.BoolOp .Or (a::b::rest) pos) (tOr tA tB'):=by
 intro wh pins s σ H Q I h;refine isTrue_or (thn (ha pins s σ H _ I h) fun c s1 ⟨H1,I1,q1⟩=>?_);cases c with
 | true=>exact ⟨H1,I1,q1⟩
 | false=>exact hb wh pins s1 σ H1 Q I1 q1
theorem mK_ (ha:PT X a tA):PT X (.UnaryOp .Not a pos) (tNot tA):=by
 intro pins s σ H Q I h;exact isTrue_not (ha pins s σ H (fun c H1=>Q (!c) H1) I h)
def or_ (ta tb:TE):TE:=fun σ H Q=>ta σ H fun x H1=>∃ c,x = .bl c/\if c=true then tb σ H1 Q else Q (.bl false) H1
def tOrV (ta tb:TE):TE:=fun σ H Q=>ta σ H fun x H1=>∃ c,x = .bl c/\if c=true then Q (.bl true) H1 else tb σ H1 Q
def pv_ (ta:TE):TE:=fun σ H Q=>ta σ H fun x H1=>∃ c,x = .bl c/\Q (.bl (!c)) H1
theorem mO_ {op}{t:TE} (h:PE X a t):PE X (.BoolOp op [a] pos) t:=fun pins s σ H Q I hw=>BoolOp_one (h pins s σ H Q I hw)
theorem oS_ (ha:PE X a ta) (hb:PE X (.BoolOp .And (b::rest) pos) tb):PE X (.BoolOp .And (a::b::rest) pos) (or_ ta tb):=by
 intro pins s σ H Q I h;refine BoolOp_and (thn (ha pins s σ H _ I h) fun v s1 zq=>?_);refine x_22 zq fun x H1 I1 r1 q1=>?_;obtain ⟨c,rfl,q1⟩:=q1;cases r1;refine wpAny_truthy_bool ?_;cases c with
 | true=>exact hb pins s1 σ H1 Q I1 q1
 | false=>exact ⟨.bl false,H1,I1,rfl,q1⟩
theorem oQ_ (ha:PE X a ta) (hb:PE X (.BoolOp .Or (b::rest) pos) tb):PE X (.BoolOp .Or (a::b::rest) pos) (tOrV ta tb):=by
 intro pins s σ H Q I h;refine BoolOp_or (thn (ha pins s σ H _ I h) fun v s1 zq=>?_);refine x_22 zq fun x H1 I1 r1 q1=>?_;obtain ⟨c,rfl,q1⟩:=q1;cases r1;refine wpAny_truthy_bool ?_;cases c with
 | false=>exact hb pins s1 σ H1 Q I1 q1
 | true=>exact ⟨.bl true,H1,I1,rfl,q1⟩
def tIf (t:TT) (ta tb:TE):TE:=fun σ H Q=>t σ H fun c H1=>if c=true then ta σ H1 Q else tb σ H1 Q
theorem cH_ {c:Expr} (hc:PT X c tA) (ha:PE X a ta) (hb:PE X b tb):PE X (.IfExp c a b pos) (tIf tA ta tb):=by
 intro pins s σ H Q I h;refine wpAny_IfExp (thn (hc pins s σ H _ I h) fun d s1 ⟨H1,I1,q1⟩=>?_);cases d with
 | true=>exact ha pins s1 σ H1 Q I1 q1
 | false=>exact hb pins s1 σ H1 Q I1 q1
end
end
section
def SqL (K:Frag) (H:Hp) (a:Addr) (xs:List V):Prop :=
 Rd H a (.lst xs) \/
  ∃ (o:Obj) (its:Array Value) (n:Nat),K.lookup a=some o/\o.cls = .type "list"/\o.dict=none/\o.data = .seq its n/\its.size<=sizeLine/\Vals xs its.toList
def SqT (K:Frag) (H:Hp) (a:Addr) (xs:List V):Prop :=
 Rd H a (.tup xs) \/
  ∃ (o:Obj) (its:Array Value) (n:Nat),K.lookup a=some o/\o.cls = .type "tuple"/\o.data = .seq its n/\its.size<=sizeLine/\Vals xs its.toList
noncomputable def absV:Value->Option V
 | .none=>some .non
 | .bool b=>some (.bl b)
 | .int i _=>some (.int i)
 | .str x _=>some (.str x)
 | .bytes b _=>some (.byt b)
 | .float b _=>some (.flt b)
 | .ref a=>some (.ref a)
 | .type n=>some (.ty n)
 | _=>none
theorem RelV.abs {x:V}{u:Value} (r:RelV x u):absV u=some x:=by
 cases x with
 | non=>cases r;rfl
 | bl _=>cases r;rfl
 | int _=>obtain ⟨t,rfl⟩:=r;rfl
 | str _=>obtain ⟨t,rfl⟩:=r;rfl
 | byt _=>obtain ⟨t,rfl⟩:=r;rfl
 | flt _=>obtain ⟨t,rfl⟩:=r;rfl
 | ref _=>cases r;rfl
 | ty _=>cases r;rfl
theorem RelV.inj {x y:V}{u:Value} (r:RelV x u) (q:RelV y u):x=y:=Option.some.inj (r.abs.symm.trans q.abs)
theorem Vals.inj : ∀ {xs ys:List V}{us:List Value},Vals xs us->Vals ys us->xs=ys
 | _,_,_,.nil,.nil=>rfl
 | _,_,_,.cons r t,.cons r' t'=>by rw [r.inj r',Vals.inj t t']
section
variable {X:Cx}{pins:zP}{σ:St}{H:Hp}{s:Shared}{a:Addr}{xs ys:List V}
theorem SqL.of {K:Frag} (h:H a=some (.lst xs)):SqL K H a xs := .inl (.inl h)
theorem SqT.of {K:Frag} (h:H a=some (.tup xs)):SqT K H a xs := .inl (.inl h)
theorem Inv.list (I:Inv X pins σ H s) (h:SqL X.K H a xs) : ∃ its:List Value,Vals xs its/\PlainL s.heap a its.toArray/\xs.length<=sizeLine:=by
 rcases h with h | ⟨o,its,n,hk,hc,hd,hs,hz,r⟩
 ·refine x_01 (h.ok I.hok) fun z zz0=>?_
  refine x_21 zz0 fun its n r e=>?_;exact ⟨its,r,⟨_,n,e,rfl,rfl,rfl⟩,z⟩
 refine ⟨its.toList,r,⟨o,n,I.kIn a o hk,hc,hd,by simpa using hs⟩,?_⟩;have e:=r.length;simp only [Array.length_toList] at e;omega
theorem Inv.tuple (I:Inv X pins σ H s) (h:SqT X.K H a xs) : ∃ its:List Value,Vals xs its/\IsTup s.heap a its.toArray/\xs.length<=sizeLine:=by
 rcases h with h | ⟨o,its,n,hk,hc,hs,hz,r⟩
 ·refine x_01 (h.ok I.hok) fun z zz0=>?_
  refine x_11 zz0 fun its r p=>?_;exact ⟨its,r,p,z⟩
 refine ⟨its.toList,r,⟨o,I.kIn a o hk,hc,n,by simpa using hs⟩,?_⟩;have e:=r.length;simp only [Array.length_toList] at e;omega
theorem Inv.list_inj (I:Inv X pins σ H s) (h:SqL X.K H a xs) (h':SqL X.K H a ys):xs=ys:=by
 obtain ⟨its,r,⟨o,n,e,_,_,d⟩,_⟩:=I.list h;obtain ⟨its',r',⟨o',n',e',_,_,d'⟩,_⟩:=I.list h';rw [e] at e';cases e';rw [d] at d';injection d' with d1 _;have:its=its':=by simpa using congrArg Array.toList d1
 subst this;exact r.inj r'
theorem Inv.tuple_inj (I:Inv X pins σ H s) (h:SqT X.K H a xs) (h':SqT X.K H a ys):xs=ys:=by
 obtain ⟨its,r,⟨o,e,_,n,d⟩,_⟩:=I.tuple h;obtain ⟨its',r',⟨o',e',_,n',d'⟩,_⟩:=I.tuple h';rw [e] at e';cases e';rw [d] at d';injection d' with d1 _;have:its=its':=by simpa using congrArg Array.toList d1
 subst this;exact r.inj r'
end
abbrev Cx.wish (X:Cx) (E:zQ):Cx:={ X with xe:=E }
abbrev Cx.nox (X:Cx):Cx:=X.wish fun _ _=>False
theorem Cx.Ok.wish {X:Cx} (ok:X.Ok) (E:zQ):(X.wish E).Ok :=
 ⟨ok.mod,ok.kind,ok.glob,ok.blt,ok.above,ok.inj,ok.has,ok.cab,ok.hd,ok.frames,ok.stk,ok.exf,ok.bs,ok.bsz,ok.noex,ok.exfs,ok.funs,ok.frf⟩
theorem Cx.Ok.unwish {X:Cx}{E:zQ} (ok:(X.wish E).Ok):X.Ok :=
 ⟨ok.mod,ok.kind,ok.glob,ok.blt,ok.above,ok.inj,ok.has,ok.cab,ok.hd,ok.frames,ok.stk,ok.exf,ok.bs,ok.bsz,ok.noex,ok.exfs,ok.funs,ok.frf⟩
section
variable {X:Cx}{pins:zP}{σ:St}{H:Hp}{s:Shared}{E:zQ}
theorem Inv.wish (I:Inv X pins σ H s) (E:zQ):Inv (X.wish E) pins σ H s:=⟨I.ok.wish E,I.os,I.bare,I.base,I.loc,I.cell,I.free,I.freeC,I.pin,I.hok,I.len⟩
theorem Inv.unwish (I:Inv (X.wish E) pins σ H s):Inv X pins σ H s:=⟨I.ok.unwish,I.os,I.bare,I.base,I.loc,I.cell,I.free,I.freeC,I.pin,I.hok,I.len⟩
theorem SP.unwish {D:Ends}{f:Flow}{s':Shared} (h:SP (X.wish E) pins D f s'):SP X pins D f s':=by
 cases f with
 | next=>obtain ⟨σ',H',I,q⟩:=h;exact ⟨σ',H',I.unwish,q⟩
 | brk=>obtain ⟨σ',H',I,q⟩:=h;exact ⟨σ',H',I.unwish,q⟩
 | cont=>obtain ⟨σ',H',I,q⟩:=h;exact ⟨σ',H',I.unwish,q⟩
 | ret u=>obtain ⟨v,σ',H',I,r,q⟩:=h;exact ⟨v,σ',H',I.unwish,r,q⟩
theorem PSs.nox {st:List Stmt}{t:TS} (h:PSs X.nox st t):PSs X st t:=fun pins s σ H D I hw =>
 wpAny_mono (h pins s σ H D (I.wish _) hw) (fun _ _ q=>q.unwish) fun _ _ z=>False.elim z
end
section
variable {X:Cx}{st:Stmt}{rest:List Stmt}{t u:TS}{e:Expr}{te:TE}{pos:Pos}
def nc_:TS:=fun D σ H=>D.nx σ H
def tSeq (t u:TS):TS:=fun D σ H=>t { D with nx:=u D } σ H
theorem ar_:PSs X [] nc_:=fun _ _ σ H _ I h=>wpAny_execs_nil ⟨σ,H,I,h⟩
theorem ab_ (h1:PS X st t) (h2:PSs X rest u):PSs X (st::rest) (tSeq t u):=by
 intro pins s σ H D I h;refine wpAny_execs_cons (thn (h1 pins s σ H { D with nx:=u D } I h) fun f s1 q=>?_);cases f with
 | next =>
  refine x_21 q fun σ' H' I' q=>?_;exact h2 pins s1 σ' H' D I' q
 | ret v=>exact q
 | brk=>exact q
 | cont=>exact q
theorem ae_ (h1:PS X st t):PSs X [st] t:=by
 intro pins s σ H D I h;refine wpAny_execs_cons (thn (h1 pins s σ H D I h) fun f s1 q=>?_);cases f with
 | next=>exact wpAny_execs_nil q
 | ret v=>exact q
 | brk=>exact q
 | cont=>exact q
theorem Inv.quiet {pins:zP}{σ:St}{H:Hp}{s:Shared} (I:Inv X pins σ H s):interactive X.env=false:=by simp [interactive,I.ok.kind]
def oq_ (te:TE):TS:=fun D σ H=>te σ H fun _ H1=>D.nx σ H1
theorem aE_ (he:PE X e te) (hs:swapsWith e none pos.line X.env=pure false:=by rfl):PS X (.Expr e pos) (oq_ te):=by
 intro pins s σ H D I h;exact wpAny_Expr_any (thn (he pins s σ H _ I h) fun v s1 ⟨x,H1,I1,r1,q1⟩=>⟨σ,H1,I1,q1⟩) I.quiet hs
def tRet (te:TE):TS:=fun D σ H=>te σ H D.rt
theorem an_ (he:PE X e te):PS X (.Return (some e) pos) (tRet te):=by
 intro pins s σ H D I h;exact wpAny_Return_some (thn (he pins s σ H _ I h) fun v s1 ⟨x,H1,I1,r1,q1⟩=>⟨x,σ,H1,I1,r1,q1⟩)
def pu_:TS:=fun D _ H=>D.rt .non H
def tIfS (c:TT) (t u:TS):TS:=fun D σ H=>c σ H fun b H1=>if b=true then t D σ H1 else u D σ H1
theorem aJ_ {c:Expr}{a b:List Stmt}{tc:TT} (hc:PT X c tc) (ha:PSs X a t) (hb:PSs X b u):PS X (.If c a b pos) (tIfS tc t u):=by
 intro pins s σ H D I h;refine wpAny_If (thn (hc pins s σ H _ I h) fun d s1 ⟨H1,I1,q1⟩=>?_);cases d with
 | true=>exact ha pins s1 σ H1 D I1 q1
 | false=>exact hb pins s1 σ H1 D I1 q1
end
abbrev TG:=V->St->Hp->(St->Hp->Prop)->Prop
abbrev TGs:=List V->St->Hp->(St->Hp->Prop)->Prop
def PG (X:Cx) (target:Expr) (t:TG):Prop :=
 ∀ (pins:zP) (s:Shared) (σ:St) (H:Hp) (v:V) (u:Value) (Q:St->Hp->Prop),Inv X pins σ H s->RelV v u->t v σ H Q ->
  wpAny (model X.prog X.w) X.A (assign target X.env u) (fun _ s'=>∃ σ' H',Inv X pins σ' H' s'/\Q σ' H') X.xe s
def PGs (X:Cx) (ts:List Expr) (t:TGs):Prop :=
 ∀ (pins:zP) (s:Shared) (σ:St) (H:Hp) (vs:List V) (us:List Value) (Q:St->Hp->Prop),Inv X pins σ H s->Vals vs us->t vs σ H Q ->
  wpAny (model X.prog X.w) X.A (assignInOrder ((assignEach ts X.env).map (·.2)) us) (fun _ s'=>∃ σ' H',Inv X pins σ' H' s'/\Q σ' H') X.xe s
abbrev TIp:=V->V->Hp->VK->Prop
def PIp (X:Cx) (op:Operator) (t:TIp):Prop :=
 ∀ (pins:zP) (s:Shared) (σ:St) (H:Hp) (x y:V) (v u:Value) (Q:VK),Inv X pins σ H s->RelV x v->RelV y u->t x y H Q ->
  wpAny (model X.prog X.w) X.A (inplaceOp op v u) (EP X pins σ Q) X.xe s
section
variable {X:Cx}{pos:Pos}
def dQ_ (i:Nat):TG:=fun v σ H Q=>Q (σ.set i (some v)) H
theorem kd_ {i:Nat}{x:Str} (hN:X.N.Nodup) (hi:X.N[i]? = some x) (hx:Loc X.env.scope x) (hf:X.fn x=true\/X.env.scope.names.lookup x=some .local:=by first | exact .inl rfl | exact .inr rfl | assumption):PG X (.Name x pos) (dQ_ i):=by
 intro pins s σ H v u Q I r h;exact wpAny_assign_Name (eb_ I hN hi hx r (fun s' I'=>⟨_,H,I',h⟩) hf)
def gNil:TGs:=fun vs σ H Q=>vs=[]/\Q σ H
def o9_ (t:TG) (u:TGs):TGs:=fun vs σ H Q=>∃ v r,vs=v::r/\t v σ H fun σ' H'=>u r σ' H' Q
theorem nz_:PGs X [] gNil:=by
 intro pins s σ H vs us Q I r h;obtain ⟨e,h⟩:=h;subst e;cases r;exact assignInOrder_nil ⟨σ,H,I,h⟩
theorem ig_ {e:Expr}{es:List Expr}{t:TG}{u:TGs} (h1:PG X e t) (h2:PGs X es u)
  (hs:(assignEach (e::es) X.env).map (·.2)=assign e X.env::(assignEach es X.env).map (·.2):=by rfl):PGs X (e::es) (o9_ t u):=by
 intro pins s σ H vs us Q I r h;obtain ⟨v,vr,e1,h⟩:=h;subst e1;cases r with
 | cons r rr =>
 rw [hs];refine assignInOrder_cons (thn (h1 pins s σ H _ _ _ I r h) fun _ s1 ⟨σ1,H1,I1,q1⟩=>?_);exact h2 pins s1 σ1 H1 _ _ Q I1 rr q1
def gTup (K:Frag) (n:Nat) (t:TGs):TG:=fun v σ H Q=>∃ a xs,v = .ref a/\SqT K H a xs/\xs.length=n/\t xs σ H Q
theorem oO_ {es:List Expr}{k:Nat}{t:TGs}{n:Nat} (hc:X.calm=true) (h:PGs X es t)
  (hn:(assignEach es X.env).length=n:=by rfl) (hst:(assignEach es X.env).findIdx? (·.1)=none:=by rfl):PG X (.Tuple es k pos) (gTup X.K n t):=by
 intro pins s σ H v u Q I r hw;obtain ⟨a,xs,e1,hq,hl,hw⟩:=hw;subst e1;cases r;obtain ⟨its,rv,ht,hz⟩:=I.tuple hq;refine assign_Tuple_tuple (I.ok.hd hc) ht (by simp [hn,<- hl,rv.length]) hst fun h' hx=>?_;have I1:Inv X pins σ H { s with heap:=h' }:=I.kept (t':=s.toks) fun b o e=>hx b o (Nat.ne_of_lt (lt_size e)) e;exact h pins _ σ H xs _ Q I1 (by simpa using rv) hw
def tAsg (te:TE) (g:TG):TS:=fun D σ H=>te σ H fun x H1=>g x σ H1 D.nx
theorem ia_ {i:Nat}{x:Str}{e:Expr}{te:TE}{pos':Pos} (hN:X.N.Nodup) (hi:X.N[i]? = some x) (hx:Loc X.env.scope x) (he:PE X e te) (hs:swapsWith e (some (.Name x pos')) pos.line X.env=pure false:=by rfl) (hf:X.fn x=true\/X.env.scope.names.lookup x=some .local:=by first | exact .inl rfl | exact .inr rfl | assumption) :
  PS X (.Assign [.Name x pos'] e pos) (tAsg te (dQ_ i)):=by
 intro pins s σ H D I h;refine wpAny_Assign_Name (thn (he pins s σ H _ I h) fun v s1 zq=>?_) hs;refine x_22 zq fun y H1 I1 r1 q1=>?_;exact eb_ I1 hN hi hx r1 (fun s2 I2=>⟨_,H1,I2,q1⟩) hf
def tAug (i:Nat) (te:TE) (ti:TIp):TS:=fun D σ H=>∃ x,σ[i]? = some (some x)/\te σ H fun y H1=>ti x y H1 fun z H2=>D.nx (σ.set i (some z)) H2
theorem mM_ {i:Nat}{x:Str}{e:Expr}{te:TE}{op:Operator}{ti:TIp}{pos':Pos} (hN:X.N.Nodup) (hi:X.N[i]? = some x) (hx:Loc X.env.scope x) (he:PE X e te) (ho:PIp X op ti) (hf:X.fn x=true\/X.env.scope.names.lookup x=some .local:=by first | exact .inl rfl | exact .inr rfl | assumption) :
  PS X (.AugAssign (.Name x pos') op e pos) (tAug i te ti):=by
 intro pins s σ H D I h;obtain ⟨v,e1,h⟩:=h;obtain ⟨m,hn,hl⟩:=I.loc;have vis:Vis X.env.scope x:=by rcases hx with k | k;exact .inl k;exact .inr (.inl k)
 obtain ⟨u,r,l⟩:=hl i x v hi e1 vis;refine wpAny_AugAssign_Name ?_;have go:wpAny (model X.prog X.w) X.A (eval e X.env) (fun w s₂=>wpAny (model X.prog X.w) X.A (inplaceOp op u w) (fun r s₃=>wpAny (model X.prog X.w) X.A (storeName X.env x r) (fun _=>SP X pins D .next) X.xe s₃) X.xe s₂) X.xe s:=by
  refine thn (he pins s σ H _ I h) fun w s1 zq=>?_;refine x_22 zq fun y H1 I1 r1 q1=>?_;refine thn (ho pins s1 σ H1 v y u w _ I1 r r1 q1) fun z s2 zq=>?_;refine x_22 zq fun zv H2 I2 r2 q2=>?_;exact eb_ I2 hN hi hx r2 (fun s3 I3=>⟨_,H2,I3,q2⟩) hf
 rcases l with ⟨hk,hm⟩ | ⟨hk,c,hc,hcell⟩
 ·exact wpAny_loadName_local I.ok.kind hk hn hm go
 rcases hk with hk | hk
 ·exact wpAny_loadName_cell I.ok.kind hk hc hcell go
 rcases hx with k | k
 ·have:X.env.scope.names.lookup x=some .free:=hk
  rw [k] at this;cases this
 have:X.env.scope.names.lookup x=some .free:=hk;rw [k] at this;cases this
def ipI (f:Int->Int->Int):TIp:=fun x y H Q=>∃ i j,x = .int i/\y = .int j/\Q (.int (f i j)) H
theorem mS_:PIp X .Add (ipI fun i j=>i+j):=by
 intro pins s σ H x y v u Q I r1 r2 h;refine x_22 h fun i j e1 e2 q=>?_;subst e1;subst e2;obtain ⟨t,rfl⟩:=r1;obtain ⟨t',rfl⟩:=r2;exact iadd_int ⟨.int _,H,I.tok _,⟨_,rfl⟩,q⟩
end
section
variable {X:Cx}{pos:Pos}
def mv_ (c:TT) (tb:TS):TS:=fun D σ H=>∃ W:Nat->St->Hp->Prop,(∃ m,W m σ H)/\∀ m σ H,W m σ H ->
 c σ H fun b H1=>if b=true then ∃ N:St->Hp->Prop,(∀ σ' H',N σ' H'->∃ m',m'<m/\W m' σ' H')/\tb { D with nx:=N,ct:=N,bk:=D.nx } σ H1 else D.nx σ H1
theorem bI_ {c:Expr}{body:List Stmt}{tc:TT}{tb:TS} (hp:PassesOwn (model X.prog X.w) X.A X.env X.xe) (hc:PT X c tc) (hb:PSs X body tb):PS X (.While c body [] pos) (mv_ tc tb):=by
 intro pins s σ H D I h;obtain ⟨W,⟨m0,w0⟩,turn⟩:=h;refine wpAny_While (codeAny_whileLoop (fun n s'=>∃ σ' H',Inv X pins σ' H' s'/\W n σ' H') ?_ m0 ⟨σ,H,I,w0⟩)
 rintro n s1 ⟨σ1,H1,I1,w1⟩
 refine wpAny_passesOwn hp (thn (hc pins s1 σ1 H1 _ I1 (turn n σ1 H1 w1)) fun b s2 ⟨H2,I2,q2⟩=>?_);cases b with
 | true =>
  obtain ⟨N,hN,q2⟩:=q2;rw [if_pos rfl];refine wpAny_passesOwn hp (thn (hb pins s2 σ1 H2 _ I2 q2) fun f s3 q3=>?_);cases f with
  | next =>
   refine x_21 q3 fun σ3 H3 I3 n3=>?_;obtain ⟨m',hm,w3⟩:=hN σ3 H3 n3;exact ⟨m',hm,σ3,H3,I3,w3⟩
  | cont =>
   refine x_21 q3 fun σ3 H3 I3 n3=>?_;obtain ⟨m',hm,w3⟩:=hN σ3 H3 n3;exact ⟨m',hm,σ3,H3,I3,w3⟩
  | brk=>exact q3
  | ret v=>exact q3
 | false =>
 rw [if_neg Bool.false_ne_true];exact wpAny_execs_nil ⟨σ1,H2,I2,q2⟩
end
structure It where
 go:Nat->Hp->Prop
 yld:Nat->Hp->V->Hp->Prop
 stop:Nat->Hp->Prop
def FpOk (X:Cx) (pins:zP) (H:Hp) (b:Addr):Prop :=
 H b=none/\b≠X.env.locals/\b∉X.fs/\(b∈X.ex\/X.s_0.heap.objs.size<=b)/\(∀ x c,X.env.cells.lookup x=some c->c≠b)/\∀ p∈X.pn++pins,p.1≠b
theorem Inv.fpOk {X:Cx}{pins:zP}{σ:St}{H H':Hp}{s:Shared}{b:Addr} (I:Inv X pins σ H s) (hb:s.heap.objs.size<=b) (hn:H' b=none):FpOk X pins H' b:=by
 refine ⟨hn,ne_of_gt (Nat.lt_of_lt_of_le I.lt hb),I.nofs hb,.inr (Nat.le_trans I.sz hb),fun x c e z=>?_,fun p hp z=>?_⟩
 ·obtain ⟨v,q⟩:=I.cell x c e
  exact absurd (Nat.lt_of_lt_of_le q.lt (by rw [z];exact hb)) (Nat.lt_irrefl _)
 exact absurd (Nat.lt_of_lt_of_le (lt_size (I.pin p hp).1) (by rw [z];exact hb)) (Nat.lt_irrefl _)
structure Turn (P:Program) (w:World) (K:Frag) (tg:Expr) (J:It) (fp:List Addr) (it:Addr) (tn:Nat->Heap->Prop):Prop where
 mem:it∈fp
 obj : ∀ i h,tn i h->∀ b∈fp,∃ o,h.get? b=some o/\∀ v,o.data ≠ .cell v
 keep : ∀ i h h',tn i h->(∀ b∈fp,∀ o,h.get? b=some o->h'.get? b=some o)->tn i h'
 item : ∀ (X:Cx),X.prog=P->X.w=w->X.K=K->X.calm=true->∀ (i:Nat) (pins:zP) (s:Shared) (σ:St) (H:Hp) (E:zQ),Inv X pins σ H s->(∀ b∈fp,FpOk X pins H b)->tn i s.heap->J.go i H ->
  wpAny (model P w) X.A (pyNext (.ref it)) (fun r s1=>∃ u,r=some u /\
   wpAny (model P w) X.A (letOwnedTupleGo tg (.ref it) u) (fun _ s2=>∃ x H',Inv X pins σ H' s2/\RelV x u/\J.yld i H x H'/\tn (i+1) s2.heap/\∀ b∈fp,H' b=none) E s1) E s
 done : ∀ (X:Cx),X.prog=P->X.w=w->X.K=K->X.calm=true->∀ (i:Nat) (pins:zP) (s:Shared) (σ:St) (H:Hp) (E:zQ),Inv X pins σ H s->(∀ b∈fp,FpOk X pins H b)->tn i s.heap->J.stop i H ->
  wpAny (model P w) X.A (pyNext (.ref it)) (fun r s1=>r=none/\Inv X pins σ H s1) E s
 self : ∀ (A:Around) (i:Nat) (s:Shared) (Q:zQ) (E:zQ),tn i s.heap->Q (.ref it) s->wpAny (model P w) A (pyIter (.ref it)) Q E s
abbrev TI:=St->Hp->(It->Hp->Prop)->Prop
def PIE (X:Cx) (pins:zP) (σ:St) (tg:Expr) (R:It->Hp->Prop) (itv:Value) (s2:Shared):Prop :=
 ∃ (it:Addr) (fp:List Addr) (tn:Nat->Heap->Prop) (J:It) (H':Hp),itv = .ref it/\Inv X pins σ H' s2/\Turn X.prog X.w X.K tg J fp it tn/\tn 0 s2.heap/\(∀ b∈fp,FpOk X pins H' b)/\R J H'
def PI (X:Cx) (tg iter:Expr) (wi:TI):Prop :=
 ∀ (pins:zP) (s:Shared) (σ:St) (H:Hp) (R:It->Hp->Prop),Inv X pins σ H s->wi σ H R ->
  wpAny (model X.prog X.w) X.A (eval iter X.env) (fun v s1=>wpAny (model X.prog X.w) X.A (pyIter v) (PIE X pins σ tg R) X.xe s1) X.xe s
theorem kN_ {M:Model}{A:Around}{E:zQ}{s:Shared}{tg:Expr}{it:Addr}{u:Value}{o:Obj}{n:String}{vs:Array Value}{Q:Unit->Shared->Prop} (ho:s.heap.get? it=some o) (hc:o.cls = .type n) (hd:o.data = .fields vs)
  (hn:["enumerate","zip","dict_itemiterator","dict_reverseitemiterator","odict_iterator","itertools.zip_longest","itertools.pairwise"].contains n=false) (hQ:Q () s):wpAny M A (letOwnedTupleGo tg (.ref it) u) Q E s:=by
 unfold letOwnedTupleGo;cases tg <;> first
  | exact wpAny_pure hQ
  | (cases u <;> first
    | exact wpAny_pure hQ
    | (refine wpAny_bind (wpAny_load ho ?_)
       rw [hc,hd];show wpAny M A (if (["enumerate","zip","dict_itemiterator","dict_reverseitemiterator","odict_iterator","itertools.zip_longest","itertools.pairwise"].contains n && vs[0]? == some (rawInt _))=true then _ else _) Q E s;rw [if_neg (by intro h;rw [hn,Bool.false_and] at h;cases h)];exact wpAny_pure hQ))
def Itl (K:Frag) (a:Addr):It :=
 ⟨fun i H=>∃ xs x,SqL K H a xs/\xs[i]? = some x,fun i H x H'=>H'=H/\∀ xs,SqL K H a xs->xs[i]? = some x,fun i H=>∃ xs,SqL K H a xs/\xs.length<=i⟩
def Itt (K:Frag) (a:Addr):It :=
 ⟨fun i H=>∃ xs x,SqT K H a xs/\xs[i]? = some x,fun i H x H'=>H'=H/\∀ xs,SqT K H a xs->xs[i]? = some x,fun i H=>∃ xs,SqT K H a xs/\xs.length<=i⟩
theorem gn_ {P:Program}{w:World}{K:Frag}{tg:Expr} (a it:Addr):Turn P w K tg (Itl K a) [it] it (fun i h=>h.IsListIter it a i) where
 mem:=by simp
 obj:=fun i h st b hb=>by
  have e:b=it:=by simpa using hb
  subst e;refine x_12 st fun o e c d=>?_;exact ⟨o,e,fun v z=>by rw [d] at z;cases z⟩
 keep:=fun i h h' st k=>st.at fun o e=>k it (by simp) o e
 item:=by
  intro X hP hw hK hc i pins s σ H E I hf st hg;subst hP hw hK;refine x_21 hg fun xs x hq hx=>?_;refine x_12 (I.list hq) fun its rv p hz=>?_;obtain ⟨u,hu,ru⟩:=rv.get hx;obtain ⟨f0,f1,f2,f3,f4,f5⟩:=hf it (by simp);refine wpAny_pyNext_list_item st p.isList (x:=u) (by simpa using hu) fun h' st' sb=>?_;have I1:Inv X pins σ H { s with heap:=h' }:=I.turned (t':=s.toks) (fun b o hb e=>(sb.2 b hb).trans e) f0 f1 f3 f4 f5;refine x_12 (id st') fun o e c d=>?_;exact ⟨u,rfl,kN_ (s:={ s with heap:=h' }) e c d (by decide) ⟨x,H,I1,ru,⟨rfl,fun ys hy=>by rw [I.list_inj hy hq];exact hx⟩,st',fun b hb=>(hf b hb).1⟩⟩
 done:=by
  intro X hP hw hK hc i pins s σ H E I hf st hg;subst hP hw hK;obtain ⟨xs,hq,hx⟩:=hg;refine x_12 (I.list hq) fun its rv p hz=>?_;obtain ⟨f0,f1,f2,f3,f4,f5⟩:=hf it (by simp);have hl:=rv.length;exact wpAny_pyNext_list_end (I.ok.hd hc) st p.isList (by simp;omega) fun h' eb=>⟨rfl,I.turned (t':=s.toks) (fun b o hb e=>eb b o hb e) f0 f1 f3 f4 f5⟩
 self:=fun _ _ _ _ _ st h=>wpAny_pyIter_listiter st h
theorem iK_ {P:Program}{w:World}{K:Frag}{tg:Expr} (a it:Addr):Turn P w K tg (Itt K a) [it] it (fun i h=>h.IsTupleIter it a i) where
 mem:=by simp
 obj:=fun i h st b hb=>by
  have e:b=it:=by simpa using hb
  subst e;refine x_12 st fun o e c d=>?_;exact ⟨o,e,fun v z=>by rw [d] at z;cases z⟩
 keep:=fun i h h' st k=>st.at fun o e=>k it (by simp) o e
 item:=by
  intro X hP hw hK hc i pins s σ H E I hf st hg;subst hP hw hK;refine x_21 hg fun xs x hq hx=>?_;refine x_12 (I.tuple hq) fun its rv p hz=>?_;obtain ⟨u,hu,ru⟩:=rv.get hx;obtain ⟨f0,f1,f2,f3,f4,f5⟩:=hf it (by simp);refine wpAny_pyNext_tuple_item st (show s.heap.IsTuple a its.toArray from p) (x:=u) (by simpa using hu) fun h' st' sb=>?_;have I1:Inv X pins σ H { s with heap:=h' }:=I.turned (t':=s.toks) (fun b o hb e=>(sb.2 b hb).trans e) f0 f1 f3 f4 f5;refine x_12 (id st') fun o e c d=>?_;exact ⟨u,rfl,kN_ (s:={ s with heap:=h' }) e c d (by decide) ⟨x,H,I1,ru,⟨rfl,fun ys hy=>by rw [I.tuple_inj hy hq];exact hx⟩,st',fun b hb=>(hf b hb).1⟩⟩
 done:=by
  intro X hP hw hK hc i pins s σ H E I hf st hg;subst hP hw hK;obtain ⟨xs,hq,hx⟩:=hg;refine x_12 (I.tuple hq) fun its rv p hz=>?_;obtain ⟨f0,f1,f2,f3,f4,f5⟩:=hf it (by simp);have hl:=rv.length;exact wpAny_pyNext_tuple_end (I.ok.hd hc) st (show s.heap.IsTuple a its.toArray from p) (by simp;omega) fun h' eb=>⟨rfl,I.turned (t':=s.toks) (fun b o hb e=>eb b o hb e) f0 f1 f3 f4 f5⟩
 self:=fun _ _ _ _ _ st h=>wpAny_pyIter_tupleiter st h
end
section
section
variable {X:Cx}{tg:Expr}
def l7_ (K:Frag) (tl:TE):TI:=fun σ H R=>tl σ H fun x H1=>∃ a,x = .ref a/\(∃ xs,SqL K H1 a xs)/\R (Itl K a) H1
def iTup (K:Frag) (tl:TE):TI:=fun σ H R=>tl σ H fun x H1=>∃ a,x = .ref a/\(∃ xs,SqT K H1 a xs)/\R (Itt K a) H1
theorem ht_ {l:Expr}{tl:TE} (hl:PE X l tl):PI X tg l (l7_ X.K tl):=by
 intro pins s σ H R I h;refine thn (hl pins s σ H _ I h) fun v s1 zq=>?_;obtain ⟨x,H1,I1,r1,q1⟩:=zq;obtain ⟨a,e,⟨xs,hq⟩,q⟩:=q1;subst e;cases r1;refine x_12 (I1.list hq) fun its rv p hz=>?_;refine wpAny_pyIter_list p.isList ?_;refine ⟨s1.heap.objs.size,[s1.heap.objs.size],_,_,H1,rfl,I1.kept (t':=s1.toks) fun b o e=>get?_push_of_some _ e,gn_ a _,⟨_,get?_push_size _ rfl,rfl,rfl⟩,fun b hb=>?_,q⟩;have e:b=s1.heap.objs.size:=by simpa using hb
 subst e;exact I1.fpOk (Nat.le_refl _) (I1.hok.fresh (Nat.le_refl _))
theorem oN_ {l:Expr}{tl:TE} (hl:PE X l tl):PI X tg l (iTup X.K tl):=by
 intro pins s σ H R I h;refine thn (hl pins s σ H _ I h) fun v s1 zq=>?_;obtain ⟨x,H1,I1,r1,q1⟩:=zq;obtain ⟨a,e,⟨xs,hq⟩,q⟩:=q1;subst e;cases r1;refine x_12 (I1.tuple hq) fun its rv p hz=>?_;refine wpAny_pyIter_tuple (show s1.heap.IsTuple a its.toArray from p) ?_;refine ⟨s1.heap.objs.size,[s1.heap.objs.size],_,_,H1,rfl,I1.kept (t':=s1.toks) fun b o e=>get?_push_of_some _ e,iK_ a _,⟨_,get?_push_size _ rfl,rfl,rfl⟩,fun b hb=>?_,q⟩;have e:b=s1.heap.objs.size:=by simpa using hb
 subst e;exact I1.fpOk (Nat.le_refl _) (I1.hok.fresh (Nat.le_refl _))
def tFor (wi:TI) (g:TG) (tb:TS):TS:=fun D σ H=>wi σ H fun J H1=>∃ W:Nat->Nat->St->Hp->Prop,(∃ m,W 0 m σ H1)/\∀ i m σ H,W i m σ H ->
 (J.stop i H/\D.nx σ H)\/(J.go i H/\∃ N:St->Hp->Prop,(∀ σ' H',N σ' H'->∃ m',m'<m/\W (i+1) m' σ' H')/\∀ x H',J.yld i H x H'->g x σ H' fun σ2 H2=>tb { D with nx:=N,ct:=N,bk:=D.nx } σ2 H2)
noncomputable def fg_ (fp:List Addr) (h:Heap):zP:=fp.filterMap fun b=>(h.get? b).map fun o=>(b,o)
theorem bY_ {fp:List Addr}{h:Heap}{b:Addr}{o:Obj} (hb:b∈fp) (e:h.get? b=some o):(b,o)∈fg_ fp h:=List.mem_filterMap.mpr ⟨b,hb,by rw [e];rfl⟩
theorem km_ {fp:List Addr}{h:Heap}{p:Addr×Obj} (hp:p∈fg_ fp h):p.1∈fp/\h.get? p.1=some p.2:=by
 obtain ⟨b,hb,e⟩:=List.mem_filterMap.mp hp;cases q:h.get? b with
 | none=>rw [q] at e;cases e
 | some o =>
 rw [q] at e;have e':(b,o)=p:=Option.some.inj e;subst e';exact ⟨hb,q⟩
theorem Inv.pinned {pins:zP}{σ:St}{H:Hp}{s:Shared}{fp:List Addr} (I:Inv X pins σ H s) (hf : ∀ b∈fp,FpOk X pins H b) (ho : ∀ b∈fp,∃ o,s.heap.get? b=some o/\∀ v,o.data ≠ .cell v):Inv X (pins++fg_ fp s.heap) σ H s :=
 I.pins_of fun p hp=>(mem_append.mp hp).elim (fun z=>I.pin p (mem_append_right _ z)) fun z=>by
  obtain ⟨hb,e⟩:=km_ z;refine x_03 (hf p.1 hb) fun f0 f1 f2 _=>?_;obtain ⟨o,e',d⟩:=ho p.1 hb;rw [e] at e';cases e';exact ⟨e,f0,f1,f2,d⟩
theorem Inv.unpinned {pins pl:zP}{σ:St}{H:Hp}{s:Shared} (I:Inv X (pins++pl) σ H s):Inv X pins σ H s:=I.pins_of fun p hp=>I.pin p (mem_append_right _ (mem_append_left _ hp))
theorem dV_ {iter:Expr}{body:List Stmt}{wi:TI}{g:TG}{tb:TS}{pos:Pos} (hp:PassesOwn (model X.prog X.w) X.A X.env X.xe) (hc:X.calm=true) (hi:PI X tg iter wi) (hg:PG X tg g) (hb:PSs X body tb)
  (hs : ∀ x,foldedSetIterable iter X.env x=pure x:=by intro _;rfl):PS X (.For tg iter body [] pos) (tFor wi g tb):=by
 intro pins s σ H D I h;refine wpAny_For (thn (hi pins s σ H _ I h) fun v s1 h1=>thn h1 fun itv s2 h2=>?_) hs;refine x_50 h2 fun it fp tn J H2 zy=>x_05 zy fun e I2 T st2 f2 zz0=>?_;refine x_11 zz0 fun W zn11 turn=>?_;obtain ⟨m0,w0⟩:=zn11;subst e;have stat : ∀ {H':Hp},(∀ b∈fp,H' b=none)->∀ b∈fp,FpOk X pins H' b:=fun hn b hb=>⟨hn b hb,(f2 b hb).2⟩;refine codeAny_forLoop_any (fun n s'=>∃ i σ' H',Inv X pins σ' H' s'/\tn i s'.heap/\(∀ b∈fp,H' b=none)/\W i n σ' H') ?_ m0 ⟨0,σ,H2,I2,st2,fun b hb=>(f2 b hb).1,w0⟩
 rintro n s3 ⟨i,σ3,H3,I3,st3,fr3,w3⟩
 rcases turn i n σ3 H3 w3 with ⟨stop,qn⟩ | ⟨go,N,hN,step⟩
 ·refine wpAny_passesOwn hp (thn (T.done X rfl rfl rfl hc i pins s3 σ3 H3 X.xe I3 (stat fr3) st3 stop) fun r s4 ⟨hr,I4⟩=>?_)
  subst hr;exact wpAny_execs_nil ⟨σ3,H3,I4,qn⟩
 refine wpAny_passesOwn hp (thn (T.item X rfl rfl rfl hc i pins s3 σ3 H3 X.xe I3 (stat fr3) st3 go) fun r s4 ⟨u,hr,h4⟩=>?_);subst hr;refine wpAny_passesOwn hp (thn h4 fun _ s5 zq=>?_);refine x_24 zq fun x H5 I5 r5 y5 st5 fr5=>?_;have I5':=I5.pinned (stat fr5) (T.obj _ _ st5);refine wpAny_passesOwn hp (thn (hg _ s5 σ3 H5 x u _ I5' r5 (step x H5 y5)) fun _ s6 ⟨σ6,H6,I6,q6⟩=>?_);refine wpAny_passesOwn hp (thn (hb _ s6 σ6 H6 _ I6 q6) fun f s7 q7=>?_);have again : ∀ {σ7:St}{H7:Hp},Inv X (pins++fg_ fp s5.heap) σ7 H7 s7->N σ7 H7->∃ m,m<n/\∃ i σ' H',Inv X pins σ' H' s7/\tn i s7.heap/\(∀ b∈fp,H' b=none)/\W i m σ' H':=fun {σ7 H7} I7 n7=>by
  obtain ⟨m',hm,w7⟩:=hN σ7 H7 n7;refine ⟨m',hm,i+1,σ7,H7,I7.unpinned,T.keep _ _ _ st5 fun b hb o e=>(I7.pin (b,o) (mem_append_right _ (mem_append_right _ (bY_ hb e)))).1,fun b hb=>?_,w7⟩;obtain ⟨o,e,d⟩:=T.obj _ _ st5 b hb;exact (I7.pin (b,o) (mem_append_right _ (mem_append_right _ (bY_ hb e)))).2.1
 cases f with
 | next=>obtain ⟨σ7,H7,I7,n7⟩:=q7;exact again I7 n7
 | cont=>obtain ⟨σ7,H7,I7,n7⟩:=q7;exact again I7 n7
 | brk=>obtain ⟨σ7,H7,I7,q7⟩:=q7;exact ⟨σ7,H7,I7.unpinned,q7⟩
 | ret v=>obtain ⟨x7,σ7,H7,I7,r7,q7⟩:=q7;exact ⟨x7,σ7,H7,I7.unpinned,r7,q7⟩
end
theorem mf_ {K:Frag}{a:Addr}{xs:List V}{g:TG}{tb:TS}{D:Ends}{σ:St}{H:Hp} (Pv:Nat->St->Hp->Prop) (h0:Pv 0 σ H) (hl : ∀ i σ H,i<=xs.length->Pv i σ H->SqL K H a xs)
  (hs : ∀ i x σ H,xs[i]? = some x->Pv i σ H->g x σ H fun σ2 H2=>tb { D with nx:=Pv (i+1),ct:=Pv (i+1),bk:=D.nx } σ2 H2) (hd : ∀ σ H,Pv xs.length σ H->D.nx σ H) :
  ∃ W:Nat->Nat->St->Hp->Prop,(∃ m,W 0 m σ H)/\∀ i m σ H,W i m σ H ->
   ((Itl K a).stop i H/\D.nx σ H)\/((Itl K a).go i H/\∃ N:St->Hp->Prop,(∀ σ' H',N σ' H'->∃ m',m'<m/\W (i+1) m' σ' H')/\∀ x H',(Itl K a).yld i H x H'->g x σ H' fun σ2 H2=>tb { D with nx:=N,ct:=N,bk:=D.nx } σ2 H2):=by
 refine ⟨fun i m σ H=>m=xs.length - i/\i<=xs.length/\Pv i σ H,⟨xs.length,by simp,zero_le _,h0⟩,?_⟩
 rintro i m σ H ⟨rfl,hi,p⟩
 have q:=hl i σ H hi p;by_cases hlt:i<xs.length
 ·refine .inr ⟨⟨xs,xs[i],q,by simp [hlt]⟩,Pv (i+1),fun σ' H' p'=>⟨xs.length - (i+1),by omega,rfl,hlt,p'⟩,fun x H' y=>?_⟩
  obtain ⟨e,y⟩:=y;subst e;exact hs i x σ _ (y xs q) p
 have e:i=xs.length:=by omega
 subst e;exact .inl ⟨⟨xs,q,Nat.le_refl _⟩,hd σ H p⟩
theorem n1_ {K:Frag}{a:Addr}{xs:List V}{g:TG}{tb:TS}{D:Ends}{σ:St}{H:Hp} (Pv:Nat->St->Hp->Prop) (h0:Pv 0 σ H) (hl : ∀ i σ H,i<=xs.length->Pv i σ H->SqT K H a xs)
  (hs : ∀ i x σ H,xs[i]? = some x->Pv i σ H->g x σ H fun σ2 H2=>tb { D with nx:=Pv (i+1),ct:=Pv (i+1),bk:=D.nx } σ2 H2) (hd : ∀ σ H,Pv xs.length σ H->D.nx σ H) :
  ∃ W:Nat->Nat->St->Hp->Prop,(∃ m,W 0 m σ H)/\∀ i m σ H,W i m σ H ->
   ((Itt K a).stop i H/\D.nx σ H)\/((Itt K a).go i H/\∃ N:St->Hp->Prop,(∀ σ' H',N σ' H'->∃ m',m'<m/\W (i+1) m' σ' H')/\∀ x H',(Itt K a).yld i H x H'->g x σ H' fun σ2 H2=>tb { D with nx:=N,ct:=N,bk:=D.nx } σ2 H2):=by
 refine ⟨fun i m σ H=>m=xs.length - i/\i<=xs.length/\Pv i σ H,⟨xs.length,by simp,zero_le _,h0⟩,?_⟩
 rintro i m σ H ⟨rfl,hi,p⟩
 have q:=hl i σ H hi p;by_cases hlt:i<xs.length
 ·refine .inr ⟨⟨xs,xs[i],q,by simp [hlt]⟩,Pv (i+1),fun σ' H' p'=>⟨xs.length - (i+1),by omega,rfl,hlt,p'⟩,fun x H' y=>?_⟩
  obtain ⟨e,y⟩:=y;subst e;exact hs i x σ _ (y xs q) p
 have e:i=xs.length:=by omega
 subst e;exact .inl ⟨⟨xs,q,Nat.le_refl _⟩,hd σ H p⟩
end
section
abbrev R2:=V->V->Hp->VK->Prop
def OpR (X:Cx) (f:Value->Value->Sem Value) (r:R2):Prop :=
 ∀ (pins:zP) (s:Shared) (σ:St) (H:Hp) (x y:V) (v u:Value) (Q:VK),Inv X pins σ H s->RelV x v->RelV y u->r x y H Q ->
  wpAny (model X.prog X.w) X.A (f v u) (EP X pins σ Q) X.xe s
def UnR (X:Cx) (f:Value->Sem Value) (r:V->Hp->VK->Prop):Prop :=
 ∀ (pins:zP) (s:Shared) (σ:St) (H:Hp) (x:V) (v:Value) (Q:VK),Inv X pins σ H s->RelV x v->r x H Q ->
  wpAny (model X.prog X.w) X.A (f v) (EP X pins σ Q) X.xe s
def cS_ (X:Cx) (f:Value) (r:List V->Hp->VK->Prop):Prop :=
 ∀ (pins:zP) (s:Shared) (σ:St) (H:Hp) (xs:List V) (us:List Value) (Q:VK),Inv X pins σ H s->Vals xs us->r xs H Q ->
  wpAny (model X.prog X.w) X.A (call f us) (EP X pins σ Q) X.xe s
def TruR (X:Cx) (r:V->Hp->(Bool->Hp->Prop)->Prop):Prop :=
 ∀ (pins:zP) (s:Shared) (σ:St) (H:Hp) (x:V) (v:Value) (Q:Bool->Hp->Prop),Inv X pins σ H s->RelV x v->r x H Q ->
  wpAny (model X.prog X.w) X.A (truthy v) (TP X pins σ Q) X.xe s
def tOp (r:R2) (ta tb:TE):TE:=fun σ H Q=>ta σ H fun x H1=>tb σ H1 fun y H2=>r x y H2 Q
def tUn (r:V->Hp->VK->Prop) (ta:TE):TE:=fun σ H Q=>ta σ H fun x H1=>r x H1 Q
def rI (C:Int->Int->Prop) (g:Int->Int->V):R2:=fun x y H Q=>∃ i j,x = .int i/\y = .int j/\C i j/\Q (g i j) H
def rI0 (g:Int->Int->V):R2:=fun x y H Q=>∃ i j,x = .int i/\y = .int j/\Q (g i j) H
def rU (g:Int->V):V->Hp->VK->Prop:=fun x H Q=>∃ i,x = .int i/\Q (g i) H
section
variable {X:Cx}{a b c:Expr}{ta tb tc:TE}{pos:Pos}
theorem binT (ha:PE X a ta) (hb:PE X b tb) {pins:zP}{s:Shared}{σ:St}{H:Hp}{R:V->V->Hp->Prop} (I:Inv X pins σ H s)
  (h:ta σ H fun x H1=>tb σ H1 fun y H2=>R x y H2) {Q:zQ}{f:Value->Value->Sem Value}
  (hf : ∀ v u s2 x y H2,Inv X pins σ H2 s2->RelV x v->RelV y u->R x y H2->wpAny (model X.prog X.w) X.A (f v u) Q X.xe s2) :
  wpAny (model X.prog X.w) X.A (eval a X.env) (fun v s₁=>wpAny (model X.prog X.w) X.A (eval b X.env) (fun u s₂=>wpAny (model X.prog X.w) X.A (f v u) Q X.xe s₂) X.xe s₁) X.xe s:=by
 refine thn (ha pins s σ H _ I h) fun v s1 zq=>?_;refine x_22 zq fun x H1 I1 r1 q1=>?_;refine thn (hb pins s1 σ H1 _ I1 q1) fun u s2 zq=>?_;obtain ⟨y,H2,I2,r2,q2⟩:=zq;exact hf v u s2 x y H2 I2 r1 r2 q2
theorem bf_ {op:Operator}{r:R2} (ho:OpR X (binaryOp op) r) (ha:PE X a ta) (hb:PE X b tb):PE X (.BinOp a op b pos) (tOp r ta tb):=by
 intro pins s σ H Q I h;exact wpAny_BinOp (binT ha hb I h fun v u s2 x y H2 I2 rx ry q=>ho pins s2 σ H2 x y v u Q I2 rx ry q)
theorem py_ {op:UnaryOp}{r:V->Hp->VK->Prop} (ho:UnR X (unaryOp op) r) (ha:PE X a ta):PE X (.UnaryOp op a pos) (tUn r ta):=by
 intro pins s σ H Q I h;exact UnaryOp_ (thn (ha pins s σ H _ I h) fun v s1 ⟨x,H1,I1,r1,q1⟩=>ho pins s1 σ H1 x v Q I1 r1 q1)
theorem opI {f:Value->Value->Sem Value}{C:Int->Int->Prop}{g:Int->Int->Int}
  (rule : ∀ (i j:Int) (t u:Tok) (s:Shared) (Q:zQ) (E:zQ),C i j->Q (.int (g i j) s.toks) { s with toks:=s.toks+1 }->wpAny (model X.prog X.w) X.A (f (.int i t) (.int j u)) Q E s) :
  OpR X f (rI C fun i j => .int (g i j)):=by
 intro pins s σ H x y v u Q I rx ry h;obtain ⟨i,j,rfl,rfl,hc,q⟩:=h;obtain ⟨t,rfl⟩:=rx;obtain ⟨t',rfl⟩:=ry;exact rule i j t t' s _ _ hc ⟨.int (g i j),H,I.tok _,⟨_,rfl⟩,q⟩
theorem opI0 {f:Value->Value->Sem Value}{g:Int->Int->Int}
  (rule : ∀ (i j:Int) (t u:Tok) (s:Shared) (Q:zQ) (E:zQ),Q (.int (g i j) s.toks) { s with toks:=s.toks+1 }->wpAny (model X.prog X.w) X.A (f (.int i t) (.int j u)) Q E s) :
  OpR X f (rI0 fun i j => .int (g i j)):=by
 intro pins s σ H x y v u Q I rx ry h;obtain ⟨i,j,rfl,rfl,q⟩:=h;obtain ⟨t,rfl⟩:=rx;obtain ⟨t',rfl⟩:=ry;exact rule i j t t' s _ _ ⟨.int (g i j),H,I.tok _,⟨_,rfl⟩,q⟩
theorem opB0 {f:Value->Value->Sem Value}{g:Int->Int->Bool}
  (rule : ∀ (i j:Int) (t u:Tok) (s:Shared) (Q:zQ) (E:zQ),Q (.bool (g i j)) s->wpAny (model X.prog X.w) X.A (f (.int i t) (.int j u)) Q E s) :
  OpR X f (rI0 fun i j => .bl (g i j)):=by
 intro pins s σ H x y v u Q I rx ry h;obtain ⟨i,j,rfl,rfl,q⟩:=h;obtain ⟨t,rfl⟩:=rx;obtain ⟨t',rfl⟩:=ry;exact rule i j t t' s _ _ ⟨.bl (g i j),H,I,rfl,q⟩
theorem ch_:OpR X (binaryOp .Add) (rI0 fun i j => .int (i+j)):=opI0 fun _ _ _ _ _ _ _ q=>add_int q
theorem in_:OpR X (binaryOp .Sub) (rI0 fun i j => .int (i - j)):=opI0 fun _ _ _ _ _ _ _ q=>sub_int q
theorem oU_:OpR X (binaryOp .Mod) (rI (fun _ j=>0<j) fun i j => .int (i % j)):=opI fun i j _ _ _ _ _ hc q=>by
 have h1:(0:Int)<j:=hc;exact mod_int' (by omega) (by rw [Int.fmod_eq_emod_of_nonneg i (by omega)];exact q)
theorem unI {f:Value->Sem Value}{g:Int->Int}
  (rule : ∀ (i:Int) (t:Tok) (s:Shared) (Q:zQ) (E:zQ),Q (.int (g i) s.toks) { s with toks:=s.toks+1 }->wpAny (model X.prog X.w) X.A (f (.int i t)) Q E s) :
  UnR X f (rU fun i => .int (g i)):=by
 intro pins s σ H x v Q I rx h;obtain ⟨i,rfl,q⟩:=h;obtain ⟨t,rfl⟩:=rx;exact rule i t s _ _ ⟨.int (g i),H,I.tok _,⟨_,rfl⟩,q⟩
theorem ol_:UnR X (unaryOp .USub) (rU fun i => .int (-i)):=unI fun _ _ _ _ _ q=>neg_int q
end
noncomputable def scal:V->V->Bool
 | .non,.non=>true | .non,.int _=>true | .int _,.non=>true | .non,.bl _=>true | .bl _,.non=>true | .non,.str _=>true | .str _,.non=>true
 | .int _,.int _=>true | .bl _,.bl _=>true | .str _,.str _=>true | .byt _,.byt _=>true
 | .int _,.str _=>true | .str _,.int _=>true | .bl _,.str _=>true | .str _,.bl _=>true
 | _,_=>false
def rEq:R2:=fun x y H Q=>scal x y=true/\Q (.bl (decide (x=y))) H
def rNe:R2:=fun x y H Q=>scal x y=true/\Q (.bl (!decide (x=y))) H
theorem k1_ {i j:Int}:decide (V.int i=V.int j)=(i == j):=by
 rw [Bool.eq_iff_iff];simp
theorem mY_ {i j:Bool}:decide (V.bl i=V.bl j)=(i == j):=by
 rw [Bool.eq_iff_iff];simp
theorem kZ_ {i j:Str}:decide (V.str i=V.str j)=(i == j):=by
 rw [Bool.eq_iff_iff];simp
theorem k2_ {i j:Array UInt8}:decide (V.byt i=V.byt j)=(i.toList == j.toList):=by
 rw [Bool.eq_iff_iff];cases i;cases j;simp
section
variable {X:Cx}{a b c:Expr}{ta tb tc:TE}{pos:Pos}
theorem aO_ {pins:zP}{σ:St}{H:Hp}{s:Shared}{Q:VK}{k k':Bool} (I:Inv X pins σ H s) (q:Q (.bl k) H) (e:k=k'):EP X pins σ Q (.bool k') s:=by
 subst e;exact ⟨.bl k,H,I,rfl,q⟩
theorem bB_:OpR X (compareOp .Eq) rEq:=by
 intro pins s σ H x y v u Q I rx ry h;obtain ⟨hs,q⟩:=h;cases x with
 | non =>
  cases rx;cases y with
  | non=>cases ry;exact PySem.EqNone.eq_none_none (aO_ I q (by simp))
  | bl j=>cases ry;exact PySem.EqNone.eq_none_bool (aO_ I q (by simp))
  | int j=>obtain ⟨t',rfl⟩:=ry;exact PySem.EqNone.eq_none_int (aO_ I q (by simp))
  | str j=>obtain ⟨t',rfl⟩:=ry;exact PySem.EqNone.eq_none_str (aO_ I q (by simp))
  | _=>exact absurd (show false=true from hs) Bool.false_ne_true
 | bl i =>
  cases rx;cases y with
  | non=>cases ry;exact PySem.EqNone.eq_bool_none (aO_ I q (by simp))
  | bl j=>cases ry;exact eq_bool (aO_ I q mY_)
  | str j=>obtain ⟨t',rfl⟩:=ry;exact PySem.EqMixed.eq_bool_str (aO_ I q (by simp))
  | _=>exact absurd (show false=true from hs) Bool.false_ne_true
 | int i =>
  obtain ⟨t,rfl⟩:=rx;cases y with
  | non=>cases ry;exact PySem.EqNone.eq_int_none (aO_ I q (by simp))
  | int j=>obtain ⟨t',rfl⟩:=ry;exact eq_int (aO_ I q k1_)
  | str j=>obtain ⟨t',rfl⟩:=ry;exact PySem.EqMixed.eq_int_str (aO_ I q (by simp))
  | _=>exact absurd (show false=true from hs) Bool.false_ne_true
 | str i =>
  obtain ⟨t,rfl⟩:=rx;cases y with
  | non=>cases ry;exact PySem.EqNone.eq_str_none (aO_ I q (by simp))
  | bl j=>cases ry;exact PySem.EqMixed.eq_str_bool (aO_ I q (by simp))
  | int j=>obtain ⟨t',rfl⟩:=ry;exact PySem.EqMixed.eq_str_int (aO_ I q (by simp))
  | str j=>obtain ⟨t',rfl⟩:=ry;exact eq_str (aO_ I q kZ_)
  | _=>exact absurd (show false=true from hs) Bool.false_ne_true
 | byt i =>
  obtain ⟨t,rfl⟩:=rx;cases y with
  | byt j=>obtain ⟨t',rfl⟩:=ry;exact PySem.W.eq_bytes (aO_ I q k2_)
  | _=>exact absurd (show false=true from hs) Bool.false_ne_true
 | _=>cases y <;> exact absurd (show false=true from hs) Bool.false_ne_true
theorem iT_:OpR X (compareOp .NotEq) rNe:=by
 intro pins s σ H x y v u Q I rx ry h;obtain ⟨hs,q⟩:=h;cases x with
 | non =>
  cases rx;cases y with
  | non=>cases ry;exact PySem.EqNone.ne_none_none (aO_ I q (by simp))
  | bl j=>cases ry;exact PySem.EqNone.ne_none_bool (aO_ I q (by simp))
  | int j=>obtain ⟨t',rfl⟩:=ry;exact PySem.EqNone.ne_none_int (aO_ I q (by simp))
  | str j=>obtain ⟨t',rfl⟩:=ry;exact PySem.EqNone.ne_none_str (aO_ I q (by simp))
  | _=>exact absurd (show false=true from hs) Bool.false_ne_true
 | bl i =>
  cases rx;cases y with
  | non=>cases ry;exact PySem.EqNone.ne_bool_none (aO_ I q (by simp))
  | bl j=>cases ry;exact ne_bool (aO_ I q (congrArg not mY_))
  | str j=>obtain ⟨t',rfl⟩:=ry;exact PySem.EqMixed.ne_bool_str (aO_ I q (by simp))
  | _=>exact absurd (show false=true from hs) Bool.false_ne_true
 | int i =>
  obtain ⟨t,rfl⟩:=rx;cases y with
  | non=>cases ry;exact PySem.EqNone.ne_int_none (aO_ I q (by simp))
  | int j=>obtain ⟨t',rfl⟩:=ry;exact ne_int (aO_ I q (congrArg not k1_))
  | str j=>obtain ⟨t',rfl⟩:=ry;exact PySem.EqMixed.ne_int_str (aO_ I q (by simp))
  | _=>exact absurd (show false=true from hs) Bool.false_ne_true
 | str i =>
  obtain ⟨t,rfl⟩:=rx;cases y with
  | non=>cases ry;exact PySem.EqNone.ne_str_none (aO_ I q (by simp))
  | bl j=>cases ry;exact PySem.EqMixed.ne_str_bool (aO_ I q (by simp))
  | int j=>obtain ⟨t',rfl⟩:=ry;exact PySem.EqMixed.ne_str_int (aO_ I q (by simp))
  | str j=>obtain ⟨t',rfl⟩:=ry;exact ne_str (aO_ I q (congrArg not kZ_))
  | _=>exact absurd (show false=true from hs) Bool.false_ne_true
 | byt i =>
  obtain ⟨t,rfl⟩:=rx;cases y with
  | byt j=>obtain ⟨t',rfl⟩:=ry;exact PySem.W.ne_bytes (aO_ I q (congrArg not k2_))
  | _=>exact absurd (show false=true from hs) Bool.false_ne_true
 | _=>cases y <;> exact absurd (show false=true from hs) Bool.false_ne_true
theorem iV_:OpR X (compareOp .Lt) (rI0 fun i j => .bl (decide (i<j))):=opB0 fun _ _ _ _ _ _ _ q=>lt_int q
theorem iW_:OpR X (compareOp .LtE) (rI0 fun i j => .bl (decide (i<=j))):=opB0 fun _ _ _ _ _ _ _ q=>le_int q
theorem gO_:OpR X (compareOp .Gt) (rI0 fun i j => .bl (decide (j<i))):=opB0 fun _ _ _ _ _ _ _ q=>gt_int q
theorem oV_:OpR X (compareOp .GtE) (rI0 fun i j => .bl (decide (j<=i))):=opB0 fun _ _ _ _ _ _ _ q=>ge_int q
theorem OpR.or {f:Value->Value->Sem Value}{r r':R2} (h:OpR X f r) (h':OpR X f r'):OpR X f (fun x y H Q=>r x y H Q\/r' x y H Q):=by
 intro pins s σ H x y v u Q I rx ry q;rcases q with q | q
 ·exact h pins s σ H x y v u Q I rx ry q
 exact h' pins s σ H x y v u Q I rx ry q
theorem aw_ (b:Expr) {op:CmpOp} (h:op ≠ .In:=by decide) (h2:op ≠ .NotIn:=by decide):behindInMarks op b=false:=by
 have e1:(op == CmpOp.In)=false:=by cases op <;> first | rfl | exact absurd rfl h
 have e2:(op == CmpOp.NotIn)=false:=by cases op <;> first | rfl | exact absurd rfl h2
 cases b <;> simp [behindInMarks,e1,e2]
theorem fO_ {op:CmpOp}{r:R2} (ho:OpR X (compareOp op) r) (ha:PE X a ta) (hb:PE X b tb) (hm:behindInMarks op b=false):PE X (.Compare a [op] [b] pos) (tOp r ta tb):=by
 intro pins s σ H Q I h;exact wpAny_Compare1 (binT ha hb I h fun v u s2 x y H2 I2 rx ry q=>ho pins s2 σ H2 x y v u Q I2 rx ry q) hm
def isB (x:V) (R:Bool->Prop):Prop:=match x with
 | .bl k=>R k
 | _=>False
theorem kD_ {x:V}{R:Bool->Prop} (h:isB x R) : ∃ k,x = .bl k/\R k:=by
 cases x with
 | bl k=>exact ⟨k,rfl,h⟩
 | _=>exact h.elim
def lq_ (t:TE):TT:=fun σ H Q=>t σ H fun x H'=>isB x fun k=>Q k H'
theorem al_ {op:CmpOp}{r:R2} (ho:OpR X (compareOp op) r) (ha:PE X a ta) (hb:PE X b tb) (hm:behindInMarks op b=false):PT X (.Compare a [op] [b] pos) (lq_ (tOp r ta tb)):=by
 intro pins s σ H Q I h;refine wpAny_isTrue_Compare1 (thn (ha pins s σ H _ I h) fun v s1 ⟨x,H1,I1,r1,q1⟩=>thn (hb pins s1 σ H1 _ I1 q1) fun u s2 ⟨y,H2,I2,r2,q2⟩ =>
  thn (ho pins s2 σ H2 x y v u _ I2 r1 r2 q2) fun c s3 ⟨z,H3,I3,r3,q3⟩=>?_) hm
 obtain ⟨k,e,q3⟩:=kD_ q3;subst e;cases r3;exact wpAny_truthy_bool ⟨H3,I3,q3⟩
def jI_ (r r':R2) (ta tb tc:TE):TE:=fun σ H Q=>ta σ H fun x H1=>tb σ H1 fun y H2=>r x y H2 fun z H3=>∃ k,z = .bl k /\
 (if k=true then tc σ H3 fun w' H4=>r' y w' H4 Q else Q (.bl false) H3)
theorem ij_ {op op':CmpOp}{r r':R2} (ho:OpR X (compareOp op) r) (ho':OpR X (compareOp op') r') (ha:PE X a ta) (hb:PE X b tb) (hc:PE X c tc)
  (hm:lastMarks [op,op'] [b,c]=false:=by with_unfolding_all rfl):PE X (.Compare a [op,op'] [b,c] pos) (jI_ r r' ta tb tc):=by
 intro pins s σ H Q I h;refine Compare_chain (thn (ha pins s σ H _ I h) fun v s1 ⟨x,H1,I1,r1,q1⟩=>chain_link (thn (hb pins s1 σ H1 _ I1 q1) fun u s2 ⟨y,H2,I2,r2,q2⟩ =>
  thn (ho pins s2 σ H2 x y v u _ I2 r1 r2 q2) fun d s3 ⟨z,H3,I3,r3,k,e,q3⟩=>?_)) hm
 subst e;cases r3;refine wpAny_truthy_bool ?_;cases k with
 | false=>exact ite_ff ⟨.bl false,H3,I3,rfl,q3⟩
 | true=>exact ite_tt (chain_last (thn (hc pins s3 σ H3 _ I3 q3) fun w' s4 ⟨z',H4,I4,r4,q4⟩=>ho' pins s4 σ H4 y z' u w' Q I4 r2 r4 q4))
theorem lG_ {op op':CmpOp}{r r':R2} (ho:OpR X (compareOp op) r) (ho':OpR X (compareOp op') r') (ha:PE X a ta) (hb:PE X b tb) (hc:PE X c tc)
  (hm:lastMarks [op,op'] [b,c]=false:=by with_unfolding_all rfl):PT X (.Compare a [op,op'] [b,c] pos) (lq_ (jI_ r r' ta tb tc)):=by
 intro pins s σ H Q I h;refine isTrue_chain (thn (ha pins s σ H _ I h) fun v s1 ⟨x,H1,I1,r1,q1⟩=>test_link (thn (hb pins s1 σ H1 _ I1 q1) fun u s2 ⟨y,H2,I2,r2,q2⟩ =>
  thn (ho pins s2 σ H2 x y v u _ I2 r1 r2 q2) fun d s3 ⟨z,H3,I3,r3,k,e,q3⟩=>?_)) hm
 subst e;cases r3;refine wpAny_truthy_bool ?_;cases k with
 | false =>
  exact ite_ff ⟨H3,I3,q3⟩
 | true =>
 refine ite_tt (test_last (thn (hc pins s3 σ H3 _ I3 q3) fun w' s4 ⟨z',H4,I4,r4,q4⟩=>thn (ho' pins s4 σ H4 y z' u w' _ I4 r2 r4 q4) fun d' s5 zq=>?_));obtain ⟨z2,H5,I5,r5,q5⟩:=zq;obtain ⟨k2,e2,q5⟩:=kD_ q5;subst e2;cases r5;exact wpAny_truthy_bool ⟨H5,I5,q5⟩
def TruV (K:Frag) (x:V) (H:Hp) (k:Bool):Prop :=
 match x with
 | .non=>k=false
 | .bl b=>k=b
 | .int i=>k=(i != 0)
 | .str y=>y.length<=sizeLine/\k=((y.length:Int) != 0)
 | .byt y=>y.size<=sizeLine/\k=((y.size:Int) != 0)
 | .ref p=>(∃ xs,SqL K H p xs/\k = !xs.isEmpty)\/(∃ xs,SqT K H p xs/\k = !xs.isEmpty)\/∃ kvs,H p=some (.dK kvs)/\k = !kvs.isEmpty
 | _=>False
theorem i6_ {κ:Type}{kvs:List (κ×V)}{vs:List (κ×Value)} (r:KV kvs vs):(!vs.isEmpty) = !kvs.isEmpty:=by
 cases r <;> rfl
theorem fj_ {xs:List V}{its:List Value} (r:Vals xs its):(!its.toArray.isEmpty) = !xs.isEmpty:=by
 cases r <;> simp
theorem do_:(sizeLine:Nat)<2 ^ 63:=by rw [sizeLine_eq];decide
theorem on_:TruR X (fun x H Q=>∃ k,TruV X.K x H k/\Q k H):=by
 intro pins s σ H x v Q I rx h;obtain ⟨k,e,q⟩:=h;have hl:=do_;have hs:sizeLine=16777216:=sizeLine_eq;cases x with
 | non =>
  cases rx;have e':k=false:=e;subst e';exact truthy_none ⟨H,I,q⟩
 | bl b =>
  cases rx;have e':k=b:=e;subst e';exact wpAny_truthy_bool ⟨H,I,q⟩
 | int i =>
  obtain ⟨t,rfl⟩:=rx;have e':k=(i != 0):=e;subst e';exact PySem.P.truthy_int ⟨H,I,q⟩
 | str y =>
  obtain ⟨t,rfl⟩:=rx;obtain ⟨hy,e'⟩:y.length<=sizeLine/\k=((y.length:Int) != 0):=e;subst e';exact PySem.P.truthy_str (by omega) ⟨H,I.tok _,q⟩
 | byt y =>
  obtain ⟨t,rfl⟩:=rx;obtain ⟨hy,e'⟩:y.size<=sizeLine/\k=((y.size:Int) != 0):=e;subst e';exact PySem.W.truthy_bytes (by omega) ⟨H,I.tok _,q⟩
 | ref p =>
  cases rx;have e':(∃ xs,SqL X.K H p xs/\k = !xs.isEmpty)\/(∃ xs,SqT X.K H p xs/\k = !xs.isEmpty)\/∃ kvs,H p=some (.dK kvs)/\k = !kvs.isEmpty:=e;rcases e' with ⟨xs,hx,e'⟩ | ⟨xs,hx,e'⟩ | ⟨kvs,hx,e'⟩
  ·subst e'
   refine x_12 (I.list hx) fun its r pl hz=>?_;have hlen:=r.length;exact wpAny_truthy_list pl.isList (by simp only [size_toArray];omega) ⟨H,I.tok _,by rw [fj_ r];exact q⟩
  ·subst e'
   refine x_12 (I.tuple hx) fun its r pl hz=>?_;have hlen:=r.length;exact truthy_tuple pl (by simp only [size_toArray];omega) ⟨H,I.tok _,by rw [fj_ r];exact q⟩
  subst e';obtain ⟨hz,hS,vs,r,m⟩:kvs.length<=sizeLine/\(p == sysModules)=false/\∃ vs,KV kvs vs/\s.heap.DictOf (aM_ X.prog X.w) p vs:=I.hok p _ hx;have hlen:kvs.length=vs.length:=Paired.length r;exact wpAny_truthy_dict hS m (by omega) ⟨H,I.tok _,by rw [i6_ r];exact q⟩
 | _=>exact (show False from e).elim
theorem dk_ (ha:PE X a ta) (he : ∀ whole,isTrue a X.env whole=(do let v <- whole;standAt a.pos;holding [v] (truthy v))) :
  PT X a (fun σ H Q=>ta σ H fun x H'=>∃ k,TruV X.K x H' k/\Q k H'):=by
 intro pins s σ H Q I h;exact isTrue_plain (thn (ha pins s σ H _ I h) fun v s1 ⟨x,H1,I1,r1,q1⟩=>on_ pins s1 σ H1 x v Q I1 r1 q1) (he _)
theorem bd_:OpR X (binaryOp .Add) (fun x y H Q=>∃ i j,x = .str i/\y = .str j/\i.length+j.length<=sizeLine/\Q (.str (i++j)) H):=by
 intro pins s σ H x y v u Q I rx ry h;refine x_23 h fun i j zr2 zr3 hz q=>?_;subst zr2;subst zr3;obtain ⟨t,rfl⟩:=rx;obtain ⟨t',rfl⟩:=ry;exact add_str (fun t' tk=>⟨.str (i++j),H,I.tok _,⟨_,rfl⟩,q⟩) hz
theorem gl_ {x:V}{us:List Value} (r:Vals [x] us) : ∃ u,us=[u]/\RelV x u:=by
 cases r with
 | cons r1 r2=>cases r2;exact ⟨_,rfl,r1⟩
theorem bQ_:cS_ X (.type "str") (fun xs H Q=>∃ i,xs=[.int i]/\i.natAbs.log2<1920/\Q (.str (toString i)) H):=by
 intro pins s σ H xs us Q I r h;refine x_12 h fun i zr1 hz q=>?_;subst zr1;refine x_11 (gl_ r) fun u zr1 zz0=>?_;refine x_10 zz0 fun t zr3=>?_;subst zr1;subst zr3;exact PySem.P.str_of_int hz ⟨.str _,H,I.tok _,⟨_,rfl⟩,q⟩
theorem el_:cS_ X (.builtin "ord") (fun xs H Q=>∃ x,xs=[.str x]/\x.length=1/\Q (.int (x.cps.getD 0 0:Nat)) H):=by
 intro pins s σ H xs us Q I r h;refine x_12 h fun x zr1 hz q=>?_;subst zr1;refine x_11 (gl_ r) fun u zr1 zz0=>?_;refine x_10 zz0 fun t zr3=>?_;subst zr1;subst zr3;exact ord_of_one hz ⟨.int _,H,I.tok _,⟨_,rfl⟩,q⟩
end
end
section
structure ObjM (h:Heap) (x dx C:Addr) (mA:zM):Prop where
 obj:h.get? x=some (instObj C dx)
 ns:h.Ns1 dx mA
 ne:dx≠x
theorem gT_ {h:Heap}{dx:Addr}{mA:zM} (n:h.Ns1 dx mA) : ∃ od,h.get? dx=some od/\∀ name,lookIn name od=some (mA name):=by
 refine x_34 n fun o es ep ho hd hk _ hm=>?_;refine ⟨o,ho,fun name=>?_⟩;have e:=hm name;unfold nsFind findBy at e;rw [<- Array.find?_toList] at e;unfold lookIn;rw [hd];dsimp only;split
 ·rename_i y q
  rw [q] at e;exact congrArg some e
 rename_i q;rw [q] at e;have a:es.toList.any (·.refKey)=false:=by
  rw [List.any_eq_false];intro y hy;obtain ⟨z,t,hkey⟩:=hk y (Array.mem_toList_iff.mp hy);simp [DictEntry.refKey,hkey]
 have a' : ¬ es.toList.any (·.refKey)=true:=by rw [a];exact Bool.false_ne_true
 rw [if_neg a'];exact congrArg some e
theorem ObjM.look {h:Heap}{x dx C:Addr}{mA:zM} (I:ObjM h x dx C mA) : ∃ od,PySem.W.InstAt h x (instObj C dx) C (some od)/\∀ name,lookIn name od=some (mA name) :=
 let ⟨od,ho,hl⟩:=gT_ I.ns
 ⟨od,⟨I.obj,rfl,rfl,ho⟩,hl⟩
section
variable {prog:Program}{w:World}{A:Around}{E:zQ}{s:Shared}{K:Frag}{x dx C f:Addr}{mA:zM}{name:Str}{v:Value}
theorem nY_ {expr:Bool}{Q:zQ} (X:K.In s.heap) (I:ObjM s.heap x dx C mA) (hg:plainGet K C name=true) (hh:hasDictIn K C=true)
  (ha:PySem.W.findIn K (.ref C) name=some none) (hv:mA name=some v) (hv':PySem.W.handedIn v=true) (h:Q v { s with toks:=s.toks+1 }) :
  wpAny (model prog w) A (getAttr (.ref x) name expr) Q E s:=by
 obtain ⟨od,J,hl⟩:=I.look;exact PySem.W.get_value X J (PySem.W.plainGet_of hg).1 (PySem.W.findObj_own hh ha rfl (by rw [hl,hv])) hv' h
theorem mb_ {pl:Sem Bool}{Q:Value×List Value->Shared->Prop} (X:K.In s.heap) (I:ObjM s.heap x dx C mA) (hg:plainGet K C name=true)
  (hf:PySem.W.findIn K (.ref C) name=some (some (.ref f))) (ht:isFn K (.ref f)=true) (hv:mA name=none) (h:Q (.ref f,[.ref x]) s) :
  wpAny (model prog w) A (getMethod (.ref x) name pl) Q E s:=by
 obtain ⟨od,J,hl⟩:=I.look;exact PySem.W.method_fn X J (PySem.W.plainGet_of hg).1 (PySem.W.plainGet_of hg).2 hf (beq_iff_eq.mp ht) (by show (lookIn name od).map (·.isSome)=some false;rw [hl,hv];rfl) h
theorem nm_ {ns:List Str}{Q:Unit->Shared->Prop} (X:K.In s.heap) (I:ObjM s.heap x dx C mA)
  (hs:PySem.W.findIn K (.ref C) "__setattr__"=some (some (.builtin "object.__setattr__"))) (hp:PySem.W.plainOver K C=true) (ht:PySem.W.takerIn K C name=some none) (hh:hasDictIn K C=true)
  (hw:PySem.Within mA ns) (hsz:ns.length<=sizeLine)
  (h : ∀ h',ObjM h' x dx C (fun y=>if y=name then some v else mA y)->Heap.SameBut dx s.heap h'->Q () { s with heap:=h',toks:=s.toks+2 }) :
  wpAny (model prog w) A (setAttr (.ref x) name v) Q E s:=by
 obtain ⟨od,J,hl⟩:=I.look;refine PySem.W.set_plain X J hs (PySem.W.osa_open (s:={ s with toks:=s.toks+1 }) (r:=none) X J hp ht fun b=>?_);obtain ⟨cd,hc,hd'⟩:=PySem.W.any_some hh;have hx:s.heap.get? x=some ⟨.ref C,some dx,.plain,#[]⟩:=I.obj;refine wpAny_bind (wpAny_pure (wpAny_bind (wpAny_bind (wpAny_loadPart hx (wpAny_bind (PySem.W.Looks.here (s:={ s with toks:=s.toks+1 }) (looks_clsIn X hc) ?_))))));rw [hd'];refine wpAny_pure (a:=some dx) (wpAny_bind (wpAny_pure (wpAny_bind ?_)));refine wpAny_nsSet1 (s:={ s with toks:=s.toks+1 }) I.ns fun h' hn2 hs2=>?_;refine x_32 (hn2.count (PySem.Within.cons name v hw)) fun oD esD epD hoD hdD hcD=>?_;refine wpAny_bind (wpAny_lookBehind hoD (by rw [hdD];exact pastItsLine_dict (Nat.le_trans hcD (by rw [length_cons];omega))) ?_);exact wpAny_pure (h _ ⟨(hs2.2 _ (Ne.symm I.ne)).trans I.obj,hn2,I.ne⟩ hs2)
theorem l3_ {R:Result->Shared->Prop}{vs:List Value}{kw:List (Str×Value)} (X:K.In s.heap) (hm:PySem.W.makesIn K C=true)
  (hi:PySem.W.findIn K (.ref C) "__init__"=some (some (.ref f))) (hf:PySem.W.typeIn K (.ref f)=some (.type "function"))
  (h:codeAny (model prog w) (A.under (.builtin "type.__call__" ⟨.ref C::vs,kw⟩)) (.call (.ref f) ⟨.ref (s.heap.objs.size+1)::vs,kw⟩) (PySem.W.InitBack (s.heap.objs.size+1) R)
   { s with heap:=(s.heap.push emptyDict).push (instObj C s.heap.objs.size) }) :
  codeAny (model prog w) A (.call (.ref C) ⟨vs,kw⟩) R s:=by
 obtain ⟨hh,g,d,t,os⟩:=s;exact PySem.W.make_core (PySem.W.makes_of X hm) (looks_findIn X hi) (fun self=>PySem.W.bind_fn X self hf) (.inl rfl) h
end
def putF (f:Str) (v:V):List (Str×V)->List (Str×V)
 | []=>[(f,v)]
 | (g,x)::r=>if g=f then (g,v)::r else (g,x)::putF f v r
theorem c3_ (f g:Str) (v:V) : ∀ fs:List (Str×V),(putF f v fs).lookup g=if g=f then some v else fs.lookup g
 | []=>by
  show List.lookup g [(f,v)]=_;by_cases h:g=f
  ·have hb:(g == f)=true:=beq_iff_eq.mpr h
   simp only [List.lookup,hb,if_pos h]
  have hb:(g == f)=false:=beq_eq_false_iff_ne.mpr h;simp only [List.lookup,hb,if_neg h]
 | (k,x)::r=>by
  have ih:=c3_ f g v r;rw [show putF f v ((k,x)::r)=(if k=f then (k,v)::r else (k,x)::putF f v r) from rfl];by_cases hk:k=f
  ·rw [if_pos hk]
   by_cases h:g=k
   ·have hb:(g == k)=true:=beq_iff_eq.mpr h
    simp only [List.lookup,hb,if_pos (h.trans hk)]
   have hb:(g == k)=false:=beq_eq_false_iff_ne.mpr h;simp only [List.lookup,hb,if_neg (fun e:g=f=>h (e.trans hk.symm))]
  rw [if_neg hk];by_cases h:g=k
  ·have hb:(g == k)=true:=beq_iff_eq.mpr h
   simp only [List.lookup,hb,if_neg (fun e:g=f=>hk (h.symm.trans e))]
  have hb:(g == k)=false:=beq_eq_false_iff_ne.mpr h;simp only [List.lookup,hb];exact ih
theorem ct_ (f:Str) (v:V) : ∀ fs:List (Str×V),f∈(putF f v fs).map (·.1)/\∀ g,g∈fs.map (·.1)->g∈(putF f v fs).map (·.1)
 | []=>⟨by simp [putF],fun g h=>by simp at h⟩
 | (k,x)::r=>by
  obtain ⟨i1,i2⟩:=ct_ f v r;rw [show putF f v ((k,x)::r)=(if k=f then (k,v)::r else (k,x)::putF f v r) from rfl];by_cases hk:k=f
  ·rw [if_pos hk]
   subst hk;exact ⟨by simp,fun g h=>by simpa using h⟩
  rw [if_neg hk];refine ⟨?_,fun g h=>?_⟩
  ·rw [map_cons]
   exact mem_cons_of_mem _ i1
  rw [map_cons] at h ⊢;rcases mem_cons.mp h with e | e
  ·exact mem_cons.mpr (.inl e)
  exact mem_cons_of_mem _ (i2 g e)
theorem cb_ (f:Str) (v:V) : ∀ fs:List (Str×V),(putF f v fs).length<=fs.length+1
 | []=>by simp [putF]
 | (k,x)::r=>by
  have ih:=cb_ f v r;rw [show putF f v ((k,x)::r)=(if k=f then (k,v)::r else (k,x)::putF f v r) from rfl];by_cases hk:k=f
  ·rw [if_pos hk,length_cons,length_cons];omega
  rw [if_neg hk,length_cons,length_cons];omega
theorem RelO.some_of {v:V}{o:Option Value} (r:RelO (some v) o) : ∃ u,o=some u/\RelV v u:=by
 cases o with
 | none=>exact (show False from r).elim
 | some u=>exact ⟨u,rfl,r⟩
theorem RelO.none_of {o:Option Value} (r:RelO none o):o=none:=by
 cases o with
 | none=>rfl
 | some u=>exact (show False from r).elim
theorem g2_ {v:V}{u:Value} (r:RelV v u):PySem.W.handedIn u=true:=by
 cases v with
 | non=>cases (show u=Value.none from r);rfl
 | bl b=>cases (show u=Value.bool b from r);rfl
 | int i=>obtain ⟨t,e⟩:=(show ∃ t,u=Value.int i t from r);cases e;rfl
 | str x=>obtain ⟨t,e⟩:=(show ∃ t,u=Value.str x t from r);cases e;rfl
 | byt b=>obtain ⟨t,e⟩:=(show ∃ t,u=Value.bytes b t from r);cases e;rfl
 | flt b=>obtain ⟨t,e⟩:=(show ∃ t,u=Value.float b t from r);cases e;rfl
 | ref a=>cases (show u=Value.ref a from r);rfl
 | ty n=>cases (show u=Value.type n from r);rfl
section
variable {P:Program}{w:World}{H H':Hp}{h h':Heap}{a C dx:Addr}{fs fs':List (Str×V)}
theorem f2_ (hok:HOk P w H h) (e:H a=some (.ins C dx fs)) : ∃ mA,ObjM h a dx C mA/\(∀ f,RelO (fs.lookup f) (mA f))/\PySem.Within mA (fs.map (·.1))/\fs.length<=1000/\H dx=some (.own a):=by
 refine x_04 ((show a1_ P w H h a (.ins C dx fs) from hok a _ e)) fun d z ne ob zz0=>?_;refine x_12 zz0 fun mA n r q=>?_;exact ⟨mA,⟨ob,n,ne⟩,r,q,z,d⟩
end
structure Cls (K:Frag) (C:Addr):Prop where
 pg:plainGet K C Str.empty=true
 hd:hasDictIn K C=true
 po:PySem.W.plainOver K C=true
 sa:PySem.W.findIn K (.ref C) "__setattr__"=some (some (.builtin "object.__setattr__"))
theorem Cls.get {K:Frag}{C:Addr} (c:Cls K C) (f:Str):plainGet K C f=true:=c.pg
def aC_ (K:Frag) (C:Addr) (f:Str):Prop:=PySem.W.findIn K (.ref C) f=some none
theorem aC_.taker {K:Frag}{C:Addr}{f:Str} (n:aC_ K C f):PySem.W.takerIn K C f=some none:=by
 unfold PySem.W.takerIn;rw [show PySem.W.findIn K (.ref C) f=some none from n];rfl
structure Meth (K:Frag) (C:Addr) (m:Str) (f:Addr):Prop where
 at_:PySem.W.findIn K (.ref C) m=some (some (.ref f))
 fn:isFn K (.ref f)=true
 kp:keepIn K (.ref f)=true
section
variable {X:Cx}{pins:zP}{σ:St}{H:Hp}{s:Shared}{a C dx:Addr}{fs:List (Str×V)}{f:Str}{v:V}{A:Around}{E:zQ}
theorem fm_ {b:Bool}{Q:zQ} (I:Inv X pins σ H s) (e:H a=some (.ins C dx fs)) (c:Cls X.K C) (n:aC_ X.K C f) (l:fs.lookup f=some v)
  (h : ∀ u s',Inv X pins σ H s'->RelV v u->Q u s'):wpAny (model X.prog X.w) A (getAttr (.ref a) f b) Q E s:=by
 obtain ⟨mA,O,r,_,_,_⟩:=f2_ I.hok e;obtain ⟨u,hu,ru⟩:=RelO.some_of (v:=v) (o:=mA f) (by rw [<- l];exact r f);exact nY_ I.kIn O (c.get f) c.hd n hu (g2_ ru) (h u _ (I.tok _) ru)
theorem fl_ {m:Str}{g:Addr}{pl:Sem Bool}{Q:Value×List Value->Shared->Prop} (I:Inv X pins σ H s) (e:H a=some (.ins C dx fs)) (c:Cls X.K C) (k:Meth X.K C m g) (l:fs.lookup m=none)
  (h:Q (.ref g,[.ref a]) s):wpAny (model X.prog X.w) A (getMethod (.ref a) m pl) Q E s:=by
 obtain ⟨mA,O,r,_,_,_⟩:=f2_ I.hok e;have hn:mA m=none:=RelO.none_of (by rw [<- l];exact r m);exact mb_ I.kIn O (c.get m) k.at_ k.fn hn h
theorem fe_ {y:V}{u:Value}{Q:Unit->Shared->Prop} (I:Inv X pins σ H s) (e:H a=some (.ins C dx fs)) (c:Cls X.K C) (n:aC_ X.K C f) (hl:fs.length<1000) (ry:RelV y u)
  (h : ∀ s',Inv X pins σ (upd H a (.ins C dx (putF f y fs))) s'->Q () s'):wpAny (model X.prog X.w) A (setAttr (.ref a) f u) Q E s:=by
 obtain ⟨mA,O,r,wi,_,ho⟩:=f2_ I.hok e;have hz:(fs.map (·.1)).length<=sizeLine:=by rw [length_map,sizeLine_eq];omega
 refine nm_ I.kIn O c.sa c.po n.taker c.hd wi hz fun h' O' sb=>h _ ?_;have hd : ∃ o,h'.get? dx=some o:=let ⟨o,_,_,e',_⟩:=O'.ns;⟨o,e'⟩;refine I.write (x:=a) (e:=dx) (by rw [e];exact True.intro) (.inr ho) (fun b q hb z=>(sb.2 b hb).trans z) hd ?_;refine ⟨by rw [am_ O.ne];exact ho,?_,O.ne,O'.obj,_,O'.ns,fun g=>?_,fun g hg=>?_⟩
 ·have:=cb_ f y fs;omega
 ·show RelO ((putF f y fs).lookup g) (if g=f then some u else mA g)
  rw [c3_];by_cases q:g=f
  ·rw [if_pos q,if_pos q];exact ry
  rw [if_neg q,if_neg q];exact r g
 by_cases q:g=f
 ·rw [q];exact (ct_ f y fs).1
 refine (ct_ f y fs).2 g (wi g fun z=>hg ?_);show (if g=f then some u else mA g)=none;rw [if_neg q];exact z
theorem Inv.made (I:Inv X pins σ H s):Inv X pins σ (upd (upd H s.heap.objs.size (.own (s.heap.objs.size+1))) (s.heap.objs.size+1) (.ins C s.heap.objs.size []))
  { s with heap:=(s.heap.push emptyDict).push (instObj C s.heap.objs.size) }:=by
 have e1:(s.heap.push emptyDict).get? s.heap.objs.size=some emptyDict:=get?_push_size s.heap rfl;have e2:((s.heap.push emptyDict).push (instObj C s.heap.objs.size)).get? (s.heap.objs.size+1)=some (instObj C s.heap.objs.size):=by
  have:=get?_push_size (s.heap.push emptyDict) (o:=instObj C s.heap.objs.size) rfl;rwa [size_push] at this
 have e3:(s.heap.push emptyDict).Ns s.heap.objs.size (fun _=>none):=⟨emptyDict,#[],_,e1,rfl,(fun e he=>absurd he (by simp)),fun _=>rfl⟩;have I1:=I.laid (a:=s.heap.objs.size) (o := .own (s.heap.objs.size+1)) (h':=s.heap.push emptyDict) (t':=s.toks) (fun b u q=>get?_push_of_some _ q) (Nat.le_refl _) ⟨_,e1⟩;refine I1.laid (a:=s.heap.objs.size+1) (o := .ins C s.heap.objs.size []) (t':=s.toks) (fun b u q=>get?_push_of_some _ q) (Nat.le_of_eq (size_push _ _)) ?_;have ne:s.heap.objs.size≠s.heap.objs.size+1:=Nat.ne_of_lt (lt_succ_self _);refine ⟨by rw [am_ ne,ad_],zero_le _,ne,e2,fun _=>none,(Heap.Ns1.of_empty e3).at fun o q=>get?_push_of_some _ q,fun _=>True.intro,fun y hy=>absurd rfl hy⟩
theorem ld_ {prog:Program}{w:World}{env:Env}{e:Expr}{f:Str}{pos:Pos}{s:Shared}{Q:zQ} (hb:attributeBase e f env (eval e env)=eval e env)
  (h:wpAny (model prog w) A (eval e env) (fun o s₁=>wpAny (model prog w) A (getAttr o f true) Q E s₁) E s):wpAny (model prog w) A (eval (.Attribute e f pos) env) Q E s :=
 Attribute_any_ h (by rw [arm_eval_Attribute,hb])
end
def tFld (K:Frag) (ta:TE) (f:Str):TE:=fun σ H Q=>ta σ H fun x H1=>∃ a C dx fs v,x = .ref a/\H1 a=some (.ins C dx fs)/\Cls K C/\aC_ K C f/\fs.lookup f=some v/\Q v H1
def sFld (K:Frag) (ta tv:TE) (f:Str):TS:=fun D σ H=>tv σ H fun y H1=>ta σ H1 fun x H2=>∃ a C dx fs,x = .ref a/\H2 a=some (.ins C dx fs)/\Cls K C/\aC_ K C f/\fs.length<1000 /\
 D.nx σ (upd H2 a (.ins C dx (putF f y fs)))
def InOp (X:Cx) (op:Operator) (rd:V->V->Hp->VK->Prop):Prop :=
 ∀ (pins:zP) (s:Shared) (σ:St) (H:Hp) (x y:V) (u v:Value) (Q:VK),Inv X pins σ H s->RelV x u->RelV y v->rd x y H Q->wpAny (model X.prog X.w) X.A (inplaceOp op u v) (EP X pins σ Q) X.xe s
def fM_ (K:Frag) (ta tv:TE) (rd:V->V->Hp->VK->Prop) (f:Str):TS:=fun D σ H=>ta σ H fun x H1=>∃ a C dx fs v,x = .ref a/\H1 a=some (.ins C dx fs)/\Cls K C/\aC_ K C f/\fs.lookup f=some v /\
 tv σ H1 fun y H2=>rd v y H2 fun z H3=>∃ dx' fs',H3 a=some (.ins C dx' fs')/\fs'.length<1000/\D.nx σ (upd H3 a (.ins C dx' (putF f z fs')))
section
variable {X:Cx}{o e value:Expr}{f:Str}{pos pos' tpos:Pos}{ta tv:TE}
theorem ah_ (he:PE X e ta) (hb:attributeBase e f X.env (eval e X.env)=eval e X.env):PE X (.Attribute e f pos) (tFld X.K ta f):=by
 intro pins s σ H Q I h;refine ld_ hb (thn (he pins s σ H _ I h) fun u s1 zq=>?_);refine x_22 zq fun x H1 I1 rx zz0=>?_;refine x_50 zz0 fun a C dx fs v zy=>x_05 zy fun ex ea c n l q=>?_;subst ex;obtain rfl:u=Value.ref a:=rx;exact fm_ I1 ea c n l fun u' s2 I2 ru=>⟨v,H1,I2,ru,q⟩
theorem a7_ (ha:PE X o ta) (hv:PE X value tv) (hs:swapsWith value (some (.Attribute o f pos')) pos.line X.env=pure false):PS X (.Assign [.Attribute o f pos'] value pos) (sFld X.K ta tv f):=by
 intro pins s σ H D I h;refine plainObj_wpAny_Assign_Attribute (thn (hv pins s σ H _ I h) fun u s1 ⟨y,H1,I1,ry,q⟩=>thn (ha pins s1 σ H1 _ I1 q) fun ov s2 zq=>?_) hs;refine x_22 zq fun x H2 I2 rx zz0=>?_;refine x_40 zz0 fun a C dx fs zy=>x_05 zy fun ex ea c n l q2=>?_;subst ex;obtain rfl:ov=Value.ref a:=rx;exact fe_ I2 ea c n l ry fun s3 I3=>⟨σ,_,I3,q2⟩
theorem eJ_ {op:Operator}{rd:V->V->Hp->VK->Prop} (ha:PE X o ta) (hv:PE X value tv) (hop:InOp X op rd):PS X (.AugAssign (.Attribute o f tpos) op value pos) (fM_ X.K ta tv rd f):=by
 intro pins s σ H D I h;refine wpAny_AugAssign_AttributeAny (thn (ha pins s σ H _ I h) fun ov s1 zq=>?_);refine x_22 zq fun x H1 I1 rx zz0=>?_;refine x_50 zz0 fun a C dx fs v zy=>x_05 zy fun ex ea c n l q=>?_;subst ex;obtain rfl:ov=Value.ref a:=rx;refine fm_ I1 ea c n l fun u s2 I2 ru=>thn (hv pins s2 σ H1 _ I2 q) fun w3 s3 ⟨y,H2,I3,ry,q3⟩=>thn (hop pins s3 σ H2 v y u w3 _ I3 ru ry q3) fun w4 s4 zq=>?_;refine x_22 zq fun z H3 I4 rz zz0=>?_;refine x_22 zz0 fun dx' fs' ea' l' q4=>?_;exact fe_ I4 ea' c n l' rz fun s5 I5=>⟨σ,_,I5,q4⟩
def rAdd:V->V->Hp->VK->Prop:=fun x y H Q=>∃ i j,x = .int i/\y = .int j/\Q (.int (i+j)) H
theorem kG_:InOp X .Add rAdd:=by
 rintro pins s σ H x y u v Q I rx ry ⟨i,j,rfl,rfl,q⟩
 obtain ⟨t,rfl⟩:=(show ∃ t,u=Value.int i t from rx);obtain ⟨t',rfl⟩:=(show ∃ t',v=Value.int j t' from ry);exact PyProof.Rows.iadd_int ⟨.int (i+j),H,I.tok _,⟨_,rfl⟩,q⟩
end
section
variable {X:Cx}{pins:zP}{σ:St}{H:Hp}{s:Shared}{A:Around}{E:zQ}{Q:zQ}{c:Value}{b:Bool}
inductive TyOf (K:Frag) (H:Hp):V->Value->Prop where
 | non:TyOf K H .non (.type "NoneType")
 | bl (x:Bool):TyOf K H (.bl x) (.type "bool")
 | int (i:Int):TyOf K H (.int i) (.type "int")
 | str (x:Str):TyOf K H (.str x) (.type "str")
 | flt (x:UInt64):TyOf K H (.flt x) (.type "float")
 | lst {a:Addr}{xs:List V} (e:H a=some (.lst xs)):TyOf K H (.ref a) (.type "list")
 | frz {a:Addr}{o:Obj}{xs:List V} (e:H a=some (.frz o (.lst xs))):TyOf K H (.ref a) (.type "list")
 | tup {a:Addr}{xs:List V} (e:H a=some (.tup xs)):TyOf K H (.ref a) (.type "tuple")
 | dK {a:Addr}{kvs:List (Key×V)} (e:H a=some (.dK kvs)):TyOf K H (.ref a) (.type "dict")
 | dT {a:Addr}{kvs:List (List Key×V)} (e:H a=some (.dT kvs)):TyOf K H (.ref a) (.type "dict")
 | ins {a C dx:Addr}{fs:List (Str×V)} (e:H a=some (.ins C dx fs)) (cl:Cls K C) (ha:PySem.W.findIn K (.ref C) "__class__"=some (some (.builtin "object.__class__")))
   (hn:PySem.W.specialIn K (.builtin "object.__class__") "__get__"=some (some (.builtin "getset_descriptor.__get__"))) (htk:PySem.W.takesIn K (.builtin "object.__class__")=some true)
   (hm:mroIn K C (.type "object")=some true):TyOf K H (.ref a) (.ref C)
theorem kC_ {x:V}{u t:Value} (I:Inv X pins σ H s) (rx:RelV x u) (ty:TyOf X.K H x t) (e:kitOne X.K t c=some b) (h : ∀ tk,Q (.bool b) { s with toks:=tk }) :
  wpAny (model X.prog X.w) A (call (.builtin "isinstance") [u,c]) Q E s:=by
 cases ty with
 | non=>cases (show u=Value.none from rx);exact kia_one PySem.W.kitx_none I.kIn True.intro e (fun z=>nomatch z) h
 | bl y=>cases (show u=Value.bool y from rx);exact kia_one PySem.W.kitx_bool I.kIn True.intro e (fun z=>nomatch z) h
 | int i=>obtain ⟨t,q⟩:=(show ∃ t,u=Value.int i t from rx);cases q;exact kia_one PySem.W.kitx_int I.kIn True.intro e (fun z=>nomatch z) h
 | str y=>obtain ⟨t,q⟩:=(show ∃ t,u=Value.str y t from rx);cases q;exact kia_one PySem.W.kitx_str I.kIn True.intro e (fun z=>nomatch z) h
 | flt y=>obtain ⟨t,q⟩:=(show ∃ t,u=Value.float y t from rx);cases q;exact kia_one PySem.W.kitx_float I.kIn True.intro e (fun z=>nomatch z) h
 | @lst a xs ea =>
  cases (show u=Value.ref a from rx);refine x_01 ((show a1_ X.prog X.w H s.heap a (.lst xs) from I.hok a _ ea)) fun _ zz0=>?_;refine x_21 zz0 fun _ n _ h1=>?_;exact kia_one PySem.W.kitx_list I.kIn ⟨_,h1,rfl⟩ e (fun z=>nomatch z) h
 | @frz a ob xs ea =>
  cases (show u=Value.ref a from rx);refine x_02 ((show a1_ X.prog X.w H s.heap a (.frz ob (.lst xs)) from I.hok a _ ea)) fun _ _ zz0=>?_;refine x_21 zz0 fun _ n _ h1=>?_;exact kia_one PySem.W.kitx_list I.kIn ⟨_,h1,rfl⟩ e (fun z=>nomatch z) h
 | @tup a xs ea =>
  cases (show u=Value.ref a from rx);refine x_01 ((show a1_ X.prog X.w H s.heap a (.tup xs) from I.hok a _ ea)) fun _ zz0=>?_;refine x_11 zz0 fun _ _ p=>?_;refine x_12 p fun o h1 h2 _=>?_;exact kia_one PySem.W.kitx_tuple I.kIn ⟨o,h1,h2⟩ e (fun z=>nomatch z) h
 | @dK a kvs ea =>
  cases (show u=Value.ref a from rx);refine x_02 ((show a1_ X.prog X.w H s.heap a (.dK kvs) from I.hok a _ ea)) fun _ _ zz0=>?_;refine x_11 zz0 fun vs _ p=>?_;refine x_32 p fun o es ep h1 h2 _=>?_;exact kia_one PySem.W.kitx_dict I.kIn ⟨o,h1,h2.1⟩ e (fun z=>nomatch z) h
 | @dT a kvs ea =>
  cases (show u=Value.ref a from rx);refine x_02 ((show a1_ X.prog X.w H s.heap a (.dT kvs) from I.hok a _ ea)) fun _ _ zz0=>?_;refine x_11 zz0 fun xs _ zz1=>?_;refine x_32 zz1 fun o es ep h1 h2 _=>?_;exact kia_one PySem.W.kitx_dict I.kIn ⟨o,h1,h2.1⟩ e (fun z=>nomatch z) h
 | @ins a C dx fs ea cl ha hn htk hm =>
 cases (show u=Value.ref a from rx);obtain ⟨mA,O,_⟩:=f2_ I.hok ea;obtain ⟨od,J,_⟩:=O.look;exact kia_one (PySem.W.kitx_own (cl.get _) cl.hd ha hn htk hm) I.kIn J e (fun z=>nomatch z) h
end
end
section
structure Room (k:Nat) (A:Around):Prop where
 hd:A.handled=none
 dp:A.depth+3 * k+5<recursionLimit
 un:A.units+16 * k+200<cLine
theorem Room.mono {j k:Nat}{A:Around} (r:Room k A) (h:j<=k):Room j A:=⟨r.hd,by have:=r.dp;omega,by have:=r.un;omega⟩
theorem Room.deeper {k:Nat}{A:Around} (r:Room (k+1) A) (env:Env):Room k (A.deeper env) :=
 ⟨r.hd,by have:=r.dp;show A.depth+1+3 * k+5<_;omega,by have:=r.un;show A.units+3+16 * k+200<_;omega⟩
theorem Room.in1 {k:Nat}{A:Around} (r:Room (k+1) A):Room k A.in1 :=
 ⟨r.hd,by have:=r.dp;show A.depth+3 * k+5<_;omega,by have:=r.un;show A.units+1+16 * k+200<_;omega⟩
theorem i0_ {A:Around}{C:Addr}{us:List Value}{kw:List (Str×Value)}:(A.under (.builtin "type.__call__" ⟨.ref C::us,kw⟩)).depth=A.depth+1:=by
 first | rfl | simp [Around.under,Code.weight,Code.isCreation,Code.isGuard,Code.isCaller,Code.frames,Code.isFrame,guardIds]
theorem iZ_ {A:Around}{C:Addr}{us:List Value}{kw:List (Str×Value)}:(A.under (.builtin "type.__call__" ⟨.ref C::us,kw⟩)).units=A.units+1:=by
 first | rfl | simp [Around.under,Code.cUnits,Code.frames,Code.isFrame]
theorem Room.make {k:Nat}{A:Around} (r:Room (k+1) A) (C:Addr) (us:List Value) (kw:List (Str×Value)):Room k (A.under (.builtin "type.__call__" ⟨.ref C::us,kw⟩)) :=
 ⟨r.hd,by have:=r.dp;rw [i0_];omega,by have:=r.un;rw [iZ_];omega⟩
theorem Room.depth {k:Nat}{A:Around} (r:Room k A):A.depth<recursionLimit:=by have:=r.dp;omega
theorem Room.units {k:Nat}{A:Around} (r:Room k A):A.units+64<cLine:=by have:=r.un;omega
def tNil:TA:=fun _ H Q=>Q [] H
def fG_ (ta:TE) (tr:TA):TA:=fun σ H Q=>ta σ H fun x H1=>tr σ H1 fun xs H2=>Q (x::xs) H2
section
variable {X:Cx}{e:Expr}{es:List Expr}{te:TE}{t:TA}{pos:Pos}
theorem ac_:PA X [] tNil:=fun _ _ _ _ H Q I h=>Calls.spliced_nil ⟨[],H,I,.nil,h⟩
theorem aa_ (ha:PE X e te) (hr:PA X es t) (hs:starEach (e::es) X.env=(false,eval e X.env)::starEach es X.env:=by rfl):PA X (e::es) (fG_ te t):=by
 intro pos pins s σ H Q I h;rw [hs];show wpAny _ _ (spliced ((false,eval e X.env)::backTo pos (starEach es X.env))) _ _ s;refine Calls.spliced_cons (thn (ha pins s σ H _ I h) fun u s1 zq=>?_);refine x_22 zq fun x H1 I1 r1 q1=>?_;exact thn (hr pos pins s1 σ H1 _ I1 q1) fun us s2 ⟨xs,H2,I2,r2,q2⟩=>⟨x::xs,H2,I2,.cons r1 r2,q2⟩
def tTup (t:TA):TE:=fun σ H Q=>t σ H fun xs H1=>xs.length<=sizeLine/\∀ p,H1 p=none->Q (.ref p) (upd H1 p (.tup xs))
def tLst (t:TA):TE:=fun σ H Q=>t σ H fun xs H1=>xs.length<=sizeLine/\∀ p,H1 p=none->Q (.ref p) (upd H1 p (.lst xs))
theorem dl_ {x1} (h:PA X es t):PE X (.Tuple es x1 pos) (tTup t):=by
 intro pins s σ H Q I hq;refine wpAny_Tuple_spliced (thn (h pos pins s σ H _ I hq) fun us s1 ⟨xs,H1,I1,r,z,q⟩=>⟨by rw [<- r.length];exact z,?_⟩);have hf:H1 s1.heap.objs.size=none:=I1.hok.fresh (Nat.le_refl _);refine ⟨.ref s1.heap.objs.size,upd H1 s1.heap.objs.size (.tup xs),I1.laid (t':=s1.toks) (fun b u e=>get?_push_of_some _ e) (Nat.le_refl _) ?_,rfl,q _ hf⟩;exact ⟨z,us,r,⟨_,get?_push_size _ rfl,rfl,_,rfl⟩⟩
theorem aK_ (h:PA X es t):PE X (.List es pos) (tLst t):=by
 intro pins s σ H Q I hq;refine wpAny_List_spliced (thn (h pos pins s σ H _ I hq) fun us s1 ⟨xs,H1,I1,r,z,q⟩=>⟨by rw [<- r.length];exact z,?_⟩);have hf:H1 s1.heap.objs.size=none:=I1.hok.fresh (Nat.le_refl _);refine ⟨.ref s1.heap.objs.size,upd H1 s1.heap.objs.size (.lst xs),I1.laid (t':=s1.toks) (fun b u e=>get?_push_of_some _ e) (Nat.le_refl _) ?_,rfl,q _ hf⟩;exact ⟨z,us,0,r,get?_push_size _ rfl⟩
end
abbrev Sp:=List V->Hp->VK->XK->Prop
abbrev CXT:=List Env->Hp->Shared->XK->Value->Shared->Prop
structure Env0 (P:Program) (w:World) (K:Frag) (mg:zM) (base:Heap) (A:Around) (outer:List Env) (s:Shared) (H:Hp):Prop where
 frames:A.frames=some outer
 mod:Mod K mg base
 bs : ∀ b o,base.get? b=some o->s.heap.get? b=some o/\H b=none
 bsz:base.objs.size<=s.heap.objs.size
 funs:s.heap.FunFrames base outer
 frf : ∀ b∈frs outer,H b=none
 hok:HOk P w H s.heap
 bare:AllBare s.gens
def CE (outer:List Env) (P:Program) (w:World) (H:Hp) (s:Shared) (Q:VK) (u:Value) (s':Shared):Prop :=
 ∃ v H',s'.os=s.os/\AllBare s'.gens/\Un (frs outer) [] H H' s.heap s'.heap/\HOk P w H' s'.heap/\RelV v u/\Q v H'
def CR (CX:CXT) (outer:List Env) (P:Program) (w:World) (H:Hp) (s:Shared) (Q:VK) (E:XK) (r:Result) (s':Shared):Prop :=
 match r with
 | .ok (.ret u)=>CE outer P w H s Q u s'
 | .ok _=>False
 | .error e=>CX outer H s E e s'
structure FnOk (P:Program) (w:World) (K:Frag) (mg:zM) (base:Heap) (CX:CXT) (k:Nat) (f:Addr) (fd:FuncData) (ps:List Str) (sp:Sp):Prop where
 len : ∀ vs H Q E,sp vs H Q E->vs.length=ps.length
 run : ∀ (A:Around) (outer:List Env) (s:Shared) (H:Hp) (args:Args) (us:List Value) (vs:List V) (Q:VK) (E:XK),Room k A->Env0 P w K mg base A outer s H->BindsTo s fd args (ps.zip us)->Vals vs us->sp vs H Q E ->
  codeAny (model P w) A (.call (.ref f) args) (CR CX outer P w H s Q E) s
theorem FnOk.mono {P:Program}{w:World}{K:Frag}{mg:zM}{base:Heap}{CX:CXT}{j k:Nat}{f:Addr}{fd:FuncData}{ps:List Str}{sp:Sp} (F:FnOk P w K mg base CX j f fd ps sp) (h:j<=k) :
  FnOk P w K mg base CX k f fd ps sp:=⟨F.len,fun A outer s H args us vs Q E hr=>F.run A outer s H args us vs Q E (hr.mono h)⟩
theorem Env0.make {P:Program}{w:World}{K:Frag}{mg:zM}{base:Heap}{A:Around}{outer:List Env}{s:Shared}{H:Hp} (e:Env0 P w K mg base A outer s H) (C:Addr) (us:List Value) (kw:List (Str×Value)) :
  Env0 P w K mg base (A.under (.builtin "type.__call__" ⟨.ref C::us,kw⟩)) outer s H:=⟨by first | exact e.frames | (simpa [Around.under,Code.envs,Code.isFrame,pushEnvs] using e.frames),e.mod,e.bs,e.bsz,e.funs,e.frf,e.hok,e.bare⟩
theorem Env0.in1 {P:Program}{w:World}{K:Frag}{mg:zM}{base:Heap}{A:Around}{outer:List Env}{s:Shared}{H:Hp} (e:Env0 P w K mg base A outer s H) :
  Env0 P w K mg base A.in1 outer s H:=⟨e.frames,e.mod,e.bs,e.bsz,e.funs,e.frf,e.hok,e.bare⟩
section
variable {X:Cx}{pins:zP}{σ:St}{H:Hp}{s s':Shared}
theorem Inv.env0 (I:Inv X pins σ H s):Env0 X.prog X.w X.K X.mg X.base X.A X.stack s H :=
 ⟨I.ok.frames,I.ok.mod,I.bs,Nat.le_trans I.ok.bsz I.sz,I.stack,I.stkFree,I.hok,I.bare⟩
theorem Inv.after {Q:VK}{u:Value} (I:Inv X pins σ H s) (h:CE X.stack X.prog X.w H s Q u s'):EP X pins σ Q u s':=by
 obtain ⟨v,H',os,bare,un,hok,r,q⟩:=h;obtain ⟨hh,g,d,t,os'⟩:=s';obtain rfl:os'=s.os:=os;exact ⟨v,H',I.call (h':=hh) (g':=g) (d':=d) (t':=t) (ch:=[]) un hok bare (fun b z=>absurd z (by simp)),r,q⟩
end
def iM_ (sp:Sp) (dvs:List V) (E:XK) (t:TA):TE:=fun σ H Q=>t σ H fun vs H1=>sp (vs++dvs) H1 Q E
def dG_ (C:Addr) (m:Str) (sp:Sp) (dvs:List V) (E:XK) (ta:TE) (t:TA):TE:=fun σ H Q=>ta σ H fun x H1=>∃ a dx fs,x = .ref a/\H1 a=some (.ins C dx fs)/\fs.lookup m=none /\
 t σ H1 fun vs H2=>sp (x::(vs++dvs)) H2 Q E
def bE_ (C:Addr) (sp:Sp) (dvs:List V) (E:XK) (t:TA):TE:=fun σ H Q=>t σ H fun vs H1=>∀ x dx,H1 x=none->H1 dx=none->dx≠x ->
 sp (.ref x::(vs++dvs)) (upd (upd H1 dx (.own x)) x (.ins C dx [])) (fun v H2=>v = .non/\Q (.ref x) H2) E
def bb_ (K:Frag) (fd:FuncData) (ps:List Str) (ds:List Value):Prop :=
 ∀ (s:Shared) (us:List Value),K.In s.heap->(us++ds).length=ps.length->BindsTo s fd ⟨us,[]⟩ (ps.zip (us++ds))
theorem bb_.all {K:Frag}{fd:FuncData}{ps:List Str} (h : ∀ us:List Value,us.length=ps.length->bindArgs fd ⟨us,[]⟩=pure (ps.zip us)):bb_ K fd ps []:=fun s us _ hl=>by
 rw [append_nil] at hl ⊢;exact .of_eq (h us hl)
def bR_ (CX:CXT) (X:Cx) (E:XK):Prop:=∀ (pins:zP) (σ:St) (H:Hp) (s:Shared) (e:Value) (s':Shared),Inv X pins σ H s->CX X.stack H s E e s'->X.xe e s'
section
variable {X:Cx}{CX:CXT}{k:Nat}{f C:Addr}{fd:FuncData}{ps:List Str}{sp:Sp}{dvs:List V}{ds:List Value}{E:XK}{x m:Str}{p pos apos:Pos}{e o:Expr}{es:List Expr}{ta:TE}{t:TA}
theorem h8_ {pins:zP}{σ:St}{H:Hp}{s:Shared}{Q:VK}{us:List Value}{vs:List V} (F:FnOk X.prog X.w X.K X.mg X.base CX k f fd ps sp) (hr:Room k X.A) (hb:bb_ X.K fd ps ds) (hd:Vals dvs ds) (hx:bR_ CX X E)
  (I:Inv X pins σ H s) (r:Vals vs us) (h:sp (vs++dvs) H Q E):wpAny (model X.prog X.w) X.A (call (.ref f) us) (EP X pins σ Q) X.xe s:=by
 have r2:Vals (vs++dvs) (us++ds):=r.append hd;have hl:(us++ds).length=ps.length:=by rw [<- r2.length];exact F.len _ _ _ _ h
 refine wpAny_call (codeAny_mono (F.run X.A X.stack s H ⟨us,[]⟩ (us++ds) (vs++dvs) Q E hr I.env0 (hb s us I.kIn hl) r2 h) fun r s' hq=>?_);cases r with
 | error e=>exact hx pins σ H s e s' I hq
 | ok fl =>
 cases fl with
 | ret u=>exact I.after hq
 | next=>exact False.elim hq
 | brk=>exact False.elim hq
 | cont=>exact False.elim hq
theorem fP_ (F:FnOk X.prog X.w X.K X.mg X.base CX k f fd ps sp) (hr:Room k X.A) (hg:Gl X x) (hm:X.mg x=some (.ref f)) (hk:keepIn X.K (.ref f)=true) (hb:bb_ X.K fd ps ds) (hd:Vals dvs ds) (hx:bR_ CX X E)
  (ha:PA X (e::es) t) (hdb:(x == ("__debug__":Str))=false:=by decide) (he:starEach (e::es) X.env=(false,eval e X.env)::starEach es X.env:=by rfl) (hpl:(backTo pos (starEach es X.env)).any (·.1)=false:=by rfl) :
  PE X (.Call (.Name x p) (e::es) [] pos) (iM_ sp dvs E t):=by
 intro pins s σ H Q I h;refine wpAny_Call_Name_kw (dN_ I hg hm ?_ hdb);refine callWith_K (h₀:=X.base) I.ok.mod.kin hk (thn (ha pos pins s σ H _ I h) fun us s1 ⟨vs,H1,I1,r,q⟩=>⟨I1.kIn,?_⟩) he hpl;exact h8_ F hr hb hd hx I1 r q
theorem hv_ {pl:Sem Bool} (he:PE X o ta) (c:Cls X.K C) (hm:Meth X.K C m f) (F:FnOk X.prog X.w X.K X.mg X.base CX k f fd ps sp) (hr:Room k X.A) (hb:bb_ X.K fd ps ds) (hd:Vals dvs ds) (hx:bR_ CX X E) (ha:PA X (e::es) t)
  (hst:starEach (e::es) X.env=(false,eval e X.env)::starEach es X.env:=by rfl) (hpl:(backTo pos (starEach es X.env)).any (·.1)=false:=by rfl)
  (ht:eval (.Call (.Attribute o m apos) (e::es) [] pos) X.env=(do
   let ov <- eval o X.env
   standAt apos.atName
   let (f,first) <- holding [ov] (getMethod ov m pl)
   callWith pos f first (backTo pos (starEach (e::es) X.env)) (backToKw pos (keywordEach [] X.env))):=by rfl) :
  PE X (.Call (.Attribute o m apos) (e::es) [] pos) (dG_ C m sp dvs E ta t):=by
 intro pins s σ H Q I h;refine PySem.W.methodCall_KW (pl:=pl) (thn (he pins s σ H _ I h) fun u s1 zq=>?_) ht;refine x_22 zq fun x H1 I1 rx zz0=>?_;refine x_33 zz0 fun a dx fs ex ea l q=>?_;subst ex;obtain rfl:u=Value.ref a:=rx;refine fl_ I1 ea c hm l ?_;refine callWith_K (first:=[.ref a]) (h₀:=X.base) I.ok.mod.kin hm.kp (thn (ha pos pins s1 σ H1 _ I1 q) fun us s2 ⟨vs,H2,I2,r,q2⟩=>⟨I2.kIn,?_⟩) hst hpl;exact h8_ (us := .ref a::us) (vs := .ref a::vs) F hr hb hd hx I2 (.cons rfl r) q2
theorem bk_ {pl:Sem Bool} (he:PE X o ta) (c:Cls X.K C) (hm:Meth X.K C m f) (F:FnOk X.prog X.w X.K X.mg X.base CX k f fd ps sp) (hr:Room k X.A) (hb:bb_ X.K fd ps ds) (hd:Vals dvs ds) (hx:bR_ CX X E)
  (ht:eval (.Call (.Attribute o m apos) [] [] pos) X.env=(do
   let ov <- eval o X.env
   standAt apos.atName
   let (f,first) <- holding [ov] (getMethod ov m pl)
   callWith pos f first (backTo pos (starEach [] X.env)) (backToKw pos (keywordEach [] X.env))):=by rfl) :
  PE X (.Call (.Attribute o m apos) [] [] pos) (dG_ C m sp dvs E ta tNil):=by
 intro pins s σ H Q I h;refine PySem.W.methodCall_KW (pl:=pl) (thn (he pins s σ H _ I h) fun u s1 zq=>?_) ht;refine x_22 zq fun x H1 I1 rx zz0=>?_;refine x_33 zz0 fun a dx fs ex ea l q=>?_;subst ex;obtain rfl:u=Value.ref a:=rx;refine fl_ I1 ea c hm l ?_;exact PySem.W.callWith_K0 (first:=[.ref a]) I1.kIn hm.kp (h8_ (us:=[.ref a]) (vs:=[.ref a]) F hr hb hd hx I1 (.cons rfl .nil) q)
structure Mk (K:Frag) (C f:Addr):Prop where
 makes:PySem.W.makesIn K C=true
 init:PySem.W.findIn K (.ref C) "__init__"=some (some (.ref f))
 fn:isFn K (.ref f)=true
 kp:keepIn K (.ref C)=true
theorem lB_ {pins:zP}{σ:St}{H:Hp}{s:Shared}{Q:VK}{us:List Value}{vs:List V} (M:Mk X.K C f) (F:FnOk X.prog X.w X.K X.mg X.base CX k f fd ps sp) (hr:Room (k+1) X.A) (hb:bb_ X.K fd ps ds) (hd:Vals dvs ds)
  (hx:bR_ CX X E) (I:Inv X pins σ H s) (r:Vals vs us)
  (h : ∀ x dx,H x=none->H dx=none->dx≠x->sp (.ref x::(vs++dvs)) (upd (upd H dx (.own x)) x (.ins C dx [])) (fun v H2=>v = .non/\Q (.ref x) H2) E) :
  wpAny (model X.prog X.w) X.A (call (.ref C) us) (EP X pins σ Q) X.xe s:=by
 have hq:=h (s.heap.objs.size+1) s.heap.objs.size (I.hok.fresh (le_succ _)) (I.hok.fresh (Nat.le_refl _)) (Nat.ne_of_lt (lt_succ_self _));have I2:=Inv.made (C:=C) I;have r2:Vals (V.ref (s.heap.objs.size+1)::(vs++dvs)) (Value.ref (s.heap.objs.size+1)::(us++ds)) := .cons rfl (r.append hd);have hl:(Value.ref (s.heap.objs.size+1)::us++ds).length=ps.length:=by
  have e:=r2.length;rw [F.len _ _ _ _ hq] at e;exact e.symm
 refine wpAny_call (l3_ (f:=f) I.kIn M.makes M.init (beq_iff_eq.mp M.fn) (codeAny_mono (F.run _ X.stack _ _ ⟨Value.ref (s.heap.objs.size+1)::us,[]⟩ (Value.ref (s.heap.objs.size+1)::(us++ds)) _ _ E (hr.make C us [])
  (I2.env0.make C us []) (hb _ (Value.ref (s.heap.objs.size+1)::us) I2.kIn hl) r2 hq) fun r s' hq'=>?_))
 cases r with
 | error e=>exact hx pins σ _ _ e s' I2 hq'
 | ok fl =>
 cases fl with
 | ret u =>
  refine x_23 (I2.after hq') fun v H' I3 rv ev q3=>?_;subst ev;exact ⟨rv,⟨V.ref (s.heap.objs.size+1),H',I3,rfl,q3⟩⟩
 | next=>exact False.elim hq'
 | brk=>exact False.elim hq'
 | cont=>exact False.elim hq'
theorem aU_ (M:Mk X.K C f) (F:FnOk X.prog X.w X.K X.mg X.base CX k f fd ps sp) (hr:Room (k+1) X.A) (hg:Gl X x) (hm:X.mg x=some (.ref C)) (hb:bb_ X.K fd ps ds) (hd:Vals dvs ds) (hx:bR_ CX X E)
  (ha:PA X (e::es) t) (hdb:(x == ("__debug__":Str))=false:=by decide) (he:starEach (e::es) X.env=(false,eval e X.env)::starEach es X.env:=by rfl) (hpl:(backTo pos (starEach es X.env)).any (·.1)=false:=by rfl) :
  PE X (.Call (.Name x p) (e::es) [] pos) (bE_ C sp dvs E t):=by
 intro pins s σ H Q I h;refine wpAny_Call_Name_kw (dN_ I hg hm ?_ hdb);refine callWith_K (h₀:=X.base) I.ok.mod.kin M.kp (thn (ha pos pins s σ H _ I h) fun us s1 ⟨vs,H1,I1,r,q⟩=>⟨I1.kIn,?_⟩) he hpl;exact lB_ M F hr hb hd hx I1 r q
end
section
variable {X:Cx}{CX:CXT}{k:Nat}{f C:Addr}{fd:FuncData}{ps ks:List Str}{sp:Sp}{E:XK}{x m:Str}{p pos apos kpos:Pos}{e o:Expr}{es:List Expr}{kws:List Keyword}{te ta:TE}{t tk:TA}{nm:Option Str}
variable {g:List Value->List Value->List Value}{gV:List V->List V->List V}
end
structure FnScope (N P:List Str) (sc:Scope):Prop where
 kind:sc.kind = .function
 co:sc.isCoroutine=false
 gen:sc.isGenerator=false
 nd:N.Nodup
 pre:N.take P.length=P
 par : ∀ x∈P,sc.names.lookup x=some .local\/sc.names.lookup x=some .cell
 nofree : ∀ y∈sc.names,y.2 ≠ .free
theorem hb_ {kindOf:Str->Option NameKind}{x:Str} : ∀ {binds:List (Str×Value)}{m:zM},(∀ v,(x,v)∉binds)->bindL kindOf binds m x=m x
 | [],_,_=>rfl
 | (n,v)::r,m,h=>by
  unfold bindL;rw [hb_ fun w hw=>h w (mem_cons_of_mem _ hw)];split
  ·have:x≠n:=by rintro rfl;exact h v mem_cons_self
   simp [this]
  rfl
theorem hd_ {kindOf:Str->Option NameKind}{x:Str} : ∀ {binds:List (Str×Value)}{m:zM},(∀ v,(x,v)∉binds)->bindC kindOf binds m x=m x
 | [],_,_=>rfl
 | (n,v)::r,m,h=>by
  unfold bindC;rw [hd_ fun w hw=>h w (mem_cons_of_mem _ hw)];split
  ·rfl
  have:x≠n:=by rintro rfl;exact h v mem_cons_self
  simp [this]
theorem hc_ {kindOf:Str->Option NameKind}{x:Str}{v:Value} : ∀ {P:List Str}{vs:List Value}{i:Nat}{m:zM},P.Nodup->P[i]? = some x->vs[i]? = some v->kindOf x=some .local ->
  bindL kindOf (P.zip vs) m x=some v
 | [],_,_,_,_,h,_,_=>by simp at h
 | _::_,[],_,_,_,_,h,_=>by simp at h
 | p::P,w::vs,0,m,nd,h1,h2,hk=>by
  simp at h1 h2;subst h1;subst h2;show bindL kindOf ((p,w)::P.zip vs) m p=_;unfold bindL;rw [hb_ fun v hv=>(nodup_cons.mp nd).1 (of_mem_zip hv).1,if_pos hk];simp
 | p::P,w::vs,i+1,m,nd,h1,h2,hk=>by
  show bindL kindOf ((p,w)::P.zip vs) m x=_;unfold bindL;exact hc_ (i:=i) (nodup_cons.mp nd).2 (by simpa using h1) (by simpa using h2) hk
theorem he_ {kindOf:Str->Option NameKind}{x:Str}{v:Value} : ∀ {P:List Str}{vs:List Value}{i:Nat}{m:zM},P.Nodup->P[i]? = some x->vs[i]? = some v->kindOf x≠some .local ->
  bindC kindOf (P.zip vs) m x=some v
 | [],_,_,_,_,h,_,_=>by simp at h
 | _::_,[],_,_,_,_,h,_=>by simp at h
 | p::P,w::vs,0,m,nd,h1,h2,hk=>by
  simp at h1 h2;subst h1;subst h2;show bindC kindOf ((p,w)::P.zip vs) m p=_;unfold bindC;rw [hd_ fun v hv=>(nodup_cons.mp nd).1 (of_mem_zip hv).1,if_neg hk];simp
 | p::P,w::vs,i+1,m,nd,h1,h2,hk=>by
  show bindC kindOf ((p,w)::P.zip vs) m x=_;unfold bindC;exact he_ (i:=i) (nodup_cons.mp nd).2 (by simpa using h1) (by simpa using h2) hk
def start (N:List Str) (vs:List V):St:=vs.map some++List.replicate (N.length - vs.length) none
noncomputable def cxOf (CX:CXT) (P:Program) (w:World) (K:Frag) (mg:zM) (base:Heap) (N:List Str) (qual:Str) (scope:Scope) (f:Addr) (cd:Value) (A:Around) (outer:List Env) (s:Shared) (H:Hp) (E:XK):Cx where
 prog:=P
 w:=w
 K:=K
 mg:=mg
 base:=base
 A:=A.deeper (envOfC qual scope s.heap.objs.size f cd)
 N:=N
 s_0:=s
 H_0:=H
 env:=envOfC qual scope s.heap.objs.size f cd
 outer:=outer
 stack:=envOfC qual scope s.heap.objs.size f cd::outer
 ex:=[]
 calm:=true
 fn:=fun _=>true
 pn:=[]
 xe:=fun e s'=>wpAny (model P w) (A.deeper (envOfC qual scope s.heap.objs.size f cd)) (leaving (envOfC qual scope s.heap.objs.size f cd) e) (fun _ s''=>CX outer H s E e s'') (fun e' s''=>CX outer H s E e' s'') s'
theorem iH_ {sc:Scope}{n:Nat}{x:Str} (h:sc.names.lookup x=some .cell) : ∃ c,(cellsFrom n sc.names []).lookup x=some c:=by
 have q:=PySem.W.cellsFrom_some sc.names n [] (.inl h);exact Option.isSome_iff_exists.mp q
theorem gY_ {CX:CXT}{P:Program}{w:World}{K:Frag}{mg:zM}{base:Heap}{N ps:List Str}{qual:Str}{scope:Scope}{f:Addr}{cd:Value}{A:Around}{outer:List Env}{s s1:Shared}{H:Hp}{E:XK}{us:List Value}{vs:List V}
  (S:FnScope N ps scope) (hd:A.handled=none) (e0:Env0 P w K mg base A outer s H) (hl:vs.length=ps.length) (r:Vals vs us)
  (x:InCallC s s.heap.objs.size (bindL (envOfC qual scope s.heap.objs.size f cd).kindOf (ps.zip us) fun _=>none) (cellsFrom (s.heap.objs.size+1) scope.names []) (bindC (envOfC qual scope s.heap.objs.size f cd).kindOf (ps.zip us) fun _=>none) s1) :
  Inv (cxOf CX P w K mg base N qual scope f cd A outer s H E) [] (start N vs) H s1:=by
 have hpl:ps.length<=N.length:=by have:=congrArg List.length S.pre;rw [length_take] at this;omega
 refine x_21 x.done fun h1 tk zr2 hk=>?_;subst zr2;have noA : ∀ b:Addr,b∉(cxOf CX P w K mg base N qual scope f cd A outer s H E).ex:=fun b z=>absurd (show b∈([]:List Addr) from z) (by simp);refine ⟨⟨e0.mod,S.kind,rfl,rfl,Nat.le_refl _,fun y z c h1 h2=>?_,fun y hy=>?_,fun y c _ h=>?_,fun _=>hd,Around.frames_deeper e0.frames,.inr ⟨rfl,rfl⟩,fun b z=>absurd z (noA b),e0.bs,e0.bsz,fun b _ _=>noA b,fun b z=>absurd z (noA b),e0.funs,e0.frf⟩,
  rfl,e0.bare,Un.kept hk,⟨_,x.toInCall.ns,fun i y v h1 h2 h3=>?_⟩,fun y c h=>⟨_,x.cell y c h⟩,e0.hok.fresh (Nat.le_refl _),fun y c h=>?_,fun p hp=>absurd (show p∈([]:zP) from hp) (by simp),e0.hok.kept hk,?_⟩
 ·exact name_of_addr x.apart (PySem.mem_of_lookup h1) (PySem.mem_of_lookup h2)
 ·have hy:scope.names.lookup y=some .cell\/scope.names.lookup y=some .free:=hy
  rcases hy with hy | hy
  ·exact iH_ hy
  exact absurd rfl (S.nofree _ (PySem.mem_of_lookup hy))
 ·exact Nat.le_of_lt (x.above y c (PySem.mem_of_lookup h))
 ·have hi:i<vs.length:=by
   unfold start at h2;by_cases hi:i<vs.length
   ·exact hi
   rw [List.getElem?_append_right (by simpa using hi)] at h2;rw [List.getElem?_replicate] at h2;split at h2 <;> cases h2
  have ha:vs[i]? = some v:=by
   unfold start at h2;rw [List.getElem?_append_left (by simpa using hi),getElem?_map] at h2;cases e:vs[i]? with
   | none=>rw [e] at h2;cases h2
   | some a=>rw [e] at h2;cases h2;rfl
  obtain ⟨u,hu,rv⟩:=r.get ha;have hp:ps[i]? = some y:=by
   rw [<- S.pre,List.getElem?_take_of_lt (by omega)];exact h1
  have ndP:ps.Nodup:=by rw [<- S.pre];exact S.nd.sublist (List.take_sublist _ _)
  refine ⟨u,rv,?_⟩;rcases S.par y (mem_of_getElem? hp) with k | k
  ·exact .inl ⟨k,hc_ ndP hp hu k⟩
  obtain ⟨c,e⟩:=iH_ (n:=s.heap.objs.size+1) k;refine .inr ⟨.inl k,c,e,?_⟩;have q:=x.cell y c e;rw [he_ ndP hp hu (by show scope.names.lookup y≠_;rw [k];decide)] at q;exact q
 ·exact e0.hok.fresh (Nat.le_of_lt (x.above y c (PySem.mem_of_lookup h)))
 unfold start;show _=N.length;rw [length_append,length_map,List.length_replicate];omega
theorem pb_ {CX:CXT}{P:Program}{w:World}{K:Frag}{mg:zM}{base:Heap}{k:Nat}{f:Addr}{name qual:Str}{params:Arguments}{body:List Stmt}{scope:Scope}{dV kV doc pm cdv ct oc:Value}{an od:Option Addr}
  {osl:Array (Option Value)}{N ps:List Str}{sp:Sp} (lk:K.lookup f=some ⟨oc,od,.func (fnOf name qual params body scope dV kV doc pm an cdv ct),osl⟩) (hcd:codeIn K cdv qual=true) (S:FnScope N ps scope)
  (len : ∀ vs H Q E,sp vs H Q E->vs.length=ps.length)
  (hbody : ∀ (A:Around) (outer:List Env) (s:Shared) (H:Hp) (vs:List V) (Q:VK) (E:XK),Room k (A.deeper (envOfC qual scope s.heap.objs.size f cdv))->sp vs H Q E ->
   ∃ t,PSs (cxOf CX P w K mg base N qual scope f cdv A outer s H E) body t/\t { nx:=fun _ H'=>Q .non H',rt:=Q } (start N vs) H) :
  FnOk P w K mg base CX (k+1) f (fnOf name qual params body scope dV kV doc pm an cdv ct) ps sp:=by
 refine ⟨len,fun A outer s H args us vs Q E hr e0 hb r hsp=>?_⟩;have hl:=len _ _ _ _ hsp;have KX:K.In s.heap:=e0.mod.kin.keeps fun b o e=>(e0.bs b o e).1;have lim:s.heap.NoLimit:=e0.mod.nolimit.keeps fun b o e=>(e0.bs b o e).1;have hkind : ∀ y∈ps.zip us,scope.names.lookup y.1=some .local\/(scope.names.lookup y.1=some .cell/\((cellsFrom (s.heap.objs.size+1) scope.names []).lookup y.1).isSome=true):=fun ⟨n,v⟩ hy=>by
  rcases S.par n (of_mem_zip hy).1 with q | q
  ·exact .inl q
  exact .inr ⟨q,PySem.W.cellsFrom_some _ _ _ (.inl q)⟩
 refine codeAny_call_function hr.depth (KX _ _ lk) rfl S.co S.gen rfl (PySem.W.codeRec_of KX hcd) (hb _ _ _ _ ?_);refine wpAny_newFunctionEnv_cells S.kind hkind fun env he s1 x=>?_;subst he;refine ⟨lim.keeps x.toInCall.keep,codeAny_func ?_⟩;obtain ⟨t,ht,hq⟩:=hbody A outer s H vs Q E (hr.deeper _) hsp;have I:Inv (cxOf CX P w K mg base N qual scope f cdv A outer s H E) [] (start N vs) H s1:=gY_ S hr.hd e0 hl r x;refine wpAny_mono (ht [] s1 (start N vs) H _ I hq) (fun fl s' hs=>?_) fun e s' hs=>hs;have fin : ∀ {σ':St}{H':Hp}{v:V}{u:Value},Inv (cxOf CX P w K mg base N qual scope f cdv A outer s H E) [] σ' H' s'->RelV v u->Q v H'->CE outer P w H s Q u s' :=
  fun {σ' H' v u} J rv q=>⟨v,H',J.os,J.bare,J.base,J.hok,rv,q⟩
 cases fl with
 | ret u =>
  refine x_32 hs fun v σ' H' J rv q=>?_;exact fin J rv q
 | next =>
  refine x_21 hs fun σ' H' J q=>?_;exact fin (v:=V.non) (u:=Value.none) J rfl q
 | brk =>
  refine x_21 hs fun _ _ _ q=>?_;exact False.elim q
 | cont =>
 refine x_21 hs fun _ _ _ q=>?_;exact False.elim q
end
section
section
variable {X:Cx}{x:Str}{p pos:Pos}{e:Expr}{es:List Expr}{t:TA}{id T:String}{r:List V->Hp->VK->Prop}
def tCB (r:List V->Hp->VK->Prop) (t:TA):TE:=fun σ H Q=>t σ H fun vs H1=>r vs H1 Q
theorem aD_ (hc:cS_ X (.builtin id) r) (hg:Gl X x) (hm:X.mg x=none) (hv:bootBuiltins x=some (.builtin id)) (ha:PA X (e::es) t) (hn:x≠"__name__":=by decide) (hdb:(x == ("__debug__":Str))=false:=by decide)
  (he:starEach (e::es) X.env=(false,eval e X.env)::starEach es X.env:=by rfl) (hpl:(backTo pos (starEach es X.env)).any (·.1)=false:=by rfl):PE X (.Call (.Name x p) (e::es) [] pos) (tCB r t):=by
 intro pins s σ H Q I h;refine wpAny_Call_Name_kw (dX_ I hg hm hv ?_ hn hdb);exact PyProof.Rows.callWith_builtin1 (thn (ha pos pins s σ H _ I h) fun us s1 ⟨vs,H1,I1,r1,q1⟩=>hc pins s1 σ H1 vs us Q I1 r1 q1) he hpl
theorem a8_ (hc:cS_ X (.type T) r) (hg:Gl X x) (hm:X.mg x=none) (hv:bootBuiltins x=some (.type T)) (ha:PA X (e::es) t) (hn:x≠"__name__":=by decide) (hdb:(x == ("__debug__":Str))=false:=by decide)
  (he:starEach (e::es) X.env=(false,eval e X.env)::starEach es X.env:=by rfl) (hpl:(backTo pos (starEach es X.env)).any (·.1)=false:=by rfl):PE X (.Call (.Name x p) (e::es) [] pos) (tCB r t):=by
 intro pins s σ H Q I h;refine wpAny_Call_Name_kw (dX_ I hg hm hv ?_ hn hdb);exact PyProof.Rows.callWith_type1 (thn (ha pos pins s σ H _ I h) fun us s1 ⟨vs,H1,I1,r1,q1⟩=>hc pins s1 σ H1 vs us Q I1 r1 q1) he hpl
end
end
end L2
namespace HT
open PySem PyProof.Rows
section
open PySem.SeqAt
open PySem.AutoSeq1 (wpAny_loadPart')
open PySem.MeetsSeq PySem.MeetsSeq2 PySem.MeetsSeq3
end
section
variable {prog:Program}{w:World}{A:Around}{E:zQ}{s:Shared}
theorem cat_tup {t b:Addr}{vs ws:List Value}{Q:zQ} (ht:IsTup s.heap t vs.toArray) (hb:IsTup s.heap b ws.toArray) (hv:vs≠[])
  (h1:ws=[]->Q (.ref t) s) (h2:ws≠[]->Q (.ref s.heap.objs.size) { s with heap:=s.heap.push { cls := .type "tuple",data := .seq (vs++ws).toArray } })
  (hsz:vs.length+ws.length<=sizeLine):wpAny (model prog w) A (binaryOp .Add (.ref t) (.ref b)) Q E s:=by
 obtain ⟨⟨cls,dd,data,sl⟩,ho,hc,n,hd⟩:=id ht;obtain ⟨⟨cls2,dd2,data2,sl2⟩,ho2,hc2,n2,hd2⟩:=id hb;simp only at hc hd hc2 hd2;subst hc hd hc2 hd2;have e:vs.toArray++ws.toArray=(vs++ws).toArray:=by simp
 by_cases hw:ws=[]
 ·exact concat_meets ⟨_,ho,rfl⟩ ⟨_,ho2,rfl⟩ noFill_tuple_add seq_tuple_add PySem.F.slot_tuple_add PySem.F.entry_tuple_add (PySem.F.args_tuple_add_2 _ _)
   (tuple_addW1 t b vs.toArray ws.toArray n n2 dd dd2 sl sl2 (by simpa using hv) (by simp [hw])) ⟨ho,ho2,h1 hw⟩
 refine concat_meets ⟨_,ho,rfl⟩ ⟨_,ho2,rfl⟩ noFill_tuple_add seq_tuple_add PySem.F.slot_tuple_add PySem.F.entry_tuple_add (PySem.F.args_tuple_add_2 _ _)
  (tuple_addW2 t b vs.toArray ws.toArray n n2 dd dd2 sl sl2 (by simpa using hv) (by simpa using hw) (by rw [size_toArray,size_toArray];exact hsz)) ⟨ho,ho2,?_⟩
 rw [e];exact h2 hw
def sIx (n d:Nat):Option Int->Nat
 | none=>d
 | some v=>if v<0 then (v+(n:Int)).toNat else min v.toNat n
theorem sIx_none (n d:Nat):sIx n d none=d:=rfl
theorem sIx_nat (n d k:Nat):sIx n d (some (k:Int))=min k n:=by
 show (if (k:Int)<0 then ((k:Int)+(n:Int)).toNat else min (k:Int).toNat n)=min k n;rw [if_neg (by omega),Int.toNat_natCast]
theorem sIx_le (n d:Nat) (hd:d<=n) (o:Option Int):sIx n d o<=n:=by
 cases o with
 | none=>exact hd
 | some v =>
 show (if v<0 then (v+(n:Int)).toNat else min v.toNat n)<=n;by_cases hv:v<0
 ·rw [if_pos hv];omega
 rw [if_neg hv];exact Nat.min_le_right _ _
end
end HT
namespace L2
open PySem PySem.Spec PyProof.Rows
section
abbrev TO:=St->Hp->(Option Int->Hp->Prop)->Prop
def PO (X:Cx) (e:Option Expr) (t:TO):Prop :=
 ∀ (pins:zP) (s:Shared) (σ:St) (H:Hp) (Q:Option Int->Hp->Prop),Inv X pins σ H s->t σ H Q ->
  wpAny (model X.prog X.w) X.A (evalPart e X.env) (fun u s'=>∃ o H',Inv X pins σ H' s'/\IsPart u o/\Q o H') X.xe s
def jF_:TO:=fun _ H Q=>Q none H
def op_ (t:TE):TO:=fun σ H Q=>t σ H fun x H1=>∃ i,x = .int i/\Q (some i) H1
section
variable {X:Cx}{e:Expr}{te:TE}{lo hi:Option Expr}{tl th:TO}{pos p2:Pos}
theorem kb_:PO X none jF_:=by
 intro pins s σ H Q I h;rw [evalPart_none];exact wpAny_pure ⟨none,H,I,.none,h⟩
theorem bT_ (h:PE X e te):PO X (some e) (op_ te):=by
 intro pins s σ H Q I hw;rw [evalPart_some];refine thn (h pins s σ H _ I hw) fun u s1 zq=>?_;refine x_22 zq fun x H1 I1 r1 q1=>?_;obtain ⟨i,rfl,q⟩:=q1;obtain ⟨t,rfl⟩:=r1;exact ⟨some i,H1,I1,.int i t,q⟩
def SlR (X:Cx) (r:V->Option Int->Option Int->Hp->VK->Prop):Prop :=
 ∀ (pins:zP) (s:Shared) (σ:St) (H:Hp) (x:V) (v vl vu:Value) (lo hi:Option Int) (sl:Addr) (Q:VK),Inv X pins σ H s->RelV x v->s.heap.IsSliceOf sl vl vu .none->IsPart vl lo->IsPart vu hi->r x lo hi H Q ->
  ∃ T id,typeLookup (.type T) "__getitem__"=pure (some (.builtin id))/\s.TypeIs v T/\wpAny (model X.prog X.w) X.A (getItem v (.ref sl)) (EP X pins σ Q) X.xe s
theorem SlR.or {r r':V->Option Int->Option Int->Hp->VK->Prop} (h:SlR X r) (h':SlR X r'):SlR X (fun x lo hi H Q=>r x lo hi H Q\/r' x lo hi H Q):=by
 intro pins s σ H x v vl vu lo hi sl Q I rx hs pl pu q;rcases q with q | q
 ·exact h pins s σ H x v vl vu lo hi sl Q I rx hs pl pu q
 exact h' pins s σ H x v vl vu lo hi sl Q I rx hs pl pu q
def tSl (r:V->Option Int->Option Int->Hp->VK->Prop) (te:TE) (tl th:TO):TE:=fun σ H Q=>te σ H fun x H1=>tl σ H1 fun l H2=>th σ H2 fun u H3=>r x l u H3 Q
theorem cG_ {r:V->Option Int->Option Int->Hp->VK->Prop} (hr:SlR X r) (he:PE X e te) (hl:PO X lo tl) (hu:PO X hi th):PE X (.Subscript e (.Slice lo hi none p2) pos) (tSl r te tl th):=by
 intro pins s σ H Q I h;refine Subscript_ (thn (he pins s σ H _ I h) fun v s1 zq=>?_);refine x_22 zq fun x H1 I1 r1 q1=>?_;refine wpAny_Slice (thn (hl pins s1 σ H1 _ I1 q1) fun vl s2 ⟨l,H2,I2,pl,q2⟩=>thn (hu pins s2 σ H2 _ I2 q2) fun vu s3 zq=>?_);refine x_22 zq fun u H3 I3 pu q3=>?_;rw [evalPart_none];refine wpAny_pure ?_;have I4:Inv X pins σ H3 { s3 with heap:=s3.heap.push { cls := .type "slice",data := .fields #[vl,vu,.none] } }:=I3.kept (t':=s3.toks) fun b ob q=>get?_push_of_some _ q;obtain ⟨T,id,hT,ht,hg⟩:=hr pins { s3 with heap:=s3.heap.push { cls := .type "slice",data := .fields #[vl,vu,.none] } } σ H3 x v vl vu l u s3.heap.objs.size Q I4 r1 (Heap.IsSliceOf.new ..) pl pu q3;show wpAny (model X.prog X.w) X.A (subscriptTail e (.Slice lo hi none p2) v (.ref s3.heap.objs.size)) (EP X pins σ Q) X.xe { s3 with heap:=s3.heap.push { cls := .type "slice",data := .fields #[vl,vu,.none] } };exact tail_any (ops:=[.ref s3.heap.objs.size,v]) ht hT hg (by with_unfolding_all rfl)
def cutV (xs:List V) (lo hi:Option Int):List V:=(xs.drop (HT.sIx xs.length 0 lo)).take (HT.sIx xs.length xs.length hi - HT.sIx xs.length 0 lo)
theorem hQ_ (xs:List V) (lo hi:Option Int):(cutV xs lo hi).length<=xs.length:=by
 unfold cutV;rw [length_take,length_drop];omega
def px_ (K:Frag):R2:=fun x y H Q=>∃ a b xs ys,x = .ref a/\y = .ref b/\SqT K H a xs/\SqT K H b ys/\xs≠[]/\xs.length+ys.length<=sizeLine /\
 (ys=[]->Q (.ref a) H)/\(ys≠[]->∀ p,H p=none->Q (.ref p) (upd H p (.tup (xs++ys))))
theorem Vals.nil_iff {xs:List V}{us:List Value} (r:Vals xs us):us=[]↔xs=[]:=by
 cases r with
 | nil=>simp
 | cons _ _=>simp
theorem nE_:OpR X (binaryOp .Add) (px_ X.K):=by
 intro pins s σ H x y v u Q I rx ry h;refine x_40 h fun a b xs ys zy=>x_07 zy fun zr4 zr5 ha hb hx hz q1 q2=>?_;subst zr4;subst zr5;cases rx;cases ry;refine x_12 (I.tuple ha) fun its r1 p1 _=>?_;refine x_12 (I.tuple hb) fun its2 r2 p2 _=>?_;refine HT.cat_tup p1 p2 (fun z=>hx (r1.nil_iff.mp z)) (fun z=>⟨.ref a,H,I,rfl,q1 (r2.nil_iff.mp z)⟩) (fun z=>?_) (by rw [<- r1.length,<- r2.length];exact hz);refine ⟨.ref s.heap.objs.size,_,I.laid (t':=s.toks) (o := .tup (xs++ys)) (fun b ob q=>get?_push_of_some _ q) (Nat.le_refl _) ?_,rfl,q2 (fun w=>z (r2.nil_iff.mpr w)) _ (I.hok.fresh (Nat.le_refl _))⟩;exact ⟨by rw [length_append];exact hz,_,r1.append r2,IsTup.new _ _⟩
end
end
section
def ixN (n:Nat) (i:Int):Option Nat:=if 0<=i then (if i<n then some i.toNat else none) else if -(n:Int)<=i then some (i+n).toNat else none
def atI {α:Type} (xs:List α) (i:Int):Option α:=(ixN xs.length i).bind fun j=>xs[j]?
theorem nR_ {n:Nat}{i:Int}{j:Nat} (h:ixN n i=some j):seqIndex? i n=some j/\j<n /\ -(n:Int)<=i/\i<n:=by
 unfold ixN at h;by_cases h0:0<=i
 ·rw [if_pos h0] at h
  by_cases h1:i<n
  ·rw [if_pos h1] at h
   have e:i.toNat=j:=Option.some.inj h;exact ⟨by rw [seqIndex_of h0 h1,e],by omega,by omega,h1⟩
  rw [if_neg h1] at h;cases h
 rw [if_neg h0] at h;by_cases h1 : -(n:Int)<=i
 ·rw [if_pos h1] at h
  have e:(i+n).toNat=j:=Option.some.inj h;exact ⟨by rw [seqIndex_neg (by omega) h1,e],by omega,h1,by omega⟩
 rw [if_neg h1] at h;cases h
theorem hW_ {α:Type}{xs:List α}{i:Int}{v:α} (h:atI xs i=some v) : ∃ j,seqIndex? i xs.length=some j/\xs[j]? = some v/\j<xs.length /\ -(xs.length:Int)<=i/\i<xs.length:=by
 unfold atI at h;cases e:ixN xs.length i with
 | none=>rw [e] at h;cases h
 | some j =>
 rw [e] at h;refine x_03 (nR_ e) fun h1 h2 h3 h4=>?_;exact ⟨j,h1,h,h2,h3,h4⟩
theorem bt_ {α:Type}{xs:List α}{j:Nat}{v:α} (h:xs[j]? = some v):atI xs (j:Int)=some v:=by
 have hj:j<xs.length:=(List.getElem?_eq_some_iff.mp h).1;have e:ixN xs.length (j:Int)=some j:=by
  unfold ixN;rw [if_pos (by omega),if_pos (by omega)];simp
 unfold atI;rw [e];exact h
def oi_ (b:Expr):Prop:=∀ o i,subscripted b false o i=operate [o,i] (getItem o i)
def IxR (X:Cx) (r:R2):Prop :=
 ∀ (value slice:Expr) (pins:zP) (s:Shared) (σ:St) (H:Hp) (x y:V) (v u:Value) (Q:VK),Inv X pins σ H s->RelV x v->RelV y u->r x y H Q ->
  subscripted slice false v u=operate [v,u] (getItem v u)->wpAny (model X.prog X.w) X.A (subscriptTail value slice v u) (EP X pins σ Q) X.xe s
def MtR (X:Cx) (id:String) (r:V->List V->Hp->VK->Prop):Prop :=
 ∀ (pins:zP) (s:Shared) (σ:St) (H:Hp) (x:V) (xs:List V) (v:Value) (us:List Value) (Q:VK),Inv X pins σ H s->RelV x v->Vals xs us->r x xs H Q ->
  wpAny (model X.prog X.w) X.A (call (.builtin id) (v::us)) (EP X pins σ Q) X.xe s
section
variable {X:Cx}{a b:Expr}{ta tb:TE}{pos:Pos}
theorem IxR.or {r r':R2} (h:IxR X r) (h':IxR X r'):IxR X (fun x y H Q=>r x y H Q\/r' x y H Q):=by
 intro value slice pins s σ H x y v u Q I rx ry q hs;rcases q with q | q
 ·exact h value slice pins s σ H x y v u Q I rx ry q hs
 exact h' value slice pins s σ H x y v u Q I rx ry q hs
theorem MtR.or {id:String}{r r':V->List V->Hp->VK->Prop} (h:MtR X id r) (h':MtR X id r'):MtR X id (fun x xs H Q=>r x xs H Q\/r' x xs H Q):=by
 intro pins s σ H x xs v us Q I rx rs q;rcases q with q | q
 ·exact h pins s σ H x xs v us Q I rx rs q
 exact h' pins s σ H x xs v us Q I rx rs q
theorem aY_ {r:R2} (hr:IxR X r) (ha:PE X a ta) (hb:PE X b tb) (hs:oi_ b):PE X (.Subscript a b pos) (tOp r ta tb):=by
 intro pins s σ H Q I h;exact Subscript_ (binT ha hb I h fun v u s2 x y H2 I2 rx ry q=>hr a b pins s2 σ H2 x y v u Q I2 rx ry q (hs _ _))
def rIxL (K:Frag):R2:=fun x y H Q=>∃ p xs i v,x = .ref p/\y = .int i/\SqL K H p xs/\atI xs i=some v/\Q v H
def rIxT (K:Frag):R2:=fun x y H Q=>∃ p xs i v,x = .ref p/\y = .int i/\SqT K H p xs/\atI xs i=some v/\Q v H
def rIxS:R2:=fun x y H Q=>∃ z i c,x = .str z/\y = .int i/\z.length<=sizeLine/\atI z.cps.toList i=some c/\Q (.str ⟨#[c]⟩) H
theorem aN_:IxR X (rIxL X.K):=by
 intro value slice pins s σ H x y v u Q I rx ry h hs;refine x_40 h fun p xs i z zy=>x_04 zy fun zr4 zr5 hq he q=>?_;subst zr4;subst zr5;cases rx;obtain ⟨t,rfl⟩:=ry;refine x_12 (I.list hq) fun its r pl hz=>?_;refine x_10 (hW_ he) fun j zy=>x_04 zy fun h1 h2 h3 h4 h5=>?_;obtain ⟨w,ew,rw'⟩:=r.get h2;have hl:=r.length;have hn:=do_;have fin:EP X pins σ Q w s:=⟨z,H,I,rw',q⟩;by_cases h0:0<=i
 ·have hj:i.toNat=j:=by
   rw [seqIndex_of h0 h5] at h1;exact Option.some.inj h1
  exact item_listR pl.isList h0 (by omega) (by rw [hj];simpa using ew) fin hs
 have hj:(i+(its.toArray.size:Int)).toNat=j:=by
  rw [seqIndex_neg (by omega) h4] at h1;rw [size_toArray,<- hl];exact Option.some.inj h1
 exact subscriptTail_builtinR (x:=w) pl.isList.typeIs slot_list_getitem.lookup
  (wpAny_getItem_list_neg (Q:=fun r s'=>r=w/\EP X pins σ Q r s') pl.isList (by omega) (by rw [size_toArray] <;> omega) (by omega) (by rw [hj];simpa using ew) ⟨rfl,fin⟩) hs
theorem bC_:IxR X (rIxT X.K):=by
 intro value slice pins s σ H x y v u Q I rx ry h hs;refine x_40 h fun p xs i z zy=>x_04 zy fun zr4 zr5 hq he q=>?_;subst zr4;subst zr5;cases rx;obtain ⟨t,rfl⟩:=ry;refine x_12 (I.tuple hq) fun its r pl hz=>?_;refine x_10 (hW_ he) fun j zy=>x_04 zy fun h1 h2 h3 h4 h5=>?_;obtain ⟨w,ew,rw'⟩:=r.get h2;have hl:=r.length;have hn:=do_;have fin:EP X pins σ Q w s:=⟨z,H,I,rw',q⟩;exact subscriptTail_builtinR (x:=w) pl.typeIs slot_tuple_getitem.lookup
  (getItem_tuple (j:=j) (Q:=fun r s'=>r=w/\EP X pins σ Q r s') pl (by omega) (by omega) (by rw [size_toArray,<- hl];exact h1) (by simpa using ew) ⟨rfl,fin⟩) hs
theorem mR_:IxR X rIxS:=by
 intro value slice pins s σ H x y v u Q I rx ry h hs;refine x_34 h fun z i c zr3 zr4 hz he q=>?_;subst zr3;subst zr4;obtain ⟨t,rfl⟩:=rx;obtain ⟨t',rfl⟩:=ry;refine x_10 (hW_ he) fun j zy=>x_04 zy fun h1 h2 h3 h4 h5=>?_;have hl:z.cps.toList.length=z.length:=by simp [Str.length]
 rw [hl] at h1 h4 h5;have hn:=do_;exact tail_any (typeIs_str s z t) slot_str_getitem.lookup (getItem_str (c:=c) (by
  have e1:decide (i < -(2 ^ 63:Int))=false:=decide_eq_false (by omega);have e2:decide (i≥2 ^ 63)=false:=decide_eq_false (by omega);rw [e1,e2,Bool.or_false]) (by rw [h1];simpa using h2) ⟨.str ⟨#[c]⟩,H,I.tok _,⟨_,rfl⟩,q⟩) hs
theorem gB_ (lo hi:Option Int) (n:Nat):(sliceBounds lo hi none n).1=((HT.sIx n 0 lo:Nat):Int)/\(sliceBounds lo hi none n).2.1=((HT.sIx n n hi:Nat):Int)/\(sliceBounds lo hi none n).2.2=1:=by
 refine ⟨?_,?_,rfl⟩
 ·cases lo with
  | none=>simp [sliceBounds,HT.sIx]
  | some i =>
   simp only [sliceBounds,HT.sIx,Option.getD_none,show (1:Int) > 0 by decide,if_true];by_cases h:i<0
   ·simp only [h,if_true] <;> omega
   simp only [h,if_false] <;> omega
 cases hi with
 | none=>simp [sliceBounds,HT.sIx]
 | some i =>
 simp only [sliceBounds,HT.sIx,Option.getD_none,show (1:Int) > 0 by decide,if_true];by_cases h:i<0
 ·simp only [h,if_true] <;> omega
 simp only [h,if_false] <;> omega
theorem fJ_ (its:List Value) (lo hi:Option Int):slicePick its.toArray lo hi none=((its.drop (HT.sIx its.length 0 lo)).take (HT.sIx its.length its.length hi - HT.sIx its.length 0 lo)).toArray:=by
 obtain ⟨h1,h2,h3⟩:=gB_ lo hi its.toArray.size;unfold slicePick;rw [h1,h2,h3];simp only [sliceRange_one,pick_run,size_toArray] <;> rfl
def rSlL (K:Frag):V->Option Int->Option Int->Hp->VK->Prop:=fun x lo hi H Q=>∃ a xs,x = .ref a/\SqL K H a xs/\∀ p,H p=none->Q (.ref p) (upd H p (.lst (cutV xs lo hi)))
theorem fK_:SlR X (rSlL X.K):=by
 intro pins s σ H x v vl vu lo hi sl Q I rx hs pl pu h;refine x_22 h fun a xs zr2 hx q=>?_;subst zr2;cases rx;refine x_12 (I.list hx) fun its r ht hz=>?_;have hlen:=r.length;refine ⟨"list",_,slot_list_getitem.lookup,ht.isList.typeIs,?_⟩;refine wpAny_getItem_list_slice ht.isList hs pl pu .none (by simp) ?_ (by rw [size_toArray] <;> omega)
 rw [fJ_,<- hlen];refine ⟨.ref s.heap.objs.size,_,I.laid (t':=s.toks) (o := .lst (cutV xs lo hi)) (fun b ob q=>get?_push_of_some _ q) (Nat.le_refl _) ?_,rfl,q _ (I.hok.fresh (Nat.le_refl _))⟩;exact ⟨Nat.le_trans (hQ_ xs lo hi) hz,_,0,(r.drop (HT.sIx xs.length 0 lo)).take (HT.sIx xs.length xs.length hi - HT.sIx xs.length 0 lo),get?_push_size _ rfl⟩
def e6_:V->Bool
 | .non=>true
 | .bl _=>true
 | .int _=>true
 | .str _=>true
 | _=>false
noncomputable def eqV:V->V->Bool
 | .non,.non=>true
 | .bl a,.bl b=>a == b
 | .bl a,.int b=>(if a then 1 else 0) == b
 | .int a,.bl b=>a == (if b then 1 else 0)
 | .int a,.int b=>a == b
 | .str a,.str b=>a == b
 | _,_=>false
theorem pd_ {A:Around}{s:Shared}{y x:V}{u v:Value} (ry:RelV y u) (rx:RelV x v) (fy:e6_ y=true) (fx:e6_ x=true):SeqAt.EqAt A s u v (eqV y x):=by
 cases y with
 | non =>
  cases ry;cases x with
  | non=>cases rx;exact SeqAt.EqAt.same _
  | bl b=>cases rx;exact SeqAt.EqAt.none_bool b
  | int b=>obtain ⟨t,rfl⟩:=rx;exact SeqAt.EqAt.none_int b t
  | str b=>obtain ⟨t,rfl⟩:=rx;exact SeqAt.EqAt.none_str b t
  | _=>exact absurd (show false=true from fx) Bool.false_ne_true
 | bl a =>
  cases ry;cases x with
  | non=>cases rx;exact SeqAt.EqAt.bool_none a
  | bl b=>cases rx;exact SeqAt.EqAt.bool_bool a b
  | int b=>obtain ⟨t,rfl⟩:=rx;exact SeqAt.EqAt.bool_int a b t
  | str b=>obtain ⟨t,rfl⟩:=rx;exact SeqAt.EqAt.bool_str a b t
  | _=>exact absurd (show false=true from fx) Bool.false_ne_true
 | int a =>
  obtain ⟨t',rfl⟩:=ry;cases x with
  | non=>cases rx;exact SeqAt.EqAt.int_none a t'
  | bl b=>cases rx;exact SeqAt.EqAt.int_bool a t' b
  | int b=>obtain ⟨t,rfl⟩:=rx;exact SeqAt.EqAt.int_int a t' b t
  | str b=>obtain ⟨t,rfl⟩:=rx;exact SeqAt.EqAt.int_str a t' b t
  | _=>exact absurd (show false=true from fx) Bool.false_ne_true
 | str a =>
  obtain ⟨t',rfl⟩:=ry;cases x with
  | non=>cases rx;exact SeqAt.EqAt.str_none a t'
  | bl b=>cases rx;exact SeqAt.EqAt.str_bool a t' b
  | int b=>obtain ⟨t,rfl⟩:=rx;exact SeqAt.EqAt.str_int a t' b t
  | str b=>obtain ⟨t,rfl⟩:=rx;exact SeqAt.EqAt.str_str a t' b t
  | _=>exact absurd (show false=true from fx) Bool.false_ne_true
 | _=>exact absurd (show false=true from fy) Bool.false_ne_true
noncomputable def eqU (x:V) (u:Value):Bool:=match u with
 | .none=>eqV .non x
 | .bool b=>eqV (.bl b) x
 | .int i _=>eqV (.int i) x
 | .str z _=>eqV (.str z) x
 | _=>false
theorem mU_ {x y:V}{u:Value} (r:RelV y u) (f:e6_ y=true):eqU x u=eqV y x:=by
 cases y with
 | non=>cases r;rfl
 | bl b=>cases r;rfl
 | int i=>obtain ⟨t,rfl⟩:=r;rfl
 | str z=>obtain ⟨t,rfl⟩:=r;rfl
 | _=>exact absurd (show false=true from f) Bool.false_ne_true
theorem e1_ {x:V} : ∀ {xs:List V}{us:List Value},Vals xs us->xs.all e6_=true->us.any (eqU x)=xs.any fun y=>eqV y x
 | _,_,.nil,_=>rfl
 | y::xs,u::us,.cons r t,f=>by
  rw [all_cons,and_eq_true] at f;rw [any_cons,any_cons,mU_ r f.1,e1_ t f.2]
theorem dn_ {A:Around}{s:Shared}{x:V}{v:Value} (rx:RelV x v) (fx:e6_ x=true) : ∀ {xs:List V}{us:List Value},Vals xs us->xs.all e6_=true->∀ u∈us,SeqAt.EqAt A s u v (eqU x u)
 | _,_,.nil,_=>fun u hu=>by cases hu
 | y::xs,u::us,.cons r t,f=>fun u' hu=>by
  rw [all_cons,and_eq_true] at f;rcases mem_cons.mp hu with rfl | hu
  ·rw [mU_ r f.1];exact pd_ r rx f.1 fx
  exact dn_ rx fx t f.2 u' hu
noncomputable def inV (x:V) (xs:List V):Bool:=xs.any fun y=>eqV y x
def rIn (K:Frag) (neg:Bool):R2:=fun x y H Q=>∃ p xs,y = .ref p/\(SqL K H p xs\/SqT K H p xs)/\e6_ x=true/\xs.all e6_=true/\Q (.bl (if neg then !inV x xs else inV x xs)) H
theorem bq_:OpR X (compareOp .In) (rIn X.K false):=by
 intro pins s σ H x y v u Q I rx ry h;refine x_24 h fun p xs zr2 hq fx fs q=>?_;subst zr2;cases ry;rcases hq with hq | hq
 ·refine x_12 (I.list hq) fun its r pl hz=>?_
  refine SeqAt.in_listAt (eqU x) pl.isList (fun w hw=>dn_ rx fx r fs w (by simpa using hw)) ⟨.bl _,H,I,rfl,?_⟩;rw [show its.toArray.any (eqU x)=its.any (eqU x) by simp,e1_ r fs];exact q
 refine x_12 (I.tuple hq) fun its r pl hz=>?_;refine SeqAt.in_tupleAt (eqU x) pl (fun w hw=>dn_ rx fx r fs w (by simpa using hw)) ⟨.bl _,H,I,rfl,?_⟩;rw [show its.toArray.any (eqU x)=its.any (eqU x) by simp,e1_ r fs];exact q
theorem cq_:OpR X (compareOp .NotIn) (rIn X.K true):=by
 intro pins s σ H x y v u Q I rx ry h;refine x_24 h fun p xs zr2 hq fx fs q=>?_;subst zr2;cases ry;rcases hq with hq | hq
 ·refine x_12 (I.list hq) fun its r pl hz=>?_
  refine SeqAt.notIn_listAt (eqU x) pl.isList (fun w hw=>dn_ rx fx r fs w (by simpa using hw)) ⟨.bl _,H,I,rfl,?_⟩;rw [show its.toArray.any (eqU x)=its.any (eqU x) by simp,e1_ r fs];exact q
 refine x_12 (I.tuple hq) fun its r pl hz=>?_;refine SeqAt.notIn_tupleAt (eqU x) pl (fun w hw=>dn_ rx fx r fs w (by simpa using hw)) ⟨.bl _,H,I,rfl,?_⟩;rw [show its.toArray.any (eqU x)=its.any (eqU x) by simp,e1_ r fs];exact q
theorem aP_:cS_ X (.builtin "len") (fun xs H Q=>∃ p ys,xs=[.ref p]/\(SqL X.K H p ys\/SqT X.K H p ys)/\Q (.int ys.length) H):=by
 intro pins s σ H xs us Q I r h;refine x_22 h fun p ys zr2 hq q=>?_;subst zr2;obtain ⟨u,rfl,rx⟩:=gl_ r;cases rx;have hn:=do_;rcases hq with hq | hq
 ·refine x_12 (I.list hq) fun its r' pl hz=>?_
  have hlen:=r'.length;exact Calls.call_len_list pl.isList (by simp only [size_toArray] <;> omega) ⟨.int ys.length,H,I.tok _,⟨s.toks+1,by rw [size_toArray,hlen]⟩,q⟩
 refine x_12 (I.tuple hq) fun its r' pl hz=>?_;have hlen:=r'.length;exact len_tuple pl (by simp only [size_toArray] <;> omega) ⟨.int ys.length,H,I.tok _,⟨s.toks+1,by rw [size_toArray,hlen]⟩,q⟩
theorem aX_:cS_ X (.builtin "len") (fun xs H Q=>∃ z,xs=[.str z]/\z.length<=sizeLine/\Q (.int z.length) H):=by
 intro pins s σ H xs us Q I r h;refine x_12 h fun z zr1 hz q=>?_;subst zr1;refine x_11 (gl_ r) fun u zr1 zz0=>?_;refine x_10 zz0 fun t zr3=>?_;subst zr1;subst zr3;have hn:=do_;exact len_str (by omega) ⟨.int z.length,H,I.tok _,⟨_,rfl⟩,q⟩
theorem cS_.or {f:Value}{r r':List V->Hp->VK->Prop} (h:cS_ X f r) (h':cS_ X f r'):cS_ X f (fun xs H Q=>r xs H Q\/r' xs H Q):=by
 intro pins s σ H xs us Q I rs q;rcases q with q | q
 ·exact h pins s σ H xs us Q I rs q
 exact h' pins s σ H xs us Q I rs q
theorem f9_:cS_ X (.type "tuple") (fun xs H Q=>∃ p ys,xs=[.ref p]/\((SqL X.K H p ys/\∀ l,H l=none->Q (.ref l) (upd H l (.tup ys)))\/(SqT X.K H p ys/\Q (.ref p) H))):=by
 intro pins s σ H xs us Q I r h;obtain ⟨p,ys,rfl,h⟩:=h;obtain ⟨u,rfl,rx⟩:=gl_ r;cases rx;rcases h with ⟨hq,q⟩ | ⟨hq,q⟩
 ·obtain ⟨its,r',pl,hz⟩:=I.list hq
  have hlen:=r'.length;refine call_tuple_list pl.isList (fun h' kp=>?_) (by simp only [size_toArray] <;> omega)
  have I1:Inv X pins σ H { s with heap:=h' }:=I.kept (t':=s.toks) kp;have I2:Inv X pins σ (upd H h'.objs.size (.tup ys)) { s with heap:=h'.push { cls := .type "tuple",data := .seq its.toArray } } :=
   I1.laid (t':=s.toks) (fun b o e=>get?_push_of_some _ e) (Nat.le_refl _) (show a1_ X.prog X.w _ _ _ (.tup ys) from ⟨hz,its,r',IsTup.new _ _⟩)
  exact ⟨.ref h'.objs.size,_,I2,rfl,q _ (I1.hok.fresh (Nat.le_refl _))⟩
 obtain ⟨its,r',pl,hz⟩:=I.tuple hq;exact call_tuple_same pl ⟨.ref p,H,I,rfl,q⟩
def tyV (K:Frag) (T:String) (x:V) (H:Hp):Prop:=match x with
 | .str _=>T="str"
 | .int _=>T="int"
 | .ref p=>(T="list"/\∃ xs,SqL K H p xs)\/(T="tuple"/\∃ o,K.lookup p=some o/\o.cls = .type "tuple"/\o.dict=none) \/
   (T="dict"/\((∃ kvs,H p=some (.dK kvs))\/∃ kvs,H p=some (.dT kvs)))\/(T="set"/\∃ S n,H p=some (.set S n))
 | _=>False
theorem mt_ {pins:zP}{σ:St}{H:Hp}{s:Shared}{T:String}{x:V}{v:Value} (I:Inv X pins σ H s) (r:RelV x v) (ty:tyV X.K T x H) :
  s.TypeIs v T/\∀ a,v = .ref a->∃ ob,s.heap.get? a=some ob/\ob.dict=none:=by
 cases x with
 | str z =>
  obtain ⟨t,rfl⟩:=r;cases (show T="str" from ty);exact ⟨typeIs_str s z t,fun _ e=>nomatch e⟩
 | int i =>
  obtain ⟨t,rfl⟩:=r;cases (show T="int" from ty);exact ⟨typeIs_int s i t,fun _ e=>nomatch e⟩
 | ref p =>
  cases r;rcases ty with ⟨rfl,xs,hq⟩ | ⟨rfl,o,hk,hc,hd⟩ | ⟨rfl,hk⟩ | ⟨rfl,S,n,hk⟩
  ·refine x_12 (I.list hq) fun its _ pl _=>?_
   refine ⟨pl.isList.typeIs,fun a e=>?_⟩;cases e;refine x_23 pl fun o n e c hd _=>?_;exact ⟨o,e,hd⟩
  ·refine ⟨⟨o,I.kIn p o hk,hc⟩,fun a e=>?_⟩
   cases e;exact ⟨o,I.kIn _ o hk,hd⟩
  ·have z : ∃ o,s.heap.get? p=some o/\o.ExactDict:=by
    rcases hk with ⟨kvs,hk⟩ | ⟨kvs,hk⟩
    ·obtain ⟨_,_,_,_,o,_,_,e,ex,_⟩:=I.hok p _ hk
     exact ⟨o,e,ex⟩
    obtain ⟨_,_,_,_,o,_,_,e,ex,_⟩:=I.hok p _ hk;exact ⟨o,e,ex⟩
   obtain ⟨o,e,ex⟩:=z;refine ⟨⟨o,e,ex.1⟩,fun a e2=>?_⟩;cases e2;exact ⟨o,e,ex.2.1⟩
  refine x_40 (I.hok p _ hk) fun o _ _ _ zy=>x_02 zy fun e ex _=>?_;refine ⟨⟨o,e,ex.1⟩,fun a e2=>?_⟩;cases e2;exact ⟨o,e,ex.2.1⟩
 | _=>exact False.elim ty
def tBM0 (K:Frag) (T:String) (r:V->List V->Hp->VK->Prop) (to:TE):TE:=fun σ H Q=>to σ H fun x H1=>tyV K T x H1/\r x [] H1 Q
def tBM (K:Frag) (T:String) (r:V->List V->Hp->VK->Prop) (to:TE) (t:TA):TE:=fun σ H Q=>to σ H fun x H1=>tyV K T x H1/\t σ H1 fun xs H2=>r x xs H2 Q
variable {o e:Expr}{es:List Expr}{to:TE}{t:TA}{name:Str}{apos cpos:Pos}{T id:String}{r:V->List V->Hp->VK->Prop}
theorem gL_ (pa:PlainAttrs T) (slot:Slot T name id) (hty:typeOf (.builtin id)=pure (.type "method_descriptor")) (hm:MtR X id r) (ho:PE X o to)
  (hbase:attributeBase o name X.env (eval o X.env)=eval o X.env:=by rfl) (hline:(apos.endLine == cpos.line)=true:=by rfl):PE X (.Call (.Attribute o name apos) [] [] cpos) (tBM0 X.K T r to):=by
 intro pins s σ H Q I h;refine wpAny_Call_method0_late hbase hline (thn (ho pins s σ H _ I h) fun v s1 zq=>?_);refine x_23 zq fun x H1 I1 r1 ty q1=>?_;obtain ⟨h1,h2⟩:=mt_ I1 r1 ty;exact ⟨T,id,pa,slot,hty,h1,h2,Calls.callWith_builtin rfl (PySem.evalArgs_none (hm pins s1 σ H1 x [] v [] Q I1 r1 .nil q1))⟩
theorem bP_ (pa:PlainAttrs T) (slot:Slot T name id) (hty:typeOf (.builtin id)=pure (.type "method_descriptor")) (hm:MtR X id r) (ho:PE X o to) (ha:PA X (e::es) t)
  (hbase:attributeBase o name X.env (eval o X.env)=eval o X.env:=by rfl)
  (hfew:((backTo cpos (starEach (e::es) X.env)).all (fun x => !x.1) && (backToKw cpos (keywordEach [] X.env)).all (fun x=>x.1.isSome)
   && decide ((e::es).length+([]:List Keyword).length+(if ([]:List Keyword).isEmpty then 0 else 1)<30))=true:=by rfl)
  (hline:(apos.endLine == cpos.line)=true:=by rfl) (hs:starEach (e::es) X.env=(false,eval e X.env)::starEach es X.env:=by rfl) (hplain:(backTo cpos (starEach es X.env)).any (·.1)=false:=by rfl) :
  PE X (.Call (.Attribute o name apos) (e::es) [] cpos) (tBM X.K T r to t):=by
 intro pins s σ H Q I h;refine wpAny_Call_method_late hbase hfew hline rfl (thn (ho pins s σ H _ I h) fun v s1 zq=>?_);refine x_23 zq fun x H1 I1 r1 ty q1=>?_;obtain ⟨h1,h2⟩:=mt_ I1 r1 ty;refine ⟨T,id,pa,slot,hty,h1,h2,?_⟩;have hA:=ha cpos pins s1 σ H1 _ I1 q1;rw [hs] at hA ⊢;refine Calls.callWith_builtin (by show (false || (backTo cpos (starEach es X.env)).any (·.1))=false;rw [hplain] <;> rfl) (Calls.evalArgs_plain ?_)
 exact thn hA fun us s2 ⟨vs,H2,I2,r2,q2⟩=>hm pins s2 σ H2 x vs v us Q I2 r1 r2 q2
end
end
section
def MtM (X:Cx) (id:String) (r:V->List V->Hp->VK->Prop):Prop :=
 ∀ (pins:zP) (s:Shared) (σ:St) (H:Hp) (x:V) (xs:List V) (v:Value) (us:List Value) (Q:VK),Inv X pins σ H s->RelV x v->Vals xs us->r x xs H Q ->
  wpAny (model X.prog X.w) X.A (call (.builtin id) (v::us)) (EP X pins σ Q) X.xe s
theorem Vals.one {x:V}{us:List Value} (h:Vals [x] us) : ∃ u,us=[u]/\RelV x u:=by
 cases h with
 | cons r t=>cases t;exact ⟨_,rfl,r⟩
theorem Vals.two {x y:V}{us:List Value} (h:Vals [x,y] us) : ∃ u v,us=[u,v]/\RelV x u/\RelV y v:=by
 cases h with
 | cons r t =>
 obtain ⟨v,rfl,q⟩:=Vals.one t;exact ⟨_,_,rfl,r,q⟩
theorem Vals.zero : ∀ {us:List Value},Vals [] us->us=[]
 | _,.nil=>rfl
theorem Vals.dropLast {xs:List V}{us:List Value} (h:Vals xs us):Vals xs.dropLast us.dropLast:=by
 induction h with
 | nil=>exact .nil
 | cons r t ih =>
 cases t with
 | nil=>exact .nil
 | cons q t'=>exact .cons r ih
theorem Vals.eraseIdx : ∀ {xs:List V}{us:List Value} (i:Nat),Vals xs us->Vals (xs.eraseIdx i) (us.eraseIdx i)
 | _,_,_,.nil => .nil
 | _,_,0,.cons _ t=>t
 | _,_,i+1,.cons r t => .cons r (Vals.eraseIdx i t)
theorem Vals.reverse {xs:List V}{us:List Value} (h:Vals xs us):Vals xs.reverse us.reverse:=by
 induction h with
 | nil=>exact .nil
 | cons r t ih=>rw [reverse_cons,reverse_cons];exact Vals.append ih (.cons r .nil)
theorem Vals.rep {xs:List V}{us:List Value} (h:Vals xs us) : ∀ k:Nat,Vals (List.replicate k xs).flatten (List.replicate k us).flatten
 | 0 => .nil
 | k+1=>by
  rw [replicate_succ,replicate_succ,flatten_cons,flatten_cons];exact Vals.append h (Vals.rep h k)
theorem jj_ {α:Type} (l:List α):l.eraseIdx (l.length - 1)=l.dropLast:=by
 induction l with
 | nil=>rfl
 | cons a r ih =>
 cases r with
 | nil=>rfl
 | cons b r =>
 have e:(a::b::r).length - 1=((b::r).length - 1)+1:=by
  have h1:(a::b::r).length=r.length+2:=rfl;have h2:(b::r).length=r.length+1:=rfl;omega
 rw [e,List.eraseIdx_cons_succ,ih]
 all_goals rfl
section
variable {X:Cx}{pins:zP}{σ:St}{H:Hp}{s:Shared}{l b:Addr}{xs ys zs:List V}
theorem Inv.lset {its its':List Value}{n:Nat}{f:Array Value->Array Value}{t':Nat} (I:Inv X pins σ H s) (hH:H l=some (.lst xs))
  (e:s.heap.get? l=some { cls := .type "list",data := .seq its.toArray n }) (hf:f its.toArray=its'.toArray) (hv:Vals ys its') (hz:ys.length<=sizeLine) :
  Inv X pins σ (upd H l (.lst ys)) { s with heap:=s.heap.update l (Obj.mapSeq f),toks:=t' }:=by
 have q:=PySem.IsL.update e f;rw [hf] at q;refine I.write (x:=l) (e:=l) (by rw [hH];exact trivial) (.inl rfl) (fun b' u hb hu=>(get?_update_other s.heap (Obj.mapSeq f) (Ne.symm hb)).trans hu) ⟨_,q⟩ ?_;exact ⟨hz,its',_,hv,q⟩
theorem Inv.lnew {its:List Value}{t':Nat} (I:Inv X pins σ H s) (hv:Vals ys its) (hz:ys.length<=sizeLine) :
  Inv X pins σ (upd H s.heap.objs.size (.lst ys)) { s with heap:=s.heap.push { cls := .type "list",data := .seq its.toArray },toks:=t' } :=
 I.laid (fun _ _ q=>get?_push_of_some _ q) (Nat.le_refl _) ⟨hz,its,0,hv,get?_push_size _ rfl⟩
theorem Inv.fresh (I:Inv X pins σ H s):H s.heap.objs.size=none:=I.hok.fresh (Nat.le_refl _)
theorem Inv.lstM (I:Inv X pins σ H s) (hH:H l=some (.lst xs)):xs.length<=sizeLine/\∃ (its:List Value) (n:Nat),Vals xs its/\xs.length=its.length/\s.heap.get? l=some { cls := .type "list",data := .seq its.toArray n }:=by
 refine x_01 (I.hok l _ hH) fun z zz0=>?_;refine x_21 zz0 fun its n r e=>?_;exact ⟨z,its,n,r,r.length,e⟩
end
section
variable {X:Cx}
def a4_:V->List V->Hp->VK->Prop:=fun x vs H Q=>∃ l xs y,x = .ref l/\vs=[y]/\H l=some (.lst xs)/\xs.length<sizeLine/\Q .non (upd H l (.lst (xs++[y])))
theorem aB_:MtM X "list.append" a4_:=by
 intro pins s σ H x vs v us Q I rx rv h;refine x_34 h fun l xs y zr3 zr4 hH hz q=>?_;subst zr3;subst zr4;cases rx;obtain ⟨u,rfl,ru⟩:=rv.one;refine x_01 (I.lstM hH) fun z zz0=>?_;refine x_22 zz0 fun its n r hl e=>?_;refine call_meets F.slot_list_append ⟨_,e,rfl⟩ F.entry_list_append (F.args_list_append_2 _ _) (PySem.list_append l its.toArray n u (by rw [size_toArray];omega)) ⟨e,?_⟩;refine ⟨.non,_,I.lset (its':=its++[u]) hH e (by simp) (r.append (.cons ru .nil)) ?_,rfl,q⟩;rw [length_append,length_singleton];omega
def rPop:V->List V->Hp->VK->Prop:=fun x vs H Q=>∃ l xs y,x = .ref l/\vs=[]/\H l=some (.lst xs)/\xs[xs.length - 1]? = some y/\Q y (upd H l (.lst xs.dropLast))
theorem gQ_:MtM X "list.pop" rPop:=by
 intro pins s σ H x vs v us Q I rx rv h;refine x_34 h fun l xs y zr3 zr4 hH hy q=>?_;subst zr3;subst zr4;cases rx;have hus:=rv.zero;subst hus;refine x_01 (I.lstM hH) fun z zz0=>?_;refine x_22 zz0 fun its n r hl e=>?_;obtain ⟨u,hu,ru⟩:=r.get hy;have hy':its.toArray[its.toArray.size - 1]? = some u:=by
  show its.toArray[its.length - 1]? = some u;rw [<- Array.getElem?_toList,<- hl];exact hu
 refine call_meets F.slot_list_pop ⟨_,e,rfl⟩ F.entry_list_pop (F.args_list_pop_1 _) (MeetsSeq.list_pop_last l its.toArray n u hy' (by rw [size_toArray];omega)) ⟨e,?_⟩;refine ⟨y,_,I.lset (its':=its.dropLast) hH e ?_ r.dropLast ?_,ru,q⟩
 ·show its.toArray.eraseIdxIfInBounds (its.toArray.size - 1)=its.dropLast.toArray
  rw [size_toArray,List.eraseIdxIfInBounds_toArray,jj_]
 rw [List.length_dropLast];omega
def rCat:R2:=fun x y H Q=>∃ l b xs zs,x = .ref l/\y = .ref b/\H l=some (.lst xs)/\H b=some (.lst zs)/\xs.length+zs.length<=sizeLine/\∀ p,H p=none->Q (.ref p) (upd H p (.lst (xs++zs)))
theorem mQ_:OpR X (binaryOp .Add) rCat:=by
 intro pins s σ H x y v u Q I rx ry h;refine x_40 h fun l b xs zs zy=>x_05 zy fun zr4 zr5 hH hB hz q=>?_;subst zr4;subst zr5;cases rx;cases ry;refine x_01 (I.lstM hH) fun z zz0=>?_;refine x_22 zz0 fun its n r hl e=>?_;refine x_01 (I.lstM hB) fun z2 zz0=>?_;refine x_22 zz0 fun its2 n2 r2 hl2 e2=>?_;refine PySem.P.add_list e e2 ?_ (by rw [size_toArray,size_toArray];omega);have ea:its.toArray++its2.toArray=(its++its2).toArray:=by simp
 rw [ea];exact ⟨.ref _,_,I.lnew (t':=s.toks) (r.append r2) (by rw [length_append];omega),rfl,q _ I.fresh⟩
end
section
variable {prog:Program}{w:World}{A:Around}{E:zQ}{s:Shared}
end
section
variable {X:Cx}
end
end
section
theorem Vals.ints : ∀ {ns:List Int}{us:List Value},Vals (ns.map V.int) us->IntsAre us ns
 | [],us,h=>by
  rw [map_nil] at h;cases h;exact IntsAre.nil
 | n::ns,us,h=>by
  rw [map_cons] at h;cases h with
  | cons r t =>
  obtain ⟨k,rfl⟩:=r;exact IntsAre.cons n k (Vals.ints t)
theorem Vals.strs : ∀ {xs:List Str}{us:List Value},Vals (xs.map V.str) us->StrsAre us xs
 | [],us,h=>by
  rw [map_nil] at h;cases h;exact StrsAre.nil
 | x::xs,us,h=>by
  rw [map_cons] at h;cases h with
  | cons r t =>
  obtain ⟨k,rfl⟩:=r;exact StrsAre.cons x k (Vals.strs t)
theorem Vals.bls : ∀ {bs:List Bool}{us:List Value},Vals (bs.map V.bl) us->us=bs.map Value.bool
 | [],us,h=>by
  rw [map_nil] at h;cases h;rfl
 | b::bs,us,h=>by
  rw [map_cons] at h;cases h with
  | cons r t =>
  cases r;rw [Vals.bls t,map_cons]
theorem Vals.ref1 {a:Addr}{us:List Value} (r:Vals [V.ref a] us):us=[Value.ref a]:=by
 cases r with
 | cons r t =>
 cases t;cases r;rfl
section
variable {prog:Program}{w:World}{A:Around}{E:zQ}{s:Shared}{l:Addr}{its:List Value}{ns:List Int}{Q:zQ}
theorem nO_ (hh:A.handled=none) (hl:s.heap.IsList l its.toArray) (hi:IntsAre its ns) (hne:0<ns.length)
  (h : ∀ h' tk M t',(∀ b o,s.heap.get? b=some o->h'.get? b=some o)->M∈ns->(∀ a,a∈ns->a<=M)->Q (.int M t') { s with heap:=h',toks:=tk }):wpAny (model prog w) A (call (.builtin "max") [.ref l]) Q E s:=by
 obtain ⟨xs,e⟩:=hi.allInts.items;have hn:numsOf (intItems xs).toList=ns:=by rw [<- e];exact hi.numsOf
 rw [nums_intItems] at hn;subst hn;rw [e] at hl;have hsz:0<xs.size:=by simpa using hne
 refine PySem.max_intList hh hl hsz fun v h' tk hv hk=>?_;obtain ⟨t,rfl⟩:=intItems_at hv;obtain ⟨h1,h2⟩:=argBest_gt (numAt xs) (xs.size - 1);refine h h' tk _ t hk ?_ fun a ha=>?_
 ·rw [numAt_eq];exact PySem.getD_mem (by rw [length_map,Array.length_toList];omega)
 obtain ⟨j,hj,rfl⟩:=mem_getD ha;rw [length_map,Array.length_toList] at hj;rw [<- numAt_eq];exact h2 j (by omega)
end
section
variable {X:Cx}
def rSum (K:Frag):List V->Hp->VK->Prop:=fun vs H Q=>∃ (a:Addr) (ns:List Int),vs=[V.ref a]/\SqL K H a (ns.map V.int)/\Q (.int ns.sum) H
def rMax (K:Frag):List V->Hp->VK->Prop:=fun vs H Q=>∃ (a:Addr) (ns:List Int),vs=[V.ref a]/\SqL K H a (ns.map V.int)/\0<ns.length/\∀ m,m∈ns->(∀ y,y∈ns->y<=m)->Q (.int m) H
theorem pl_ (hc:X.calm=true):cS_ X (.builtin "max") (rMax X.K):=by
 intro pins s σ H vs us Q I r h;refine x_23 h fun a ns zr2 hs hne q=>?_;subst zr2;refine x_12 (I.list hs) fun its rv hl _=>?_;rw [Vals.ref1 r];exact nO_ (I.ok.hd hc) hl.isList rv.ints hne fun h' tk m t' hk h1 h2=>⟨.int _,H,I.kept hk,⟨_,rfl⟩,q m h1 h2⟩
end
section
variable {X:Cx}
end
section
variable {X:Cx}
end
theorem l5_ {prog:Program}{w:World}{A:Around}{E:zQ}{s:Shared}{l:Addr}{items:Array Value}{Q:zQ} (hl:s.heap.IsList l items)
  (h : ∀ s₂:Shared,s₂={ s with heap:=s.heap.push { cls := .type "list_iterator",data := .fields #[.ref l,.int 0 0] } } ->
   (s₂.heap.IsListIter s.heap.objs.size l 0/\s₂.heap.IsList l items)->l≠s.heap.objs.size->Q (.ref s.heap.objs.size) s₂):wpAny (model prog w) A (pyIter (.ref l)) Q E s:=by
 have hlt:l<s.heap.objs.size:=by obtain ⟨_,e,_⟩:=hl;exact lt_size e
 exact wpAny_pyIter_list hl (h _ rfl ⟨⟨_,get?_push_size _ rfl,rfl,rfl⟩,hl.push _⟩ (Nat.ne_of_lt hlt))
theorem hi_ {prog:Program}{w:World}{A:Around}{bs:List Bool}{its:List Value} (e:its=bs.map Value.bool) :
  TruthOf prog w A (fun i v=>its.toArray[i]? = some v) (fun i=>bs.getD i false):=fun i v s Q E hv hq=>by
 have hv':its[i]? = some v:=by simpa using hv
 rw [e,getElem?_map] at hv';obtain ⟨b,hb,rfl⟩:=Option.map_eq_some_iff.mp hv';have hg:bs.getD i false=b:=by rw [List.getD_eq_getElem?_getD,hb] <;> rfl
 have hq':Q (bs.getD i false) s:=hq;rw [hg] at hq';exact wpAny_truthy_bool hq'
theorem hf_ : ∀ bs:List Bool,(List.range bs.length).all (fun i=>bs.getD i false)=bs.all id
 | []=>rfl
 | b::bs=>by
  rw [length_cons,List.range_succ_eq_map,all_cons,all_map,all_cons,<- hf_ bs]
  all_goals rfl
section
variable {X:Cx}
def rAll (K:Frag):List V->Hp->VK->Prop:=fun vs H Q=>∃ (a:Addr) (bs:List Bool),vs=[V.ref a]/\SqL K H a (bs.map V.bl)/\Q (.bl (bs.all id)) H
theorem mZ_ (hc:X.calm=true):cS_ X (.builtin "all") (rAll X.K):=by
 intro pins s σ H vs us Q I r h;refine x_22 h fun a bs zr2 hs q=>?_;subst zr2;refine x_12 (I.list hs) fun its rv hl _=>?_;rw [Vals.ref1 r];have hb:=rv.bls;refine call_all_walk (l5_ hl.isList fun s₂ e2 st hne=>?_);subst e2;refine ⟨_,_,_,_,_,_,_,rfl,Walks.list (A:=X.A.in1) (I.ok.hd hc) _ a hne its.toArray,st,hi_ hb,fun h' tk hk=>?_⟩;refine ⟨.bl _,H,I.kept fun b o eo=>hk b o (fun hmem=>?_) (get?_push_of_some _ eo),?_,q⟩
 ·rcases mem_cons.mp hmem with e1 | hmem
  ·exact absurd (e1 ▸ lt_size eo) (Nat.lt_irrefl _)
  cases hmem
 show Value.bool _=Value.bool _;rw [<- hf_,hb,size_toArray,length_map]
end
section
variable {X:Cx}{pins:zP}{σ:St}{H:Hp}{s:Shared}
end
section
variable {X:Cx}
end
end
section
abbrev m2_ (h:Heap) (c:Addr) (v:Option Value):Prop:=h.IsCell c v
def relS (scope sc:Scope):Scope :=
 { scope with names:=scope.names.map fun (n,k)=>if (k == .free && sc.kind == .function && sc.names.lookup n == some .cell) then (n,.cell) else (n,k) }
def a0_ (cells:List (Str×Addr)):List (Str×NameKind)->List (Str×Addr)->List (Str×Addr)
 | [],acc=>acc
 | (n,k)::r,acc=>if k == .free then a0_ cells r ((n,(cells.lookup n).getD 0)::acc) else a0_ cells r acc
theorem d0_ (env:Env) (f:Str×NameKind->List (Str×Addr)->Sem (ForInStep (List (Str×Addr))))
  (hf : ∀ n k c,f (n,k) c=if k == .free then (do let a <- cellOf env n;pure (.yield ((n,a)::c))) else pure (.yield c)) :
  ∀ (names:List (Str×NameKind)) (acc:List (Str×Addr)),(∀ y∈names,y.2 = .free->∃ c,env.cells.lookup y.1=some c)->forIn names acc f=pure (a0_ env.cells names acc)
 | [],acc,_=>by rw [List.forIn_nil];rfl
 | (n,k)::r,acc,h=>by
  rw [List.forIn_cons,hf];have ih:=fun acc=>d0_ env f hf r acc fun y hy=>h y (mem_cons_of_mem _ hy);unfold a0_;by_cases hk:(k == NameKind.free)=true
  ·rw [if_pos hk,if_pos hk]
   obtain ⟨c,hc⟩:=h (n,k) mem_cons_self (by simpa using hk);have e:cellOf env n=pure c:=by unfold cellOf;rw [hc]
   rw [e];have e2:(env.cells.lookup n).getD 0=c:=by rw [hc];rfl
   rw [e2];exact ih _
  rw [if_neg hk,if_neg hk];exact ih _
theorem jo_ {scope:Scope}{env:Env} (h : ∀ y∈scope.names,y.2 = .free->∃ c,env.cells.lookup y.1=some c):closureFor scope env=pure (a0_ env.cells scope.names []):=by
 simp only [closureFor];rw [d0_ env _ (fun n k c=>rfl) scope.names [] h];rfl
theorem dL_ {α:Type} : ∀ {l:List (Str×α)}{n:Str}{c:α},(n,c)∈l->∃ c',l.lookup n=some c'
 | (k,v)::r,n,c,h=>by
  rw [lookup_cons];cases hb:n == k with
  | true=>exact ⟨_,rfl⟩
  | false =>
  rcases mem_cons.mp h with e | h
  ·cases e;simp at hb
  exact dL_ h
theorem cd_ {cells:List (Str×Addr)} : ∀ {names:List (Str×NameKind)}{acc:List (Str×Addr)}{n:Str}{c:Addr},(n,c)∈a0_ cells names acc->(n,c)∈acc\/((n,.free)∈names/\c=(cells.lookup n).getD 0)
 | [],_,_,_,h => .inl h
 | (m,k)::r,acc,n,c,h=>by
  unfold a0_ at h;split at h
  ·rename_i hk
   have hk:k = .free:=by simpa using hk
   rcases cd_ h with h | ⟨h1,h2⟩
   ·rcases mem_cons.mp h with e | h
    ·cases e;exact .inr ⟨hk ▸ mem_cons_self,rfl⟩
    exact .inl h
   exact .inr ⟨mem_cons_of_mem _ h1,h2⟩
  rcases cd_ h with h | ⟨h1,h2⟩
  ·exact .inl h
  exact .inr ⟨mem_cons_of_mem _ h1,h2⟩
theorem da_ {cells:List (Str×Addr)} : ∀ {names:List (Str×NameKind)}{acc:List (Str×Addr)}{p:Str×Addr},p∈acc->p∈a0_ cells names acc
 | [],_,_,h=>h
 | (m,k)::r,acc,p,h=>by
  unfold a0_;split
  ·exact da_ (mem_cons_of_mem _ h)
  exact da_ h
theorem c9_ {cells:List (Str×Addr)} : ∀ {names:List (Str×NameKind)}{acc:List (Str×Addr)}{n:Str},(n,.free)∈names->(n,(cells.lookup n).getD 0)∈a0_ cells names acc
 | (m,k)::r,acc,n,h=>by
  unfold a0_;rcases mem_cons.mp h with e | h
  ·cases e
   exact da_ mem_cons_self
  split
  ·exact c9_ h
  exact c9_ h
theorem cx_ : ∀ {names:List (Str×NameKind)}{h:Heap}{acc:List (Str×Addr)}{x:Str}{c:Addr},(x,c)∈cellsFrom h.objs.size names acc ->
  (x,c)∈acc\/((x,.cell)∈names/\h.objs.size<=c/\m2_ (pushCells h names) c none)
 | [],_,_,_,_,h => .inl h
 | (n,k)::r,h,acc,x,c,hm=>by
  unfold cellsFrom at hm;unfold pushCells;split at hm
  ·rename_i hk
   rw [if_pos hk];have hk:k = .cell:=by simpa using hk
   rw [<- size_push h { cls := .type "cell",data := .cell none }] at hm;rcases cx_ hm with hm | ⟨h1,h2,h3⟩
   ·rcases mem_cons.mp hm with e | hm
    ·cases e
     exact .inr ⟨hk ▸ mem_cons_self,Nat.le_refl _,_,pushCells_keeps r _ _ _ (get?_push_size _ rfl),rfl⟩
    exact .inl hm
   rw [size_push] at h2;exact .inr ⟨mem_cons_of_mem _ h1,le_of_succ_le h2,h3⟩
  rename_i hk;rw [if_neg hk];rcases cx_ hm with hm | ⟨h1,h2,h3⟩
  ·exact .inl hm
  exact .inr ⟨mem_cons_of_mem _ h1,h2,h3⟩
theorem dz_ : ∀ {names:List (Str×NameKind)}{n:Nat}{acc:List (Str×Addr)}{p:Str×Addr},p∈acc->p∈cellsFrom n names acc
 | [],_,_,_,h=>h
 | (m,k)::r,n,acc,p,h=>by
  unfold cellsFrom;split
  ·exact dz_ (mem_cons_of_mem _ h)
  exact dz_ h
theorem eY_ : ∀ {names:List (Str×NameKind)}{n:Nat}{acc:List (Str×Addr)}{x:Str},(x,.cell)∈names->∃ c,(x,c)∈cellsFrom n names acc
 | (m,k)::r,n,acc,x,h=>by
  unfold cellsFrom;rcases mem_cons.mp h with e | h
  ·cases e
   exact ⟨n,dz_ mem_cons_self⟩
  split
  ·exact eY_ h
  exact eY_ h
theorem eX_ : ∀ {names:List (Str×NameKind)}{h:Heap}{acc:List (Str×Addr)}{x y:Str}{c:Addr},(∀ p∈acc,p.2<h.objs.size)->(∀ x y c,(x,c)∈acc->(y,c)∈acc->x=y) ->
  (x,c)∈cellsFrom h.objs.size names acc->(y,c)∈cellsFrom h.objs.size names acc->x=y
 | [],_,_,_,_,_,_,hi,h1,h2=>hi _ _ _ h1 h2
 | (n,k)::r,h,acc,x,y,c,hl,hi,h1,h2=>by
  unfold cellsFrom at h1 h2;split at h1
  ·rename_i hk
   rw [if_pos hk] at h2;rw [<- size_push h { cls := .type "cell",data := .cell none }] at h1 h2;refine eX_ (h:=h.push _) (fun p hp=>?_) (fun x y c a b=>?_) h1 h2
   ·rw [size_push]
    rcases mem_cons.mp hp with rfl | hp
    ·exact lt_succ_self _
    exact Nat.lt_succ_of_lt (hl p hp)
   rcases mem_cons.mp a with e | a <;> rcases mem_cons.mp b with e' | b
   ·cases e;cases e';rfl
   ·cases e;exact absurd (hl _ b) (Nat.lt_irrefl _)
   ·cases e';exact absurd (hl _ a) (Nat.lt_irrefl _)
   exact hi _ _ _ a b
  rename_i hk;rw [if_neg hk] at h2;exact eX_ hl hi h1 h2
theorem hx_ {M:Model}{A:Around}{E:zQ}{s:Shared}{scope:Scope}{globals:Addr}{closure:List (Str×Addr)}{qual:Str}{func:Option Addr}{code:Value}{around:Env}{builtins:Addr}{Q:Env->Shared->Prop}
  (h:Q (newEnv scope s.heap.objs.size globals (cellsFrom (s.heap.objs.size+1) scope.names closure) qual func code (some around) builtins)
   { s with heap:=pushCells (s.heap.push { cls := .type "dict",data := .dict #[] }) scope.names }) :
  wpAny M A (newFunctionEnv scope globals closure [] qual func code (some around) builtins) Q E s:=by
 simp only [newFunctionEnv,Option.isSome_some,if_true];refine wpAny_bind (wpAny_alloc ?_);refine wpAny_bind (wpAny_layCells _ (fun n k c=>rfl) scope.names closure _ _ ?_);rw [show ({ s with heap:=s.heap.push { cls := .type "dict",data := .dict #[] } }:Shared).heap.objs.size=s.heap.objs.size+1 from size_push ..];rw [List.forIn_nil];exact wpAny_bind (wpAny_pure (wpAny_pure h))
theorem c2_ {sc:Scope} : ∀ {names:List (Str×NameKind)}{x:Str}{k:NameKind},
  (names.map fun (n,k)=>if (k == NameKind.free && sc.kind == .function && sc.names.lookup n == some .cell) then (n,NameKind.cell) else (n,k)).lookup x=some k ->
  ∃ k',names.lookup x=some k'/\(k=k'\/(k' = .free/\k = .cell))
 | [],_,_,h=>by simp at h
 | (n,k₀)::r,x,k,h=>by
  have ih := @c2_ sc r x k;have h':List.lookup x ((if (k₀ == NameKind.free && sc.kind == .function && sc.names.lookup n == some .cell)=true then (n,NameKind.cell) else (n,k₀))::(r.map _))=some k:=h;cases hx:x == n with
  | true =>
   simp only [lookup_cons,hx];by_cases hc:(k₀ == NameKind.free && sc.kind == .function && sc.names.lookup n == some .cell)=true
   ·rw [if_pos hc] at h'
    simp only [lookup_cons,hx] at h';cases h';simp only [and_eq_true,beq_iff_eq] at hc;exact ⟨k₀,rfl,.inr ⟨hc.1.1,rfl⟩⟩
   rw [if_neg hc] at h';simp only [lookup_cons,hx] at h';cases h';exact ⟨_,rfl,.inl rfl⟩
  | false =>
  simp only [lookup_cons,hx];by_cases hc:(k₀ == NameKind.free && sc.kind == .function && sc.names.lookup n == some .cell)=true
  ·rw [if_pos hc] at h'
   simp only [lookup_cons,hx] at h';exact ih h'
  rw [if_neg hc] at h';simp only [lookup_cons,hx] at h';exact ih h'
structure BlkOk (N:List Str) (sc scope:Scope) (own:List (Str×Nat)):Prop where
 kind:scope.kind = .function
 uniq : ∀ y∈scope.names,scope.names.lookup y.1=some y.2
 ix : ∀ p∈own,N[p.2]? = some p.1
 free : ∀ y∈scope.names,y.2 = .free->sc.names.lookup y.1=some .cell\/sc.names.lookup y.1=some .free
 own : ∀ y∈scope.names,y.2 = .local\/y.2 = .cell->y.1∈own.map (·.1)\/y.1∉N
def wipe (σ:St):List Nat->St
 | []=>σ
 | v::vs=>(wipe σ vs).set v none
theorem cY_ (σ:St) : ∀ vs:List Nat,(wipe σ vs).length=σ.length
 | []=>rfl
 | v::vs=>by unfold wipe;rw [List.length_set,cY_ σ vs]
theorem ep_ {σ:St}{i:Nat}{x:V} : ∀ {vs:List Nat},(wipe σ vs)[i]? = some (some x)->σ[i]? = some (some x)/\i∉vs
 | [],h=>⟨h,by simp⟩
 | v::vs,h=>by
  unfold wipe at h;by_cases hi:v=i
  ·subst hi
   by_cases hv:v<(wipe σ vs).length
   ·rw [List.getElem?_set_self hv] at h;cases h
   rw [List.getElem?_eq_none (by simpa using hv)] at h;cases h
  rw [List.getElem?_set_ne hi] at h;obtain ⟨h1,h2⟩:=ep_ h;exact ⟨h1,by simp only [mem_cons,not_or];exact ⟨fun e=>hi e.symm,h2⟩⟩
noncomputable abbrev Cx.blk (X:Cx) (s:Shared) (H:Hp) (scope:Scope) (cenv:Env) (fp:List Addr):Cx:={ X with s_0:=s,H_0:=H,env:=cenv,outer:=X.stack,ex:=fp,fn:=fun x=>scope.names.lookup x == some .cell,pn:=[],xe:=fun _ _=>False }
section
variable {X:Cx}{pins:zP}{σ:St}{H:Hp}{s:Shared}
theorem hT_ {scope:Scope}{own:List (Str×Nat)}{fp:List Addr} (I:Inv X pins σ H s) (ok:BlkOk X.N X.env.scope scope own) (hN:X.N.Nodup) (hfp : ∀ b∈fp,FpOk X pins H b/\b<s.heap.objs.size) :
  Inv (X.blk s H scope (compEnvC scope (cellsFrom (s.heap.objs.size+1) scope.names (a0_ X.env.cells scope.names [])) s.heap.objs.size X.env) fp) [] (wipe σ (own.map (·.2))) H { s with heap:=pushCells (s.heap.push { cls := .type "dict",data := .dict #[] }) scope.names }:=by
 have hfree : ∀ y∈scope.names,y.2 = .free->∃ c,X.env.cells.lookup y.1=some c:=fun y hy e=>by
  rcases ok.free y hy e with k | k
  ·exact I.ok.has _ (.inl k)
  exact I.ok.has _ (.inr k)
 generalize hcenv:compEnvC scope (cellsFrom (s.heap.objs.size+1) scope.names (a0_ X.env.cells scope.names [])) s.heap.objs.size X.env=cenv;have kp : ∀ b o,s.heap.get? b=some o->(pushCells (s.heap.push { cls := .type "dict",data := .dict #[] }) scope.names).get? b=some o:=fun b o e=>pushCells_keeps _ _ _ _ (get?_push_of_some _ e);have hL:cenv.locals=s.heap.objs.size:=by rw [<- hcenv];rfl
 have hcl:cenv.cells=cellsFrom (s.heap.objs.size+1) scope.names (a0_ X.env.cells scope.names []):=by rw [<- hcenv];rfl
 have hsc:cenv.scope=relS scope X.env.scope:=by rw [<- hcenv];rfl
 rw [<- size_push s.heap { cls := .type "dict",data := .dict #[] }] at hcl;have cm : ∀ {y c},(y,c)∈a0_ X.env.cells scope.names []->X.env.cells.lookup y=some c/\c<s.heap.objs.size:=fun {y c} hm=>by
  rcases cd_ hm with hm | ⟨h1,rfl⟩
  ·cases hm
  obtain ⟨c,hc⟩:=hfree _ h1 rfl;rw [hc];obtain ⟨w,z⟩:=I.cell _ _ hc;exact ⟨rfl,z.lt⟩
 have mem : ∀ {y c},cenv.cells.lookup y=some c->(X.env.cells.lookup y=some c/\c<s.heap.objs.size)\/(s.heap.objs.size+1<=c/\m2_ (pushCells (s.heap.push { cls := .type "dict",data := .dict #[] }) scope.names) c none):=fun {y c} e=>by
  rw [hcl] at e;rcases cx_ (PySem.mem_of_lookup e) with hm | ⟨_,h2,h3⟩
  ·exact .inl (cm hm)
  rw [size_push] at h2;exact .inr ⟨h2,h3⟩
 have look : ∀ {y},scope.names.lookup y=some .free->∃ c,cenv.cells.lookup y=some c/\X.env.cells.lookup y=some c:=fun {y} hl=>by
  have hy:(y,NameKind.free)∈scope.names:=PySem.mem_of_lookup hl;obtain ⟨c',e'⟩:=dL_ (dz_ (names:=scope.names) (n:=(s.heap.push { cls := .type "dict",data := .dict #[] }).objs.size) (c9_ (cells:=X.env.cells) (acc:=[]) hy));rw [<- hcl] at e';refine ⟨c',e',?_⟩;rw [hcl] at e';rcases cx_ (PySem.mem_of_lookup e') with hm | ⟨h1,_,_⟩
  ·exact (cm hm).1
  have:=ok.uniq _ h1;rw [hl] at this;cases this
 have okB:(X.blk s H scope cenv fp).Ok:=by
  refine ⟨I.ok.mod,by show cenv.scope.kind=_;rw [hsc];exact ok.kind,by show cenv.globals=_;rw [<- hcenv];exact I.ok.glob,by show cenv.builtins=_;rw [<- hcenv];exact I.ok.blt,by show s.heap.objs.size<=cenv.locals;rw [hL];exact Nat.le_refl _,
   fun y z c e1 e2=>?_,fun y hy=>?_,fun y c z e=>?_,I.ok.hd,I.ok.frames,.inl rfl,fun b hb=>⟨?_,fun y c e z=>?_⟩,I.bs,Nat.le_trans I.ok.bsz I.sz,fun b o e hb=>?_,fun b hb z=>?_,I.stack,I.stkFree⟩
  ·have e1:cenv.cells.lookup y=some c:=e1
   have e2:cenv.cells.lookup z=some c:=e2;rw [hcl] at e1 e2;refine eX_ (fun p hp=>?_) (fun y z c a b=>I.ok.inj y z c (cm a).1 (cm b).1) (PySem.mem_of_lookup e1) (PySem.mem_of_lookup e2);rw [size_push];exact Nat.lt_succ_of_lt (cm (y:=p.1) (c:=p.2) hp).2
  ·show ∃ c,cenv.cells.lookup y=some c
   have key : ∀ k,cenv.kindOf y=some k->(k = .cell\/k = .free)->∃ c,cenv.cells.lookup y=some c:=fun k hk hk'=>by
    unfold Env.kindOf at hk;rw [hsc] at hk;obtain ⟨k',e,r⟩:=c2_ hk;have:k' = .cell\/k' = .free:=by
     rcases r with rfl | ⟨rfl,_⟩
     ·exact hk'
     exact .inr rfl
    rcases this with rfl | rfl
    ·obtain ⟨c,hm⟩:=eY_ (n:=(s.heap.push { cls := .type "dict",data := .dict #[] }).objs.size) (acc:=a0_ X.env.cells scope.names []) (PySem.mem_of_lookup e)
     obtain ⟨c',e'⟩:=dL_ hm;exact ⟨c',by rw [hcl];exact e'⟩
    obtain ⟨c,h1,_⟩:=look e;exact ⟨c,h1⟩
   rcases hy with hy | hy
   ·exact key _ hy (.inl rfl)
   exact key _ hy (.inr rfl)
  ·have z:(scope.names.lookup y == some NameKind.cell)=true:=z
   have z:scope.names.lookup y=some .cell:=by simpa using z
   have e:cenv.cells.lookup y=some c:=e;rw [hcl] at e;rcases cx_ (PySem.mem_of_lookup e) with hm | ⟨_,h2,_⟩
   ·rcases cd_ hm with hm | ⟨h1,_⟩
    ·cases hm
    have q:=ok.uniq _ h1;rw [z] at q;cases q
   rw [size_push] at h2;exact le_of_succ_le h2
  ·show b≠cenv.locals
   rw [hL];exact Nat.ne_of_lt (hfp b hb).2
  ·have e:cenv.cells.lookup y=some c:=e
   rcases mem e with ⟨h1,_⟩ | ⟨h1,_⟩
   ·exact (hfp b hb).1.2.2.2.2.1 y c h1 z
   have h2:s.heap.objs.size+1<=b:=by rw [<- z];exact h1
   exact absurd (Nat.lt_of_lt_of_le (hfp b hb).2 (le_of_succ_le h2)) (Nat.lt_irrefl _)
  ·rcases (hfp b hb).1.2.2.2.1 with z | z
   ·exact I.ok.noex b o e z
   exact absurd (Nat.lt_of_lt_of_le (lt_size e) (Nat.le_trans I.ok.bsz z)) (Nat.lt_irrefl _)
  rcases mem_cons.mp (I.stkSub b z) with z | z
  ·exact (hfp b hb).1.2.1 z
  exact (hfp b hb).1.2.2.1 z
 refine ⟨okB,rfl,I.bare,Un.kept kp,⟨fun _=>none,?_,fun i y av e1 e2 e3=>?_⟩,fun y c e=>?_,?_,fun y c e=>?_,fun p hp=>?_,I.hok.kept kp,by rw [cY_];exact I.len⟩
 ·show Heap.Ns _ cenv.locals _
  rw [hL];exact Heap.Ns.keeps (Heap.Ns.new ..) fun b o e=>pushCells_keeps _ _ _ _ e
 ·obtain ⟨e2,hne⟩:=ep_ e2
  have hfr:scope.names.lookup y=some .free/\(cenv.kindOf y=some .cell\/cenv.kindOf y=some .free):=by
   have key : ∀ k,cenv.scope.names.lookup y=some k->k = .local\/k = .cell\/k = .free->scope.names.lookup y=some .free/\(cenv.kindOf y=some .cell\/cenv.kindOf y=some .free):=fun k hk hk'=>by
    have hk0:=hk;rw [hsc] at hk;obtain ⟨k',e,r⟩:=c2_ hk;have no : ¬ (k' = .local\/k' = .cell):=fun hh=>by
     rcases ok.own _ (PySem.mem_of_lookup e) hh with e' | e'
     ·obtain ⟨p,hp,hpy⟩:=mem_map.mp e'
      have e3:=ok.ix p hp;have:p.1=y:=hpy;rw [this] at e3;exact hne (mem_map.mpr ⟨p,hp,fZ_ hN e3 e1⟩)
     exact e' (mem_of_getElem? e1)
    rcases r with rfl | ⟨rfl,rfl⟩
    ·rcases hk' with rfl | rfl | rfl
     ·exact absurd (.inl rfl) no
     ·exact absurd (.inr rfl) no
     exact ⟨e,.inr hk0⟩
    exact ⟨e,.inl hk0⟩
   have e3:Vis cenv.scope y:=e3;rcases e3 with e3 | e3 | e3
   ·exact key _ e3 (.inl rfl)
   ·exact key _ e3 (.inr (.inl rfl))
   exact key _ e3 (.inr (.inr rfl))
  obtain ⟨m,hn,hl⟩:=I.loc;have hvis:Vis X.env.scope y:=(ok.free _ (PySem.mem_of_lookup hfr.1) rfl).elim (fun k => .inr (.inl k)) (fun k => .inr (.inr k));obtain ⟨w,r,q⟩:=hl i y av e1 e2 hvis;refine ⟨w,r,.inr ⟨hfr.2,?_⟩⟩;obtain ⟨c,h1,h2⟩:=look hfr.1;rcases q with ⟨k,_⟩ | ⟨_,c',e',z⟩
  ·have k:X.env.scope.names.lookup y=some .local:=k
   rcases ok.free _ (PySem.mem_of_lookup hfr.1) rfl with k' | k' <;> rw [show X.env.scope.names.lookup y=_ from k'] at k <;> cases k
  rw [h2] at e';cases e';exact ⟨c,h1,z.keeps kp⟩
 ·have e:cenv.cells.lookup y=some c:=e
  rcases mem e with ⟨h1,_⟩ | ⟨_,z⟩
  ·obtain ⟨w,z⟩:=I.cell y c h1
   exact ⟨w,z.keeps kp⟩
  exact ⟨_,z⟩
 ·show H cenv.locals=none
  rw [hL];exact I.hok.fresh (Nat.le_refl _)
 ·have e:cenv.cells.lookup y=some c:=e
  rcases mem e with ⟨h1,_⟩ | ⟨h1,_⟩
  ·exact I.freeC y c h1
  exact I.hok.fresh (le_of_succ_le h1)
 exact absurd (show p∈([]:zP)++[] from hp) (by simp)
theorem pn_ {E:zQ}{D:Addr}{xs:List V}{y:V}{v:Value}{Q:zQ} (I:Inv X pins σ H s) (hD:H D=some (.lst xs)) (hz:xs.length<sizeLine) (r:RelV y v)
  (h : ∀ s',Inv X pins σ (upd H D (.lst (xs++[y]))) s'->Q .none s'):wpAny (model X.prog X.w) X.A (call (.builtin "list.append") [.ref D,v]) Q E s:=by
 refine x_01 (I.hok D _ hD) fun hz' zz0=>?_;refine x_21 zz0 fun its n ri e=>?_;have hl:=ri.length;refine append_at (hsz:=by rw [size_toArray];omega) e fun h' sb ho'=>?_;refine h { s with heap:=h' } (I.write (t':=s.toks) (by rw [hD];trivial) (.inl rfl) (fun b u hb q=>(sb.2 b hb).trans q) ⟨_,ho'⟩ ⟨by rw [length_append];exact hz,its++[v],n+1,ri.append (.cons r .nil),?_⟩);rw [ho'];simp
def PTs (X:Cx) (ifs:List Expr) (t:TT):Prop :=
 ∀ (pins:zP) (s:Shared) (σ:St) (H:Hp) (Q:Bool->Hp->Prop),Inv X pins σ H s->t σ H Q ->
  wpAny (model X.prog X.w) X.A (forIn ifs true fun c r=>if r=true then do let ok <- isTrue c X.env (eval c X.env);pure (ForInStep.yield ok) else pure (ForInStep.yield r)) (TP X pins σ Q) X.xe s
def tYes:TT:=fun _ H Q=>Q true H
theorem eI_:PTs X [] tYes:=fun _ _ _ H _ I h=>wpAny_tests_nil ⟨H,I,h⟩
end
theorem thnF {α:Type}{t:Sem α}{Q Q':α->Shared->Prop}{M:Model}{A:Around}{E:zQ}{s:Shared} (h:wpAny M A t Q (fun _ _=>False) s) (hQ : ∀ a s,Q a s->Q' a s):wpAny M A t Q' E s:=wpAny_mono h hQ fun _ _ z=>False.elim z
theorem g9_ {prog:Program}{w:World}{A:Around}{R:Result->Shared->Prop}{s:Shared}{elt target iter:Expr}{ifs:List Expr}{scope:Scope}{pos:Pos}{it acc:Value}{env:Env} (I:Nat->Shared->Prop)
  (turn : ∀ n s,I n s->wpAny (model prog w) A (pyNext it) (fun r s₁=>match r with
   | none=>R (.ok .next) s₁
   | some v=>wpAny (model prog w) A (letOwnedTupleGo target it v) (fun _ s₁'=>wpAny (model prog w) A (assign target env v) (fun _ s₂ =>
     wpAny (model prog w) A (forIn ifs true fun c r=>if r=true then do let ok <- isTrue c env (eval c env);pure (ForInStep.yield ok) else pure (ForInStep.yield r)) (fun ok s₃ =>
      if ok=true then wpAny (model prog w) A (eval elt env) (fun x s₄ =>
       wpAny (model prog w) A (call (.builtin "list.append") [acc,x]) (fun _ s₅=>∃ m,m<n/\I m s₅) (notedBy (model prog w) A env fun e s'=>R (.error e) s') s₄) (notedBy (model prog w) A env fun e s'=>R (.error e) s') s₃
      else ∃ m,m<n/\I m s₃) (notedBy (model prog w) A env fun e s'=>R (.error e) s') s₂) (notedBy (model prog w) A env fun e s'=>R (.error e) s') s₁') (notedBy (model prog w) A env fun e s'=>R (.error e) s') s₁) (notedBy (model prog w) A env fun e s'=>R (.error e) s') s)
  (n:Nat) (h:I n s) :
  codeAny (model prog w) A (.compLoop (.ListComp elt [⟨target,iter,ifs,0⟩] scope pos) 0 it acc env) R s:=by
 refine codeAny_loop rfl I (fun n s hI=>?_) n h;show wpAny _ A ((compTurn (.ListComp elt [⟨target,iter,ifs,0⟩] scope pos) 0 it acc env).onRaise (fun x=>do noteFrame x env;theTreesLotGoes x)) _ _ s;refine wpAny_noted ?_;rw [compTurn_list];refine wpAny_bind (wpAny_standAt (wpAny_bind (wpAny_mono (turn n s hI) (fun r s₁ h₁=>?_) fun _ _ h'=>h')));cases r with
 | none=>exact wpAny_pure h₁
 | some v =>
 refine wpAny_bind (wpAny_mono h₁ (fun _ s₁' h₁'=>?_) fun _ _ h'=>h');refine wpAny_bind (wpAny_mono h₁' (fun _ s₂ h₂=>wpAny_bind (wpAny_mono h₂ (fun ok s₃ h₃=>?_) fun _ _ h'=>h')) fun _ _ h'=>h');cases ok with
 | false=>exact wpAny_pure ⟨rfl,h₃⟩
 | true =>
 exact wpAny_bind (wpAny_bind (wpAny_mono h₃ (fun x s₄ h₄=>wpAny_bind (wpAny_mono h₄ (fun _ s₅ h₅=>wpAny_pure (wpAny_pure ⟨rfl,h₅⟩)) fun _ _ h'=>h')) fun _ _ h'=>h'))
section
variable {X:Cx}
def tLc (wi:TI) (g:TG) (tt:TT) (te:TE) (vs:List Nat):TE:=fun σ H Q=>wi σ H fun J H1=>∀ D,H1 D=none->∃ W:Nat->Nat->Hp->Prop,(∃ m,W 0 m (upd H1 D (.lst [])))/\∀ i m H,W i m H ->
 (J.stop i H/\Q (.ref D) H)\/(J.go i H/\∃ Nx:Hp->Prop,(∀ H',Nx H'->∃ m',m'<m/\W (i+1) m' H')/\∀ x H',J.yld i H x H'->g x (wipe σ vs) H' fun σ2 H2=>wipe σ2 vs=wipe σ vs/\tt σ2 H2 fun b H3 =>
  if b=true then te σ2 H3 fun y H4=>∃ acc,H4 D=some (.lst acc)/\acc.length<sizeLine/\Nx (upd H4 D (.lst (acc++[y]))) else Nx H3)
theorem nQ_ {pins:zP}{s:Shared}{σ:St}{H:Hp}{Q:VK}{elt tg iter:Expr}{ifs:List Expr}{scope:Scope}{own:List (Str×Nat)}{pos pos':Pos}{wi:TI}{g:TG}{tt:TT}{te:TE}{use:Option (Value->Sem Unit)}{Qf:zQ}
  (hc:X.calm=true) (hN:X.N.Nodup) (I:Inv X pins σ H s) (hi:PI X tg iter wi) (ok:BlkOk X.N X.env.scope scope own)
  (hg : ∀ (s:Shared) (H:Hp) (C:Addr) (cl:List (Str×Addr)) (fp:List Addr),PG (X.blk s H scope (compEnvC scope cl C X.env) fp) tg g) (ht : ∀ (s:Shared) (H:Hp) (C:Addr) (cl:List (Str×Addr)) (fp:List Addr),PTs (X.blk s H scope (compEnvC scope cl C X.env) fp) ifs tt)
  (he : ∀ (s:Shared) (H:Hp) (C:Addr) (cl:List (Str×Addr)) (fp:List Addr),PE (X.blk s H scope (compEnvC scope cl C X.env) fp) elt te) (hs : ∀ x,foldedSetIterable iter X.env x=pure x)
  (h:tLc wi g tt te (own.map (·.2)) σ H Q)
  (hRR : ∀ D C s' m H',Inv X pins σ H' s'->Q (.ref D) H'->s'.heap.Ns C m->FpOk X pins H' C->compPost (model X.prog X.w) X.A X.xe use Qf (.ref D) C (.ok .next) s') :
  wpAny (model X.prog X.w) X.A (comprehension (.ListComp elt [⟨tg,iter,ifs,0⟩] scope pos) scope X.env pos' (newList []) false (eval iter X.env) use) Qf X.xe s:=by
 have hfree : ∀ y∈scope.names,y.2 = .free->∃ c,X.env.cells.lookup y.1=some c:=fun y hy e=>by
  rcases ok.free y hy e with k | k
  ·exact I.ok.has _ (.inl k)
  exact I.ok.has _ (.inr k)
 refine wpAny_comprehension_free (use:=use) rfl hs (jo_ hfree) ok.kind (fun y hy e=>by rw [ok.uniq y hy,e])
  (thn (hi pins s σ H _ I h) fun xv s1 hx=>thn hx fun itv s2 h2=>?_)
 refine x_50 h2 fun it fp tn J H2 zy=>x_05 zy fun e I2 T st2 f2 q=>?_;subst e;refine wpAny_newObj_type (hx_ ?_) (by show 0<=sizeLine;decide);generalize hD:s2.heap.objs.size=D;have hDn:H2 D=none:=I2.hok.fresh (Nat.le_of_eq hD);obtain ⟨W,⟨m0,w0⟩,turn⟩:=q D hDn;generalize hs3:({ s2 with heap:=s2.heap.push { cls := .type "list",data := .seq ([]:List Value).toArray } }:Shared)=s3;have I3:Inv X pins σ (upd H2 D (.lst [])) s3:=by
  rw [<- hs3];refine I2.laid (t':=s2.toks) (fun b o e=>get?_push_of_some _ e) (Nat.le_of_eq hD) ⟨zero_le _,[],0,.nil,?_⟩;rw [<- hD];exact get?_push_size _ rfl
 have h3:s3.heap=s2.heap.push { cls := .type "list",data := .seq ([]:List Value).toArray }:=by rw [<- hs3]
 have sz : ∀ b∈fp,b<s2.heap.objs.size:=fun b hb=>by
  obtain ⟨o,e,_⟩:=T.obj _ _ st2 b hb;exact lt_size e
 have f3 : ∀ b∈fp,FpOk X pins (upd H2 D (.lst [])) b/\b<s3.heap.objs.size:=fun b hb=>by
  have hlt:=sz b hb;refine ⟨⟨?_,(f2 b hb).2⟩,by rw [h3,size_push];exact Nat.lt_succ_of_lt hlt⟩;rw [am_ (by rw [<- hD];exact Nat.ne_of_lt hlt)];exact (f2 b hb).1
 have st3:tn 0 s3.heap:=T.keep _ _ _ st2 fun b _ o e=>by rw [h3];exact get?_push_of_some _ e
 have I4:=hT_ I3 ok hN f3;have pg:=hg s3 (upd H2 D (.lst [])) s3.heap.objs.size (cellsFrom (s3.heap.objs.size+1) scope.names (a0_ X.env.cells scope.names [])) fp;have pt:=ht s3 (upd H2 D (.lst [])) s3.heap.objs.size (cellsFrom (s3.heap.objs.size+1) scope.names (a0_ X.env.cells scope.names [])) fp;have pe:=he s3 (upd H2 D (.lst [])) s3.heap.objs.size (cellsFrom (s3.heap.objs.size+1) scope.names (a0_ X.env.cells scope.names [])) fp;show codeAny _ _ (.compStart (.ListComp elt [⟨tg,iter,ifs,0⟩] scope pos) 0 (.ref it) (.ref D) (compEnvC scope (cellsFrom (s3.heap.objs.size+1) scope.names (a0_ X.env.cells scope.names [])) s3.heap.objs.size X.env)) (compPost (model X.prog X.w) X.A X.xe use Qf (.ref D) s3.heap.objs.size) { s3 with heap:=pushCells (s3.heap.push { cls := .type "dict",data := .dict #[] }) scope.names };have nfp : ∀ b∈fp,(upd H2 D (.lst [])) b=none:=fun b hb=>(f3 b hb).1.1;generalize hce:compEnvC scope (cellsFrom (s3.heap.objs.size+1) scope.names (a0_ X.env.cells scope.names [])) s3.heap.objs.size X.env=ce at I4 pg pt pe ⊢;have cL:ce.locals=s3.heap.objs.size:=by subst hce;rfl
 generalize hH3:upd H2 D (.lst [])=H3 at I3 I4 pg pt pe w0 nfp f3;generalize hs4:({ s3 with heap:=pushCells (s3.heap.push { cls := .type "dict",data := .dict #[] }) scope.names }:Shared)=s4 at I4 ⊢;have st4:tn 0 s4.heap:=T.keep _ _ _ st3 fun b _ o e=>by rw [<- hs4];exact pushCells_keeps _ _ _ _ (get?_push_of_some _ e)
 have stat : ∀ {σ':St}{H':Hp}{s':Shared},Inv (X.blk s3 H3 scope ce fp) [] σ' H' s'->(∀ b∈fp,H' b=none)->∀ b∈fp,FpOk (X.blk s3 H3 scope ce fp) [] H' b:=fun {σ' H' s'} I' hn b hb =>
  ⟨hn b hb,(I'.ok.exf b hb).1,I'.ok.exfs b hb,.inl hb,fun x c e=>(I'.ok.exf b hb).2 x c e,fun p hp=>absurd (show p∈([]:zP)++[] from hp) (by simp)⟩
 have loop:codeAny (model X.prog X.w) X.A (.compLoop (.ListComp elt [⟨tg,iter,ifs,0⟩] scope pos) 0 (.ref it) (.ref D) ce) (compPost (model X.prog X.w) X.A X.xe use Qf (.ref D) s3.heap.objs.size) s4:=by
  refine g9_ (fun n s'=>∃ i H',Inv (X.blk s3 H3 scope ce fp) [] (wipe σ (own.map (·.2))) H' s'/\tn i s'.heap/\(∀ b∈fp,H' b=none)/\W i n H') ?_ m0 ⟨0,H3,I4,st4,nfp,w0⟩
  rintro n s5 ⟨i,H5,I5,st5,n5,w5⟩
  rcases turn i n H5 w5 with ⟨stop,qq⟩ | ⟨go,Nx,hNx,step⟩
  ·have td:=T.done (X.blk s3 H3 scope ce fp) rfl rfl rfl hc i [] s5 _ H5 (fun _ _=>False) I5 (stat I5 n5) st5 stop
   refine thnF td fun r s6 ⟨hr,I6⟩=>?_;subst hr;have I7:Inv X pins σ H5 s6:=I3.call' (ch:=fp) I6.os I6.base I6.hok I6.bare fun b hb=>⟨(f3 b hb).1.2.2.2.1,(f3 b hb).1.2.1,(f3 b hb).1.2.2.2.2.1,(f3 b hb).1.2.2.2.2.2⟩;have nC:H5 s3.heap.objs.size=none:=by
    have z:H5 ce.locals=none:=I6.free;rw [cL] at z;exact z
   obtain ⟨m,hn,_⟩:=I6.loc;have hn:s6.heap.Ns ce.locals m:=hn;rw [cL] at hn;exact hRR D s3.heap.objs.size s6 m H5 I7 qq hn (I3.fpOk (Nat.le_refl _) nC)
  have ti:=T.item (X.blk s3 H3 scope ce fp) rfl rfl rfl hc i [] s5 _ H5 (fun _ _=>False) I5 (stat I5 n5) st5 go;refine thnF ti fun r s6 ⟨u,hr,h6⟩=>?_;subst hr;refine thnF h6 fun _ s7 zq=>?_;refine x_24 zq fun x H7 I7 r7 y7 st7 n7=>?_;have I7':=I7.pinned (stat I7 n7) (T.obj _ _ st7);refine thnF (pg _ s7 _ H7 x u _ I7' r7 (step x H7 y7)) fun _ s8 zq=>?_;refine x_22 zq fun σ8 H8 I8 hw8 q8=>?_;refine thnF (pt _ s8 σ8 H8 _ I8 q8) fun b s9 ⟨H9,I9,q9⟩=>?_;have fin : ∀ {s':Shared}{H':Hp},Inv (X.blk s3 H3 scope ce fp) ([]++fg_ fp s7.heap) σ8 H' s'->Nx H'->∃ m,m<n/\∃ i H',Inv (X.blk s3 H3 scope ce fp) [] (wipe σ (own.map (·.2))) H' s'/\tn i s'.heap/\(∀ b∈fp,H' b=none)/\W i m H':=fun {s' H'} I' nx=>by
   obtain ⟨m',hm,w'⟩:=hNx H' nx;have pin' : ∀ b∈fp,∀ o,s7.heap.get? b=some o->s'.heap.get? b=some o/\H' b=none:=fun b hb o e =>
    let z:=I'.pin (b,o) (mem_append_right _ (mem_append_right _ (bY_ hb e)))
    ⟨z.1,z.2.1⟩
   have hl:(wipe σ (own.map (·.2))).length=σ8.length:=by rw [<- hw8,cY_]
   refine ⟨m',hm,i+1,H',(I'.unpinned (pins:=[])).weak hl (fun j v e=>?_),T.keep _ _ _ st7 fun b hb o e=>(pin' b hb o e).1,fun b hb=>?_,w'⟩
   ·rw [<- hw8] at e
    exact (ep_ e).1
   obtain ⟨o,e,_⟩:=T.obj _ _ st7 b hb;exact (pin' b hb o e).2
  cases b with
  | false =>
   simp only [false_eq_true,if_false] at q9 ⊢;exact fin I9 q9
  | true =>
  simp only [if_true] at q9 ⊢;refine thnF (pe _ s9 σ8 H9 _ I9 q9) fun z s10 zq=>?_;refine x_22 zq fun yv H10 I10 r10 zz0=>?_;refine x_12 zz0 fun acc hD10 hz10 nx=>?_;exact pn_ (X:=X.blk s3 H3 scope ce fp) I10 hD10 hz10 r10 fun s11 I11=>fin I11 nx
 exact codeAny_compStart_list loop (T.self X.A 0 _ _ _ st4 loop)
theorem kf_ {elt tg iter:Expr}{ifs:List Expr}{scope:Scope}{own:List (Str×Nat)}{pos:Pos}{wi:TI}{g:TG}{tt:TT}{te:TE} (hc:X.calm=true) (hN:X.N.Nodup) (hi:PI X tg iter wi) (ok:BlkOk X.N X.env.scope scope own)
  (hg : ∀ (s:Shared) (H:Hp) (C:Addr) (cl:List (Str×Addr)) (fp:List Addr),PG (X.blk s H scope (compEnvC scope cl C X.env) fp) tg g) (ht : ∀ (s:Shared) (H:Hp) (C:Addr) (cl:List (Str×Addr)) (fp:List Addr),PTs (X.blk s H scope (compEnvC scope cl C X.env) fp) ifs tt)
  (he : ∀ (s:Shared) (H:Hp) (C:Addr) (cl:List (Str×Addr)) (fp:List Addr),PE (X.blk s H scope (compEnvC scope cl C X.env) fp) elt te) (hs : ∀ x,foldedSetIterable iter X.env x=pure x:=by intro _;rfl) :
  PE X (.ListComp elt [⟨tg,iter,ifs,0⟩] scope pos) (tLc wi g tt te (own.map (·.2))):=by
 intro pins s σ H Q I h;rw [eval_ListComp];refine nQ_ hc hN I hi ok hg ht he hs h fun D C s' m H' I' q hn f=>⟨m,hn,fun h'' sb=>?_⟩;obtain ⟨f0,f1,f2,f3,f4,f5⟩:=f;exact ⟨.ref D,H',I'.turned (t':=s'.toks) (fun b o hb e=>(sb.2 b hb).trans e) f0 f1 f3 f4 f5,rfl,q⟩
end
def blkC (N:List Str) (sc scope:Scope) (own:List (Str×Nat)):Bool :=
 (match scope.kind with | .function=>true | _=>false) && (scope.names.all fun y=>decide (scope.names.lookup y.1=some y.2)) && (own.all fun p=>decide (N[p.2]? = some p.1)) &&
  (scope.names.all fun y=>match y.2 with
   | .free=>(match sc.names.lookup y.1 with | some .cell=>true | some .free=>true | _=>false)
   | .local=>decide (y.1∈own.map (·.1)) || decide (y.1∉N)
   | .cell=>decide (y.1∈own.map (·.1)) || decide (y.1∉N)
   | _=>true)
theorem dB_ {N:List Str}{sc scope:Scope}{own:List (Str×Nat)} (h:blkC N sc scope own=true):BlkOk N sc scope own:=by
 unfold blkC at h;simp only [and_eq_true,all_eq_true,decide_eq_true_eq] at h;obtain ⟨⟨⟨h1,h2⟩,h3⟩,h4⟩:=h;refine ⟨?_,h2,h3,fun y hy e=>?_,fun y hy e=>?_⟩
 ·split at h1
  ·assumption
  cases h1
 ·have q:=h4 y hy
  simp only [e] at q;split at q <;> first | exact .inl (by assumption) | exact .inr (by assumption) | cases q
 have q:=h4 y hy;rcases e with e | e <;> (simp only [e,Bool.or_eq_true,decide_eq_true_eq] at q;exact q)
end
section
section
variable {prog:Program}{w:World}{A:Around}{R:Result->Shared->Prop}{s:Shared}{elt t0 i0 t1 i1:Expr}{ifs0 ifs1:List Expr}{scope:Scope}{pos:Pos}{it acc:Value}{env:Env}
end
section
variable {X:Cx}
end
end
section
section
variable {κ:Type} [DecidableEq κ]
def valV (kvs:List (κ×V)) (k:κ):Option V:=(kvs.find? fun kv=>decide (kv.1=k)).map (·.2)
noncomputable def putK (kvs:List (κ×V)) (k:κ) (v:V):List (κ×V) :=
 if (kvs.any fun kv=>decide (kv.1=k))=true then kvs.map (fun kv=>if kv.1=k then (kv.1,v) else kv) else kvs++[(k,v)]
theorem bi_ {p:κ×V}{r:List (κ×V)}{k:κ} (e:p.1=k):valV (p::r) k=some p.2:=by simp [valV,find?_cons,e]
theorem bj_ {p:κ×V}{r:List (κ×V)}{k:κ} (e : ¬ p.1=k):valV (p::r) k=valV r k:=by simp [valV,find?_cons,e]
theorem ea_ (k:κ) : ∀ kvs:List (κ×V),(kvs.any fun kv=>decide (kv.1=k))=(valV kvs k).isSome
 | []=>rfl
 | p::r=>by
  rw [any_cons];by_cases e:p.1=k
  ·simp only [bi_ e,decide_eq_true e,Bool.true_or,Option.isSome_some]
  rw [bj_ e,decide_eq_false e,Bool.false_or];exact ea_ k r
theorem h0_ (k j:κ) (y:V) : ∀ kvs:List (κ×V),valV (kvs.map fun kv=>if kv.1=k then (kv.1,y) else kv) j=(valV kvs j).map fun x=>if j=k then y else x
 | []=>rfl
 | p::r=>by
  have ih:=h0_ k j y r;rw [map_cons];by_cases h:p.1=k
  ·rw [if_pos h]
   by_cases e:p.1=j
   ·rw [bi_ (p:=(p.1,y)) e,bi_ e,map_some,if_pos (e.symm.trans h)]
   rw [bj_ (p:=(p.1,y)) e,bj_ e,ih]
  rw [if_neg h];by_cases e:p.1=j
  ·rw [bi_ (p:=p) e,bi_ e,map_some,if_neg (fun z=>h (e.trans z))]
  rw [bj_ (p:=p) e,bj_ e,ih]
theorem gm_ (k j:κ) (y:V) : ∀ kvs:List (κ×V),valV kvs k=none->valV (kvs++[(k,y)]) j=if j=k then some y else valV kvs j
 | [],_=>by
  by_cases e:k=j
  ·rw [if_pos e.symm];exact bi_ (p:=(k,y)) e
  rw [if_neg (fun z=>e z.symm)];exact bj_ (p:=(k,y)) e
 | p::r,hn=>by
  rw [cons_append];have hk : ¬ p.1=k:=fun z=>by rw [bi_ z] at hn;cases hn
  rw [bj_ hk] at hn;have ih:=gm_ k j y r hn;by_cases e:p.1=j
  ·rw [bi_ e,bi_ e,if_neg (fun z=>hk (e.trans z))]
  rw [bj_ e,bj_ e,ih]
theorem lm_ (kvs:List (κ×V)) (k j:κ) (y:V):valV (putK kvs k y) j=if j=k then some y else valV kvs j:=by
 unfold putK;by_cases a:(kvs.any fun kv=>decide (kv.1=k))=true
 ·rw [if_pos a,h0_]
  rw [ea_] at a;by_cases e:j=k
  ·obtain ⟨x,hx⟩:=Option.isSome_iff_exists.mp a
   rw [if_pos e,e,hx,map_some,if_pos rfl]
  rw [if_neg e];cases valV kvs j with
  | none=>rfl
  | some x=>rw [map_some,if_neg e]
 rw [if_neg a];refine gm_ k j y kvs ?_;rw [ea_] at a;cases q:valV kvs k with
 | none=>rfl
 | some x=>rw [q] at a;exact (a rfl).elim
theorem eL_ (kvs:List (κ×V)) (k:κ) (v:V):(putK kvs k v).length<=kvs.length+1:=by
 unfold putK;split
 ·rw [length_map];omega
 rw [length_append,length_cons,length_nil];omega
theorem RelO.isSome_eq {o:Option V}{u:Option Value} (r:RelO o u):o.isSome=u.isSome:=by
 cases o with
 | none=>cases u with
  | none=>rfl
  | some _=>exact (show False from r).elim
 | some _=>cases u with
  | none=>exact (show False from r).elim
  | some _=>rfl
theorem RelO.getD {o:Option V}{u:Option Value}{d:V}{d':Value} (r:RelO o u) (rd:RelV d d'):RelV (o.getD d) (u.getD d'):=by
 cases o with
 | none=>cases u with
  | none=>exact rd
  | some _=>exact (show False from r).elim
 | some _=>cases u with
  | none=>exact (show False from r).elim
  | some _=>exact r
theorem KV.val {kvs:List (κ×V)}{vs:List (κ×Value)} (r:KV kvs vs) (k:κ):RelO (valV kvs k) (valueAt vs k):=by
 unfold KV at r
 induction r with
 | nil=>exact True.intro
 | @cons p q ps qs h t ih =>
 obtain ⟨h1,h2⟩:=h;by_cases e:p.1=k
 ·have e':q.1=k:=h1.symm.trans e
  have b:valueAt (q::qs) k=some q.2:=by simp [valueAt,find?_cons,e']
  rw [bi_ e,b];exact h2
 have e' : ¬ q.1=k:=fun z=>e (h1.trans z);have b:valueAt (q::qs) k=valueAt qs k:=by simp [valueAt,find?_cons,e']
 rw [bj_ e,b];exact ih
theorem KV.any {kvs:List (κ×V)}{vs:List (κ×Value)} (r:KV kvs vs) (k:κ):(kvs.any fun kv=>decide (kv.1=k))=vs.any fun kv=>decide (kv.1=k):=by
 unfold KV at r
 induction r with
 | nil=>rfl
 | cons h t ih=>rw [any_cons,any_cons,ih,h.1]
theorem KV.repl {kvs:List (κ×V)}{vs:List (κ×Value)} (r:KV kvs vs) (k:κ) {y:V}{u:Value} (ry:RelV y u) :
  KV (kvs.map fun kv=>if kv.1=k then (kv.1,y) else kv) (vs.map fun kv=>if kv.1=k then (kv.1,u) else kv):=by
 unfold KV at r ⊢
 induction r with
 | nil=>exact .nil
 | @cons p q ps qs h t ih =>
 rw [map_cons,map_cons];refine .cons ?_ ih;obtain ⟨h1,h2⟩:=h;by_cases e:p.1=k
 ·rw [if_pos e,if_pos (h1.symm.trans e)];exact ⟨h1,ry⟩
 rw [if_neg e,if_neg (fun z=>e (h1.trans z))];exact ⟨h1,h2⟩
theorem KV.put {kvs:List (κ×V)}{vs:List (κ×Value)} (r:KV kvs vs) (k:κ) {y:V}{u:Value} (ry:RelV y u):KV (putK kvs k y) (stored vs k u):=by
 unfold putK stored;rw [r.any k];by_cases e:(vs.any fun kv=>decide (kv.1=k))=true
 ·rw [if_pos e,if_pos e];exact r.repl k ry
 rw [if_neg e,if_neg e];exact Paired.snoc r ⟨rfl,ry⟩
theorem KV.keys {kvs:List (κ×V)}{vs:List (κ×Value)} (r:KV kvs vs):kvs.map (·.1)=vs.map (·.1):=by
 unfold KV at r
 induction r with
 | nil=>rfl
 | cons h t ih=>rw [map_cons,map_cons,ih,h.1]
theorem KV.length {kvs:List (κ×V)}{vs:List (κ×Value)} (r:KV kvs vs):kvs.length=vs.length:=Paired.length r
end
theorem i3_ {P:Program}{w:World}{k:Key}{u:Value} (r:RelV (kV k) u):(aM_ P w).is k u=true:=by
 cases k with
 | inl i=>obtain ⟨t,e⟩:=(show ∃ t,u=Value.int i t from r);subst e;exact hy_ P w i t
 | inr x=>obtain ⟨t,e⟩:=(show ∃ t,u=Value.str x t from r);subst e;exact eK_ P w x t
theorem gX_ {P:Program}{w:World} : ∀ {ks:List Key}{us:List Value},Vals (ks.map kV) us->ItemsAre (aM_ P w) ks us
 | [],_,r=>by rw [map_nil] at r;cases r;exact .nil
 | k::ks,_,r=>by
  rw [map_cons] at r;cases r with
  | cons h t=>exact .cons (i3_ h) (gX_ t)
abbrev KT (H:Hp):List (List Key×V)->List (List Key×Addr×Value)->Prop:=Paired fun p q=>p.1=q.1/\H q.2.1=some (.tup (p.1.map kV))/\RelV p.2 q.2.2
theorem KT.val {H:Hp}{kvs:List (List Key×V)}{xs:List (List Key×Addr×Value)} (r:KT H kvs xs) (k:List Key):RelO (valV kvs k) ((atKey xs k).map (·.2)):=by
 induction r with
 | nil=>exact True.intro
 | @cons p q ps qs h t ih =>
 obtain ⟨h1,_,h2⟩:=h;by_cases e:p.1=k
 ·have e':q.1=k:=h1.symm.trans e
  have b:atKey (q::qs) k=some q.2:=by simp [atKey,find?_cons,e']
  rw [bi_ e,b];exact h2
 have e' : ¬ q.1=k:=fun z=>e (h1.trans z);have b:atKey (q::qs) k=atKey qs k:=by simp [atKey,find?_cons,e']
 rw [bj_ e,b];exact ih
theorem KT.repl {H:Hp}{kvs:List (List Key×V)}{xs:List (List Key×Addr×Value)} (r:KT H kvs xs) (k:List Key) {y:V}{u:Value} (ry:RelV y u) :
  KT H (kvs.map fun kv=>if kv.1=k then (kv.1,y) else kv) (xs.map (putAt k u)):=by
 induction r with
 | nil=>exact .nil
 | @cons p q ps qs h t ih =>
 rw [map_cons,map_cons];refine .cons ?_ ih;obtain ⟨h1,h2,h3⟩:=h;unfold putAt;by_cases e:p.1=k
 ·rw [if_pos e,if_pos (h1.symm.trans e)];exact ⟨h1,h2,ry⟩
 rw [if_neg e,if_neg (fun z=>e (h1.trans z))];exact ⟨h1,h2,h3⟩
theorem KT.put {H:Hp}{kvs:List (List Key×V)}{xs:List (List Key×Addr×Value)} (r:KT H kvs xs) (k:List Key) {b:Addr}{y:V}{u:Value} (hb:H b=some (.tup (k.map kV))) (ry:RelV y u) :
  KT H (putK kvs k y) (storedH xs k b u):=by
 have e:(kvs.any fun kv=>decide (kv.1=k))=(atKey xs k).isSome:=by
  rw [ea_,(r.val k).isSome_eq,Option.isSome_map]
 unfold putK storedH;rw [e];by_cases q:(atKey xs k).isSome=true
 ·rw [if_pos q,if_pos q];exact r.repl k ry
 rw [if_neg q,if_neg q];exact Paired.snoc r ⟨rfl,hb,ry⟩
theorem KT.keeps {H H':Hp}{kvs:List (List Key×V)}{xs:List (List Key×Addr×Value)} (r:KT H kvs xs) (ht : ∀ b ys,H b=some (.tup ys)->H' b=some (.tup ys)):KT H' kvs xs :=
 Paired.mapP r fun _ _ z=>⟨z.1,ht _ _ z.2.1,z.2.2⟩
section
variable {P:Program}{w:World}{H:Hp}{h:Heap}{a:Addr}
theorem oI_ {u:HO} (ok:HOk P w H h) (e:Rd H a u):a1_ P w H h a u:=e.ok ok
theorem mj_ {kvs:List (Key×V)} (ok:HOk P w H h) (e:Rd H a (.dK kvs)):kvs.length<=sizeLine/\(a == sysModules)=false/\∃ vs,KV kvs vs/\h.DictOf (aM_ P w) a vs :=
 show a1_ P w H h a (.dK kvs) from oI_ ok e
theorem pi_ {kvs:List (Key×V)} (ok:HOk P w H h) (e:H a=some (.dK kvs)):kvs.length<=sizeLine/\(a == sysModules)=false/\∃ vs,KV kvs vs/\h.DictOf (aM_ P w) a vs:=mj_ ok (.inl e)
theorem ky_ {ks:List Key} (ok:HOk P w H h) (e:H a=some (.tup (ks.map kV))):(tupleKind (aM_ P w)).is h ks a:=by
 obtain ⟨_,its,r,o,h1,h2,n,h3⟩:=(show a1_ P w H h a (.tup (ks.map kV)) from ok a _ e);exact ⟨o,its.toArray,n,h1,h2,h3,by simpa using gX_ r⟩
theorem n4_ {kvs:List (List Key×V)} (ok:HOk P w H h) (e:Rd H a (.dT kvs)):kvs.length<=sizeLine/\(a == sysModules)=false /\
  ∃ xs,KT H kvs xs/\h.DictOfH (tupleKind (aM_ P w)) a xs:=by
 refine x_02 ((show a1_ P w H h a (.dT kvs) from oI_ ok e)) fun z y zz0=>?_;refine x_11 zz0 fun xs r zz1=>?_;refine x_34 zz1 fun o es ep h1 h2 h3 h4 h5=>?_;refine ⟨z,y,xs,r,o,es,ep,h1,h2,h3,h4,fun x hx=>?_,h5⟩;have all : ∀ {l:List (List Key×V)}{m:List (List Key×Addr×Value)},KT H l m->∀ x∈m,(tupleKind (aM_ P w)).is h x.1 x.2.1:=by
  intro l m q
  induction q with
  | nil=>intro x hx;exact nomatch hx
  | @cons p q ps qs hq t ih =>
  intro x hx;rcases mem_cons.mp hx with e | hx
  ·subst e
   exact ky_ ok (by rw [<- hq.1];exact hq.2.1)
  exact ih x hx
 exact all r x hx
theorem pE_ {kvs:List (List Key×V)} (ok:HOk P w H h) (e:H a=some (.dT kvs)):kvs.length<=sizeLine/\(a == sysModules)=false /\
  ∃ xs,KT H kvs xs/\h.DictOfH (tupleKind (aM_ P w)) a xs:=n4_ ok (.inl e)
end
def DGet (H:Hp) (a:Addr) (y:V) (r:Option V):Prop :=
 (∃ kvs k,Rd H a (.dK kvs)/\y=kV k/\r=valV kvs k)\/∃ kvs k b,Rd H a (.dT kvs)/\y = .ref b/\H b=some (.tup (k.map kV))/\r=valV kvs k
def DPut (H:Hp) (a:Addr) (y v:V) (H':Hp):Prop :=
 (∃ kvs k,H a=some (.dK kvs)/\y=kV k/\kvs.length<sizeLine/\H'=upd H a (.dK (putK kvs k v))) \/
 ∃ kvs k b,H a=some (.dT kvs)/\y = .ref b/\H b=some (.tup (k.map kV))/\kvs.length<sizeLine/\H'=upd H a (.dT (putK kvs k v))
theorem DGet.k {H:Hp}{a:Addr}{kvs:List (Key×V)}{k:Key} (e:H a=some (.dK kvs)):DGet H a (kV k) (valV kvs k) := .inl ⟨kvs,k,.inl e,rfl,rfl⟩
theorem DGet.t {H:Hp}{a b:Addr}{kvs:List (List Key×V)}{k:List Key} (e:H a=some (.dT kvs)) (eb:H b=some (.tup (k.map kV))):DGet H a (.ref b) (valV kvs k) := .inr ⟨kvs,k,b,.inl e,rfl,eb,rfl⟩
theorem DPut.k {H:Hp}{a:Addr}{kvs:List (Key×V)}{k:Key}{v:V} (e:H a=some (.dK kvs)) (hl:kvs.length<sizeLine):DPut H a (kV k) v (upd H a (.dK (putK kvs k v))) := .inl ⟨kvs,k,e,rfl,hl,rfl⟩
theorem DPut.t {H:Hp}{a b:Addr}{kvs:List (List Key×V)}{k:List Key}{v:V} (e:H a=some (.dT kvs)) (eb:H b=some (.tup (k.map kV))) (hl:kvs.length<sizeLine) :
  DPut H a (.ref b) v (upd H a (.dT (putK kvs k v))) := .inr ⟨kvs,k,b,e,rfl,eb,hl,rfl⟩
section
variable {X:Cx}{pins:zP}{σ:St}{H:Hp}{s:Shared}{a:Addr}{y v:V}{u r:Value}{o:Option V}{A:Around}{E:zQ}
theorem Inv.big (I:Inv X pins σ H s):sysModules<s.heap.objs.size:=by
 have h:mainGlobals<s.heap.objs.size:=(I.mod.glob.keeps I.bk).lt;exact Nat.lt_trans (by decide) h
theorem k3_ {h':Heap}{t':Nat}{ob:HO} (I:Inv X pins σ H s) (mu:Mut (H a)) (hs:Heap.SameBut a s.heap h') (he : ∃ q,h'.get? a=some q) (new:a1_ X.prog X.w (upd H a ob) h' a ob) :
  Inv X pins σ (upd H a ob) { s with heap:=h',toks:=t' } :=
 I.write (x:=a) (e:=a) mu (.inl rfl) (fun b q hb z=>(hs.2 b hb).trans z) he new
theorem mX_ {P:Program}{w:World}{H':Hp}{h':Heap}{kvs:List (Key×V)}{vs:List (Key×Value)} (z:kvs.length<=sizeLine) (hd:(a == sysModules)=false) (rel:KV kvs vs) (dd:h'.DictOf (aM_ P w) a vs) :
  a1_ P w H' h' a (.dK kvs):=⟨z,hd,vs,rel,dd⟩
theorem k4_ {H':Hp}{Q:Unit->Shared->Prop} (hu:A.units+1<cLine) (I:Inv X pins σ H s) (g:DPut H a y v H') (ry:RelV y u) (rv:RelV v r) (h : ∀ s',Inv X pins σ H' s'->Q () s') :
  wpAny (model X.prog X.w) A (setItem (.ref a) u r) Q E s:=by
 rcases g with ⟨kvs,k,e,ey,l,eH⟩ | ⟨kvs,k,b,e,ey,eb,l,eH⟩
 ·subst ey eH
  obtain ⟨z,hd,vs,rel,dd⟩:=pi_ I.hok e;have hz:vs.length<=sizeLine:=by rw [<- rel.length];exact z
  have hl:(putK kvs k v).length<=sizeLine:=by have:=eL_ kvs k v;omega
  refine wpAny_setItem_pairs (hsz:=hz) (i3_ ry) dd fun h' dd' hs=>h _ ?_;have he : ∃ q,h'.get? a=some q:=let ⟨q,_,_,hq,_⟩:=dd';⟨q,hq⟩;exact k3_ I (by rw [e];exact True.intro) hs he (mX_ hl hd (rel.put k rv) dd')
 subst ey eH;cases (show u=Value.ref b from ry);obtain ⟨z,hd,xs,rel,dd⟩:=pE_ I.hok e;have hz:xs.length<=sizeLine:=by rw [<- Paired.length rel];exact z
 have hl:(putK kvs k v).length<=sizeLine:=by have:=eL_ kvs k v;omega
 refine wpAny_setItem_heap (hsz:=hz) (tupleKind_room_in1 hu) (ky_ I.hok eb) dd fun h' dd' hs=>h _ ?_;refine x_30 dd' fun q es ep zy=>x_05 zy fun hq h2 h3 h4 _ h5=>?_;refine k3_ I (by rw [e];exact True.intro) hs ⟨q,hq⟩ ⟨hl,hd,_,(rel.put k eb rv).keeps fun c ys ec=>?_,q,es,ep,hq,h2,h3,h4,h5⟩;rw [am_ (be_ ec e (fun z=>nomatch z))];exact ec
end
section
variable {X:Cx}{pins:zP}{σ:St}{H:Hp}{s:Shared}{a:Addr}{kvs:List (Key×V)}{k:Key}{u:Value}{A:Around}{E:zQ}
end
def NoSl (i:Expr):Prop:=∀ ov iv,subscripted i false ov iv=operate [ov,iv] (getItem ov iv)
theorem nf_ {prog:Program}{w:World}{A:Around}{E:zQ}{s:Shared}{env:Env}{value slice:Expr}{pos:Pos}{T id:String}{Q:zQ}
  (hl:typeLookup (.type T) "__getitem__"=pure (some (.builtin id))) (hs:NoSl slice)
  (h:wpAny (model prog w) A (eval value env) (fun o s₁=>wpAny (model prog w) A (eval slice env) (fun i s₂=>s₂.TypeIs o T/\wpAny (model prog w) A (getItem o i) Q E s₂) E s₁) E s) :
  wpAny (model prog w) A (eval (.Subscript value slice pos) env) Q E s:=by
 refine Subscript_ (wpAny_mono h (fun o s₁ h₁=>wpAny_mono h₁ (fun i s₂ h₂=>?_) fun _ _ x=>x) fun _ _ x=>x);obtain ⟨hT,h₂⟩:=h₂;unfold subscriptTail;refine wpAny_bind ?_;rw [getitemInPython_of_ne hT.not_modules];refine wpAny_bind (wpAny_specialOf hT hl ?_);have fin:wpAny (model prog w) A (subscripted slice false o i) (fun r s₃=>wpAny (model prog w) A (letTemporaryGo value o r >>= fun _=>pure r) Q E s₃) E s₂:=by
  rw [hs o i];exact wpAny_operating (wpAny_mono h₂ (fun r s₃ h₃=>wpAny_bind (wpAny_letTemporaryGo (wpAny_pure h₃))) fun _ _ x=>x)
 first
  | exact wpAny_pure (wpAny_bind fin)
  | exact wpAny_bind (wpAny_pure (wpAny_bind fin))
  | exact wpAny_bind fin
def nq_ (td ty tv:TE):TS:=fun D σ H=>tv σ H fun v H1=>td σ H1 fun x H2=>ty σ H2 fun y H3=>∃ a H4,x = .ref a/\DPut H3 a y v H4/\D.nx σ H4
section
variable {X:Cx}{o i e value:Expr}{pos pos' tpos:Pos}{td ty tv:TE}
theorem j7_ (hu:X.A.units+1<cLine) (ho:PE X o td) (hi:PE X i ty) (hv:PE X value tv) (hs:swapsWith value (some (.Subscript o i pos')) pos.line X.env=pure false) :
  PS X (.Assign [.Subscript o i pos'] value pos) (nq_ td ty tv):=by
 intro pins s σ H D I h;refine wpAny_Assign_Subscript (thn (hv pins s σ H _ I h) fun r s1 ⟨v,H1,I1,rv,q1⟩=>thn (ho pins s1 σ H1 _ I1 q1) fun u s2 ⟨x,H2,I2,rx,q2⟩=>thn (hi pins s2 σ H2 _ I2 q2) fun iv s3 zq=>?_) hs;refine x_22 zq fun y H3 I3 ry zz0=>?_;refine x_22 zz0 fun a H4 ex g q3=>?_;subst ex;obtain rfl:u=Value.ref a:=rx;exact k4_ hu I3 g ry rv fun s4 I4=>⟨σ,H4,I4,q3⟩
end
theorem mk_ {P:Program}{w:World}{H:Hp} (h:Heap) (hb:sysModules<h.objs.size):a1_ P w H (h.push { cls := .type "dict",data := .dict #[] }) h.objs.size (.dK []) :=
 ⟨zero_le _,beq_eq_false_iff_ne.mpr (Ne.symm (Nat.ne_of_lt hb)),[],.nil,Heap.DictOf.new h⟩
def jG_:TE:=fun _ H Q=>∀ p,H p=none->Q (.ref p) (upd H p (.dK []))
section
variable {X:Cx}{pos:Pos}
theorem ii_:PE X (.Dict [] [] pos) jG_:=fun pins s σ H Q I h =>
 wpAny_Dict_empty ⟨.ref s.heap.objs.size,_,I.laid (a:=s.heap.objs.size) (o := .dK []) (t':=s.toks) (fun _ _ q=>get?_push_of_some _ q) (Nat.le_refl _) (mk_ s.heap I.big),rfl,h _ (I.hok.fresh (Nat.le_refl _))⟩
end
structure M2 (X:Cx) (o:Expr) (m:Str) (apos:Pos) (e f:Expr) (cpos:Pos):Prop where
 base:attributeBase o m X.env (eval o X.env)=eval o X.env
 few:((backTo cpos (starEach [e,f] X.env)).all (fun x => !x.1) && (backToKw cpos (keywordEach [] X.env)).all (fun x=>x.1.isSome)
  && decide (([e,f]:List Expr).length+([]:List Keyword).length+(if ([]:List Keyword).isEmpty then 0 else 1)<30))=true
 line:(apos.endLine == cpos.line)=true
 trees:backTo cpos (starEach [e,f] X.env)=[(false,eval e X.env),(false,eval f X.env)]
def IsD (H:Hp) (a:Addr):Prop:=(∃ kvs,Rd H a (.dK kvs))\/∃ kvs,Rd H a (.dT kvs)
theorem o5_ {X:Cx}{pins:zP}{σ:St}{H:Hp}{s:Shared}{a:Addr} (I:Inv X pins σ H s) (d:IsD H a) :
  s.TypeIs (.ref a) "dict"/\(∀ b,Value.ref a = .ref b->∃ ob,s.heap.get? b=some ob/\ob.dict=none)/\(a == sysModules)=false:=by
 rcases d with ⟨kvs,e⟩ | ⟨kvs,e⟩
 ·refine x_02 (mj_ I.hok e) fun _ hd zz0=>?_
  refine x_11 zz0 fun vs _ dd=>?_;refine ⟨dd.typeIs,fun b q=>?_,hd⟩;cases q;refine x_32 dd fun ob _ _ h1 h2 _=>?_;exact ⟨ob,h1,h2.2.1⟩
 refine x_02 (n4_ I.hok e) fun _ hd zz0=>?_;refine x_11 zz0 fun xs _ dd=>?_;refine ⟨dd.typeIs,fun b q=>?_,hd⟩;cases q;refine x_32 dd fun ob _ _ h1 h2 _=>?_;exact ⟨ob,h1,h2.2.1⟩
section
variable {X:Cx}{pins:zP}{σ:St}{H:Hp}{s:Shared}{a:Addr}{y d:V}{u r:Value}{o:Option V}{A:Around}{E:zQ}
theorem pj_ {Q:zQ} (hu:A.units+1<cLine) (I:Inv X pins σ H s) (g:DGet H a y o) (ry:RelV y u) (rd:RelV d r) (h : ∀ w' s',Inv X pins σ H s'->RelV (o.getD d) w'->Q w' s') :
  wpAny (model X.prog X.w) A (call (.builtin "dict.get") [.ref a,u,r]) Q E s:=by
 rcases g with ⟨kvs,k,e,ey,l⟩ | ⟨kvs,k,b,e,ey,eb,l⟩
 ·subst ey
  refine x_02 (mj_ I.hok e) fun z hd zz0=>?_;refine x_11 zz0 fun vs rel dd=>?_;refine call_meetsIn slot_dict_get dd.typeIs PySem.F.entry_dict_get (PySem.F.args_dict_get_3 _ _ _) (meets_dict_get_default (aM_ X.prog X.w) a (i3_ ry) hd r) ⟨_,dd.mapOf,h _ _ (I.tok _) ?_⟩;rw [l];exact (rel.val k).getD rd
 subst ey;cases (show u=Value.ref b from ry);refine x_02 (n4_ I.hok e) fun z hd zz0=>?_;refine x_11 zz0 fun xs rel dd=>?_;refine call_meetsIn slot_dict_get dd.typeIs PySem.F.entry_dict_get (PySem.F.args_dict_get_3 _ _ _) (meetsH_dict_get_default (tupleKind (aM_ X.prog X.w)) a b hd r) ⟨tupleKind_room_in1 hu,k,xs,ky_ I.hok eb,dd,h _ _ (I.tok _) ?_⟩;rw [l];exact (rel.val k).getD rd
end
def my_ (td ty tx:TE):TE:=fun σ H Q=>td σ H fun x H1=>∃ a,x = .ref a/\IsD H1 a/\ty σ H1 fun y H2=>tx σ H2 fun z H3=>∃ o,DGet H3 a y o/\Q (o.getD z) H3
section
variable {X:Cx}{o e f:Expr}{apos cpos:Pos}{td ty tx:TE}
theorem lP_ (hu:X.A.units+1<cLine) (ho:PE X o td) (he:PE X e ty) (hf:PE X f tx) (m:M2 X o "get" apos e f cpos):PE X (.Call (.Attribute o "get" apos) [e,f] [] cpos) (my_ td ty tx):=by
 intro pins s σ H Q I h;refine wpAny_Call_method m.base m.few m.line PySem.F.plainAttrs_dict slot_dict_get PySem.F.type_dict_get (thn (ho pins s σ H _ I h) fun u s1 zq=>?_);refine x_22 zq fun x H1 I1 rx zz0=>?_;refine x_12 zz0 fun a ex d q1=>?_;subst ex;obtain rfl:u=Value.ref a:=rx;obtain ⟨t1,t2,_⟩:=o5_ I1 d;refine ⟨t1,t2,?_⟩;rw [m.trees];refine Calls.callWith_builtin rfl (Calls.evalArgs_plain (Calls.spliced_cons (thn (he pins s1 σ H1 _ I1 q1) fun iv s2 ⟨y,H2,I2,ry,q2⟩ =>
  Calls.spliced_cons (thn (hf pins s2 σ H2 _ I2 q2) fun fv s3 ⟨z,H3,I3,rz,ov,g,q3⟩=>Calls.spliced_nil ?_))))
 exact pj_ hu I3 g ry rz fun w' s4 I4 rw'=>⟨_,H3,I4,rw',q3⟩
end
section
variable {X:Cx}{pins:zP}{σ:St}{H:Hp}{s:Shared}{a:Addr}{kvs:List (Key×V)}{A:Around}{E:zQ}
theorem mm_ {Q:zQ} (I:Inv X pins σ H s) (e:Rd H a (.dK kvs)) (h : ∀ p s',H p=none->Inv X pins σ (upd H p (.dK kvs)) s'->Q (.ref p) s'):wpAny (model X.prog X.w) A (call (.type "dict") [.ref a]) Q E s:=by
 refine x_02 (mj_ I.hok e) fun z hd zz0=>?_;refine x_11 zz0 fun vs rel dd=>?_;refine kt_call_dict hd dd (by rw [<- rel.length];exact z) fun h' dd' hs=>?_;refine h _ _ (I.hok.fresh (Nat.le_refl _)) (I.laid (a:=s.heap.objs.size) (o := .dK kvs) (t':=s.toks) (fun b q hq=>?_) (Nat.le_refl _) (mX_ z (beq_eq_false_iff_ne.mpr (Ne.symm (Nat.ne_of_lt I.big))) rel dd'));exact (hs.2 b (Nat.ne_of_lt (lt_size hq))).trans (get?_push_of_some _ hq)
end
section
variable {X:Cx}{pins:zP}{σ:St}{H:Hp}{s:Shared}{a:Addr}{y:V}{u:Value}{A:Around}{E:zQ}
end
end
section
section
variable {prog:Program}{w:World}{A:Around}{E:zQ}
end
section
variable {X:Cx}
end
end
section
theorem cW_:bootBuiltins "reversed"=some (.type "reversed"):=by left
section
variable {X:Cx}{pins:zP}{σ:St}{H:Hp}{s:Shared}{h':Heap}
theorem Inv.turnedNew {t':Nat}{ch:List Addr}{T:Addr}{ob:HO} (I:Inv X pins σ H s) (k : ∀ b o,b∉ch->s.heap.get? b=some o->h'.get? b=some o) (hf : ∀ b∈ch,FpOk X pins H b) (hT:s.heap.objs.size<=T)
  (new:a1_ X.prog X.w (upd H T ob) h' T ob):Inv X pins σ (upd H T ob) { s with heap:=h',toks:=t' }:=by
 have hn:H T=none:=I.hok.fresh hT;have nit : ∀ b u,H b=some u->b∉ch:=fun b u e z=>by
  have q:=(hf b z).1;rw [q] at e;cases e
 refine I.step (g':=s.gens) (d':=s.drawn) (ch:=ch) (fun b hb=>⟨(hf b hb).2.2.2.1,(hf b hb).2.1,(hf b hb).2.2.2.2.1,(hf b hb).2.2.2.2.2⟩) (fun b o _ _ hc e _=>k b o hc e) (fun b o _ _ hc e _=>⟨o.slots,k b o hc e⟩)
  (fun b o _ e n=>?_) (fun b o hc e=>⟨o,k b o hc e⟩) (fun b xs e=>?_) (fun b o u e=>?_) (fun b ps e=>⟨#[],?_⟩) (fun m hm=>?_) (fun b u e=>?_) I.bare
 ·rw [am_ (Nat.ne_of_lt (Nat.lt_of_lt_of_le (lt_size e) hT))];exact n
 ·rw [am_ (af_ e hn)];exact e
 ·rw [am_ (af_ e hn)];exact e
 ·rw [am_ (af_ e hn),e];simp
 ·obtain ⟨o,es,ep,ho,r⟩:=hm
  exact ⟨o,es,ep,k _ o (fun z=>(hf _ z).2.1 rfl) ho,r⟩
 by_cases hb:b=T
 ·subst hb
  rw [ad_] at e;cases e;exact new
 rw [am_ hb] at e;refine (I.hok b u e).stay (fun c v hc q=>k c v ?_ q) (fun c q=>by rw [am_ (af_ q hn)];exact q) fun c xs q=>by rw [am_ (af_ q hn)];exact q
 rcases hc with z | z
 ·rw [z];exact nit b u e
 exact nit c _ z
end
section
variable {X:Cx}
theorem ifz_ {tg:Expr}{pins:zP}{σ:St}{H:Hp}{s:Shared}{R:It->Hp->Prop}{J:It}{tn:Nat->Heap->Prop}{tk:Nat} (I:Inv X pins σ H s) (o:Obj)
  (T:Turn X.prog X.w X.K tg J [s.heap.objs.size] s.heap.objs.size tn) (st:tn 0 (s.heap.push o)) (q:R J H):PIE X pins σ tg R (.ref s.heap.objs.size) { s with heap:=s.heap.push o,toks:=tk }:=by
 refine ⟨s.heap.objs.size,[s.heap.objs.size],tn,J,H,rfl,I.kept fun b ob e=>get?_push_of_some _ e,T,st,fun b hb=>?_,q⟩;have e:b=s.heap.objs.size:=by simpa using hb
 subst e;exact I.fpOk (Nat.le_refl _) (I.hok.fresh (Nat.le_refl _))
end
def RgC (i j c:Int) (n:Nat):Prop:=c≠0/\c.natAbs<1073741824/\Builtin.Range.small i j c=true/\Builtin.Range.rangeSize i j c=n
theorem RgC.neg {i j:Int} (ha : -(2 ^ 62)<=i) (ha':i<2 ^ 62) (hb : -(2 ^ 62)<=j) (hb':j<2 ^ 62):RgC i j (-1) (i - j).toNat :=
 ⟨by decide,by decide,PySem.W.small_down ha ha' hb hb',PySem.W.rangeSize_downNat i j⟩
section
variable {X:Cx}{tg:Expr}
end
def Itv (K:Frag) (a:Addr) (n:Nat):It :=
 ⟨fun i H=>i<n/\∃ (xs:List V) (x:V),SqL K H a xs/\xs[n - 1 - i]? = some x,fun i H x H'=>H'=H/\∀ xs,SqL K H a xs->xs[n - 1 - i]? = some x,fun i _=>n<=i⟩
theorem ln_ {P:Program}{w:World}{K:Frag}{tg:Expr} (a it:Addr) (n:Nat):Turn P w K tg (Itv K a n) [it] it (fun i h=>i<=n/\h.IsRevIter it a ((n:Int) - 1 - (i:Nat))) where
 mem:=by simp
 obj:=fun i h st b hb=>by
  have e:b=it:=by simpa using hb
  subst e;refine x_01 st fun _ zz0=>?_;refine x_12 zz0 fun o e c d=>?_;exact ⟨o,e,fun v z=>by rw [d] at z;cases z⟩
 keep:=fun i h h' st k=>⟨st.1,st.2.at fun o e=>k it (by simp) o e⟩
 item:=by
  intro X hP hw hK hc i pins s σ H E I hf st hg;subst hP hw hK;refine x_01 hg fun hin zz0=>?_;refine x_21 zz0 fun xs x hq hx=>?_;refine x_12 (I.list hq) fun its rv p hz=>?_;obtain ⟨u,hu,ru⟩:=rv.get hx;obtain ⟨f0,f1,f2,f3,f4,f5⟩:=hf it (by simp);obtain ⟨_,hit⟩:=st;have e1:(n:Int) - 1 - ((i:Nat):Int)=((n - 1 - i:Nat):Int):=by omega
  rw [e1] at hit;refine wpAny_pyNext_rev_item hit p.isList (x:=u) (by simpa using hu) fun h' st' sb=>?_;have e2:((n - 1 - i:Nat):Int) - 1=(n:Int) - 1 - ((i+1:Nat):Int):=by omega
  rw [e2] at st';have I1:Inv X pins σ H { s with heap:=h' }:=I.turned (t':=s.toks) (fun b o hb e=>(sb.2 b hb).trans e) f0 f1 f3 f4 f5;refine x_12 (id st') fun o e c d=>?_;exact ⟨u,rfl,kN_ (s:={ s with heap:=h' }) e c d (by decide) ⟨x,H,I1,ru,⟨rfl,fun ys hy=>by rw [I.list_inj hy hq];exact hx⟩,⟨hin,st'⟩,fun b hb=>(hf b hb).1⟩⟩
 done:=by
  intro X hP hw hK hc i pins s σ H E I hf st hg;subst hP hw hK;obtain ⟨f0,f1,f2,f3,f4,f5⟩:=hf it (by simp);obtain ⟨hin,hit⟩:=st;have hge:n<=i:=hg;have e1:(n:Int) - 1 - ((i:Nat):Int) = -1:=by omega
  rw [e1] at hit;exact wpAny_pyNext_rev_end (I.ok.hd hc) hit fun h' eb=>⟨rfl,I.turned (t':=s.toks) (fun b o hb e=>eb b o hb e) f0 f1 f3 f4 f5⟩
 self:=fun A i s Q E st h=>wpAny_pyIter_revIter st.2 h
def iRev (K:Frag) (ta:TA):TI:=fun σ H R=>ta σ H fun vs H1=>∃ (a:Addr) (xs:List V),vs=[.ref a]/\SqL K H1 a xs/\R (Itv K a xs.length) H1
section
variable {X:Cx}{tg:Expr}
theorem b9_ {e:Expr}{ta:TA}{p pos:Pos} (hg:Gl X "reversed") (hm:X.mg "reversed"=none) (ha:PA X [e] ta) (hs:starEach [e] X.env=[(false,eval e X.env)]:=by rfl):PI X tg (.Call (.Name "reversed" p) [e] [] pos) (iRev X.K ta):=by
 intro pins s σ H R I h;refine Call_ (dX_ I hg hm cW_ (PyProof.Rows.callWith_type1 (thn (ha pos pins s σ H _ I h) fun us s1 zq=>?_) hs rfl));refine x_22 zq fun vs H1 I1 r1 q1=>?_;refine x_22 q1 fun a xs e hq q=>?_;subst e;cases r1 with
 | cons r rr =>
 cases rr;cases r;refine x_12 (I1.list hq) fun its rv p' hz=>?_;have hl:=rv.length;have e1:((its.toArray.size:Nat):Int) - 1=(xs.length:Int) - 1 - ((0:Nat):Int):=by simp only [size_toArray];omega
 refine call_reversed_list p'.isList (wpAny_pyIter_revIter (l:=a) (i:=((its.toArray.size:Nat):Int) - 1) ⟨_,get?_push_size _ rfl,rfl,rfl⟩ ?_);refine ifz_ (tk:=s1.toks) I1 _ (ln_ a _ xs.length) ⟨zero_le _,?_⟩ q;rw [<- e1];exact ⟨_,get?_push_size _ rfl,rfl,rfl⟩
end
noncomputable def Its (x:Str):It:=⟨fun i _=>i<x.cps.size,fun i H v H'=>H'=H/\∃ c,x.cps[i]? = some c/\v = .str ⟨#[c]⟩,fun i _=>x.cps.size<=i⟩
theorem h2_ {P:Program}{w:World}{K:Frag}{tg:Expr} (it:Addr) (x:Str) (t:Tok) (ty:String) (hty:ty="str_ascii_iterator"\/ty="str_iterator") :
  Turn P w K tg (Its x) [it] it (fun i h=>h.IsStrIter it ty x t i) where
 mem:=by simp
 obj:=fun i h st b hb=>by
  have e:b=it:=by simpa using hb
  subst e;refine x_12 st fun o e c d=>?_;exact ⟨o,e,fun v z=>by rw [d] at z;cases z⟩
 keep:=fun i h h' st k=>let ⟨o,ho,r⟩:=st;⟨o,k it (by simp) o ho,r⟩
 item:=by
  intro X hP hw hK hc i pins s σ H E I hf st hg;subst hP hw hK;obtain ⟨f0,f1,f2,f3,f4,f5⟩:=hf it (by simp);have W:Walks X.prog X.w X.A it [it] [it] x.cps.size (SignAt x) (fun i h=>h.IsStrIter it ty x t i):=by
   rcases hty with e | e
   ·rw [e];exact Walks.strAscii (I.ok.hd hc) it x t
   rw [e];exact Walks.strWide (I.ok.hd hc) it x t
  have hno:["enumerate","zip","dict_itemiterator","dict_reverseitemiterator","odict_iterator","itertools.zip_longest","itertools.pairwise"].contains ty=false:=by
   rcases hty with e | e
   ·rw [e];decide
   rw [e];decide
  refine W.item i s _ _ hg st fun v h' tk hv st' kk=>?_;refine x_21 hv fun c u hcx zr3=>?_;subst zr3;have I1:Inv X pins σ H { s with heap:=h',toks:=tk }:=I.turned (fun b o hb e=>kk b o (by simpa using hb) e) f0 f1 f3 f4 f5;refine x_12 (id st') fun oi e cc dd=>?_;exact ⟨_,rfl,kN_ (s:={ s with heap:=h',toks:=tk }) e cc dd hno ⟨.str ⟨#[c]⟩,H,I1,⟨u,rfl⟩,⟨rfl,c,hcx,rfl⟩,st',fun b hb=>(hf b hb).1⟩⟩
 done:=by
  intro X hP hw hK hc i pins s σ H E I hf st hg;subst hP hw hK;obtain ⟨f0,f1,f2,f3,f4,f5⟩:=hf it (by simp);have hx:x.cps[i]? = none:=Array.getElem?_eq_none hg;rcases hty with e | e
  ·rw [e] at st
   exact wpAny_pyNext_ascii_end (I.ok.hd hc) st hx fun h' eb=>⟨rfl,I.turned (t':=s.toks) (fun b o hb e=>eb b o hb e) f0 f1 f3 f4 f5⟩
  rw [e] at st;exact wpAny_pyNext_wide_end (I.ok.hd hc) st hx fun h' eb=>⟨rfl,I.turned (t':=s.toks) (fun b o hb e=>eb b o hb e) f0 f1 f3 f4 f5⟩
 self:=fun A i s Q E st h=>by
  rcases hty with e | e
  ·rw [e] at st;exact wpAny_pyIter_striter_ascii st h
  rw [e] at st;exact wpAny_pyIter_striter_wide st h
def iStr (te:TE):TI:=fun σ H R=>te σ H fun v H1=>∃ x,v = .str x/\R (Its x) H1
theorem kc_ {X:Cx}{tg e:Expr}{te:TE} (he:PE X e te):PI X tg e (iStr te):=by
 intro pins s σ H R I h;refine thn (he pins s σ H _ I h) fun v s1 zq=>?_;obtain ⟨y,H1,I1,r1,x,ex,q⟩:=zq;subst ex;obtain ⟨t,rfl⟩:=r1;cases ha:x.cps.all (· < 128)
 ·exact wpAny_pyIter_wide ha (ifz_ (tk:=s1.toks) I1 _ (h2_ _ x t "str_iterator" (.inr rfl)) ⟨_,get?_push_size _ rfl,rfl,rfl⟩ q)
 exact wpAny_pyIter_ascii ha (ifz_ (tk:=s1.toks) I1 _ (h2_ _ x t "str_ascii_iterator" (.inl rfl)) ⟨_,get?_push_size _ rfl,rfl,rfl⟩ q)
section
variable {prog:Program}{w:World}{A:Around}{E:zQ}{s:Shared}
end
theorem cK_ {α β:Type}{G:α->β->Prop}{l₁:List α}{l₂:List β} (h:Paired G l₁ l₂) : ∀ {i:Nat}{a:α},l₁[i]? = some a->∃ b,l₂[i]? = some b/\G a b:=by
 induction h with
 | nil=>intro i a e;simp at e
 | @cons a b l₁ l₂ r t ih =>
 intro i a' e;cases i with
 | zero =>
  simp only [List.getElem?_cons_zero,Option.some.injEq] at e;subst e;exact ⟨b,rfl,r⟩
 | succ j =>
 simp only [List.getElem?_cons_succ] at e ⊢;exact ih e
section
variable {X:Cx}{pins:zP}{σ:St}{H:Hp}{s:Shared}{d:Addr}{o:Obj}
end
section
variable {P:Program}{w:World}{K:Frag}{tg:Expr}{d:Addr}{o:Obj}{es:Array DictEntry}{ep:Nat}
end
section
variable {X:Cx}{tg e:Expr}{td:TE}{apos cpos:Pos}
end
noncomputable def Ite (K:Frag) (a:Addr):It :=
 ⟨fun i H=>∃ (xs:List V) (x:V),SqL K H a xs/\xs[i]? = some x,fun i H v H'=>∃ T x,v = .ref T/\H T=none/\H'=upd H T (.tup [.int (i:Nat),x])/\∀ xs,SqL K H a xs->xs[i]? = some x,fun i H=>∃ xs:List V,SqL K H a xs/\xs.length<=i⟩
theorem jA_ {P:Program}{w:World}{K:Frag}{elts:List Expr}{kk:Nat}{tpos:Pos} (a e it:Addr) :
  Turn P w K (.Tuple elts kk tpos) (Ite K a) [e,it] e (fun i h=>(∃ old,IsEnum h e it ((i:Nat):Int) old)/\h.IsListIter it a i/\e≠it) where
 mem:=by simp
 obj:=fun i h st b hb=>by
  obtain ⟨⟨old,he⟩,⟨o,ho,hc,hd⟩,_⟩:=st;have e':b=e\/b=it:=by simpa using hb
  rcases e' with z | z
  ·rw [z];exact ⟨_,he,fun v q=>nomatch q⟩
  rw [z];exact ⟨o,ho,fun v q=>by rw [hd] at q;cases q⟩
 keep:=fun i h h' st k=>let ⟨⟨old,he⟩,hi,hne⟩:=st;⟨⟨old,k e (by simp) _ he⟩,hi.at fun o q=>k it (by simp) o q,hne⟩
 item:=by
  intro X hP hw hK hc i pins s σ H E I hf st hg;subst hP hw hK;obtain ⟨⟨old,he⟩,hit,hne⟩:=st;refine x_21 hg fun xs x hq hx=>?_;refine x_12 (I.list hq) fun its rv p hz=>?_;obtain ⟨u,hu,ru⟩:=rv.get hx;have hel:e<s.heap.objs.size:=lt_size he;have hil:it<s.heap.objs.size:=by obtain ⟨_,q,_⟩:=hit;exact lt_size q
  refine wpAny_pyNext_enum_item he hit p.isList (x:=u) (by simpa using hu) hne fun h' ho hit' hT hsz hk=>?_;refine ⟨_,rfl,wpAny_letOwnedTupleGo_enum (s:={ s with heap:=h',toks:=s.toks+1 }) ho fun h'' he' sb=>?_⟩;have hT2:h''.get? s.heap.objs.size=some { cls := .type "tuple",data := .seq #[.int i s.toks,u] }:=(sb.2 _ (ne_of_gt hel)).trans hT;have new:a1_ X.prog X.w (upd H s.heap.objs.size (.tup [.int (i:Nat),x])) h'' s.heap.objs.size (.tup [.int (i:Nat),x]) :=
   ⟨by show 2<=sizeLine;decide,[.int i s.toks,u],.cons ⟨_,rfl⟩ (.cons ru .nil),⟨_,hT2,rfl,_,rfl⟩⟩
  have I1:Inv X pins σ (upd H s.heap.objs.size (.tup [.int (i:Nat),x])) { s with heap:=h'',toks:=s.toks+1 } :=
   I.turnedNew (ch:=[e,it]) (fun b ob hb q=>(sb.2 b (fun z=>hb (by simp [z]))).trans (hk b ob (fun z=>hb (by simp [z])) (fun z=>hb (by simp [z])) q)) hf (Nat.le_refl _) new
  refine ⟨.ref s.heap.objs.size,_,I1,rfl,⟨_,x,rfl,I.hok.fresh (Nat.le_refl _),rfl,fun ys hy=>by rw [I.list_inj hy hq];exact hx⟩,⟨⟨u,?_⟩,hit'.at fun o q=>(sb.2 it (Ne.symm hne)).trans q,hne⟩,fun b hb=>?_⟩
  ·have e1:((i+1:Nat):Int)=(i:Int)+1:=by omega
   rw [e1];exact he'
  have hb':b<s.heap.objs.size:=by
   have e':b=e\/b=it:=by simpa using hb
   rcases e' with z | z
   ·rw [z];exact hel
   rw [z];exact hil
  rw [am_ (Nat.ne_of_lt hb')];exact (hf b hb).1
 done:=by
  intro X hP hw hK hc i pins s σ H E I hf st hg;subst hP hw hK;obtain ⟨⟨old,he⟩,hit,hne⟩:=st;obtain ⟨xs,hq,hx⟩:=hg;refine x_12 (I.list hq) fun its rv p hz=>?_;obtain ⟨f0,f1,f2,f3,f4,f5⟩:=hf it (by simp);have hl:=rv.length;exact wpAny_pyNext_enum_end (I.ok.hd hc) he hit p.isList (by simp;omega) fun h' eb=>⟨rfl,I.turned (t':=s.toks) (fun b o hb q=>eb b o hb q) f0 f1 f3 f4 f5⟩
 self:=fun A i s Q E st h=>let ⟨⟨_,he⟩,_⟩:=st;wpAny_pyIter_enum he h
def o7_ (K:Frag) (ta:TA):TI:=fun σ H R=>ta σ H fun vs H1=>∃ a xs,vs=[.ref a]/\SqL K H1 a xs/\R (Ite K a) H1
theorem ny_ {X:Cx}{e:Expr}{ta:TA}{p pos tpos:Pos}{elts:List Expr}{kk:Nat} (hg:Gl X "enumerate") (hm:X.mg "enumerate"=none) (ha:PA X [e] ta) (hs:starEach [e] X.env=[(false,eval e X.env)]:=by rfl) :
  PI X (.Tuple elts kk tpos) (.Call (.Name "enumerate" p) [e] [] pos) (o7_ X.K ta):=by
 intro pins s σ H R I h;refine Call_ (dX_ I hg hm boot_enumerate (PyProof.Rows.callWith_type1 (thn (ha pos pins s σ H _ I h) fun us s1 zq=>?_) hs rfl));refine x_22 zq fun vs H1 I1 r1 q1=>?_;refine x_22 q1 fun a xs ex hq q=>?_;subst ex;cases r1 with
 | cons r rr =>
 cases rr;cases r;refine x_12 (I1.list hq) fun its rv p' hz=>?_;refine call_enumerate_list p'.isList fun h' he hit hsz hk=>wpAny_pyIter_enum he ?_;have I2:Inv X pins σ H1 { s1 with heap:=h' }:=I1.kept (t':=s1.toks) hk;refine ⟨s1.heap.objs.size+1,[s1.heap.objs.size+1,s1.heap.objs.size],_,_,H1,rfl,I2,jA_ a (s1.heap.objs.size+1) s1.heap.objs.size,⟨⟨.none,he⟩,hit,Nat.succ_ne_self _⟩,fun b hb=>?_,q⟩;have e':b=s1.heap.objs.size+1\/b=s1.heap.objs.size:=by simpa using hb
 have hle:s1.heap.objs.size<=b:=by
  rcases e' with z | z
  ·rw [z];exact le_add_right _ _
  rw [z];exact Nat.le_refl _
 exact I1.fpOk hle (I1.hok.fresh hle)
end
end L2
section
end
section
namespace TL
open PySem PySem.Builtin PySem.Builtin.Str PySem.StrLaws
noncomputable abbrev tl (x:Str):List Nat:=x.cps.toList
theorem dp_ (x:Str):x.length=(tl x).length:=by simp [tl,Str.length]
theorem ci_ {x y:Str} (h:tl x=tl y):x=y:=Str.ext' (Array.toList_inj.mp h)
theorem cn_ (x y:Str):tl (x++y)=tl x++tl y:=by
 show (x++y).cps.toList=_;rw [Str.cps_append,Array.toList_append]
theorem oo_ (l:List Nat):tl ⟨l.toArray⟩=l:=rfl
theorem oY_ (x:Str):(⟨(tl x).toArray⟩:Str)=x:=ci_ rfl
theorem b0_ : ∀ {l m:List Str},l.map tl=m.map tl->l=m
 | [],[],_=>rfl
 | [],_::_,h=>by simp at h
 | _::_,[],h=>by simp at h
 | x::l,y::m,h=>by
  rw [map_cons,map_cons] at h;injection h with h1 h2;rw [ci_ h1,b0_ h2]
theorem hk_ (s:String):tl (ofString s)=s.toList.map Char.toNat:=PyProof.Rows.signs_ofString s
def pre (S l:List Nat):Bool:=l.take S.length == S
noncomputable def spl (S:List Nat):Nat->List Nat->List Nat->List (List Nat)
 | _,acc,[]=>[acc]
 | 0,acc,c::r=>if pre S (c::r)=true then acc::spl S (S.length - 1) [] r else spl S 0 (acc++[c]) r
 | k+1,acc,_::r=>spl S k acc r
def par (S:List Nat):List Nat->List Nat->Option (List Nat×List Nat)
 | _,[]=>none
 | acc,c::r=>if pre S (c::r)=true then some (acc,(c::r).drop S.length) else par S (acc++[c]) r
theorem cZ_ (S:List Nat) (k:Nat) (acc:List Nat):spl S k acc []=[acc]:=by cases k <;> rfl
theorem fH_ {S acc r:List Nat}{c:Nat} (h:pre S (c::r)=true):spl S 0 acc (c::r)=acc::spl S (S.length - 1) [] r:=by
 show (if pre S (c::r)=true then acc::spl S (S.length - 1) [] r else spl S 0 (acc++[c]) r)=_;rw [if_pos h]
theorem ed_ {S acc r:List Nat}{c:Nat} (h:pre S (c::r)=false):spl S 0 acc (c::r)=spl S 0 (acc++[c]) r:=by
 show (if pre S (c::r)=true then acc::spl S (S.length - 1) [] r else spl S 0 (acc++[c]) r)=_;rw [if_neg (by rw [h];exact Bool.false_ne_true)]
theorem ec_ (S:List Nat) : ∀ (k:Nat) (acc l:List Nat),spl S k acc l=spl S 0 acc (l.drop k)
 | 0,_,_=>by rw [drop_zero]
 | k+1,acc,[]=>by rw [List.drop_nil,cZ_,cZ_]
 | k+1,acc,c::r=>by
  show spl S k acc r=spl S 0 acc (r.drop k);exact ec_ S k acc r
theorem nC_ {S acc r:List Nat}{c:Nat} (h:pre S (c::r)=true):par S acc (c::r)=some (acc,(c::r).drop S.length):=by
 show (if pre S (c::r)=true then some (acc,(c::r).drop S.length) else par S (acc++[c]) r)=_;rw [if_pos h]
theorem lV_ {S acc r:List Nat}{c:Nat} (h:pre S (c::r)=false):par S acc (c::r)=par S (acc++[c]) r:=by
 show (if pre S (c::r)=true then some (acc,(c::r).drop S.length) else par S (acc++[c]) r)=_;rw [if_neg (by rw [h];exact Bool.false_ne_true)]
theorem j8_ {S:List Nat} (hS:S≠[]):pre S []=false:=by
 cases S with
 | nil=>exact absurd rfl hS
 | cons s S=>rfl
theorem hs_ {s c:Nat} (S r:List Nat) (h:c≠s):pre (s::S) (c::r)=false:=by
 cases hp:pre (s::S) (c::r) with
 | false=>rfl
 | true =>
 have e:(c::r).take (s::S).length=s::S:=eq_of_beq hp;rw [length_cons,take_succ_cons] at e;injection e with e1 e2;exact absurd e1 h
theorem ib_ (S r:List Nat):pre S (S++r)=true:=by
 show ((S++r).take S.length == S)=true;have e:(S++r).take S.length=S:=List.take_left;rw [e] <;> exact beq_self_eq_true S
theorem b2_ {L:List Nat}{a:Nat} (h:a<L.length) : ∃ c,L.drop a=c::L.drop (a+1):=⟨L[a],drop_eq_getElem_cons h⟩
theorem eB_ (S L:List Nat) : ∀ (m a:Nat) (acc:List Nat),a+m<=L.length->(∀ k,a<=k->k<a+m->pre S (L.drop k)=false) ->
  spl S 0 acc (L.drop a)=spl S 0 (acc++(L.drop a).take m) (L.drop (a+m))
 | 0,a,acc,_,_=>by rw [List.take_zero,append_nil,add_zero]
 | m+1,a,acc,h,hn=>by
  have hlt:a<L.length:=by omega
  obtain ⟨c,e⟩:=b2_ hlt;have h0:=hn a (Nat.le_refl _) (by omega);have ih:=eB_ S L m (a+1) (acc++[c]) (by omega) (fun k h1 h2=>hn k (by omega) (by omega));have e2:a+1+m=a+(m+1):=by omega
  rw [e2] at ih;rw [e] at h0;rw [e,ed_ h0,ih,take_succ_cons,append_assoc] <;> rfl
theorem fU_ (S L:List Nat) : ∀ (m a:Nat) (acc:List Nat),a+m<=L.length->(∀ k,a<=k->k<a+m->pre S (L.drop k)=false) ->
  par S acc (L.drop a)=par S (acc++(L.drop a).take m) (L.drop (a+m))
 | 0,a,acc,_,_=>by rw [List.take_zero,append_nil,add_zero]
 | m+1,a,acc,h,hn=>by
  have hlt:a<L.length:=by omega
  obtain ⟨c,e⟩:=b2_ hlt;have h0:=hn a (Nat.le_refl _) (by omega);have ih:=fU_ S L m (a+1) (acc++[c]) (by omega) (fun k h1 h2=>hn k (by omega) (by omega));have e2:a+1+m=a+(m+1):=by omega
  rw [e2] at ih;rw [e] at h0;rw [e,lV_ h0,ih,take_succ_cons,append_assoc] <;> rfl
theorem ej_ (L:List Nat) (a b:Nat):(L.drop a).drop b=L.drop (a+b):=by
 first
  | rw [drop_drop]
  | rw [drop_drop,add_comm]
theorem mB_ {S L:List Nat} (hS:S≠[]) {c:Nat}{acc:List Nat} (h:pre S (L.drop c)=true):spl S 0 acc (L.drop c)=acc::spl S 0 [] (L.drop (c+S.length)):=by
 rw [<- ej_];cases e:L.drop c with
 | nil=>rw [e,j8_ hS] at h;cases h
 | cons d r =>
 rw [e] at h;rw [fH_ h,ec_];cases S with
 | nil=>exact absurd rfl hS
 | cons s S=>rfl
theorem mP_ {S L:List Nat} (hS:S≠[]) {c:Nat}{acc:List Nat} (h:pre S (L.drop c)=true):par S acc (L.drop c)=some (acc,L.drop (c+S.length)):=by
 rw [<- ej_];cases e:L.drop c with
 | nil=>rw [e,j8_ hS] at h;cases h
 | cons d r =>
 rw [e] at h;rw [nC_ h]
theorem le_ {x y:Str} (hy:tl y≠[]) (i:Nat):At x y x.length i↔pre (tl y) ((tl x).drop i)=true:=by
 have hx:=dp_ x;have hl:=dp_ y
 constructor
 ·intro h
  have h2:=h.2;rw [subAt_eq,hl] at h2;exact h2
 intro h;have e:((tl x).drop i).take (tl y).length=tl y:=eq_of_beq h;have e1:=congrArg List.length e;rw [length_take,length_drop] at e1;have e2:0<(tl y).length:=length_pos_iff.mpr hy;refine ⟨by omega,?_⟩;rw [subAt_eq,hl];exact h
theorem l1_ {x y:Str} (hy:tl y≠[]) {i:Nat} (h : ¬ At x y x.length i):pre (tl y) ((tl x).drop i)=false:=by
 cases hp:pre (tl y) ((tl x).drop i) with
 | false=>rfl
 | true=>exact absurd ((le_ hy i).mpr hp) h
theorem len1 {y:Str} (hy:tl y≠[]):1<=y.length:=by
 have e2:0<(tl y).length:=length_pos_iff.mpr hy;rw [dp_ y];exact e2
theorem ev_ (x:Str) (i j:Nat):tl (strSub x i j)=((tl x).drop i).take (j - i):=strSub_toList x i j
theorem dg_ (x:Str) (i:Nat):tl (strSub x i x.length)=(tl x).drop i:=by
 rw [ev_,dp_ x];exact take_of_length_le (by rw [length_drop] <;> omega)
theorem gM_ {x y:Str} (hy:tl y≠[]) : ∀ (cuts:List Nat) (a f:Nat),a<=(tl x).length->ChainG x y x.length a cuts f->(∀ k,f<=k->¬ At x y x.length k) ->
  (partsFrom x y.length a cuts).map tl=spl (tl y) 0 [] ((tl x).drop a)
 | [],a,f,ha,h,hn=>by
  have e:f=a:=h;subst e;show [tl (strSub x f x.length)]=_;have run:=eB_ (tl y) (tl x) ((tl x).length - f) f [] (by omega) (fun k h1 _=>l1_ hy (hn k h1));have e2:f+((tl x).length - f)=(tl x).length:=by omega
  rw [e2,drop_length,cZ_,nil_append,take_of_length_le (by rw [length_drop] <;> omega)] at run
  rw [run,dg_]
 | c::r,a,f,ha,h,hn=>by
  refine x_03 h fun h1 h2 h3 h4=>?_;have hc:c+y.length<=x.length:=h2.1;have hx:=dp_ x;have hl:=dp_ y;have ih:=gM_ hy r (c+y.length) f (by omega) h4 hn;show tl (strSub x a c)::(partsFrom x y.length (c+y.length) r).map tl=_;have run:=eB_ (tl y) (tl x) (c - a) a [] (by omega) (fun k k1 k2=>l1_ hy (h3 k k1 (by omega)));have e2:a+(c - a)=c:=by omega
  rw [e2,nil_append,mB_ hy ((le_ hy c).mp h2)] at run;rw [run,ih,ev_,hl]
theorem gr_ (x y:Str) (hy:tl y≠[]) (hk : ¬ Builtin.Str.strKind x<Builtin.Str.strKind y):(Txt.split x y).map tl=spl (tl y) 0 [] (tl x):=by
 obtain ⟨f,g,hn⟩:=occ_tight x y (len1 hy);have key:=gM_ hy _ 0 f (zero_le _) g hn;rw [drop_zero] at key;have none_case:occurrences x y 0 x.length (x.length+1)=[]->[x].map tl=spl (tl y) 0 [] (tl x):=fun ho=>by
  rw [ho] at key;rw [<- key];show [tl x]=[tl (strSub x 0 x.length)];rw [sub_whole]
 unfold Txt.split;by_cases h1:(decide (x.length<y.length) || decide (Builtin.Str.strKind x<Builtin.Str.strKind y))=true
 ·rw [if_pos h1]
  have hlt:x.length<y.length:=by
   simp only [Bool.or_eq_true,decide_eq_true_eq] at h1;rcases h1 with h | h
   ·exact h
   exact absurd h hk
  refine none_case ?_;cases ho:occurrences x y 0 x.length (x.length+1) with
  | nil=>rfl
  | cons c r =>
  rw [ho] at g;have hc:c+y.length<=x.length:=g.2.1.1;omega
 rw [if_neg h1];by_cases h2:(occurrences x y 0 x.length (x.length+1)).isEmpty=true
 ·rw [if_pos h2]
  exact none_case (List.isEmpty_iff.mp h2)
 rw [if_neg h2,partsBetween_eq];exact key
theorem kx_ {x y:Str} (h:y.cps.all (· < 256)=true) : ¬ Builtin.Str.strKind x<Builtin.Str.strKind y:=by
 have e:Builtin.Str.strKind y=1:=by unfold PySem.Builtin.Str.strKind;rw [if_pos h]
 rw [e];unfold PySem.Builtin.Str.strKind;split
 ·omega
 split <;> omega
theorem fS_ (x y:Str) (hy:tl y≠[]) :
  Txt.partition x y=(match par (tl y) [] (tl x) with | some (a,b)=>(⟨a.toArray⟩,y,⟨b.toArray⟩) | none=>(x,Str.empty,Str.empty)):=by
 have hx:=dp_ x;have hl:=dp_ y;rcases PyProof.Rows.partition_whole x y with ⟨e,hn⟩ | ⟨i,e,hi,hn⟩
 ·have run:=fU_ (tl y) (tl x) (tl x).length 0 [] (by omega) (fun k _ _=>l1_ hy (hn k))
  rw [drop_zero,zero_add,drop_length] at run;rw [e,run] <;> rfl
 have hb:i+y.length<=x.length:=hi.1;have run:=fU_ (tl y) (tl x) i 0 [] (by omega) (fun k _ k2=>l1_ hy (hn k (by omega)));rw [drop_zero,zero_add,nil_append,mP_ hy ((le_ hy i).mp hi)] at run;rw [e,run];have e1:strSub x 0 i=⟨((tl x).take i).toArray⟩:=ci_ (by rw [ev_,drop_zero,sub_zero]);have e2:strSub x (i+y.length) x.length=⟨((tl x).drop (i+(tl y).length)).toArray⟩:=ci_ (by rw [dg_,hl]);rw [e1,e2] <;> rfl
theorem ls_ {S p rest acc:List Nat} (hS:S≠[]) (h : ∀ i,i<p.length->pre S ((p++(S++rest)).drop i)=false) :
  spl S 0 acc (p++(S++rest))=(acc++p)::spl S 0 [] rest:=by
 have run:=eB_ S (p++(S++rest)) p.length 0 acc (by rw [length_append];omega) (fun k _ k2=>h k (by omega));have ed:(p++(S++rest)).drop p.length=S++rest:=drop_left;rw [drop_zero,zero_add,List.take_left] at run;rw [run,mB_ hS (by rw [ed];exact ib_ S rest),<- ej_,ed,drop_left]
theorem lt_ {S p acc:List Nat} (h : ∀ i,i<p.length->pre S (p.drop i)=false):spl S 0 acc p=[acc++p]:=by
 have run:=eB_ S p p.length 0 acc (by omega) (fun k _ k2=>h k (by omega));rw [drop_zero,zero_add,drop_length,cZ_,take_length] at run;exact run
theorem lU_ {S p rest acc:List Nat} (hS:S≠[]) (h : ∀ i,i<p.length->pre S ((p++(S++rest)).drop i)=false) :
  par S acc (p++(S++rest))=some (acc++p,rest):=by
 have run:=fU_ S (p++(S++rest)) p.length 0 acc (by rw [length_append];omega) (fun k _ k2=>h k (by omega));have ed:(p++(S++rest)).drop p.length=S++rest:=drop_left;rw [drop_zero,zero_add,List.take_left] at run;rw [run,mP_ hS (by rw [ed];exact ib_ S rest),<- ej_,ed,drop_left]
theorem hG_ {s:Nat}{S p q:List Nat} (h:s∉p) : ∀ i,i<p.length->pre (s::S) ((p++q).drop i)=false:=fun i hi=>by
 have hlt:i<(p++q).length:=by rw [length_append];omega
 have e:(p++q).drop i=(p++q)[i]::(p++q).drop (i+1):=drop_eq_getElem_cons hlt;rw [e];refine hs_ _ _ fun z=>h ?_;have e1:(p++q)[i]=p[i]:=List.getElem_append_left hi;rw [<- z,e1];exact List.getElem_mem hi
theorem gs_ {s:Nat}{S p rest acc:List Nat} (h:s∉p):spl (s::S) 0 acc (p++(s::S++rest))=(acc++p)::spl (s::S) 0 [] rest :=
 ls_ (by simp) (hG_ h)
theorem eC_ {s:Nat}{S p acc:List Nat} (h:s∉p):spl (s::S) 0 acc p=[acc++p]:=lt_ fun i hi=>by
 have z:=hG_ (S:=S) (q:=[]) h i hi;rw [append_nil] at z;exact z
theorem kl_ {s:Nat}{S p rest acc:List Nat} (h:s∉p):par (s::S) acc (p++(s::S++rest))=some (acc++p,rest):=lU_ (by simp) (hG_ h)
def dO_ (S:List Nat):List (List Nat)->List Nat
 | []=>[]
 | [p]=>p
 | p::q::r=>p++(S++dO_ S (q::r))
theorem fE_ (y:Str) : ∀ parts:List Str,tl (Str.join y parts)=dO_ (tl y) (parts.map tl)
 | []=>rfl
 | [_]=>rfl
 | x::z::r=>by
  show tl (x++y++Str.join y (z::r))=tl x++(tl y++dO_ (tl y) ((z::r).map tl));rw [cn_,cn_,fE_ y (z::r),append_assoc]
theorem kB_ (y:Str) (parts:List Str):Txt.join y parts=Str.join y parts:=glued_eq_join y parts
theorem fT_ {y:Str}{s:Nat}{S:List Nat} (ey:tl y=s::S) {a b:Str} (h:s∉tl a):Txt.partition (a++y++b) y=(a,y,b):=by
 rw [fS_ _ y (by rw [ey];simp),cn_,cn_,append_assoc,ey,kl_ h];show ((⟨([]++tl a).toArray⟩:Str),y,(⟨(tl b).toArray⟩:Str))=_;rw [nil_append,oY_,oY_]
end TL
end
namespace L2
open PySem PySem.Spec PyProof.Rows
section
theorem gk_ : ∀ l:List (Str×Tok),Vals ((l.map (·.1)).map V.str) (strValues l)
 | [] => .nil
 | p::r => .cons ⟨p.2,rfl⟩ (gk_ r)
theorem co_ : ∀ {ys:List Str}{us:List Value},Vals (ys.map V.str) us->StrsAre us ys
 | [],_,.nil => .nil
 | y::ys,_,.cons r t=>by
  obtain ⟨k,rfl⟩:=r;exact .cons y k (co_ t)
def ef_ (ys:List Str):Hp->VK->Prop:=fun H Q=>∀ p,H p=none->Q (.ref p) (upd H p (.lst (ys.map V.str)))
section
variable {X:Cx}{pins:zP}{σ:St}{H:Hp}{s:Shared}{Q:VK}
theorem eN_ {l:List (Str×Tok)}{ys:List Str}{k:Nat} (I:Inv X pins σ H s) (e:l.map (·.1)=ys) (hz:ys.length<=sizeLine) (h:ef_ ys H Q) :
  EP X pins σ Q (.ref s.heap.objs.size) { s with toks:=k,heap:=s.heap.push { cls := .type "list",data := .seq (strValues l).toArray } }:=by
 have hp:=I.hok.fresh (Nat.le_refl _);refine ⟨.ref s.heap.objs.size,upd H s.heap.objs.size (.lst (ys.map V.str)),I.laid (fun b u q=>get?_push_of_some _ q) (Nat.le_refl _) ⟨by rw [length_map];exact hz,strValues l,_,?_,get?_push_size _ rfl⟩,rfl,h _ hp⟩;rw [<- e];exact gk_ l
theorem fh_ {x y z:Str}{t u v:Tok}{k:Nat} (I:Inv X pins σ H s) (h : ∀ p,H p=none->Q (.ref p) (upd H p (.tup [.str x,.str y,.str z]))) :
  EP X pins σ Q (.ref s.heap.objs.size) { s with toks:=k,heap:=s.heap.push { cls := .type "tuple",data := .seq [Value.str x t,.str y u,.str z v].toArray } }:=by
 have hp:=I.hok.fresh (Nat.le_refl _);exact ⟨.ref s.heap.objs.size,upd H s.heap.objs.size (.tup [.str x,.str y,.str z]),I.laid (fun b u q=>get?_push_of_some _ q) (Nat.le_refl _)
  ⟨by show 3<=sizeLine;decide,[Value.str x t,.str y u,.str z v],.cons ⟨t,rfl⟩ (.cons ⟨u,rfl⟩ (.cons ⟨v,rfl⟩ .nil)),_,get?_push_size _ rfl,rfl,_,rfl⟩,rfl,h _ hp⟩
end
section
variable {X:Cx}
theorem ir_:MtR X "str.split" (fun x xs H Q=>∃ a b,x = .str a/\xs=[.str b]/\(b.length == 0)=false/\a.length+2<=sizeLine/\ef_ (Txt.split a b) H Q):=by
 intro pins s σ H x xs v us Q I rx rs h;obtain ⟨a,b,rfl,rfl,hb,hz,h⟩:=h;obtain ⟨t,rfl⟩:=rx;cases rs with
 | cons r1 rs =>
 cases rs;obtain ⟨u,rfl⟩:=r1;have hl:(Txt.split a b).length<=sizeLine:=Nat.le_trans (PyProof.Rows.split_le a b) hz;have hn:(Builtin.Str.partsBetween a (Builtin.Str.occurrences a b 0 a.length (a.length+1)) b.length).length<=sizeLine:=by
  have e1:=StrLaws.occ_length_le a b 0 a.length (a.length+1);rw [length_partsBetween];omega
 cases h1:(decide (a.length<b.length) || decide (Builtin.Str.strKind a<Builtin.Str.strKind b))
 ·cases hf:(Builtin.Str.occurrences a b 0 a.length (a.length+1)).isEmpty
  ·refine call_meets F.slot_str_split (typeIs_str _ _ _) F.entry_str_split (F.args_str_split_2 _ _) (meets_str_split_sep a b t u h1 hb hf (by omega) hn) ?_
   show EP X pins σ Q (.ref s.heap.objs.size) { s with toks:=_,heap:=s.heap.push { cls := .type "list",data := .seq (strsFrom s.toks (Builtin.Str.partsBetween a (Builtin.Str.occurrences a b 0 a.length (a.length+1)) b.length)).toArray } };rw [strsFrom_eq];exact eN_ (ys:=Txt.split a b) I ((numbered_texts _ _).trans ((if_neg (ne_true_of_eq_false h1)).trans (if_neg (ne_true_of_eq_false hf))).symm) hl h
  refine call_meets F.slot_str_split (typeIs_str _ _ _) F.entry_str_split (F.args_str_split_2 _ _) (meets_str_split_not_found a b t u h1 hb hf) ?_;exact eN_ (l:=[(a,t)]) (ys:=Txt.split a b) (k:=s.toks) I ((if_neg (ne_true_of_eq_false h1)).trans (if_pos hf)).symm hl h
 refine call_meets F.slot_str_split (typeIs_str _ _ _) F.entry_str_split (F.args_str_split_2 _ _) (meets_str_split_cannot_occur a b t u h1) ?_;exact eN_ (l:=[(a,t)]) (ys:=Txt.split a b) (k:=s.toks) I (if_pos h1).symm hl h
theorem gR_:MtR X "str.partition" (fun x xs H Q=>∃ a b,x = .str a/\xs=[.str b]/\(b.length == 0)=false/\a.length<=sizeLine /\
  ∀ p,H p=none->Q (.ref p) (upd H p (.tup [.str (Txt.partition a b).1,.str (Txt.partition a b).2.1,.str (Txt.partition a b).2.2]))):=by
 intro pins s σ H x xs v us Q I rx rs h;obtain ⟨a,b,rfl,rfl,hb,hz,h⟩:=h;obtain ⟨t,rfl⟩:=rx;cases rs with
 | cons r1 rs =>
 cases rs;obtain ⟨u,rfl⟩:=r1;refine call_meets F.slot_str_partition (typeIs_str _ _ _) F.entry_str_partition (F.args_str_partition_2 _ _) (meets_str_partition a b t u hb hz) ?_;unfold Txt.partition at h;revert h;cases Builtin.Str.occurrences a b 0 a.length 1 with
 | nil=>intro h;exact fh_ I h
 | cons i r=>intro h;exact fh_ I h
theorem nM_:MtR X "str.join" (fun x xs H Q=>∃ a p,∃ ys:List Str,x = .str a/\xs=[.ref p]/\(SqL X.K H p (ys.map V.str)\/SqT X.K H p (ys.map V.str)) /\
  (ys.map (·.length)).sum+ys.length * a.length<=16777216/\Q (.str (Txt.join a ys)) H):=by
 intro pins s σ H x xs v us Q I rx rs h;obtain ⟨a,p,ys,rfl,rfl,hp,hz,h⟩:=h;obtain ⟨t,rfl⟩:=rx;cases rs with
 | cons r1 rs =>
 cases rs;cases r1;rcases hp with hp | hp
 ·obtain ⟨its,r,⟨o,n,ho,hc,_,hd⟩,_⟩:=I.list hp
  exact PyProof.Rows.join_list (items:=its.toArray) ⟨o,ho,hc,n,hd⟩ (by rw [List.toList_toArray];exact co_ r) hz fun t' k=>⟨.str _,H,I.tok k,⟨t',rfl⟩,h⟩
 obtain ⟨its,r,ht,_⟩:=I.tuple hp;exact PyProof.Rows.join_tuple (items:=its.toArray) ht (by rw [List.toList_toArray];exact co_ r) hz fun t' k=>⟨.str _,H,I.tok k,⟨t',rfl⟩,h⟩
theorem mt1 {id:String}{g:Str->Str->V} (rule : ∀ (a b:Str) (t u:Tok) (s:Shared) (Q:zQ),(∀ (v:Value) (k:Nat),RelV (g a b) v->Q v { s with toks:=k }) ->
  wpAny (model X.prog X.w) X.A (call (.builtin id) [.str a t,.str b u]) Q X.xe s):MtR X id (fun x xs H Q=>∃ a b,x = .str a/\xs=[.str b]/\Q (g a b) H):=by
 intro pins s σ H x xs v us Q I rx rs h;obtain ⟨a,b,rfl,rfl,h⟩:=h;obtain ⟨t,rfl⟩:=rx;cases rs with
 | cons r1 rs =>
 cases rs;obtain ⟨u,rfl⟩:=r1;exact rule a b t u s _ fun v k r=>⟨g a b,H,I.tok k,r,h⟩
theorem f0_:MtR X "str.startswith" (fun x xs H Q=>∃ a b,x = .str a/\xs=[.str b]/\Q (.bl (Txt.startswith a b)) H) :=
 mt1 (g:=fun a b => .bl (Txt.startswith a b)) fun _ _ _ _ s _ h=>PySem.SC.startswith (h _ s.toks rfl)
theorem bD_:cS_ X (.type "int") (fun xs H Q=>∃ a n,xs=[.str a]/\PySem.intText? a=some n/\a.length<=640/\Q (.int n) H):=by
 intro pins s σ H xs us Q I rs h;obtain ⟨a,n,rfl,hn,hl,h⟩:=h;cases rs with
 | cons r1 rs =>
 cases rs;obtain ⟨t,rfl⟩:=r1;exact PySem.W.KIN.call_text hn hl ⟨.int n,H,I.tok _,⟨_,rfl⟩,h⟩
end
section
variable {X:Cx}{o e:Expr}{to te:TE}
def tM0 (r:V->List V->Hp->VK->Prop) (to:TE):TE:=fun σ H Q=>to σ H fun x H1=>(∃ a,x = .str a)/\r x [] H1 Q
def tM1 (r:V->List V->Hp->VK->Prop) (to te:TE):TE:=fun σ H Q=>to σ H fun x H1=>(∃ a,x = .str a)/\te σ H1 fun y H2=>r x [y] H2 Q
theorem lM_ {id:String}{name:Str}{apos pos:Pos}{r:V->List V->Hp->VK->Prop} (slot:Slot "str" name id) (ty:typeOf (.builtin id)=pure (.type "method_descriptor")) (rule:MtR X id r) (ho:PE X o to) (he:PE X e te)
  (hs:starEach [e] X.env=[(false,eval e X.env)]:=by rfl) (hbase:attributeBase o name X.env (eval o X.env)=eval o X.env:=by rfl) (hline:(apos.endLine == pos.line)=true:=by rfl) :
  PE X (.Call (.Attribute o name apos) [e] [] pos) (tM1 r to te):=by
 intro pins s σ H Q I h;refine PySem.Call_method1 hbase hs hline (thn (ho pins s σ H _ I h) fun v s1 zq=>?_);refine x_22 zq fun x H1 I1 r1 q1=>?_;obtain ⟨⟨a,rfl⟩,q1⟩:=q1;obtain ⟨t,rfl⟩:=_root_.id r1;refine ⟨"str",_,F.plainAttrs_str,slot,ty,typeIs_str _ _ _,(fun _ e=>nomatch e),Calls.callWith_builtin rfl (Calls.evalArgs_plain (Calls.spliced_cons ?_))⟩;exact thn (he pins s1 σ H1 _ I1 q1) fun u s2 ⟨y,H2,I2,r2,q2⟩=>Calls.spliced_nil (rule pins s2 σ H2 _ [y] _ [u] Q I2 r1 (.cons r2 .nil) q2)
theorem ih_ {apos pos:Pos} (ho:PE X o to) (he:PE X e te) (hs:starEach [e] X.env=[(false,eval e X.env)]:=by rfl) (hbase:attributeBase o "split" X.env (eval o X.env)=eval o X.env:=by rfl) (hline:(apos.endLine == pos.line)=true:=by rfl) :
  PE X (.Call (.Attribute o "split" apos) [e] [] pos) (tM1 (fun x xs H Q=>∃ a b,x = .str a/\xs=[.str b]/\(b.length == 0)=false/\a.length+2<=sizeLine/\ef_ (Txt.split a b) H Q) to te) :=
 lM_ F.slot_str_split F.type_str_split ir_ ho he hs hbase hline
theorem gK_ {apos pos:Pos} (ho:PE X o to) (he:PE X e te) (hs:starEach [e] X.env=[(false,eval e X.env)]:=by rfl) (hbase:attributeBase o "partition" X.env (eval o X.env)=eval o X.env:=by rfl) (hline:(apos.endLine == pos.line)=true:=by rfl) :
  PE X (.Call (.Attribute o "partition" apos) [e] [] pos) (tM1 (fun x xs H Q=>∃ a b,x = .str a/\xs=[.str b]/\(b.length == 0)=false/\a.length<=sizeLine /\
   ∀ p,H p=none->Q (.ref p) (upd H p (.tup [.str (Txt.partition a b).1,.str (Txt.partition a b).2.1,.str (Txt.partition a b).2.2]))) to te) :=
 lM_ F.slot_str_partition F.type_str_partition gR_ ho he hs hbase hline
theorem kg_ {apos pos:Pos} (ho:PE X o to) (he:PE X e te) (hs:starEach [e] X.env=[(false,eval e X.env)]:=by rfl) (hbase:attributeBase o "join" X.env (eval o X.env)=eval o X.env:=by rfl) (hline:(apos.endLine == pos.line)=true:=by rfl) :
  PE X (.Call (.Attribute o "join" apos) [e] [] pos) (tM1 (fun x xs H Q=>∃ a p,∃ ys:List Str,x = .str a/\xs=[.ref p]/\(SqL X.K H p (ys.map V.str)\/SqT X.K H p (ys.map V.str)) /\
   (ys.map (·.length)).sum+ys.length * a.length<=16777216/\Q (.str (Txt.join a ys)) H) to te) :=
 lM_ F.slot_str_join F.type_str_join nM_ ho he hs hbase hline
end
end
section
section
variable {X:Cx}
theorem iX_:OpR X (compareOp .In) (fun x y H Q=>∃ (c:Nat) (z:Str),x = .str ⟨#[c]⟩/\y = .str z/\Q (.bl (decide (c∈z.cps.toList))) H):=by
 intro pins s σ H x y v u Q I rx ry h;refine x_22 h fun c z zr2 zr3 q=>?_;subst zr2;subst zr3;obtain ⟨t,rfl⟩:=rx;obtain ⟨t',rfl⟩:=ry;exact PyProof.Rows.in_str (aO_ I q (PySem.StrLaws.found_one z c).symm)
theorem fV_:OpR X (compareOp .NotIn) (fun x y H Q=>∃ (c:Nat) (z:Str),x = .str ⟨#[c]⟩/\y = .str z/\Q (.bl (!decide (c∈z.cps.toList))) H):=by
 intro pins s σ H x y v u Q I rx ry h;refine x_22 h fun c z zr2 zr3 q=>?_;subst zr2;subst zr3;obtain ⟨t,rfl⟩:=rx;obtain ⟨t',rfl⟩:=ry;exact PyProof.Rows.notIn_str (aO_ I q (congrArg Bool.not (PySem.StrLaws.found_one z c).symm))
end
theorem IsPart.raw {v:Value}{o:Option Int} (p:IsPart v o) : ∃ l:Option (Int×Tok),v=partValue l/\l.map (·.1)=o:=by
 cases p with
 | none=>exact ⟨none,rfl,rfl⟩
 | int i t=>exact ⟨some (i,t),rfl,rfl⟩
def la_ (n d:Nat):Option Int->Int
 | none=>(d:Int)
 | some i=>max 0 (min (if i<0 then i+(n:Int) else i) (n:Int))
theorem iG_ (n d:Nat) (o:Option Int):la_ n d o=((HT.sIx n d o:Nat):Int):=by
 cases o with
 | none=>rfl
 | some v =>
 show max (0:Int) (min (if v<0 then v+(n:Int) else v) (n:Int))=(((if v<0 then (v+(n:Int)).toNat else min v.toNat n):Nat):Int);by_cases hv:v<0
 ·simp only [if_pos hv]
  omega
 simp only [if_neg hv];omega
theorem jZ_ (a b:Option Int) (n:Nat):Builtin.Str.strSliceIndices a b 1 n=sliceRange (la_ n 0 a) (la_ n n b) 1:=by
 have h1:((1:Int) > 0)=True:=by simp
 cases a <;> cases b <;> first
  | rfl
  | (simp only [Builtin.Str.strSliceIndices,la_,h1,if_true];rfl)
  | simp [Builtin.Str.strSliceIndices,la_]
theorem sidx (a b:Option Int) (n:Nat):Builtin.Str.strSliceIndices a b 1 n=(List.range (HT.sIx n n b - HT.sIx n 0 a)).map (fun k=>HT.sIx n 0 a+k):=by
 rw [jZ_,iG_,iG_];generalize HT.sIx n 0 a=p;generalize HT.sIx n n b=q;simp only [sliceRange,show ((1:Int) > 0)=True from by simp,if_true];by_cases hlt:(p:Int)<q
 ·have e3:(((q:Int) - p+1 - 1) / 1).toNat=q - p:=by first | omega | (simp;done) | (simp;omega)
  simp only [hlt,if_true,e3];refine List.map_congr_left fun k _=>?_;omega
 have:q - p=0:=by omega
 simp [hlt,this]
noncomputable def cutS (z:Str) (lo hi:Option Int):Str :=
 ⟨((z.cps.toList.drop (HT.sIx z.length 0 lo)).take (HT.sIx z.length z.length hi - HT.sIx z.length 0 lo)).toArray⟩
theorem dj_ (z:Str) (lo hi:Option Int):PySem.StrLaws.sliceText z lo hi=cutS z lo hi:=by
 have h1:HT.sIx z.length 0 lo<=z.length:=HT.sIx_le _ _ (zero_le _) _;have h2:HT.sIx z.length z.length hi<=z.length:=HT.sIx_le _ _ (Nat.le_refl _) _;have hp:HT.sIx z.length 0 lo<=max (HT.sIx z.length 0 lo) (HT.sIx z.length z.length hi):=Nat.le_max_left _ _;have hq:max (HT.sIx z.length 0 lo) (HT.sIx z.length z.length hi)<=z.length:=Nat.max_le.mpr ⟨h1,h2⟩;have hd:max (HT.sIx z.length 0 lo) (HT.sIx z.length z.length hi) - HT.sIx z.length 0 lo=HT.sIx z.length z.length hi - HT.sIx z.length 0 lo:=by omega
 have e:Builtin.Str.strSliceIndices lo hi 1 z.length =
   Builtin.Str.strSliceIndices (some ((HT.sIx z.length 0 lo:Nat):Int)) (some ((max (HT.sIx z.length 0 lo) (HT.sIx z.length z.length hi):Nat):Int)) 1 z.length:=by
  rw [PySem.StrLaws.strSliceIndices_plain hp hq,hd,sidx]
 have e2:PySem.StrLaws.sliceText z lo hi =
   PySem.StrLaws.sliceText z (some ((HT.sIx z.length 0 lo:Nat):Int)) (some ((max (HT.sIx z.length 0 lo) (HT.sIx z.length z.length hi):Nat):Int)):=by
  unfold PySem.StrLaws.sliceText;rw [e]
 rw [e2,PySem.StrLaws.sliceText_nat z hp hq,hd];rfl
theorem hR_ (z:Str) (lo hi:Option Int):(cutS z lo hi).length<=z.length:=by
 show (((z.cps.toList.drop (HT.sIx z.length 0 lo)).take (HT.sIx z.length z.length hi - HT.sIx z.length 0 lo)).toArray).size<=z.cps.size;rw [size_toArray,length_take,length_drop,Array.length_toList];omega
def rSlS:V->Option Int->Option Int->Hp->VK->Prop:=fun x lo hi H Q=>∃ z,x = .str z/\z.length<=sizeLine/\Q (.str (cutS z lo hi)) H
theorem mE_ {X:Cx}:SlR X rSlS:=by
 intro pins s σ H x v vl vu lo hi sl Q I rx hs pl pu h;refine x_12 h fun z zr1 hz q=>?_;subst zr1;obtain ⟨t,rfl⟩:=rx;refine x_12 hs fun os hos hcs hds=>?_;obtain ⟨l,rfl,rfl⟩:=IsPart.raw pl;obtain ⟨u,rfl,rfl⟩:=IsPart.raw pu;refine ⟨"str",_,F.slot_str_getitem.lookup,typeIs_str _ _ _,?_⟩;refine wpAny_getItem_str_slice (l:=l) (u:=u) (st:=none) ⟨os,hos,hcs,hds⟩ rfl ?_;have hl:(PySem.StrLaws.sliceText z (l.map (·.1)) (u.map (·.1))).length<=sizeLine:=by
  rw [dj_];exact Nat.le_trans (hR_ z _ _) hz
 rw [<- dj_] at q;unfold PySem.StrLaws.sliceText at q hl;show Made.post (if ((1:Int) == 1 && (Builtin.Str.strSliceIndices (l.map (·.1)) (u.map (·.1)) 1 z.length).length == z.length)=true then Made.val (.str z t)
  else Made.str ⟨((Builtin.Str.strSliceIndices (l.map (·.1)) (u.map (·.1)) 1 z.length).filterMap (z.cps[·]?)).toArray⟩) (EP X pins σ Q) s
 by_cases c:((1:Int) == 1 && (Builtin.Str.strSliceIndices (l.map (·.1)) (u.map (·.1)) 1 z.length).length == z.length)=true
 ·rw [if_pos c] at q ⊢
  exact ⟨.str z,H,I,⟨t,rfl⟩,q⟩
 rw [if_neg c] at q hl ⊢;exact ⟨hl,.str _,H,I.tok _,⟨_,rfl⟩,q⟩
end
end L2
namespace Att
open PySem PySem.W PySem.Calls PyProof.Rows
section
variable {prog:Program}{w:World}{A:Around}{E:zQ}{s:Shared}{K:Frag}
end
end Att
namespace L2
open PySem PySem.Spec PyProof.Rows
section
def bF_ (s:Stmt) (j:Nat):Stmt:=match s with
 | .ClassDef _ _ _ body _ _ _ _ _ _ _=>body.getD j (.Pass ⟨0,0,0,0⟩)
 | _ => .Pass ⟨0,0,0,0⟩
def c8_ (s:Stmt):Arguments:=match s with
 | .FunctionDef _ a _ _ _ _ _ _ _ _=>a
 | _=>{ posonlyargs:=[],args:=[],vararg:=none,kwonlyargs:=[],kw_defaults:=[],kwarg:=none,defaults:=[] }
noncomputable def bV_ (s:Stmt):List Stmt:=match s with
 | .FunctionDef _ _ b _ _ _ _ _ _ _=>b
 | _=>[]
def ag_ (s:Stmt):Scope:=match s with
 | .FunctionDef _ _ _ _ _ _ sc _ _ _=>sc
 | _=>{ kind := .function,names:=[],isGenerator:=false,isCoroutine:=false }
abbrev CX0:CXT:=fun _ _ _ _ _ _=>False
abbrev E0:XK:=fun _ _ _=>False
theorem aq_ {X:Cx}:bR_ CX0 X E0:=fun _ _ _ _ _ _ _ h=>h.elim
structure Fun (K:Frag) (x qual:Str) (st:Stmt) (f:Addr) (fd:FuncData):Prop where
 ex : ∃ (oc:Value) (od:Option Addr) (kV doc pm:Value) (an:Option Addr) (cdv ct:Value) (osl:Array (Option Value)),
  fd=fnOf x qual (c8_ st) (bV_ st) (ag_ st) .none kV doc pm an cdv ct/\K.lookup f=some ⟨oc,od,.func fd,osl⟩/\codeIn K cdv qual=true
 kp:keepIn K (.ref f)=true
section
variable {P:Program}{w:World}{K:Frag}{mg:zM}{base:Heap}
theorem Fun.ok {x qual:Str}{st:Stmt}{f:Addr}{fd:FuncData}{N ps:List Str}{k:Nat}{sp:Sp} (F:Fun K x qual st f fd) (S:FnScope N ps (ag_ st))
  (hbody : ∀ (cdv:Value) (A:Around) (outer:List Env) (s:Shared) (H:Hp) (vs:List V) (Q:VK) (E:XK),Room k (A.deeper (envOfC qual (ag_ st) s.heap.objs.size f cdv))->sp vs H Q E ->
   ∃ t,PSs (cxOf CX0 P w K mg base N qual (ag_ st) f cdv A outer s H E).nox (bV_ st) t/\t { nx:=fun _ H'=>Q .non H',rt:=Q } (start N vs) H) (len : ∀ vs H Q E,sp vs H Q E->vs.length=ps.length:=by intro _ _ _ _ h;repeat first | (cases h;rfl) | (obtain ⟨rfl,_⟩:=h;rfl) | (obtain ⟨_,h⟩:=h)):FnOk P w K mg base CX0 (k+1) f fd ps sp:=by
 refine x_90 F.ex fun oc od kV doc pm an cdv ct osl zy=>x_02 zy fun zr9 lk hcd=>?_;subst zr9;refine pb_ lk hcd S len fun A outer s H vs Q E hr hsp=>?_;obtain ⟨t,h,q⟩:=hbody cdv A outer s H vs Q E hr hsp;exact ⟨t,h.nox,q⟩
theorem Fun.binds {x qual:Str}{st:Stmt}{f:Addr}{fd:FuncData}{ps:List Str} (F:Fun K x qual st f fd)
  (h : ∀ (kV doc pm:Value) (an:Option Addr) (cdv ct:Value) (us:List Value),us.length=ps.length->bindArgs (fnOf x qual (c8_ st) (bV_ st) (ag_ st) .none kV doc pm an cdv ct) ⟨us,[]⟩=pure (ps.zip us)):bb_ K fd ps []:=by
 obtain ⟨oc,od,kV,doc,pm,an,cdv,ct,osl,rfl,lk,hcd⟩:=F.ex;exact .all (h kV doc pm an cdv ct)
theorem mT_ {x qual:Str}{st:Stmt}{f:Addr}{oc:Value}{od an:Option Addr}{osl:Array (Option Value)}{kV doc pm cdv ct:Value} (l:K.lookup f=some ⟨oc,od,.func (fnOf x qual (c8_ st) (bV_ st) (ag_ st) .none kV doc pm an cdv ct),osl⟩)
  (c:codeIn K cdv qual=true) (k:keepIn K (.ref f)=true):Fun K x qual st f (fnOf x qual (c8_ st) (bV_ st) (ag_ st) .none kV doc pm an cdv ct):=⟨⟨oc,od,kV,doc,pm,an,cdv,ct,osl,rfl,l,c⟩,k⟩
end
section
variable {X:Cx}
theorem pv (i:Nat) {x:Str}{pos:Pos} (hN:X.N[i]? = some x:=by rfl) (hv:Vis X.env.scope x:=by first | exact Or.inl rfl | exact Or.inr (Or.inl rfl) | exact Or.inr (Or.inr rfl)) (hd:(x == ("__debug__":Str))=false:=by decide)
  (hcd:(x == ("__classdict__":Str))=false:=by decide):PE X (.Name x pos) (tVar i):=oP_ hN hv hd hcd
end
theorem iteF {A B:Prop} (h:B):if false=true then A else B:=by
 rw [if_neg Bool.false_ne_true];exact h
theorem iteT {A B:Prop} (h:A):if true=true then A else B:=by
 rw [if_pos rfl];exact h
theorem ite2 {c A B:Prop} [Decidable c] (h1:c->A) (h2 : ¬ c->B):if c then A else B:=by
 by_cases h:c
 ·rw [if_pos h]
  exact h1 h
 rw [if_neg h];exact h2 h
def Same (H H':Hp):Prop:=∀ b o,H b=some o->H' b=some o
theorem Same.refl (H:Hp):Same H H:=fun _ _ h=>h
theorem Same.trans {H H1 H2:Hp} (a:Same H H1) (b:Same H1 H2):Same H H2:=fun c o h=>b c o (a c o h)
theorem Same.free {H H':Hp} (e:Same H H') {l:Addr} (h:H' l=Option.none):H l=Option.none:=by
 cases q:H l with
 | none=>rfl
 | some o =>
 rw [e l o q] at h;cases h
theorem Same.seq {K:Frag}{H H':Hp}{a:Addr}{xs:List V} (e:Same H H') (h:SqL K H a xs):SqL K H' a xs:=by
 rcases h with (h | ⟨o,h⟩) | h
 ·exact .inl (.inl (e _ _ h))
 ·exact .inl (.inr ⟨o,e _ _ h⟩)
 exact .inr h
section
variable {κ:Type} [DecidableEq κ]
end
end
section
noncomputable abbrev cX_:List Value:=[.type "Exception",.type "BaseException",.type "object"]
structure XCls (K:Frag) (C f:Addr):Prop where
 obj : ∃ nm q N bs sn sub ab col dd k0 k1 k2 k3 k5,K.lookup C=some (excClassObj nm q C N bs cX_ true sn sub ab col dd k0 k1 k2 k3 k5 "Exception.__new__")
 init:PySem.W.findIn K (.ref C) "__init__"=some (some (.ref f))
 fn:isFn K (.ref f)=true
 kp:keepIn K (.ref C)=true
 ga:PySem.W.findIn K (.ref C) "__getattribute__"=some (some (.builtin "BaseException.__getattribute__"))
 gn:PySem.W.findIn K (.ref C) "__getattr__"=some none
 sa:PySem.W.findIn K (.ref C) "__setattr__"=some (some (.builtin "object.__setattr__"))
 hd:hasDictIn K C=true
theorem m4_ {K:Frag}{C f N:Addr}{nm q:Str}{bs:List Value}{sn:List Str}{sub:List Value}{ab:Bool}{col:Option Bool}{dd:Option Addr}{k0 k1 k2 k3 k5:Option Value}
  (l:K.lookup C=some (excClassObj nm q C N bs cX_ true sn sub ab col dd k0 k1 k2 k3 k5 "Exception.__new__")) (i:PySem.W.findIn K (.ref C) "__init__"=some (some (.ref f))) (n:isFn K (.ref f)=true) (k:keepIn K (.ref C)=true)
  (g:PySem.W.findIn K (.ref C) "__getattribute__"=some (some (.builtin "BaseException.__getattribute__"))) (a:PySem.W.findIn K (.ref C) "__getattr__"=some none) (s:PySem.W.findIn K (.ref C) "__setattr__"=some (some (.builtin "object.__setattr__")))
  (d:hasDictIn K C=true):XCls K C f:=⟨⟨nm,q,N,bs,sn,sub,ab,col,dd,k0,k1,k2,k3,k5,l⟩,i,n,k,g,a,s,d⟩
noncomputable abbrev oc_ (C t:Addr):Obj:={ cls := .ref C,data := .fields #[.ref t,.none,.none,.none,.bool false,.none] }
noncomputable def f3_ (h:Heap) (C:Addr) (us:List Value):Heap:=(h.push { cls := .type "tuple",data := .seq us.toArray }).push (oc_ C h.objs.size)
theorem eQ_ {h:Heap}{C:Addr}{us:List Value}{b:Addr}{o:Obj} (e:h.get? b=some o):(f3_ h C us).get? b=some o:=get?_push_of_some _ (get?_push_of_some _ e)
theorem ix_ {h:Heap}{C:Addr}{us:List Value}:(f3_ h C us).get? (h.objs.size+1)=some (oc_ C h.objs.size):=by
 unfold f3_
 heap_get
section
variable {P:Program}{w:World}{A:Around}{K:Frag}{C f:Addr}{R:Result->Shared->Prop}{s:Shared}
theorem pA_ {us:List Value} (X:K.In s.heap) (c:XCls K C f) (hl:us.length<=sizeLine)
  (go:codeAny (model P w) (A.under (.builtin "type.__call__" ⟨.ref C::us,[]⟩)) (.call (.ref f) ⟨.ref (s.heap.objs.size+1)::us,[]⟩) (PySem.W.InitBack (s.heap.objs.size+1) R) { s with heap:=f3_ s.heap C us }) :
  codeAny (model P w) A (.call (.ref C) ⟨us,[]⟩) R s:=by
 obtain ⟨hp,g,d,t,os⟩:=s;refine x_90 c.obj fun nm q N bs sn sub ab col dd zz0=>?_;refine x_50 zz0 fun k0 k1 k2 k3 k5 lk=>?_;have atC:=X _ _ lk;have B:=PySem.F.excBase_Exception;have n1:=tc_lookup;have n2:=tc_bind (.ref C);have tyC:(⟨hp,g,d,t,os⟩:Shared).TypeIs (.ref C) "type":=⟨_,atC,rfl⟩;refine codeAny_of_tree ?_;show wpAny _ _ (callAny (.ref C) _) _ _ _
 repeat (any_goals (first | assumption | (with_reducible refine wpAny_loadPart_at atC ?_) | wp_step))
 refine And.intro rfl (codeAny_call_builtin_at (Code.quiet_builtin _ (by left)) entry_typeCall (wpAny_check_type_call_sub atC ?_))
 repeat (first | (with_reducible refine wpAny_loadPart_at atC ?_) | (with_reducible refine wpAny_madeBy_exc atC ?_) | wp_step)
 refine codeAny_call_builtin_code (Code.quiet_builtin _ B.quiet) (wpAny_check_new_sub B atC (codeAny_exc_new_sub B atC ?_ hl));show wpAny _ _ _ _ _ ⟨f3_ hp C us,g,d,t,os⟩;have X':K.In (f3_ hp C us):=X.keeps fun b o e=>eQ_ e;have atC':=X' _ _ lk;have atE:(f3_ hp C us).get? (hp.objs.size+1)=some (oc_ C hp.objs.size):=ix_;have inC:(Value.ref C::cX_).contains (.ref C)=true:=by simp
 unfold isInstance
 repeat (first | (with_reducible refine wpAny_loadPart_at atE ?_) | ((with_reducible refine wpAny_isSubtype_exc atC' ?_);rw [inC]) | wp_step)
 show wpAny _ _ (typeLookup (.ref C) _) _ _ _;refine (looks_findIn X' c.init).at ?_;refine wpAny_holding (wpAny_bind ((PySem.W.bind_fn X' _ (beq_iff_eq.mp c.fn)).at ?_));refine wpAny_bind (wpAny_call (codeAny_mono go fun r s' z=>?_));rcases r with e | (_ | _ | _ | v)
 ·exact z
 ·exact z.elim
 ·exact z.elim
 ·exact z.elim
 obtain ⟨rfl,z⟩:=z;exact wpAny_pure (wpAny_pure z)
end
end
section
open PySem.W (InstAt Looks)
section
variable {P:Program}{w:World}{A:Around}{K:Frag}{C f x:Addr}{s:Shared}{ox:Obj}{od:Option Obj}{name:Str}{v:Value}
theorem mA_ {tk:Tok}{R:Result->Shared->Prop} (X:K.In s.heap) (I:InstAt s.heap x ox C od) (c:XCls K C f) (n:aC_ K C name)
  (go : ∀ b,wpAny (model P w) A.in1 (Builtin.ObjectAttr.storeInOwnDict (.ref x) (.ref C) (.str name tk) name v b)
   (fun fin s'=>match fin with | .done f=>R (.ok f) s' | .again c'=>c'.quiet=true/\codeAny (model P w) A c' R s') (fun e s'=>R (.error e) s') s) :
  codeAny (model P w) A (.call (.builtin "object.__setattr__") ⟨[.ref x,.str name tk,v],[]⟩) R s:=by
 have S:=PySem.F.store_Exception;refine x_90 c.obj fun nm q N bs sn sub ab col dd zz0=>?_;refine x_50 zz0 fun k0 k1 k2 k3 k5 lk=>?_;have hcd:clsIn K C=some { name:=nm,bases:=bs,mro := .ref C::cX_,ns:=N,qualname:=q,hasDict:=true,slotNames:=sn,subclasses:=sub,abstract:=ab,collection:=col,hasDel:=false }:=by
  unfold clsIn;rw [lk]
 have isO:Looks (model P w) s.heap (isInstance (.ref x) (.type "object")) true:=I.type.andThen (PySem.W.looks_mroIn X (by unfold mroIn;rw [hcd,Option.bind_some];rfl));have mro:Looks (model P w) s.heap (mroOf (.ref C)) (.ref C::cX_):=(looks_clsIn X hcd).andThen .now;refine codeAny_call_builtin S.slot.plain S.entry (@PySem.W.check_slot (model P w) _ _ s "object.__setattr__" "object" "__setattr__" (.ref x) [.str name tk,v] [] _ S.kind S.split isO (S.args (.ref x) (.str name tk) v) ?_);rw [PySem.W.osa_eq,refuse_eq];refine wpAny_bind (wpAny_bind (I.type.here (wpAny_bind (mro.here ?_))));rw [refuseLoop_ref,S.passes];refine wpAny_pure (wpAny_bind (I.type.here (wpAny_bind ((looks_findIn X n).here (wpAny_bind (wpAny_pure ?_))))));exact go _
end
def XNew (C p:Addr) (d:Option Addr):HO := .ext fun h=>∃ t,h.get? p=some { cls := .ref C,dict:=d,data := .fields #[.ref t,.none,.none,.none,.bool false,.none] }
def XDic (p:Addr) (fs:List (Str×V)):HO := .ext fun h=>fs.length<=1000/\∃ mA,h.Ns1 p mA/\(∀ f,RelO (fs.lookup f) (mA f))/\PySem.Within mA (fs.map (·.1))
theorem h1_ {H:Hp}{a b:Addr}{o u:HO} (h:a≠b):upd (upd H a o) b u=upd (upd H b u) a o:=by
 funext c
 unfold upd;by_cases h1:c=a
 ·rw [if_pos h1,if_neg (fun q=>h (h1.symm.trans q)),if_pos h1]
 rw [if_neg h1,if_neg h1]
theorem m3_ {P:Program}{w:World}{H:Hp}{h:Heap}{p:Addr}{fs:List (Str×V)}{mA:zM} (l:fs.length<=1000) (n:h.Ns1 p mA) (r : ∀ f,RelO (fs.lookup f) (mA f)) (k:PySem.Within mA (fs.map (·.1))):a1_ P w H h p (XDic p fs):=by
 obtain ⟨o,es,ep,ho,c⟩:=n;exact ⟨⟨l,mA,⟨o,es,ep,ho,c⟩,r,k⟩,⟨o,ho⟩,fun h1 h2 ⟨l,mA,⟨o,es,ep,ho,c⟩,r⟩ kp=>⟨l,mA,⟨o,es,ep,kp o ho,c⟩,r⟩⟩
theorem oj_ {P:Program}{w:World}{H:Hp}{h:Heap}{C p t:Addr}{d:Option Addr} (e:h.get? p=some { cls := .ref C,dict:=d,data := .fields #[.ref t,.none,.none,.none,.bool false,.none] }):a1_ P w H h p (XNew C p d) :=
 ⟨⟨t,e⟩,⟨_,e⟩,fun h1 h2 ⟨t,e⟩ kp=>⟨t,kp _ e⟩⟩
section
variable {X:Cx}{pins:zP}{σ:St}{H:Hp}{s:Shared}{a C f₀ dx:Addr}{fs:List (Str×V)}{f:Str}{y:V}{u:Value}{A:Around}{E:zQ}{Q:Unit->Shared->Prop}
theorem j3_ (I:Inv X pins σ H s) (e:H a=some (XNew C a none)) (c:XCls X.K C f₀) (n:aC_ X.K C f) (ry:RelV y u)
  (h : ∀ dx s',H dx=none->dx≠a->Inv X pins σ (upd (upd H dx (XDic dx [(f,y)])) a (XNew C a (some dx))) s'->Q () s'):wpAny (model X.prog X.w) A (setAttr (.ref a) f u) Q E s:=by
 obtain ⟨⟨t,ha⟩,_,_⟩:=(show a1_ X.prog X.w H s.heap a (XNew C a none) from I.hok a _ e);have J:InstAt s.heap a _ C none:=⟨ha,rfl,rfl,trivial⟩;obtain ⟨nm,q,N,bs,sn,sub,ab,col,dd,k0,k1,k2,k3,k5,lk⟩:=c.obj;have hcd:clsIn X.K C=some { name:=nm,bases:=bs,mro := .ref C::cX_,ns:=N,qualname:=q,hasDict:=true,slotNames:=sn,subclasses:=sub,abstract:=ab,collection:=col,hasDel:=false }:=by
  unfold clsIn;rw [lk]
 refine PySem.W.set_plain I.kIn J c.sa (mA_ (s:={ s with toks:=s.toks+1 }) I.kIn J c n fun b=>?_);refine wpAny_bind (wpAny_pure (wpAny_bind (wpAny_bind (wpAny_loadPart ha (wpAny_bind (PySem.W.Looks.here (s:={ s with toks:=s.toks+1 }) (looks_clsIn I.kIn hcd) ?_))))));rw [if_neg (by exact Bool.false_ne_true)];dsimp only;rw [if_neg (by exact Bool.false_ne_true)];have hlt:=lt_size ha;have nda:s.heap.objs.size≠a:=ne_of_gt hlt;have ha1:=get?_push_of_some emptyDict ha;have fr:H s.heap.objs.size=none:=I.hok.fresh (Nat.le_refl _);refine wpAny_bind (wpAny_alloc (wpAny_bind (wpAny_update ha1 (wpAny_pure (a:=some s.heap.objs.size) ?_))));have hd2:((s.heap.push emptyDict).update a fun o=>{ cls:=o.cls,dict:=some s.heap.objs.size,data:=o.data,slots:=o.slots }).get? s.heap.objs.size=some emptyDict :=
  (Heap.get?_update_ne _ _ _ _ nda).trans (get?_push_size s.heap rfl)
 have ha2:=get?_update_self (fun o=>{ cls:=o.cls,dict:=some s.heap.objs.size,data:=o.data,slots:=o.slots }) ha1 rfl;have hnd:((s.heap.push emptyDict).update a fun o=>{ cls:=o.cls,dict:=some s.heap.objs.size,data:=o.data,slots:=o.slots }).Ns s.heap.objs.size (fun _=>none):=⟨_,#[],_,hd2,rfl,fun e he=>absurd he (by simp),fun _=>rfl⟩;have I1:=I.laid (a:=s.heap.objs.size) (o:=XDic s.heap.objs.size []) (h':=s.heap.push emptyDict) (t':=s.toks+1) (fun b u q=>get?_push_of_some _ q) (Nat.le_refl _)
  (m3_ (zero_le _) (Heap.Ns1.of_empty ⟨_,#[],_,get?_push_size s.heap rfl,rfl,fun e he=>absurd he (by simp),fun _=>rfl⟩) (fun _=>trivial) fun y hy=>absurd rfl hy)
 have I2:=I1.write (x:=a) (e:=a) (o:=XNew C a (some s.heap.objs.size)) (t':=s.toks+1) (by rw [am_ (Ne.symm nda),e];exact True.intro) (.inl rfl) (fun b u hb q=>(Heap.get?_update_ne _ _ _ _ hb).trans q) ⟨_,ha2⟩ (oj_ ha2);show wpAny _ _ (Builtin.ObjectAttr.storeInDict s.heap.objs.size (.str f s.toks) f u) _ _ _;unfold Builtin.ObjectAttr.storeInDict Builtin.ObjectAttr.newKeyGuard;refine wpAny_bind (wpAny_pure (wpAny_bind (wpAny_nsSet1 (Heap.Ns1.of_empty hnd) fun h' hn' hs=>?_)));refine x_32 (hn'.count (Within.cons f u Within.nil)) fun oD esD epD hoD hdD hcD=>?_;refine wpAny_bind (wpAny_lookBehind hoD (by rw [hdD];exact pastItsLine_dict (Nat.le_trans hcD (by rw [length_cons,length_nil,sizeLine_eq];omega))) ?_);refine wpAny_pure (h s.heap.objs.size _ fr nda ?_);have I3:=I2.write (x:=s.heap.objs.size) (e:=s.heap.objs.size) (o:=XDic s.heap.objs.size [(f,y)]) (t':=s.toks+1+1) (by rw [am_ nda,ad_];exact True.intro) (.inl rfl) (fun b u hb q=>(hs.2 b hb).trans q) ⟨_,hoD⟩
  (m3_ (by show 1<=1000;decide) hn' (fun g=>?_) fun g hg=>?_)
 ·rw [h1_ (Ne.symm nda),er_] at I3
  exact I3
 ·show RelO (([(f,y)]:List (Str×V)).lookup g) (if g=f then some u else none)
  by_cases q:g=f
  ·subst q
   rw [if_pos rfl,List.lookup_cons_self];exact ry
  rw [if_neg q,lookup_cons,beq_eq_false_iff_ne.mpr q];trivial
 by_cases q:g=f
 ·simp [q]
 exact absurd (by show (if g=f then some u else none)=none;rw [if_neg q]) hg
theorem j2_ (I:Inv X pins σ H s) (e:H a=some (XNew C a (some dx))) (ed:H dx=some (XDic dx fs)) (c:XCls X.K C f₀) (n:aC_ X.K C f) (hl:fs.length<1000) (ry:RelV y u)
  (h : ∀ s',Inv X pins σ (upd H dx (XDic dx (putF f y fs))) s'->Q () s'):wpAny (model X.prog X.w) A (setAttr (.ref a) f u) Q E s:=by
 obtain ⟨⟨t,ha⟩,_,_⟩:=(show a1_ X.prog X.w H s.heap a (XNew C a (some dx)) from I.hok a _ e);obtain ⟨⟨l,mA,hns,rel,wi⟩,⟨od,hod⟩,_⟩:=(show a1_ X.prog X.w H s.heap dx (XDic dx fs) from I.hok dx _ ed);have J:InstAt s.heap a _ C (some od):=⟨ha,rfl,rfl,hod⟩;obtain ⟨nm,q,N,bs,sn,sub,ab,col,dd,k0,k1,k2,k3,k5,lk⟩:=c.obj;have hcd:clsIn X.K C=some { name:=nm,bases:=bs,mro := .ref C::cX_,ns:=N,qualname:=q,hasDict:=true,slotNames:=sn,subclasses:=sub,abstract:=ab,collection:=col,hasDel:=false }:=by
  unfold clsIn;rw [lk]
 refine PySem.W.set_plain I.kIn J c.sa (mA_ (s:={ s with toks:=s.toks+1 }) I.kIn J c n fun b=>?_);refine wpAny_bind (wpAny_pure (wpAny_bind (wpAny_bind (wpAny_loadPart ha (wpAny_bind (PySem.W.Looks.here (s:={ s with toks:=s.toks+1 }) (looks_clsIn I.kIn hcd) ?_))))));rw [if_neg (by exact Bool.false_ne_true)];refine wpAny_pure (a:=some dx) ?_;show wpAny _ _ (Builtin.ObjectAttr.storeInDict dx (.str f s.toks) f u) _ _ _;unfold Builtin.ObjectAttr.storeInDict Builtin.ObjectAttr.newKeyGuard;refine wpAny_bind (wpAny_pure (wpAny_bind (wpAny_nsSet1 (s:={ s with toks:=s.toks+1 }) hns fun h' hn' hs=>?_)));refine x_32 (hn'.count (PySem.Within.cons f u wi)) fun oD esD epD hoD hdD hcD=>?_;refine wpAny_bind (wpAny_lookBehind hoD (by rw [hdD];exact pastItsLine_dict (Nat.le_trans hcD (by rw [length_cons,length_map,sizeLine_eq];omega))) ?_);refine wpAny_pure (h _ ?_);refine I.write (x:=dx) (e:=dx) (t':=s.toks+1+1) (by rw [ed];exact True.intro) (.inl rfl) (fun b u hb q=>(hs.2 b hb).trans q) ⟨_,hoD⟩ (m3_ (by have:=cb_ f y fs;omega) hn' (fun g=>?_) fun g hg=>?_)
 ·show RelO ((putF f y fs).lookup g) (if g=f then some u else mA g)
  rw [c3_];by_cases q:g=f
  ·rw [if_pos q,if_pos q]
   exact ry
  rw [if_neg q,if_neg q];exact rel g
 by_cases q:g=f
 ·rw [q]
  exact (ct_ f y fs).1
 refine (ct_ f y fs).2 g (wi g fun z=>hg ?_);show (if g=f then some u else mA g)=none;rw [if_neg q];exact z
end
end
section
open PySem.W (InstAt Looks)
def XGot (C p d:Addr):HO := .ext fun h=>∃ vs sl,h.get? p=some ⟨.ref C,some d,.fields vs,sl⟩
theorem pt_ {P:Program}{w:World}{H:Hp}{h:Heap}{C p d:Addr}{vs:Array Value}{sl:Array (Option Value)} (e:h.get? p=some ⟨.ref C,some d,.fields vs,sl⟩):a1_ P w H h p (XGot C p d) :=
 ⟨⟨vs,sl,e⟩,⟨_,e⟩,fun h1 h2 ⟨vs,sl,e⟩ kp=>⟨vs,sl,kp _ e⟩⟩
section
variable {X:Cx}{pins:zP}{σ:St}{H:Hp}{s:Shared}{a C f₀ dx:Addr}{fs:List (Str×V)}{f:Str}{v:V}{u:Value}{A:Around}{E:zQ}
theorem ma_ {b:Bool}{Q:zQ} (I:Inv X pins σ H s) (e:H a=some (XGot C a dx)) (ed:H dx=some (XDic dx fs)) (c:XCls X.K C f₀) (n:aC_ X.K C f) (l:fs.lookup f=some v)
  (h : ∀ u s',Inv X pins σ H s'->RelV v u->Q u s'):wpAny (model X.prog X.w) A (getAttr (.ref a) f b) Q E s:=by
 obtain ⟨⟨vs,sl,ha⟩,_,_⟩:=(show a1_ X.prog X.w H s.heap a (XGot C a dx) from I.hok a _ e);obtain ⟨⟨hlen,mA,hns,rel,wi⟩,_,_⟩:=(show a1_ X.prog X.w H s.heap dx (XDic dx fs) from I.hok dx _ ed);obtain ⟨od,hod,hlk⟩:=gT_ hns;have J:InstAt s.heap a _ C (some od):=⟨ha,rfl,rfl,hod⟩;obtain ⟨u,hu,ru⟩:=RelO.some_of (v:=v) (o:=mA f) (by rw [<- l];exact rel f);have hf:PySem.W.findObj X.K C (some od) f=some (.value u):=PySem.W.findObj_own c.hd n rfl (by rw [hlk,hu]);have K0:=I.kIn;have I1:=I.tok (s.toks+1);obtain ⟨hp,g,d,t,os⟩:=s;have L0:=J.type (M:=model X.prog X.w);have L1:=looks_findIn (M:=model X.prog X.w) K0 c.ga;have L2:=looks_findIn (M:=model X.prog X.w) K0 c.gn;unfold getAttr getAttrBy;refine wpAny_bind (wpAny_mkText (wpAny_holding (wpAny_bind (L0.at (wpAny_bind (L1.at ?_))))));dsimp only;rw [if_neg (by rw [show (Value.builtin "BaseException.__getattribute__" == Value.builtin "object.__getattribute__")=false by left,Bool.and_false];exact Bool.false_ne_true)];unfold getAttrByItsOwn hookBefore;refine wpAny_bind (L2.at ?_);have hb:callGetattribute (Value.ref a) (Value.str f t) (Value.builtin "BaseException.__getattribute__") b=boundAndCalled (Value.builtin "BaseException.__getattribute__") (.ref a) (.str f t):=by cases b <;> rfl
 rw [hb];refine wpAny_bind (wpAny_attempt (wpAny_holding ?_));unfold boundAndCalled;have G:=PySem.F.attr_Exception;rw [G.ga.bind];refine wpAny_bind (wpAny_pure (wpAny_call ?_));refine x_90 c.obj fun nm q N bs sn sub ab col dd zz0=>?_;refine x_50 zz0 fun k0 k1 k2 k3 k5 lk=>?_;have hcd:clsIn X.K C=some { name:=nm,bases:=bs,mro := .ref C::cX_,ns:=N,qualname:=q,hasDict:=true,slotNames:=sn,subclasses:=sub,abstract:=ab,collection:=col,hasDel:=false }:=by
  unfold clsIn;rw [lk]
 have isB:Looks (model X.prog X.w) hp (isInstance (.ref a) (.type "BaseException")) true:=L0.andThen (PySem.W.looks_mroIn K0 (by unfold mroIn;rw [hcd,Option.bind_some];rfl));refine codeAny_call_builtin G.ga.plain PySem.F.entry_bexc_ga (@PySem.W.check_slot (model X.prog X.w) _ _ ⟨hp,g,d,t+1,os⟩ "BaseException.__getattribute__" "BaseException" "__getattribute__" (.ref a) [.str f t] [] _ (by left) (by left) isB (PySem.F.args_bexc_ga _ _) ?_);have L3:=PySem.W.looks_find (M:=model X.prog X.w) K0 J hf;unfold Builtin.«object.__getattribute__»;refine wpAny_bind (wpAny_pure (wpAny_bind (wpAny_pure (wpAny_bind (L0.at (wpAny_bind (L3.at (wpAny_pure ?_))))))));show wpAny _ _ (handedOut u) _ _ _;rw [PySem.W.handedOut_of (g2_ ru)];exact wpAny_pure (h u _ I1 ru)
end
def mI_ (K:Frag) (ta tv:TE) (f:Str):TS:=fun D σ H=>tv σ H fun y H1=>ta σ H1 fun x H2=>∃ a C f₀,x = .ref a/\H2 a=some (XNew C a none)/\XCls K C f₀/\aC_ K C f /\
 ∀ dx,H2 dx=none->dx≠a->D.nx σ (upd (upd H2 dx (XDic dx [(f,y)])) a (XNew C a (some dx)))
def mH_ (K:Frag) (ta tv:TE) (f:Str):TS:=fun D σ H=>tv σ H fun y H1=>ta σ H1 fun x H2=>∃ a C f₀ dx fs,x = .ref a/\H2 a=some (XNew C a (some dx))/\H2 dx=some (XDic dx fs)/\XCls K C f₀/\aC_ K C f/\fs.length<1000 /\
 D.nx σ (upd H2 dx (XDic dx (putF f y fs)))
def lr_ (K:Frag) (ta:TE) (f:Str):TE:=fun σ H Q=>ta σ H fun x H1=>∃ a C f₀ dx fs v,x = .ref a/\H1 a=some (XGot C a dx)/\H1 dx=some (XDic dx fs)/\XCls K C f₀/\aC_ K C f/\fs.lookup f=some v/\Q v H1
section
variable {X:Cx}{o e value:Expr}{f:Str}{pos pos':Pos}{ta tv:TE}
theorem lI_ (ha:PE X o ta) (hv:PE X value tv) (hs:swapsWith value (some (.Attribute o f pos')) pos.line X.env=pure false):PS X (.Assign [.Attribute o f pos'] value pos) (mI_ X.K ta tv f):=by
 intro pins s σ H D I h;refine plainObj_wpAny_Assign_Attribute (thn (hv pins s σ H _ I h) fun u s1 ⟨y,H1,I1,ry,q⟩=>thn (ha pins s1 σ H1 _ I1 q) fun ov s2 zq=>?_) hs;refine x_22 zq fun x H2 I2 rx zz0=>?_;refine x_34 zz0 fun a C f₀ ex ea c n q2=>?_;subst ex;obtain rfl:ov=Value.ref a:=rx;exact j3_ I2 ea c n ry fun dx s3 h1 h2 I3=>⟨σ,_,I3,q2 dx h1 h2⟩
theorem lH_ (ha:PE X o ta) (hv:PE X value tv) (hs:swapsWith value (some (.Attribute o f pos')) pos.line X.env=pure false):PS X (.Assign [.Attribute o f pos'] value pos) (mH_ X.K ta tv f):=by
 intro pins s σ H D I h;refine plainObj_wpAny_Assign_Attribute (thn (hv pins s σ H _ I h) fun u s1 ⟨y,H1,I1,ry,q⟩=>thn (ha pins s1 σ H1 _ I1 q) fun ov s2 zq=>?_) hs;refine x_22 zq fun x H2 I2 rx zz0=>?_;refine x_50 zz0 fun a C f₀ dx fs zy=>x_06 zy fun ex ea ed c n l q2=>?_;subst ex;obtain rfl:ov=Value.ref a:=rx;exact j2_ I2 ea ed c n l ry fun s3 I3=>⟨σ,_,I3,q2⟩
theorem ki_ (he:PE X e ta) (hb:attributeBase e f X.env (eval e X.env)=eval e X.env):PE X (.Attribute e f pos) (lr_ X.K ta f):=by
 intro pins s σ H Q I h;refine ld_ hb (thn (he pins s σ H _ I h) fun u s1 zq=>?_);refine x_22 zq fun x H1 I1 rx zz0=>?_;refine x_60 zz0 fun a C f₀ dx fs v zy=>x_06 zy fun ex ea ed c n l q=>?_;subst ex;obtain rfl:u=Value.ref a:=rx;exact ma_ I1 ea ed c n l fun u' s2 I2 ru=>⟨v,H1,I2,ru,q⟩
end
noncomputable def del (H:Hp) (p:Addr):Hp:=fun b=>if b=p then none else H b
theorem ek_ {H:Hp}{p:Addr}:del H p p=none:=by
 unfold del;rw [if_pos rfl]
theorem cw_ {H:Hp}{p b:Addr} (h:b≠p):del H p b=H b:=by
 unfold del;rw [if_neg h]
section
variable {M:Model}{A:Around}{E:zQ}{s:Shared}{env:Env}{K:Frag}{C f:Addr}
theorem oJ_ {x:Sem Value}{Q:Flow->Shared->Prop} (hh:A.handled=none) (c:XCls K C f)
  (go:wpAny M A x (fun v s₁=>∃ e d t,v = .ref e/\K.In s₁.heap/\s₁.heap.get? e=some { cls := .ref C,dict:=d,data := .fields #[.ref t,.none,.none,.none,.bool false,.none] }/\E (.ref e) s₁) E s) :
  wpAny M A (raiseStmt env (some x) none) Q E s:=by
 obtain ⟨nm,q,N,bs,sn,sub,ab,col,dd,k0,k1,k2,k3,k5,lk⟩:=c.obj;have isB:(Value.ref C::cX_).contains (.type "BaseException")=true:=by rw [List.contains_cons,PySem.F.excBase_Exception.hasBase,Bool.or_true]
 unfold raiseStmt;refine wpAny_bind (wpAny_mono go (fun v s₁ z=>?_) fun _ _ z=>z);refine x_33 z fun e d t zr3 KX atE hE=>?_;subst zr3;have atC:=KX _ _ lk;obtain ⟨hp,g,dr,tk,os⟩:=s₁
 repeat (first | (with_reducible refine wpAny_loadPart_at atE ?_) | (with_reducible refine wpAny_loadPart_at atC ?_) | ((with_reducible refine wpAny_isSubtype_exc atC ?_);rw [isB]) | wp_step)
 exact wpAny_raiseNew_none hh hE
end
def cT_ (C:Addr) (sp:Sp) (t:TA) (E:XK):TS:=fun _ σ H=>t σ H fun vs H1=>vs.length<=sizeLine/\∀ a,H1 a=none ->
 sp (.ref a::vs) (upd H1 a (XNew C a none)) (fun v H2=>v = .non/\∃ dx fs,H2 a=some (XNew C a (some dx))/\H2 dx=some (XDic dx fs)/\E (.ref C) (some dx) (del H2 a)) fun _ _ _=>False
def m1_ (X:Cx) (E:XK):Prop:=∀ (pins:zP) (σ:St) (H:Hp) (s:Shared) (C a dx:Addr) (fs:List (Str×V)),Inv X pins σ H s->X.s_0.heap.objs.size<=a ->
 H a=some (XNew C a (some dx))->H dx=some (XDic dx fs)->E (.ref C) (some dx) (del H a)->X.xe (.ref a) s
theorem Inv.madeX {X:Cx}{pins:zP}{σ:St}{H:Hp}{s:Shared}{C:Addr}{us:List Value} (I:Inv X pins σ H s):Inv X pins σ (upd H (s.heap.objs.size+1) (XNew C (s.heap.objs.size+1) none)) { s with heap:=f3_ s.heap C us } :=
 I.laid (a:=s.heap.objs.size+1) (o:=XNew C (s.heap.objs.size+1) none) (t':=s.toks) (fun b u q=>eQ_ q) (le_succ _) (oj_ ix_)
section
variable {X:Cx}{k:Nat}{f C:Addr}{fd:FuncData}{ps:List Str}{sp:Sp}{E:XK}{x:Str}{p pos cpos:Pos}{e:Expr}{es:List Expr}{t:TA}
theorem runX {pins:zP}{σ:St}{H:Hp}{s:Shared}{us:List Value}{vs:List V}{Q:Addr->Hp->Prop} (c:XCls X.K C f) (F:FnOk X.prog X.w X.K X.mg X.base CX0 k f fd ps sp) (hr:Room (k+1) X.A) (hb:bb_ X.K fd ps [])
  (I:Inv X pins σ H s) (r:Vals vs us) (hl:vs.length<=sizeLine) (h : ∀ a,H a=none->sp (.ref a::vs) (upd H a (XNew C a none)) (fun v H2=>v = .non/\Q a H2) fun _ _ _=>False) :
  wpAny (model X.prog X.w) X.A (call (.ref C) us) (fun v s'=>∃ a H',v = .ref a/\X.s_0.heap.objs.size<=a/\Inv X pins σ H' s'/\Q a H') X.xe s:=by
 have hq:=h (s.heap.objs.size+1) (I.hok.fresh (le_succ _));have I2:=Inv.madeX (C:=C) (us:=us) I;have r2:Vals (V.ref (s.heap.objs.size+1)::vs) (Value.ref (s.heap.objs.size+1)::us) := .cons rfl r;have hl2:(Value.ref (s.heap.objs.size+1)::us++[]).length=ps.length:=by
  rw [append_nil,<- r2.length];exact F.len _ _ _ _ hq
 have hb2:=hb { s with heap:=f3_ s.heap C us } (Value.ref (s.heap.objs.size+1)::us) I2.kIn hl2;rw [append_nil] at hb2;refine wpAny_call (pA_ (f:=f) I.kIn c (by rw [<- r.length];exact hl) (codeAny_mono (F.run _ X.stack _ _ ⟨Value.ref (s.heap.objs.size+1)::us,[]⟩ (Value.ref (s.heap.objs.size+1)::us) _ _ _ (hr.make C us [])
  (I2.env0.make C us []) hb2 r2 hq) fun r s' hq'=>?_))
 cases r with
 | error e=>exact False.elim hq'
 | ok fl =>
 cases fl with
 | ret u =>
  refine x_23 (I2.after hq') fun v H' I3 rv ev q3=>?_;subst ev;exact ⟨rv,_,H',rfl,Nat.le_trans I.sz (le_succ _),I3,q3⟩
 | next=>exact False.elim hq'
 | brk=>exact False.elim hq'
 | cont=>exact False.elim hq'
theorem bJ_ (c:XCls X.K C f) (F:FnOk X.prog X.w X.K X.mg X.base CX0 k f fd ps sp) (hr:Room (k+1) X.A) (hg:Gl X x) (hm:X.mg x=some (.ref C)) (hb:bb_ X.K fd ps []) (hx:m1_ X E) (hc:X.calm=true)
  (ha:PA X (e::es) t) (hdb:(x == ("__debug__":Str))=false:=by decide) (he:starEach (e::es) X.env=(false,eval e X.env)::starEach es X.env:=by rfl) (hpl:(backTo cpos (starEach es X.env)).any (·.1)=false:=by rfl) :
  PS X (.Raise (some (.Call (.Name x p) (e::es) [] cpos)) none pos) (cT_ C sp t E):=by
 intro pins s σ H D I h;have key:wpAny (model X.prog X.w) X.A (eval (.Call (.Name x p) (e::es) [] cpos) X.env) (fun v s₁=>∃ e d t,v = .ref e/\X.K.In s₁.heap/\s₁.heap.get? e=some { cls := .ref C,dict:=d,data := .fields #[.ref t,.none,.none,.none,.bool false,.none] }/\X.xe (.ref e) s₁) X.xe s:=by
  refine wpAny_Call_Name_kw (dN_ I hg hm ?_ hdb);refine callWith_K (h₀:=X.base) I.ok.mod.kin c.kp (thn (ha cpos pins s σ H _ I h) fun us s1 ⟨vs,H1,I1,r,hl,q⟩=>⟨I1.kIn,?_⟩) he hpl;refine thn (runX c F hr hb I1 r hl q) fun v s2 zq=>?_;refine x_23 zq fun a H2 ev hs I2 zz0=>?_;refine x_22 zz0 fun dx fs h1 h2 h3=>?_;obtain ⟨⟨t,hat⟩,_,_⟩:=(show a1_ X.prog X.w H2 s2.heap a (XNew C a (some dx)) from I2.hok a _ h1);exact ⟨a,some dx,t,ev,I2.kIn,hat,hx pins σ H2 s2 C a dx fs I2 hs h1 h2 h3⟩
 rw [arm_exec_Raise];exact wpAny_bind (wpAny_standAt (oJ_ (I.ok.hd hc) c (wpAny_bind (wpAny_mono key (fun v s₁ z=>wpAny_bind (wpAny_standAt (wpAny_pure z))) fun _ _ z=>z))))
end
end
section
open PySem.W (InstAt Looks)
structure Noted (l:List Env) (e:Addr) (old:Option Addr) (fl:Value) (h h':Heap):Prop where
 keep : ∀ b o,b≠e->some b≠old->b∉frs l->h.get? b=some o->h'.get? b=some o
 slot : ∀ b o,b≠e->some b≠old->h.get? b=some o->∃ sl,h'.get? b=some { o with slots:=sl }
 there : ∀ b o,h.get? b=some o->∃ o',h'.get? b=some o'
 exc : ∀ oe vs,h.get? e=some oe->oe.data = .fields vs->∃ vs' T oT ts,h'.get? e=some { oe with data := .fields vs' }/\vs'[1]? = some (.ref T)/\h.objs.size<=T/\T≠e/\h'.get? T=some oT/\oT.data = .fields ts/\ts[3]? = some fl
section
variable {M:Model}{A:Around}{E:zQ}{s:Shared}
theorem gS_ {o:Obj}{vs:Array Value} (d:o.data = .fields vs) (g:Array Value->Array Value):Obj.mapFields g o={ o with data := .fields (g vs) }:=by
 obtain ⟨c,dd,dt,sl⟩:=o;dsimp only at d;subst d;rfl
theorem mV_ {base:Heap}{env:Env}{outer:List Env}{L e:Addr}{oe:Obj}{vs:Array Value}{head:Value}{nx:Bool}{Q:Unit->Shared->Prop}
  (hfr:A.frames=some (env::outer)) (hl:s.heap.FunFrames base (env::outer)) (hf:env.frame=some L) (he:s.heap.get? e=some oe) (hd:oe.data = .fields vs) (hz:1<vs.size)
  (go : ∀ h',Noted (env::outer) e none (rawInt L) s.heap h'->Q () { s with heap:=h' }) :
  wpAny M A (do let a <- frameOf env;let pl <- entryPlaceOf L nx;let b <- EntryCells.newEntry head a .none (rawInt L) .none pl;setField (.ref e) 1 b) Q E s:=by
 have nfr:e∉frs (env::outer):=fun hm=>by
  obtain ⟨_,o,ho,nf⟩:=hl.mem hm;rw [he] at ho;cases ho;exact nf vs hd
 refine wpAny_bind (wpAny_frameOf_fun hfr hl hf fun h₁ so=>wpAny_bind (wpAny_entryPlaceOf fun pl hpl=>?_));unfold EntryCells.newEntry newFields;refine wpAny_bind (wpAny_newObj_type ?_ (hpl.sizeOk5 _ _ _ _ _));have e1:h₁.get? e=some oe:=(so.2.1 e nfr).trans he;have e2:=get?_push_of_some { cls := .type "traceback",dict:=none,data := .fields ([head,.ref L,.none,rawInt L,.none]++(if pl.isEmpty then List.replicate 6 Value.none else pl)).toArray } e1;have nT:h₁.objs.size≠e:=ne_of_gt (lt_size e1);have hfd:=Obj.isFreed_of_fields (Obj.data_mapFields hd (·.setIfInBounds 1 (Value.ref h₁.objs.size)));refine wpAny_setField e2 hd hz (go _ ⟨fun b o hb _ hn q=>?_,fun b o hb _ q=>?_,fun b o q=>?_,fun oe' vs' q1 q2=>?_⟩)
 ·rw [get?_update_other _ _ (Ne.symm hb)]
  exact get?_push_of_some _ ((so.2.1 b hn).trans q)
 ·obtain ⟨sl,z⟩:=so.2.2 b o q
  exact ⟨sl,by rw [get?_update_other _ _ (Ne.symm hb)];exact get?_push_of_some _ z⟩
 ·by_cases hb:b=e
  ·subst hb
   exact ⟨_,get?_update_self _ e2 hfd⟩
  obtain ⟨sl,z⟩:=so.2.2 b o q;exact ⟨_,by rw [get?_update_other _ _ (Ne.symm hb)];exact get?_push_of_some _ z⟩
 rw [he] at q1;cases q1;rw [hd] at q2;cases q2;have atT:((h₁.push { cls := .type "traceback",dict:=none,data := .fields ([head,.ref L,.none,rawInt L,.none]++(if pl.isEmpty then List.replicate 6 Value.none else pl)).toArray }).update e (Obj.mapFields (·.setIfInBounds 1 (Value.ref h₁.objs.size)))).get? h₁.objs.size
   = some { cls := .type "traceback",dict:=none,data := .fields ([head,.ref L,.none,rawInt L,.none]++(if pl.isEmpty then List.replicate 6 Value.none else pl)).toArray }:=by
  rw [get?_update_other _ _ (Ne.symm nT)];exact get?_push_size h₁ rfl
 refine ⟨vs.setIfInBounds 1 (Value.ref h₁.objs.size),h₁.objs.size,_,([head,.ref L,.none,rawInt L,.none]++(if pl.isEmpty then List.replicate 6 Value.none else pl)).toArray,?_,by simp [hz],Nat.le_of_eq so.1.symm,nT,atT,rfl,?_⟩
 ·rw [<- gS_ hd (·.setIfInBounds 1 (Value.ref h₁.objs.size))]
  exact get?_update_self _ e2 hfd
 first | (simp;done) | (rcases hpl with rfl | ⟨_,_,_,_,_,_,_,rfl⟩ <;> simp)
def pr_ (h:Heap) (e:Addr) (vs:Array Value) (old:Option Addr):Prop :=
 (old=none/\vs[1]? = some .none)\/∃ T oT ts,old=some T/\vs[1]? = some (.ref T)/\T≠e/\h.get? T=some oT/\oT.data = .fields ts/\ts[3]? = some .none
theorem oW_ {base:Heap}{env:Env}{outer:List Env}{L e:Addr}{oe:Obj}{vs:Array Value}{old:Option Addr}{Q:Unit->Shared->Prop}
  (hfr:A.frames=some (env::outer)) (hl:s.heap.FunFrames base (env::outer)) (hf:env.frame=some L) (he:s.heap.get? e=some oe) (hd:oe.data = .fields vs) (la:pr_ s.heap e vs old)
  (go : ∀ h',Noted (env::outer) e old (rawInt L) s.heap h'->Q () { s with heap:=h' }):wpAny M A (noteFrame (.ref e) env) Q E s:=by
 unfold noteFrame;simp only [hf];rcases la with ⟨rfl,h1⟩ | ⟨T,oT,ts,rfl,h1,nTe,hT,dT,h3⟩
 ·refine wpAny_bind (wpAny_field he hd h1 ?_)
  rw [if_neg (by decide)];exact mV_ hfr hl hf he hd (Array.getElem?_eq_some_iff.mp h1).1 go
 refine wpAny_bind (wpAny_field he hd h1 ?_);rw [if_pos (show (Value.ref T != Value.none)=true by simp)];refine wpAny_bind (wpAny_field hT dT h3 ?_);rw [if_neg (show ¬ ((Value.none == rawInt L)=true) by simp [rawInt])];refine wpAny_bind (wpAny_setField hT dT (Array.getElem?_eq_some_iff.mp h3).1 ?_);have oth : ∀ b,b≠T->(s.heap.update T (Obj.mapFields (·.setIfInBounds 3 Value.none))).get? b=s.heap.get? b:=fun b hb=>get?_update_other _ _ (Ne.symm hb);have atT:=get?_update_self (Obj.mapFields (·.setIfInBounds 3 Value.none)) hT (Obj.isFreed_of_fields (Obj.data_mapFields dT _));refine mV_ (s:={ s with heap:=s.heap.update T (Obj.mapFields (·.setIfInBounds 3 Value.none)) }) hfr (hl.of_keeps fun b o hb nf=>⟨o,(oth b fun q=>?_).trans hb,rfl⟩) hf ((oth e (Ne.symm nTe)).trans he) hd (Array.getElem?_eq_some_iff.mp h1).1
  fun h' n=>go h' ⟨fun b o hb ho hn q=>n.keep b o hb (by simp) hn ((oth b fun z=>ho (by rw [z])).trans q),fun b o hb ho q=>n.slot b o hb (by simp) ((oth b fun z=>ho (by rw [z])).trans q),fun b o q=>?_,fun oe' vs' q1 q2=>?_⟩
 ·subst q
  rw [hT] at hb;cases hb;exact nf ts dT
 ·by_cases hb:b=T
  ·subst hb
   exact n.there b _ atT
  exact n.there b o ((oth b hb).trans q)
 refine x_40 (n.exc oe' vs' ((oth e (Ne.symm nTe)).trans q1) q2) fun vs2 T2 oT2 ts2 zy=>x_03 zy fun z1 z2 z3 z=>?_;exact ⟨vs2,T2,oT2,ts2,z1,z2,Nat.le_trans (Nat.le_of_eq (Heap.size_after_update ..).symm) z3,z⟩
theorem hI_ {h:Heap}{l:List Env}{e:Addr}{old:Option Addr}{fl:Value}{oe:Obj}{vs:Array Value}{Q:Unit->Shared->Prop} (he:h.get? e=some oe) (hd:oe.data = .fields vs) (n:Noted l e old fl h s.heap)
  (go : ∀ h',Noted l e old .none h h'->Q () { s with heap:=h' }):wpAny M A (setFlight (.ref e) none) Q E s:=by
 obtain ⟨vs',T,oT,ts,z1,z2,z3,z4,z5,z6,z7⟩:=n.exc oe vs he hd;have hz:3<ts.size:=(Array.getElem?_eq_some_iff.mp z7).1;unfold setFlight;refine wpAny_bind (wpAny_field z1 rfl z2 ?_);rw [if_pos (show (Value.ref T != Value.none)=true by simp)];refine wpAny_setField z5 z6 hz (go _ ?_);have oth : ∀ b,b≠T->(s.heap.update T (Obj.mapFields (·.setIfInBounds 3 ((none:Option Addr).elim Value.none fun f=>rawInt f)))).get? b=s.heap.get? b:=fun b hb=>get?_update_other _ _ (Ne.symm hb);have ne : ∀ b o,h.get? b=some o->b≠T:=fun b o q=>Nat.ne_of_lt (Nat.lt_of_lt_of_le (lt_size q) z3);refine ⟨fun b o hb ho hn q=>(oth b (ne b o q)).trans (n.keep b o hb ho hn q),fun b o hb ho q=>?_,fun b o q=>?_,fun oe' vs2 q1 q2=>?_⟩
 ·obtain ⟨sl,z⟩:=n.slot b o hb ho q
  exact ⟨sl,(oth b (ne b o q)).trans z⟩
 ·obtain ⟨o',z⟩:=n.there b o q
  exact ⟨o',(oth b (ne b o q)).trans z⟩
 rw [he] at q1;cases q1;rw [hd] at q2;cases q2;exact ⟨vs',T,_,_,(oth e (Ne.symm z4)).trans z1,z2,z3,z4,get?_update_self _ z5 (Obj.isFreed_of_fields (Obj.data_mapFields z6 _)),Obj.data_mapFields z6 _,by simp [hz]⟩
end
structure Flown (h₀ h:Heap) (H:Hp) (a C d:Addr):Prop where
 new:h₀.objs.size<=a
 free:H a=none
 at_ : ∃ vs sl T oT ts,h.get? a=some ⟨.ref C,some d,.fields vs,sl⟩/\vs[1]? = some (.ref T)/\T≠a/\h₀.objs.size<=T/\H T=none/\h.get? T=some oT/\oT.data = .fields ts/\ts[3]? = some .none
def CX1 (P:Program) (w:World):CXT:=fun outer H s E e s'=>∃ a C d fs H',e = .ref a/\s'.os=s.os/\AllBare s'.gens/\Un (frs outer) [] H H' s.heap s'.heap/\HOk P w H' s'.heap/\Flown s.heap s'.heap H' a C d /\
 H' d=some (XDic d fs)/\E (.ref C) (some d) H'
theorem HOk.noted {P:Program}{w:World}{H:Hp}{h h':Heap}{l:List Env}{a:Addr}{old:Option Addr}{fl:Value} (x:HOk P w H h) (n:Noted l a old fl h h') (ha:H a=none) (ho : ∀ T,old=some T->H T=none) (hl : ∀ b∈frs l,H b=none):HOk P w H h':=fun b o e=>by
 have k : ∀ c u,H c≠none->h.get? c=some u->h'.get? c=some u:=fun c u q z=>n.keep c u (fun r=>q (by rw [r];exact ha)) (fun r=>q (ho c r.symm)) (fun r=>q (hl c r)) z;refine (x b o e).stay (fun c u hc q=>k c u ?_ q) (fun _ q=>q) fun _ _ q=>q;rcases hc with r | r
 ·rw [r,e]
  simp
 rw [r];simp
theorem Un.noted {fs':List Addr}{H₀ H:Hp}{h₀ h h':Heap}{l:List Env}{a:Addr}{old:Option Addr}{fl:Value} (u:Un fs' [] H₀ H h₀ h) (n:Noted l a old fl h h') (ha:h₀.get? a=none) (ho : ∀ T,old=some T->h₀.get? T=none)
  (hl : ∀ b∈frs l,b∈fs'\/h₀.get? b=none):Un fs' [] H₀ H h₀ h':=by
 have na : ∀ b o,h₀.get? b=some o->b≠a:=fun b o q r=>by
  rw [r,ha] at q;cases q
 have no : ∀ b o,h₀.get? b=some o->some b≠old:=fun b o q r=>by
  rw [ho b r.symm] at q;cases q
 refine ⟨fun b o q z hb hx=>n.keep b o (na b o q) (no b o q) (fun r=>?_) (u.keep b o q z hb hx),fun b o q z hb hx=>?_,u.free,fun b o q hx=>?_,u.tups,u.frzs,u.tbls⟩
 ·rcases hl b r with r | r
  ·exact hb r
  rw [q] at r;cases r
 ·obtain ⟨sl,e⟩:=u.slot b o q z hb hx
  obtain ⟨sl',e'⟩:=n.slot b _ (na b o q) (no b o q) e;exact ⟨sl',e'⟩
 obtain ⟨o',e⟩:=u.there b o q hx;exact n.there b o' e
theorem Flown.noted {h₀ h h':Heap}{H:Hp}{P:Program}{w:World}{l:List Env}{a C d:Addr}{old:Option Addr}{vs:Array Value}{sl:Array (Option Value)} (hok:HOk P w H h) (sz:h₀.objs.size<=h.objs.size) (n:Noted l a old .none h h')
  (e:h.get? a=some ⟨.ref C,some d,.fields vs,sl⟩) (ha:h₀.objs.size<=a) (hf:H a=none):Flown h₀ h' H a C d:=by
 obtain ⟨vs',T,oT,ts,z1,z2,z3,z4,z5,z6,z7⟩:=n.exc _ vs e rfl;exact ⟨ha,hf,vs',sl,T,oT,ts,z1,z2,z4,Nat.le_trans sz z3,hok.fresh z3,z5,z6,z7⟩
end
section
open PySem.W (InstAt Looks)
theorem HOk.del {P:Program}{w:World}{H:Hp}{h:Heap}{a:Addr}{φ:Heap->Prop} (x:HOk P w H h) (e:H a=some (.ext φ)):HOk P w (del H a) h:=fun b o q=>by
 have hb:b≠a:=fun r=>by
  rw [r,ek_] at q;cases q
 rw [cw_ hb] at q;refine (x b o q).stay (fun _ _ _ z=>z) (fun c z=>?_) fun c xs z=>?_
 ·rw [cw_ (fun r=>by rw [r,e] at z;cases z)]
  exact z
 rw [cw_ (fun r=>by rw [r,e] at z;cases z)];exact z
theorem Un.del {fs ex:List Addr}{H₀ H:Hp}{h₀ h:Heap}{a:Addr}{φ:Heap->Prop} (u:Un fs ex H₀ H h₀ h) (e:H a=some (.ext φ)):Un fs ex H₀ (del H a) h₀ h:=by
 refine ⟨u.keep,u.slot,fun b o q z hx=>?_,u.there,fun b xs q=>?_,fun b o xs q=>?_,fun b ps q=>?_⟩
 ·by_cases hb:b=a
  ·rw [hb,ek_]
  rw [cw_ hb];exact u.free b o q z hx
 ·have z:=u.tups b xs q
  rw [cw_ (fun r=>by rw [r,e] at z;cases z)];exact z
 ·have z:=u.frzs b o xs q
  rw [cw_ (fun r=>by rw [r,e] at z;cases z)];exact z
 obtain ⟨m,z⟩:=u.tbls b ps q;rw [cw_ (fun r=>by rw [r,e] at z;cases z)];exact ⟨m,z⟩
theorem f5_ {H:Hp}{a b:Addr} (h:H b=none):del H a b=none:=by
 by_cases hb:b=a
 ·rw [hb,ek_]
 rw [cw_ hb];exact h
theorem Inv.del {X:Cx}{pins:zP}{σ:St}{H:Hp}{s:Shared}{a:Addr}{φ:Heap->Prop} (I:Inv X pins σ H s) (e:H a=some (.ext φ)):Inv X pins σ (L2.del H a) s :=
 ⟨I.ok,I.os,I.bare,I.base.del e,I.loc,I.cell,f5_ I.free,fun x c q=>f5_ (I.freeC x c q),fun p hp=>let ⟨h1,h2,h3⟩:=I.pin p hp;⟨h1,f5_ h2,h3⟩,I.hok.del e,I.len⟩
section
variable {P:Program}{w:World}{K:Frag}{mg:zM}{base:Heap}{N:List Str}{qual:Str}{scope:Scope}{f:Addr}{cd:Value}{A:Around}{outer:List Env}{s₀:Shared}{H₀:Hp}{E:XK}
theorem ge_ {pins:zP}{σ:St}{H:Hp}{s:Shared}{a C d:Addr}{vs:Array Value}{sl:Array (Option Value)}{old:Option Addr}{fs:List (Str×V)} (I:Inv (cxOf (CX1 P w) P w K mg base N qual scope f cd A outer s₀ H₀ E) pins σ H s)
  (ha:s₀.heap.objs.size<=a) (hat:s.heap.get? a=some ⟨.ref C,some d,.fields vs,sl⟩) (la:pr_ s.heap a vs old) (ho : ∀ T,old=some T->s₀.heap.objs.size<=T/\H T=none) (hf:H a=none) (hd:H d=some (XDic d fs)) (q:E (.ref C) (some d) H) :
  (cxOf (CX1 P w) P w K mg base N qual scope f cd A outer s₀ H₀ E).xe (.ref a) s:=by
 have b1:Un (frs outer) [] H₀ H s₀.heap s.heap:=I.base;show wpAny _ _ (leaving _ (.ref a)) _ _ s;unfold leaving;refine wpAny_bind (oW_ (s:=s) I.ok.frames I.stack rfl hat rfl la fun h1 n1=>?_);refine hI_ (s:={ s with heap:=h1 }) (h:=s.heap) hat rfl n1 fun h2 n2=>?_;refine ⟨a,C,d,fs,H,rfl,I.os,I.bare,?_,?_,?_,hd,q⟩
 ·refine b1.noted n2 (get?_none_of_le ha) (fun T z=>get?_none_of_le (ho T z).1) fun b hb=>?_
  rcases mem_cons.mp (I.stkSub b hb) with e | hb
  ·refine .inr ?_
   rw [e];exact get?_none_of_le (Nat.le_refl _)
  exact .inl hb
 ·exact I.hok.noted n2 hf (fun T z=>(ho T z).2) fun b hb=>I.stkFree b hb
 exact Flown.noted I.hok I.sz n2 hat ha hf
theorem bp_:m1_ (cxOf (CX1 P w) P w K mg base N qual scope f cd A outer s₀ H₀ E) E:=fun pins σ H s C a dx fs I hs h1 h2 q=>by
 obtain ⟨⟨t,hat⟩,_,_⟩:=(show a1_ P w H s.heap a (XNew C a (some dx)) from I.hok a _ h1);have nd:dx≠a:=fun z=>by
  obtain ⟨_,mA,⟨o,es,ep,ho,hd,_⟩,_⟩:=(show a1_ P w H s.heap dx (XDic dx fs) from I.hok dx _ h2).1;rw [z,hat] at ho;cases ho;cases hd
 exact ge_ (old:=none) (I.del h1) hs hat (.inl ⟨rfl,rfl⟩) (fun T z=>nomatch z) ek_ (by rw [cw_ nd];exact h2) q
theorem aL_:bR_ (CX1 P w) (cxOf (CX1 P w) P w K mg base N qual scope f cd A outer s₀ H₀ E) E:=fun pins σ H s e s' I z=>by
 refine x_50 z fun a C d fs H' zy=>x_07 zy fun zr5 os bare un hok zn10 hd q=>?_;subst zr5;obtain ⟨new,free,vs,sl,T,oT,ts,hat,h1,nT,nT0,fT,hT,dT,h3⟩:=zn10;have I':=I.call' (ch:=[]) os un hok bare (fun b z=>absurd z (by simp));exact ge_ (old:=some T) I' (Nat.le_trans I.sz new) hat (.inr ⟨T,oT,ts,rfl,h1,nT,hT,dT,h3⟩) (fun T' z=>by cases z;exact ⟨Nat.le_trans I.sz nT0,fT⟩) free hd q
theorem im_:PassesOwn (model P w) (cxOf (CX1 P w) P w K mg base N qual scope f cd A outer s₀ H₀ E).A (cxOf (CX1 P w) P w K mg base N qual scope f cd A outer s₀ H₀ E).env (cxOf (CX1 P w) P w K mg base N qual scope f cd A outer s₀ H₀ E).xe:=PassesOwn.leaving
theorem Fun.okX {x:Str}{st:Stmt}{fd:FuncData}{ps:List Str}{k:Nat}{sp:Sp} (F:Fun K x qual st f fd) (S:FnScope N ps (ag_ st))
  (hbody : ∀ (cdv:Value) (A:Around) (outer:List Env) (s:Shared) (H:Hp) (vs:List V) (Q:VK) (E:XK),Room k (A.deeper (envOfC qual (ag_ st) s.heap.objs.size f cdv))->sp vs H Q E ->
   ∃ t,PSs (cxOf (CX1 P w) P w K mg base N qual (ag_ st) f cdv A outer s H E) (bV_ st) t/\t { nx:=fun _ H'=>Q .non H',rt:=Q } (start N vs) H) (len : ∀ vs H Q E,sp vs H Q E->vs.length=ps.length:=by intro _ _ _ _ h;repeat first | (cases h;rfl) | (obtain ⟨rfl,_⟩:=h;rfl) | (obtain ⟨_,h⟩:=h)):FnOk P w K mg base (CX1 P w) (k+1) f fd ps sp:=by
 refine x_90 F.ex fun oc od kV doc pm an cdv ct osl zy=>x_02 zy fun zr9 lk hcd=>?_;subst zr9;exact pb_ lk hcd S len fun A outer s H vs Q E hr hsp=>hbody cdv A outer s H vs Q E hr hsp
end
end
section
open PySem.W (InstAt Looks)
abbrev Cx.pinned (X:Cx) (pn:zP) (E:zQ):Cx:={ X with pn:=pn,xe:=E }
abbrev Cx.hand (X:Cx) (a:Addr):Cx:={ X with A:=X.A.mark (some (.ref a)),calm:=false,xe:=fun _ _=>False }
section
variable {X:Cx}{pins:zP}{σ:St}{H:Hp}{s:Shared}{E:zQ}{a:Addr}
theorem Inv.pin_in (I:Inv X pins σ H s):Inv (X.pinned (X.pn++pins) E) [] σ H s :=
 ⟨⟨I.ok.mod,I.ok.kind,I.ok.glob,I.ok.blt,I.ok.above,I.ok.inj,I.ok.has,I.ok.cab,I.ok.hd,I.ok.frames,I.ok.stk,I.ok.exf,I.ok.bs,I.ok.bsz,I.ok.noex,I.ok.exfs,I.ok.funs,I.ok.frf⟩,I.os,I.bare,I.base,I.loc,I.cell,I.free,I.freeC,fun p hp=>I.pin p (by simpa using hp),I.hok,I.len⟩
theorem Inv.pin_out {pins':zP} (I:Inv (X.pinned (X.pn++pins) E) pins' σ H s):Inv X pins σ H s :=
 ⟨⟨I.ok.mod,I.ok.kind,I.ok.glob,I.ok.blt,I.ok.above,I.ok.inj,I.ok.has,I.ok.cab,I.ok.hd,I.ok.frames,I.ok.stk,I.ok.exf,I.ok.bs,I.ok.bsz,I.ok.noex,I.ok.exfs,I.ok.funs,I.ok.frf⟩,I.os,I.bare,I.base,I.loc,I.cell,I.free,I.freeC,fun p hp=>I.pin p (mem_append_left _ hp),I.hok,I.len⟩
theorem Inv.hand_in (I:Inv X pins σ H s) (a:Addr):Inv (X.hand a) pins σ H s :=
 ⟨⟨I.ok.mod,I.ok.kind,I.ok.glob,I.ok.blt,I.ok.above,I.ok.inj,I.ok.has,I.ok.cab,fun z=>Bool.noConfusion z,I.ok.frames,I.ok.stk,I.ok.exf,I.ok.bs,I.ok.bsz,I.ok.noex,I.ok.exfs,I.ok.funs,I.ok.frf⟩,I.os,I.bare,I.base,I.loc,I.cell,I.free,I.freeC,I.pin,I.hok,I.len⟩
theorem Inv.hand_out (ok:X.Ok) (I:Inv (X.hand a) pins σ H s):Inv X pins σ H s:=⟨ok,I.os,I.bare,I.base,I.loc,I.cell,I.free,I.freeC,I.pin,I.hok,I.len⟩
theorem SP.pin_out {D:Ends}{f:Flow} (h:SP (X.pinned (X.pn++pins) E) [] D f s):SP X pins D f s:=by
 cases f with
 | next=>obtain ⟨σ',H',I,q⟩:=h;exact ⟨σ',H',I.pin_out,q⟩
 | brk=>obtain ⟨σ',H',I,q⟩:=h;exact ⟨σ',H',I.pin_out,q⟩
 | cont=>obtain ⟨σ',H',I,q⟩:=h;exact ⟨σ',H',I.pin_out,q⟩
 | ret u=>obtain ⟨v,σ',H',I,r,q⟩:=h;exact ⟨v,σ',H',I.pin_out,r,q⟩
theorem Inv.noted {old:Option Addr}{fl:Value}{h':Heap}{t':Nat} (I:Inv X pins σ H s) (n:Noted X.stack a old fl s.heap h') (ha:H a=none) (ho : ∀ T,old=some T->H T=none)
  (hx : ∀ b,b=a\/some b=old->X.s_0.heap.objs.size<=b/\b≠X.env.locals/\(∀ x c,X.env.cells.lookup x=some c->c≠b)/\∀ p∈X.pn++pins,p.1≠b):Inv X pins σ H { s with heap:=h',toks:=t' }:=by
 have mem : ∀ b,b∈a::old.toList->b=a\/some b=old:=fun b hb=>by
  rcases mem_cons.mp hb with e | e
  ·exact .inl e
  cases old with
  | none=>simp at e
  | some T=>exact .inr (by simpa using e)
 have nch : ∀ b,b∉a::old.toList->b≠a/\some b≠old:=fun b hb=>⟨fun z=>hb (by simp [z]),fun z=>hb (by rw [<- z];simp)⟩;refine I.step (g':=s.gens) (d':=s.drawn) (ch:=a::old.toList) (fun b hb=>let ⟨h1,h2,h3,h4⟩:=hx b (mem b hb);⟨.inr h1,h2,h3,h4⟩) (fun b o hL hb hc q _=>n.keep b o (nch b hc).1 (nch b hc).2 (fun z=>?_) q)
  (fun b o _ _ hc q _=>n.slot b o (nch b hc).1 (nch b hc).2 q) (fun b o _ _ z=>z) (fun b o _ q=>n.there b o q) (fun _ _ z=>z) (fun _ _ _ z=>z) (fun b ps z=>⟨#[],by rw [z];simp⟩) (fun m hm=>?_)
  (I.hok.noted n ha ho fun b hb=>I.stkFree b hb) I.bare
 ·rcases mem_cons.mp (I.stkSub b z) with e | e
  ·exact hL e
  exact hb e
 obtain ⟨o,es,ep,ho',r⟩:=hm;have nl:X.env.locals≠a/\some X.env.locals≠old:=⟨fun z=>(hx _ (.inl z)).2.1 rfl,fun z=>(hx _ (.inr z)).2.1 rfl⟩;obtain ⟨sl,e⟩:=n.slot _ o nl.1 nl.2 ho';exact ⟨_,es,ep,e,r⟩
theorem Inv.unbound {h':Heap}{m':zM}{t':Nat} (I:Inv X pins σ H s) (hn:h'.Ns X.env.locals m') (sb:Heap.SameBut X.env.locals s.heap h'):Inv X pins (List.replicate X.N.length none) H { s with heap:=h',toks:=t' }:=by
 have old : ∀ b o,X.s_0.heap.get? b=some o->h'.get? b=s.heap.get? b:=fun b o q=>sb.2 b (Nat.ne_of_lt (Nat.lt_of_lt_of_le (lt_size q) I.ok.above));refine ⟨I.ok,I.os,I.bare,⟨fun b o q z hb hx=>(old b o q).trans (I.base.keep b o q z hb hx),fun b o q z hb hx=>?_,I.base.free,fun b o q hx=>?_,I.base.tups,I.base.frzs,I.base.tbls⟩,⟨m',hn,fun i x v _ e2 _=>?_⟩,fun x c e=>?_,I.free,I.freeC,fun p hp=>?_,fun b ob e=>?_,by simp⟩
 ·obtain ⟨sl,e⟩:=I.base.slot b o q z hb hx
  exact ⟨sl,(old b o q).trans e⟩
 ·obtain ⟨o',e⟩:=I.base.there b o q hx
  exact ⟨o',(old b o q).trans e⟩
 ·rw [List.getElem?_replicate] at e2
  split at e2 <;> cases e2
 ·obtain ⟨v,z⟩:=I.cell x c e
  exact ⟨v,z.sameBut sb (I.cne x c e)⟩
 ·refine x_03 (I.pin p hp) fun h1 h2 h3 h4=>?_
  exact ⟨(sb.2 p.1 h3).trans h1,h2,h3,h4⟩
 refine (I.hok b ob e).stay (fun c u hc q=>(sb.2 c fun z=>?_).trans q) (fun _ q=>q) fun _ _ q=>q;rcases hc with r | r
 ·rw [<- r,z,I.free] at e
  cases e
 rw [z,I.free] at r;cases r
theorem Inv.track {o:HO} (I:Inv X pins σ H s) (hn:H a=none) (hx:X.s_0.heap.objs.size<=a/\a≠X.env.locals/\(∀ x c,X.env.cells.lookup x=some c->c≠a)/\∀ p∈X.pn++pins,p.1≠a) (ok:a1_ X.prog X.w (upd H a o) s.heap a o):Inv X pins σ (upd H a o) s:=by
 have na : ∀ b u,H b=some u->b≠a:=fun b u q=>af_ q hn;refine ⟨I.ok,I.os,I.bare,⟨I.base.keep,I.base.slot,fun b u q z hb=>?_,I.base.there,fun b xs q=>?_,fun b u xs q=>?_,fun b ps q=>?_⟩,I.loc,I.cell,?_,fun x c e=>?_,fun p hp=>?_,fun b u q=>?_,I.len⟩
 ·rw [am_ (Nat.ne_of_lt (Nat.lt_of_lt_of_le (lt_size q) hx.1))]
  exact I.base.free b u q z hb
 ·have z:=I.base.tups b xs q
  rw [am_ (na _ _ z)];exact z
 ·have z:=I.base.frzs b u xs q
  rw [am_ (na _ _ z)];exact z
 ·obtain ⟨m,z⟩:=I.base.tbls b ps q
  exact ⟨m,by rw [am_ (na _ _ z)];exact z⟩
 ·rw [am_ (Ne.symm hx.2.1)]
  exact I.free
 ·rw [am_ (hx.2.2.1 x c e)]
  exact I.freeC x c e
 ·obtain ⟨h1,h2,h3⟩:=I.pin p hp
  exact ⟨h1,by rw [am_ (hx.2.2.2 p hp)];exact h2,h3⟩
 by_cases hb:b=a
 ·subst hb
  rw [ad_] at q;cases q;exact ok
 rw [am_ hb] at q;exact (I.hok b u q).stay (fun _ _ _ z=>z) (fun c z=>by rw [am_ (na _ _ z)];exact z) fun c xs z=>by rw [am_ (na _ _ z)];exact z
end
def o8_ (X:Cx) (C:Addr) (i:Nat) (ts:TS) (D:Ends):XK:=fun cls d H=>cls = .ref C/\∀ a dx,d=some dx->H a=none->ts { nx:=fun _ _=>False,rt:=D.rt } ((List.replicate X.N.length none).set i (some (.ref a))) (upd H a (XGot C a dx))
section
variable {X:Cx}{C f:Addr}{i:Nat}{cx nm:Str}{np hpos pos:Pos}{body suite:List Stmt}{b₀:Stmt}{ts:TS}{tb:Ends->TS}
theorem oL_ (c:XCls X.K C f) (hg:Gl X cx) (hm:X.mg cx=some (.ref C)) (hN:X.N.Nodup) (hi:X.N[i]? = some nm) (hk:X.env.scope.names.lookup nm=some .local) (hstk:X.stack=X.env::X.outer) (hfr:X.env.frame=some X.env.locals)
  (hb : ∀ (pn:zP) (E:zQ) (D:Ends),bR_ (CX1 X.prog X.w) (X.pinned pn E) (o8_ X C i ts D)->PSs (X.pinned pn E) body (tb D)) (hs : ∀ a,PSs (X.hand a) (b₀::suite) ts)
  (hdb:(cx == ("__debug__":Str))=false:=by decide) :
  PS X (.Try body [.ExceptHandler (some (.Name cx np)) (some nm) (b₀::suite) hpos] [] [] pos) (fun D σ H=>tb D D σ H):=by
 intro pins s σ H D I h;refine wpAny_Try_except ?_;refine wpAny_mono (hb (X.pn++pins) (fun e s'=>∃ pins' σ' H₁ s₁,Inv (X.pinned (X.pn++pins) fun _ _=>False) pins' σ' H₁ s₁/\CX1 X.prog X.w X.stack H₁ s₁ (o8_ X C i ts D) e s') D (fun pins' σ' H₁ s₁ e s' J z=>⟨pins',σ',H₁,s₁,?_,z⟩) [] s σ H D I.pin_in h) (fun fl s₁ q=>?_) fun e s' q=>?_
 ·exact ⟨⟨J.ok.mod,J.ok.kind,J.ok.glob,J.ok.blt,J.ok.above,J.ok.inj,J.ok.has,J.ok.cab,J.ok.hd,J.ok.frames,J.ok.stk,J.ok.exf,J.ok.bs,J.ok.bsz,J.ok.noex,J.ok.exfs,J.ok.funs,J.ok.frf⟩,J.os,J.bare,J.base,J.loc,J.cell,J.free,J.freeC,J.pin,J.hok,J.len⟩
 ·have q':=SP.pin_out q
  cases fl with
  | next=>exact wpAny_execs_nil q'
  | brk=>exact q'
  | cont=>exact q'
  | ret u=>exact q'
 obtain ⟨pins',σ',H₁,s₁,J,a,C',d,fs,H',rfl,os,bare,un,hok,⟨new,free,vs,sl,T,oT,tv,hat,h1,nT,nT0,fT,hT,dT,h3⟩,hd,hC,q⟩:=q;cases hC;have J1:=J.pin_out;have J2:=J1.call' (ch:=[]) os un hok bare (fun b z=>absurd z (by simp));have hx : ∀ b,b=a\/some b=some T->X.s_0.heap.objs.size<=b/\b≠X.env.locals/\(∀ x c,X.env.cells.lookup x=some c->c≠b)/\∀ p∈X.pn++pins,p.1≠b:=fun b hb=>by
  have big:s₁.heap.objs.size<=b:=by
   rcases hb with e | e
   ·rw [e];exact new
   cases e;exact nT0
  refine ⟨Nat.le_trans J1.sz big,ne_of_gt (Nat.lt_of_lt_of_le J1.lt big),fun x c e=>?_,fun p hp=>Nat.ne_of_lt (Nat.lt_of_lt_of_le (lt_size (J1.pin p hp).1) big)⟩;obtain ⟨v,z⟩:=J1.cell x c e;exact Nat.ne_of_lt (Nat.lt_of_lt_of_le z.lt big)
 have stk:=J2.stack;have frm:=J2.ok.frames;rw [hstk] at stk frm;refine oW_ (s:=s') frm stk hfr hat rfl (.inr ⟨T,oT,tv,rfl,h1,nT,hT,dT,h3⟩) fun h2 n2=>?_;refine hI_ (s:={ s' with heap:=h2 }) (h:=s'.heap) hat rfl n2 fun h3 n3=>?_;refine wpAny_handleBy_cons (codeAny_handlers_test ?_) (by intro z;cases z);have n3':Noted X.stack a (some T) Value.none s'.heap h3:=by rw [hstk];exact n3
 have J3:=J2.noted (t':=s'.toks) n3' free (fun T' z=>by cases z;exact fT) hx;refine dN_ (J3.hand_in a) hg hm ?_ hdb;obtain ⟨nm',q',N',bs,sn,sub,ab,col,dd,k0,k1,k2,k3,k5,lk⟩:=c.obj;obtain ⟨vs2,T2,oT2,tv2,z1,z2,z3,z4,z5,z6,z7⟩:=n3.exc _ vs hat rfl;refine wpAny_excMatches_sub_self (J3.kIn _ _ lk) z1 rfl PySem.F.excBase_Exception.hasBase ?_;refine codeAny_handlers_suite_as ?_;refine hI_ (s:={ s' with heap:=h3 }) (h:=s'.heap) hat rfl n3 fun h4 n4=>?_;have n4':Noted X.stack a (some T) Value.none s'.heap h4:=by rw [hstk];exact n4
 have J4:=J2.noted (t':=s'.toks) n4' free (fun T' z=>by cases z;exact fT) hx;obtain ⟨vs4,T4,oT4,tv4,y1,_⟩:=n4.exc _ vs hat rfl;have J5:Inv X pins ((List.replicate X.N.length none)) (upd H' a (XGot C a d)) { s' with heap:=h4 }:=by
  refine Inv.weak (σ:=σ') ?_ (by rw [List.length_replicate];exact J4.len.symm) fun j v e=>?_
  ·exact J4.track free (hx a (.inl rfl)) (pt_ y1)
  rw [List.getElem?_replicate] at e;split at e <;> cases e
 refine eb_ (X:=X) J5 hN hi (.inl hk) (v := .ref a) rfl (fun s5 J6=>?_) (.inr hk);refine wpAny_mono (hs a pins s5 _ _ { nx:=fun _ _=>False,rt:=D.rt } (J6.hand_in a) (q a d rfl free)) (fun fl s6 r=>?_) fun _ _ z=>False.elim z;cases fl with
 | next=>obtain ⟨_,_,_,z⟩:=r;exact z.elim
 | brk=>obtain ⟨_,_,_,z⟩:=r;exact z.elim
 | cont=>obtain ⟨_,_,_,z⟩:=r;exact z.elim
 | ret u =>
 obtain ⟨v,σ7,H7,J7,rv,r⟩:=r;have J8:=J7.hand_out I.ok;obtain ⟨m,hm8,_⟩:=id J8.loc;refine wpAny_nameGoes hk hm8 (by rw [I.ok.kind];rfl) fun h9 m9 hn9 sb=>?_;exact ⟨v,_,H7,J8.unbound hn9 sb,rv,r⟩
end
end
section
theorem lenS {A:Type}{n:Nat}{l:List A} (h:l.length=n+1) : ∃ a r,l=a::r/\r.length=n:=by
 cases l with
 | nil=>cases h
 | cons a r=>exact ⟨a,r,rfl,Nat.succ.inj h⟩
theorem len0 {A:Type}{l:List A} (h:l.length=0):l=[]:=List.length_eq_zero_iff.mp h
theorem len1 {A:Type}{l:List A} (h:l.length=1) : ∃ a,l=[a]:=by
 obtain ⟨a,r,rfl,q⟩:=lenS h;exact ⟨a,by rw [len0 q]⟩
theorem len2 {A:Type}{l:List A} (h:l.length=2) : ∃ a b,l=[a,b]:=by
 obtain ⟨a,r,rfl,q⟩:=lenS h;obtain ⟨b,rfl⟩:=len1 q;exact ⟨a,b,rfl⟩
theorem len3 {A:Type}{l:List A} (h:l.length=3) : ∃ a b c,l=[a,b,c]:=by
 refine x_21 (lenS h) fun a r zr2 q=>?_;subst zr2;obtain ⟨b,c,rfl⟩:=len2 q;exact ⟨a,b,c,rfl⟩
theorem len4 {A:Type}{l:List A} (h:l.length=4) : ∃ a b c d,l=[a,b,c,d]:=by
 refine x_21 (lenS h) fun a r zr2 q=>?_;subst zr2;refine x_30 (len3 q) fun b c d zr3=>?_;subst zr3;exact ⟨a,b,c,d,rfl⟩
theorem len5 {A:Type}{l:List A} (h:l.length=5) : ∃ a b c d e,l=[a,b,c,d,e]:=by
 refine x_21 (lenS h) fun a r zr2 q=>?_;subst zr2;refine x_40 (len4 q) fun b c d e zr4=>?_;subst zr4;exact ⟨a,b,c,d,e,rfl⟩
theorem na_ {i:Nat}{σ:L2.St}{H:Hp}{Q:VK}{v:V} (e:σ[i]? = some (some v)) (h:Q v H):tVar i σ H Q:=by
 unfold tVar;rw [e];exact h
section
variable {X:Cx}{CX:CXT}{k:Nat}{E:XK}{x:Str}{p pos:Pos}{e:Expr}{es:List Expr}{t:TA}
def ex_ (X:Cx) (CX:CXT) (k i:Nat) (E:XK) (t:TA):TE:=fun σ H Q=>∃ f fd ps sp,σ[i]? = some (some (.ref f))/\FnOk X.prog X.w X.K X.mg X.base CX k f fd ps sp/\bb_ X.K fd ps []/\keepIn X.K (.ref f)=true /\
 t σ H fun vs H1=>sp vs H1 Q E
theorem ca_ (i:Nat) (hr:Room k X.A) (hx:bR_ CX X E) (ha:PA X (e::es) t) (hN:X.N[i]? = some x:=by rfl)
  (hv:Vis X.env.scope x:=by first | exact Or.inl rfl | exact Or.inr (Or.inl rfl) | exact Or.inr (Or.inr rfl)) (hd:(x == ("__debug__":Str))=false:=by decide) (hcd:(x == ("__classdict__":Str))=false:=by decide)
  (he:starEach (e::es) X.env=(false,eval e X.env)::starEach es X.env:=by rfl) (hpl:(backTo pos (starEach es X.env)).any (·.1)=false:=by rfl) :
  PE X (.Call (.Name x p) (e::es) [] pos) (ex_ X CX k i E t):=by
 intro pins s σ H Q I h;refine x_40 h fun f fd ps sp zy=>x_04 zy fun h1 F hb hk h2=>?_;refine wpAny_Call_Name_kw (thn (pv (X:=X) i hN hv hd hcd pins s σ H (fun v H'=>v = .ref f/\H'=H) I (na_ h1 ⟨rfl,rfl⟩)) fun u s1 zq=>?_);refine x_23 zq fun v H1 I1 r1 ev eH=>?_;subst ev eH;cases r1;refine callWith_K (h₀:=X.base) I1.ok.mod.kin hk (thn (ha pos pins s1 σ _ _ I1 h2) fun us s2 ⟨vs,H2,I2,r,q⟩=>⟨I2.kIn,?_⟩) he hpl;exact h8_ (dvs:=[]) F hr hb .nil hx I2 r (by rw [append_nil];exact q)
end
section
variable {X:Cx}
theorem pe_g {x:Str}{v:V}{pos:Pos} (h : ∃ u,X.mg x=some u/\RelV v u) (hg:Gl X x:=by rfl) (hd:(x == ("__debug__":Str))=false:=by decide):PE X (.Name x pos) (tC v):=by
 obtain ⟨u,h1,h2⟩:=h;exact kh_ hg h1 h2 hd
def ps_ (i j:Int):Prop:=0<j/\j.natAbs.log2<9000
theorem io_:OpR X (binaryOp .FloorDiv) (rI ps_ fun i j => .int (i / j)):=opI fun i j _ _ _ _ _ hc q=>by
 have hj:j≠0:=by have:=hc.1;omega
 refine floordiv_int hj ?_ (.inl (PyProof.noPylong_of_log2 hc.2));rw [Int.fdiv_eq_ediv_of_nonneg _ (Int.le_of_lt hc.1)];exact q
theorem i1_ {n:Nat} (h:n<2 ^ 200):n.log2<9000:=by
 by_cases h0:n=0
 ·subst h0;decide
 exact Nat.lt_trans ((Nat.log2_lt h0).mpr h) (by decide)
theorem iU_:OpR X (binaryOp .Mult) (fun x y H Q=>∃ a n,x = .str a/\y = .int n/\MulOk a n/\Q (.str (Txt.mul a n)) H):=by
 intro pins s σ H x y v u Q I rx ry h;obtain ⟨a,n,rfl,rfl,hm,h⟩:=h;obtain ⟨t1,rfl⟩:=rx;obtain ⟨t2,rfl⟩:=ry;exact SB.mul hm fun t' k=>⟨.str (Txt.mul a n),H,I.tok _,⟨_,rfl⟩,h⟩
end
def PET (X:Cx) (e:Expr) (t:TE):Prop :=
 ∀ (pins:zP) (s:Shared) (σ:St) (H:Hp) (Q:VK),Inv X pins σ H s->1<=s.toks->t σ H Q->wpAny (model X.prog X.w) X.A (eval e X.env) (EP X pins σ Q) X.xe s
def PEp (X:Cx) (e:Expr) (t:TE):Prop :=
 ∀ (pins:zP) (s:Shared) (σ:St) (H:Hp) (Q:VK),Inv X pins σ H s->t σ H Q->wpAny (model X.prog X.w) X.A (eval e X.env) (fun u s'=>1<=s'.toks/\EP X pins σ Q u s') X.xe s
def PTT (X:Cx) (e:Expr) (t:TT):Prop :=
 ∀ (pins:zP) (s:Shared) (σ:St) (H:Hp) (Q:Bool->Hp->Prop),Inv X pins σ H s->1<=s.toks->t σ H Q->wpAny (model X.prog X.w) X.A (isTrue e X.env (eval e X.env)) (TP X pins σ Q) X.xe s
def PTp (X:Cx) (e:Expr) (t:TT):Prop :=
 ∀ (pins:zP) (s:Shared) (σ:St) (H:Hp) (Q:Bool->Hp->Prop),Inv X pins σ H s->t σ H Q->wpAny (model X.prog X.w) X.A (isTrue e X.env (eval e X.env)) (fun u s'=>1<=s'.toks/\TP X pins σ Q u s') X.xe s
def PSsT (X:Cx) (st:List Stmt) (t:TS):Prop :=
 ∀ (pins:zP) (s:Shared) (σ:St) (H:Hp) (D:Ends),Inv X pins σ H s->1<=s.toks->t D σ H->wpAny (model X.prog X.w) X.A (execs st X.env) (SP X pins D) X.xe s
def PST (X:Cx) (st:Stmt) (t:TS):Prop :=
 ∀ (pins:zP) (s:Shared) (σ:St) (H:Hp) (D:Ends),Inv X pins σ H s->1<=s.toks->t D σ H->wpAny (model X.prog X.w) X.A (exec st X.env) (SP X pins D) X.xe s
def PIT (X:Cx) (tg iter:Expr) (wi:TI):Prop :=
 ∀ (pins:zP) (s:Shared) (σ:St) (H:Hp) (R:It->Hp->Prop),Inv X pins σ H s->1<=s.toks->wi σ H R ->
  wpAny (model X.prog X.w) X.A (eval iter X.env) (fun v s1=>wpAny (model X.prog X.w) X.A (pyIter v) (PIE X pins σ tg R) X.xe s1) X.xe s
structure FnOkT (P:Program) (w:World) (K:Frag) (mg:zM) (base:Heap) (CX:CXT) (k:Nat) (f:Addr) (fd:FuncData) (ps:List Str) (sp:Sp):Prop where
 len : ∀ vs H Q E,sp vs H Q E->vs.length=ps.length
 run : ∀ (A:Around) (outer:List Env) (s:Shared) (H:Hp) (args:Args) (us:List Value) (vs:List V) (Q:VK) (E:XK),1<=s.toks->Room k A->Env0 P w K mg base A outer s H->BindsTo s fd args (ps.zip us)->Vals vs us->sp vs H Q E ->
  codeAny (model P w) A (.call (.ref f) args) (CR CX outer P w H s Q E) s
section
variable {X:Cx}{CX:CXT}{k:Nat}{E:XK}{x:Str}{p pos apos:Pos}{a b c e o:Expr}{es:List Expr}{ta tb te to:TE}{t:TA}{tA tB' tc:TT}{st:Stmt}{rest:List Stmt}{tS u:TS}{f:Addr}{fd:FuncData}{ps:List Str}{sp:Sp}
theorem nw_ {op:CmpOp}{r:R2} (ho:OpR X (compareOp op) r) (ha:PE X a ta) (hb:PEp X b tb) (hm:behindInMarks op b=false):PTp X (.Compare a [op] [b] pos) (lq_ (tOp r ta tb)):=by
 intro pins s σ H Q I h;refine wpAny_isTrue_Compare1 (thn (ha pins s σ H _ I h) fun v s1 ⟨x,H1,I1,r1,q1⟩=>thn (hb pins s1 σ H1 _ I1 q1) fun u s2 ⟨tk,y,H2,I2,r2,q2⟩ =>
  thn (wpAny_toks_of tk (ho pins s2 σ H2 x y v u _ I2 r1 r2 q2) |> fun z=>wpAny_mono z (fun _ _ q=>q) fun _ _ q=>q.2) fun c s3 ⟨tk3,z,H3,I3,r3,q3⟩=>?_) hm
 obtain ⟨k,e,q3⟩:=kD_ q3;subst e;cases r3;exact wpAny_truthy_bool ⟨tk3,H3,I3,q3⟩
theorem nA_ (hg:Gl X "len") (hm:X.mg "len"=none) (ha:PE X a ta) (hs:starEach [a] X.env=[(false,eval a X.env)]:=by rfl) :
  PEp X (.Call (.Name "len" p) [a] [] pos) (fun σ H Q=>ta σ H fun x H1=>∃ q ys,x = .ref q/\SqL X.K H1 q ys/\Q (.int ys.length) H1):=by
 intro pins s σ H Q I h;refine wpAny_Call_Name_kw (dX_ I hg hm PySem.boot_len ?_);have he:starEach (a::[]) X.env=(false,eval a X.env)::starEach [] X.env:=by rw [hs];rfl
 refine PyProof.Rows.callWith_builtin1 (thn (aa_ ha ac_ he pos pins s σ H (fun vs H1=>∃ x,vs=[x]/\∃ q ys,x = .ref q/\SqL X.K H1 q ys/\Q (.int ys.length) H1) I ?_) fun us s1 ⟨vs,H1,I1,r1,x,ex,q,ys,exq,hq,qq⟩=>?_) he rfl
 ·have h':ta σ H fun x H1=>∃ q ys,x=V.ref q/\SqL X.K H1 q ys/\Q (.int ys.length) H1:=h
  show ta σ H fun x H1=>∃ x_1,[x]=[x_1]/\_;have e:(fun (x:V) (H1:Hp)=>∃ x_1,[x]=[x_1]/\∃ q ys,x_1=V.ref q/\SqL X.K H1 q ys/\Q (.int ys.length) H1)=fun x H1=>∃ q ys,x=V.ref q/\SqL X.K H1 q ys/\Q (.int ys.length) H1:=by
   funext x H1
   exact propext ⟨fun ⟨y,e,z⟩=>by cases e;exact z,fun z=>⟨x,rfl,z⟩⟩
  rw [e];exact h'
 subst ex exq;obtain ⟨u,rfl,rx⟩:=gl_ r1;cases rx;have hn:=do_;refine x_12 (I1.list hq) fun its r' pl hz=>?_;have hlen:=r'.length;exact Calls.call_len_list pl.isList (by simp only [size_toArray] <;> omega) ⟨by show 1<=_ ;simp;try omega,.int ys.length,H1,I1.tok _,⟨_,by rw [size_toArray,hlen]⟩,qq⟩
theorem pw_orP (ha:PTp X a tA) (hb : ∀ whole (pins:zP) (s:Shared) (σ:St) (H:Hp) (Q:Bool->Hp->Prop),Inv X pins σ H s->1<=s.toks->tB' σ H Q->wpAny (model X.prog X.w) X.A (isTrue (.BoolOp .Or [b] pos) X.env whole) (TP X pins σ Q) X.xe s):PT X (.BoolOp .Or [a,b] pos) (tOr tA tB'):=by
 intro pins s σ H Q I h;refine isTrue_or (thn (ha pins s σ H _ I h) fun c s1 ⟨tk,H1,I1,q1⟩=>?_);cases c with
 | true=>exact ⟨H1,I1,q1⟩
 | false=>exact hb _ pins s1 σ H1 Q I1 tk q1
theorem pw_or1T (ha:PTT X a tA) : ∀ whole (pins:zP) (s:Shared) (σ:St) (H:Hp) (Q:Bool->Hp->Prop),Inv X pins σ H s->1<=s.toks->tA σ H Q->wpAny (model X.prog X.w) X.A (isTrue (.BoolOp .Or [a] pos) X.env whole) (TP X pins σ Q) X.xe s:=by
 intro wh pins s σ H Q I tk h;refine isTrue_or (thn (ha pins s σ H Q I tk h) fun c s1 e=>?_);cases c with
 | false=>exact isTrue_or_nil e
 | true=>exact e
theorem nu_ (ha:PTT X a tA):PTT X (.UnaryOp .Not a pos) (tNot tA):=by
 intro pins s σ H Q I tk h;exact isTrue_not (ha pins s σ H (fun c H1=>Q (!c) H1) I tk h)
theorem nt_ {e:Expr}{t:TE} (h:PET X e t) (he : ∀ whole,isTrue e X.env whole=(do let v <- whole;standAt e.pos;holding [v] (truthy v)):=by intro _;rfl):PTT X e (tB t):=by
 intro pins s σ H Q I tk hw;refine isTrue_plain (thn (h pins s σ H _ I tk hw) fun v s1 zq=>?_) (he _);obtain ⟨x,H1,I1,r1,q1⟩:=zq;obtain ⟨d,rfl,q⟩:=q1;cases r1;exact wpAny_truthy_bool ⟨H1,I1,q⟩
theorem nr_ {pins:zP}{σ:St}{H:Hp}{s:Shared}{Q:VK}{us:List Value}{vs:List V} (F:FnOkT X.prog X.w X.K X.mg X.base CX k f fd ps sp) (hr:Room k X.A) (hb:bb_ X.K fd ps []) (hx:bR_ CX X E)
  (I:Inv X pins σ H s) (tk:1<=s.toks) (r:Vals vs us) (h:sp vs H Q E):wpAny (model X.prog X.w) X.A (call (.ref f) us) (EP X pins σ Q) X.xe s:=by
 have hl:(us++[]).length=ps.length:=by rw [append_nil,<- r.length];exact F.len _ _ _ _ h
 have hb2:=hb s us I.kIn hl;rw [append_nil] at hb2;refine wpAny_call (codeAny_mono (F.run X.A X.stack s H ⟨us,[]⟩ us vs Q E tk hr I.env0 hb2 r h) fun r s' hq=>?_);cases r with
 | error e=>exact hx pins σ H s e s' I hq
 | ok fl =>
 cases fl with
 | ret u=>exact I.after hq
 | next=>exact False.elim hq
 | brk=>exact False.elim hq
 | cont=>exact False.elim hq
theorem lQ_ (F:FnOkT X.prog X.w X.K X.mg X.base CX k f fd ps sp) (hr:Room k X.A) (hg:Gl X x) (hm:X.mg x=some (.ref f)) (hk:keepIn X.K (.ref f)=true) (hb:bb_ X.K fd ps []) (hx:bR_ CX X E)
  (ha:PA X (e::es) t) (hdb:(x == ("__debug__":Str))=false:=by decide) (he:starEach (e::es) X.env=(false,eval e X.env)::starEach es X.env:=by rfl) (hpl:(backTo pos (starEach es X.env)).any (·.1)=false:=by rfl) :
  PET X (.Call (.Name x p) (e::es) [] pos) (iM_ sp [] E t):=by
 intro pins s σ H Q I tk h;refine wpAny_Call_Name_kw (dN_ I hg hm ?_ hdb);refine callWith_K (h₀:=X.base) I.ok.mod.kin hk (wpAny_mono (wpAny_toks_of tk (ha pos pins s σ H _ I h)) (fun us s1 ⟨tk1,vs,H1,I1,r,q⟩=>⟨I1.kIn,?_⟩) fun _ _ z=>z.2) he hpl;have q':sp (vs++[]) H1 Q E:=q;rw [append_nil] at q';exact nr_ F hr hb hx I1 tk1 r q'
theorem j6_ (h1:PST X st tS) (h2:PSs X rest u):PSsT X (st::rest) (tSeq tS u):=by
 intro pins s σ H D I tk h;refine wpAny_execs_cons (thn (h1 pins s σ H { D with nx:=u D } I tk h) fun f s1 q=>?_);cases f with
 | next =>
  refine x_21 q fun σ' H' I' q=>?_;exact h2 pins s1 σ' H' D I' q
 | ret v=>exact q
 | brk=>exact q
 | cont=>exact q
theorem lL_ {tg l:Expr}{tl:TE} (hl:PET X l tl):PIT X tg l (l7_ X.K tl):=by
 intro pins s σ H R I tk h;refine thn (hl pins s σ H _ I tk h) fun v s1 zq=>?_;obtain ⟨x,H1,I1,r1,q1⟩:=zq;obtain ⟨a,e,⟨xs,hq⟩,q⟩:=q1;subst e;cases r1;refine x_12 (I1.list hq) fun its rv p hz=>?_;refine wpAny_pyIter_list p.isList ?_;refine ⟨s1.heap.objs.size,[s1.heap.objs.size],_,_,H1,rfl,I1.kept (t':=s1.toks) fun b o e=>get?_push_of_some _ e,gn_ a _,⟨_,get?_push_size _ rfl,rfl,rfl⟩,fun b hb=>?_,q⟩;have e:b=s1.heap.objs.size:=by simpa using hb
 subst e;exact I1.fpOk (Nat.le_refl _) (I1.hok.fresh (Nat.le_refl _))
theorem oR_ {id:String}{name:Str}{r:V->List V->Hp->VK->Prop} (slot:Slot "str" name id) (ty:typeOf (.builtin id)=pure (.type "method_descriptor")) (rule:MtR X id r) (ho:PET X o to) (he:PE X e te)
  (hs:starEach [e] X.env=[(false,eval e X.env)]:=by rfl) (hbase:attributeBase o name X.env (eval o X.env)=eval o X.env:=by rfl) (hline:(apos.endLine == pos.line)=true:=by rfl) :
  PET X (.Call (.Attribute o name apos) [e] [] pos) (tM1 r to te):=by
 intro pins s σ H Q I tk h;refine PySem.Call_method1 hbase hs hline (thn (ho pins s σ H _ I tk h) fun v s1 zq=>?_);refine x_22 zq fun x H1 I1 r1 q1=>?_;obtain ⟨⟨a,rfl⟩,q1⟩:=q1;obtain ⟨t,rfl⟩:=_root_.id r1;refine ⟨"str",_,F.plainAttrs_str,slot,ty,typeIs_str _ _ _,(fun _ e=>nomatch e),Calls.callWith_builtin rfl (Calls.evalArgs_plain (Calls.spliced_cons ?_))⟩;exact thn (he pins s1 σ H1 _ I1 q1) fun u s2 ⟨y,H2,I2,r2,q2⟩=>Calls.spliced_nil (rule pins s2 σ H2 _ [y] _ [u] Q I2 r1 (.cons r2 .nil) q2)
theorem hu_ {y z:Str}{j1 j2:Nat}{p1 p2:Pos} (ho:PE X (.Name x p) to) (hyz:(y == z)=false:=by decide) (hz:z.length<=14:=by decide)
  (hs:starEach [.Constant (.str y) j1 p1,.Constant (.str z) j2 p2] X.env=[(false,eval (.Constant (.str y) j1 p1) X.env),(false,eval (.Constant (.str z) j2 p2) X.env)]:=by rfl)
  (hbase:attributeBase (.Name x p) "replace" X.env (eval (.Name x p) X.env)=eval (.Name x p) X.env:=by rfl) (hline:(apos.endLine == pos.line)=true:=by rfl) :
  PET X (.Call (.Attribute (.Name x p) "replace" apos) [.Constant (.str y) j1 p1,.Constant (.str z) j2 p2] [] pos) (fun σ H Q=>to σ H fun v H1=>∃ a,v = .str a/\a.length<=1048576/\Q (.str (Txt.replace a y z)) H1):=by
 intro pins s σ H Q I tk h;refine PySem.Call_method2 hbase hs hline (wpAny_mono (wpAny_toks_of tk (ho pins s σ H _ I h)) (fun v s1 ⟨tk1,x,H1,I1,r1,q1⟩=>?_) fun _ _ z=>z.2);obtain ⟨a,rfl,ha,q1⟩:=q1;obtain ⟨t,rfl⟩:=_root_.id r1;refine ⟨"str",_,F.plainAttrs_str,F.slot_str_replace,F.type_str_replace,typeIs_str _ _ _,(fun _ e=>nomatch e),Calls.callWith_builtin rfl (Calls.evalArgs_plain (Calls.spliced_cons ?_))⟩;refine Calls.Constant_str (Calls.spliced_cons (Calls.Constant_str (Calls.spliced_nil ?_)));refine SC.replaceW ?_ ?_ ?_ hyz ha hz fun t' k=>⟨.str (Txt.replace a y z),H1,((I1.tok _).tok _).tok _,⟨_,rfl⟩,q1⟩
 ·exact ne_of_gt tk1
 ·exact Nat.succ_ne_zero _
 exact Nat.ne_of_lt (lt_succ_self _)
theorem nx_ {tg iter:Expr}{body:List Stmt}{wi:TI}{g:TG}{tb:TS} (hp:PassesOwn (model X.prog X.w) X.A X.env X.xe) (hc:X.calm=true) (hi:PIT X tg iter wi) (hg:PG X tg g) (hb:PSs X body tb)
  (hs : ∀ x,foldedSetIterable iter X.env x=pure x:=by intro _;rfl):PST X (.For tg iter body [] pos) (tFor wi g tb):=by
 intro pins s σ H D I tk h;refine wpAny_For (thn (hi pins s σ H _ I tk h) fun v s1 h1=>thn h1 fun itv s2 h2=>?_) hs;refine x_50 h2 fun it fp tn J H2 zy=>x_05 zy fun e I2 T st2 f2 zz0=>?_;refine x_11 zz0 fun W zn11 turn=>?_;obtain ⟨m0,w0⟩:=zn11;subst e;have stat : ∀ {H':Hp},(∀ b∈fp,H' b=none)->∀ b∈fp,FpOk X pins H' b:=fun hn b hb=>⟨hn b hb,(f2 b hb).2⟩;refine codeAny_forLoop_any (fun n s'=>∃ i σ' H',Inv X pins σ' H' s'/\tn i s'.heap/\(∀ b∈fp,H' b=none)/\W i n σ' H') ?_ m0 ⟨0,σ,H2,I2,st2,fun b hb=>(f2 b hb).1,w0⟩
 rintro n s3 ⟨i,σ3,H3,I3,st3,fr3,w3⟩
 rcases turn i n σ3 H3 w3 with ⟨stop,qn⟩ | ⟨go,N,hN,step⟩
 ·refine wpAny_passesOwn hp (thn (T.done X rfl rfl rfl hc i pins s3 σ3 H3 X.xe I3 (stat fr3) st3 stop) fun r s4 ⟨hr,I4⟩=>?_)
  subst hr;exact wpAny_execs_nil ⟨σ3,H3,I4,qn⟩
 refine wpAny_passesOwn hp (thn (T.item X rfl rfl rfl hc i pins s3 σ3 H3 X.xe I3 (stat fr3) st3 go) fun r s4 ⟨u,hr,h4⟩=>?_);subst hr;refine wpAny_passesOwn hp (thn h4 fun _ s5 zq=>?_);refine x_24 zq fun x H5 I5 r5 y5 st5 fr5=>?_;have I5':=I5.pinned (stat fr5) (T.obj _ _ st5);refine wpAny_passesOwn hp (thn (hg _ s5 σ3 H5 x u _ I5' r5 (step x H5 y5)) fun _ s6 ⟨σ6,H6,I6,q6⟩=>?_);refine wpAny_passesOwn hp (thn (hb _ s6 σ6 H6 _ I6 q6) fun f s7 q7=>?_);have again : ∀ {σ7:St}{H7:Hp},Inv X (pins++fg_ fp s5.heap) σ7 H7 s7->N σ7 H7->∃ m,m<n/\∃ i σ' H',Inv X pins σ' H' s7/\tn i s7.heap/\(∀ b∈fp,H' b=none)/\W i m σ' H':=fun {σ7 H7} I7 n7=>by
  obtain ⟨m',hm,w7⟩:=hN σ7 H7 n7;refine ⟨m',hm,i+1,σ7,H7,I7.unpinned,T.keep _ _ _ st5 fun b hb o e=>(I7.pin (b,o) (mem_append_right _ (mem_append_right _ (bY_ hb e)))).1,fun b hb=>?_,w7⟩;obtain ⟨o,e,d⟩:=T.obj _ _ st5 b hb;exact (I7.pin (b,o) (mem_append_right _ (mem_append_right _ (bY_ hb e)))).2.1
 cases f with
 | next=>obtain ⟨σ7,H7,I7,n7⟩:=q7;exact again I7 n7
 | cont=>obtain ⟨σ7,H7,I7,n7⟩:=q7;exact again I7 n7
 | brk=>obtain ⟨σ7,H7,I7,q7⟩:=q7;exact ⟨σ7,H7,I7.unpinned,q7⟩
 | ret v=>obtain ⟨x7,σ7,H7,I7,r7,q7⟩:=q7;exact ⟨x7,σ7,H7,I7.unpinned,r7,q7⟩
theorem PSsT.nox {st:List Stmt}{t:TS} (h:PSsT X.nox st t):PSsT X st t:=fun pins s σ H D I tk hw =>
 wpAny_mono (h pins s σ H D (I.wish _) tk hw) (fun _ _ q=>q.unwish) fun _ _ q=>q.elim
end
theorem pa_ {CX:CXT}{P:Program}{w:World}{K:Frag}{mg:zM}{base:Heap}{k:Nat}{f:Addr}{name qual:Str}{params:Arguments}{body:List Stmt}{scope:Scope}{dV kV doc pm cdv ct oc:Value}{an od:Option Addr}
  {osl:Array (Option Value)}{N ps:List Str}{sp:Sp} (lk:K.lookup f=some ⟨oc,od,.func (fnOf name qual params body scope dV kV doc pm an cdv ct),osl⟩) (hcd:codeIn K cdv qual=true) (S:FnScope N ps scope)
  (len : ∀ vs H Q E,sp vs H Q E->vs.length=ps.length)
  (hbody : ∀ (A:Around) (outer:List Env) (s:Shared) (H:Hp) (vs:List V) (Q:VK) (E:XK),Room k (A.deeper (envOfC qual scope s.heap.objs.size f cdv))->sp vs H Q E ->
   ∃ t,PSsT (cxOf CX P w K mg base N qual scope f cdv A outer s H E) body t/\t { nx:=fun _ H'=>Q .non H',rt:=Q } (start N vs) H) :
  FnOkT P w K mg base CX (k+1) f (fnOf name qual params body scope dV kV doc pm an cdv ct) ps sp:=by
 refine ⟨len,fun A outer s H args us vs Q E tk hr e0 hb r hsp=>?_⟩;have hl:=len _ _ _ _ hsp;have KX:K.In s.heap:=e0.mod.kin.keeps fun b o e=>(e0.bs b o e).1;have lim:s.heap.NoLimit:=e0.mod.nolimit.keeps fun b o e=>(e0.bs b o e).1;have hkind : ∀ y∈ps.zip us,scope.names.lookup y.1=some .local\/(scope.names.lookup y.1=some .cell/\((cellsFrom (s.heap.objs.size+1) scope.names []).lookup y.1).isSome=true):=fun ⟨n,v⟩ hy=>by
  rcases S.par n (of_mem_zip hy).1 with q | q
  ·exact .inl q
  exact .inr ⟨q,PySem.W.cellsFrom_some _ _ _ (.inl q)⟩
 refine codeAny_call_function hr.depth (KX _ _ lk) rfl S.co S.gen rfl (PySem.W.codeRec_of KX hcd) (hb _ _ _ _ ?_);refine wpAny_with_toks tk ?_;refine wpAny_newFunctionEnv_cells S.kind hkind fun env he s1 x=>?_;subst he;intro tk1;refine ⟨lim.keeps x.toInCall.keep,codeAny_func ?_⟩;obtain ⟨t,ht,hq⟩:=hbody A outer s H vs Q E (hr.deeper _) hsp;have I:Inv (cxOf CX P w K mg base N qual scope f cdv A outer s H E) [] (start N vs) H s1:=gY_ S hr.hd e0 hl r x;refine wpAny_mono (ht [] s1 (start N vs) H _ I tk1 hq) (fun fl s' hs=>?_) fun e s' hs=>hs;have fin : ∀ {σ':St}{H':Hp}{v:V}{u:Value},Inv (cxOf CX P w K mg base N qual scope f cdv A outer s H E) [] σ' H' s'->RelV v u->Q v H'->CE outer P w H s Q u s' :=
  fun {σ' H' v u} J rv q=>⟨v,H',J.os,J.bare,J.base,J.hok,rv,q⟩
 cases fl with
 | ret u =>
  refine x_32 hs fun v σ' H' J rv q=>?_;exact fin J rv q
 | next =>
  refine x_21 hs fun σ' H' J q=>?_;exact fin (v:=V.non) (u:=Value.none) J rfl q
 | brk =>
  refine x_21 hs fun _ _ _ q=>?_;exact False.elim q
 | cont =>
 refine x_21 hs fun _ _ _ q=>?_;exact False.elim q
theorem Fun.okT {P:Program}{w:World}{K:Frag}{mg:zM}{base:Heap}{x qual:Str}{st:Stmt}{f:Addr}{fd:FuncData}{N ps:List Str}{k:Nat}{sp:Sp} (F:Fun K x qual st f fd) (S:FnScope N ps (ag_ st)) (len : ∀ vs H Q E,sp vs H Q E->vs.length=ps.length)
  (hbody : ∀ (cdv:Value) (A:Around) (outer:List Env) (s:Shared) (H:Hp) (vs:List V) (Q:VK) (E:XK),Room k (A.deeper (envOfC qual (ag_ st) s.heap.objs.size f cdv))->sp vs H Q E ->
   ∃ t,PSsT (cxOf CX0 P w K mg base N qual (ag_ st) f cdv A outer s H E).nox (bV_ st) t/\t { nx:=fun _ H'=>Q .non H',rt:=Q } (start N vs) H):FnOkT P w K mg base CX0 (k+1) f fd ps sp:=by
 refine x_90 F.ex fun oc od kV doc pm an cdv ct osl zy=>x_02 zy fun zr9 lk hcd=>?_;subst zr9;refine pa_ lk hcd S len fun A outer s H vs Q E hr hsp=>?_;obtain ⟨t,h,q⟩:=hbody cdv A outer s H vs Q E hr hsp;exact ⟨t,h.nox,q⟩
end
end L2
namespace L2
open PySem PySem.Spec PyProof.Rows TL
structure FG (K:Frag) (mg:zM) (x:Str) (st:Stmt) (ps:List Str) (f:Addr) (fd:FuncData):Prop where
 mg:mg x=some (.ref f)
 fn:Fun K x x st f fd
 b:bb_ K fd ps []
theorem Room.m {j k:Nat}{A:Around} (r:Room k A) (h:j<=k:=by decide):Room j A:=r.mono h
theorem pla:PlainAttrs "list":=PySem.F.plainAttrs_list
theorem sla:Slot "list" "append" "list.append":=PySem.F.slot_list_append
theorem tla:typeOf (.builtin "list.append")=pure (.type "method_descriptor"):=PySem.F.type_list_append
theorem slp:Slot "list" "pop" "list.pop":=PySem.F.slot_list_pop
theorem tlp:typeOf (.builtin "list.pop")=pure (.type "method_descriptor"):=PySem.F.type_list_pop
theorem aF_ {X:Cx}{CX:CXT}{k:Nat}{E:XK}{x:Str}{p pos:Pos}{e:Expr}{es:List Expr}{t:TA}{f:Addr}{fd:FuncData}{ps:List Str}{sp:Sp}{st:Stmt} (F:FG X.K X.mg x st ps f fd) (G:FnOk X.prog X.w X.K X.mg X.base CX k f fd ps sp) (hr:Room k X.A) (hx:bR_ CX X E) (ha:PA X (e::es) t)
  (hg:Gl X x:=by rfl) (hdb:(x == ("__debug__":Str))=false:=by decide) (he:starEach (e::es) X.env=(false,eval e X.env)::starEach es X.env:=by rfl) (hpl:(backTo pos (starEach es X.env)).any (·.1)=false:=by rfl):PE X (.Call (.Name x p) (e::es) [] pos) (iM_ sp [] E t):=fP_ G hr hg F.mg F.fn.kp F.b .nil hx ha hdb he hpl
theorem aA_ {X:Cx}{pos pos':Pos} (i:Nat) {x:Str}{e:Expr}{te:TE} (hN:X.N.Nodup) (he:PE X e te) (hi:X.N[i]? = some x:=by rfl) (hx:Loc X.env.scope x:=by exact Or.inl rfl) (hs:swapsWith e (some (.Name x pos')) pos.line X.env=pure false:=by rfl) (hf:X.fn x=true\/X.env.scope.names.lookup x=some .local:=by first | exact .inl rfl | exact .inr rfl | assumption):PS X (.Assign [.Name x pos'] e pos) (tAsg te (dQ_ i)):=ia_ hN hi hx he hs hf
theorem pg_q {X:Cx}{pos:Pos} (i:Nat) {x:Str} (hN:X.N.Nodup) (hi:X.N[i]? = some x:=by rfl) (hx:Loc X.env.scope x:=by exact Or.inl rfl) (hf:X.fn x=true\/X.env.scope.names.lookup x=some .local:=by first | exact .inl rfl | exact .inr rfl | assumption):PG X (.Name x pos) (dQ_ i):=kd_ hN hi hx hf
theorem dA_:bootBuiltins "ord"=some (.builtin "ord"):=by left
theorem ha_:bootBuiltins "all"=some (.builtin "all"):=by left
theorem lc_:bootBuiltins "max"=some (.builtin "max"):=by left
theorem cz_:bootBuiltins "int"=some (.type "int"):=by left
theorem cy_:bootBuiltins "str"=some (.type "str"):=by left
def bs (t:List Nat):List V:=t.map fun (n:Nat)=>V.int (n:Int)
def S (l:List Nat):Str:=⟨l.toArray⟩
theorem tl_S (l:List Nat):tl (S l)=l:=rfl
theorem a5_ (l:List Nat):(S l).length=l.length:=by rw [dp_,tl_S]
theorem b3_ (t:List Nat):(bs t).length=t.length:=by unfold bs;rw [length_map]
theorem d1_ {t:List Nat}{i c:Nat} (h:t[i]? = some c):(bs t)[i]? = some (V.int (c:Int)):=by unfold bs;rw [getElem?_map,h];rfl
theorem ob_ (t:List Nat) (i:Nat):(bs t).drop i=bs (t.drop i):=by unfold bs;rw [List.map_drop]
theorem oa_ (t:List Nat) (i:Nat):(bs t).take i=bs (t.take i):=by unfold bs;rw [List.map_take]
def spB (b:Nat->Bool):Sp:=fun vs H Q _=>∃ n:Nat,vs=[.int (n:Int)]/\Q (.bl (b n)) H
def li_ (P:Program) (w:World) (K:Frag) (mg:zM) (base:Heap) (k:Nat) (f:Addr) (b:Nat->Bool):Prop :=
 ∃ fd ps,FnOk P w K mg base CX0 k f fd ps (spB b)/\bb_ K fd ps []/\keepIn K (.ref f)=true
theorem Same.rd {H H':Hp}{a:Addr}{u:HO} (e:Same H H') (h:Rd H a u):Rd H' a u:=by
 rcases h with h | ⟨o,h⟩
 ·exact .inl (e _ _ h)
 exact .inr ⟨o,e _ _ h⟩
theorem Same.upd {H:Hp}{a:Addr}{o:HO} (h:H a=none):Same H (L2.upd H a o):=fun b u e=>by rw [am_ (af_ e h)];exact e
theorem cc_ {b:Bool}{A B:Prop} (h1:b=true->A) (h2:b=false->B):if b=true then A else B:=by
 cases b with
 | true=>exact iteT (h1 rfl)
 | false=>exact iteF (h2 rfl)
end L2
namespace L2
open PySem PySem.Spec PyProof.Rows TL
theorem oZ_ {J:It}{g:TG}{tt:TT}{te:TE}{vs:List Nat}{σ:St}{H1:Hp}{D:Addr}{Qd:Hp->Prop} (xs:List V) (f:V->V) (hD:H1 D=none) (hn:xs.length<=sizeLine)
  (hgo : ∀ i x H,Same H1 H->xs[i]? = some x->J.go i H/\∀ y H',J.yld i H y H'->H'=H/\y=x) (hst : ∀ H,Same H1 H->J.stop xs.length H)
  (hs : ∀ x H acc (Nx:Hp->Prop),x∈xs->Same H1 H->H D=some (.lst acc)->acc.length<sizeLine->(∀ H',Same H H'->Nx (upd H' D (.lst (acc++[f x])))) ->
   g x (wipe σ vs) H fun σ2 H2=>wipe σ2 vs=wipe σ vs/\tt σ2 H2 fun b H3=>if b=true then te σ2 H3 fun y H4=>∃ acc,H4 D=some (.lst acc)/\acc.length<sizeLine/\Nx (upd H4 D (.lst (acc++[y]))) else Nx H3)
  (hd : ∀ H,Same H1 H->H D=some (.lst (xs.map f))->Qd H) :
  ∃ W:Nat->Nat->Hp->Prop,(∃ m,W 0 m (upd H1 D (.lst [])))/\∀ i m H,W i m H ->
   (J.stop i H/\Qd H)\/(J.go i H/\∃ Nx:Hp->Prop,(∀ H',Nx H'->∃ m',m'<m/\W (i+1) m' H')/\∀ x H',J.yld i H x H'->g x (wipe σ vs) H' fun σ2 H2=>wipe σ2 vs=wipe σ vs/\tt σ2 H2 fun b H3 =>
    if b=true then te σ2 H3 fun y H4=>∃ acc,H4 D=some (.lst acc)/\acc.length<sizeLine/\Nx (upd H4 D (.lst (acc++[y]))) else Nx H3):=by
 refine ⟨fun i m H=>m=xs.length - i/\i<=xs.length/\Same H1 H/\H D=some (.lst ((xs.take i).map f)),⟨_,rfl,zero_le _,Same.upd hD,ad_⟩,?_⟩
 rintro i m H ⟨rfl,hi,sm,hd1⟩
 by_cases hlt:i<xs.length
 ·have hx:xs[i]? = some xs[i]:=getElem?_eq_getElem hlt
  obtain ⟨go,yl⟩:=hgo i xs[i] H sm hx;refine .inr ⟨go,fun H'=>Same H1 H'/\H' D=some (.lst ((xs.take (i+1)).map f)),fun H' z=>⟨_,by omega,rfl,hlt,z.1,z.2⟩,fun y H' q=>?_⟩;obtain ⟨rfl,rfl⟩:=yl y H' q;refine hs _ H' _ _ (List.getElem_mem hlt) sm hd1 (by rw [length_map,length_take];omega) fun H2 s2=>⟨fun b o e=>?_,?_⟩
  ·rw [am_ (af_ e hD)]
   exact s2 _ _ (sm _ _ e)
  rw [ad_,take_succ,hx,map_append];rfl
 have e:i=xs.length:=by omega
 subst e;rw [take_length] at hd1;exact .inl ⟨hst H sm,hd H sm hd1⟩
theorem kO_ {K:Frag}{a:Addr}{xs:List V}{H1:Hp} (h:SqL K H1 a xs):(∀ i x H,Same H1 H->xs[i]? = some x->(Itl K a).go i H/\∀ y H',(Itl K a).yld i H y H'->H'=H/\y=x)/\∀ H,Same H1 H->(Itl K a).stop xs.length H :=
 ⟨fun i x H sm e=>⟨⟨xs,x,sm.seq h,e⟩,fun y H' ⟨e1,e2⟩=>⟨e1,Option.some.inj ((e2 xs (by subst e1;exact sm.seq h)).symm.trans e)⟩⟩,fun H sm=>⟨xs,sm.seq h,Nat.le_refl _⟩⟩
theorem kM_ {x:Str}{H1:Hp}:(∀ i y H,Same H1 H->((tl x).map fun c=>V.str ⟨#[c]⟩)[i]? = some y->(Its x).go i H/\∀ z H',(Its x).yld i H z H'->H'=H/\z=y)/\∀ H,Same H1 H->(Its x).stop ((tl x).map fun c=>V.str ⟨#[c]⟩).length H:=by
 refine ⟨fun i y H sm e=>?_,fun H sm=>?_⟩
 ·rw [getElem?_map] at e
  cases q:(tl x)[i]? with
  | none=>rw [q] at e;cases e
  | some c =>
  rw [q] at e;cases e;have q':x.cps[i]? = some c:=by rw [<- Array.getElem?_toList];exact q
  refine ⟨?_,?_⟩
  ·show i<x.cps.size
   exact (Array.getElem?_eq_some_iff.mp q').1
  rintro z H' ⟨e1,c',e2,e3⟩
  rw [q'] at e2;cases e2;exact ⟨e1,e3⟩
 show x.cps.size<=_;simp
end L2
namespace L2
open PySem PySem.Spec PyProof.Rows TL
theorem cx_K {CX:CXT}{P:Program}{w:World}{K:Frag}{mg:zM}{base:Heap}{N:List Str}{qual:Str}{scope:Scope}{f:Addr}{cd:Value}{A:Around}{outer:List Env}{s:Shared}{H:Hp}{E:XK}:(cxOf CX P w K mg base N qual scope f cd A outer s H E).K=K:=rfl
theorem cx_P {CX:CXT}{P:Program}{w:World}{K:Frag}{mg:zM}{base:Heap}{N:List Str}{qual:Str}{scope:Scope}{f:Addr}{cd:Value}{A:Around}{outer:List Env}{s:Shared}{H:Hp}{E:XK}:(cxOf CX P w K mg base N qual scope f cd A outer s H E).prog=P:=rfl
theorem cx_w {CX:CXT}{P:Program}{w:World}{K:Frag}{mg:zM}{base:Heap}{N:List Str}{qual:Str}{scope:Scope}{f:Addr}{cd:Value}{A:Around}{outer:List Env}{s:Shared}{H:Hp}{E:XK}:(cxOf CX P w K mg base N qual scope f cd A outer s H E).w=w:=rfl
theorem pF_ {CX:CXT}{P:Program}{w:World}{K:Frag}{mg:zM}{base:Heap}{N:List Str}{qual:Str}{scope:Scope}{f:Addr}{cd:Value}{A:Around}{outer:List Env}{s:Shared}{H:Hp}{E:XK}:(cxOf CX P w K mg base N qual scope f cd A outer s H E).mg=mg:=rfl
theorem n6_ {CX:CXT}{P:Program}{w:World}{K:Frag}{mg:zM}{base:Heap}{N:List Str}{qual:Str}{scope:Scope}{f:Addr}{cd:Value}{A:Around}{outer:List Env}{s:Shared}{H:Hp}{E:XK}:(cxOf CX P w K mg base N qual scope f cd A outer s H E).base=base:=rfl
theorem cx_N {CX:CXT}{P:Program}{w:World}{K:Frag}{mg:zM}{base:Heap}{N:List Str}{qual:Str}{scope:Scope}{f:Addr}{cd:Value}{A:Around}{outer:List Env}{s:Shared}{H:Hp}{E:XK}:(cxOf CX P w K mg base N qual scope f cd A outer s H E).N=N:=rfl
theorem aI_ (s:String):ofString s=S (Vaunid.txt s):=ci_ (by rw [hk_,tl_S];rfl)
theorem ce_ {l m:List Nat}:(S l=S m)=(l=m):=propext ⟨fun e=>by have:=congrArg tl e;exact this,fun e=>by rw [e]⟩
theorem S_eq (l:List Nat) (s:String):(S l=ofString s)=(l=Vaunid.txt s):=by rw [aI_,ce_]
theorem nH_ (c:Nat):(⟨#[c]⟩:Str).length=1:=rfl
theorem nI_ (c:Nat):(⟨#[c]⟩:Str).cps.getD 0 0=c:=rfl
theorem e7_ (l:List Nat):(S l).cps.toList=l:=rfl
theorem hF_ (n c:Nat):decide ((n:Int)=(c:Int))=(n == c):=by
 rw [Bool.eq_iff_iff];simp;omega
end L2
namespace L2
open PySem PySem.Spec PyProof.Rows TL
theorem gp_ {wi:TI}{g:TG}{tt:TT}{te:TE}{vs:List Nat}{σ:St}{H H1:Hp}{Q:VK} (J:It) (xs:List V) (f:V->V) (hw : ∀ R:It->Hp->Prop,R J H1->wi σ H R) (hn:xs.length<=sizeLine)
  (hgo:(∀ i x H,Same H1 H->xs[i]? = some x->J.go i H/\∀ y H',J.yld i H y H'->H'=H/\y=x)/\∀ H,Same H1 H->J.stop xs.length H)
  (hs : ∀ x H D acc (Nx:Hp->Prop),x∈xs->Same H1 H->H D=some (.lst acc)->acc.length<sizeLine->(∀ H',Same H H'->Nx (upd H' D (.lst (acc++[f x])))) ->
   g x (wipe σ vs) H fun σ2 H2=>wipe σ2 vs=wipe σ vs/\tt σ2 H2 fun b H3=>if b=true then te σ2 H3 fun y H4=>∃ acc,H4 D=some (.lst acc)/\acc.length<sizeLine/\Nx (upd H4 D (.lst (acc++[y]))) else Nx H3)
  (hd : ∀ D H,H1 D=none->Same H1 H->H D=some (.lst (xs.map f))->Q (.ref D) H):tLc wi g tt te vs σ H Q :=
 hw _ fun D hD=>oZ_ xs f hD hn hgo.1 hgo.2 (fun x H acc Nx h1 h2 h3 h4 h5=>hs x H D acc Nx h1 h2 h3 h4 h5) fun H s e=>hd D H hD s e
end L2
namespace L2
open PySem PySem.Spec PyProof.Rows TL
theorem b5_ {c:TT}{tb:TS}{D:Ends}{σ:St}{H:Hp} (Pv:Nat->St->Hp->Prop) (m0:Nat) (h0:Pv m0 σ H)
  (hs : ∀ m σ H,Pv m σ H->c σ H fun b H1=>if b=true then ∃ N:St->Hp->Prop,(∀ σ' H',N σ' H'->∃ m',m'<m/\Pv m' σ' H')/\tb { D with nx:=N,ct:=N,bk:=D.nx } σ H1 else D.nx σ H1):mv_ c tb D σ H :=
 ⟨Pv,⟨m0,h0⟩,hs⟩
end L2
namespace M
open PySem PySem.Spec PyProof.Rows L2 TL
open Vaunid (isSmall isDigit inWord)
def az_ (l:List Nat):Bool := !l.isEmpty && (decide (l.length<=12) && (isSmall (l.headD 0) && l.all inWord))
noncomputable def bm_ (b:List Nat):Bool:=let d:=if b.head? = some 45 then b.tail else b;!d.isEmpty && (decide (d.length<=2) && d.all isDigit)
noncomputable def av_ (f:List Nat):Bool:=f == [49] || (if f.contains 94=true then az_ (f.takeWhile (· != 94)) && bm_ ((f.dropWhile (· != 94)).drop 1) else az_ f)
def sep (c:Nat):Bool:=c == 46 || c == 47
def nsep (c:Nat):Bool := !sep c
def cut (p:Nat->Bool):List Nat->List Nat->List (List Nat)
 | acc,[]=>[acc]
 | acc,c::r=>if p c=true then acc::cut p [] r else cut p (acc++[c]) r
def bS_ (c:Nat):Nat:=if c=47 then 46 else c
theorem jL_ (S:List Nat) : ∀ (k:Nat) (acc l:List Nat),spl S k acc l≠[]
 | k,acc,[]=>by rw [cZ_];simp
 | 0,acc,c::r=>by
  cases h:pre S (c::r) with
  | true=>rw [fH_ h];simp
  | false=>rw [ed_ h];exact jL_ S 0 _ r
 | k+1,acc,c::r=>by
  rw [ec_];show spl S 0 acc (r.drop k)≠[];rw [<- ec_];exact jL_ S k acc r
theorem fN_ (s c:Nat) (r:List Nat):pre [s] (c::r)=(c == s):=by
 unfold pre;show ([c] == [s])=_;simp
theorem i4_ (S p:List Nat) {q:List (List Nat)} (h:q≠[]):dO_ S (p::q)=p++(S++dO_ S q):=by
 cases q with
 | nil=>exact absurd rfl h
 | cons a r=>rfl
theorem cu_ : ∀ (l acc:List Nat),dO_ [46] (spl [47] 0 acc l)=acc++l.map bS_
 | [],acc=>by rw [cZ_];simp [dO_]
 | c::r,acc=>by
  by_cases h:c=47
  ·subst h
   rw [fH_ (by rw [fN_];rfl),i4_ _ _ (jL_ _ _ _ _)];show acc++([46]++dO_ [46] (spl [47] 0 [] r))=_;rw [cu_ r []];rfl
  rw [ed_ (by rw [fN_];simpa using h),cu_ r,append_assoc];show acc++(c::r.map bS_)=acc++(bS_ c::r.map bS_);rw [show bS_ c=c from if_neg h]
theorem fi_ (x:Str) : ¬ Builtin.Str.strKind x<Builtin.Str.strKind (ofString "/"):=kx_ (by left)
theorem l4_ (x:Str) : ¬ Builtin.Str.strKind x<Builtin.Str.strKind (ofString "."):=kx_ (by left)
theorem ez_ (l:List Nat):(Txt.split (S l) (ofString "/")).map tl=spl [47] 0 [] l:=gr_ (S l) (ofString "/") (by left) (fi_ _)
theorem eA_ (l:List Nat):(Txt.split (S l) (ofString ".")).map tl=spl [46] 0 [] l:=gr_ (S l) (ofString ".") (by left) (l4_ _)
theorem eH_ (l:List Nat):Txt.replace (S l) (ofString "/") (ofString ".")=S (l.map bS_):=by
 cases l with
 | nil=>left
 | cons c r =>
 have e:Txt.replace (S (c::r)) (ofString "/") (ofString ".")=Str.join (ofString ".") (Txt.split (S (c::r)) (ofString "/")):=by
  unfold Txt.replace Txt.split;have h1:(decide ((S (c::r)).length<(ofString "/").length) || decide (Builtin.Str.strKind (S (c::r))<Builtin.Str.strKind (ofString "/")))=false:=by
   rw [decide_eq_false (fi_ _),a5_,decide_eq_false]
   ·rfl
   rw [length_cons,show (ofString "/").length=1 by left];omega
  have h2:((ofString "/").length == 0 && (ofString ".").length == 0)=false:=by left
  rw [h1,h2,Bool.or_false];cases hc:(Builtin.Str.occurrences (S (c::r)) (ofString "/") 0 (S (c::r)).length ((S (c::r)).length+1)).isEmpty with
  | true=>rfl
  | false =>
  simp only [false_eq_true,if_false];exact StrLaws.glued_eq_join _ _
 refine ci_ ?_;rw [e,fE_,ez_];show dO_ [46] _=_;rw [cu_];rfl
theorem hm_ : ∀ (l acc:List Nat),spl [46] 0 acc (l.map bS_)=cut sep acc l
 | [],acc=>by rw [map_nil,cZ_];rfl
 | c::r,acc=>by
  rw [map_cons];show _=if sep c=true then acc::cut sep [] r else cut sep (acc++[c]) r;by_cases h:sep c=true
  ·have hu:bS_ c=46:=by
    unfold sep at h;unfold bS_;rcases or_eq_true_iff.mp h with q | q
    ·rw [eq_of_beq q];rfl
    rw [eq_of_beq q];rfl
   rw [if_pos h,hu,fH_ (by rw [fN_];rfl)];exact congrArg (acc :: ·) (hm_ r [])
  have h2 : ¬ c=46/\¬ c=47:=by
   unfold sep at h;simpa using h
  rw [if_neg h,show bS_ c=c from if_neg h2.2,ed_ (by rw [fN_];simpa using h2.1)];exact hm_ r _
theorem k5_ : ∀ (l acc:List Nat),cut sep acc l=(acc++l.takeWhile nsep)::(match l.dropWhile nsep with | []=>[] | _::r=>cut sep [] r)
 | [],acc=>by simp [cut]
 | c::r,acc=>by
  show (if sep c=true then acc::cut sep [] r else cut sep (acc++[c]) r)=_;by_cases h:sep c=true
  ·have h2:nsep c=false:=by unfold nsep;rw [h];rfl
   rw [if_pos h,takeWhile_cons,dropWhile_cons,h2];simp
  have h2:nsep c=true:=by unfold nsep;simpa using h
  rw [if_neg h,k5_ r,takeWhile_cons,dropWhile_cons,h2];simp
theorem eP_ {c:Nat} (h:inWord c=true):nsep c=true:=by
 unfold nsep sep;by_cases h1:c=46
 ·subst h1;revert h;decide
 by_cases h2:c=47
 ·subst h2;revert h;decide
 simp [h1,h2]
theorem jk_ {c:Nat} (h:isDigit c=true):nsep c=true:=eP_ (by unfold inWord;rw [h];simp)
theorem g1_ {c:Nat} (h:inWord c=true):c≠94:=by
 intro e;subst e;revert h;decide
theorem et_ {p:Nat->Bool} (l:List Nat) : ∀ x∈l.takeWhile p,p x=true:=fun x hx=>by
 induction l with
 | nil=>simp at hx
 | cons c r ih =>
 rw [takeWhile_cons] at hx;split at hx
 ·rcases mem_cons.mp hx with e | e
  ·subst e;assumption
  exact ih e
 simp at hx
theorem eV_ {p:Nat->Bool} : ∀ (l:List Nat) {e:Nat}{s:List Nat},l.dropWhile p=e::s->p e=false
 | [],e,s,h=>by simp at h
 | c::r,e,s,h=>by
  rw [dropWhile_cons] at h;split at h
  ·exact eV_ r h
  cases h;rename_i q;simpa using q
def goes (K:List Nat->Bool) (o:Option (List Nat)):Bool:=match o with
 | none=>false
 | some []=>true
 | some (c::r)=>sep c && K r
def after (K:List Nat->Bool) (l:List Nat):Bool:=match l with
 | []=>true
 | _::r=>K r
theorem c7_ (K:List Nat->Bool) (s:List Nat) :
  goes K (if (s.takeWhile isDigit).length=1\/(s.takeWhile isDigit).length=2 then some (s.dropWhile isDigit) else none) =
   ((!(s.takeWhile nsep).isEmpty && (decide ((s.takeWhile nsep).length<=2) && (s.takeWhile nsep).all isDigit)) && after K (s.dropWhile nsep)):=by
 have hs:s=s.takeWhile isDigit++s.dropWhile isDigit:=takeWhile_append_dropWhile.symm;have hd:=et_ (p:=isDigit) s;generalize hdd:s.takeWhile isDigit=d at hs hd;generalize hrr:s.dropWhile isDigit=rest at hs;have hn : ∀ x∈d,nsep x=true:=fun x hx=>jk_ (hd x hx);have e1:s.takeWhile nsep=d++rest.takeWhile nsep:=by rw [hs,takeWhile_append_of_pos hn]
 have e2:s.dropWhile nsep=rest.dropWhile nsep:=by rw [hs,List.dropWhile_append_of_pos hn]
 rw [e1,e2];have hall:d.all isDigit=true:=all_eq_true.mpr hd;have small:(!d.isEmpty && decide (d.length<=2))=decide (d.length=1\/d.length=2):=by
  match d with
  | []=>rfl
  | [_]=>rfl
  | [_,_]=>rfl
  | _::_::_::r=>simp
 cases rest with
 | nil =>
  rw [List.takeWhile_nil,List.dropWhile_nil,append_nil,hall,Bool.and_true,small];by_cases q:d.length=1\/d.length=2
  ·rw [if_pos q,decide_eq_true q];rfl
  rw [if_neg q,decide_eq_false q];rfl
 | cons e r =>
 have he:isDigit e=false:=eV_ s hrr;by_cases hs2:sep e=true
 ·have hn2:nsep e=false:=by unfold nsep;rw [hs2];rfl
  rw [takeWhile_cons,dropWhile_cons,hn2];simp only [false_eq_true,if_false,append_nil];rw [hall,Bool.and_true,small];by_cases q:d.length=1\/d.length=2
  ·rw [if_pos q,decide_eq_true q]
   show (sep e && K r)=_;rw [hs2];rfl
  rw [if_neg q,decide_eq_false q];rfl
 have hn2:nsep e=true:=by unfold nsep;simpa using hs2
 have ha:(d++(e::r).takeWhile nsep).all isDigit=false:=by
  rw [takeWhile_cons,hn2,List.all_append];simp [he]
 rw [ha];simp only [Bool.and_false,Bool.false_and];by_cases q:d.length=1\/d.length=2
 ·rw [if_pos q]
  show (sep e && K r)=false;simp [hs2]
 rw [if_neg q];rfl
theorem iR_ (K:List Nat->Bool) (s:List Nat):goes K (Vaunid.powerText s)=(bm_ (s.takeWhile nsep) && after K (s.dropWhile nsep)):=by
 match s with
 | []=>exact c7_ K []
 | c::r =>
  by_cases h:c=45
  ·subst h
   have e:=c7_ K r;have e1:(45::r).takeWhile nsep=45::r.takeWhile nsep:=rfl;have e2:(45::r).dropWhile nsep=r.dropWhile nsep:=rfl;rw [e1,e2];exact e
  have e:=c7_ K (c::r);have e3:Vaunid.powerText (c::r)=if ((c::r).takeWhile isDigit).length=1\/((c::r).takeWhile isDigit).length=2 then some ((c::r).dropWhile isDigit) else none:=by
   unfold Vaunid.powerText;dsimp only;split
   ·rename_i q;cases q;exact absurd rfl h
   rfl
  rw [e3,e];have e4:bm_ ((c::r).takeWhile nsep)=(!((c::r).takeWhile nsep).isEmpty && (decide (((c::r).takeWhile nsep).length<=2) && ((c::r).takeWhile nsep).all isDigit)):=by
   unfold bm_;have hh : ¬ ((c::r).takeWhile nsep).head? = some 45:=by
    rw [takeWhile_cons];split
    ·simpa using h
    simp
   simp only [if_neg hh]
  rw [e4]
theorem dH_ {c:Nat} (h:isSmall c=true):inWord c=true:=by unfold inWord;rw [h];rfl
theorem eG_ {l:List Nat}{e:Nat} (h:e∈l) (he:inWord e=false):az_ l=false:=by
 unfold az_;have:l.all inWord=false:=List.all_eq_false.mpr ⟨e,h,by rw [he];simp⟩;rw [this];simp
theorem cF_ {c:Nat}{r:List Nat} (h:isSmall c=false):az_ (c::r)=false:=by
 unfold az_;rw [headD_cons,h];simp
theorem hK_ (K:List Nat->Bool) (t:List Nat):goes K (factorText t)=(av_ (t.takeWhile nsep) && after K (t.dropWhile nsep)):=by
 match t with
 | []=>rfl
 | c::r =>
  unfold factorText;dsimp only;by_cases h49:c=49
  ·subst h49
   simp only [if_true];have e1:(49::r).takeWhile nsep=49::r.takeWhile nsep:=rfl;have e2:(49::r).dropWhile nsep=r.dropWhile nsep:=rfl;rw [e1,e2];cases r with
   | nil=>rfl
   | cons d r2 =>
   by_cases hs:sep d=true
   ·have hn:nsep d=false:=by unfold nsep;rw [hs];rfl
    rw [takeWhile_cons,dropWhile_cons,hn];show (sep d && K r2)=(av_ [49] && K r2);rw [hs];rfl
   have hn:nsep d=true:=by unfold nsep;simpa using hs
   have hf:av_ (49::(d::r2).takeWhile nsep)=false:=by
    unfold av_;rw [takeWhile_cons,hn];simp only [if_true];have h1:((49::d::r2.takeWhile nsep) == [49])=false:=by simp
    rw [h1,Bool.false_or];split
    ·have:(49::d::r2.takeWhile nsep).takeWhile (· != 94)=49::(d::r2.takeWhile nsep).takeWhile (· != 94):=rfl
     rw [this,cF_ (by decide)];rfl
    exact cF_ (by decide)
   rw [hf];show (sep d && K r2)=_;simp [hs]
  rw [if_neg h49];cases hsm:isSmall c with
  | false =>
   simp only [if_true];show false=_;by_cases hs:sep c=true
   ·have hn:nsep c=false:=by unfold nsep;rw [hs];rfl
    rw [takeWhile_cons,hn];rfl
   have hn:nsep c=true:=by unfold nsep;simpa using hs
   have hf:av_ ((c::r).takeWhile nsep)=false:=by
    rw [takeWhile_cons,hn];simp only [if_true];unfold av_;have h1:((c::r.takeWhile nsep) == [49])=false:=by simp [h49]
    rw [h1,Bool.false_or];split
    ·rw [takeWhile_cons]
     split
     ·rw [cF_ hsm];rfl
     rfl
    exact cF_ hsm
   rw [hf];rfl
  | true =>
  simp only [Bool.true_eq_false,if_false];have hs:c::r=(c::r).takeWhile inWord++(c::r).dropWhile inWord:=takeWhile_append_dropWhile.symm;have hw:(c::r).takeWhile inWord=c::r.takeWhile inWord:=by rw [takeWhile_cons,dH_ hsm];rfl
  have hd:=et_ (p:=inWord) (c::r);have hrest:=fun {e s}=>eV_ (p:=inWord) (c::r) (e:=e) (s:=s);generalize hww:(c::r).takeWhile inWord=ww at hs hd hw;generalize (c::r).dropWhile inWord=rest at hs hrest;have hn : ∀ x∈ww,nsep x=true:=fun x hx=>eP_ (hd x hx);have e1:(c::r).takeWhile nsep=ww++rest.takeWhile nsep:=by rw [hs,takeWhile_append_of_pos hn]
  have e2:(c::r).dropWhile nsep=rest.dropWhile nsep:=by rw [hs,List.dropWhile_append_of_pos hn]
  have hall:ww.all inWord=true:=all_eq_true.mpr hd;have h94 : ∀ x∈ww,(x != 94)=true:=fun x hx=>by simpa using g1_ (hd x hx)
  have hshort:az_ ww=decide (ww.length<=12):=by
   unfold az_;rw [hall,hw,headD_cons,hsm];simp
  have hno:ww.contains 94=false:=by
   cases q:ww.contains 94 with
   | false=>rfl
   | true=>exact absurd rfl (g1_ (hd 94 (List.contains_iff_mem.mp q)))
  have h1 : ∀ x,((ww++x) == [49])=false:=fun x=>by
   rw [hw];simp [h49]
  have hfw:av_ ww=decide (ww.length<=12):=by
   unfold av_;have:=h1 [];rw [append_nil] at this;rw [this,Bool.false_or,hno];simp [hshort]
  rw [e1,e2];cases rest with
  | nil =>
   rw [List.takeWhile_nil,List.dropWhile_nil,append_nil,hfw];by_cases q:12<ww.length
   ·rw [if_pos (show MOSTSIGNS<ww.length from q),decide_eq_false (by omega)];rfl
   rw [if_neg (show ¬ MOSTSIGNS<ww.length from q),decide_eq_true (by omega)];rfl
  | cons e s =>
  have he:inWord e=false:=hrest rfl;by_cases hs2:sep e=true
  ·have hn2:nsep e=false:=by unfold nsep;rw [hs2];rfl
   have ne94:e≠94:=by intro z;subst z;revert hs2;decide
   rw [takeWhile_cons,dropWhile_cons,hn2];simp only [false_eq_true,if_false,append_nil];rw [hfw];by_cases q:12<ww.length
   ·rw [if_pos (show MOSTSIGNS<ww.length from q),decide_eq_false (by omega)];rfl
   rw [if_neg (show ¬ MOSTSIGNS<ww.length from q),decide_eq_true (by omega)];split
   ·rename_i z;cases z;exact absurd rfl ne94
   show (sep e && K s)=_;rw [hs2];rfl
  have hn2:nsep e=true:=by unfold nsep;simpa using hs2
  rw [takeWhile_cons,dropWhile_cons,hn2];simp only [if_true];by_cases h94e:e=94
  ·subst h94e
   have hf:av_ (ww++94::s.takeWhile nsep)=(decide (ww.length<=12) && bm_ (s.takeWhile nsep)):=by
    unfold av_;rw [h1,Bool.false_or,if_pos (by simp),takeWhile_append_of_pos h94,List.dropWhile_append_of_pos h94];simp [hshort]
   rw [hf];by_cases q:12<ww.length
   ·rw [if_pos (show MOSTSIGNS<ww.length from q),decide_eq_false (by omega)];rfl
   rw [if_neg (show ¬ MOSTSIGNS<ww.length from q),decide_eq_true (by omega)];simp only [Bool.true_and];exact iR_ K s
  have hf:av_ (ww++e::s.takeWhile nsep)=false:=by
   unfold av_;rw [h1,Bool.false_or];split
   ·have hne:(e != 94)=true:=by simpa using h94e
    rw [takeWhile_append_of_pos h94,takeWhile_cons,hne];rw [eG_ (e:=e) (by simp) he];rfl
   exact eG_ (e:=e) (by simp) he
  rw [hf];by_cases q:12<ww.length
  ·rw [if_pos (show MOSTSIGNS<ww.length from q)];rfl
  rw [if_neg (show ¬ MOSTSIGNS<ww.length from q)];split
  ·rename_i z;cases z;exact absurd rfl h94e
  show (sep e && K s)=_;simp [hs2]
theorem bZ_ : ∀ (n:Nat) (t:List Nat),t.length<n->measureText n t=(cut sep [] t).all av_
 | 0,t,h=>by omega
 | n+1,t,h=>by
  have e:measureText (n+1) t=goes (measureText n) (factorText t):=by
   show (match factorText t with | none=>false | some []=>true | some (c::r)=>(c == 46 || c == 47) && measureText n r)=_
   cases factorText t with
   | none=>rfl
   | some l=>cases l <;> rfl
  rw [e,hK_,k5_,nil_append,all_cons];have hl:t.length=(t.takeWhile nsep).length+(t.dropWhile nsep).length:=by rw [<- length_append,takeWhile_append_dropWhile]
  cases q:t.dropWhile nsep with
  | nil=>rfl
  | cons c r =>
  rw [q,length_cons] at hl;show (_ && measureText n r)=_;rw [bZ_ n r (by omega)]
theorem hP_ (p:Nat->Bool) : ∀ (l acc:List Nat),∀ f∈cut p acc l,f.length<=acc.length+l.length
 | [],acc,f,h=>by
  rw [mem_singleton.mp h];omega
 | c::r,acc,f,h=>by
  have h':f∈(if p c=true then acc::cut p [] r else cut p (acc++[c]) r):=h;rw [length_cons];split at h'
  ·rcases mem_cons.mp h' with e | e
   ·rw [e];omega
   have:=hP_ p r [] f e;rw [length_nil] at this;omega
  have:=hP_ p r _ f h';rw [length_append,length_singleton] at this;omega
theorem lp_ {p:List Nat->Bool}{l:List (List Nat)}{i:Nat}{x:List Nat} (h:l[i]? = some x):(l.take (i+1)).all p=((l.take i).all p && p x):=by
 rw [take_succ,h,List.all_append];simp
theorem pp_ {p:List Nat->Bool}{l:List (List Nat)}{i:Nat}{x:List Nat} (h:l[i]? = some x) (hx:p x=false):l.all p=false:=List.all_eq_false.mpr ⟨x,mem_of_getElem? h,by rw [hx];simp⟩
open Vaunid (isSmall isDigit inWord)
theorem pD_ (l:List Nat):NumText.digitsVal l=digitsValue l:=by
 unfold NumText.digitsVal digitsValue;have e:(fun (acc c:Nat)=>acc * 10+(c - 48))=fun n c=>10 * n+(c - 48):=by
  funext x y
  rw [mul_comm]
 rw [e]
theorem fw_ {l:List Nat} (h : ∀ c∈l,isDigit c=true):NumText.AllDigits l:=fun c hc=>by
 have:=h c hc;unfold isDigit at this;simpa using this
theorem kW_ : ∀ (l:List Nat) (n:Nat),(∀ c∈l,isDigit c=true)->l.foldl (fun n c=>10 * n+(c - 48)) n<(n+1) * 10 ^ l.length
 | [],n,_=>by simp
 | c::r,n,h=>by
  have hc:=fw_ h c (mem_cons_self ..);have ih:=kW_ r (10 * n+(c - 48)) fun x hx=>h x (mem_cons_of_mem _ hx);rw [foldl_cons,length_cons,Nat.pow_succ];refine Nat.lt_of_lt_of_le ih ?_;rw [mul_comm (10 ^ r.length) 10,<- Nat.mul_assoc];exact Nat.mul_le_mul_right _ (by omega)
theorem pC_ {l:List Nat} (h : ∀ c∈l,isDigit c=true):digitsValue l<10 ^ l.length:=by
 have:=kW_ l 0 h;rw [zero_add,Nat.one_mul] at this;exact this
theorem ff_ {a b:Nat} (h:a<=b):10 ^ a<=10 ^ b:=Nat.pow_le_pow_right (by decide) h
theorem pg_ {l:List Nat}{k:Nat} (h : ∀ c∈l,isDigit c=true) (hk:l.length<=k):digitsValue l<10 ^ k:=Nat.lt_of_lt_of_le (pC_ h) (ff_ hk)
theorem gZ_ {l:List Nat} (h : ∀ c∈l,isDigit c=true) (h1:l≠[]) (h2:l.length<=4300):intText? (S l)=some ((digitsValue l:Nat):Int):=by
 have e:=PySem.intText_digits (x:=S l) (fw_ h) h1 (by rw [a5_];exact h2);rw [show (S l).cps.toList=l from rfl,pD_] at e;exact e
theorem mh_ (n:Nat) : ∀ k,(List.replicate n 48).foldl (fun n c=>10 * n+(c - 48)) k=k * 10 ^ n:=by
 induction n with
 | zero=>intro k;simp
 | succ n ih =>
 intro k;rw [replicate_succ,foldl_cons,ih,Nat.pow_succ];show (10 * k+0) * 10 ^ n=k * (10 ^ n * 10);rw [add_zero,mul_comm 10 k,Nat.mul_assoc,mul_comm 10]
theorem pf_ (n:Nat):digitsValue (49::List.replicate n 48)=10 ^ n:=by
 unfold digitsValue;rw [foldl_cons,mh_];show (10 * 0+1) * 10 ^ n=_;simp
theorem fs_ (x:Array Nat) : ∀ (n:Nat) (acc:Array Nat),(List.replicate n x).foldl (· ++ ·) acc=acc++((List.replicate n x.toList).flatten).toArray
 | 0,acc=>by simp
 | n+1,acc=>by
  rw [replicate_succ,foldl_cons,fs_ x n,replicate_succ,flatten_cons];apply Array.ext';simp
theorem g5_ (n c:Nat):(List.replicate n [c]).flatten=List.replicate n c:=by
 induction n with
 | zero=>rfl
 | succ n ih=>rw [replicate_succ,flatten_cons,ih];rfl
theorem ks_ (n:Nat):Txt.mul (ofString "0") (n:Int)=S (List.replicate n 48):=by
 unfold Txt.mul;by_cases h:(n:Int)<1
 ·have:n=0:=by omega
  subst this;rw [if_pos h];rfl
 rw [if_neg h];have e0:((ofString "0").length == 0)=false:=by left
 rw [e0,Bool.or_false];by_cases h1:((n:Int) == 1)=true
 ·have:n=1:=by have:=eq_of_beq h1;omega
  subst this;rw [if_pos h1]
  left
 rw [if_neg h1];refine ci_ ?_;rw [Int.toNat_natCast];show (List.foldl (fun x1 x2=>x1++x2) #[] (List.replicate n (ofString "0").cps)).toList=List.replicate n 48;rw [fs_];rw [show (ofString "0").cps.toList=[48] by left,g5_];simp
noncomputable def frac (a:List Nat) (c:Nat) (b:List Nat):Option (Nat×Nat) :=
 let top:=if c=46 then digitsValue (a++b) else digitsValue a
 let low:=if c=47 then digitsValue b else if c=46 then 10 ^ b.length else 1
 let g:=Nat.gcd top low
 let good:=decide (a.length<=MOSTSIGNS) && (decide (b.length<=MOSTSIGNS) && (low != 0 && (fits (top / g) && fits (low / g))))
 if good=true then some (top / g,low / g) else none
def it_ (o u:Nat):Option (Nat×Nat):=if u=0 then none else if 10 ^ 12<=o / Nat.gcd o u\/10 ^ 12<=u / Nat.gcd o u then none else some (o / Nat.gcd o u,u / Nat.gcd o u)
theorem c5_ {a b:List Nat}{c:Nat} (ha:a.length<=12) (hb:b.length<=12) :
  frac a c b=it_ (if c=46 then digitsValue (a++b) else digitsValue a) (if c=47 then digitsValue b else if c=46 then 10 ^ b.length else 1):=by
 unfold frac it_;dsimp only;generalize (if c=46 then digitsValue (a++b) else digitsValue a)=o;generalize (if c=47 then digitsValue b else if c=46 then 10 ^ b.length else 1)=u;rw [decide_eq_true (show a.length<=MOSTSIGNS from ha),decide_eq_true (show b.length<=MOSTSIGNS from hb)];unfold fits;by_cases h0:u=0
 ·subst h0
  simp
 rw [if_neg h0];by_cases h1:10 ^ 12<=o / o.gcd u\/10 ^ 12<=u / o.gcd u
 ·rw [if_pos h1,if_neg]
  simp only [Bool.true_and,and_eq_true,bne_iff_ne,decide_eq_true_eq];omega
 rw [if_neg h1,if_pos];simp only [Bool.true_and,and_eq_true,bne_iff_ne,decide_eq_true_eq];omega
theorem eU_ {a b:List Nat}{c:Nat} (h:12<a.length\/12<b.length):frac a c b=none:=by
 unfold frac;dsimp only;rw [if_neg];simp only [and_eq_true,decide_eq_true_eq];have:MOSTSIGNS=12:=rfl;omega
noncomputable def afs (o u:Int) (m:Str):List (Str×V):=[("over",.int o),("under",.int u),("measure",.str m)]
def a2_ (C:Addr) (H:Hp) (a:Addr) (o u:Int) (m:List Nat):Prop:=∃ dx,H a=some (.ins C dx (afs o u (S m)))
theorem a2_.same {C:Addr}{H H':Hp}{a:Addr}{o u:Int}{m:List Nat} (h:a2_ C H a o u m) (s:Same H H'):a2_ C H' a o u m:=let ⟨dx,e⟩:=h;⟨dx,s _ _ e⟩
def bA_ (C:Addr) (names:List Str):Sp:=fun vs H Q _=>∃ (p dx:Addr) (args:List V),vs = .ref p::args/\args.length=names.length/\H p=some (.ins C dx [])/\Q .non (upd H p (.ins C dx (names.zip args)))
theorem aQ_ {H:Hp}{x dx:Addr}{o1 o2:HO} (h1:H x=none) (h2:H dx=none):Same H (upd (upd H dx o1) x o2):=fun b o e=>by rw [am_ (af_ e h1),am_ (af_ e h2)];exact e
def e2_ (C:Addr) (H:Hp) (Q:VK) (r:Option (Nat×Nat)):Prop:=match r with
 | none=>∀ H',Same H H'->Q .non H'
 | some (x,y)=>∀ (p:Addr) (H':Hp),Same H H'->a2_ C H' p (x:Int) (y:Int) []->Q (.ref p) H'
theorem e2_.mono {C:Addr}{H H1:Hp}{Q:VK}{r:Option (Nat×Nat)} (h:e2_ C H Q r) (s:Same H H1):e2_ C H1 Q r:=by
 cases r with
 | none=>exact fun H' s'=>h H' (s.trans s')
 | some p=>exact fun a H' s' q=>h a H' (s.trans s') q
end M
namespace L2
open PySem PySem.Spec PyProof.Rows TL
theorem pe_r {X:Cx}{x:Str}{a:Addr}{pos:Pos} (h:X.mg x=some (.ref a)) (hg:Gl X x:=by rfl) (hd:(x == ("__debug__":Str))=false:=by decide):PE X (.Name x pos) (tC (.ref a)):=kh_ hg h rfl hd
theorem few0 {n:Nat} (h:n<1000:=by decide):n<1000:=h
theorem few {f:Str}{v:V}{fs:List (Str×V)}{n:Nat} (h:fs.length<=n):(putF f v fs).length<=n+1:=Nat.le_trans (cb_ f v fs) (Nat.add_le_add_right h 1)
theorem few1 {f1:Str}{v1:V}:(putF f1 v1 []).length<1000:=Nat.lt_of_le_of_lt (few (n:=0) (Nat.le_refl _)) (by decide)
theorem few2 {f1 f2:Str}{v1 v2:V}:(putF f2 v2 (putF f1 v1 [])).length<1000:=Nat.lt_of_le_of_lt (few (few (n:=0) (Nat.le_refl _))) (by decide)
theorem few3 {f1 f2 f3:Str}{v1 v2 v3:V}:(putF f3 v3 (putF f2 v2 (putF f1 v1 []))).length<1000:=Nat.lt_of_le_of_lt (few (few (few (n:=0) (Nat.le_refl _)))) (by decide)
theorem few4 {f1 f2 f3 f4:Str}{v1 v2 v3 v4:V}:(putF f4 v4 (putF f3 v3 (putF f2 v2 (putF f1 v1 [])))).length<1000:=Nat.lt_of_le_of_lt (few (few (few (few (n:=0) (Nat.le_refl _))))) (by decide)
theorem nU_ (x:Int) (l:List Int):inV (.int x) (l.map V.int)=l.contains x:=by
 unfold inV
 induction l with
 | nil=>rfl
 | cons a r ih =>
 rw [map_cons,any_cons,ih,List.contains_cons];congr 1;show (a == x)=(x == a);exact Bool.beq_comm
theorem nT_ (x:Str) (l:List Str):inV (.str x) (l.map V.str)=l.any (· == x):=by
 unfold inV;rw [any_map];rfl
theorem flat_strs (l:List Str):(l.map V.str).all e6_=true:=by
 rw [all_map];exact all_eq_true.mpr fun _ _=>rfl
end L2
namespace M
open PySem PySem.Spec PyProof.Rows L2 TL
open Vaunid (isSmall isDigit inWord)
theorem bG_ (p:Nat->Bool) : ∀ l:List Nat,l.dropWhile p=l.drop (l.takeWhile p).length
 | []=>rfl
 | c::r=>by
  rw [dropWhile_cons,takeWhile_cons];split
  ·rw [bG_ p r,length_cons,drop_succ_cons]
  rfl
theorem d3_ (p:Nat->Bool) (l:List Nat):(l.takeWhile p).length<=l.length:=List.Sublist.length_le (List.takeWhile_sublist p)
theorem dS_ {t:List Nat}{i c:Nat} (h:t[i]? = some c):t.drop i=c::t.drop (i+1):=by
 obtain ⟨h1,h2⟩:=List.getElem?_eq_some_iff.mp h;rw [drop_eq_getElem_cons h1,h2]
theorem dm_ (s:List Nat):(numberText s).1=(match s.drop (s.takeWhile isDigit).length with
  | c::d::r=>if (c=47\/c=46)/\isDigit d=true then (s.takeWhile isDigit).length+(1+((d::r).takeWhile isDigit).length) else (s.takeWhile isDigit).length
  | _=>(s.takeWhile isDigit).length):=by
 unfold numberText;dsimp only;rw [bG_];generalize (s.takeWhile isDigit).length=n;generalize s.drop n=l
 match l with
 | []=>rfl
 | [c]=>rfl
 | c::d::r =>
  unfold secondRow;dsimp only;by_cases h:(c=47\/c=46)/\isDigit d=true
  ·simp only [if_pos h]
   rw [if_neg (by omega)]
  simp only [if_neg h,if_true,add_zero]
theorem ko_ {t:List Nat}{p:Nat} (h : ¬ p+((t.drop p).takeWhile isDigit).length+1<t.length):(numberText (t.drop p)).1=((t.drop p).takeWhile isDigit).length:=by
 rw [dm_,drop_drop];have hl:(t.drop (p+((t.drop p).takeWhile isDigit).length)).length<=1:=by rw [length_drop];omega
 generalize t.drop (p+((t.drop p).takeWhile isDigit).length)=l at hl
 match l,hl with
 | [],_=>rfl
 | [c],_=>rfl
 | _::_::_,hl=>simp at hl
theorem lY_ {t:List Nat}{p c d:Nat} (h1:t[p+((t.drop p).takeWhile isDigit).length]? = some c) (h2:t[p+((t.drop p).takeWhile isDigit).length+1]? = some d) :
  (numberText (t.drop p)).1=if (c=47\/c=46)/\isDigit d=true then ((t.drop p).takeWhile isDigit).length+(1+((t.drop (p+((t.drop p).takeWhile isDigit).length+1)).takeWhile isDigit).length) else ((t.drop p).takeWhile isDigit).length:=by
 rw [dm_,drop_drop,dS_ h1,dS_ h2]
theorem nV_ (c:Nat):inV (.int (c:Int)) [V.int 46,V.int 47]=decide (c=46\/c=47):=by
 have e:=nU_ (c:Int) [46,47];rw [show [V.int 46,V.int 47]=[46,47].map V.int from rfl,e];rw [Bool.eq_iff_iff];simp;omega
theorem jW_ {a b:List Nat} (h : ∀ x∈a,isDigit x=true) (h2 : ∀ x∈b,isDigit x=true):Txt.split (S (a++47::b)) (ofString "/")=[S a,S b]:=by
 refine b0_ ?_;rw [ez_];have na:47∉a:=fun m=>by have:=h _ m;revert this;decide
 have nb:47∉b:=fun m=>by have:=h2 _ m;revert this;decide
 have e:=gs_ (s:=47) (S:=[]) (rest:=b) (acc:=[]) na;rw [eC_ nb] at e;exact e
theorem n5_ {a b:List Nat} (h : ∀ x∈a,isDigit x=true) (h2 : ∀ x∈b,isDigit x=true):Txt.split (S (a++46::b)) (ofString ".")=[S a,S b]:=by
 refine b0_ ?_;rw [eA_];have na:46∉a:=fun m=>by have:=h _ m;revert this;decide
 have nb:46∉b:=fun m=>by have:=h2 _ m;revert this;decide
 have e:=gs_ (s:=46) (S:=[]) (rest:=b) (acc:=[]) na;rw [eC_ nb] at e;exact e
theorem mi_ {a:List Nat} (h : ∀ x∈a,isDigit x=true):Txt.split (S a) (ofString ".")=[S a]:=by
 refine b0_ ?_;rw [eA_];have na:46∉a:=fun m=>by have:=h _ m;revert this;decide
 rw [eC_ na];rfl
theorem f1_ {K:Frag}{x0 x1 x3:Option V}{H:Hp}{p:Addr}{ys:List Str}{R:VK} (hp:H p=some (.lst (ys.map V.str))) (hy : ∀ y∈ys,y.length<=sizeLine) (hl:ys.length<=sizeLine)
  (k : ∀ (D:Addr) (H':Hp),Same H H'->H' D=some (.lst ((ys.map fun y=>(y.length:Int)).map V.int))->R (.ref D) H') :
  tLc (l7_ K (tVar 2)) (dQ_ 3) tYes (tCB (fun xs H Q=>∃ z,xs=[V.str z]/\z.length<=sizeLine/\Q (V.int ↑z.length) H) (fG_ (tVar 3) tNil)) [3] [x0,x1,some (.ref p),x3] H R:=by
 refine gp_ (Itl K p) (ys.map V.str) (fun v=>match v with | .str z=>V.int z.length | _ => .non) (H1:=H) (fun R h=>?_) (by rw [length_map];exact hl) (kO_ (SqL.of hp)) (fun x H' D acc Nx hx sm hD hacc nx=>?_) fun D H' hD sm e=>?_
 ·exact ⟨p,rfl,⟨_,SqL.of hp⟩,h⟩
 ·obtain ⟨d,hd,rfl⟩:=mem_map.mp hx
  refine ⟨rfl,?_⟩;unfold tYes;simp only [if_true];exact ⟨d,rfl,hy d hd,acc,hD,hacc,nx H' (Same.refl _)⟩
 refine k D H' sm ?_;rw [e,map_map,map_map];rfl
theorem jV_:ofString "/"=(⟨#[47]⟩:Str):=by left
theorem gc_ (a b:List Nat):S a++S b=S (a++b):=ci_ (by rw [cn_];rfl)
theorem oX_ (n:Nat) (h:n<=12):MulOk (ofString "0") (n:Int):=by
 have key : ∀ m:Fin 13,MulOk (ofString "0") (m.1:Int):=by
  unfold MulOk
  left
 exact key ⟨n,by omega⟩
theorem nG_:ofString "1"=S [49]:=by left
theorem nF_ (n:Nat) (h:n<=12):intText? (ofString "1"++Txt.mul (ofString "0") (n:Int))=some ((10 ^ n:Nat):Int)/\(ofString "1"++Txt.mul (ofString "0") (n:Int)).length<=640/\(ofString "1").length+(Txt.mul (ofString "0") (n:Int)).length<=sizeLine:=by
 rw [ks_,nG_,gc_,a5_,a5_,a5_];have e:=gZ_ (l:=[49]++List.replicate n 48) (fun c hc=>by
  rcases mem_append.mp hc with q | q
  ·rw [mem_singleton.mp q];decide
  rw [(List.mem_replicate.mp q).2];decide) (by simp) (by simp;omega)
 refine ⟨?_,by simp;omega,?_⟩
 ·rw [e]
  congr 2;exact pf_ n
 rw [List.length_replicate];exact Nat.le_trans (show 1+n<=13 by omega) (by decide)
open Vaunid (isSmall isDigit inWord)
theorem mn_ (l:List Nat) (k:Nat):cutS (S l) (some (k:Int)) none=S (l.drop k):=by
 refine ci_ ?_;unfold cutS;rw [oo_,tl_S,HT.sIx_nat,HT.sIx_none,e7_,a5_];by_cases h:k<=l.length
 ·rw [Nat.min_eq_left h]
  exact take_of_length_le (by rw [length_drop];omega)
 rw [Nat.min_eq_right (by omega),drop_eq_nil_of_le (Nat.le_refl _),drop_eq_nil_of_le (by omega)];simp
theorem pk_ (l:List Nat) (k:Nat):cutS (S l) none (some (k:Int))=S (l.take k):=by
 refine ci_ ?_;unfold cutS;rw [oo_,tl_S,HT.sIx_nat,HT.sIx_none,e7_,a5_,drop_zero,sub_zero];rw [Nat.min_def];split
 ·rfl
 rw [take_length,take_of_length_le (by omega)]
theorem dy_ (t:List Nat) (i j:Nat) (hi:i<=t.length):cutV (bs t) (some (i:Int)) (some (j:Int))=bs ((t.drop i).take (j - i)):=by
 unfold cutV;rw [HT.sIx_nat,HT.sIx_nat,b3_,Nat.min_eq_left hi,ob_,oa_];by_cases h:j<=t.length
 ·rw [Nat.min_eq_left h]
 rw [Nat.min_eq_right (by omega),take_of_length_le (by rw [length_drop];exact Nat.le_refl _),take_of_length_le (l:=t.drop i) (by rw [length_drop];omega)]
theorem gq_ (l:List Nat):Txt.startswith (S l) (ofString "-")=decide (l.head? = some 45):=by
 match l with
 | []=>left
 | c::r =>
  unfold Txt.startswith
  have e1:(ofString "-").length=1:=by left
  rw [a5_,e1,length_cons,decide_eq_true (by omega),Bool.true_and];have e2:Builtin.Str.subAt (S (c::r)) (ofString "-") 0=decide (c=45):=by
   rw [StrLaws.subAt_eq,e1,e7_,show (ofString "-").cps.toList=[45] by left];show ([c] == [45])=_;rw [Bool.eq_iff_iff];simp
  rw [e2];simp
theorem lb_ {b:Nat->Bool}{x0 x2:Option V}{H:Hp}{l:List Nat}{R:VK} (hl:l.length<=sizeLine) (k : ∀ (D:Addr) (H':Hp),Same H H'->H' D=some (.lst ((l.map b).map V.bl))->R (.ref D) H') :
  tLc (iStr (tVar 1)) (dQ_ 2) tYes (iM_ (spB b) [] E0 (fG_ (tCB (fun xs H Q=>∃ x,xs=[V.str x]/\x.length=1/\Q (V.int ↑(x.cps.getD 0 0)) H) (fG_ (tVar 2) tNil)) tNil)) [2] [x0,some (.str (S l)),x2] H R:=by
 refine gp_ (Its (S l)) (l.map fun d=>V.str ⟨#[d]⟩) (fun v=>match v with | .str x=>V.bl (b (x.cps.getD 0 0)) | _ => .non) (H1:=H) (fun R h=>?_) (by rw [length_map];exact hl) (kM_ (x:=S l)) (fun x H' D acc Nx hx sm hD hacc nx=>?_) fun D H' hD sm e=>?_
 ·exact ⟨_,rfl,h⟩
 ·obtain ⟨d,hd,rfl⟩:=mem_map.mp hx
  refine ⟨rfl,?_⟩;unfold tYes;simp only [if_true];exact ⟨_,rfl,rfl,d,rfl,acc,hD,hacc,nx H' (Same.refl _)⟩
 refine k D H' sm ?_;rw [e,map_map,map_map];rfl
theorem nW_:ofString "^"=(⟨#[94]⟩:Str):=by left
theorem lT_ {l:List Nat} (h:94∈l):Txt.partition (S l) (ofString "^")=(S (l.takeWhile (· != 94)),ofString "^",S ((l.dropWhile (· != 94)).drop 1)):=by
 have hl:l=l.takeWhile (· != 94)++l.dropWhile (· != 94):=takeWhile_append_dropWhile.symm;have hn:94∉l.takeWhile (· != 94):=fun m=>by have:=et_ _ _ m;simp at this
 cases q:l.dropWhile (· != 94) with
 | nil =>
  rw [q,append_nil] at hl;rw [hl] at h;exact absurd h hn
 | cons e s =>
 have he:e=94:=by have:=eV_ _ q;simpa using this
 subst he;rw [q] at hl;have e:=fT_ (y:=ofString "^") (s:=94) (S:=[]) (by left) (a:=S (l.takeWhile (· != 94))) (b:=S s) hn;have e2:S (l.takeWhile (· != 94))++ofString "^"++S s=S l:=by
  rw [show ofString "^"=S [94] by left,gc_,gc_,append_assoc];exact congrArg S hl.symm
 rw [e2] at e;rw [e];rfl
end M
namespace L2
open PySem PySem.Spec PyProof.Rows TL
def lk_ (g:TG) (tb:TS) (D:Ends) (σ:St) (J:It) (H1:Hp):Prop:=∃ W:Nat->Nat->St->Hp->Prop,(∃ m,W 0 m σ H1)/\∀ i m σ H,W i m σ H ->
 (J.stop i H/\D.nx σ H)\/(J.go i H/\∃ N:St->Hp->Prop,(∀ σ' H',N σ' H'->∃ m',m'<m/\W (i+1) m' σ' H')/\∀ x H',J.yld i H x H'->g x σ H' fun σ2 H2=>tb { D with nx:=N,ct:=N,bk:=D.nx } σ2 H2)
theorem bc_ {wi:TI}{g:TG}{tb:TS}{D:Ends}{σ:St}{H:Hp} (h:wi σ H (lk_ g tb D σ)):tFor wi g tb D σ H:=h
theorem fp_ {K:Frag}{a:Addr}{g:TG}{tb:TS}{D:Ends}{σ:St}{H1:Hp} (xs:List V) (Pv:Nat->St->Hp->Prop) (h0:Pv 0 σ H1) (hl : ∀ i σ H,i<=xs.length->Pv i σ H->SqL K H a xs)
  (hs : ∀ i x σ H,xs[i]? = some x->Pv i σ H->g x σ H fun σ2 H2=>tb { D with nx:=Pv (i+1),ct:=Pv (i+1),bk:=D.nx } σ2 H2) (hd : ∀ σ H,Pv xs.length σ H->D.nx σ H):lk_ g tb D σ (Itl K a) H1 :=
 mf_ Pv h0 hl hs hd
end L2
namespace M
open PySem PySem.Spec PyProof.Rows L2 TL
open Vaunid (isSmall isDigit inWord inComment)
def sgn (c:Nat):Nat:=if (32<=c/\c<=126)/\c≠37 then c else 63
theorem mG_ (c:Nat):sgn c=c\/(sgn c=63/\¬ ((32<=c/\c<=126)/\c≠37)):=by
 unfold sgn;by_cases h:(32<=c/\c<=126)/\c≠37
 ·rw [if_pos h];exact .inl rfl
 rw [if_neg h];exact .inr ⟨rfl,h⟩
theorem ee_ {q:Nat->Bool} (h63:q 63=false) (hq : ∀ c,q c=true->(32<=c/\c<=126)/\c≠37) (c:Nat):q (sgn c)=q c:=by
 rcases mG_ c with e | ⟨e,h⟩
 ·rw [e]
 rw [e,h63];cases r:q c with
 | false=>rfl
 | true=>exact absurd (hq c r) h
theorem gA_ {c:Nat} (h:isSmall c=true):97<=c/\c<=122:=by unfold isSmall at h;simpa using h
theorem dx_ {c:Nat} (h:isDigit c=true):48<=c/\c<=57:=by unfold isDigit at h;simpa using h
theorem fB_ {c:Nat} (h:inWord c=true):(97<=c/\c<=122)\/(48<=c/\c<=57)\/c=95:=by
 unfold inWord at h;rcases or_eq_true_iff.mp h with q | q
 ·exact .inl (gA_ q)
 rcases or_eq_true_iff.mp q with q | q
 ·exact .inr (.inl (dx_ q))
 exact .inr (.inr (eq_of_beq q))
theorem j0_ (c:Nat):isSmall (sgn c)=isSmall c:=ee_ (by decide) (fun c h=>by have:=gA_ h;omega) c
theorem gG_ (c:Nat):isDigit (sgn c)=isDigit c:=ee_ (by decide) (fun c h=>by have:=dx_ h;omega) c
theorem lA_ (c:Nat):inWord (sgn c)=inWord c:=ee_ (by decide) (fun c h=>by have:=fB_ h;omega) c
theorem dI_ (d:Nat) (h:(32<=d/\d<=126)/\d≠37/\d≠63) (c:Nat):(sgn c == d)=(c == d):=ee_ (q:=fun c=>c == d) (by simp;omega) (fun c e=>by have:=eq_of_beq e;omega) c
theorem nl_ (c:Nat):sep (sgn c)=sep c:=by unfold sep;rw [dI_ 46 (by decide),dI_ 47 (by decide)]
theorem j1_ {c:Nat} (h:(32<=c/\c<=126)/\c≠37):sgn c=c:=if_pos h
theorem dM_ {l:List Nat} (h : ∀ c∈l,(32<=c/\c<=126)/\c≠37):l.map sgn=l:=by
 induction l with
 | nil=>rfl
 | cons c r ih=>rw [map_cons,j1_ (h c (mem_cons_self ..)),ih fun x hx=>h x (mem_cons_of_mem _ hx)]
theorem l2_ {l:List Nat} (h : ∀ c∈l,inWord c=true):l.map sgn=l:=dM_ fun c hc=>by have:=fB_ (h c hc);omega
theorem hX_ {q:Nat->Bool} (h : ∀ c,q (sgn c)=q c) (l:List Nat):(l.map sgn).all q=l.all q:=by
 rw [all_map];congr 1
 funext c
 exact h c
theorem mu_ {q:Nat->Bool} (h : ∀ c,q (sgn c)=q c) : ∀ l:List Nat,(l.map sgn).takeWhile q=(l.takeWhile q).map sgn
 | []=>rfl
 | c::r=>by
  rw [map_cons,takeWhile_cons,takeWhile_cons,h c];split
  ·rw [mu_ h r,map_cons]
  rfl
theorem mW_ {q:Nat->Bool} (h : ∀ c,q (sgn c)=q c) : ∀ l:List Nat,(l.map sgn).dropWhile q=(l.dropWhile q).map sgn
 | []=>rfl
 | c::r=>by
  rw [map_cons,dropWhile_cons,dropWhile_cons,h c];split
  ·exact mW_ h r
  rfl
theorem gE_ (l:List Nat):az_ (l.map sgn)=az_ l:=by
 unfold az_;rw [hX_ lA_,length_map];cases l with
 | nil=>rfl
 | cons c r =>
 rw [map_cons,headD_cons,headD_cons,j0_];rfl
theorem j9_ (l:List Nat):bm_ (l.map sgn)=bm_ l:=by
 unfold bm_;have e:((l.map sgn).head? = some 45)=(l.head? = some 45):=by
  cases l with
  | nil=>rfl
  | cons c r =>
  have:=dI_ 45 (by decide) c;rw [map_cons,List.head?_cons,List.head?_cons];rw [Bool.eq_iff_iff] at this;simpa using this
 simp only [e];split
 ·cases l with
  | nil=>rfl
  | cons c r =>
   rw [map_cons,List.tail_cons,List.tail_cons,hX_ gG_,length_map];cases r <;> rfl
 rw [hX_ gG_,length_map];simp
theorem ji_ (l:List Nat):av_ (l.map sgn)=av_ l:=by
 unfold av_;have n94 : ∀ c,(sgn c != 94)=(c != 94):=fun c=>by unfold bne;rw [dI_ 94 (by decide)]
 have e1:(l.map sgn == [49])=(l == [49]):=by
  match l with
  | []=>rfl
  | [c] =>
   have:=dI_ 49 (by decide) c;show ([sgn c] == [49])=([c] == [49]);rw [Bool.eq_iff_iff] at this ⊢;simpa using this
  | c::d::r=>simp
 have e2:(l.map sgn).contains 94=l.contains 94:=by
  rw [List.contains_eq_any_beq,List.contains_eq_any_beq,any_map];congr 1
  funext c
  show (94 == sgn c)=(94 == c);rw [Bool.beq_comm,dI_ 94 (by decide),Bool.beq_comm]
 rw [e1,e2,mu_ n94,mW_ n94,<- List.map_drop,gE_,gE_,j9_]
theorem hN_ : ∀ (l acc:List Nat),cut sep (acc.map sgn) (l.map sgn)=(cut sep acc l).map (List.map sgn)
 | [],acc=>rfl
 | c::r,acc=>by
  show (if sep (sgn c)=true then acc.map sgn::cut sep [] (r.map sgn) else cut sep (acc.map sgn++[sgn c]) (r.map sgn))=(if sep c=true then acc::cut sep [] r else cut sep (acc++[c]) r).map (List.map sgn);rw [nl_];split
  ·rw [map_cons]
   exact congrArg _ (hN_ r [])
  have:=hN_ r (acc++[c]);rw [map_append] at this;exact this
theorem hA_ (l:List Nat):measureText ((l.map sgn).length+1) (l.map sgn)=measureText (l.length+1) l:=by
 rw [bZ_ _ _ (by omega),bZ_ _ _ (by omega)];have e:=hN_ l [];rw [map_nil] at e;rw [e,all_map];congr 1
 funext f
 exact ji_ f
open Vaunid (isSmall isDigit inWord inComment)
def mch (c:Nat):Bool:=inWord c || (c == 94 || (c == 45 || (c == 46 || c == 47)))
theorem ku_ {c:Nat} (h:mch c=true):(32<=c/\c<=126)/\c≠37:=by
 unfold mch at h;rcases or_eq_true_iff.mp h with q | q
 ·have:=fB_ q;omega
 simp at q;omega
theorem fx_ {c:Nat} (h:isDigit c=true):inWord c=true:=by unfold inWord;rw [h];simp
theorem fC_ {c:Nat} (h:inWord c=true):mch c=true:=by unfold mch;rw [h];rfl
theorem gF_ {l:List Nat} (h:az_ l=true) : ∀ c∈l,mch c=true:=fun c hc=>by
 unfold az_ at h;simp only [and_eq_true] at h;exact fC_ (all_eq_true.mp h.2.2.2 c hc)
theorem ka_ {l:List Nat} (h:bm_ l=true) : ∀ c∈l,mch c=true:=fun c hc=>by
 unfold bm_ at h;by_cases q:l.head? = some 45
 ·simp only [if_pos q,and_eq_true] at h
  cases l with
  | nil=>cases q
  | cons d r =>
  cases q;rcases mem_cons.mp hc with e | e
  ·subst e;rfl
  exact fC_ (fx_ (all_eq_true.mp h.2.2 c e))
 simp only [if_neg q,and_eq_true] at h;exact fC_ (fx_ (all_eq_true.mp h.2.2 c hc))
theorem ft_ {l:List Nat} (h:av_ l=true) : ∀ c∈l,mch c=true:=fun c hc=>by
 unfold av_ at h;rcases or_eq_true_iff.mp h with q | q
 ·rw [eq_of_beq q] at hc
  rw [mem_singleton.mp hc];rfl
 by_cases r:l.contains 94=true
 ·rw [if_pos r,and_eq_true] at q
  have hl:l=l.takeWhile (· != 94)++l.dropWhile (· != 94):=takeWhile_append_dropWhile.symm;rw [hl] at hc;rcases mem_append.mp hc with e | e
  ·exact gF_ q.1 c e
  cases z:l.dropWhile (· != 94) with
  | nil=>rw [z] at e;simp at e
  | cons d s =>
  have hd:d=94:=by have:=eV_ _ z;simpa using this
  rw [z] at e q;rcases mem_cons.mp e with e | e
  ·rw [e,hd];rfl
  exact ka_ q.2 c e
 rw [if_neg r] at q;exact gF_ q c hc
theorem hO_ : ∀ (l acc:List Nat),(cut sep acc l).all av_=true->∀ c∈acc++l,mch c=true
 | [],acc,h,c,hc=>by
  have h':av_ acc=true:=by
   have:=h;simpa [cut] using this
  rw [append_nil] at hc;exact ft_ h' c hc
 | d::r,acc,h,c,hc=>by
  have h':(if sep d=true then acc::cut sep [] r else cut sep (acc++[d]) r).all av_=true:=h;by_cases q:sep d=true
  ·rw [if_pos q,all_cons,and_eq_true] at h'
   rcases mem_append.mp hc with e | e
   ·exact ft_ h'.1 c e
   rcases mem_cons.mp e with e | e
   ·subst e
    unfold sep at q;unfold mch;rw [q];simp
   exact hO_ r [] h'.2 c (by simpa using e)
  rw [if_neg q] at h';exact hO_ r (acc++[d]) h' c (by simpa using hc)
theorem hB_ {m:List Nat} (h:measureText (m.length+1) m=true):m.map sgn=m:=by
 rw [bZ_ _ _ (by omega)] at h;exact dM_ fun c hc=>ku_ (hO_ m [] h c (by simpa using hc))
theorem iY_ {m:List Nat} (h:measureText (m.length+1) m=true):m≠[]:=by
 intro e;subst e;revert h;decide
theorem fY_ (s:List Nat):(numberText s).2.2=s.drop (numberText s).1/\(numberText s).1<=s.length:=by
 have hs:(s.takeWhile isDigit).length<=s.length:=d3_ _ _;rw [dm_];unfold numberText;dsimp only;rw [bG_];have hd : ∀ l,s.drop (s.takeWhile isDigit).length=l->s.length=(s.takeWhile isDigit).length+l.length:=fun l e=>by rw [<- e,length_drop];omega
 cases q:s.drop (s.takeWhile isDigit).length with
 | nil=>exact ⟨q.symm,hs⟩
 | cons c l =>
 have:=hd _ q;cases l with
 | nil=>exact ⟨q.symm,hs⟩
 | cons d r =>
 unfold secondRow;dsimp only;rw [length_cons,length_cons] at this;by_cases h:(c=47\/c=46)/\isDigit d=true
 ·simp only [if_pos h]
  have tl2:=d3_ isDigit (d::r);rw [length_cons] at tl2;have key:(s.takeWhile isDigit).length+(1+((d::r).takeWhile isDigit).length)<=s.length:=by omega
  refine ⟨?_,key⟩;rw [bG_,<- add_assoc,<- drop_drop,<- drop_drop,q];rfl
 simp only [if_neg h];exact ⟨q.symm,hs⟩
theorem kp_ {s:List Nat}{c:Nat}{r:List Nat} (e:s=c::r) (h:isDigit c=true):1<=(numberText s).1:=by
 rw [dm_];have:1<=(s.takeWhile isDigit).length:=by
  rw [e,takeWhile_cons,h];simp
 split
 ·split
  ·exact Nat.le_trans this (le_add_right _ _)
  exact this
 exact this
theorem es_ (p:Nat->Bool) : ∀ s:List Nat,s.take (s.takeWhile p).length=s.takeWhile p
 | []=>rfl
 | c::r=>by
  rw [takeWhile_cons];split
  ·rw [length_cons,take_succ_cons,es_ p r]
  rfl
theorem jE_ (s:List Nat) (n k:Nat):s.take (n+k)=s.take n++(s.drop n).take k:=List.take_add
theorem kn_ (s:List Nat) : ∃ (b:List Nat) (c:Nat),s.take (numberText s).1=s.takeWhile isDigit++(if c=0 then [] else c::b) /\
  ((c=0/\b=[])\/((c=46\/c=47)/\b≠[]/\∀ x∈b,isDigit x=true))/\(numberText s).2.1=frac (s.takeWhile isDigit) c b/\(s.takeWhile isDigit).length+b.length<=s.length:=by
 have hs:(s.takeWhile isDigit).length<=s.length:=d3_ _ _;have ht:=es_ isDigit s;have hd : ∀ l,s.drop (s.takeWhile isDigit).length=l->s.length=(s.takeWhile isDigit).length+l.length:=fun l e=>by rw [<- e,length_drop];omega
 rw [dm_];have plain:secondRow (s.dropWhile isDigit)=(0,[],s.dropWhile isDigit)->s.take (s.takeWhile isDigit).length=s.takeWhile isDigit++(if 0=0 then [] else 0::[])/\(numberText s).2.1=frac (s.takeWhile isDigit) 0 []:=fun e=>by
  refine ⟨by rw [ht];simp,?_⟩;unfold numberText;dsimp only;rw [e];rfl
 cases q:s.drop (s.takeWhile isDigit).length with
 | nil =>
  obtain ⟨p1,p2⟩:=plain (by rw [bG_,q];rfl);exact ⟨[],0,p1,.inl ⟨rfl,rfl⟩,p2,hs⟩
 | cons c l =>
 have:=hd _ q;cases l with
 | nil =>
  obtain ⟨p1,p2⟩:=plain (by rw [bG_,q];rfl);exact ⟨[],0,p1,.inl ⟨rfl,rfl⟩,p2,hs⟩
 | cons d r =>
 dsimp only;rw [length_cons,length_cons] at this;by_cases h:(c=47\/c=46)/\isDigit d=true
 ·rw [if_pos h]
  have tl2:=d3_ isDigit (d::r);rw [length_cons] at tl2;have hc0:c≠0:=by omega
  refine ⟨(d::r).takeWhile isDigit,c,?_,.inr ⟨by omega,?_,fun x hx=>et_ _ x hx⟩,?_,by omega⟩
  ·rw [jE_,ht,q,if_neg hc0,add_comm 1,take_succ_cons,es_]
  ·rw [takeWhile_cons,h.2]
   simp
  have e:secondRow (s.dropWhile isDigit)=(c,(d::r).takeWhile isDigit,(d::r).dropWhile isDigit):=by
   rw [bG_,q];unfold secondRow;dsimp only;rw [if_pos h]
  unfold numberText;dsimp only;rw [e];rfl
 rw [if_neg h];obtain ⟨p1,p2⟩:=plain (by
  rw [bG_,q];unfold secondRow;dsimp only;rw [if_neg h])
 exact ⟨[],0,p1,.inl ⟨rfl,rfl⟩,p2,hs⟩
structure TokFact (p:Nat) (s:List Nat) (k:Vaunid.Token) (r:List Nat):Prop where
 start:k.start=p
 lt:p<k.halt_
 le:k.halt_<=p+s.length
 rest:r=s.drop (k.halt_ - p)
theorem jt_ {p:Nat}{s r:List Nat}{k:Vaunid.Token}{c:Nat}{s':List Nat} (e:s=c::s') (hc:isSmall c=true) (h:wordToken p s = .ok (k,r)):TokFact p s k r:=by
 unfold wordToken at h;dsimp only at h;split at h
 ·cases h
 cases h;have h1:1<=(s.takeWhile inWord).length:=by
  rw [e,takeWhile_cons,dH_ hc];simp
 exact ⟨rfl,Nat.lt_add_of_pos_right h1,Nat.add_le_add_left (d3_ _ _) _,by rw [add_sub_cancel_left,bG_]⟩
theorem ip_ {p:Nat}{s r:List Nat}{k:Vaunid.Token}{neg:Bool}{c:Nat}{s':List Nat} (e:(if neg=true then s.drop 1 else s)=c::s') (hc:isDigit c=true) (h:numberToken neg p s = .ok (k,r)):TokFact p s k r:=by
 unfold numberToken at h;dsimp only at h;have hpos:=kp_ e hc;obtain ⟨hrest,hle⟩:=fY_ (if neg=true then s.drop 1 else s);generalize hx:numberText (if neg=true then s.drop 1 else s)=x at h hpos hrest hle;obtain ⟨n,o,rest⟩:=x;dsimp only at h hpos hrest hle;have hn:n+(if neg=true then 1 else 0)<=s.length:=by
  cases neg with
  | false=>simpa using hle
  | true =>
  simp only [if_true] at e hle ⊢;rw [length_drop] at hle;have:s≠[]:=by intro z;subst z;simp at e
  have:1<=s.length:=length_pos_iff.mpr this;omega
 have hr:rest=s.drop (n+(if neg=true then 1 else 0)):=by
  rw [hrest];cases neg with
  | false=>rfl
  | true =>
  simp only [if_true];rw [drop_drop,add_comm]
 generalize hm:n+(if neg=true then 1 else 0)=sz at h hn hr;have hsz:1<=sz:=by omega
 cases o with
 | none=>cases h
 | some tl =>
 obtain ⟨top,low⟩:=tl;dsimp only at h;split at h
 ·rename_i r2
  split at h
  ·cases h
  rename_i hne;cases h;have hl:s.length=sz+(r2.length+1):=by
   have:=congrArg List.length hr;rw [length_cons,length_drop] at this;omega
  have hm2:(r2.takeWhile fun c=>c != 93).length<r2.length:=by
   have h1:=d3_ (fun c=>c != 93) r2;have h2:(r2.takeWhile fun c=>c != 93).length≠r2.length:=fun z=>hne (.inl z);omega
  refine ⟨rfl,?_,?_,?_⟩
  ·show p<p+sz+_+2
   omega
  ·show p+sz+_+2<=_
   omega
  show r2.drop _=s.drop (p+sz+_+2 - p);have e1:p+sz+(r2.takeWhile fun c=>c != 93).length+2 - p=sz+(1+((r2.takeWhile fun c=>c != 93).length+1)):=by omega
  have e2:s.drop (sz+(1+((r2.takeWhile fun c=>c != 93).length+1)))=((s.drop sz).drop 1).drop ((r2.takeWhile fun c=>c != 93).length+1):=by
   rw [drop_drop,drop_drop,<- add_assoc]
  rw [e1,e2,<- hr];rfl
 cases h;exact ⟨rfl,Nat.lt_add_of_pos_right hsz,Nat.add_le_add_left hn _,by rw [add_sub_cancel_left];exact hr⟩
theorem jX_ {p:Nat}{s r:List Nat}{k:Vaunid.Token}{L:List (List Nat)} (hL : ∀ x∈L,x≠[]) (h:signToken L p s = .ok (k,r)):TokFact p s k r:=by
 unfold signToken at h;split at h
 ·rename_i x hx
  cases h;have hm:=List.mem_of_find?_eq_some hx;have hp:=List.find?_some hx;have hpos:1<=x.length:=length_pos_iff.mpr (hL x hm);have hpre:x <+: s:=List.isPrefixOf_iff_prefix.mp hp;exact ⟨rfl,Nat.lt_add_of_pos_right hpos,Nat.add_le_add_left hpre.length_le _,by rw [add_sub_cancel_left]⟩
 cases h
theorem bX_ {core:Bool}{p:Nat}{s r:List Nat}{k:Vaunid.Token} (h:token core p s = .ok (k,r)):TokFact p s k r:=by
 unfold token at h;cases s with
 | nil=>cases h
 | cons c s' =>
 dsimp only at h;split at h
 ·exact jt_ rfl (by assumption) h
 split at h
 ·exact ip_ (neg:=false) rfl (by assumption) h
 split at h
 ·rename_i hc
  obtain ⟨_,hm⟩:=hc;unfold minusDigit at hm;split at hm
  ·rename_i z
   cases z;exact ip_ (neg:=true) rfl hm h
  cases hm
 refine jX_ (fun x hx=>?_) h;cases core with
 | true =>
  intro e;subst e;revert hx
  left
 | false =>
 intro e;subst e;revert hx
 left
noncomputable def gap (core:Bool):Nat->Nat->List Nat->Res (Nat×List Nat)
 | _,p,[] => .ok (p,[])
 | 0,p,s => .ok (p,s)
 | n+1,p,c::r =>
  if c=32\/(core=false/\c=10) then gap core n (p+1) r
  else if core=false/\c=123 then
   (match r.dropWhile inComment with
   | []=>fault 2 p
   | 125::s=>gap core n (p+(r.takeWhile inComment).length+2) s
   | _=>fault 1 (p+1+(r.takeWhile inComment).length))
  else .ok (p,c::r)
theorem kU_ (q:Nat->Bool) (l:List Nat):(l.dropWhile q).length<=l.length:=by rw [bG_,length_drop];omega
theorem iz_ (core:Bool) : ∀ (n m p:Nat) (s:List Nat),s.length<n->s.length<m->gap core n p s=gap core m p s
 | n,m,p,[],_,_=>by cases n <;> cases m <;> rfl
 | 0,_,_,_::_,h,_=>by simp at h
 | _,0,_,_::_,_,h=>by simp at h
 | n+1,m+1,p,c::r,h1,h2=>by
  rw [length_cons] at h1 h2;unfold gap;split
  ·exact iz_ core n m _ r (by omega) (by omega)
  split
  ·have hl:=kU_ inComment r
   cases q:r.dropWhile inComment with
   | nil=>rfl
   | cons d s =>
   rw [q,length_cons] at hl;by_cases hd:d=125
   ·subst hd
    exact iz_ core n m _ s (by omega) (by omega)
   split
   ·rename_i z;cases z
   ·rename_i z;cases z;exact absurd rfl hd
   rfl
  rfl
noncomputable def gapT (core:Bool) (p:Nat) (s:List Nat):Res (Nat×List Nat):=gap core (s.length+1) p s
theorem fo_ {core:Bool}{p c:Nat}{r:List Nat} (h:c=32\/(core=false/\c=10)):gapT core p (c::r)=gapT core (p+1) r:=by
 unfold gapT;rw [length_cons]
 conv=>lhs;unfold gap
 rw [if_pos h]
theorem jc_ {core:Bool}{p c:Nat}{r:List Nat} (h : ¬ (c=32\/(core=false/\c=10))) (h2 : ¬ (core=false/\c=123)):gapT core p (c::r) = .ok (p,c::r):=by
 unfold gapT;rw [length_cons];unfold gap;rw [if_neg h,if_neg h2]
theorem bL_ (core:Bool) : ∀ (n m p:Nat) (s:List Nat),s.length<n->s.length<m->tokens core n p s=tokens core m p s
 | n,m,p,[],_,_=>by cases n <;> cases m <;> rfl
 | 0,_,_,_::_,h,_=>by simp at h
 | _,0,_,_::_,_,h=>by simp at h
 | n+1,m+1,p,c::r,h1,h2=>by
  rw [length_cons] at h1 h2;unfold tokens;split
  ·exact bL_ core n m _ r (by omega) (by omega)
  split
  ·have hl:=kU_ inComment r
   cases q:r.dropWhile inComment with
   | nil=>rfl
   | cons d s =>
   rw [q,length_cons] at hl;by_cases hd:d=125
   ·subst hd
    exact bL_ core n m _ s (by omega) (by omega)
   split
   ·rename_i z;cases z
   ·rename_i z;cases z;exact absurd rfl hd
   rfl
  cases q:token core p (c::r) with
  | error e=>rfl
  | ok x =>
  obtain ⟨k,s⟩:=x;have hf:=bX_ q;have hs:s.length<=r.length:=by
   have h3:=hf.lt;rw [hf.rest,length_drop,length_cons];omega
  dsimp only;rw [bL_ core n m k.halt_ s (by omega) (by omega)]
def d4_ (core:Bool) (p:Nat) (s:List Nat):Res (List Vaunid.Token):=tokens core (s.length+1) p s
noncomputable def aS_ (core:Bool) (x:Nat×List Nat):Res (List Vaunid.Token):=match x.2 with
 | [] => .ok []
 | c::r=>match token core x.1 (c::r) with
  | .error e => .error e
  | .ok (k,s)=>match d4_ core k.halt_ s with
   | .error e => .error e
   | .ok l => .ok (k::l)
theorem eu_ (core:Bool) : ∀ (n p:Nat) (s:List Nat),s.length<n->d4_ core p s=(match gap core n p s with | .error e => .error e | .ok x=>aS_ core x)
 | n,p,[],_=>by cases n <;> rfl
 | 0,p,_::_,h=>by simp at h
 | n+1,p,c::r,h=>by
  rw [length_cons] at h;unfold d4_ gap;rw [length_cons]
  conv=>lhs;unfold tokens
  split
  ·exact eu_ core n (p+1) r (by omega)
  split
  ·have hl:=kU_ inComment r
   cases q:r.dropWhile inComment with
   | nil=>rfl
   | cons d s =>
   rw [q,length_cons] at hl;by_cases hd:d=125
   ·subst hd
    show tokens core (r.length+1) _ s=_;rw [bL_ core (r.length+1) (s.length+1) _ s (by omega) (by omega)];exact eu_ core n _ s (by omega)
   have e2:(match d::s with
     | []=>(fault 2 p:Res (Nat×List Nat))
     | 125::s=>gap core n (p+(List.takeWhile inComment r).length+2) s
     | x=>fault 1 (p+1+(List.takeWhile inComment r).length))=fault 1 (p+1+(List.takeWhile inComment r).length):=by
    split
    ·rename_i z;cases z
    ·rename_i z;cases z;exact absurd rfl hd
    rfl
   refine Eq.trans ?_ (congrArg (fun (o:Res (Nat×List Nat))=>(match o with | .error e => .error e | .ok x=>aS_ core x:Res (List Vaunid.Token))) e2).symm
   split
   ·rename_i z;cases z
   ·rename_i z;cases z;exact absurd rfl hd
   rfl
  show _=aS_ core (p,c::r);unfold aS_;dsimp only;cases q:token core p (c::r) with
  | error e=>rfl
  | ok x =>
  obtain ⟨k,s⟩:=x;have hf:=bX_ q;have hs:s.length<=r.length:=by
   have h3:=hf.lt;rw [hf.rest,length_drop,length_cons];omega
  dsimp only;unfold d4_;rw [bL_ core (r.length+1) (s.length+1) _ s (by omega) (by omega)];rfl
theorem dE_ (core:Bool) (p:Nat) (s:List Nat):d4_ core p s=(match gapT core p s with | .error e => .error e | .ok x=>aS_ core x):=eu_ core _ p s (lt_succ_self _)
theorem ei_ (core:Bool) : ∀ (n p:Nat) (s:List Nat) (x:Nat×List Nat),gap core n p s = .ok x->p<=x.1/\x.1<=p+s.length/\x.2=s.drop (x.1 - p)
 | n,p,[],x,h=>by
  have:x=(p,[]):=by
   cases n <;> (cases h;rfl)
  subst this;simp
 | 0,p,c::r,x,h=>by
  cases h;simp
 | n+1,p,c::r,x,h=>by
  unfold gap at h;split at h
  ·obtain ⟨h1,h2,h3⟩:=ei_ core n (p+1) r x h
   rw [length_cons];refine ⟨by omega,by omega,?_⟩;rw [h3,show x.1 - p=(x.1 - (p+1))+1 by omega,drop_succ_cons]
  split at h
  ·have hl:=bG_ inComment r
   have hl2:=d3_ inComment r;cases q:r.dropWhile inComment with
   | nil=>rw [q] at h;cases h
   | cons d s =>
   rw [q] at h hl;by_cases hd:d=125
   ·subst hd
    obtain ⟨h1,h2,h3⟩:=ei_ core n _ s x h;have hs:r.length=(r.takeWhile inComment).length+(s.length+1):=by
     have:=congrArg List.length hl;rw [length_cons,length_drop] at this;omega
    rw [length_cons];refine ⟨by omega,by omega,?_⟩;have e:x.1 - p=(x.1 - (p+(r.takeWhile inComment).length+2))+1+(r.takeWhile inComment).length+1:=by omega
    have e2:r.drop (x.1 - (p+(r.takeWhile inComment).length+2)+1+(r.takeWhile inComment).length)=(r.drop (r.takeWhile inComment).length).drop (x.1 - (p+(r.takeWhile inComment).length+2)+1):=by rw [drop_drop,add_comm]
    rw [h3,e,drop_succ_cons,e2,<- hl,drop_succ_cons]
   split at h
   ·rename_i z;cases z
   ·rename_i z;cases z;exact absurd rfl hd
   cases h
  cases h;simp
open Vaunid (isSmall isDigit inWord inComment)
theorem jb_ : ∀ (s:List Nat) (p:Nat),gapT false p s=gapT false (p+(s.takeWhile fun c=>c == 32 || c == 10).length) (s.drop (s.takeWhile fun c=>c == 32 || c == 10).length)
 | [],p=>rfl
 | c::r,p=>by
  rw [takeWhile_cons];cases h:(c == 32 || c == 10) with
  | false=>rfl
  | true =>
  simp only [if_true];rw [length_cons,drop_succ_cons,fo_ (by simpa using h),jb_ r (p+1)];congr 1;omega
theorem fn_ : ∀ (s:List Nat) (p:Nat),gapT true p s = .ok (p+(s.takeWhile fun c=>c == 32).length,s.drop (s.takeWhile fun c=>c == 32).length)
 | [],p=>rfl
 | c::r,p=>by
  rw [takeWhile_cons];cases h:(c == 32) with
  | false=>exact jc_ (by simpa using h) (by simp)
  | true =>
  simp only [if_true];rw [length_cons,drop_succ_cons,fo_ (by simpa using h),fn_ r (p+1)];congr 2;omega
theorem kY_ {t:List Nat}{p:Nat}{s:List Nat} (h:t.drop p=s) (k:Nat):t.drop (p+k)=s.drop k:=by rw [<- h,drop_drop]
theorem iD_ {t:List Nat}{p:Nat}{s:List Nat} (h:t.drop p=s) (hp:p<=t.length):t.length=p+s.length:=by rw [<- h,length_drop];omega
theorem cL_ {t:List Nat}{p c:Nat}{r:List Nat} (h:t.drop p=c::r):p<t.length:=by
 have:=congrArg List.length h;rw [length_drop,length_cons] at this;omega
open Vaunid (isSmall isDigit inWord inComment)
theorem f4_ {n:Nat} (t:List Nat) : ∀ (L:List (List Nat)),(∀ x∈L,x.length=n)->L.find? (fun s=>s.isPrefixOf t)=if t.take n∈L then some (t.take n) else none
 | [],_=>by simp
 | x::r,h=>by
  have hx:=h x (mem_cons_self ..);have ih:=f4_ t r fun y hy=>h y (mem_cons_of_mem _ hy);rw [find?_cons];by_cases hp:x.isPrefixOf t=true
  ·rw [hp]
   have e:x=t.take n:=by rw [<- hx];exact (List.prefix_iff_eq_take.mp (List.isPrefixOf_iff_prefix.mp hp))
   dsimp only;rw [<- e,if_pos (mem_cons_self ..)]
  have hp':x.isPrefixOf t=false:=Bool.eq_false_iff.mpr hp;rw [hp'];dsimp only;rw [ih];have ne:t.take n≠x:=fun e=>hp (List.isPrefixOf_iff_prefix.mpr (e ▸ List.take_prefix n t));by_cases hm:t.take n∈r
  ·rw [if_pos hm,if_pos (mem_cons_of_mem _ hm)]
  rw [if_neg hm,if_neg];intro z;rcases mem_cons.mp z with q | q
  ·exact ne q
  exact hm q
structure GoodSigns (L:List (List Nat)):Prop where
 parts : ∃ L2 L1,L=L2++L1/\(∀ x∈L2,x.length=2)/\∀ x∈L1,x.length=1
 plain : ∀ x∈L,∀ c∈x,((32<=c/\c<=126)/\c≠37)/\c≠63
theorem kL_:GoodSigns coreSigns:=⟨⟨[],coreSigns,rfl,by decide,by left⟩,by left⟩
theorem nN_ {L:List (List Nat)} (g:GoodSigns L) (l:List Nat):l.map sgn∈L↔l∈L:=by
 constructor
 ·intro h
  have e:l.map sgn=l:=dM_ fun c hc=>by
   have:=g.plain _ h (sgn c) (mem_map.mpr ⟨c,hc,rfl⟩);rcases mG_ c with q | ⟨q,_⟩
   ·rw [q] at this;exact this.1
   rw [q] at this;exact absurd rfl this.2
  rwa [e] at h
 intro h;rw [dM_ fun c hc=>(g.plain _ h c hc).1];exact h
noncomputable def jY_ (L:List (List Nat)) (t:List Nat):Option (List Nat):=if t.take 2∈L then some (t.take 2) else if t.take 1∈L then some (t.take 1) else none
theorem jh_ {L:List (List Nat)} (g:GoodSigns L) (t:List Nat):L.find? (fun s=>s.isPrefixOf t)=jY_ L t:=by
 obtain ⟨L2,L1,rfl,h2,h1⟩:=g.parts;rw [List.find?_append,f4_ t L2 h2,f4_ t L1 h1];unfold jY_;by_cases m2:t.take 2∈L2
 ·rw [if_pos m2,if_pos (mem_append_left _ m2)]
  rfl
 rw [if_neg m2];by_cases m1:t.take 1∈L1
 ·rw [if_pos m1]
  by_cases m:t.take 2∈L2++L1
  ·have m':t.take 2∈L1:=(mem_append.mp m).resolve_left m2
   have e:=h1 _ m';have e3:t.take 1=t.take 2:=by
    rw [length_take] at e;have:t.length<=1:=by omega
    rw [take_of_length_le this,take_of_length_le (by omega)]
   rw [if_pos m,e3];rfl
  rw [if_neg m,if_pos (mem_append_right _ m1)];rfl
 rw [if_neg m1];have n1 : ¬ t.take 1∈L2++L1:=fun z=>by
  rcases mem_append.mp z with q | q
  ·have:=h2 _ q
   rw [length_take] at this;omega
  exact m1 q
 by_cases m:t.take 2∈L2++L1
 ·have m':t.take 2∈L1:=(mem_append.mp m).resolve_left m2
  have e:=h1 _ m';have e3:t.take 1=t.take 2:=by
   rw [length_take] at e;have:t.length<=1:=by omega
   rw [take_of_length_le this,take_of_length_le (by omega)]
  rw [<- e3] at m';exact absurd m' m1
 rw [if_neg m,if_neg n1];rfl
noncomputable def kS_ (k p:Int):List (Str×V):=[("kind",.int k),("place",.int p)]
def ExF (C:Addr) (E:XK) (H:Hp) (k p:Int):Prop:=∀ (dx:Addr) (H':Hp),Same H H'->H' dx=some (XDic dx (kS_ k p))->E (.ref C) (some dx) H'
theorem ExF.mono {C:Addr}{E:XK}{H H1:Hp}{k p:Int} (h:ExF C E H k p) (s:Same H H1):ExF C E H1 k p:=fun dx H' s' e=>h dx H' (s.trans s') e
def RES {A:Type} (C:Addr) (H:Hp) (Q:VK) (E:XK) (r:Res A) (post:A->V->Hp->Prop):Prop:=match r with
 | .ok a=>∀ (v:V) (H':Hp),Same H H'->post a v H'->Q v H'
 | .error e=>ExF C E H (e.kind:Int) (e.place:Int)
def eE_ (C:Addr):Sp:=fun vs H Q _=>∃ (p:Addr) (k q:V),vs=[.ref p,k,q]/\H p=some (XNew C p none)/\∀ dx,H dx=none->dx≠p->Q .non (upd (upd H dx (XDic dx [("kind",k),("place",q)])) p (XNew C p (some dx)))
theorem bx_ {C:Addr}{E:XK}{H:Hp}{k p:Int}{E':XK} (h:ExF C E H k p) : ∀ a,H a=none->eE_ C [.ref a,.int k,.int p] (upd H a (XNew C a none))
  (fun v H2=>v = .non/\∃ dx,H2 a=some (XNew C a (some dx))/\∃ fs,H2 dx=some (XDic dx fs)/\E (.ref C) (some dx) (del H2 a)) E':=fun a ha=>by
 refine ⟨a,_,_,rfl,ad_,fun dx hdx hne=>⟨rfl,dx,ad_,_,by rw [am_ hne];exact ad_,?_⟩⟩;have hdx':H dx=none:=by rw [am_ hne] at hdx;exact hdx
 refine h dx _ (fun b o e=>?_) ?_
 ·have nb:b≠a:=af_ e ha
  rw [cw_ nb,am_ nb,am_ (af_ e hdx'),am_ nb];exact e
 rw [cw_ hne,am_ hne];exact ad_
noncomputable def d5_ (g:Int) (k:Str) (b e:Int) (c:V):List (Str×V):=[("group",.int g),("kind",.str k),("begin",.int b),("end",.int e),("content",c)]
noncomputable def kindOf:Vaunid.Tok->List Nat
 | .word w=>if isTaken w=true then w else Vaunid.txt "name"
 | .num _ d=>if d.isSome=true then Vaunid.txt "digit" else Vaunid.txt "number"
 | .sign s=>s
def hg_ (Ca:Addr) (H:Hp) (c:V):Vaunid.Tok->Prop
 | .word w=>c = .str (S w)
 | .num v _=>∃ a,c = .ref a/\a2_ Ca H a v.top (v.low:Int) (v.measure.getD [])
 | .sign s=>c = .str (S s)
def cR_ (Ca Ct:Addr) (H:Hp) (a:Addr) (k:Vaunid.Token):Prop:=∃ dx c,H a=some (.ins Ct dx (d5_ (Vaunid.sortOf k.tok) (S (kindOf k.tok)) (k.start:Int) (k.halt_:Int) c))/\hg_ Ca H c k.tok
theorem hg_.same {Ca:Addr}{H H':Hp}{c:V}{k:Vaunid.Tok} (h:hg_ Ca H c k) (s:Same H H'):hg_ Ca H' c k:=by
 cases k with
 | word w=>exact h
 | num v d=>obtain ⟨a,e,q⟩:=h;exact ⟨a,e,q.same s⟩
 | sign x=>exact h
theorem cR_.same {Ca Ct:Addr}{H H':Hp}{a:Addr}{k:Vaunid.Token} (h:cR_ Ca Ct H a k) (s:Same H H'):cR_ Ca Ct H' a k:=by
 obtain ⟨dx,c,e,q⟩:=h;exact ⟨dx,c,s _ _ e,q.same s⟩
theorem iL_:[V.str "fn",V.str "let",V.str "rec",V.str "if",V.str "cons",V.str "case",V.str "pair",V.str "fst",V.str "snd",V.str "fold",V.str "root",V.str "floor",V.str "rest",V.str "true",V.str "false",V.str "nil",V.str "truth",V.str "num",V.str "list",V.str "base",V.str "unit",V.str "def",V.str "fun",V.str "in",V.str "then",V.str "else",V.str "match",V.str "with",V.str "and",V.str "or",V.str "not"]=(Vaunid.taken.map S).map V.str:=by left
theorem k6_:[V.str "(",V.str ")",V.str "+",V.str "-",V.str "*",V.str "/",V.str "^",V.str "<",V.str "="]=(Vaunid.coreSigns.map S).map V.str:=by left
theorem in_S (l:List Nat) (L:List (List Nat)):inV (.str (S l)) ((L.map S).map V.str)=decide (l∈L):=by
 rw [nT_,any_map,Bool.eq_iff_iff];simp only [any_eq_true,decide_eq_true_eq,Function.comp_def,beq_iff_eq,ce_]
 constructor
 ·rintro ⟨x,hx,rfl⟩;exact hx
 intro h;exact ⟨l,h,rfl⟩
theorem jD_ (w:List Nat):isTaken w=decide (w∈Vaunid.taken):=by
 unfold isTaken;rw [Bool.eq_iff_iff];simp only [any_eq_true,decide_eq_true_eq,beq_iff_eq]
 constructor
 ·rintro ⟨x,hx,rfl⟩;exact hx
 intro h;exact ⟨w,h,rfl⟩
end M
namespace L2
theorem no_ {a b:Int}:scal (.int a) (.int b)=true:=rfl
theorem nn_ {a b:PySem.Str}:scal (.str a) (.str b)=true:=rfl
theorem np_ {a b:Bool}:scal (.bl a) (.bl b)=true:=rfl
end L2
namespace L2
theorem fk_ {c:TT}{t u:TS}{D:Ends}{σ:St}{H:Hp} (h : ∀ A B:Hp->Prop,(∀ H1,t D σ H1->A H1)->(∀ H1,u D σ H1->B H1)->c σ H fun b H1=>if b=true then A H1 else B H1):tIfS c t u D σ H:=h _ _ (fun _ z=>z) (fun _ z=>z)
theorem bM_ {t u:TS}{D:Ends}{σ:St}{H:Hp} (R:St->Hp->Prop) (ht : ∀ X:St->Hp->Prop,(∀ σ' H',R σ' H'->X σ' H')->t { D with nx:=X } σ H) (hc : ∀ σ' H',R σ' H'->u D σ' H'):tSeq t u D σ H:=ht _ hc
end L2
namespace M
open PySem PySem.Spec PyProof.Rows L2 TL
def d7_ (H H':Hp):Prop:=∀ a C dx fs,H a=some (.ins C dx fs)->H' a=some (.ins C dx fs)
theorem Same.insts {H H':Hp} (s:Same H H'):d7_ H H':=fun a C dx fs e=>s _ _ e
theorem d7_.trans {H H1 H2:Hp} (s:d7_ H H1) (r:d7_ H1 H2):d7_ H H2:=fun a C dx fs e=>r _ _ _ _ (s _ _ _ _ e)
theorem d7_.lst {H:Hp}{b:Addr}{xs:List V}{o:HO} (h:H b=some (.lst xs)):d7_ H (upd H b o):=fun a C dx fs e=>by rw [am_ (be_ e h (by intro z;cases z))];exact e
theorem a2_.sameI {C:Addr}{H H':Hp}{a:Addr}{o u:Int}{m:List Nat} (h:a2_ C H a o u m) (s:d7_ H H'):a2_ C H' a o u m:=let ⟨dx,e⟩:=h;⟨dx,s _ _ _ _ e⟩
theorem cR_.sameI {Ca Ct:Addr}{H H':Hp}{a:Addr}{k:Vaunid.Token} (h:cR_ Ca Ct H a k) (s:d7_ H H'):cR_ Ca Ct H' a k:=by
 obtain ⟨dx,c,e,q⟩:=h;refine ⟨dx,c,s _ _ _ _ e,?_⟩;cases hk:k.tok with
 | word w=>rw [hk] at q;exact q
 | num v d=>rw [hk] at q;obtain ⟨a,e,q⟩:=q;exact ⟨a,e,q.sameI s⟩
 | sign x=>rw [hk] at q;exact q
abbrev cj_ (Ca Ct:Addr) (H:Hp) (as:List Addr) (l:List Vaunid.Token):Prop:=Paired (fun a k=>cR_ Ca Ct H a k) as l
theorem cj_.sameI {Ca Ct:Addr}{H H':Hp}{as:List Addr}{l:List Vaunid.Token} (h:cj_ Ca Ct H as l) (s:d7_ H H'):cj_ Ca Ct H' as l:=Paired.mapP h fun a k z=>z.sameI s
theorem cj_.snoc {Ca Ct:Addr}{H:Hp} : ∀ {as:List Addr}{l:List Vaunid.Token}{a:Addr}{k:Vaunid.Token},cj_ Ca Ct H as l->cR_ Ca Ct H a k->cj_ Ca Ct H (as++[a]) (l++[k])
 | _,_,_,_,.nil,q => .cons q .nil
 | _,_,_,_,.cons r t,q => .cons r (cj_.snoc t q)
noncomputable def preR {A:Type} (l:List A) (r:Res (List A)):Res (List A):=match r with
 | .error e => .error e
 | .ok m => .ok (l++m)
end M
namespace L2
open PySem PySem.Spec PyProof.Rows TL
section
variable {X:Cx}{CX:CXT}{k:Nat}{E:XK}{x:Str}{p pos:Pos}{e:Expr}{es:List Expr}{t:TA}{P:Program}{w:World}{K:Frag}{mg:zM}{base:Heap}
def mz_ (P:Program) (w:World) (K:Frag) (mg:zM) (base:Heap) (CX:CXT) (k i:Nat) (E:XK) (t:TA):TE:=fun σ H Q=>∃ f fd ps sp,σ[i]? = some (some (.ref f))/\FnOk P w K mg base CX k f fd ps sp/\bb_ K fd ps []/\keepIn K (.ref f)=true /\
 t σ H fun vs H1=>sp vs H1 Q E
theorem lR_ (i:Nat) (hr:Room k X.A) (hx:bR_ CX X E) (ha:PA X (e::es) t) (hN:X.N[i]? = some x:=by rfl) (e1:X.prog=P:=by rfl) (e2:X.w=w:=by rfl) (e3:X.K=K:=by rfl) (e4:X.mg=mg:=by rfl) (e5:X.base=base:=by rfl)
  (hv:Vis X.env.scope x:=by first | exact Or.inl rfl | exact Or.inr (Or.inl rfl) | exact Or.inr (Or.inr rfl)) (hd:(x == ("__debug__":Str))=false:=by decide) (hcd:(x == ("__classdict__":Str))=false:=by decide)
  (he:starEach (e::es) X.env=(false,eval e X.env)::starEach es X.env:=by rfl) (hpl:(backTo pos (starEach es X.env)).any (·.1)=false:=by rfl) :
  PE X (.Call (.Name x p) (e::es) [] pos) (mz_ P w K mg base CX k i E t):=by
 subst e1 e2 e3 e4 e5;exact ca_ i hr hx ha hN hv hd hcd he hpl
end
end L2
namespace M
open PySem PySem.Spec PyProof.Rows L2 TL
abbrev Toks:=List Vaunid.Token
def bH_ (hl:Nat) (d:Nat) (ts:Toks):Res Core:=coreTerm hl (2 * ts.length+1) d ts
theorem ll_ {hl:Nat}{w:Vaunid.Tok}{ts r:Toks} (h:want hl w ts = .ok r):r.length+1=ts.length:=by
 unfold want at h;split at h
 ·split at h
  ·cases h;rfl
  cases h
 cases h
theorem dT_ {hl:Nat}{ts r:Toks}{x:List Nat} (h:wantName hl ts = .ok (x,r)):r.length+1=ts.length:=by
 unfold wantName at h;split at h
 ·split at h
  ·cases h;rfl
  cases h
 ·cases h
 cases h
theorem df_ {hl:Nat}{ts r:Toks}{x:Int} (h:wantDigit hl ts = .ok (x,r)):r.length+1=ts.length:=by
 unfold wantDigit at h;split at h
 ·cases h;rfl
 ·cases h
 cases h
inductive Kind where
 | name | part | power
 deriving DecidableEq
inductive Fm where
 | fn | rec_ | let_ | if_ | app | pair | fst | snd | cons | case | fold | plus | minus | times | over | less | equal | floor | rest | root | pow
 deriving DecidableEq
noncomputable def Fm.word:Fm->String
 | .fn=>"fn" | .rec_=>"rec" | .let_=>"let" | .if_=>"if" | .app=>"apply" | .pair=>"pair" | .fst=>"fst" | .snd=>"snd" | .cons=>"cons" | .case=>"case" | .fold=>"fold"
 | .plus=>"+" | .minus=>"-" | .times=>"*" | .over=>"/" | .less=>"<" | .equal=>"=" | .floor=>"floor" | .rest=>"rest" | .root=>"root" | .pow=>"^"
noncomputable def Fm.kinds:Fm->List Kind
 | .fn=>[.name,.part] | .rec_=>[.name,.name,.part] | .let_=>[.name,.part,.part] | .if_=>[.part,.part,.part] | .app=>[.part,.part] | .pair=>[.part,.part] | .fst=>[.part] | .snd=>[.part] | .cons=>[.part,.part]
 | .case=>[.part,.part,.name,.name,.part] | .fold=>[.part,.part,.part] | .plus=>[.part,.part] | .minus=>[.part,.part] | .times=>[.part,.part] | .over=>[.part,.part] | .less=>[.part,.part] | .equal=>[.part,.part]
 | .floor=>[.part,.part] | .rest=>[.part,.part] | .root=>[.part] | .pow=>[.part,.power]
inductive Item where
 | w (x:List Nat)
 | n (m:Int)
 | p (t:Term) (l:List Nat)
noncomputable def Fm.mk:Fm->List Item->Term
 | .fn,[.w x,.p a _] => .fn x a
 | .rec_,[.w f,.w x,.p a _] => .rec_ f x a
 | .let_,[.w x,.p a _,.p b _] => .let_ x a b
 | .if_,[.p a _,.p b _,.p c _] => .three .cond a b c
 | .app,[.p a _,.p b _] => .two .app a b
 | .pair,[.p a _,.p b _] => .two .pair a b
 | .fst,[.p a _] => .one .fst a
 | .snd,[.p a _] => .one .snd a
 | .cons,[.p a _,.p b _] => .two .cons a b
 | .case,[.p l _,.p a _,.w h,.w t,.p b _] => .case l a h t b
 | .fold,[.p a _,.p b _,.p c _] => .three .fold a b c
 | .plus,[.p a _,.p b _] => .two .plus a b
 | .minus,[.p a _,.p b _] => .two .minus a b
 | .times,[.p a _,.p b _] => .two .times a b
 | .over,[.p a _,.p b _] => .two .over a b
 | .less,[.p a _,.p b _] => .two .less a b
 | .equal,[.p a _,.p b _] => .two .equal a b
 | .floor,[.p a _,.p b _] => .two .floor a b
 | .rest,[.p a _,.p b _] => .two .rest a b
 | .root,[.p a _] => .one .root a
 | .pow,[.p a _,.n m] => .one (.pow m) a
 | _,_ => .leaf .nil
def by_:List Item->List Nat
 | []=>[]
 | .p _ l::r=>l++by_ r
 | _::r=>by_ r
noncomputable def atz_ (hl:Nat) (term:Toks->Res Core):List Kind->Toks->Res (List Item×Toks)
 | [],ts => .ok ([],ts)
 | .name::ks,ts=>match wantName hl ts with
  | .error e => .error e
  | .ok (x,r)=>match atz_ hl term ks r with
   | .error e => .error e
   | .ok (is,q) => .ok (.w x::is,q)
 | .part::ks,ts=>match term ts with
  | .error e => .error e
  | .ok (a,pa,r)=>match atz_ hl term ks r with
   | .error e => .error e
   | .ok (is,q) => .ok (.p a pa::is,q)
 | .power::ks,ts=>match wantDigit hl ts with
  | .error e => .error e
  | .ok (m,r)=>match atz_ hl term ks r with
   | .error e => .error e
   | .ok (is,q) => .ok (.n m::is,q)
open Vaunid (word sign)
noncomputable def fmOf (k:Vaunid.Tok):Option Fm :=
 if k=word "fn" then some .fn else if k=word "rec" then some .rec_ else if k=word "let" then some .let_ else if k=word "case" then some .case else if k=sign "^" then some .pow
 else if k=word "fst" then some .fst else if k=word "snd" then some .snd else if k=word "root" then some .root
 else if k=word "pair" then some .pair else if k=word "cons" then some .cons else if k=sign "+" then some .plus else if k=sign "-" then some .minus
 else if k=sign "*" then some .times else if k=sign "/" then some .over else if k=sign "<" then some .less else if k=sign "=" then some .equal
 else if k=word "floor" then some .floor else if k=word "rest" then some .rest else if k=word "if" then some .if_ else if k=word "fold" then some .fold else none
noncomputable def f8_ (hl p:Nat) (f:Fm) (x:Res (List Item×Toks)):Res Core:=match x with
 | .error e => .error e
 | .ok (is,r)=>match want hl (sign ")") r with
  | .error e => .error e
  | .ok q => .ok (f.mk is,p::by_ is,q)
noncomputable def ap_ (ts:Toks):Fm×Toks:=match ts with
 | []=>(.app,[])
 | k::r=>match fmOf k.tok with
  | some f=>(f,r)
  | none=>(.app,k::r)
noncomputable def cv_ (hl:Nat) (term:Toks->Res Core) (p:Nat) (ts:Toks):Res Core:=f8_ hl p (ap_ ts).1 (atz_ hl term (ap_ ts).1.kinds (ap_ ts).2)
noncomputable def cps (hl:Nat) (T:Toks->Res Core):List Kind->Toks->(List Item->Toks->Res Core)->Res Core
 | [],ts,k=>k [] ts
 | .name::ks,ts,k=>(wantName hl ts).bind fun y=>cps hl T ks y.2 fun is q=>k (.w y.1::is) q
 | .part::ks,ts,k=>(T ts).bind fun y=>cps hl T ks y.2.2 fun is q=>k (.p y.1 y.2.1::is) q
 | .power::ks,ts,k=>(wantDigit hl ts).bind fun y=>cps hl T ks y.2 fun is q=>k (.n y.1::is) q
theorem iE_ (hl:Nat) (T:Toks->Res Core) : ∀ (ks:List Kind) (ts:Toks) (k:List Item->Toks->Res Core),cps hl T ks ts k=(atz_ hl T ks ts).bind fun y=>k y.1 y.2
 | [],_,_=>rfl
 | .name::ks,ts,k=>by
  unfold cps atz_;cases wantName hl ts with
  | error e=>rfl
  | ok y =>
  refine (iE_ hl T ks y.2 _).trans ?_;show _=Except.bind (match atz_ hl T ks y.2 with | .error e => .error e | .ok (is,q) => .ok (Item.w y.1::is,q)) _
  cases atz_ hl T ks y.2 <;> rfl
 | .part::ks,ts,k=>by
  unfold cps atz_;cases T ts with
  | error e=>rfl
  | ok y =>
  refine (iE_ hl T ks y.2.2 _).trans ?_;show _=Except.bind (match atz_ hl T ks y.2.2 with | .error e => .error e | .ok (is,q) => .ok (Item.p y.1 y.2.1::is,q)) _
  cases atz_ hl T ks y.2.2 <;> rfl
 | .power::ks,ts,k=>by
  unfold cps atz_;cases wantDigit hl ts with
  | error e=>rfl
  | ok y =>
  refine (iE_ hl T ks y.2 _).trans ?_;show _=Except.bind (match atz_ hl T ks y.2 with | .error e => .error e | .ok (is,q) => .ok (Item.n y.1::is,q)) _
  cases atz_ hl T ks y.2 <;> rfl
def pl2 (l:List Nat):List (List Nat)->List Nat
 | []=>l
 | m::r=>l++pl2 m r
def pls:List Item->List (List Nat)
 | []=>[]
 | .p _ l::r=>l::pls r
 | _::r=>pls r
def pl1 (is:List Item):List Nat:=match pls is with
 | []=>[]
 | l::r=>pl2 l r
theorem mN_ : ∀ (r:List (List Nat)) (l:List Nat),pl2 l r=l++r.flatten
 | [],l=>(append_nil l).symm
 | m::r,l=>congrArg (l ++ ·) (mN_ r m)
theorem id_ : ∀ is:List Item,(pls is).flatten=by_ is
 | []=>rfl
 | .p _ l::r=>congrArg (l ++ ·) (id_ r)
 | .w _::r=>id_ r
 | .n _::r=>id_ r
theorem oM_ (is:List Item):pl1 is=by_ is:=by
 rw [<- id_];unfold pl1;cases pls is with
 | nil=>rfl
 | cons l r=>exact mN_ r l
theorem iF_ (hl p:Nat) (f:Fm) (T:Toks->Res Core) (ks:List Kind) (ts:Toks):cps hl T ks ts (fun is r=>(want hl (sign ")") r).bind fun q => .ok (f.mk is,p::pl1 is,q))=f8_ hl p f (atz_ hl T ks ts):=by
 rw [iE_];cases atz_ hl T ks ts with
 | error e=>rfl
 | ok y =>
 show (want hl (sign ")") y.2).bind (fun q => .ok (f.mk y.1,p::pl1 y.1,q))=match want hl (sign ")") y.2 with | .error e => .error e | .ok q => .ok (f.mk y.1,p::by_ y.1,q)
 rw [oM_];cases want hl (sign ")") y.2 <;> rfl
theorem beg (hl p:Nat) (T:Toks->Res Core) (k:Vaunid.Token) (r:Toks) {f:Fm} (h:fmOf k.tok=some f):cps hl T f.kinds r (fun is r=>(want hl (sign ")") r).bind fun q => .ok (f.mk is,p::pl1 is,q))=cv_ hl T p (k::r):=by
 rw [iF_];unfold cv_ ap_;dsimp only;rw [h]
theorem dt_ (hl n d p:Nat) (k:Vaunid.Token) (r:Toks):coreForm hl (n+1) d p (k::r)=cv_ hl (coreTerm hl n d) p (k::r):=by
 unfold coreForm;dsimp only;generalize coreTerm hl n d=T;by_cases g0:k.tok=word "fn"
 ·rw [if_pos g0];exact beg hl p T k r (f := .fn) (by rw [g0];left)
 rw [if_neg g0];by_cases g1:k.tok=word "rec"
 ·rw [if_pos g1];exact beg hl p T k r (f := .rec_) (by rw [g1];left)
 rw [if_neg g1];by_cases g2:k.tok=word "let"
 ·rw [if_pos g2];exact beg hl p T k r (f := .let_) (by rw [g2];left)
 rw [if_neg g2];by_cases g3:k.tok=word "case"
 ·rw [if_pos g3];exact beg hl p T k r (f := .case) (by rw [g3];left)
 rw [if_neg g3];by_cases g4:k.tok=sign "^"
 ·rw [if_pos g4];exact beg hl p T k r (f := .pow) (by rw [g4];left)
 rw [if_neg g4];by_cases a0:k.tok=word "fst"
 ·rw [show formOne k.tok=some .fst by rw [a0];left];exact beg hl p T k r (f := .fst) (by rw [a0];left)
 by_cases a1:k.tok=word "snd"
 ·rw [show formOne k.tok=some .snd by rw [a1];left];exact beg hl p T k r (f := .snd) (by rw [a1];left)
 by_cases a2:k.tok=word "root"
 ·rw [show formOne k.tok=some .root by rw [a2];left];exact beg hl p T k r (f := .root) (by rw [a2];left)
 rw [show formOne k.tok=none by unfold formOne;rw [if_neg a0,if_neg a1,if_neg a2]];by_cases b0:k.tok=word "pair"
 ·rw [show formTwo k.tok=some .pair by rw [b0];left];exact beg hl p T k r (f := .pair) (by rw [b0];left)
 by_cases b1:k.tok=word "cons"
 ·rw [show formTwo k.tok=some .cons by rw [b1];left];exact beg hl p T k r (f := .cons) (by rw [b1];left)
 by_cases b2:k.tok=sign "+"
 ·rw [show formTwo k.tok=some .plus by rw [b2];left];exact beg hl p T k r (f := .plus) (by rw [b2];left)
 by_cases b3:k.tok=sign "-"
 ·rw [show formTwo k.tok=some .minus by rw [b3];left];exact beg hl p T k r (f := .minus) (by rw [b3];left)
 by_cases b4:k.tok=sign "*"
 ·rw [show formTwo k.tok=some .times by rw [b4];left];exact beg hl p T k r (f := .times) (by rw [b4];left)
 by_cases b5:k.tok=sign "/"
 ·rw [show formTwo k.tok=some .over by rw [b5];left];exact beg hl p T k r (f := .over) (by rw [b5];left)
 by_cases b6:k.tok=sign "<"
 ·rw [show formTwo k.tok=some .less by rw [b6];left];exact beg hl p T k r (f := .less) (by rw [b6];left)
 by_cases b7:k.tok=sign "="
 ·rw [show formTwo k.tok=some .equal by rw [b7];left];exact beg hl p T k r (f := .equal) (by rw [b7];left)
 by_cases b8:k.tok=word "floor"
 ·rw [show formTwo k.tok=some .floor by rw [b8];left];exact beg hl p T k r (f := .floor) (by rw [b8];left)
 by_cases b9:k.tok=word "rest"
 ·rw [show formTwo k.tok=some .rest by rw [b9];left];exact beg hl p T k r (f := .rest) (by rw [b9];left)
 rw [show formTwo k.tok=none by unfold formTwo;rw [if_neg b0,if_neg b1,if_neg b2,if_neg b3,if_neg b4,if_neg b5,if_neg b6,if_neg b7,if_neg b8,if_neg b9]];by_cases c0:k.tok=word "if"
 ·rw [show formThree k.tok=some .cond by rw [c0];left];exact beg hl p T k r (f := .if_) (by rw [c0];left)
 by_cases c1:k.tok=word "fold"
 ·rw [show formThree k.tok=some .fold by rw [c1];left];exact beg hl p T k r (f := .fold) (by rw [c1];left)
 rw [show formThree k.tok=none by unfold formThree;rw [if_neg c0,if_neg c1]];have h:fmOf k.tok=none:=by unfold fmOf;simp only [*,if_false]
 unfold cv_ ap_;dsimp only;rw [h];exact iF_ hl p .app T [.part,.part] (k::r)
def lh_ (T:Toks->Res Core):Prop:=∀ r a pa q,T r = .ok (a,pa,q)->q.length<r.length
theorem di_ {hl:Nat}{T:Toks->Res Core} (hT:lh_ T) : ∀ (ks:List Kind) (ts:Toks) (is:List Item) (q:Toks),atz_ hl T ks ts = .ok (is,q)->q.length<=ts.length
 | [],ts,is,q,h=>by
  cases h;exact Nat.le_refl _
 | .name::ks,ts,is,q,h=>by
  unfold atz_ at h;cases h1:wantName hl ts with
  | error e=>rw [h1] at h;cases h
  | ok v =>
  obtain ⟨x,r⟩:=v;rw [h1] at h;dsimp only at h;cases h2:atz_ hl T ks r with
  | error e=>rw [h2] at h;cases h
  | ok v =>
  obtain ⟨is2,q2⟩:=v;rw [h2] at h;cases h;have:=di_ hT ks r is2 q h2;have:=dT_ h1;omega
 | .part::ks,ts,is,q,h=>by
  unfold atz_ at h;cases h1:T ts with
  | error e=>rw [h1] at h;cases h
  | ok v =>
  obtain ⟨a,pa,r⟩:=v;rw [h1] at h;dsimp only at h;cases h2:atz_ hl T ks r with
  | error e=>rw [h2] at h;cases h
  | ok v =>
  obtain ⟨is2,q2⟩:=v;rw [h2] at h;cases h;have:=di_ hT ks r is2 q h2;have:=hT _ _ _ _ h1;omega
 | .power::ks,ts,is,q,h=>by
  unfold atz_ at h;cases h1:wantDigit hl ts with
  | error e=>rw [h1] at h;cases h
  | ok v =>
  obtain ⟨x,r⟩:=v;rw [h1] at h;dsimp only at h;cases h2:atz_ hl T ks r with
  | error e=>rw [h2] at h;cases h
  | ok v =>
  obtain ⟨is2,q2⟩:=v;rw [h2] at h;cases h;have:=di_ hT ks r is2 q h2;have:=df_ h1;omega
theorem e0_ (ts:Toks):(ap_ ts).2.length<=ts.length:=by
 unfold ap_;cases ts with
 | nil=>exact Nat.le_refl _
 | cons k r =>
 dsimp only;split
 ·exact le_succ _
 exact Nat.le_refl _
theorem me_ {hl p:Nat}{T:Toks->Res Core} (hT:lh_ T) {ts q:Toks}{a:Term}{pa:List Nat} (h:cv_ hl T p ts = .ok (a,pa,q)):q.length<ts.length:=by
 unfold cv_ f8_ at h;cases h1:atz_ hl T (ap_ ts).1.kinds (ap_ ts).2 with
 | error e=>rw [h1] at h;cases h
 | ok v =>
 obtain ⟨is,r⟩:=v;rw [h1] at h;dsimp only at h;cases h2:want hl (sign ")") r with
 | error e=>rw [h2] at h;cases h
 | ok q2 =>
 rw [h2] at h;cases h;have:=di_ hT _ _ _ _ h1;have:=ll_ h2;have:=e0_ ts;omega
theorem md_ (hl n d p:Nat) : ∃ e,coreForm hl n d p [] = .error e:=by
 cases n with
 | zero=>exact ⟨_,rfl⟩
 | succ n =>
 unfold coreForm;dsimp only;split
 ·exact ⟨_,rfl⟩
 exact ⟨_,rfl⟩
theorem fF_ (hl:Nat) : ∀ (n d:Nat),lh_ (coreTerm hl n d)
 | 0,d,r,a,pa,q,h=>by cases h
 | 1,d,r,a,pa,q,h=>by
  unfold coreTerm at h;split at h
  ·cases h
  cases r with
  | nil=>cases h
  | cons k r =>
  dsimp only at h;split at h
  ·cases h
  split at h
  ·cases h;exact lt_succ_self _
  cases h
 | n+2,d,r,a,pa,q,h=>by
  unfold coreTerm at h;split at h
  ·cases h
  cases r with
  | nil=>cases h
  | cons k r =>
  dsimp only at h;split at h
  ·cases r with
   | nil =>
    obtain ⟨e,he⟩:=md_ hl (n+1) (d - 1) k.start;rw [he] at h;cases h
   | cons k2 r2 =>
    rw [dt_] at h;have:=me_ (fF_ hl n (d - 1)) h;rw [length_cons];omega
  split at h
  ·cases h;exact lt_succ_self _
  cases h
theorem b7_ {hl:Nat}{T T':Toks->Res Core} (hT:lh_ T) (L:Nat) (hE : ∀ r,r.length<=L->T r=T' r) : ∀ (ks:List Kind) (ts:Toks),ts.length<=L->atz_ hl T ks ts=atz_ hl T' ks ts
 | [],ts,_=>rfl
 | .name::ks,ts,h=>by
  unfold atz_;cases h1:wantName hl ts with
  | error e=>rfl
  | ok v =>
  obtain ⟨x,r⟩:=v;have:=dT_ h1;dsimp only;rw [b7_ hT L hE ks r (by omega)]
 | .part::ks,ts,h=>by
  unfold atz_;rw [<- hE ts h];cases h1:T ts with
  | error e=>rfl
  | ok v =>
  obtain ⟨a,pa,r⟩:=v;have:=hT _ _ _ _ h1;dsimp only;rw [b7_ hT L hE ks r (by omega)]
 | .power::ks,ts,h=>by
  unfold atz_;cases h1:wantDigit hl ts with
  | error e=>rfl
  | ok v =>
  obtain ⟨x,r⟩:=v;have:=df_ h1;dsimp only;rw [b7_ hT L hE ks r (by omega)]
theorem fr_ {hl p:Nat}{T T':Toks->Res Core} (hT:lh_ T) {ts:Toks} (hE : ∀ r,r.length<=ts.length->T r=T' r):cv_ hl T p ts=cv_ hl T' p ts:=by
 unfold cv_;rw [b7_ hT ts.length hE _ _ (e0_ ts)]
theorem ew_ (hl:Nat) : ∀ (L:Nat) (ts:Toks) (n m d:Nat),ts.length<=L->2 * ts.length+1<=n->2 * ts.length+1<=m->coreTerm hl n d ts=coreTerm hl m d ts
 | L,[],0,_,_,_,h,_=>by omega
 | L,[],_+1,0,_,_,_,h=>by omega
 | L,[],n+1,m+1,d,_,_,_=>by
  unfold coreTerm;rfl
 | 0,k::r,_,_,_,h,_,_=>by simp at h
 | L+1,k::r,n,m,d,h,hn,hm=>by
  rw [length_cons] at h hn hm;obtain ⟨n,rfl⟩ : ∃ n',n=n'+2:=⟨n - 2,by omega⟩;obtain ⟨m,rfl⟩ : ∃ m',m=m'+2:=⟨m - 2,by omega⟩;unfold coreTerm;split
  ·rfl
  dsimp only;split
  ·cases r with
   | nil =>
    unfold coreForm;rfl
   | cons k2 r2 =>
    rw [dt_,dt_];rw [length_cons] at h hn hm;exact fr_ (fF_ hl n (d - 1)) fun r' hr'=>ew_ hl L r' n m (d - 1) (by rw [length_cons] at hr';omega) (by rw [length_cons] at hr';omega) (by rw [length_cons] at hr';omega)
  rfl
theorem jl_ (hl:Nat) (ts:Toks):bH_ hl 0 ts=fault 8 (Vaunid.placeOf hl ts):=by
 unfold bH_ coreTerm;rfl
theorem k7_ (hl d:Nat):bH_ hl (d+1) []=fault 6 hl:=rfl
theorem jm_ {hl d:Nat}{k:Vaunid.Token}{r:Toks} (h : ¬ k.tok=sign "("):bH_ hl (d+1) (k::r)=(match Vaunid.leafOf k.tok with | some l => .ok (.leaf l,[k.start],r) | none=>fault 6 k.start):=by
 unfold bH_ coreTerm;rw [if_neg (by omega)];dsimp only;rw [if_neg h] <;> rfl
theorem jn_ {hl d:Nat}{k:Vaunid.Token}{r:Toks} (h:k.tok=sign "("):bH_ hl (d+1) (k::r)=cv_ hl (bH_ hl d) k.start r:=by
 unfold bH_;rw [length_cons,show 2 * (r.length+1)+1=2 * r.length+2+1 by omega];unfold coreTerm;rw [if_neg (by omega)];dsimp only;rw [if_pos h,Nat.add_sub_cancel];cases r with
 | nil =>
  unfold coreForm;dsimp only;by_cases h0:d=0
  ·subst h0;rfl
  obtain ⟨d,rfl⟩ : ∃ d',d=d'+1:=⟨d - 1,by omega⟩;rfl
 | cons k2 r2 =>
 rw [show 2 * (k2::r2).length+2=2 * (k2::r2).length+1+1 from rfl,dt_];refine fr_ (fF_ hl _ d) fun r' hr'=>?_;exact ew_ hl _ r' _ _ d (Nat.le_refl _) (by omega) (Nat.le_refl _)
theorem hr_ (t:List Nat):readCore t=(match allTokens true t with
  | .error e => .error e
  | .ok ts=>match bH_ t.length 40 ts with
   | .error e => .error e
   | .ok (a,places,r)=>match r with
    | k::_=>fault 6 k.start
    | []=>if 300<places.length then fault 9 (places.getD 300 0) else .ok a):=by
 unfold readCore;cases h1:allTokens true t with
 | error e=>rfl
 | ok ts =>
 show (coreTerm t.length (2 * ts.length+2) 40 ts >>= _)=_;rw [ew_ t.length ts.length ts (2 * ts.length+2) (2 * ts.length+1) 40 (Nat.le_refl _) (by omega) (Nat.le_refl _)];show (bH_ t.length 40 ts >>= _)=(match bH_ t.length 40 ts with
  | .error e => .error e
  | .ok (a,places,r)=>match r with
   | k::_=>fault 6 k.start
   | []=>if 300<places.length then fault 9 (places.getD 300 0) else .ok a)
 cases h2:bH_ t.length 40 ts with
 | error e=>rfl
 | ok v =>
 obtain ⟨a,places,r⟩:=v;cases r with
 | nil=>rfl
 | cons k r=>rfl
end M
end Internal
open Internal
namespace PySem
namespace F
theorem gN_:Manifest.owners.lookup (String.ofList ['d', 'e', 's', 'r', 'e', 'v', 'e', 'r'].reverse)=some Manifest.sig_reversed:=by kernel_rfl
theorem slot_rvd_next:Slot "reversed" "__next__" "reversed.__next__" :=
 .of (owner:="reversed") (n:="__next__") (by rw [typeLookup_type,builtinLookup_eq_fast];kernel_rfl) (by left) (by left) (by left)
  (by first | exact .inl (by left) | exact .inr (by left)) (by rw [isSubtype_type];kernel_rfl)
theorem entry_rvd_next:entryFor table "reversed.__next__"=some Builtin.«reversed.__next__» := entryFor_of_tree (by kernel_rfl)
theorem args_rvd_next_1 (a:Value):argsOk "reversed.__next__" ⟨[a],[]⟩:=by
 unfold argsOk;rw [signature?_of (id:="reversed.__next__") (n:=['_', '_', 't', 'x', 'e', 'n', '_', '_']) (o:=['d', 'e', 's', 'r', 'e', 'v', 'e', 'r']) (by kernel_rfl) gN_];kernel_rfl
theorem slot_rvd_iter:Slot "reversed" "__iter__" "reversed.__iter__" :=
 .of (owner:="reversed") (n:="__iter__") (by rw [typeLookup_type,builtinLookup_eq_fast];kernel_rfl) (by left) (by left) (by left)
  (by first | exact .inl (by left) | exact .inr (by left)) (by rw [isSubtype_type];kernel_rfl)
theorem args_rvd_iter_1 (a:Value):argsOk "reversed.__iter__" ⟨[a],[]⟩:=by
 unfold argsOk;rw [signature?_of (id:="reversed.__iter__") (n:=['_', '_', 'r', 'e', 't', 'i', '_', '_']) (o:=['d', 'e', 's', 'r', 'e', 'v', 'e', 'r']) (by kernel_rfl) gN_];kernel_rfl
theorem entry_rvd_iter:entryFor table "reversed.__iter__"=some Builtin.«dict_keyiterator.__iter__» :=
 entryFor_alias (id':="dict_keyiterator.__iter__") (by kernel_rfl) (by first | rfl | left | (unfold String.splitOn;simp +decide [String.splitOnAux])) (by left) (by kernel_rfl)
theorem fI_:Slot "reversed" "__init__" "object.__init__" :=
 .of (owner:="object") (n:="__init__") (by rw [typeLookup_type,builtinLookup_eq_fast];kernel_rfl) (by left) (by left) (by left)
  (by first | exact .inl (by left) | exact .inr (by left)) (by rw [isSubtype_type];kernel_rfl)
theorem called_rvd:TypeCalled "reversed" "reversed.__new__" "object.__init__" :=
 ⟨by left,by left,⟨_,_,mro_reversed⟩,made_reversed,by left,sub_reversed_self,fI_⟩
theorem tuple_no_rev:typeLookup (.type "tuple") "__reversed__"=pure none:=am_miss_of_fast (by first | left | rfl)
end F
end PySem
namespace PySem
open PyProof.Rows
def mJ_ (l:Addr) (i:Int):Obj:={ cls := .type "reversed",data := .fields #[.ref l,rawInt i] }
def Heap.IsRvd (h:Heap) (a l:Addr) (i:Int):Prop:=∃ o,h.get? a=some o/\o.cls = .type "reversed"/\o.data = .fields #[.ref l,rawInt i]
section
variable {prog:Program}{w:World}{A:Around}{E:zQ}{s:Shared}
theorem Heap.IsRvd.typeIs {a l:Addr}{i:Int} (x:s.heap.IsRvd a l i):s.TypeIs (.ref a) "reversed":=let ⟨o,ho,hc,_⟩:=x;⟨o,ho,hc⟩
theorem Heap.IsRvd.at {h h':Heap}{a l:Addr}{i:Int} (x:h.IsRvd a l i) (e : ∀ o,h.get? a=some o->h'.get? a=some o):h'.IsRvd a l i:=let ⟨o,ho,r⟩:=x;⟨o,e _ ho,r⟩
theorem e4_:isSubtype (.type "tuple") (.type "dict")=pure false:=by rw [isSubtype_type];kernel_rfl
theorem c1_ (t:Addr) (items:Array Value) :
  Meets (Builtin.«reversed.__new__» ⟨[.type "reversed",.ref t],[]⟩) (fun _ R s=>IsTup s.heap t items/\((items.size:Int)<2 ^ 63)/\∀ k,R (.ok (.ret (.ref s.heap.objs.size))) { s with heap:=s.heap.push (mJ_ t ((items.size:Int) - 1)),toks:=k }) :=
 .of_wp fun prog w A R s h=>by
  obtain ⟨ht,hz,h⟩:=h;have hT:=ht.typeIs;unfold Builtin.«reversed.__new__»;refine wpAny_bind (wpAny_of_eq (newClass_reversed _) ?_)
  try dsimp only
  refine wpAny_bind (wpAny_of_eq (a:=()) (by first | rfl | kernel_rfl) ?_);refine wpAny_bind (wpAny_of_eq (a:=()) (by first | rfl | kernel_rfl) ?_)
  try dsimp only
  refine wpAny_bind (wpAny_specialOf hT F.tuple_no_rev ?_)
  try dsimp only
  refine wpAny_bind ?_;show wpAny _ _ (isInstance (.ref t) (.type "dict") >>= _) _ _ _;refine wpAny_bind (wpAny_isInstance (T:="tuple") (b:=false) hT e4_ ?_);show wpAny _ _ (specialOf (.ref t) "__getitem__" >>= _) _ _ _;refine wpAny_bind (wpAny_specialOf hT slot_tuple_getitem.lookup ?_);refine wpAny_of_eq (a:=true) rfl ?_;rw [if_neg (by decide)];refine wpAny_bind (len_tuple ht hz ?_);refine wpAny_bind (wpAny_of_eq (a:=some ((items.size:Nat):Int)) rfl ?_);dsimp only;refine wpAny_bind ?_;show wpAny _ _ (newObj (.type "reversed") (.fields #[Value.ref t,rawInt ((items.size:Int) - 1)])) _ _ _;exact wpAny_newObj_type (wpAny_pure ⟨_,rfl,h _⟩)
theorem db_ {t:Addr}{items:Array Value}{Q:zQ} (ht:IsTup s.heap t items) (hz:(items.size:Int)<2 ^ 63)
  (h : ∀ k,Q (.ref s.heap.objs.size) { s with heap:=s.heap.push (mJ_ t ((items.size:Int) - 1)),toks:=k }):wpAny (model prog w) A (call (.type "reversed") [.ref t]) Q E s :=
 callType_new F.called_rvd (by decide) (F.typeCall_reversed_1 _) (F.newCall_reversed_1 _) (fun obj=>F.args_object_init_2 obj _) F.entry_reversed_new (c1_ t items) ⟨ht,hz,fun k=>⟨⟨_,get?_push_size _ rfl,rfl⟩,h k⟩⟩
theorem cf_ {it l:Addr}{i:Int}{Q:zQ} (hit:s.heap.IsRvd it l i) (h:Q (.ref it) s):wpAny (model prog w) A (pyIter (.ref it)) Q E s:=by
 refine wpAny_pyIter_slot hit.typeIs F.slot_rvd_iter (wpAny_call_entry F.slot_rvd_iter hit.typeIs F.entry_rvd_iter ?_ (F.args_rvd_iter_1 _));show wpAny _ _ (ret (.ref it)) _ _ s;exact wpAny_pure ⟨_,rfl,"reversed",_,hit.typeIs,F.slot_rvd_next.lookup,h⟩
theorem cl_ {it l:Addr}{i:Nat}{items:Array Value}{x:Value}{Q:Option Value->Shared->Prop} (hit:s.heap.IsRvd it l (i:Int)) (hl:IsTup s.heap l items) (hne:l≠it) (hz:(items.size:Int)<2 ^ 63) (hx:items[i]? = some x)
  (hQ : ∀ h' k,h'.IsRvd it l ((i:Int) - 1)->Heap.SameBut it s.heap h'->Q (some x) { s with heap:=h',toks:=k }):wpAny (model prog w) A (pyNext (.ref it)) Q E s:=by
 obtain ⟨o,ho,hc,hd⟩:=id hit;have hlt:i<items.size:=(Array.getElem?_eq_some_iff.mp hx).1;unfold pyNext;refine wpAny_bind (wpAny_attempt (wpAny_callSpecial?_slot (name:=ofString "__next__") hit.typeIs F.slot_rvd_next
  (wpAny_call_entry F.slot_rvd_next hit.typeIs F.entry_rvd_next ?_ (F.args_rvd_next_1 _))))
 unfold Builtin.«reversed.__next__»;refine wpAny_bind (wpAny_of_eq (a:=(Value.ref it,[])) rfl ?_)
 try dsimp only
 refine wpAny_bind (wpAny_field ho hd (x := .ref l) rfl ?_);refine wpAny_bind (wpAny_field ho hd (x:=rawInt (i:Int)) rfl ?_);show wpAny _ _ (if (i:Int)<0 then _ else _) _ _ s;rw [if_neg (by omega)];refine wpAny_bind (wpAny_specialOf hl.typeIs slot_tuple_getitem.lookup ?_);rw [if_neg (by decide)];refine wpAny_bind (wpAny_mkInt ?_);refine wpAny_bind (wpAny_attempt (getItem_tuple (j:=i) (x:=x) hl (by omega) (by omega) (by unfold seqIndex?;simp;omega) hx ?_));refine wpAny_bind (wpAny_field (s:={ s with toks:=s.toks+1 }) ho hd (x:=rawInt (i:Int)) rfl ?_);refine wpAny_bind (wpAny_setField (s:={ s with toks:=s.toks+1 }) ho hd (by simp) ?_);refine wpAny_pure ⟨x,rfl,wpAny_pure (hQ _ _ ?_ (Heap.SameBut.update ..))⟩;exact ⟨_,get?_update_self _ ho (Obj.isFreed_of_fields (Obj.data_mapFields hd _)),(Obj.cls_mapFields ..).trans hc,by
  rw [Obj.data_mapFields hd];simp⟩
theorem cN_ {it l:Addr}{Q:Option Value->Shared->Prop} (hh:A.handled=none) (hit:s.heap.IsRvd it l (-1))
  (hQ : ∀ h',Heap.ExtBut it s.heap h'->Q none { s with heap:=h' }):wpAny (model prog w) A (pyNext (.ref it)) Q E s:=by
 obtain ⟨o,ho,hc,hd⟩:=id hit;unfold pyNext;refine wpAny_bind (wpAny_attempt (wpAny_callSpecial?_slot (name:=ofString "__next__") hit.typeIs F.slot_rvd_next
  (wpAny_call_entry F.slot_rvd_next hit.typeIs F.entry_rvd_next ?_ (F.args_rvd_next_1 _))))
 unfold Builtin.«reversed.__next__»;refine wpAny_bind (wpAny_of_eq (a:=(Value.ref it,[])) rfl ?_)
 try dsimp only
 refine wpAny_bind (wpAny_field ho hd (x := .ref l) rfl ?_);refine wpAny_bind (wpAny_field ho hd (x:=rawInt (-1)) rfl ?_);show wpAny _ _ (if (-1:Int)<0 then _ else _) _ _ s;rw [if_pos (by decide)];refine wpAny_bind (wpAny_rule ?_);refine wpAny_bind ?_;show wpAny _ _ (setField (.ref it) 1 (rawInt (-1)) >>= _) _ _ _;refine wpAny_bind (wpAny_setField ho hd (by simp) ?_);have ho2:=get?_update_self (Obj.mapFields (·.setIfInBounds 1 (rawInt (-1)))) ho (Obj.isFreed_of_fields (Obj.data_mapFields hd _));have hd2:(Obj.mapFields (·.setIfInBounds 1 (rawInt (-1))) o).data = .fields #[Value.ref l,rawInt (-1)]:=by rw [Obj.data_mapFields hd];simp
 have sb2:Heap.SameBut it s.heap (s.heap.update it (Obj.mapFields (·.setIfInBounds 1 (rawInt (-1))))):=Heap.SameBut.update ..;generalize s.heap.update it (Obj.mapFields (·.setIfInBounds 1 (rawInt (-1))))=h2 at ho2 sb2 ⊢;refine wpAny_setField (s:={ s with heap:=h2 }) ho2 hd2 (by simp) ?_;have sb3:Heap.SameBut it h2 (h2.update it (Obj.mapFields (·.setIfInBounds 0 .none))):=Heap.SameBut.update ..;show wpAny _ _ (Builtin.SmallTypes.stopIteration >>= _) _ _ { s with heap:=h2.update it (Obj.mapFields (·.setIfInBounds 0 .none)) };generalize h2.update it (Obj.mapFields (·.setIfInBounds 0 .none))=h3 at sb3 ⊢;refine wpAny_bind ?_;show wpAny _ _ (newExc (.type "StopIteration") [] >>= _) _ _ _;refine wpAny_bind ?_;simp only [newExc,newTuple];refine wpAny_bind (wpAny_newObj_type ?_ (by size_fits));refine wpAny_bind (m:=firstArgMember _ _) (wpAny_of_eq (a:=Value.none) (by first | rfl | (simp only [firstArgMember];rfl)) ?_);refine wpAny_newObj_type ?_ (by size_fits);simp only [raiseNew];refine wpAny_bind (wpAny_handled ?_)
 first | rw [show A.in1.handled=none from hh] | rw [hh]
 refine wpAny_bind (wpAny_pure (wpAny_throw ?_));refine wpAny_bind (wpAny_isInstance (T:="StopIteration") (b:=true) ⟨_,get?_push_size _ rfl,rfl⟩ isSubtype_stop ?_);exact wpAny_pure (hQ _ ((((sb2.trans sb3).extBut).push _).push _))
end
end PySem
namespace Internal
namespace L2
open PySem PySem.Spec PyProof.Rows TL
def Itw (K:Frag) (a:Addr) (n:Nat):It :=
 ⟨fun i H=>i<n/\∃ (xs:List V) (x:V),SqT K H a xs/\xs.length=n/\xs[n - 1 - i]? = some x,fun i H x H'=>H'=H/\∀ xs,SqT K H a xs->xs[n - 1 - i]? = some x,fun i _=>n<=i⟩
theorem jz_ {P:Program}{w:World}{K:Frag}{tg:Expr} (a it:Addr) (n:Nat):Turn P w K tg (Itw K a n) [it] it (fun i h=>i<=n/\h.IsRvd it a ((n:Int) - 1 - (i:Nat))) where
 mem:=by simp
 obj:=fun i h st b hb=>by
  have e:b=it:=by simpa using hb
  subst e;refine x_01 st fun _ zz0=>?_;refine x_12 zz0 fun o e c d=>?_;exact ⟨o,e,fun v z=>by rw [d] at z;cases z⟩
 keep:=fun i h h' st k=>⟨st.1,st.2.at fun o e=>k it (by simp) o e⟩
 item:=by
  intro X hP hw hK hc i pins s σ H E I hf st hg;subst hP hw hK;refine x_01 hg fun hin zz0=>?_;refine x_22 zz0 fun xs x hq hxl hx=>?_;refine x_12 (I.tuple hq) fun its rv p hz=>?_;obtain ⟨u,hu,ru⟩:=rv.get hx;obtain ⟨f0,f1,f2,f3,f4,f5⟩:=hf it (by simp);obtain ⟨_,hit⟩:=st;have e1:(n:Int) - 1 - ((i:Nat):Int)=((n - 1 - i:Nat):Int):=by omega
  rw [e1] at hit;have hl:=rv.length;have hn:=do_;have nla:a≠it:=fun z=>by
   obtain ⟨o,e,c,d⟩:=hit;obtain ⟨ob,e2,c2,nn,d2⟩:=p;rw [z,e] at e2;cases e2;rw [d] at d2;cases d2
  refine cl_ hit p nla (by rw [size_toArray];omega) (x:=u) (by simpa using hu) fun h' k st' sb=>?_;have e2:((n - 1 - i:Nat):Int) - 1=(n:Int) - 1 - ((i+1:Nat):Int):=by omega
  rw [e2] at st';have I1:Inv X pins σ H { s with heap:=h',toks:=k }:=I.turned (t':=k) (fun b o hb e=>(sb.2 b hb).trans e) f0 f1 f3 f4 f5;refine x_12 (id st') fun o e c d=>?_;exact ⟨u,rfl,kN_ (s:={ s with heap:=h',toks:=k }) e c d (by decide) ⟨x,H,I1,ru,⟨rfl,fun ys hy=>by rw [I.tuple_inj hy hq];exact hx⟩,⟨hin,st'⟩,fun b hb=>(hf b hb).1⟩⟩
 done:=by
  intro X hP hw hK hc i pins s σ H E I hf st hg;subst hP hw hK;obtain ⟨f0,f1,f2,f3,f4,f5⟩:=hf it (by simp);obtain ⟨hin,hit⟩:=st;have hge:n<=i:=hg;have e1:(n:Int) - 1 - ((i:Nat):Int) = -1:=by omega
  rw [e1] at hit;exact cN_ (I.ok.hd hc) hit fun h' eb=>⟨rfl,I.turned (t':=s.toks) (fun b o hb e=>eb b o hb e) f0 f1 f3 f4 f5⟩
 self:=fun A i s Q E st h=>cf_ st.2 h
def o6_ (K:Frag) (ta:TA):TI:=fun σ H R=>ta σ H fun vs H1=>∃ (a:Addr) (xs:List V),vs=[.ref a]/\SqT K H1 a xs/\R (Itw K a xs.length) H1
theorem gJ_ {X:Cx}{tg:Expr}{e:Expr}{ta:TA}{p pos:Pos} (hg:Gl X "reversed") (hm:X.mg "reversed"=none) (ha:PA X [e] ta) (hs:starEach [e] X.env=[(false,eval e X.env)]:=by rfl):PI X tg (.Call (.Name "reversed" p) [e] [] pos) (o6_ X.K ta):=by
 intro pins s σ H R I h;refine Call_ (dX_ I hg hm cW_ (PyProof.Rows.callWith_type1 (thn (ha pos pins s σ H _ I h) fun us s1 zq=>?_) hs rfl));refine x_22 zq fun vs H1 I1 r1 q1=>?_;refine x_22 q1 fun a xs e hq q=>?_;subst e;cases r1 with
 | cons r rr =>
 cases rr;cases r;refine x_12 (I1.tuple hq) fun its rv p' hz=>?_;have hl:=rv.length;have hn:=do_;have e1:((its.toArray.size:Nat):Int) - 1=(xs.length:Int) - 1 - ((0:Nat):Int):=by simp only [size_toArray];omega
 refine db_ p' (by rw [size_toArray];omega) fun k=>cf_ (l:=a) (i:=((its.toArray.size:Nat):Int) - 1) ⟨_,get?_push_size _ rfl,rfl,rfl⟩ ?_;refine ifz_ (tk:=k) I1 _ (jz_ a _ xs.length) ⟨zero_le _,?_⟩ q;rw [<- e1];exact ⟨_,get?_push_size _ rfl,rfl,rfl⟩
theorem ds_ {K:Frag}{a:Addr}{g:TG}{tb:TS}{D:Ends}{σ:St}{H1:Hp} (xs:List V) (Pv:Nat->St->Hp->Prop) (h0:Pv 0 σ H1) (hl : ∀ i σ H,i<=xs.length->Pv i σ H->SqL K H a xs)
  (hs : ∀ i x σ H,xs.reverse[i]? = some x->Pv i σ H->g x σ H fun σ2 H2=>tb { D with nx:=Pv (i+1),ct:=Pv (i+1),bk:=D.nx } σ2 H2) (hd : ∀ σ H,Pv xs.length σ H->D.nx σ H):lk_ g tb D σ (Itv K a xs.length) H1:=by
 refine ⟨fun i m σ H=>m=xs.length - i/\i<=xs.length/\Pv i σ H,⟨xs.length,by simp,zero_le _,h0⟩,?_⟩
 rintro i m σ H ⟨rfl,hi,p⟩
 have q:=hl i σ H hi p;by_cases hlt:i<xs.length
 ·have hx:xs[xs.length - 1 - i]? = some xs[xs.length - 1 - i]:=getElem?_eq_getElem (by omega)
  refine .inr ⟨⟨hlt,xs,_,q,hx⟩,Pv (i+1),fun σ' H' p'=>⟨xs.length - (i+1),by omega,rfl,hlt,p'⟩,fun x H' y=>?_⟩;obtain ⟨e,y⟩:=y;subst e;refine hs i x σ _ ?_ p;rw [getElem?_reverse hlt];exact y xs q
 have e:i=xs.length:=by omega
 subst e;exact .inl ⟨Nat.le_refl _,hd σ H p⟩
theorem jd_ {K:Frag}{a:Addr}{g:TG}{tb:TS}{D:Ends}{σ:St}{H1:Hp} (xs:List V) (Pv:Nat->St->Hp->Prop) (h0:Pv 0 σ H1) (hl : ∀ i σ H,i<=xs.length->Pv i σ H->SqT K H a xs)
  (hs : ∀ i x σ H,xs.reverse[i]? = some x->Pv i σ H->g x σ H fun σ2 H2=>tb { D with nx:=Pv (i+1),ct:=Pv (i+1),bk:=D.nx } σ2 H2) (hd : ∀ σ H,Pv xs.length σ H->D.nx σ H):lk_ g tb D σ (Itw K a xs.length) H1:=by
 refine ⟨fun i m σ H=>m=xs.length - i/\i<=xs.length/\Pv i σ H,⟨xs.length,by simp,zero_le _,h0⟩,?_⟩
 rintro i m σ H ⟨rfl,hi,p⟩
 have q:=hl i σ H hi p;by_cases hlt:i<xs.length
 ·have hx:xs[xs.length - 1 - i]? = some xs[xs.length - 1 - i]:=getElem?_eq_getElem (by omega)
  refine .inr ⟨⟨hlt,xs,_,q,rfl,hx⟩,Pv (i+1),fun σ' H' p'=>⟨xs.length - (i+1),by omega,rfl,hlt,p'⟩,fun x H' y=>?_⟩;obtain ⟨e,y⟩:=y;subst e;refine hs i x σ _ ?_ p;rw [getElem?_reverse hlt];exact y xs q
 have e:i=xs.length:=by omega
 subst e;exact .inl ⟨Nat.le_refl _,hd σ H p⟩
theorem je_ {K:Frag}{a:Addr}{g:TG}{tb:TS}{D:Ends}{σ:St}{H1:Hp} (xs:List V) (Pv:Nat->St->Hp->Prop) (h0:Pv 0 σ H1) (hl : ∀ i σ H,i<=xs.length->Pv i σ H->SqL K H a xs)
  (hs : ∀ i x σ H (T:Addr),xs[i]? = some x->Pv i σ H->H T=none->g (.ref T) σ (upd H T (.tup [.int (i:Nat),x])) fun σ2 H2=>tb { D with nx:=Pv (i+1),ct:=Pv (i+1),bk:=D.nx } σ2 H2) (hd : ∀ σ H,Pv xs.length σ H->D.nx σ H):lk_ g tb D σ (Ite K a) H1:=by
 refine ⟨fun i m σ H=>m=xs.length - i/\i<=xs.length/\Pv i σ H,⟨xs.length,by simp,zero_le _,h0⟩,?_⟩
 rintro i m σ H ⟨rfl,hi,p⟩
 have q:=hl i σ H hi p;by_cases hlt:i<xs.length
 ·have hx:xs[i]? = some xs[i]:=getElem?_eq_getElem hlt
  refine .inr ⟨⟨xs,_,q,hx⟩,Pv (i+1),fun σ' H' p'=>⟨xs.length - (i+1),by omega,rfl,hlt,p'⟩,fun v H' y=>?_⟩;refine x_23 y fun T x zr2 hT zr4 hy=>?_;subst zr2;subst zr4;exact hs i x σ H T (hy xs q) p hT
 have e:i=xs.length:=by omega
 subst e;exact .inl ⟨⟨xs,q,Nat.le_refl _⟩,hd σ H p⟩
end L2
namespace L2
open PySem PySem.Spec PyProof.Rows TL
def hZ_ (w:World) (p:Str×V) (e:DictEntry):Prop:=e.hash=PyData.keyHash w.params p.1/\(∃ t,e.key = .str p.1 t)/\RelV p.2 e.val
structure MDict (w:World) (K:Frag) (a:Addr) (tab:List (Str×V)):Prop where
 ex : ∃ (es:Array DictEntry) (ep:Nat),K.lookup a=some { cls := .type "dict",data := .dict es ep }/\Paired (hZ_ w) tab es.toList
 nd:(tab.map (·.1)).Nodup
 ns:(a == sysModules)=false
def tkv (tab:List (Str×V)):List (Key×V):=tab.map fun p=>(Sum.inr p.1,p.2)
def cg_ (tab:List (Str×V)) (x:Str):Option V:=(tab.find? fun p=>decide (p.1=x)).map (·.2)
theorem fD_ (x:Str) : ∀ tab:List (Str×V),valV (tkv tab) (Sum.inr x)=cg_ tab x
 | []=>rfl
 | p::r=>by
  have ih:=fD_ x r;show valV ((Sum.inr p.1,p.2)::tkv r) _=_;unfold cg_;by_cases h:p.1=x
  ·rw [bi_ (by rw [h]),find?_cons]
   simp [h]
  rw [bj_ (fun e=>h (Sum.inr.inj e)),find?_cons,decide_eq_false h];exact ih
theorem fu_ {P:Program}{w:World} : ∀ {tab:List (Str×V)}{es:List DictEntry},Paired (hZ_ w) tab es->∃ vs:List (Key×Value),KV (tkv tab) vs/\Pairs (aM_ P w) es vs/\(∀ e∈es,∃ k,(aM_ P w).is k e.key=true/\e.hash=(aM_ P w).hash k)/\vs.map (·.1)=(tkv tab).map (·.1)
 | _,_,.nil=>⟨[],.nil,.nil,fun e he=>by simp at he,rfl⟩
 | p::tab,e::es,.cons ⟨h1,⟨t,h2⟩,h3⟩ r=>by
  refine x_13 (fu_ (P:=P) r) fun vs k1 k2 k3 k4=>?_;have hk:(aM_ P w).is (Sum.inr p.1) e.key=true:=by rw [h2];exact eK_ P w p.1 t
  refine ⟨(Sum.inr p.1,e.val)::vs,.cons ⟨rfl,h3⟩ k1,.cons hk rfl k2,fun e' he'=>?_,?_⟩
  ·rcases mem_cons.mp he' with z | z
   ·subst z
    exact ⟨Sum.inr p.1,hk,h1⟩
   exact k3 e' z
  show Sum.inr p.1::vs.map (·.1)=Sum.inr p.1::(tkv tab).map (·.1);rw [k4]
theorem gP_ : ∀ {l:List Str},l.Nodup->(l.map fun x=>(Sum.inr x:Key)).Nodup
 | [],_ => .nil
 | x::r,h=>by
  obtain ⟨h1,h2⟩:=nodup_cons.mp h;refine nodup_cons.mpr ⟨fun m=>?_,gP_ h2⟩;obtain ⟨y,hy,e⟩:=mem_map.mp m;exact h1 (Sum.inr.inj e ▸ hy)
theorem MDict.dictOf {P:Program}{w:World}{K:Frag}{a:Addr}{tab:List (Str×V)} (m:MDict w K a tab) {h:Heap} (X:K.In h) : ∃ vs:List (Key×Value),KV (tkv tab) vs/\h.DictOf (aM_ P w) a vs:=by
 refine x_21 m.ex fun es ep lk pr=>?_;refine x_13 (fu_ (P:=P) pr) fun vs k1 k2 k3 k4=>?_;refine ⟨vs,k1,_,es,ep,X _ _ lk,⟨rfl,rfl,rfl⟩,rfl,fun e he=>k3 e (Array.mem_toList_iff.mpr he),k2,?_⟩;rw [k4];unfold tkv;rw [map_map];have:=m.nd;have e:((·.1) ∘ fun (p:Str×V)=>((Sum.inr p.1:Key),p.2))=(fun x=>(Sum.inr x:Key)) ∘ (·.1):=rfl;rw [e,<- map_map];exact gP_ this
section
variable {X:Cx}{o i e f:Expr}{pos pos' apos cpos:Pos}{td ty tx:TE}
def mx_ (w:World) (K:Frag) (td ty:TE):TE:=fun σ H Q=>td σ H fun x H1=>ty σ H1 fun y H2=>∃ a tab z v,x = .ref a/\y = .str z/\MDict w K a tab/\cg_ tab z=some v/\Q v H2
def nd_ (w:World) (K:Frag) (ty td:TE):TE:=fun σ H Q=>ty σ H fun y H1=>td σ H1 fun x H2=>∃ a tab z,x = .ref a/\y = .str z/\MDict w K a tab/\Q (.bl (cg_ tab z).isSome) H2
def jH_ (w:World) (K:Frag) (td ty tx:TE):TE:=fun σ H Q=>td σ H fun x H1=>∃ a tab,x = .ref a/\MDict w K a tab/\ty σ H1 fun y H2=>tx σ H2 fun d H3=>∃ z,y = .str z/\Q ((cg_ tab z).getD d) H3
theorem lO_ (ho:PE X o td) (hi:PE X i ty) (hs:NoSl i:=by intro _ _;rfl):PE X (.Subscript o i pos) (mx_ X.w X.K td ty):=by
 intro pins s σ H Q I h;refine nf_ PySem.F.slot_dict_getitem.lookup hs (thn (ho pins s σ H _ I h) fun u s1 ⟨x,H1,I1,rx,q1⟩=>thn (hi pins s1 σ H1 _ I1 q1) fun iv s2 zq=>?_);refine x_22 zq fun y H2 I2 ry zz0=>?_;refine x_40 zz0 fun a tab z v zy=>x_04 zy fun ex ey md hv q2=>?_;subst ex ey;obtain rfl:u=Value.ref a:=rx;obtain ⟨vs,rel,dd⟩:=md.dictOf (P:=X.prog) I2.kIn;refine ⟨dd.typeIs,?_⟩;obtain ⟨w',hw,rw'⟩:=RelO.some_of (v:=v) (o:=valueAt vs (Sum.inr z)) (by rw [<- hv,<- fD_];exact rel.val _);exact wpAny_getItem_of (i3_ (k:=Sum.inr z) ry) dd.mapOf hw ⟨v,H2,I2.tok _,rw',q2⟩
theorem nB_ (hi:PE X i ty) (ho:PE X o td):PC X .In i o (nd_ X.w X.K ty td):=by
 intro pins s σ H Q I h;refine thn (hi pins s σ H _ I h) fun iv s1 ⟨y,H1,I1,ry,q1⟩=>thn (ho pins s1 σ H1 _ I1 q1) fun u s2 zq=>?_;refine x_22 zq fun x H2 I2 rx zz0=>?_;refine x_33 zz0 fun a tab z ex ey md q2=>?_;subst ex ey;obtain rfl:u=Value.ref a:=rx;obtain ⟨vs,rel,dd⟩:=md.dictOf (P:=X.prog) I2.kIn;refine wpAny_in_of (i3_ (k:=Sum.inr z) ry) md.ns dd.mapOf ?_;rw [<- (rel.val (Sum.inr z)).isSome_eq,fD_];exact ⟨.bl (cg_ tab z).isSome,H2,I2.tok _,rfl,q2⟩
theorem nv_ (hi:PE X i ty) (ho:PE X o td) (h1:behindInMarks .In o=false:=by rfl):PT X (.Compare i [.In] [o] pos) (tB (nd_ X.w X.K ty td)):=mL_ (nB_ hi ho) h1
theorem kj_ (ho:PE X o td) (he:PE X e ty) (hf:PE X f tx) (m:M2 X o "get" apos e f cpos):PE X (.Call (.Attribute o "get" apos) [e,f] [] cpos) (jH_ X.w X.K td ty tx):=by
 intro pins s σ H Q I h;refine wpAny_Call_method m.base m.few m.line PySem.F.plainAttrs_dict slot_dict_get PySem.F.type_dict_get (thn (ho pins s σ H _ I h) fun u s1 zq=>?_);refine x_22 zq fun x H1 I1 rx zz0=>?_;refine x_22 zz0 fun a tab ex md q1=>?_;subst ex;obtain rfl:u=Value.ref a:=rx;obtain ⟨vs,rel,dd⟩:=md.dictOf (P:=X.prog) I1.kIn;refine ⟨dd.typeIs,fun b q=>?_,?_⟩
 ·cases q
  refine x_32 dd fun ob _ _ h1 h2 _=>?_;exact ⟨ob,h1,h2.2.1⟩
 rw [m.trees];refine Calls.callWith_builtin rfl (Calls.evalArgs_plain (Calls.spliced_cons (thn (he pins s1 σ H1 _ I1 q1) fun iv s2 ⟨y,H2,I2,ry,q2⟩=>Calls.spliced_cons (thn (hf pins s2 σ H2 _ I2 q2) fun fv s3 ⟨d,H3,I3,rd,z,ey,q3⟩=>Calls.spliced_nil ?_))));subst ey;obtain ⟨vs,rel,dd⟩:=md.dictOf (P:=X.prog) I3.kIn;refine call_meetsIn slot_dict_get dd.typeIs PySem.F.entry_dict_get (PySem.F.args_dict_get_3 _ _ _) (meets_dict_get_default (aM_ X.prog X.w) a (i3_ (k:=Sum.inr z) ry) md.ns fv) ⟨_,dd.mapOf,⟨_,H3,I3.tok _,?_,q3⟩⟩;rw [<- fD_];exact (rel.val (Sum.inr z)).getD rd
end
end L2
namespace M
open PySem PySem.Spec PyProof.Rows L2 TL
inductive Tr where
 | mk (form:List Nat) (words:List (List Nat)) (b e:Nat) (parts:List Tr)
noncomputable def Tr.form:Tr->List Nat
 | .mk f _ _ _ _=>f
noncomputable def Tr.words:Tr->List (List Nat)
 | .mk _ w _ _ _=>w
noncomputable def Tr.b:Tr->Nat
 | .mk _ _ b _ _=>b
noncomputable def Tr.e:Tr->Nat
 | .mk _ _ _ e _=>e
noncomputable def Tr.parts:Tr->List Tr
 | .mk _ _ _ _ p=>p
noncomputable def a9_ (f:Str) (w p:Addr) (b e:Int):List (Str×V):=[("form",.str f),("words",.ref w),("parts",.ref p),("begin",.int b),("end",.int e)]
mutual
inductive TreeAt (Cn:Addr) (H:Hp):Addr->Tr->List Addr->Prop
 | mk {a dx w p:Addr}{f:List Nat}{ws:List (List Nat)}{b e:Nat}{as:List Addr}{ps:List Tr}{F:List Addr} :
   H a=some (.ins Cn dx (a9_ (S f) w p (b:Int) (e:Int)))->H w=some (.lst ((ws.map S).map V.str))->H p=some (.lst (as.map V.ref))->TreesAt Cn H as ps F->TreeAt Cn H a (.mk f ws b e ps) (a::w::p::F)
inductive TreesAt (Cn:Addr) (H:Hp):List Addr->List Tr->List Addr->Prop
 | nil:TreesAt Cn H [] [] []
 | cons {a:Addr}{t:Tr}{F G:List Addr}{as:List Addr}{ts:List Tr}:TreeAt Cn H a t F->TreesAt Cn H as ts G->TreesAt Cn H (a::as) (t::ts) (F++G)
end
theorem go_ {Cn:Addr}{H H':Hp}:(∀ {a:Addr}{t:Tr}{F:List Addr},TreeAt Cn H a t F->(∀ b∈F,∀ o,H b=some o->H' b=some o)->TreeAt Cn H' a t F)/\∀ {as:List Addr}{ts:List Tr}{F:List Addr},TreesAt Cn H as ts F->(∀ b∈F,∀ o,H b=some o->H' b=some o)->TreesAt Cn H' as ts F:=by
 refine ⟨fun h=>TreeAt.rec (motive_1:=fun a t F _=>(∀ b∈F,∀ o,H b=some o->H' b=some o)->TreeAt Cn H' a t F) (motive_2:=fun as ts F _=>(∀ b∈F,∀ o,H b=some o->H' b=some o)->TreesAt Cn H' as ts F) ?_ ?_ ?_ h,fun h=>TreesAt.rec (motive_1:=fun a t F _=>(∀ b∈F,∀ o,H b=some o->H' b=some o)->TreeAt Cn H' a t F) (motive_2:=fun as ts F _=>(∀ b∈F,∀ o,H b=some o->H' b=some o)->TreesAt Cn H' as ts F) ?_ ?_ ?_ h⟩
 all_goals first
  | exact fun h1 h2 h3 _ ih k => .mk (k _ (by simp) _ h1) (k _ (by simp) _ h2) (k _ (by simp) _ h3) (ih fun b hb=>k b (by simp [hb]))
  | exact fun _ => .nil
  | exact fun _ _ i1 i2 k => .cons (i1 fun b hb=>k b (mem_append_left _ hb)) (i2 fun b hb=>k b (mem_append_right _ hb))
theorem TreeAt.keep {Cn:Addr}{H H':Hp}{a:Addr}{t:Tr}{F:List Addr} (h:TreeAt Cn H a t F) (k : ∀ b∈F,∀ o,H b=some o->H' b=some o):TreeAt Cn H' a t F:=go_.1 h k
theorem TreesAt.keep {Cn:Addr}{H H':Hp}{as:List Addr}{ts:List Tr}{F:List Addr} (h:TreesAt Cn H as ts F) (k : ∀ b∈F,∀ o,H b=some o->H' b=some o):TreesAt Cn H' as ts F:=go_.2 h k
theorem jC_ {Cn:Addr}{H:Hp}:(∀ {a:Addr}{t:Tr}{F:List Addr},TreeAt Cn H a t F->∀ b∈F,∃ o,H b=some o)/\∀ {as:List Addr}{ts:List Tr}{F:List Addr},TreesAt Cn H as ts F->∀ b∈F,∃ o,H b=some o:=by
 refine ⟨fun h=>TreeAt.rec (motive_1:=fun _ _ F _=>∀ b∈F,∃ o,H b=some o) (motive_2:=fun _ _ F _=>∀ b∈F,∃ o,H b=some o) ?_ ?_ ?_ h,fun h=>TreesAt.rec (motive_1:=fun _ _ F _=>∀ b∈F,∃ o,H b=some o) (motive_2:=fun _ _ F _=>∀ b∈F,∃ o,H b=some o) ?_ ?_ ?_ h⟩
 all_goals first
  | exact fun h1 h2 h3 _ ih b hb=>(by simp only [mem_cons] at hb;rcases hb with rfl | rfl | rfl | hb;exact ⟨_,h1⟩;exact ⟨_,h2⟩;exact ⟨_,h3⟩;exact ih b hb)
  | exact fun _ _ i1 i2 b hb=>(mem_append.mp hb).elim (i1 b) (i2 b)
  | exact fun _ hb=>absurd hb (not_mem_nil)
theorem TreesAt.here {Cn:Addr}{H:Hp}{as:List Addr}{ts:List Tr}{F:List Addr} (h:TreesAt Cn H as ts F) : ∀ b∈F,∃ o,H b=some o:=jC_.2 h
theorem TreeAt.same {Cn:Addr}{H H':Hp}{a:Addr}{t:Tr}{F:List Addr} (h:TreeAt Cn H a t F) (s:Same H H'):TreeAt Cn H' a t F:=h.keep fun b _ o e=>s b o e
theorem TreesAt.snoc {Cn:Addr}{H:Hp}{as:List Addr}{ts:List Tr}{F:List Addr}{a:Addr}{t:Tr}{G:List Addr} (h:TreesAt Cn H as ts F) (q:TreeAt Cn H a t G):TreesAt Cn H (as++[a]) (ts++[t]) (F++G):=by
 refine TreesAt.rec (motive_1:=fun _ _ _ _=>True) (motive_2:=fun as ts F _=>TreesAt Cn H (as++[a]) (ts++[t]) (F++G)) (fun _ _ _ _ _=>trivial) ?_ (fun h1 _ _ ih=>?_) h
 ·have:=TreesAt.cons q .nil
  rw [append_nil] at this;exact this
 have:=TreesAt.cons h1 ih;rw [<- append_assoc] at this;exact this
theorem TreesAt.length {Cn:Addr}{H:Hp}{as:List Addr}{ts:List Tr}{F:List Addr} (h:TreesAt Cn H as ts F):as.length=ts.length :=
 TreesAt.rec (motive_1:=fun _ _ _ _=>True) (motive_2:=fun as ts _ _=>as.length=ts.length) (fun _ _ _ _ _=>trivial) rfl (fun _ _ _ ih=>congrArg (· + 1) ih) h
noncomputable def bK_:Leaf->String
 | .name _=>"name"
 | .num _=>"number"
 | .truth b=>if b=true then "true" else "false"
 | .nil=>"nil"
def ba_:Leaf->List (List Nat)
 | .name x=>[x]
 | .num v=>[shownLit v]
 | _=>[]
def cm_:Vaunid.Two->Fm
 | .app => .app | .pair => .pair | .cons => .cons | .plus => .plus | .minus => .minus | .times => .times | .over => .over | .less => .less | .equal => .equal | .floor => .floor | .rest => .rest
def cr_:Vaunid.One->Fm
 | .fst => .fst | .snd => .snd | .root => .root | .pow _ => .pow
noncomputable def bs_:Term->List Nat
 | .leaf l=>Vaunid.txt (bK_ l)
 | .one o _=>Vaunid.txt (cr_ o).word
 | .two o _ _=>Vaunid.txt (cm_ o).word
 | .three o _ _ _=>Vaunid.txt (match o with | .cond=>Fm.if_.word | .fold=>Fm.fold.word)
 | .fn _ _=>Vaunid.txt Fm.fn.word
 | .rec_ _ _ _=>Vaunid.txt Fm.rec_.word
 | .let_ _ _ _=>Vaunid.txt Fm.let_.word
 | .case _ _ _ _ _=>Vaunid.txt Fm.case.word
noncomputable def aj_:Term->List (List Nat)
 | .leaf l=>ba_ l
 | .one (.pow n) _=>[decimalInt n]
 | .fn x _=>[x]
 | .rec_ f x _=>[f,x]
 | .let_ x _ _=>[x]
 | .case _ _ h t _=>[h,t]
 | _=>[]
noncomputable def ao_:Term->List Term
 | .leaf _=>[]
 | .one _ a=>[a]
 | .two _ a b=>[a,b]
 | .three _ a b c=>[a,b,c]
 | .fn _ a=>[a]
 | .rec_ _ _ a=>[a]
 | .let_ _ a b=>[a,b]
 | .case l a _ _ b=>[l,a,b]
mutual
inductive Rep:Term->Tr->Prop
 | mk {t:Term}{b e:Nat}{ps:List Tr}:Reps (ao_ t) ps->Rep t (.mk (bs_ t) (aj_ t) b e ps)
inductive Reps:List Term->List Tr->Prop
 | nil:Reps [] []
 | cons {t:Term}{r:Tr}{ts:List Term}{rs:List Tr}:Rep t r->Reps ts rs->Reps (t::ts) (r::rs)
end
mutual
noncomputable def cB_:Tr->List Nat
 | .mk _ _ b _ ps=>b::cA_ ps
noncomputable def cA_:List Tr->List Nat
 | []=>[]
 | t::r=>cB_ t++cA_ r
end
noncomputable def hY_:List Fm:=[.fn,.rec_,.let_,.if_,.app,.pair,.fst,.snd,.cons,.case,.fold,.plus,.minus,.times,.over,.less,.equal,.floor,.rest,.root,.pow]
noncomputable def Fm.kt:Fm->List String
 | .fn=>["name","body"] | .rec_=>["name","name","body"] | .let_=>["name","part","body"] | .if_=>["part","part","part"] | .app=>["part","part"] | .pair=>["part","part"] | .fst=>["part"] | .snd=>["part"] | .cons=>["part","part"]
 | .case=>["part","part","name","name","body"] | .fold=>["part","part","part"] | .plus=>["part","part"] | .minus=>["part","part"] | .times=>["part","part"] | .over=>["part","part"] | .less=>["part","part"] | .equal=>["part","part"]
 | .floor=>["part","part"] | .rest=>["part","part"] | .root=>["part"] | .pow=>["part","power"]
noncomputable def br_ (ad:Fm->Addr):List (Str×V):=[("fn",.ref (ad .fn)),("rec",.ref (ad .rec_)),("let",.ref (ad .let_)),("if",.ref (ad .if_)),("apply",.ref (ad .app)),("pair",.ref (ad .pair)),("fst",.ref (ad .fst)),("snd",.ref (ad .snd)),("cons",.ref (ad .cons)),("case",.ref (ad .case)),("fold",.ref (ad .fold)),
 ("+",.ref (ad .plus)),("-",.ref (ad .minus)),("*",.ref (ad .times)),("/",.ref (ad .over)),("<",.ref (ad .less)),("=",.ref (ad .equal)),("floor",.ref (ad .floor)),("rest",.ref (ad .rest)),("root",.ref (ad .root)),("^",.ref (ad .pow))]
theorem mc_ {ad:Fm->Addr}:((br_ ad).map (·.1)).Nodup:=by
 have e:(br_ ad).map (·.1)=hY_.map fun f=>ofString f.word:=rfl;rw [e]
 left
theorem g4_ (ad:Fm->Addr) (f:Fm):cg_ (br_ ad) (ofString f.word)=some (.ref (ad f)):=by
 cases f <;> rfl
noncomputable def dY_ (x:List Nat):Bool:=hY_.any fun f=>Vaunid.txt f.word == x
theorem iB_ {A:Type} (p:A->Bool) : ∀ l:List A,(l.find? p).isSome=l.any p
 | []=>rfl
 | x::r=>by
  rw [find?_cons,any_cons,<- iB_ p r];cases p x <;> rfl
theorem fq_ (ad:Fm->Addr) (x:List Nat):(cg_ (br_ ad) (S x)).isSome=dY_ x:=by
 unfold cg_ dY_;rw [Option.isSome_map,iB_];have e2:(br_ ad).any (fun p=>decide (p.1=S x))=((br_ ad).map (·.1)).any fun s=>decide (s=S x):=by rw [any_map];rfl
 rw [e2,show (br_ ad).map (·.1)=hY_.map fun f=>ofString f.word from rfl,any_map];congr 1
 funext f
 show decide (ofString f.word=S x)=_;rw [aI_,Bool.eq_iff_iff];simp only [decide_eq_true_eq,beq_iff_eq,ce_]
open Vaunid (Token txt word sign)
inductive SK where
 | n | p (body:Bool) | pw
 deriving DecidableEq
noncomputable def SK.w:SK->String
 | .n=>"name" | .p false=>"part" | .p true=>"body" | .pw=>"power"
def SK.k:SK->Kind
 | .n => .name | .p _ => .part | .pw => .power
noncomputable def Fm.sk:Fm->List SK
 | .fn=>[.n,.p true] | .rec_=>[.n,.n,.p true] | .let_=>[.n,.p false,.p true] | .if_=>[.p false,.p false,.p false] | .app=>[.p false,.p false] | .pair=>[.p false,.p false] | .fst=>[.p false] | .snd=>[.p false] | .cons=>[.p false,.p false]
 | .case=>[.p false,.p false,.n,.n,.p true] | .fold=>[.p false,.p false,.p false] | .plus=>[.p false,.p false] | .minus=>[.p false,.p false] | .times=>[.p false,.p false] | .over=>[.p false,.p false] | .less=>[.p false,.p false] | .equal=>[.p false,.p false]
 | .floor=>[.p false,.p false] | .rest=>[.p false,.p false] | .root=>[.p false] | .pow=>[.p false,.pw]
theorem nk_ (f:Fm):f.sk.map SK.w=f.kt:=by cases f <;> rfl
theorem lz_ (f:Fm):f.sk.map SK.k=f.kinds:=by cases f <;> rfl
structure PF where
 form:List Nat
 ws:List (List Nat)
 b:Nat
 ts:List Tr
 ks:List SK
 c:String
 d:Nat
structure MS where
 fs:List PF
 l:Toks
 res:List Tr
noncomputable def sent (hl:Nat):Token:={ tok := .sign (txt "end"),start:=hl,halt_:=hl }
noncomputable def gU_ (t:Token) (x:Leaf):Tr := .mk (txt (bK_ x)) (ba_ x) t.start t.halt_ []
noncomputable def eo_:Vaunid.Tok->List Nat
 | .word w=>w
 | _=>[]
def hJ_:Vaunid.Tok->List Nat
 | .num v _=>shownLit v
 | _=>[]
noncomputable def PF.done (pf:PF) (e:Nat):Tr := .mk pf.form pf.ws pf.b e pf.ts
noncomputable def dU_ (b d:Nat) (l:Toks):PF:={ form:=txt (ap_ l).1.word,ws:=[],b:=b,ts:=[],ks:=(ap_ l).1.sk,c:=")",d:=d }
noncomputable def b8_:MS->Option (Res MS)
 | ⟨pf::fs,t::l,res⟩=>match pf.ks with
  | []=>some (if kindOf t.tok=txt pf.c then (match fs with
    | [] => .ok ⟨[],l,[pf.done t.halt_]⟩
    | g::fs => .ok ⟨{ g with ts:=g.ts++[pf.done t.halt_] }::fs,l,res⟩) else fault 6 t.start)
  | .p _::ks =>
   if pf.d=40 then some (fault 8 t.start)
   else if kindOf t.tok=txt "(" then (if l.isEmpty=true then none else some (.ok ⟨dU_ t.start (pf.d+1) l::{ pf with ks:=ks }::fs,(ap_ l).2,res⟩))
   else match Vaunid.leafOf t.tok with
    | some x=>some (.ok ⟨{ pf with ks:=ks,ts:=pf.ts++[gU_ t x] }::fs,l,res⟩)
    | none=>some (fault 6 t.start)
  | .n::ks=>some (if kindOf t.tok=txt "name" then .ok ⟨{ pf with ks:=ks,ws:=pf.ws++[eo_ t.tok] }::fs,l,res⟩ else fault 6 t.start)
  | .pw::ks=>some (if kindOf t.tok=txt "digit" then .ok ⟨{ pf with ks:=ks,ws:=pf.ws++[hJ_ t.tok] }::fs,l,res⟩ else fault 6 t.start)
 | _=>none
inductive Run:MS->Res Tr->Nat->Prop
 | done {l:Toks}{tr:Tr}:Run ⟨[],l,[tr]⟩ (.ok tr) 0
 | bad {s:MS}{e:Vaunid.Fault}:b8_ s=some (.error e)->Run s (.error e) 1
 | go {s s':MS}{R:Res Tr}{n:Nat}:b8_ s=some (.ok s')->Run s' R n->Run s R (n+1)
def Goes (s s':MS):Prop:=∀ R n,Run s' R n->∃ m,Run s R m
theorem Goes.refl (s:MS):Goes s s:=fun R n h=>⟨n,h⟩
theorem Goes.trans {a b c:MS} (h:Goes a b) (g:Goes b c):Goes a c:=fun R n r=>let ⟨m,q⟩:=g R n r;h R m q
theorem Goes.one {s s':MS} (h:b8_ s=some (.ok s')):Goes s s':=fun R n r=>⟨n+1,.go h r⟩
def aV_:Vaunid.Tok->Prop
 | .word w=>Vaunid.isWord w=true/\w.length<=12
 | .num v d=>(∀ m,v.measure=some m->m≠[]/\m.length<=10000)/\v.top.natAbs<10 ^ 12/\v.low<10 ^ 12/\∀ n,d=some n->v=⟨n,1,none⟩
 | .sign s=>s∈coreSigns\/s=txt "end"
theorem eT_ {k:Vaunid.Tok} (g:aV_ k):kindOf k=txt "name"↔∃ w,k = .word w/\isName w=true:=by
 cases k with
 | word w =>
  simp only [kindOf];by_cases h:isTaken w=true
  ·rw [if_pos h]
   constructor
   ·intro e
    subst e;exact absurd h (by left)
   rintro ⟨w',e,q⟩
   cases e;unfold isName at q;rw [h] at q;simp at q
  rw [if_neg h];refine ⟨fun _=>⟨w,rfl,?_⟩,fun _=>rfl⟩;unfold isName;rw [g.1,Bool.eq_false_iff.mpr h];simp only [MOSTSIGNS,Bool.not_false,Bool.and_true,Bool.true_and];exact decide_eq_true g.2
 | num v d =>
  constructor
  ·intro e
   simp only [kindOf] at e;split at e
   ·exact absurd e (by left)
   exact absurd e (by left)
  rintro ⟨w,e,_⟩;cases e
 | sign s =>
 constructor
 ·intro e
  have e:s=txt "name":=e;subst e;rcases g with q | q
  ·exact absurd q (by left)
  exact absurd q (by left)
 rintro ⟨w,e,_⟩;cases e
theorem dP_ {k:Vaunid.Tok} (g:aV_ k):kindOf k=txt "digit"↔∃ v n,k = .num v (some n):=by
 cases k with
 | word w =>
  simp only [kindOf]
  constructor
  ·intro e
   split at e
   ·rename_i h
    subst e;exact absurd h (by left)
   exact absurd e (by left)
  rintro ⟨v,n,e⟩;cases e
 | num v d =>
  simp only [kindOf];cases d with
  | none=>exact ⟨fun e=>absurd e (by left),fun ⟨_,_,e⟩=>by cases e⟩
  | some n=>exact ⟨fun _=>⟨v,n,rfl⟩,fun _=>rfl⟩
 | sign s =>
 constructor
 ·intro e
  have e:s=txt "digit":=e;subst e;rcases g with q | q
  ·exact absurd q (by left)
  exact absurd q (by left)
 rintro ⟨v,n,e⟩;cases e
theorem eR_ {k:Vaunid.Tok} (g:aV_ k) {x:String} (h:isTaken (txt x)=false) (h1 : ¬ txt "name"=txt x) (h2 : ¬ txt "digit"=txt x) (h3 : ¬ txt "number"=txt x):kindOf k=txt x↔k=sign x:=by
 cases k with
 | word w =>
  simp only [kindOf]
  constructor
  ·intro e
   split at e
   ·rename_i q
    subst e;rw [h] at q;cases q
   exact absurd e h1
  intro e;cases e
 | num v d =>
  simp only [kindOf]
  constructor
  ·intro e
   split at e
   ·exact absurd e h2
   exact absurd e h3
  intro e;cases e
 | sign s=>exact ⟨fun e=>by show Vaunid.Tok.sign s=Vaunid.Tok.sign _;rw [show s=txt x from e],fun e=>by cases e;rfl⟩
theorem eS_ {k:Vaunid.Tok} (g:aV_ k):kindOf k=txt "("↔k=sign "(":=eR_ g (by left) (by left) (by left) (by left)
theorem ja_ {k:Vaunid.Tok} (g:aV_ k):kindOf k=txt ")"↔k=sign ")":=eR_ g (by left) (by left) (by left) (by left)
theorem l9_ {k:Vaunid.Tok} (g:aV_ k):kindOf k=txt "end"↔k=sign "end":=eR_ g (by left) (by left) (by left) (by left)
noncomputable def Fm.tok:Fm->Vaunid.Tok
 | .plus=>sign "+" | .minus=>sign "-" | .times=>sign "*" | .over=>sign "/" | .less=>sign "<" | .equal=>sign "=" | .pow=>sign "^"
 | f=>Vaunid.word f.word
theorem aG_ {c:Prop} [Decidable c] {a f:Fm}{r:Option Fm} (h:(if c then some a else r)=some f):(c/\a=f)\/r=some f:=by
 by_cases q:c
 ·rw [if_pos q] at h;exact .inl ⟨q,Option.some.inj h⟩
 rw [if_neg q] at h;exact .inr h
theorem n2_ {k:Vaunid.Tok}{f:Fm} (h:fmOf k=some f):k=f.tok:=by
 unfold fmOf at h;rcases aG_ h with ⟨q,rfl⟩ | h
 ·exact q
 rcases aG_ h with ⟨q,rfl⟩ | h
 ·exact q
 rcases aG_ h with ⟨q,rfl⟩ | h
 ·exact q
 rcases aG_ h with ⟨q,rfl⟩ | h
 ·exact q
 rcases aG_ h with ⟨q,rfl⟩ | h
 ·exact q
 rcases aG_ h with ⟨q,rfl⟩ | h
 ·exact q
 rcases aG_ h with ⟨q,rfl⟩ | h
 ·exact q
 rcases aG_ h with ⟨q,rfl⟩ | h
 ·exact q
 rcases aG_ h with ⟨q,rfl⟩ | h
 ·exact q
 rcases aG_ h with ⟨q,rfl⟩ | h
 ·exact q
 rcases aG_ h with ⟨q,rfl⟩ | h
 ·exact q
 rcases aG_ h with ⟨q,rfl⟩ | h
 ·exact q
 rcases aG_ h with ⟨q,rfl⟩ | h
 ·exact q
 rcases aG_ h with ⟨q,rfl⟩ | h
 ·exact q
 rcases aG_ h with ⟨q,rfl⟩ | h
 ·exact q
 rcases aG_ h with ⟨q,rfl⟩ | h
 ·exact q
 rcases aG_ h with ⟨q,rfl⟩ | h
 ·exact q
 rcases aG_ h with ⟨q,rfl⟩ | h
 ·exact q
 rcases aG_ h with ⟨q,rfl⟩ | h
 ·exact q
 rcases aG_ h with ⟨q,rfl⟩ | h
 ·exact q
 cases h
theorem kQ_ {k:Vaunid.Tok}{f:Fm} (h:fmOf k=some f):kindOf k=txt f.word:=by
 have e:=n2_ h;rw [e];rw [e] at h;cases f <;> first | (left) | exact absurd h (by left)
theorem i5_ (x:List Nat):dY_ x=true↔∃ f∈hY_,txt f.word=x:=by
 unfold dY_;rw [any_eq_true];simp only [beq_iff_eq]
theorem jf_ : ∀ f∈hY_,isTaken (txt f.word)=true->fmOf (word f.word)=some f:=by
 intro f hf;cases f <;> first | (intro _;left) | (intro h;exact absurd h (by left))
theorem dR_ : ∀ f∈hY_,¬ txt f.word=txt "name"/\¬ txt f.word=txt "digit"/\¬ txt f.word=txt "number":=by
 intro f hf;cases f <;> left
theorem jg_ : ∀ f∈hY_,(txt f.word∈coreSigns\/txt f.word=txt "end")->fmOf (sign f.word)=some f:=by
 intro f hf;cases f <;> first | (intro _;left) | (intro h;exact absurd h (by left))
theorem kK_ {k:Vaunid.Tok} (g:aV_ k):dY_ (kindOf k)=(fmOf k).isSome:=by
 rw [Bool.eq_iff_iff,i5_]
 constructor
 ·rintro ⟨f,hf,e⟩
  cases k with
  | word w =>
   simp only [kindOf] at e;split at e
   ·rename_i q
    rw [<- e] at q;have:=jf_ f hf q;have e2:Vaunid.Tok.word w=word f.word:=by show _=Vaunid.Tok.word _;rw [e]
    rw [e2,this];rfl
   exact absurd e (dR_ f hf).1
  | num v d =>
   simp only [kindOf] at e;split at e
   ·exact absurd e (dR_ f hf).2.1
   exact absurd e (dR_ f hf).2.2
  | sign s =>
  have e:txt f.word=s:=e;have g:s∈coreSigns\/s=txt "end":=g;rw [<- e] at g;have:=jg_ f hf g;have e2:Vaunid.Tok.sign s=sign f.word:=by show _=Vaunid.Tok.sign _;rw [e]
  rw [e2,this];rfl
 intro h;cases q:fmOf k with
 | none=>rw [q] at h;cases h
 | some f=>exact ⟨f,by cases f <;> decide,(kQ_ q).symm⟩
open Vaunid (Token txt word sign)
mutual
noncomputable def hL_:Tr->Nat
 | .mk _ _ _ _ ps=>1+hM_ ps
noncomputable def hM_:List Tr->Nat
 | []=>0
 | t::r=>max (hL_ t) (hM_ r)
end
def il_:List Item->List Term
 | []=>[]
 | .p t _::r=>t::il_ r
 | _::r=>il_ r
noncomputable def en_:List Item->List (List Nat)
 | []=>[]
 | .w x::r=>x::en_ r
 | .n m::r=>decimalInt m::en_ r
 | .p _ _::r=>en_ r
inductive ItemsOk:List Kind->List Item->Prop
 | nil:ItemsOk [] []
 | name {x:List Nat}{ks:List Kind}{is:List Item}:ItemsOk ks is->ItemsOk (.name::ks) (.w x::is)
 | part {t:Term}{l:List Nat}{ks:List Kind}{is:List Item}:ItemsOk ks is->ItemsOk (.part::ks) (.p t l::is)
 | power {m:Int}{ks:List Kind}{is:List Item}:ItemsOk ks is->ItemsOk (.power::ks) (.n m::is)
theorem i7_ {ks:List Kind}{is:List Item} (h:ItemsOk (.name::ks) is) : ∃ x r,is = .w x::r/\ItemsOk ks r:=by
 cases h with
 | name h=>exact ⟨_,_,rfl,h⟩
theorem a6_ {ks:List Kind}{is:List Item} (h:ItemsOk (.part::ks) is) : ∃ t l r,is = .p t l::r/\ItemsOk ks r:=by
 cases h with
 | part h=>exact ⟨_,_,_,rfl,h⟩
theorem pB_ {ks:List Kind}{is:List Item} (h:ItemsOk (.power::ks) is) : ∃ m r,is = .n m::r/\ItemsOk ks r:=by
 cases h with
 | power h=>exact ⟨_,_,rfl,h⟩
theorem bU_ {is:List Item} (h:ItemsOk [] is):is=[]:=by
 cases h;rfl
theorem l6_ (f:Fm) (is:List Item) (h:ItemsOk f.kinds is):bs_ (f.mk is)=txt f.word/\aj_ (f.mk is)=en_ is/\ao_ (f.mk is)=il_ is:=by
 cases f with
 | fn=>obtain ⟨x0,i0,rfl,g0⟩:=i7_ h;obtain ⟨t1,l1,i1,rfl,g1⟩:=a6_ g0;cases bU_ g1;exact ⟨rfl,rfl,rfl⟩
 | rec_=>obtain ⟨x0,i0,rfl,g0⟩:=i7_ h;obtain ⟨x1,i1,rfl,g1⟩:=i7_ g0;obtain ⟨t2,l2,i2,rfl,g2⟩:=a6_ g1;cases bU_ g2;exact ⟨rfl,rfl,rfl⟩
 | let_=>obtain ⟨x0,i0,rfl,g0⟩:=i7_ h;obtain ⟨t1,l1,i1,rfl,g1⟩:=a6_ g0;obtain ⟨t2,l2,i2,rfl,g2⟩:=a6_ g1;cases bU_ g2;exact ⟨rfl,rfl,rfl⟩
 | if_=>obtain ⟨t0,l0,i0,rfl,g0⟩:=a6_ h;obtain ⟨t1,l1,i1,rfl,g1⟩:=a6_ g0;obtain ⟨t2,l2,i2,rfl,g2⟩:=a6_ g1;cases bU_ g2;exact ⟨rfl,rfl,rfl⟩
 | app=>obtain ⟨t0,l0,i0,rfl,g0⟩:=a6_ h;obtain ⟨t1,l1,i1,rfl,g1⟩:=a6_ g0;cases bU_ g1;exact ⟨rfl,rfl,rfl⟩
 | pair=>obtain ⟨t0,l0,i0,rfl,g0⟩:=a6_ h;obtain ⟨t1,l1,i1,rfl,g1⟩:=a6_ g0;cases bU_ g1;exact ⟨rfl,rfl,rfl⟩
 | fst=>obtain ⟨t0,l0,i0,rfl,g0⟩:=a6_ h;cases bU_ g0;exact ⟨rfl,rfl,rfl⟩
 | snd=>obtain ⟨t0,l0,i0,rfl,g0⟩:=a6_ h;cases bU_ g0;exact ⟨rfl,rfl,rfl⟩
 | cons=>obtain ⟨t0,l0,i0,rfl,g0⟩:=a6_ h;obtain ⟨t1,l1,i1,rfl,g1⟩:=a6_ g0;cases bU_ g1;exact ⟨rfl,rfl,rfl⟩
 | case=>obtain ⟨t0,l0,i0,rfl,g0⟩:=a6_ h;obtain ⟨t1,l1,i1,rfl,g1⟩:=a6_ g0;obtain ⟨x2,i2,rfl,g2⟩:=i7_ g1;obtain ⟨x3,i3,rfl,g3⟩:=i7_ g2;obtain ⟨t4,l4,i4,rfl,g4⟩:=a6_ g3;cases bU_ g4;exact ⟨rfl,rfl,rfl⟩
 | fold=>obtain ⟨t0,l0,i0,rfl,g0⟩:=a6_ h;obtain ⟨t1,l1,i1,rfl,g1⟩:=a6_ g0;obtain ⟨t2,l2,i2,rfl,g2⟩:=a6_ g1;cases bU_ g2;exact ⟨rfl,rfl,rfl⟩
 | plus=>obtain ⟨t0,l0,i0,rfl,g0⟩:=a6_ h;obtain ⟨t1,l1,i1,rfl,g1⟩:=a6_ g0;cases bU_ g1;exact ⟨rfl,rfl,rfl⟩
 | minus=>obtain ⟨t0,l0,i0,rfl,g0⟩:=a6_ h;obtain ⟨t1,l1,i1,rfl,g1⟩:=a6_ g0;cases bU_ g1;exact ⟨rfl,rfl,rfl⟩
 | times=>obtain ⟨t0,l0,i0,rfl,g0⟩:=a6_ h;obtain ⟨t1,l1,i1,rfl,g1⟩:=a6_ g0;cases bU_ g1;exact ⟨rfl,rfl,rfl⟩
 | over=>obtain ⟨t0,l0,i0,rfl,g0⟩:=a6_ h;obtain ⟨t1,l1,i1,rfl,g1⟩:=a6_ g0;cases bU_ g1;exact ⟨rfl,rfl,rfl⟩
 | less=>obtain ⟨t0,l0,i0,rfl,g0⟩:=a6_ h;obtain ⟨t1,l1,i1,rfl,g1⟩:=a6_ g0;cases bU_ g1;exact ⟨rfl,rfl,rfl⟩
 | equal=>obtain ⟨t0,l0,i0,rfl,g0⟩:=a6_ h;obtain ⟨t1,l1,i1,rfl,g1⟩:=a6_ g0;cases bU_ g1;exact ⟨rfl,rfl,rfl⟩
 | floor=>obtain ⟨t0,l0,i0,rfl,g0⟩:=a6_ h;obtain ⟨t1,l1,i1,rfl,g1⟩:=a6_ g0;cases bU_ g1;exact ⟨rfl,rfl,rfl⟩
 | rest=>obtain ⟨t0,l0,i0,rfl,g0⟩:=a6_ h;obtain ⟨t1,l1,i1,rfl,g1⟩:=a6_ g0;cases bU_ g1;exact ⟨rfl,rfl,rfl⟩
 | root=>obtain ⟨t0,l0,i0,rfl,g0⟩:=a6_ h;cases bU_ g0;exact ⟨rfl,rfl,rfl⟩
 | pow=>obtain ⟨t0,l0,i0,rfl,g0⟩:=a6_ h;obtain ⟨m,i1,rfl,g1⟩:=pB_ g0;cases bU_ g1;exact ⟨rfl,rfl,rfl⟩
theorem hp_ (n:Int):shownLit ⟨n,1,none⟩=decimalInt n:=by
 unfold shownLit;simp
theorem hh_ {hl:Nat}{t:Token}{l:Toks} (g:aV_ t.tok):wantName hl (t::l)=if kindOf t.tok=txt "name" then .ok (eo_ t.tok,l) else fault 6 t.start:=by
 have q:=eT_ g;obtain ⟨k,s,h⟩:=t;cases k with
 | word w =>
  by_cases e:kindOf (.word w)=txt "name"
  ·obtain ⟨w',e1,e2⟩:=q.mp e
   cases e1;rw [if_pos e];show (if isName w=true then _ else _)=_;rw [if_pos e2];rfl
  have : ¬ isName w=true:=fun z=>e (q.mpr ⟨w,rfl,z⟩);rw [if_neg e];show (if isName w=true then _ else _)=_;rw [if_neg this]
 | num v d =>
  rw [if_neg fun e=>by obtain ⟨_,z,_⟩:=q.mp e;cases z];rfl
 | sign x =>
 rw [if_neg fun e=>by obtain ⟨_,z,_⟩:=q.mp e;cases z];rfl
theorem gi_ {hl:Nat}{t:Token}{l:Toks} (g:aV_ t.tok) (e:kindOf t.tok=txt "digit") : ∃ n,wantDigit hl (t::l) = .ok (n,l)/\hJ_ t.tok=decimalInt n:=by
 obtain ⟨v,n,z⟩:=(dP_ g).mp e;obtain ⟨k,s,h⟩:=t;dsimp only at z g;subst z;have:=g.2.2.2 n rfl;subst this;exact ⟨n,rfl,hp_ n⟩
theorem gj_ {hl:Nat}{t:Token}{l:Toks} (g:aV_ t.tok) (e : ¬ kindOf t.tok=txt "digit"):wantDigit hl (t::l)=fault 6 t.start:=by
 have q:=dP_ g;obtain ⟨k,s,h⟩:=t;cases k with
 | word w=>rfl
 | num v d =>
  cases d with
  | none=>rfl
  | some n=>exact absurd (q.mpr ⟨v,n,rfl⟩) e
 | sign x=>rfl
theorem m5_ {hl:Nat}{x:String}{t:Token}{l:Toks} (h:kindOf t.tok=txt x↔t.tok=sign x):want hl (sign x) (t::l)=if kindOf t.tok=txt x then .ok l else fault 6 t.start:=by
 show (if t.tok=sign x then _ else _)=_;by_cases e:t.tok=sign x
 ·rw [if_pos e,if_pos (h.mpr e)]
 rw [if_neg e,if_neg fun z=>e (h.mp z)]
theorem kJ_ (hl:Nat):aV_ (sent hl).tok := .inr rfl
def bn_ (l:Toks):Prop:=∀ k∈l,aV_ k.tok
theorem bn_.suf {p r:Toks} (h:bn_ (p++r)):bn_ r:=fun k hk=>h k (mem_append_right _ hk)
theorem bn_.sent {l:Toks} (h:bn_ l) (hl:Nat):bn_ (l++[sent hl]):=fun k hk=>by
 rcases mem_append.mp hk with q | q
 ·exact h k q
 rw [mem_singleton.mp q];exact kJ_ hl
def m0_ (hl d:Nat) (ts:Toks):Prop:=∀ (form:List Nat) (ws:List (List Nat)) (b:Nat) (tr:List Tr) (bb:Bool) (ks:List SK) (c:String) (fs:List PF) (res:List Tr),match bH_ hl d ts with
 | .error e=>∃ n,Run ⟨⟨form,ws,b,tr,.p bb::ks,c,40 - d⟩::fs,ts++[sent hl],res⟩ (.error e) n
 | .ok (a,pl,r)=>∃ t,Rep a t/\cB_ t=pl/\hL_ t<=d/\pl.length+r.length<=ts.length/\(∃ pre,ts=pre++r) /\
  Goes ⟨⟨form,ws,b,tr,.p bb::ks,c,40 - d⟩::fs,ts++[sent hl],res⟩ ⟨⟨form,ws,b,tr++[t],ks,c,40 - d⟩::fs,r++[sent hl],res⟩
def oh_ (hl d:Nat) (sks:List SK) (ts:Toks):Prop:=∀ (form:List Nat) (ws:List (List Nat)) (b:Nat) (tr:List Tr) (c:String) (fs:List PF) (res:List Tr),match atz_ hl (bH_ hl d) (sks.map SK.k) ts with
 | .error e=>∃ n,Run ⟨⟨form,ws,b,tr,sks,c,40 - d⟩::fs,ts++[sent hl],res⟩ (.error e) n
 | .ok (is,r)=>∃ trs,Reps (il_ is) trs/\cA_ trs=by_ is/\hM_ trs<=d/\(by_ is).length+r.length<=ts.length/\(∃ pre,ts=pre++r)/\ItemsOk (sks.map SK.k) is /\
  Goes ⟨⟨form,ws,b,tr,sks,c,40 - d⟩::fs,ts++[sent hl],res⟩ ⟨⟨form,ws++en_ is,b,tr++trs,[],c,40 - d⟩::fs,r++[sent hl],res⟩
theorem dh_ {hl d N:Nat} (IH : ∀ ts,ts.length<=N->bn_ ts->m0_ hl d ts) : ∀ (sks:List SK) (ts:Toks),ts.length<=N->bn_ ts->oh_ hl d sks ts
 | [],ts,hN,hg=>fun form ws b tr c fs res=>by
  refine ⟨[],.nil,rfl,zero_le _,by show 0+_<=_;omega,⟨[],rfl⟩,.nil,?_⟩;show Goes _ ⟨⟨form,ws++[],b,tr++[],[],c,40 - d⟩::fs,ts++[sent hl],res⟩;rw [append_nil,append_nil];exact Goes.refl _
 | .n::sks,[],hN,hg=>fun form ws b tr c fs res=>⟨1,.bad rfl⟩
 | .n::sks,t::l,hN,hg=>fun form ws b tr c fs res=>by
  have gt:=hg t (mem_cons_self ..);have gl:bn_ l:=fun k hk=>hg k (mem_cons_of_mem _ hk);rw [length_cons] at hN;have ih:=dh_ IH sks l (by omega) gl;show match atz_ hl (bH_ hl d) (.name::sks.map SK.k) (t::l) with | .error e=>_ | .ok (is,r)=>_
  unfold atz_;rw [hh_ gt];by_cases e:kindOf t.tok=txt "name"
  ·rw [if_pos e]
   dsimp only;have g1:Goes ⟨⟨form,ws,b,tr,.n::sks,c,40 - d⟩::fs,(t::l)++[sent hl],res⟩ ⟨⟨form,ws++[eo_ t.tok],b,tr,sks,c,40 - d⟩::fs,l++[sent hl],res⟩:=Goes.one (by
    show some (if kindOf t.tok=txt "name" then _ else _)=_;rw [if_pos e];rfl)
   have ih:=ih form (ws++[eo_ t.tok]) b tr c fs res;cases h2:atz_ hl (bH_ hl d) (sks.map SK.k) l with
   | error e2 =>
    rw [h2] at ih;obtain ⟨n,hn⟩:=ih;exact g1 _ _ hn
   | ok v =>
   obtain ⟨is,r⟩:=v;rw [h2] at ih;refine x_10 ih fun trs zy=>x_06 zy fun i1 i2 i3 i4 zn5 i6 i7=>?_;obtain ⟨pre,i5⟩:=zn5;refine ⟨trs,i1,i2,i3,Nat.le_trans i4 (le_succ _),⟨t::pre,by rw [i5];rfl⟩,.name i6,g1.trans ?_⟩;rw [append_assoc] at i7;exact i7
  rw [if_neg e];exact ⟨1,.bad (by
   show some (if kindOf t.tok=txt "name" then _ else _)=_;rw [if_neg e];rfl)⟩
 | .pw::sks,[],hN,hg=>fun form ws b tr c fs res=>⟨1,.bad rfl⟩
 | .pw::sks,t::l,hN,hg=>fun form ws b tr c fs res=>by
  have gt:=hg t (mem_cons_self ..);have gl:bn_ l:=fun k hk=>hg k (mem_cons_of_mem _ hk);rw [length_cons] at hN;have ih:=dh_ IH sks l (by omega) gl;show match atz_ hl (bH_ hl d) (.power::sks.map SK.k) (t::l) with | .error e=>_ | .ok (is,r)=>_
  unfold atz_;by_cases e:kindOf t.tok=txt "digit"
  ·obtain ⟨m,e1,e2⟩:=gi_ (hl:=hl) (l:=l) gt e
   rw [e1];dsimp only;have g1:Goes ⟨⟨form,ws,b,tr,.pw::sks,c,40 - d⟩::fs,(t::l)++[sent hl],res⟩ ⟨⟨form,ws++[hJ_ t.tok],b,tr,sks,c,40 - d⟩::fs,l++[sent hl],res⟩:=Goes.one (by
    show some (if kindOf t.tok=txt "digit" then _ else _)=_;rw [if_pos e];rfl)
   have ih:=ih form (ws++[hJ_ t.tok]) b tr c fs res;cases h2:atz_ hl (bH_ hl d) (sks.map SK.k) l with
   | error e2 =>
    rw [h2] at ih;obtain ⟨n,hn⟩:=ih;exact g1 _ _ hn
   | ok v =>
   obtain ⟨is,r⟩:=v;rw [h2] at ih;refine x_10 ih fun trs zy=>x_06 zy fun i1 i2 i3 i4 zn5 i6 i7=>?_;obtain ⟨pre,i5⟩:=zn5;refine ⟨trs,i1,i2,i3,Nat.le_trans i4 (le_succ _),⟨t::pre,by rw [i5];rfl⟩,.power i6,g1.trans ?_⟩;rw [append_assoc,e2] at i7;rw [e2];exact i7
  rw [gj_ gt e];exact ⟨1,.bad (by
   show some (if kindOf t.tok=txt "digit" then _ else _)=_;rw [if_neg e];rfl)⟩
 | .p bb::sks,ts,hN,hg=>fun form ws b tr c fs res=>by
  have it:=IH ts hN hg form ws b tr bb sks c fs res;show match atz_ hl (bH_ hl d) (.part::sks.map SK.k) ts with | .error e=>_ | .ok (is,r)=>_
  unfold atz_;cases h1:bH_ hl d ts with
  | error e=>rw [h1] at it;exact it
  | ok v =>
  obtain ⟨a,pl,r⟩:=v;rw [h1] at it;refine x_10 it fun t zy=>x_05 zy fun t1 t2 t3 t4 zn5 t6=>?_;obtain ⟨pre,t5⟩:=zn5;dsimp only;have hr:r.length<=N:=by omega
  have gr:bn_ r:=by rw [t5] at hg;exact hg.suf
  have ih:=dh_ IH sks r hr gr form ws b (tr++[t]) c fs res;cases h2:atz_ hl (bH_ hl d) (sks.map SK.k) r with
  | error e2 =>
   rw [h2] at ih;obtain ⟨n,hn⟩:=ih;exact t6 _ _ hn
  | ok v =>
  obtain ⟨is,r2⟩:=v;rw [h2] at ih;refine x_10 ih fun trs zy=>x_06 zy fun i1 i2 i3 i4 zn5 i6 i7=>?_;obtain ⟨pre2,i5⟩:=zn5;refine ⟨t::trs,.cons t1 i1,?_,Nat.max_le.mpr ⟨t3,i3⟩,?_,⟨pre++pre2,by rw [t5,i5,append_assoc]⟩,.part i6,t6.trans ?_⟩
  ·show cB_ t++cA_ trs=pl++by_ is
   rw [t2,i2]
  ·show (pl++by_ is).length+_<=_
   rw [length_append];omega
  rw [append_assoc] at i7;exact i7
theorem eO_ (hl:Nat):kindOf (sent hl).tok=txt "end":=rfl
theorem fA_ (hl:Nat) (r:Toks):ap_ (r++[sent hl])=((ap_ r).1,(ap_ r).2++[sent hl]):=by
 cases r with
 | nil=>rfl
 | cons k r =>
 show ap_ (k::(r++[sent hl]))=_;unfold ap_;dsimp only;cases fmOf k.tok <;> rfl
theorem eZ_ (r:Toks) : ∃ pre,r=pre++(ap_ r).2:=by
 cases r with
 | nil=>exact ⟨[],rfl⟩
 | cons k r =>
 unfold ap_;dsimp only;cases fmOf k.tok with
 | none=>exact ⟨[],rfl⟩
 | some f=>exact ⟨[k],rfl⟩
theorem kI_ (hl:Nat) (ts:Toks) : ∃ t l,ts++[sent hl]=t::l/\t.start=Vaunid.placeOf hl ts:=by
 cases ts with
 | nil=>exact ⟨_,_,rfl,rfl⟩
 | cons k r=>exact ⟨_,_,rfl,rfl⟩
theorem h3_ (hl:Nat) : ∀ (N:Nat) (ts:Toks) (d:Nat),ts.length<=N->d<=40->bn_ ts->m0_ hl d ts
 | N,ts,0,hN,hd,hg=>fun form ws b tr bb ks c fs res=>by
  rw [jl_];refine x_21 (kI_ hl ts) fun t l e1 e2=>?_;exact ⟨1,.bad (by rw [e1,<- e2];rfl)⟩
 | N,[],d+1,hN,hd,hg=>fun form ws b tr bb ks c fs res=>by
  rw [k7_];refine ⟨1,.bad ?_⟩;show (if 40 - (d+1)=40 then _ else if kindOf (sent hl).tok=txt "(" then _ else some (fault 6 hl))=_;rw [if_neg (by omega),if_neg (by rw [eO_];left)];rfl
 | 0,k::r,d+1,hN,hd,hg=>by simp at hN
 | N+1,k::r,d+1,hN,hd,hg=>fun form ws b tr bb ks c fs res=>by
  have gk:=hg k (mem_cons_self ..);have gr:bn_ r:=fun k hk=>hg k (mem_cons_of_mem _ hk);rw [length_cons] at hN;by_cases hp:k.tok=sign "("
  ·rw [jn_ hp]
   obtain ⟨pre,epre⟩:=eZ_ r;have gb:bn_ (ap_ r).2:=by rw [epre] at gr;exact gr.suf
   have lb:=e0_ r;have st:=dh_ (fun ts h g=>h3_ hl N ts d h (by omega) g) (ap_ r).1.sk (ap_ r).2 (by omega) gb (txt (ap_ r).1.word) [] k.start [] ")" (⟨form,ws,b,tr,ks,c,40 - (d+1)⟩::fs) res;have g1:Goes ⟨⟨form,ws,b,tr,.p bb::ks,c,40 - (d+1)⟩::fs,k::r++[sent hl],res⟩ ⟨⟨txt (ap_ r).1.word,[],k.start,[],(ap_ r).1.sk,")",40 - d⟩::⟨form,ws,b,tr,ks,c,40 - (d+1)⟩::fs,(ap_ r).2++[sent hl],res⟩:=Goes.one (by
    show (if 40 - (d+1)=40 then _ else if kindOf k.tok=txt "(" then (if (r++[sent hl]).isEmpty=true then none else some (Except.ok ⟨dU_ k.start (40 - (d+1)+1) (r++[sent hl])::_::fs,(ap_ (r++[sent hl])).2,res⟩:Res MS)) else _)=_;rw [if_neg (by omega),if_pos ((eS_ gk).mpr hp),if_neg (by cases r <;> simp),fA_,show 40 - (d+1)+1=40 - d by omega]
    unfold dU_;rw [fA_])
   unfold cv_;rw [lz_] at st;cases h1:atz_ hl (bH_ hl d) (ap_ r).1.kinds (ap_ r).2 with
   | error e =>
    rw [h1] at st;obtain ⟨n,hn⟩:=st;exact g1 _ _ hn
   | ok v =>
   obtain ⟨is,q⟩:=v;rw [h1] at st;refine x_10 st fun trs zy=>x_06 zy fun i1 i2 i3 i4 zn5 i6 i7=>?_;obtain ⟨pre2,i5⟩:=zn5;rw [nil_append,nil_append] at i7;have g2:=g1.trans i7;have gq:bn_ q:=by rw [i5] at gb;exact gb.suf
   obtain ⟨m1,m2,m3⟩:=l6_ _ _ i6;unfold f8_;dsimp only;cases q with
   | nil =>
    obtain ⟨m,hm⟩:=g2 (.error ⟨6,hl⟩) 1 (.bad (by
     show some (if kindOf (sent hl).tok=txt ")" then _ else fault 6 hl)=_;rw [if_neg (by rw [eO_];left)];rfl))
    exact ⟨m,hm⟩
   | cons x q =>
   have gx:=gq x (mem_cons_self ..);rw [m5_ (ja_ gx)];by_cases hx:kindOf x.tok=txt ")"
   ·rw [if_pos hx]
    dsimp only;have g3:=g2.trans (Goes.one (s':=⟨⟨form,ws,b,tr++[.mk (txt (ap_ r).1.word) (en_ is) k.start x.halt_ trs],ks,c,40 - (d+1)⟩::fs,q++[sent hl],res⟩) (by
     show some (if kindOf x.tok=txt ")" then _ else _)=_;rw [if_pos hx];rfl))
    refine ⟨.mk (txt (ap_ r).1.word) (en_ is) k.start x.halt_ trs,?_,?_,?_,?_,?_,g3⟩
    ·rw [<- m1,<- m2]
     rw [<- m3] at i1;exact .mk i1
    ·show k.start::cA_ trs=_
     rw [i2]
    ·show 1+hM_ trs<=d+1
     omega
    ·rw [length_cons] at i4 ⊢
     rw [length_cons];omega
    exact ⟨k::(pre++(pre2++[x])),by
     rw [cons_append,append_assoc,append_assoc];show _=k::(pre++(pre2++x::q));rw [<- i5,<- epre]⟩
   rw [if_neg hx];obtain ⟨m,hm⟩:=g2 (.error ⟨6,x.start⟩) 1 (.bad (by
    show some (if kindOf x.tok=txt ")" then _ else fault 6 x.start)=_;rw [if_neg hx];rfl))
   exact ⟨m,hm⟩
  rw [jm_ hp];cases h1:Vaunid.leafOf k.tok with
  | none =>
   refine ⟨1,.bad ?_⟩;show (if 40 - (d+1)=40 then _ else if kindOf k.tok=txt "(" then _ else match Vaunid.leafOf k.tok with | some x=>_ | none=>some (fault 6 k.start))=_
   rw [if_neg (by omega),if_neg (fun z=>hp ((eS_ gk).mp z)),h1];rfl
  | some x =>
  refine ⟨gU_ k x,?_,rfl,?_,?_,⟨[k],rfl⟩,Goes.one ?_⟩
  ·exact Rep.mk (t := .leaf x) .nil
  ·show 1+0<=d+1
   omega
  ·show 1+r.length<=r.length+1
   omega
  show (if 40 - (d+1)=40 then _ else if kindOf k.tok=txt "(" then _ else match Vaunid.leafOf k.tok with | some x=>_ | none=>some (fault 6 k.start))=_
  rw [if_neg (by omega),if_neg (fun z=>hp ((eS_ gk).mp z)),h1];rfl
noncomputable def fa_ (hl:Nat) (ts:Toks):MS:=⟨[⟨txt "whole",[],0,[],[.p false],"end",0⟩],ts++[sent hl],[]⟩
theorem ju_ (hl:Nat) (ts:Toks) (hg:bn_ ts) (h0 : ∀ k∈ts,¬ k.tok=sign "end"):match bH_ hl 40 ts with
  | .error e=>∃ n,Run (fa_ hl ts) (.error e) n
  | .ok (a,pl,r)=>match r with
   | k::_=>∃ n,Run (fa_ hl ts) (.error ⟨6,k.start⟩) n
   | []=>∃ t n e,Rep a t/\cB_ t=pl/\hL_ t<=40/\pl.length<=ts.length/\Run (fa_ hl ts) (.ok (.mk (txt "whole") [] 0 e [t])) n:=by
 have h:=h3_ hl ts.length ts 40 (Nat.le_refl _) (Nat.le_refl _) hg (txt "whole") [] 0 [] false [] "end" [] [];cases h1:bH_ hl 40 ts with
 | error e=>rw [h1] at h;exact h
 | ok v =>
 obtain ⟨a,pl,r⟩:=v;rw [h1] at h;refine x_10 h fun t zy=>x_05 zy fun t1 t2 t3 t4 zn5 t6=>?_;obtain ⟨pre,t5⟩:=zn5;cases r with
 | nil =>
  obtain ⟨m,hm⟩:=t6 (.ok (.mk (txt "whole") [] 0 hl [t])) 1 (.go (s':=⟨[],[],[.mk (txt "whole") [] 0 hl [t]]⟩) (by
   show some (if kindOf (sent hl).tok=txt "end" then _ else _)=_;rw [if_pos (eO_ hl)];rfl) .done)
  exact ⟨t,m,hl,t1,t2,t3,by have:([]:Toks).length=0:=rfl;omega,hm⟩
 | cons k q =>
 have gk:aV_ k.tok:=hg k (by rw [t5];exact mem_append_right _ (mem_cons_self ..));have hk : ¬ kindOf k.tok=txt "end":=fun z=>h0 k (by rw [t5];exact mem_append_right _ (mem_cons_self ..)) ((l9_ gk).mp z);obtain ⟨m,hm⟩:=t6 (.error ⟨6,k.start⟩) 1 (.bad (by
  show some (if kindOf k.tok=txt "end" then _ else fault 6 k.start)=_;rw [if_neg hk];rfl))
 exact ⟨m,hm⟩
open Vaunid (Token txt word sign isDigit isSmall inWord)
theorem lZ_ {s:List Nat}{c:Nat}{r:List Nat} (e:s=c::r) (hc:isDigit c=true) {o u:Nat} (h:(numberText s).2.1=some (o,u)):o<10 ^ 12/\u<10 ^ 12/\((numberText s).1=1->u=1):=by
 have key : ∀ (b:Bool) (T L o u:Nat),(if b=true then some (T / T.gcd L,L / T.gcd L) else none)=some (o,u)->b=true/\T / T.gcd L=o/\L / T.gcd L=u:=by
  intro b T L o u h;cases b with
  | true=>rw [if_pos rfl] at h;cases h;exact ⟨rfl,rfl,rfl⟩
  | false=>cases h
 unfold numberText at h ⊢;dsimp only at h ⊢;obtain ⟨hg,e1,e2⟩:=key _ _ _ _ _ h;rw [e1,e2] at hg;simp only [and_eq_true,decide_eq_true_eq,fits] at hg;refine ⟨hg.2.2.2.1,hg.2.2.2.2,fun h1=>?_⟩;have ha:1<=(s.takeWhile isDigit).length:=by
  rw [e,takeWhile_cons,hc];exact Nat.succ_le_succ (zero_le _)
 by_cases hx:(secondRow (s.dropWhile isDigit)).1=0
 ·rw [hx] at e2
  simp at e2;exact e2.symm
 rw [if_neg hx] at h1;omega
theorem i8_ {p:Nat}{s r:List Nat}{k:Token} (hl:s.length<=10000) (h:token true p s = .ok (k,r)):aV_ k.tok/\¬ k.tok=sign "end":=by
 unfold token at h;cases s with
 | nil=>cases h
 | cons c s =>
 dsimp only at h;split at h
 ·rename_i hc
  unfold wordToken at h;dsimp only at h;split at h
  ·cases h
  rename_i hn;cases h;refine ⟨⟨?_,by simp only [MOSTSIGNS] at hn;omega⟩,by intro z;cases z⟩;rw [takeWhile_cons,dH_ hc];show (isSmall c && (s.takeWhile inWord).all inWord)=true;rw [hc];exact all_eq_true.mpr (et_ _)
 have num : ∀ neg:Bool,(∃ c' s',(if neg=true then (c::s).drop 1 else c::s)=c'::s'/\isDigit c'=true)->numberToken neg p (c::s) = .ok (k,r)->aV_ k.tok/\¬ k.tok=sign "end":=by
  rintro neg ⟨c',s',e1,e2⟩ h
  unfold numberToken at h;dsimp only at h;cases h1:(numberText (if neg=true then (c::s).drop 1 else c::s)).2.1 with
  | none=>rw [h1] at h;cases h
  | some v =>
  obtain ⟨o,u⟩:=v;rw [h1] at h;dsimp only at h;obtain ⟨b1,b2,b3⟩:=lZ_ e1 e2 h1;have bt:(if neg=true then -(o:Int) else (o:Int)).natAbs<10 ^ 12:=by
   split
   ·rw [Int.natAbs_neg];exact b1
   exact b1
  have nr:=fY_ (if neg=true then (c::s).drop 1 else c::s);split at h
  ·rename_i r' hr
   split at h
   ·cases h
   rename_i hm;cases h;refine ⟨⟨fun m e=>?_,bt,b2,fun n e=>by cases e⟩,by intro z;cases z⟩;cases e;have hm2:measureText ((r'.takeWhile fun c=>c != 93).length+1) (r'.takeWhile fun c=>c != 93)=true:=by
    cases q:measureText ((r'.takeWhile fun c=>c != 93).length+1) (r'.takeWhile fun c=>c != 93) with
    | true=>rfl
    | false=>exact absurd (.inr q) hm
   refine ⟨iY_ hm2,?_⟩;have l1:=d3_ (fun c=>c != 93) r';have l2:r'.length+1=((if neg=true then (c::s).drop 1 else c::s).drop (numberText (if neg=true then (c::s).drop 1 else c::s)).1).length:=by rw [<- nr.1,hr];rfl
   rw [length_drop] at l2;have l3:(if neg=true then (c::s).drop 1 else c::s).length<=(c::s).length:=by
    split
    ·rw [length_drop];omega
    exact Nat.le_refl _
   omega
  cases h;refine ⟨⟨fun m e=>(by cases e),bt,b2,fun n e=>?_⟩,by intro z;cases z⟩;by_cases h1:(numberText (if neg=true then (c::s).drop 1 else c::s)).1=1
  ·rw [if_pos h1] at e
   cases e;rw [b3 h1]
  rw [if_neg h1] at e;cases e
 split at h
 ·rename_i hd
  exact num false ⟨c,s,rfl,hd⟩ h
 split at h
 ·rename_i hm
  refine num true ?_ h;obtain ⟨_,hm⟩:=hm;unfold minusDigit at hm;split at hm
  ·rename_i d s' e
   cases e;exact ⟨d,s',rfl,hm⟩
  cases hm
 unfold signToken at h;rw [if_pos rfl] at h;cases h1:Vaunid.coreSigns.find? (fun x=>x.isPrefixOf (c::s)) with
 | none=>rw [h1] at h;cases h
 | some x =>
 rw [h1] at h;cases h;have hm:=List.mem_of_find?_eq_some h1;refine ⟨.inl hm,fun z=>?_⟩;have z:Vaunid.Tok.sign x=Vaunid.Tok.sign _:=z;injection z with z;rw [z] at hm;exact absurd hm (by left)
theorem c4_ : ∀ (n p:Nat) (s:List Nat) (l:List Token),s.length<=10000->tokens true n p s = .ok l->∀ k∈l,aV_ k.tok/\¬ k.tok=sign "end"
 | n,p,[],l,hl,h=>by
  have:l=[]:=by cases n <;> (cases h;rfl)
  subst this;simp
 | 0,p,c::r,l,hl,h=>by
  cases h;simp
 | n+1,p,c::r,l,hl,h=>by
  unfold tokens at h;have hl':r.length+1<=10000:=hl;split at h
  ·exact c4_ n _ r l (by omega) h
  split at h
  ·rename_i hz
   cases hz.1
  cases q:token true p (c::r) with
  | error e=>rw [q] at h;cases h
  | ok x =>
  obtain ⟨k,s⟩:=x;rw [q] at h;dsimp only at h;have tf:=bX_ q;have hs:s.length<=r.length:=by
   have h3:=tf.lt;rw [tf.rest,length_drop,length_cons];omega
  cases q2:tokens true n k.halt_ s with
  | error e=>rw [q2] at h;cases h
  | ok l2 =>
  rw [q2] at h;cases h;have:=c4_ n _ s l2 (by omega) q2;intro y hy;rcases mem_cons.mp hy with e | e
  ·rw [e];exact i8_ hl q
  exact this y e
open Vaunid (Token txt word sign)
noncomputable def hq_ (la:Addr) (i:Int):List (Str×V):=[("ahead",.ref la),("index",.int i)]
noncomputable def e9_ (k:Str) (o:Addr) (d:Int):List (Str×V):=[("kind",.str k),("owner",.ref o),("depth",.int d)]
def ai_ (xs:List Addr) (H H':Hp):Prop:=∀ a o,a∉xs->H a=some o->H' a=some o
theorem ai_.of {xs:List Addr}{H H':Hp} (s:Same H H'):ai_ xs H H':=fun a o _ e=>s a o e
theorem ai_.trans {xs:List Addr}{H H1 H2:Hp} (s:ai_ xs H H1) (r:ai_ xs H1 H2):ai_ xs H H2:=fun a o n e=>r a o n (s a o n e)
theorem ai_.more {xs ys:List Addr}{H H':Hp} (s:ai_ xs H H') (h : ∀ a∈xs,a∈ys):ai_ ys H H':=fun a o n e=>s a o (fun m=>n (h a m)) e
theorem ai_.upd {xs:List Addr}{H:Hp}{a:Addr}{o:HO} (h:a∈xs):ai_ xs H (L2.upd H a o):=fun b u n e=>by rw [am_ (fun (z:b=a)=>n (z ▸ h))];exact e
theorem ai_.base {xs:List Addr}{H0 H H':Hp} (s:ai_ xs H H') (b:Same H0 H) (h : ∀ a∈xs,H0 a=none):Same H0 H':=fun a o e=>s a o (fun m=>by rw [h a m] at e;cases e) (b a o e)
structure Imm (H H':Hp):Prop where
 tok : ∀ a C dx g k b e c,H a=some (.ins C dx (d5_ g k b e c))->H' a=some (.ins C dx (d5_ g k b e c))
 amt : ∀ a C dx o u m,H a=some (.ins C dx (afs o u m))->H' a=some (.ins C dx (afs o u m))
theorem m8_ {g:Int}{k:Str}{b e:Int}{c:V}{la:Addr}{i:Int}:d5_ g k b e c≠hq_ la i:=fun h=>by
 have:=congrArg (List.map Prod.fst) h;have q:([("group":Str),"kind","begin","end","content"]:List Str)=[("ahead":Str),"index"]:=this;exact absurd q (by left)
theorem lo_ {g:Int}{k:Str}{b e:Int}{c:V}{f:Str}{w p:Addr}{b' e':Int}:d5_ g k b e c≠a9_ f w p b' e':=fun h=>by
 have:=congrArg (List.map Prod.fst) h;have q:([("group":Str),"kind","begin","end","content"]:List Str)=[("form":Str),"words","parts","begin","end"]:=this;exact absurd q (by left)
theorem oe_ {o u:Int}{m:Str}{la:Addr}{i:Int}:afs o u m≠hq_ la i:=fun h=>by
 have:=congrArg (List.map Prod.fst) h;have q:([("over":Str),"under","measure"]:List Str)=[("ahead":Str),"index"]:=this;exact absurd q (by left)
theorem mq_ {o u:Int}{m:Str}{f:Str}{w p:Addr}{b' e':Int}:afs o u m≠a9_ f w p b' e':=fun h=>by
 have:=congrArg (List.map Prod.fst) h;have q:([("over":Str),"under","measure"]:List Str)=[("form":Str),"words","parts","begin","end"]:=this;exact absurd q (by left)
inductive NT (H:Hp) (x:Addr):Prop
 | lst {l:List V}:H x=some (.lst l)->NT H x
 | row {C dx la:Addr}{i:Int}:H x=some (.ins C dx (hq_ la i))->NT H x
 | node {C dx:Addr}{f:Str}{w p:Addr}{b e:Int}:H x=some (.ins C dx (a9_ f w p b e))->NT H x
theorem NT.tok {H:Hp}{x C dx:Addr}{g:Int}{k:Str}{b e:Int}{c:V} (h:NT H x) (q:H x=some (.ins C dx (d5_ g k b e c))):False:=by
 rcases h with h | h | h
 ·rw [h] at q;cases q
 ·rw [h] at q;injection q with q;injection q with _ _ q;exact m8_ q.symm
 rw [h] at q;injection q with q;injection q with _ _ q;exact lo_ q.symm
theorem NT.amt {H:Hp}{x C dx:Addr}{o u:Int}{m:Str} (h:NT H x) (q:H x=some (.ins C dx (afs o u m))):False:=by
 rcases h with h | h | h
 ·rw [h] at q;cases q
 ·rw [h] at q;injection q with q;injection q with _ _ q;exact oe_ q.symm
 rw [h] at q;injection q with q;injection q with _ _ q;exact mq_ q.symm
theorem Imm.of {xs:List Addr}{H H':Hp} (s:ai_ xs H H') (h : ∀ x∈xs,NT H x):Imm H H' :=
 ⟨fun a C dx g k b e c q=>s a _ (fun m=>(h a m).tok q) q,fun a C dx o u m q=>s a _ (fun n=>(h a n).amt q) q⟩
def pI_ (Ca:Addr) (H:Hp) (c:V):Vaunid.Tok->Prop
 | .sign _=>True
 | k=>hg_ Ca H c k
def TokB (Ca Ct:Addr) (H:Hp) (a:Addr) (k:Token):Prop:=∃ dx c,H a=some (.ins Ct dx (d5_ (Vaunid.sortOf k.tok) (S (kindOf k.tok)) (k.start:Int) (k.halt_:Int) c))/\pI_ Ca H c k.tok
theorem cR_.b {Ca Ct:Addr}{H:Hp}{a:Addr}{k:Token} (h:cR_ Ca Ct H a k):TokB Ca Ct H a k:=by
 obtain ⟨dx,c,e,q⟩:=h;refine ⟨dx,c,e,?_⟩;cases hk:k.tok with
 | word w=>rw [hk] at q;exact q
 | num v d=>rw [hk] at q;exact q
 | sign x=>trivial
theorem TokB.imm {Ca Ct:Addr}{H H':Hp}{a:Addr}{k:Token} (h:TokB Ca Ct H a k) (s:Imm H H'):TokB Ca Ct H' a k:=by
 obtain ⟨dx,c,e,q⟩:=h;refine ⟨dx,c,s.tok _ _ _ _ _ _ _ _ e,?_⟩;cases hk:k.tok with
 | word w=>rw [hk] at q;exact q
 | num v d=>rw [hk] at q;obtain ⟨b,e1,dx',e2⟩:=q;exact ⟨b,e1,dx',s.amt _ _ _ _ _ _ e2⟩
 | sign x=>trivial
def bo_ (Ca Ct Cr:Addr) (H:Hp) (row la:Addr) (l:Toks):Prop:=∃ (dx:Addr) (as:List Addr) (i:Nat),H row=some (.ins Cr dx (hq_ la (i:Int)))/\H la=some (.lst (as.map V.ref))/\Paired (fun a k=>TokB Ca Ct H a k) (as.drop i) l
theorem bo_.keep {Ca Ct Cr:Addr}{H H':Hp}{row la:Addr}{l:Toks} (h:bo_ Ca Ct Cr H row la l) {xs:List Addr} (s:ai_ xs H H') (nt : ∀ x∈xs,NT H x) (n1:row∉xs) (n2:la∉xs):bo_ Ca Ct Cr H' row la l:=by
 obtain ⟨dx,as,i,h1,h2,h3⟩:=h;exact ⟨dx,as,i,s _ _ n1 h1,s _ _ n2 h2,Paired.mapP h3 fun a k z=>z.imm (Imm.of s nt)⟩
theorem bo_.same {Ca Ct Cr:Addr}{H H':Hp}{row la:Addr}{l:Toks} (h:bo_ Ca Ct Cr H row la l) (s:Same H H'):bo_ Ca Ct Cr H' row la l:=h.keep (xs:=[]) (ai_.of s) (by simp) (by simp) (by simp)
theorem bo_.nt {Ca Ct Cr:Addr}{H:Hp}{row la:Addr}{l:Toks} (h:bo_ Ca Ct Cr H row la l):NT H row:=let ⟨_,_,_,h1,_,_⟩:=h;.row h1
def de_ (Cs:Addr) (H:Hp) (ss:List Addr) (ks:List String) (o:Addr) (d:Nat):Prop:=Paired (fun s k=>∃ dx,H s=some (.ins Cs dx (e9_ (ofString k) o (d:Int)))) ss ks
def Kp (xs:List Addr) (H H':Hp):Prop:=∀ a∈xs,∀ o,H a=some o->H' a=some o
theorem Kp.sub {xs ys:List Addr}{H H':Hp} (k:Kp xs H H') (h : ∀ a∈ys,a∈xs):Kp ys H H':=fun a m=>k a (h a m)
theorem Kp.of {xs ys:List Addr}{H H':Hp} (s:ai_ ys H H') (d : ∀ a∈xs,a∉ys):Kp xs H H':=fun a m o e=>s a o (d a m) e
theorem hw_ {A B:Type}{R S:A->B->Prop}{l:List A}{m:List B} (h:Paired R l m) (k : ∀ a∈l,∀ b,R a b->S a b):Paired S l m:=by
 induction h with
 | nil=>exact .nil
 | cons h t ih=>exact .cons (k _ (mem_cons_self ..) _ h) (ih fun a m=>k a (mem_cons_of_mem _ m))
theorem de_.keep {Cs:Addr}{H H':Hp}{ss:List Addr}{ks:List String}{o:Addr}{d:Nat} (h:de_ Cs H ss ks o d) (k:Kp ss H H'):de_ Cs H' ss ks o d:=hw_ h fun a m b ⟨dx,e⟩=>⟨dx,k a m _ e⟩
theorem de_.here {Cs:Addr}{H:Hp}{o:Addr}{d:Nat}{ss:List Addr}{ks:List String} (h:de_ Cs H ss ks o d) : ∀ a∈ss,∃ u,H a=some u:=by
 unfold de_ at h
 induction h with
 | nil=>intro a m;cases m
 | cons h t ih =>
 obtain ⟨dx,e⟩:=h;intro a m;rcases mem_cons.mp m with q | q
 ·exact ⟨_,q ▸ e⟩
 exact ih a q
structure FrAt (Cn Cs:Addr) (H:Hp) (n:Addr) (pf:PF) (next ss:List Addr) (dx wl pl:Addr) (as F:List Addr) (e:Nat):Prop where
 node:H n=some (.ins Cn dx (a9_ (S pf.form) wl pl (pf.b:Int) (e:Int)))
 words:H wl=some (.lst ((pf.ws.map S).map V.str))
 parts:H pl=some (.lst ((as++next).map V.ref))
 trees:TreesAt Cn H as pf.ts F
 steps:de_ Cs H ss (pf.ks.map SK.w++[pf.c]) n pf.d
theorem FrAt.keep {Cn Cs:Addr}{H H':Hp}{n:Addr}{pf:PF}{next ss:List Addr}{dx wl pl:Addr}{as F:List Addr}{e:Nat} (h:FrAt Cn Cs H n pf next ss dx wl pl as F e) (k:Kp ((n::wl::pl::F)++ss) H H'):FrAt Cn Cs H' n pf next ss dx wl pl as F e :=
 ⟨k n (by simp) _ h.node,k wl (by simp) _ h.words,k pl (by simp) _ h.parts,h.trees.keep fun b m o q=>k b (by simp [m]) o q,h.steps.keep fun a m o q=>k a (by simp [m]) o q⟩
theorem FrAt.here {Cn Cs:Addr}{H:Hp}{n:Addr}{pf:PF}{next ss:List Addr}{dx wl pl:Addr}{as F:List Addr}{e:Nat} (h:FrAt Cn Cs H n pf next ss dx wl pl as F e) : ∀ a∈(n::wl::pl::F)++ss,∃ u,H a=some u:=fun a m=>by
 rcases mem_append.mp m with m | m
 ·rcases mem_cons.mp m with q | m
  ·exact ⟨_,q ▸ h.node⟩
  rcases mem_cons.mp m with q | m
  ·exact ⟨_,q ▸ h.words⟩
  rcases mem_cons.mp m with q | m
  ·exact ⟨_,q ▸ h.parts⟩
  exact h.trees.here a m
 exact h.steps.here a m
inductive Stk (Cn Cs:Addr) (H:Hp) (wh:Addr):List PF->List Addr->List Addr->List Addr->Prop
 | bot {pf:PF}{next ss:List Addr}{dx wl pl:Addr}{as F:List Addr}{e:Nat}:FrAt Cn Cs H wh pf next ss dx wl pl as F e->Stk Cn Cs H wh [pf] next ss (wh::wl::pl::F)
 | cons {n:Addr}{pf g:PF}{r:List PF}{next ss ss2 own2:List Addr}{dx wl pl:Addr}{as F:List Addr}{e:Nat}:FrAt Cn Cs H n pf next ss dx wl pl as F e->Stk Cn Cs H wh (g::r) [n] ss2 own2->Stk Cn Cs H wh (pf::g::r) next (ss++ss2) ((n::wl::pl::F)++own2)
theorem Stk.keep {Cn Cs:Addr}{H H':Hp}{wh:Addr}{fs:List PF}{next ss own:List Addr} (h:Stk Cn Cs H wh fs next ss own) (k:Kp (own++ss) H H'):Stk Cn Cs H' wh fs next ss own:=by
 induction h with
 | bot h=>exact .bot (h.keep k)
 | cons h t ih=>exact .cons (h.keep (k.sub fun a m=>by simp at m ⊢;rcases m with m | m | m | m | m <;> simp [m])) (ih (k.sub fun a m=>by simp at m ⊢;rcases m with m | m <;> simp [m]))
theorem Stk.here {Cn Cs:Addr}{H:Hp}{wh:Addr}{fs:List PF}{next ss own:List Addr} (h:Stk Cn Cs H wh fs next ss own) : ∀ a∈own++ss,∃ u,H a=some u:=by
 induction h with
 | bot h=>exact h.here
 | cons h t ih =>
 intro a m;rw [mem_append,mem_append,mem_append] at m;rcases m with (m | m) | (m | m)
 ·exact h.here a (mem_append_left _ m)
 ·exact ih a (mem_append_left _ m)
 ·exact h.here a (mem_append_right _ m)
 exact ih a (mem_append_right _ m)
def cnt (pf:PF):Nat:=pf.ts.length+pf.ws.length+pf.ks.length
def LvB:List PF->Prop
 | []=>True
 | pf::r=>cnt pf<=4/\(pf.c=")"\/pf.c="end")/\pf.d=r.length/\pf.d<=40/\LvB r
def Lv:List PF->Prop
 | []=>True
 | pf::r=>cnt pf<=5/\(pf.c=")"\/pf.c="end")/\pf.d=r.length/\pf.d<=40/\LvB r
theorem LvB.lv {l:List PF} (h:LvB l):Lv l:=by
 cases l with
 | nil=>trivial
 | cons pf r=>exact ⟨Nat.le_succ_of_le h.1,h.2⟩
theorem mF_ (f:Fm):f.sk.length<=5:=by cases f <;> decide
theorem de_.length {Cs:Addr}{H:Hp}{ss:List Addr}{ks:List String}{o:Addr}{d:Nat} (h:de_ Cs H ss ks o d):ss.length=ks.length:=Paired.length h
theorem Stk.len {Cn Cs:Addr}{H:Hp}{wh:Addr}{fs:List PF}{next ss own:List Addr} (h:Stk Cn Cs H wh fs next ss own) (k:LvB fs):ss.length<=6 * fs.length:=by
 induction h with
 | bot h =>
  have:=h.steps.length;rw [length_append,length_map] at this;have h1:=k.1;unfold cnt at h1;simp at this ⊢;omega
 | cons h t ih =>
 have:=h.steps.length;rw [length_append,length_map] at this;have h1:=k.1;unfold cnt at h1;have:=ih k.2.2.2.2;simp at *;omega
theorem nP_ {s s':MS} (h:Lv s.fs) (e:b8_ s=some (.ok s')):Lv s'.fs:=by
 obtain ⟨fs,l,res⟩:=s;cases fs with
 | nil=>cases e
 | cons pf fs =>
 cases l with
 | nil=>cases e
 | cons t l =>
 obtain ⟨form,ws,b,ts,ks,c,d⟩:=pf;obtain ⟨h1,hc,h2,h3,h4⟩:=h;simp only [cnt] at h1;cases ks with
 | nil =>
  simp only [b8_] at e;split at e
  ·cases fs with
   | nil=>cases e;trivial
   | cons g r =>
    cases e;obtain ⟨g1,gc,g2,g3,g4⟩:=h4;refine ⟨?_,gc,g2,g3,g4⟩;simp only [cnt,length_append,length_singleton] at g1 ⊢;omega
  cases e
 | cons k ks =>
 rw [length_cons] at h1;cases k with
 | n =>
  simp only [b8_] at e;split at e
  ·cases e
   refine ⟨?_,hc,h2,h3,h4⟩;simp only [cnt,length_append,length_singleton];omega
  cases e
 | pw =>
  simp only [b8_] at e;split at e
  ·cases e
   refine ⟨?_,hc,h2,h3,h4⟩;simp only [cnt,length_append,length_singleton];omega
  cases e
 | p bb =>
 simp only [b8_] at e;split at e
 ·cases e
 rename_i hd;split at e
 ·split at e
  ·cases e
  cases e;have:=mF_ (ap_ l).1;refine ⟨?_,.inl rfl,?_,?_,⟨?_,hc,h2,h3,h4⟩⟩
  ·simp only [cnt,dU_,length_nil]
   omega
  ·simp only [dU_,length_cons]
   simp only at h2;omega
  ·simp only [dU_]
   simp only at h3;omega
  simp only [cnt];omega
 split at e
 ·cases e
  refine ⟨?_,hc,h2,h3,h4⟩;simp only [cnt,length_append,length_singleton];omega
 cases e
theorem m7_ (a b:String):Vaunid.txt (a++b)=Vaunid.txt a++Vaunid.txt b:=by
 unfold Vaunid.txt;rw [String.toList_append,map_append]
theorem jy_ (n:Nat):Vaunid.txt (Nat.repr n)=decimal n:=by
 unfold Vaunid.txt decimal Nat.repr;rw [String.toList_ofList]
theorem m6_ (z:Int):Vaunid.txt (toString z)=decimalInt z:=by
 unfold decimalInt;cases z with
 | ofNat m =>
  rw [if_neg (show ¬ (Int.ofNat m<0) from Int.not_lt.mpr (Int.natCast_nonneg m))];exact jy_ m
 | negSucc m =>
 rw [if_pos (by omega)];show Vaunid.txt ("-"++Nat.repr (m+1))=_;rw [m7_,jy_];rfl
theorem str_int (z:Int):ofString (toString z)=S (decimalInt z):=by rw [aI_,m6_]
theorem eF_ {z:Int} (h:z.natAbs<10 ^ 12):z.natAbs.log2<1920:=by
 by_cases h0:z.natAbs=0
 ·rw [h0];decide
 exact Nat.lt_trans ((Nat.log2_lt h0).mpr (Nat.lt_trans h (show 10 ^ 12<2 ^ 40 by decide))) (by decide)
theorem bO_ {n:Nat} (h:n<10 ^ 12):(decimal n).length<=12:=by
 unfold decimal;rw [length_map];exact (Nat.length_toDigits_le_iff (by decide) (by decide)).mpr h
theorem cV_ {z:Int} (h:z.natAbs<10 ^ 12):(decimalInt z).length<=13:=by
 unfold decimalInt;have:=bO_ h;split
 ·rw [length_cons];omega
 omega
theorem bW_ (n:Nat):decimalInt (n:Int)=decimal n:=by
 unfold decimalInt;rw [if_neg (by omega)];rfl
def gd_ (v:Vaunid.Lit):Prop:=(∀ m,v.measure=some m->m≠[]/\m.length<=10000)/\v.top.natAbs<10 ^ 12/\v.low<10 ^ 12
theorem gC_:ofString "/"=S [47]:=by left
theorem lW_:ofString "["=S [91]:=by left
theorem k9_:ofString "]"=S [93]:=by left
theorem kT_:ofString ""=S []:=by left
theorem gD_ (v:Vaunid.Lit) (g:gd_ v):shownLit v=(decimalInt v.top++(if v.low=1 then [] else 47::decimal v.low))++(if v.measure.getD []=[] then [] else 91::(v.measure.getD []++[93])):=by
 unfold shownLit;rw [append_assoc];congr 2;cases h:v.measure with
 | none=>rfl
 | some m =>
 show 91::(m++[93])=if m=[] then [] else 91::(m++[93]);rw [if_neg (g.1 m h).1]
theorem bw_ {C:Addr}{names:List Str}{vs:List V}{H:Hp}{E:XK}{R:Addr->Hp->Prop} (hl:vs.length=names.length) (k : ∀ x dx H1,H x=none->Same H H1->H1 x=some (.ins C dx (names.zip vs))->R x H1) :
  ∀ x dx,H x=none->H dx=none->dx≠x->bA_ C names (.ref x::vs) (upd (upd H dx (.own x)) x (.ins C dx [])) (fun v H2=>v = .non/\R x H2) E:=fun x dx hx hdx hne=>by
 refine ⟨x,dx,vs,rfl,hl,ad_,rfl,?_⟩;rw [er_];exact k x dx _ hx (aQ_ hx hdx) ad_
theorem none_of {H H1:Hp}{a:Addr} (s:Same H H1) (h:H1 a=none):H a=none:=by
 cases q:H a with
 | none=>rfl
 | some o=>rw [s _ _ q] at h;cases h
theorem eh_ {xs:List Addr}{H H1:Hp}{a:Addr} (s:ai_ xs H H1) (n:a∉xs) (h:H1 a=none):H a=none:=by
 cases q:H a with
 | none=>rfl
 | some o=>rw [s _ _ n q] at h;cases h
theorem nin {a b:Addr} (h:a≠b):a∉[b]:=fun m=>h (mem_singleton.mp m)
theorem aR_ {A B:Type}{R:A->B->Prop}{l:List A}{m:List B}{a:A}{b:B} (h:Paired R l m) (r:R a b):Paired R (l++[a]) (m++[b]):=by
 induction h with
 | nil=>exact .cons r .nil
 | cons h t ih=>exact .cons h ih
structure BI (Ca Ct Cr Cn Cs:Addr) (H:Hp) (row la todo:Addr) (xs:List V) (r:Toks) (n dx wl pl:Addr) (f:Str) (b:Int) (d:Nat) (H':Hp) (ss:List Addr) (ks:List String):Prop where
 sx:ai_ [row,todo] H H'
 row:bo_ Ca Ct Cr H' row la r
 todo:H' todo=some (.lst (xs++ss.reverse.map V.ref))
 steps:de_ Cs H' ss ks n d
 node:H' n=some (.ins Cn dx (a9_ f wl pl b b))
 words:H' wl=some (.lst [])
 parts:H' pl=some (.lst [])
 nd:(n::wl::pl::ss).Nodup
 fr : ∀ a∈n::wl::pl::ss,H a=none
theorem BI.add {Ca Ct Cr Cn Cs:Addr}{H:Hp}{row la todo:Addr}{xs:List V}{r:Toks}{n dx wl pl:Addr}{f:Str}{b:Int}{d:Nat}{H' H2:Hp}{ss:List Addr}{ks:List String} (h:BI Ca Ct Cr Cn Cs H row la todo xs r n dx wl pl f b d H' ss ks) (ht:H todo=some (.lst xs)) (nla:la≠todo) {s dxs:Addr}{k:String}
  (hs:H' s=none) (sm:Same H' H2) (e:H2 s=some (.ins Cs dxs (e9_ (ofString k) n (d:Int)))):BI Ca Ct Cr Cn Cs H row la todo xs r n dx wl pl f b d (upd H2 todo (.lst (xs++ss.reverse.map V.ref++[.ref s]))) (s::ss) (k::ks):=by
 have ht2:=sm _ _ h.todo;have sx2:ai_ [todo] H' (upd H2 todo (.lst (xs++ss.reverse.map V.ref++[.ref s]))):=(ai_.of sm).trans (ai_.upd (mem_singleton.mpr rfl));have fr : ∀ a∈n::wl::pl::ss,a∉[todo]:=fun a ha m=>by
  rw [mem_singleton.mp m] at ha;have:=h.fr _ ha;rw [ht] at this;cases this
 have ns:s≠todo:=fun z=>by rw [z,h.todo] at hs;cases hs
 have nt : ∀ x∈[todo],NT H' x:=fun x hx=>by rw [mem_singleton.mp hx];exact .lst h.todo
 have nrow:row≠todo:=fun z=>by
  obtain ⟨_,_,_,q,_,_⟩:=h.row;rw [z,h.todo] at q;cases q
 have nr : ∀ a,H' a=none->a≠row:=fun a ha z=>by
  obtain ⟨_,_,_,q,_,_⟩:=h.row;rw [z,q] at ha;cases ha
 refine ⟨h.sx.trans (sx2.more (by simp)),h.row.keep sx2 nt (nin nrow) (nin nla),?_,?_,sx2 _ _ (fr n (by simp)) h.node,sx2 _ _ (fr wl (by simp)) h.words,sx2 _ _ (fr pl (by simp)) h.parts,?_,?_⟩
 ·rw [ad_,reverse_cons,map_append,<- append_assoc]
  rfl
 ·refine .cons ⟨dxs,by rw [am_ ns];exact e⟩ (h.steps.keep (Kp.of sx2 fun a ha=>fr a (by simp [ha])))
 ·have n1 : ∀ a∈n::wl::pl::ss,a≠s:=fun a ha z=>by
   have q : ∃ o,H' a=some o:=by
    simp at ha;rcases ha with rfl | rfl | rfl | ha
    ·exact ⟨_,h.node⟩
    ·exact ⟨_,h.words⟩
    ·exact ⟨_,h.parts⟩
    exact h.steps.here a ha
   obtain ⟨o,q⟩:=q;rw [z,hs] at q;cases q
  have nd:=h.nd;simp only [nodup_cons,mem_cons,not_or] at nd ⊢;have m1:=n1 n (by simp);have m2:=n1 wl (by simp);have m3:=n1 pl (by simp);exact ⟨⟨nd.1.1,nd.1.2.1,m1,nd.1.2.2⟩,⟨nd.2.1.1,m2,nd.2.1.2⟩,⟨m3,nd.2.2.1⟩,⟨fun z=>n1 s (by simp [z]) rfl,nd.2.2.2⟩⟩
 intro a ha;rw [mem_cons,mem_cons,mem_cons,mem_cons] at ha;rcases ha with q | q | q | q | q
 ·exact h.fr a (by simp [q])
 ·exact h.fr a (by simp [q])
 ·exact h.fr a (by simp [q])
 ·rw [q]
  exact eh_ h.sx (by simp [nr s hs,ns]) hs
 exact h.fr a (by simp [q])
def d8_ (Cn Cs:Addr) (H:Hp) (wh n:Addr) (fs:List PF) (ss own:List Addr):Prop:=match fs with
 | []=>n=wh/\ss=[]/\own=[]
 | g::r=>Stk Cn Cs H wh (g::r) [n] ss own
theorem d8_.keep {Cn Cs:Addr}{H H':Hp}{wh n:Addr}{fs:List PF}{ss own:List Addr} (h:d8_ Cn Cs H wh n fs ss own) (k:Kp (own++ss) H H'):d8_ Cn Cs H' wh n fs ss own:=by
 cases fs with
 | nil=>exact h
 | cons g r=>exact Stk.keep h k
theorem Stk.top {Cn Cs:Addr}{H:Hp}{wh:Addr}{pf:PF}{fs:List PF}{next ss own:List Addr} (h:Stk Cn Cs H wh (pf::fs) next ss own) : ∃ n ss1 ss2 own2 dx wl pl as F e,FrAt Cn Cs H n pf next ss1 dx wl pl as F e/\d8_ Cn Cs H wh n fs ss2 own2/\ss=ss1++ss2/\own=(n::wl::pl::F)++own2:=by
 cases h with
 | bot h=>exact ⟨_,_,[],[],_,_,_,_,_,_,h,⟨rfl,rfl,rfl⟩,by simp,by simp⟩
 | cons h t=>exact ⟨_,_,_,_,_,_,_,_,_,_,h,t,rfl,rfl⟩
theorem Stk.mk {Cn Cs:Addr}{H:Hp}{wh n:Addr}{pf:PF}{fs:List PF}{next ss1 ss2 own2:List Addr}{dx wl pl:Addr}{as F:List Addr}{e:Nat} (h:FrAt Cn Cs H n pf next ss1 dx wl pl as F e) (b:d8_ Cn Cs H wh n fs ss2 own2):Stk Cn Cs H wh (pf::fs) next (ss1++ss2) ((n::wl::pl::F)++own2):=by
 cases fs with
 | nil =>
  obtain ⟨rfl,rfl,rfl⟩:=b;rw [append_nil,append_nil];exact .bot h
 | cons g r=>exact .cons h b
structure AtM (Ca Ct Cr Cn Cs:Addr) (H0 H:Hp) (row la todo wh:Addr) (s:MS):Prop where
 same:Same H0 H
 rowAt:bo_ Ca Ct Cr H row la s.l
 goods:bn_ s.l
 lv:Lv s.fs
 frames:(s.fs≠[]/\∃ ss own,Stk Cn Cs H wh s.fs [] ss own/\H todo=some (.lst (ss.reverse.map V.ref))/\(row::todo::la::(own++ss)).Nodup/\∀ a∈row::todo::own,H0 a=none)\/(s.fs=[]/\H todo=some (.lst [])/\∃ tr F,s.res=[tr]/\TreeAt Cn H wh tr F)
structure Dj (row todo la n wl pl:Addr) (rest:List Addr):Prop where
 out : ∀ a∈rest,a∉[row,todo,n,wl,pl]
 rt:row≠todo
 rla:row≠la
 tla:todo≠la
 ra:row∉[n,wl,pl]
 ta:todo∉[n,wl,pl]
 laa:la∉[n,wl,pl]
 nw:n≠wl
 np:n≠pl
 wp:wl≠pl
 nd:rest.Nodup
theorem ml_ {row todo la n wl pl:Addr}{F own2 ss:List Addr} (h:(row::todo::la::(((n::wl::pl::F)++own2)++ss)).Nodup):Dj row todo la n wl pl (F++(own2++ss)):=by
 simp only [cons_append,append_assoc,nodup_cons,mem_cons,not_or] at h;obtain ⟨⟨a1,a2,a3,a4,a5,a6⟩,⟨b1,b2,b3,b4,b5⟩,⟨c1,c2,c3,c4⟩,⟨d1,d2,d3⟩,⟨e1,e2⟩,f1,g⟩:=h;refine ⟨fun a ha m=>?_,a1,a2,b1,by simp [a3,a4,a5],by simp [b2,b3,b4],by simp [c1,c2,c3],d1,d2,e1,g⟩;simp only [mem_cons,not_mem_nil,or_false] at m;rcases m with rfl | rfl | rfl | rfl | rfl
 ·exact a6 ha
 ·exact b5 ha
 ·exact d3 ha
 ·exact e2 ha
 exact f1 ha
theorem kr_ {X Y Z:List Addr} (hX:X.Nodup) (hY:Y.Nodup) (h : ∀ a∈Y,a∉X) (p:Z.Perm (Y++X)):Z.Nodup :=
 p.nodup_iff.mpr (List.nodup_append.mpr ⟨hY,hX,fun a ha b hb e=>h a ha (e ▸ hb)⟩)
open Vaunid (Token txt word sign)
section
variable {Ca Ct Cr Cn Cs:Addr}{H0 H H':Hp}{row la todo wh n dx wl pl st:Addr}{pf pf':PF}{fs:List PF}{l:Toks}{res:List Tr}{as F own2 ss1 ss2:List Addr}{e e':Nat}
theorem d8_.len {fs:List PF}{ss own:List Addr} (h:d8_ Cn Cs H wh n fs ss own) (k:LvB fs):ss.length<=6 * fs.length:=by
 cases fs with
 | nil =>
  obtain ⟨_,rfl,_⟩:=h;exact zero_le _
 | cons g r=>exact Stk.len h k
theorem iw_ {r:Toks} (hrow:bo_ Ca Ct Cr H row la r) {xs:List V} (hto:H todo=some (.lst xs)) {next:List Addr} (hf:FrAt Cn Cs H n pf next ss1 dx wl pl as F e) (hb:d8_ Cn Cs H wh n fs ss2 own2) : ∀ a∈row::todo::la::(((n::wl::pl::F)++own2)++(ss1++ss2)),∃ o,H a=some o:=fun a ha=>by
 obtain ⟨_,_,_,q1,q2,_⟩:=hrow;rw [mem_cons,mem_cons,mem_cons] at ha;rcases ha with rfl | rfl | rfl | ha
 ·exact ⟨_,q1⟩
 ·exact ⟨_,hto⟩
 ·exact ⟨_,q2⟩
 exact (Stk.mk hf hb).here a ha
theorem hV_ (sm0:Same H0 H) (hto:H todo=some (.lst ((ss1++ss2).reverse.map V.ref))) {r:Toks} (hrow0:bo_ Ca Ct Cr H row la r) {next:List Addr} (hf:FrAt Cn Cs H n pf next (st::ss1) dx wl pl as F e) (hb:d8_ Cn Cs H wh n fs ss2 own2)
  (hnd:(row::todo::la::(((n::wl::pl::F)++own2)++(st::ss1++ss2))).Nodup) (hfr : ∀ a∈row::todo::((n::wl::pl::F)++own2),H0 a=none)
  (sx:ai_ [row,n,wl,pl] H H') (hrow:bo_ Ca Ct Cr H' row la l) (gl:bn_ l) (lv:Lv (pf'::fs)) {as' G:List Addr} (node:H' n=some (.ins Cn dx (a9_ (S pf'.form) wl pl (pf'.b:Int) (e':Int)))) (words:H' wl=some (.lst ((pf'.ws.map S).map V.str)))
  (parts:H' pl=some (.lst (as'.map V.ref))) (trees:TreesAt Cn H' as' pf'.ts (F++G)) (hG:G.Nodup) (fG : ∀ a∈G,H a=none) (steps:de_ Cs H ss1 (pf'.ks.map SK.w++[pf'.c]) n pf'.d):AtM Ca Ct Cr Cn Cs H0 H' row la todo wh ⟨pf'::fs,l,res⟩:=by
 have dj:=ml_ hnd;have sx5:ai_ [row,todo,n,wl,pl] H H':=sx.more (by simp);have keep : ∀ a,a∈F++(own2++(st::ss1++ss2))->∀ o,H a=some o->H' a=some o:=fun a ha o q=>sx5 a o (dj.out a ha) q;have hh:=iw_ hrow0 hto hf hb;refine ⟨sx.base sm0 (fun a ha=>hfr a (by simp at ha ⊢;rcases ha with h | h | h | h <;> simp [h])),hrow,gl,lv,.inl ⟨by simp,ss1++ss2,(n::wl::pl::(F++G))++own2,Stk.mk (e:=e') (next:=[]) (as:=as') ⟨node,words,by rw [append_nil];exact parts,trees,steps.keep fun a ha=>keep a (by simp [ha])⟩ (hb.keep fun a ha=>keep a ?_),?_,?_,?_⟩⟩
 ·simp at ha ⊢
  rcases ha with h | h <;> simp [h]
 ·exact sx _ _ (by have:=dj.ta;have:=dj.rt;simp at *;exact ⟨Ne.symm dj.rt,this.1,this.2.1,this.2.2⟩) hto
 ·refine kr_ (X:=row::todo::la::(((n::wl::pl::F)++own2)++(ss1++ss2))) (Y:=G) ?_ hG (fun a ha m=>?_) ?_
  ·refine hnd.sublist ?_
   simp only [cons_append,append_assoc];refine List.Sublist.cons_cons _ (List.Sublist.cons_cons _ (List.Sublist.cons_cons _ (List.Sublist.cons_cons _ (List.Sublist.cons_cons _ (List.Sublist.cons_cons _ (List.Sublist.append_left (List.Sublist.append_left (sublist_cons_self ..) _) _))))))
  ·obtain ⟨o,q⟩:=hh a (by simp at m ⊢;rcases m with h | h | h | h | h | h | h | h | h | h <;> simp [h])
   rw [fG a ha] at q;cases q
  refine List.perm_iff_count.mpr fun a=>?_;simp only [cons_append,append_assoc,List.count_cons,List.count_append];omega
 intro a ha;rw [mem_cons,mem_cons,mem_append,mem_cons,mem_cons,mem_cons,mem_append] at ha;rcases ha with h | h | (h | h | h | h | h) | h
 ·exact hfr a (by simp [h])
 ·exact hfr a (by simp [h])
 ·exact hfr a (by simp [h])
 ·exact hfr a (by simp [h])
 ·exact hfr a (by simp [h])
 ·exact hfr a (by simp [h])
 ·exact none_of sm0 (fG a h)
 exact hfr a (by simp [h])
theorem mo_ (sm0:Same H0 H) (hto:H todo=some (.lst ((ss1++ss2).reverse.map V.ref))) {r:Toks} (hrow0:bo_ Ca Ct Cr H row la r) (hf:FrAt Cn Cs H n pf [] (st::ss1) dx wl pl as F e) (hb:d8_ Cn Cs H wh n fs ss2 own2)
  (hnd:(row::todo::la::(((n::wl::pl::F)++own2)++(st::ss1++ss2))).Nodup) (hfr : ∀ a∈row::todo::((n::wl::pl::F)++own2),H0 a=none) {pn:PF} (lv:Lv (pn::pf'::fs))
  {n' dx' wl' pl':Addr}{ss':List Addr} (sx:ai_ [row,todo,pl] H H') (hrow:bo_ Ca Ct Cr H' row la l) (gl:bn_ l) (hto':H' todo=some (.lst ((ss1++ss2).reverse.map V.ref++ss'.reverse.map V.ref))) (steps':de_ Cs H' ss' (pn.ks.map SK.w++[pn.c]) n' pn.d) (parts:H' pl=some (.lst (as.map V.ref++[.ref n'])))
  (node':H' n'=some (.ins Cn dx' (a9_ (S pn.form) wl' pl' (pn.b:Int) (e':Int)))) (words':H' wl'=some (.lst [])) (parts':H' pl'=some (.lst [])) (w0:pn.ws=[]) (t0:pn.ts=[]) (nd':(n'::wl'::pl'::ss').Nodup) (fr' : ∀ a∈n'::wl'::pl'::ss',H a=none)
  (f1:pf'.form=pf.form) (f2:pf'.ws=pf.ws) (f3:pf'.b=pf.b) (f4:pf'.ts=pf.ts) (steps:de_ Cs H ss1 (pf'.ks.map SK.w++[pf'.c]) n pf'.d):AtM Ca Ct Cr Cn Cs H0 H' row la todo wh ⟨pn::pf'::fs,l,res⟩:=by
 have dj:=ml_ hnd;have sx5:ai_ [row,todo,n,wl,pl] H H':=sx.more (by simp);have keep : ∀ a,a∈F++(own2++(st::ss1++ss2))->∀ o,H a=some o->H' a=some o:=fun a ha o q=>sx5 a o (dj.out a ha) q;have hh:=iw_ hrow0 hto hf hb;have nn:n∉[row,todo,pl]:=by
  have h1:=dj.ra;have h2:=dj.ta;simp at h1 h2 ⊢;exact ⟨Ne.symm h1.1,Ne.symm h2.1,dj.np⟩
 have nw:wl∉[row,todo,pl]:=by
  have h1:=dj.ra;have h2:=dj.ta;simp at h1 h2 ⊢;exact ⟨Ne.symm h1.2.1,Ne.symm h2.2.1,dj.wp⟩
 have par:FrAt Cn Cs H' n pf' [n'] ss1 dx wl pl as F e:=⟨by rw [f1,f3];exact sx _ _ nn hf.node,by rw [f2];exact sx _ _ nw hf.words,by rw [map_append];exact parts,by rw [f4];exact hf.trees.keep fun a ha=>keep a (by simp [ha]),steps.keep fun a ha=>keep a (by simp [ha])⟩;have top:FrAt Cn Cs H' n' pn [] ss' dx' wl' pl' [] [] e':=⟨node',by rw [w0];exact words',parts',by rw [t0];exact .nil,steps'⟩;have bel:d8_ Cn Cs H' wh n fs ss2 own2:=hb.keep fun a ha=>keep a (by simp at ha ⊢;rcases ha with h | h <;> simp [h])
 refine ⟨sx.base sm0 (fun a ha=>hfr a (by simp at ha ⊢;rcases ha with h | h | h <;> simp [h])),hrow,gl,lv,.inl ⟨by simp,ss'++(ss1++ss2),(n'::wl'::pl'::[])++((n::wl::pl::F)++own2),.cons top (Stk.mk par bel),?_,?_,?_⟩⟩
 ·rw [hto']
  simp only [reverse_append,map_append,append_assoc]
 ·refine kr_ (X:=row::todo::la::(((n::wl::pl::F)++own2)++(ss1++ss2))) (Y:=n'::wl'::pl'::ss') ?_ nd' (fun a ha m=>?_) ?_
  ·refine hnd.sublist ?_
   simp only [cons_append,append_assoc];refine List.Sublist.cons_cons _ (List.Sublist.cons_cons _ (List.Sublist.cons_cons _ (List.Sublist.cons_cons _ (List.Sublist.cons_cons _ (List.Sublist.cons_cons _ (List.Sublist.append_left (List.Sublist.append_left (sublist_cons_self ..) _) _))))))
  ·obtain ⟨o,q⟩:=hh a (by simp at m ⊢;rcases m with h | h | h | h | h | h | h | h | h | h <;> simp [h])
   rw [fr' a ha] at q;cases q
  refine List.perm_iff_count.mpr fun a=>?_;simp only [cons_append,nil_append,append_assoc,List.count_cons,List.count_append];omega
 intro a ha;rw [mem_cons,mem_cons,mem_append,mem_cons,mem_cons,mem_cons] at ha;rcases ha with h | h | (h | h | h | h) | h
 ·exact hfr a (by simp [h])
 ·exact hfr a (by simp [h])
 ·exact none_of sm0 (fr' a (by simp [h]))
 ·exact none_of sm0 (fr' a (by simp [h]))
 ·exact none_of sm0 (fr' a (by simp [h]))
 ·simp at h
 exact hfr a (by simp only [mem_cons,mem_append] at h ⊢;exact .inr (.inr h))
theorem lf_ (sm0:Same H0 H) (hto:H todo=some (.lst (ss2.reverse.map V.ref))) {r:Toks} (hrow0:bo_ Ca Ct Cr H row la r) (hf:FrAt Cn Cs H n pf [] [st] dx wl pl as F e) (hb:d8_ Cn Cs H wh n fs ss2 own2)
  (hnd:(row::todo::la::(((n::wl::pl::F)++own2)++([st]++ss2))).Nodup) (hfr : ∀ a∈row::todo::((n::wl::pl::F)++own2),H0 a=none)
  (sx:ai_ [row,n] H H') (hrow:bo_ Ca Ct Cr H' row la l) (gl:bn_ l) (node:H' n=some (.ins Cn dx (a9_ (S pf.form) wl pl (pf.b:Int) (e':Int)))) :
  match fs with
  | []=>AtM Ca Ct Cr Cn Cs H0 H' row la todo wh ⟨[],l,[pf.done e']⟩
  | g::fs=>Lv ({ g with ts:=g.ts++[pf.done e'] }::fs)->AtM Ca Ct Cr Cn Cs H0 H' row la todo wh ⟨{ g with ts:=g.ts++[pf.done e'] }::fs,l,res⟩:=by
 have dj:=ml_ hnd;have sx5:ai_ [row,todo,n,wl,pl] H H':=sx.more (by simp);have keep : ∀ a,a∈F++(own2++([st]++ss2))->∀ o,H a=some o->H' a=some o:=fun a ha o q=>sx5 a o (dj.out a ha) q;have base:Same H0 H':=sx.base sm0 (fun a ha=>hfr a (by simp at ha ⊢;rcases ha with h | h <;> simp [h]))
 have ra:=dj.ra;have ta:=dj.ta;simp at ra ta;have nw:wl∉[row,n]:=by simp;exact ⟨Ne.symm ra.2.1,Ne.symm dj.nw⟩
 have np:pl∉[row,n]:=by simp;exact ⟨Ne.symm ra.2.2,Ne.symm dj.np⟩
 have tt:todo∉[row,n]:=by simp;exact ⟨Ne.symm dj.rt,ta.1⟩
 have tree:TreeAt Cn H' n (pf.done e') (n::wl::pl::F):=by
  refine .mk (as:=as) node (sx _ _ nw hf.words) ?_ (hf.trees.keep fun a ha=>keep a (by simp [ha]));rw [sx _ _ np hf.parts,append_nil]
 cases fs with
 | nil =>
  obtain ⟨rfl,rfl,rfl⟩:=hb;exact ⟨base,hrow,gl,trivial,.inr ⟨rfl,sx _ _ tt hto,_,_,rfl,tree⟩⟩
 | cons g fs =>
 intro lv;have hb':Stk Cn Cs H' wh (g::fs) [n] ss2 own2:=Stk.keep hb fun a ha=>keep a (by simp at ha ⊢;rcases ha with h | h <;> simp [h])
 refine x_90 hb'.top fun n2 s1 s2 own3 dx2 wl2 pl2 as2 F2 zz0=>?_;refine x_13 zz0 fun e2 hf2 hb2 zr12 zr13=>?_;subst zr12;subst zr13;have par:FrAt Cn Cs H' n2 { g with ts:=g.ts++[pf.done e'] } [] s1 dx2 wl2 pl2 (as2++[n]) (F2++(n::wl::pl::F)) e2:=⟨hf2.node,hf2.words,by rw [append_nil];exact hf2.parts,hf2.trees.snoc tree,hf2.steps⟩;refine ⟨base,hrow,gl,lv,.inl ⟨by simp,s1++s2,(n2::wl2::pl2::(F2++(n::wl::pl::F)))++own3,Stk.mk par hb2,sx _ _ tt hto,?_,?_⟩⟩
 ·refine kr_ (X:=row::todo::la::(((n::wl::pl::F)++((n2::wl2::pl2::F2)++own3))++(s1++s2))) (Y:=[]) ?_ .nil (fun a ha=>by simp at ha) ?_
  ·refine hnd.sublist ?_
   simp only [cons_append,append_assoc,nil_append];refine List.Sublist.cons_cons _ (List.Sublist.cons_cons _ (List.Sublist.cons_cons _ (List.Sublist.cons_cons _ (List.Sublist.cons_cons _ (List.Sublist.cons_cons _ (List.Sublist.append_left (List.Sublist.cons_cons _ (List.Sublist.cons_cons _ (List.Sublist.cons_cons _ (List.Sublist.append_left (List.Sublist.append_left (sublist_cons_self ..) _) _)))) _))))))
  refine List.perm_iff_count.mpr fun a=>?_;simp only [cons_append,nil_append,append_assoc,List.count_cons,List.count_append];omega
 intro a ha;refine hfr a ?_;simp only [mem_cons,mem_append] at ha ⊢;rcases ha with h | h | (h | h | h | h | h | h | h | h) | h <;> simp [h]
end
open Vaunid (Token txt word sign)
mutual
noncomputable def bh_ (d:Nat):Tr->List (Nat×Tr)
 | .mk f ws b e ps=>(d,.mk f ws b e ps)::cP_ (d+1) ps
noncomputable def cP_ (d:Nat):List Tr->List (Nat×Tr)
 | []=>[]
 | t::r=>bh_ d t++cP_ d r
end
mutual
theorem dc_ (d:Nat) : ∀ t:Tr,(bh_ d t).map (fun p=>p.2.b)=cB_ t
 | .mk f ws b e ps=>by
  show b::(cP_ (d+1) ps).map (fun p=>p.2.b)=b::cA_ ps;rw [d2_ (d+1) ps]
theorem d2_ (d:Nat) : ∀ ts:List Tr,(cP_ d ts).map (fun p=>p.2.b)=cA_ ts
 | []=>rfl
 | t::r=>by
  show (bh_ d t++cP_ d r).map (fun p=>p.2.b)=cB_ t++cA_ r;rw [map_append,dc_ d t,d2_ d r]
end
mutual
theorem g8_ (d:Nat) : ∀ (t:Tr) (p:Nat×Tr),p∈bh_ d t->p.1+1<=d+hL_ t
 | .mk f ws b e ps,p,h=>by
  have h:p∈(d,Tr.mk f ws b e ps)::cP_ (d+1) ps:=h;show p.1+1<=d+(1+hM_ ps);rcases mem_cons.mp h with q | q
  ·rw [q]
   show d+1<=_;omega
  have:=fy_ (d+1) ps p q;omega
theorem fy_ (d:Nat) : ∀ (ts:List Tr) (p:Nat×Tr),p∈cP_ d ts->p.1+1<=d+hM_ ts
 | [],p,h=>by
  have h:p∈([]:List (Nat×Tr)):=h;simp at h
 | t::r,p,h=>by
  have h:p∈bh_ d t++cP_ d r:=h;show p.1+1<=d+max (hL_ t) (hM_ r);rcases mem_append.mp h with q | q
  ·have:=g8_ d t p q
   omega
  have:=fy_ d r p q;omega
end
theorem mg_ (d:Nat) (t:Tr):1<=(bh_ d t).length:=by
 cases t with
 | mk f ws b e ps =>
 show 1<=(_::_:List (Nat×Tr)).length;rw [length_cons];omega
noncomputable def limT:Nat->List (Nat×Tr)->Option (Nat×Nat)
 | _,[]=>none
 | i,p::r=>if 40<p.1 then some (8,p.2.b) else if i=300 then some (9,p.2.b) else limT (i+1) r
theorem kw_ : ∀ (l:List (Nat×Tr)) (i:Nat),i<=300->(∀ p∈l,p.1<=40)->limT i l=if 300<i+l.length then some (9,(l.map (fun p=>p.2.b)).getD (300 - i) 0) else none
 | [],i,hi,h=>by
  rw [if_neg (by simp;omega)];rfl
 | p::r,i,hi,h=>by
  unfold limT;have hp:=h p (mem_cons_self ..);rw [if_neg (by omega)];by_cases e:i=300
  ·subst e
   rw [if_pos rfl,if_pos (by rw [length_cons];omega)];rfl
  rw [if_neg e,kw_ r (i+1) (by omega) fun q hq=>h q (mem_cons_of_mem _ hq),length_cons];by_cases h3:300<i+1+r.length
  ·rw [if_pos h3,if_pos (by omega),map_cons,show 300 - i=300 - (i+1)+1 by omega]
   rfl
  rw [if_neg h3,if_neg (by omega)]
def b4_ (Cn:Addr) (H H':Hp) (it:Addr) (p:Nat×Tr):Prop:=∃ a F,H' it=some (.tup [.ref a,.int (p.1:Int)])/\TreeAt Cn H a p.2 F
noncomputable def dv_ (sl:List (Nat×Tr)):List (Nat×Tr):=sl.reverse.flatMap fun p=>bh_ p.1 p.2
theorem cM_ (sl:List (Nat×Tr)) (p:Nat×Tr):dv_ (sl++[p])=bh_ p.1 p.2++dv_ sl:=by
 unfold dv_;rw [reverse_append];rfl
theorem g6_ (d:Nat) : ∀ ps:List Tr,cP_ d ps=ps.flatMap fun t=>bh_ d t
 | []=>rfl
 | t::r=>by
  show bh_ d t++cP_ d r=_;rw [g6_ d r];rfl
theorem c6_ (sl:List (Nat×Tr)) (d:Nat) (ps:List Tr):dv_ (sl++(ps.reverse.map fun t=>(d,t)))=cP_ d ps++dv_ sl:=by
 unfold dv_;rw [reverse_append,List.flatMap_append,<- map_reverse,reverse_reverse,List.flatMap_map,g6_]
theorem kR_ : ∀ sl:List (Nat×Tr),sl.length<=(dv_ sl).length:=by
 intro sl;unfold dv_;rw [<- length_reverse];generalize sl.reverse=m
 induction m with
 | nil=>exact zero_le _
 | cons p r ih =>
 rw [List.flatMap_cons,length_append,length_cons];have:=mg_ p.1 p.2;omega
theorem TreesAt.get {Cn:Addr}{H:Hp}{as:List Addr}{ts:List Tr}{F:List Addr} (h:TreesAt Cn H as ts F) {i:Nat}{a:Addr} (e:as[i]? = some a) : ∃ t G,ts[i]? = some t/\TreeAt Cn H a t G :=
 TreesAt.rec (motive_1:=fun _ _ _ _=>True) (motive_2:=fun as ts _ _=>∀ (i:Nat) (a:Addr),as[i]? = some a->∃ t G,ts[i]? = some t/\TreeAt Cn H a t G) (fun _ _ _ _ _=>trivial) (fun i a h=>by simp at h) (fun h1 _ _ ih i a h=>by
  cases i with
  | zero=>cases h;exact ⟨_,_,rfl,h1⟩
  | succ i=>exact ih i a h) h i a e
theorem c0_ {A B:Type}{R:A->B->Prop}{l:List A}{m:List B} (h:Paired R l m) (hn:l≠[]) : ∃ l' a m' b,l=l'++[a]/\m=m'++[b]/\Paired R l' m'/\R a b:=by
 induction h with
 | nil=>exact absurd rfl hn
 | @cons a b l m r t ih =>
 cases t with
 | nil=>exact ⟨[],a,[],b,rfl,rfl,.nil,r⟩
 | cons r2 t2 =>
 obtain ⟨l',a',m',b',e1,e2,p,q⟩:=ih (by simp);exact ⟨a::l',a',b::m',b',by rw [e1];rfl,by rw [e2];rfl,.cons r p,q⟩
end M
namespace L2
open PySem PySem.Spec PyProof.Rows TL
def pG_ (K:Frag) (b:Addr) (ys:List Str):Prop:=∃ (its:Array Value) (n:Nat) (sl:Array (Option Value)),K.lookup b=some ⟨.type "tuple",none,.seq its n,sl⟩/\Vals (ys.map V.str) its.toList
section
variable {X:Cx}{o e:Expr}{apos cpos apos2 cpos2 tp kp:Pos}{td ty:TE}{x1:Nat}{key:Str}{kk:Nat}
end
end L2
namespace M
open PySem PySem.Spec PyProof.Rows L2 TL
def ms_ (w:World) (K:Frag) (a:Addr):Prop:=∃ ad:Fm->Addr,MDict w K a (br_ ad)/\(∀ f H,SqT K H (ad f) ((f.kt.map fun s=>ofString s).map V.str))/\∀ f,pG_ K (ad f) (f.kt.map fun s=>ofString s)
theorem g7_ (d:Nat) (t:Term):depths d t=d::(ao_ t).flatMap (depths (d+1)):=by
 cases t <;> simp [depths,ao_]
theorem iP_ {x:Term}{tr:Tr} (h:Rep x tr) : ∀ d,(bh_ d tr).map (·.1)=depths d x :=
 Rep.rec (motive_1:=fun x tr _=>∀ d,(bh_ d tr).map (·.1)=depths d x) (motive_2:=fun xs ts _=>∀ d,(cP_ d ts).map (·.1)=xs.flatMap (depths d)) (fun _ ih d=>by
  rw [g7_];show d::(cP_ (d+1) _).map (·.1)=_;rw [ih (d+1)]) (fun _=>rfl) (fun _ _ i1 i2 d=>by
  show (bh_ d _++cP_ d _).map (·.1)=_;rw [map_append,i1 d,i2 d];rfl) h
end M
namespace L2
open PySem PySem.Spec PyProof.Rows TL
def mw_ (K:Frag) (te:TE):TE:=fun σ H Q=>te σ H fun x H1=>∃ t b,TyOf K H1 x t/\kitOne K t (.type "str")=some b/\Q (.bl b) H1
theorem d6_:bootBuiltins "isinstance"=some (.builtin "isinstance"):=by left
section
variable {X:Cx}{e:Expr}{te:TE}{p1 p2 pos:Pos}
theorem lN_ (he:PE X e te) (hg:Gl X "isinstance") (hm:X.mg "isinstance"=none) (hg2:Gl X "str") (hm2:X.mg "str"=none)
  (hs:starEach [e,.Name "str" p2] X.env=[(false,eval e X.env),(false,eval (.Name "str" p2) X.env)]:=by rfl) (hpl:(backTo pos (starEach [.Name "str" p2] X.env)).any (·.1)=false:=by rfl)
  (hs2:starEach [.Name "str" p2] X.env=[(false,eval (.Name "str" p2) X.env)]:=by rfl) (hs1:starEach [e,.Name "str" p2] X.env=(false,eval e X.env)::starEach [.Name "str" p2] X.env:=by rfl):PE X (.Call (.Name "isinstance" p1) [e,.Name "str" p2] [] pos) (mw_ X.K te):=by
 intro pins s σ H Q I h;refine wpAny_Call_Name_kw (dX_ I hg hm d6_ ?_ (by decide) (by decide));refine PyProof.Rows.callWith_builtin1 ?_ hs1 hpl;rw [hs];show wpAny _ _ (spliced ((false,eval e X.env)::[(false,eval (.Name "str" p2) X.env)])) _ _ s;refine Calls.spliced_cons (thn (he pins s σ H _ I h) fun u s1 ⟨x,H1,I1,r1,t,b,ty,ke,q1⟩=>Calls.spliced_cons ?_);refine dX_ I1 hg2 hm2 cy_ (Calls.spliced_nil ?_) (by decide) (by decide);exact kC_ I1 r1 ty ke fun tk=>⟨.bl b,H1,I1.tok tk,rfl,q1⟩
end
end L2
namespace M
open PySem PySem.Spec PyProof.Rows L2 TL
open Vaunid (Token txt word sign)
structure NotStr (K:Frag) (C:Addr):Prop where
 ha:PySem.W.findIn K (.ref C) "__class__"=some (some (.builtin "object.__class__"))
 hn:PySem.W.specialIn K (.builtin "object.__class__") "__get__"=some (some (.builtin "getset_descriptor.__get__"))
 htk:PySem.W.takesIn K (.builtin "object.__class__")=some true
 hm:mroIn K C (.type "object")=some true
 ks:kitOne K (.ref C) (.type "str")=some false
abbrev Pc (A:Type):=Sum (List Nat) A
inductive Fits {A:Type}:List SK->List (List Nat)->List A->Prop
 | nil {ws:List (List Nat)}{ts:List A}:Fits [] ws ts
 | part {b:Bool}{ks:List SK}{ws:List (List Nat)}{t:A}{ts:List A}:Fits ks ws ts->Fits (.p b::ks) ws (t::ts)
 | name {ks:List SK}{w:List Nat}{ws:List (List Nat)}{ts:List A}:Fits ks ws ts->Fits (.n::ks) (w::ws) ts
 | pow {ks:List SK}{w:List Nat}{ws:List (List Nat)}{ts:List A}:Fits ks ws ts->Fits (.pw::ks) (w::ws) ts
noncomputable def ax_ {A:Type}:List SK->List (List Nat)->List A->List (SK×Pc A)
 | .p b::ks,ws,t::ts=>(.p b,.inr t)::ax_ ks ws ts
 | .n::ks,w::ws,ts=>(.n,.inl w)::ax_ ks ws ts
 | .pw::ks,w::ws,ts=>(.pw,.inl w)::ax_ ks ws ts
 | _,_,_=>[]
noncomputable def fmX:Term->Option Fm
 | .leaf _=>none
 | .one o _=>some (cr_ o)
 | .two o _ _=>some (cm_ o)
 | .three o _ _ _=>some (match o with | .cond => .if_ | .fold => .fold)
 | .fn _ _=>some .fn
 | .rec_ _ _ _=>some .rec_
 | .let_ _ _ _=>some .let_
 | .case _ _ _ _ _=>some .case
noncomputable def skX (x:Term):List SK:=match fmX x with
 | none=>[]
 | some f=>f.sk
noncomputable def au_ (x:Term):List (SK×Pc Term):=match fmX x with
 | none=>[]
 | some f=>ax_ f.sk (aj_ x) (ao_ x)
theorem du_ {x:Term}{f:Fm} (h:fmX x=some f):bs_ x=txt f.word:=by
 cases x with
 | leaf l=>cases h
 | one o a=>cases h;rfl
 | two o a b=>cases h;rfl
 | three o a b c=>cases o <;> (cases h;rfl)
 | fn=>cases h;rfl
 | rec_=>cases h;rfl
 | let_=>cases h;rfl
 | case=>cases h;rfl
theorem pc_ {x:Term}{f:Fm} (h:fmX x=some f):Fits f.sk (aj_ x) (ao_ x):=by
 cases x with
 | leaf l=>cases h
 | one o a =>
  cases h;cases o with
  | pow n=>exact .part (.pow .nil)
  | _=>exact .part .nil
 | two o a b =>
  cases h;cases o <;> exact .part (.part .nil)
 | three o a b c=>cases o <;> (cases h;exact .part (.part (.part .nil)))
 | fn=>cases h;exact .name (.part .nil)
 | rec_=>cases h;exact .name (.name (.part .nil))
 | let_=>cases h;exact .name (.part (.part .nil))
 | case=>cases h;exact .part (.part (.name (.name (.part .nil))))
theorem n3_ (x:Term):Fits (skX x) (aj_ x) (ao_ x):=by
 unfold skX;cases h:fmX x with
 | none=>exact .nil
 | some f=>exact pc_ h
theorem f6_ (x:Term):au_ x=ax_ (skX x) (aj_ x) (ao_ x):=by
 unfold skX au_;cases h:fmX x with
 | none=>simp [ax_]
 | some f=>rfl
theorem hC_ (l:Leaf):dY_ (txt (bK_ l))=false:=by
 cases l with
 | truth b=>cases b <;> left
 | nil=>left
 | name x =>
  show dY_ (txt "name")=false
  left
 | num v =>
 show dY_ (txt "number")=false
 left
noncomputable def bu_ {A:Type} (acc:List (Pc A)) (c:Pc A):List (Pc A):=(if 1<acc.length then acc++[.inl [32]] else acc)++[c]
noncomputable def pcs0 {A:Type} (f:Fm):List (Pc A):=if f = .app then [.inl [40]] else [.inl [40],.inl (txt f.word)]
noncomputable def pcsX (x:Term):List (Pc Term):=match fmX x with
 | none=>[.inl (match x with | .leaf l=>shownLeaf l | _=>[])]
 | some f=>((au_ x).map (·.2)).foldl bu_ (pcs0 f)++[.inl [41]]
noncomputable def pcT {A:Type} (tx:A->List Nat):Pc A->List Nat
 | .inl w=>w
 | .inr a=>tx a
noncomputable def pcsT {A:Type} (tx:A->List Nat) (l:List (Pc A)):List Nat:=l.flatMap (pcT tx)
theorem kk_ (x:Term):coreText x=pcsT coreText (pcsX x):=by
 cases x with
 | leaf l =>
  show shownLeaf l=shownLeaf l++[];rw [append_nil]
 | one o a=>cases o <;> simp [pcsX,au_,ax_,fmX,cr_,Fm.sk,aj_,ao_,bu_,pcs0,pcsT,pcT,coreText,bracketed,Fm.word,txt]
 | two o a b=>cases o <;> simp [pcsX,au_,ax_,fmX,cm_,Fm.sk,aj_,ao_,bu_,pcs0,pcsT,pcT,coreText,bracketed,Fm.word,txt,Vaunid.Two.word]
 | three o a b c=>cases o <;> simp [pcsX,au_,ax_,fmX,Fm.sk,aj_,ao_,bu_,pcs0,pcsT,pcT,coreText,bracketed,Fm.word,txt]
 | fn=>simp [pcsX,au_,ax_,fmX,Fm.sk,aj_,ao_,bu_,pcs0,pcsT,pcT,coreText,bracketed,Fm.word,txt]
 | rec_=>simp [pcsX,au_,ax_,fmX,Fm.sk,aj_,ao_,bu_,pcs0,pcsT,pcT,coreText,bracketed,Fm.word,txt]
 | let_=>simp [pcsX,au_,ax_,fmX,Fm.sk,aj_,ao_,bu_,pcs0,pcsT,pcT,coreText,bracketed,Fm.word,txt]
 | case=>simp [pcsX,au_,ax_,fmX,Fm.sk,aj_,ao_,bu_,pcs0,pcsT,pcT,coreText,bracketed,Fm.word,txt]
noncomputable def szX:Term->Nat
 | .leaf _=>1
 | .one _ a=>1+szX a
 | .two _ a b=>1+szX a+szX b
 | .three _ a b c=>1+szX a+szX b+szX c
 | .fn _ a=>1+szX a
 | .rec_ _ _ a=>1+szX a
 | .let_ _ a b=>1+szX a+szX b
 | .case l a _ _ b=>1+szX l+szX a+szX b
theorem aW_ : ∀ (x:Term) (d:Nat),(depths d x).length=szX x
 | .leaf _,d=>rfl
 | .one _ a,d=>by simp [depths,szX,aW_ a];omega
 | .two _ a b,d=>by simp [depths,szX,aW_ a,aW_ b];omega
 | .three _ a b c,d=>by simp [depths,szX,aW_ a,aW_ b,aW_ c];omega
 | .fn _ a,d=>by simp [depths,szX,aW_ a];omega
 | .rec_ _ _ a,d=>by simp [depths,szX,aW_ a];omega
 | .let_ _ a b,d=>by simp [depths,szX,aW_ a,aW_ b];omega
 | .case l a _ _ b,d=>by simp [depths,szX,aW_ a,aW_ b,aW_ l];omega
theorem oH_ {x:Term}{tr:Tr} (h:Rep x tr) (d:Nat):(bh_ d tr).length=szX x:=by
 rw [<- aW_ x d,<- iP_ h d,length_map]
def pcC {A:Type} (c:A->Nat):Pc A->Nat
 | .inl _=>1
 | .inr a=>c a
def pcsC {A:Type} (c:A->Nat) (l:List (Pc A)):Nat:=(l.map (pcC c)).sum
theorem pm_ (x:Term):1+pcsC (fun y=>14 * szX y) (pcsX x)<=14 * szX x:=by
 cases x with
 | leaf l=>show 1+(1+0)<=14 * 1;omega
 | one o a=>cases o <;> (simp [pcsX,au_,ax_,fmX,cr_,Fm.sk,aj_,ao_,bu_,pcs0,pcsC,pcC,szX];omega)
 | two o a b=>cases o <;> (simp [pcsX,au_,ax_,fmX,cm_,Fm.sk,aj_,ao_,bu_,pcs0,pcsC,pcC,szX];omega)
 | three o a b c=>cases o <;> (simp [pcsX,au_,ax_,fmX,Fm.sk,aj_,ao_,bu_,pcs0,pcsC,pcC,szX];omega)
 | fn=>simp [pcsX,au_,ax_,fmX,Fm.sk,aj_,ao_,bu_,pcs0,pcsC,pcC,szX];omega
 | rec_=>simp [pcsX,au_,ax_,fmX,Fm.sk,aj_,ao_,bu_,pcs0,pcsC,pcC,szX];omega
 | let_=>simp [pcsX,au_,ax_,fmX,Fm.sk,aj_,ao_,bu_,pcs0,pcsC,pcC,szX];omega
 | case=>simp [pcsX,au_,ax_,fmX,Fm.sk,aj_,ao_,bu_,pcs0,pcsC,pcC,szX];omega
mutual
noncomputable def allW:Tr->List (List Nat)
 | .mk _ ws _ _ ps=>ws++cQ_ ps
noncomputable def cQ_:List Tr->List (List Nat)
 | []=>[]
 | t::r=>allW t++cQ_ r
end
noncomputable def allX:Term->List (List Nat)
 | .leaf l=>ba_ l
 | .one (.pow n) a=>decimalInt n::allX a
 | .one _ a=>allX a
 | .two _ a b=>allX a++allX b
 | .three _ a b c=>allX a++(allX b++allX c)
 | .fn x a=>x::allX a
 | .rec_ f x a=>f::x::allX a
 | .let_ x a b=>x::(allX a++allX b)
 | .case l a h t b=>h::t::(allX l++(allX a++allX b))
theorem js_ (x:Term):allX x=aj_ x++(ao_ x).flatMap allX:=by
 cases x with
 | one o a=>cases o <;> simp [allX,aj_,ao_]
 | _=>simp [allX,aj_,ao_]
theorem j5_ {x:Term}{tr:Tr} (h:Rep x tr):allX x=allW tr :=
 Rep.rec (motive_1:=fun x tr _=>allX x=allW tr) (motive_2:=fun xs ts _=>xs.flatMap allX=cQ_ ts) (fun _ ih=>by
  rw [js_,ih];rfl) rfl (fun _ _ i1 i2=>by
  rw [List.flatMap_cons,i1,i2];rfl) h
def WB (l:List (List Nat)):Prop:=∀ w∈l,w.length<=10100
theorem WB.app {l m:List (List Nat)}:WB (l++m)↔WB l/\WB m:=⟨fun h=>⟨fun w q=>h w (mem_append_left _ q),fun w q=>h w (mem_append_right _ q)⟩,fun h w q=>(mem_append.mp q).elim (h.1 w) (h.2 w)⟩
theorem WB.cons {w:List Nat}{m:List (List Nat)}:WB (w::m)↔w.length<=10100/\WB m:=⟨fun h=>⟨h w (mem_cons_self ..),fun u q=>h u (mem_cons_of_mem _ q)⟩,fun h u q=>(mem_cons.mp q).elim (fun e=>e ▸ h.1) (h.2 u)⟩
theorem aT_ : ∀ x:Term,WB (allX x)->(coreText x).length<=20400 * szX x
 | .leaf l,h=>by
  show (shownLeaf l).length<=20400 * 1;cases l with
  | name x=>have:=h x (by simp [allX,ba_]);show x.length<=_;omega
  | num v=>have:=h (shownLit v) (by simp [allX,ba_]);show (shownLit v).length<=_;omega
  | truth b=>cases b <;> decide
  | nil=>decide
 | .one .fst a,h=>by
  have:=aT_ a h;simp [coreText,bracketed,txt,szX];omega
 | .one .snd a,h=>by
  have:=aT_ a h;simp [coreText,bracketed,txt,szX];omega
 | .one .root a,h=>by
  have:=aT_ a h;simp [coreText,bracketed,txt,szX];omega
 | .one (.pow n) a,h=>by
  obtain ⟨h1,h2⟩:=WB.cons.mp h;have:=aT_ a h2;simp [coreText,bracketed,txt,szX];omega
 | .two o a b,h=>by
  obtain ⟨h1,h2⟩:=WB.app.mp h;have:=aT_ a h1;have:=aT_ b h2;have:o.word.length<=6:=by cases o <;> decide
  simp [coreText,bracketed,txt,szX];omega
 | .three o a b c,h=>by
  obtain ⟨h1,h2⟩:=WB.app.mp h;obtain ⟨h2,h3⟩:=WB.app.mp h2;have:=aT_ a h1;have:=aT_ b h2;have:=aT_ c h3;cases o <;> (simp [coreText,bracketed,txt,szX];omega)
 | .fn x a,h=>by
  obtain ⟨h1,h2⟩:=WB.cons.mp h;have:=aT_ a h2;simp [coreText,bracketed,txt,szX];omega
 | .rec_ f x a,h=>by
  obtain ⟨h1,h2⟩:=WB.cons.mp h;obtain ⟨h2,h3⟩:=WB.cons.mp h2;have:=aT_ a h3;simp [coreText,bracketed,txt,szX];omega
 | .let_ x a b,h=>by
  obtain ⟨h1,h2⟩:=WB.cons.mp h;obtain ⟨h2,h3⟩:=WB.app.mp h2;have:=aT_ a h2;have:=aT_ b h3;simp [coreText,bracketed,txt,szX];omega
 | .case l a y t b,h=>by
  obtain ⟨h1,h2⟩:=WB.cons.mp h;obtain ⟨h2,h3⟩:=WB.cons.mp h2;obtain ⟨h3,h4⟩:=WB.app.mp h3;obtain ⟨h4,h5⟩:=WB.app.mp h4;have:=aT_ l h3;have:=aT_ a h4;have:=aT_ b h5;simp [coreText,bracketed,txt,szX];omega
theorem iy_ {k:Vaunid.Tok} (g:aV_ k):(hJ_ k).length<=10100:=by
 cases k with
 | word w=>exact zero_le _
 | sign s=>exact zero_le _
 | num v d =>
 obtain ⟨h1,h2,h3,_⟩:=g;show (shownLit v).length<=_;have q1:=cV_ h2;have q2:=bO_ h3;rw [gD_ v ⟨h1,h2,h3⟩];have q3:(v.measure.getD []).length<=10000:=by
  cases e:v.measure with
  | none=>exact zero_le _
  | some m=>exact (h1 m e).2
 simp only [length_append];have q4:(if v.low=1 then [] else 47::decimal v.low).length<=13:=by
  split
  ·exact zero_le _
  rw [length_cons];omega
 have q5:(if v.measure.getD []=[] then [] else 91::(v.measure.getD []++[93])).length<=10002:=by
  split
  ·exact zero_le _
  simp only [length_cons,length_append,length_nil];omega
 omega
theorem dZ_ {k:Vaunid.Tok} (g:aV_ k):(eo_ k).length<=10100:=by
 cases k with
 | word w=>exact Nat.le_trans g.2 (by decide)
 | sign s=>exact zero_le _
 | num v d=>exact zero_le _
theorem i9_ {k:Vaunid.Tok}{x:Leaf} (g:aV_ k) (h:Vaunid.leafOf k=some x):WB (ba_ x):=by
 cases k with
 | word w =>
  have hw:=dZ_ g;simp only [Vaunid.leafOf] at h
  repeat' split at h
  all_goals cases h
  all_goals intro u hu
  all_goals simp [ba_] at hu
  subst hu;exact hw
 | sign s=>cases h
 | num v d =>
 cases h;intro u hu;simp [ba_] at hu;subst hu;exact iy_ g
theorem e3_ : ∀ (l m:List Tr),cQ_ (l++m)=cQ_ l++cQ_ m
 | [],m=>rfl
 | t::l,m=>by
  show allW t++cQ_ (l++m)=(allW t++cQ_ l)++cQ_ m;rw [e3_ l m,append_assoc]
structure MB (s:MS):Prop where
 fs : ∀ pf∈s.fs,WB pf.ws/\WB (cQ_ pf.ts)
 l:bn_ s.l
 res:WB (cQ_ s.res)
theorem hU_ {l:Toks} (h:bn_ l):bn_ (ap_ l).2:=by
 obtain ⟨pre,e⟩:=eZ_ l;rw [e] at h;exact h.suf
theorem MB.step {s s':MS} (h:MB s) (e:b8_ s=some (.ok s')):MB s':=by
 obtain ⟨fs,l,res⟩:=s;obtain ⟨h1,h2,h3⟩:=h;cases fs with
 | nil=>cases e
 | cons pf fs =>
 cases l with
 | nil=>cases e
 | cons t l =>
 have g:=h2 t (mem_cons_self ..);have hl:bn_ l:=fun k hk=>h2 k (mem_cons_of_mem _ hk);have hpf:=h1 pf (mem_cons_self ..);have hfs : ∀ q∈fs,WB q.ws/\WB (cQ_ q.ts):=fun q hq=>h1 q (mem_cons_of_mem _ hq);have done : ∀ e,WB (allW (pf.done e)):=fun e=>WB.app.mpr hpf;have more : ∀ (q:PF),(WB q.ws/\WB (cQ_ q.ts))->∀ q0∈q::fs,WB q0.ws/\WB (cQ_ q0.ts):=fun q hq q0 h0=>(mem_cons.mp h0).elim (fun e=>e ▸ hq) (hfs q0);simp only [b8_] at e;split at e
 ·split at e
  ·cases fs with
   | nil =>
    cases e;refine ⟨by simp,hl,?_⟩;show WB (allW _++[]);rw [append_nil];exact done _
   | cons q fs =>
    cases e;refine ⟨fun q0 h0=>?_,hl,h3⟩;rcases mem_cons.mp h0 with e | h0
    ·subst e
     have hq:=hfs q (mem_cons_self ..);refine ⟨hq.1,?_⟩;show WB (cQ_ (q.ts++[_]));rw [e3_];refine WB.app.mpr ⟨hq.2,?_⟩;show WB (allW _++[]);rw [append_nil];exact done _
    exact hfs q0 (mem_cons_of_mem _ h0)
  cases e
 ·split at e
  ·cases e
  split at e
  ·split at e
   ·cases e
   cases e;refine ⟨fun q0 h0=>?_,hU_ hl,h3⟩;rcases mem_cons.mp h0 with e | h0
   ·subst e
    exact ⟨show WB [] from fun _ q=>(by cases q),show WB [] from fun _ q=>(by cases q)⟩
   exact more _ (by exact hpf) q0 h0
  split at e
  ·rename_i x hx
   cases e;refine ⟨more _ ⟨hpf.1,?_⟩,hl,h3⟩;show WB (cQ_ (pf.ts++[_]));rw [e3_];refine WB.app.mpr ⟨hpf.2,?_⟩;show WB ((ba_ x++[])++[]);rw [append_nil,append_nil];exact i9_ g hx
  cases e
 ·split at e
  ·cases e
   refine ⟨more _ ⟨?_,hpf.2⟩,hl,h3⟩;exact WB.app.mpr ⟨hpf.1,WB.cons.mpr ⟨dZ_ g,fun _ q=>by cases q⟩⟩
  cases e
 split at e
 ·cases e
  refine ⟨more _ ⟨?_,hpf.2⟩,hl,h3⟩;exact WB.app.mpr ⟨hpf.1,WB.cons.mpr ⟨iy_ g,fun _ q=>by cases q⟩⟩
 cases e
theorem gH_ : ∀ {s:MS}{R:Res Tr}{n:Nat},Run s R n->MB s->∀ tr,R = .ok tr->WB (allW tr)
 | _,_,_,.done,h,tr,e=>by
  cases e;have:=h.res;exact (WB.app.mp this).1
 | _,_,_,.bad _,h,tr,e=>by cases e
 | _,_,_,.go h1 h2,h,tr,e=>gH_ h2 (h.step h1) tr e
end M
namespace L2
open PySem PySem.Spec PyProof.Rows TL
section
variable {X:Cx}
def oK_ (K:Frag):R2:=fun x y H Q=>∃ a b xs ys,x = .ref a/\y = .ref b/\SqT K H a xs/\SqT K H b ys/\xs.length+ys.length<=sizeLine/\∀ p H',Same H H'->SqT K H' p (xs++ys)->Q (.ref p) H'
theorem nD_:OpR X (binaryOp .Add) (oK_ X.K):=by
 intro pins s σ H x y v u Q I rx ry h;refine x_40 h fun a b xs ys zy=>x_05 zy fun zr4 zr5 ha hb hz q=>?_;subst zr4;subst zr5;by_cases hx:xs=[]
 ·subst hx
  cases rx;cases ry;refine x_12 (I.tuple ha) fun its r1 p1 _=>?_;refine x_12 (I.tuple hb) fun its2 r2 p2 _=>?_;have e1:its=[]:=r1.nil_iff.mpr rfl;subst e1;refine x_12 (id p1) fun zn0 ho hc zz0=>?_;refine x_10 zz0 fun n hd=>?_;obtain ⟨cls,dd,data,sl⟩:=zn0;refine x_12 (id p2) fun zn0 ho2 hc2 zz0=>?_;refine x_10 zz0 fun n2 hd2=>?_;obtain ⟨cls2,dd2,data2,sl2⟩:=zn0;simp only at hc hd hc2 hd2;subst hc hd hc2 hd2;exact concat_meets ⟨_,ho,rfl⟩ ⟨_,ho2,rfl⟩ noFill_tuple_add seq_tuple_add PySem.F.slot_tuple_add PySem.F.entry_tuple_add (PySem.F.args_tuple_add_2 _ _)
   (tuple_addW0 a b #[] its2.toArray n n2 dd dd2 sl sl2 rfl) ⟨ho,ho2,⟨.ref b,H,I,rfl,q b H (Same.refl _) hb⟩⟩
 refine nE_ pins s σ H _ _ v u Q I rx ry ⟨a,b,xs,ys,rfl,rfl,ha,hb,hx,hz,fun e=>?_,fun e p hp=>?_⟩
 ·subst e
  rw [append_nil] at q;exact q a H (Same.refl _) ha
 exact q p _ (Same.upd hp) (SqT.of ad_)
theorem jp_ (hcalm:X.calm=true):cS_ X (.type "list") (fun xs H Q=>∃ a kvs,xs=[.ref a]/\H a=some (.dK kvs)/\∀ l,H l=none->Q (.ref l) (upd H l (.lst (kvs.map fun p=>kV p.1)))):=by
 intro pins s σ H xs us Q I r h;refine x_22 h fun a kvs zr2 ha q=>?_;subst zr2;obtain ⟨u,rfl,rx⟩:=gl_ r;cases rx;refine x_02 (pi_ I.hok ha) fun z hd zz0=>?_;refine x_11 zz0 fun vs rel dd=>?_;obtain ⟨ep,dat⟩:=dd.dictAt;have hlen:kvs.length=vs.length:=Paired.length rel;refine PySem.W.kdl_call (PySem.W.kdl_dict (knd:=aM_ X.prog X.w) (ep:=ep) hd) (I.ok.hd hcalm) dat (by rw [<- hlen];exact z) fun h' tk acc c hk hS hacc=>?_;refine ⟨.ref s.heap.objs.size,_,I.laid (t':=tk) hk (Nat.le_refl _) (show a1_ X.prog X.w _ h' _ (.lst (kvs.map fun p=>kV p.1)) from ⟨by rw [length_map];exact z,acc.toList,c,?_,by rw [Array.toArray_toList];exact hS⟩),rfl,q _ (I.hok.fresh (Nat.le_refl _))⟩;have key : ∀ (l:List (Key×V)) (m:List (Key×Value)) (ws:List Value),KV l m->ws.length=m.length->(∀ (i:Nat) (v:Value),ws[i]? = some v->∃ (k:Key) (x:Value),m[i]? = some (k,x)/\(aM_ X.prog X.w).is k v=true)->Vals (l.map fun p=>kV p.1) ws:=by
  intro l
  induction l with
  | nil =>
   intro m ws h1 h2 h3;cases h1;cases ws with
   | nil=>exact .nil
   | cons _ _=>cases h2
  | cons p l ih =>
  intro m ws h1 h2 h3;cases h1 with
  | @cons _ q0 _ m r t =>
  cases ws with
  | nil=>cases h2
  | cons v ws =>
  refine x_21 (h3 0 v rfl) fun k x e1 e2=>?_;have e3:q0=(k,x):=by injection e1
  subst e3;refine .cons ?_ (ih m ws t (by simpa using h2) fun i v hv=>h3 (i+1) v hv);obtain ⟨k0,v0⟩:=p;have e4:k0=k:=r.1;subst e4;show RelV (kV k0) v;rcases aZ_ (show hE_ k0 v=true from e2) with ⟨i,t,rfl,rfl⟩ | ⟨y,t,rfl,rfl⟩
  ·exact ⟨t,rfl⟩
  exact ⟨t,rfl⟩
 refine key kvs vs acc.toList rel (by rw [Array.length_toList];exact hacc.1) fun i v hv=>?_;exact hacc.2 i v (by rw [<- Array.getElem?_toList];exact hv)
end
end L2
namespace L2
open PySem PySem.Spec PyProof.Rows TL
theorem Room.u1 {k:Nat}{A:Around} (r:Room k A):A.units+1<cLine:=by
 have:=r.un;omega
theorem jr_:bootBuiltins "list"=some (.type "list"):=by left
theorem hS_:bootBuiltins "tuple"=some (.type "tuple"):=by left
theorem boot_dict1:bootBuiltins "dict"=some (.type "dict"):=by left
end L2
namespace M
open PySem PySem.Spec PyProof.Rows L2 TL
open Vaunid (Token txt word sign freeIn once)
def insO (got:List (List Nat)) (z:List Nat):List (List Nat):=if z∈got then got else got++[z]
def b1_ (got l:List (List Nat)):List (List Nat):=l.foldl insO got
theorem dd_ (l:List (List Nat)) (x:List Nat):(l.any fun y=>y == x)=decide (x∈l):=by
 rw [Bool.eq_iff_iff];simp
theorem fW_ : ∀ (l g g':List (List Nat)),(∀ y,y∈g↔y∈g')->b1_ g l=g++once g' l
 | [],g,g',_=>by
  show g=g++[];rw [append_nil]
 | x::r,g,g',h=>by
  show b1_ (insO g x) r=_;unfold once insO;rw [dd_];by_cases hx:x∈g
  ·rw [if_pos hx,if_pos (by rw [decide_eq_true ((h x).mp hx)]),fW_ r g g' h]
  rw [if_neg hx,if_neg (by rw [decide_eq_false fun z=>hx ((h x).mpr z)];simp),fW_ r (g++[x]) (x::g') (fun y=>by simp [h y];exact or_comm)];simp
theorem kP_ (x:Term):Vaunid.free x=b1_ [] (freeIn [] x):=(fW_ (freeIn [] x) [] [] fun _=>Iff.rfl).symm
theorem ay_ : ∀ (x:Term) (b b':List (List Nat)),(∀ y,y∈b↔y∈b')->freeIn b x=freeIn b' x
 | .leaf (.name y),b,b',h=>by
  unfold freeIn;rw [dd_,dd_,decide_eq_decide.mpr (h y)]
 | .leaf (.num _),b,b',h=>rfl
 | .leaf (.truth _),b,b',h=>rfl
 | .leaf .nil,b,b',h=>rfl
 | .one _ a,b,b',h=>ay_ a b b' h
 | .two _ a c,b,b',h=>by unfold freeIn;rw [ay_ a b b' h,ay_ c b b' h]
 | .three _ a c d,b,b',h=>by unfold freeIn;rw [ay_ a b b' h,ay_ c b b' h,ay_ d b b' h]
 | .fn x a,b,b',h=>by unfold freeIn;rw [ay_ a (x::b) (x::b') fun y=>by simp [h y]]
 | .rec_ f x a,b,b',h=>by unfold freeIn;rw [ay_ a (x::f::b) (x::f::b') fun y=>by simp [h y]]
 | .let_ x a c,b,b',h=>by unfold freeIn;rw [ay_ a b b' h,ay_ c (x::b) (x::b') fun y=>by simp [h y]]
 | .case l a hh t c,b,b',h=>by unfold freeIn;rw [ay_ l b b' h,ay_ a b b' h,ay_ c (t::hh::b) (t::hh::b') fun y=>by simp [h y]]
abbrev FI:=Term×List (List Nat)
noncomputable def fiOf (b ws:List (List Nat)):SK×Pc Term->Option FI
 | (.p false,.inr t)=>some (t,b)
 | (.p true,.inr t)=>some (t,b++ws)
 | _=>none
noncomputable def fis (b:List (List Nat)) (x:Term):List FI:=(au_ x).filterMap (fiOf b (aj_ x))
def dr_ (l:List FI):List (List Nat):=l.flatMap fun i=>freeIn i.2 i.1
theorem fi_n (b ws:List (List Nat)) (c:Pc Term):fiOf b ws (.n,c)=none:=rfl
theorem dw_ (b ws:List (List Nat)) (c:Pc Term):fiOf b ws (.pw,c)=none:=rfl
theorem hH_ (x:Term) (b:List (List Nat)) (h : ∀ y,¬ x = .leaf (.name y)):freeIn b x=dr_ (fis b x):=by
 have c1 : ∀ (x:List Nat) (a:Term),freeIn (x::b) a=freeIn (b++[x]) a:=fun x a=>ay_ _ _ _ fun y=>by simp [or_comm]
 have c2 : ∀ (f x:List Nat) (a:Term),freeIn (x::f::b) a=freeIn (b++[f,x]) a:=fun f x a=>ay_ _ _ _ fun y=>by simp;constructor <;> (rintro (h | h | h) <;> simp [h])
 cases x with
 | leaf l =>
  cases l with
  | name y=>exact absurd rfl (h y)
  | _=>rfl
 | one o a=>cases o <;> simp [freeIn,dr_,fis,fi_n,dw_,filterMap_cons,fiOf,au_,ax_,fmX,cr_,Fm.sk,aj_,ao_]
 | two o a c=>cases o <;> simp [freeIn,dr_,fis,fi_n,dw_,filterMap_cons,fiOf,au_,ax_,fmX,cm_,Fm.sk,aj_,ao_]
 | three o a c d=>cases o <;> simp [freeIn,dr_,fis,fi_n,dw_,filterMap_cons,fiOf,au_,ax_,fmX,Fm.sk,aj_,ao_]
 | fn x a=>simp [freeIn,dr_,fis,fi_n,dw_,filterMap_cons,fiOf,au_,ax_,fmX,Fm.sk,aj_,ao_,c1]
 | rec_ f x a=>simp [freeIn,dr_,fis,fi_n,dw_,filterMap_cons,fiOf,au_,ax_,fmX,Fm.sk,aj_,ao_,c2]
 | let_ x a c=>simp [freeIn,dr_,fis,fi_n,dw_,filterMap_cons,fiOf,au_,ax_,fmX,Fm.sk,aj_,ao_,c1]
 | case l a hh t c=>simp [freeIn,dr_,fis,fi_n,dw_,filterMap_cons,fiOf,au_,ax_,fmX,Fm.sk,aj_,ao_,c2]
noncomputable def szF (l:List FI):Nat:=(l.map fun i=>szX i.1).sum
theorem ot_ (x:Term):1<=szX x:=by cases x <;> simp only [szX] <;> omega
theorem ne_ (x:Term) (b:List (List Nat)):szF (fis b x)+1=szX x:=by
 cases x with
 | leaf l=>rfl
 | one o a=>cases o <;> (simp [szF,szX,fis,fi_n,dw_,filterMap_cons,fiOf,au_,ax_,fmX,cr_,Fm.sk,aj_,ao_];omega)
 | two o a c=>cases o <;> (simp [szF,szX,fis,fi_n,dw_,filterMap_cons,fiOf,au_,ax_,fmX,cm_,Fm.sk,aj_,ao_];omega)
 | three o a c d=>cases o <;> (simp [szF,szX,fis,fi_n,dw_,filterMap_cons,fiOf,au_,ax_,fmX,Fm.sk,aj_,ao_];omega)
 | fn x a=>simp [szF,szX,fis,fi_n,dw_,filterMap_cons,fiOf,au_,ax_,fmX,Fm.sk,aj_,ao_];omega
 | rec_ f x a=>simp [szF,szX,fis,fi_n,dw_,filterMap_cons,fiOf,au_,ax_,fmX,Fm.sk,aj_,ao_];omega
 | let_ x a c=>simp [szF,szX,fis,fi_n,dw_,filterMap_cons,fiOf,au_,ax_,fmX,Fm.sk,aj_,ao_];omega
 | case l a hh t c=>simp [szF,szX,fis,fi_n,dw_,filterMap_cons,fiOf,au_,ax_,fmX,Fm.sk,aj_,ao_];omega
theorem ey_ (l m:List FI):szF (l++m)=szF l+szF m:=by
 unfold szF;rw [map_append,List.sum_append]
theorem hl_ : ∀ l:List FI,szF l.reverse=szF l
 | []=>rfl
 | x::r=>by
  rw [reverse_cons,ey_,hl_ r];unfold szF;simp;omega
theorem jJ_ : ∀ l:List FI,l.length<=szF l
 | []=>Nat.le_refl _
 | x::r=>by
  have ih:=jJ_ r;have hx:=ot_ x.1;unfold szF at ih ⊢;rw [map_cons,sum_cons,length_cons];omega
theorem gf_ {x:Term}:(aj_ x).length<=2:=by
 cases x with
 | leaf l=>cases l <;> simp [aj_,ba_]
 | one o a=>cases o <;> simp [aj_]
 | _=>simp [aj_]
theorem n8_ {x:Term}{b:Bool}{t:Term} (h:(SK.p b,Sum.inr t)∈au_ x):szX t+1<=szX x:=by
 cases x with
 | leaf l=>simp [au_,fmX] at h
 | one o a =>
  cases o <;> (simp [au_,ax_,fmX,cr_,Fm.sk,aj_,ao_] at h;simp only [szX];obtain ⟨_,rfl⟩:=h;omega)
 | two o a c =>
  cases o <;> (simp [au_,ax_,fmX,cm_,Fm.sk,aj_,ao_] at h;simp only [szX];rcases h with ⟨_,rfl⟩ | ⟨_,rfl⟩ <;> omega)
 | three o a c d =>
  cases o <;> (simp [au_,ax_,fmX,Fm.sk,aj_,ao_] at h;simp only [szX];rcases h with ⟨_,rfl⟩ | ⟨_,rfl⟩ | ⟨_,rfl⟩ <;> omega)
 | fn x a=>simp [au_,ax_,fmX,Fm.sk,aj_,ao_] at h;simp only [szX];obtain ⟨_,rfl⟩:=h;omega
 | rec_ f x a=>simp [au_,ax_,fmX,Fm.sk,aj_,ao_] at h;simp only [szX];obtain ⟨_,rfl⟩:=h;omega
 | let_ x a c=>simp [au_,ax_,fmX,Fm.sk,aj_,ao_] at h;simp only [szX];rcases h with ⟨_,rfl⟩ | ⟨_,rfl⟩ <;> omega
 | case l a hh t c=>simp [au_,ax_,fmX,Fm.sk,aj_,ao_] at h;simp only [szX];rcases h with ⟨_,rfl⟩ | ⟨_,rfl⟩ | ⟨_,rfl⟩ <;> omega
def dk (got:List (List Nat)):List (Key×V):=got.map fun n=>(Sum.inr (S n),V.bl true)
theorem ph_ (got:List (List Nat)) (z:List Nat):putK (dk got) (Sum.inr (S z)) (V.bl true)=dk (insO got z):=by
 unfold putK insO;have e:((dk got).any fun kv=>decide (kv.1=Sum.inr (S z)))=decide (z∈got):=by
  unfold dk;rw [any_map,Bool.eq_iff_iff];simp only [any_eq_true,Function.comp_def,decide_eq_true_eq,Sum.inr.injEq,ce_]
  constructor
  ·rintro ⟨y,hy,rfl⟩;exact hy
  exact fun h=>⟨z,h,rfl⟩
 rw [e];by_cases h:z∈got
 ·rw [if_pos (decide_eq_true h),if_pos h]
  unfold dk;rw [map_map];refine List.map_congr_left fun y hy=>?_;show (if (Sum.inr (S y):Key)=Sum.inr (S z) then ((Sum.inr (S y):Key),V.bl true) else (Sum.inr (S y),V.bl true))=_;split <;> rfl
 rw [if_neg (by rw [decide_eq_false h];simp),if_neg h];unfold dk;rw [map_append];rfl
theorem kF_ (got:List (List Nat)) (z:List Nat):(insO got z).length<=got.length+1:=by
 unfold insO;split
 ·omega
 simp
def Mut (H:Hp) (x:Addr):Prop:=(∃ l,H x=some (.lst l))\/∃ l,H x=some (.dK l)
theorem SqT.keepX {K:Frag}{H H':Hp}{xs:List Addr}{a:Addr}{vs:List V} (h:SqT K H a vs) (s:ai_ xs H H') (n : ∀ x∈xs,Mut H x):SqT K H' a vs:=by
 have key : ∀ o,H a=some o->(∀ l,o ≠ .lst l)->(∀ l,o ≠ .dK l)->H' a=some o:=fun o e n1 n2=>s _ _ (fun m=>by
  rcases n a m with ⟨l,q⟩ | ⟨l,q⟩
  ·rw [q] at e;injection e with e;exact n1 l e.symm
  rw [q] at e;injection e with e;exact n2 l e.symm) e
 rcases h with h | h
 ·rcases h with h | ⟨o,h⟩
  ·exact .inl (.inl (key _ h (by intro l z;cases z) (by intro l z;cases z)))
  exact .inl (.inr ⟨o,key _ h (by intro l z;cases z) (by intro l z;cases z)⟩)
 exact .inr h
open Vaunid (txt renamed bindings vName vNames)
abbrev RE:=List (List Nat×List Nat)
noncomputable def goF (env:RE):List (SK×Pc Term)->RE->List (List Nat)->List (List Nat)->List Term->List (List Nat)×List Term×List (List Nat)
 | [],_,new,ws,ts=>(ws,ts,new)
 | (.n,.inl x)::r,wi,new,ws,ts=>goF env r ((x,new.headD [])::wi) (new.drop 1) (ws++[new.headD []]) ts
 | (_,.inl x)::r,wi,new,ws,ts=>goF env r wi new (ws++[x]) ts
 | (.p false,.inr t)::r,wi,new,ws,ts=>goF env r wi (renamed env new t).2 ws (ts++[(renamed env new t).1])
 | (_,.inr t)::r,wi,new,ws,ts=>goF env r wi (renamed wi new t).2 ws (ts++[(renamed wi new t).1])
theorem lD_ (env:RE) (new:List (List Nat)) {x:Term}{f:Fm} (h:fmX x=some f):bs_ (renamed env new x).1=bs_ x/\goF env (au_ x) env new [] []=(aj_ (renamed env new x).1,ao_ (renamed env new x).1,(renamed env new x).2):=by
 cases x with
 | leaf l=>cases h
 | one o a=>cases o <;> exact ⟨rfl,rfl⟩
 | two o a b=>cases o <;> exact ⟨rfl,rfl⟩
 | three o a b c=>cases o <;> exact ⟨rfl,rfl⟩
 | fn=>exact ⟨rfl,rfl⟩
 | rec_ y z a =>
  refine ⟨rfl,?_⟩;show goF env [(.p true,.inr a)] _ ((new.drop 1).drop 1) _ _=_;rw [drop_drop];rfl
 | let_=>exact ⟨rfl,rfl⟩
 | case l a y z b =>
 refine ⟨rfl,?_⟩;show goF env [(.p true,.inr b)] _ (((renamed env (renamed env new l).2 a).2.drop 1).drop 1) _ _=_;rw [drop_drop];rfl
theorem ns_ (x:Term) : ∀ (env:RE) (new:List (List Nat)),(renamed env new x).2=new.drop (bindings x):=by
 induction x with
 | leaf l=>intro env new;cases l <;> rfl
 | one o a ih=>exact ih
 | two o a b ia ib =>
  intro env new;show (renamed env (renamed env new a).2 b).2=new.drop (bindings a+bindings b);rw [ib,ia,drop_drop]
 | three o a b c ia ib ic =>
  intro env new;show (renamed env (renamed env (renamed env new a).2 b).2 c).2=new.drop (bindings a+bindings b+bindings c);rw [ic,ib,ia,drop_drop,drop_drop,add_assoc]
 | fn x a ia =>
  intro env new;show (renamed _ (new.drop 1) a).2=new.drop (1+bindings a);rw [ia,drop_drop]
 | rec_ f x a ia =>
  intro env new;show (renamed _ (new.drop 2) a).2=new.drop (2+bindings a);rw [ia,drop_drop]
 | let_ x a b ia ib =>
  intro env new;show (renamed _ (renamed env (new.drop 1) a).2 b).2=new.drop (1+bindings a+bindings b);rw [ib,ia,drop_drop,drop_drop,add_assoc]
 | case l a h t b il ia ib =>
 intro env new;show (renamed _ ((renamed env (renamed env new l).2 a).2.drop 2) b).2=new.drop (2+bindings l+bindings a+bindings b);rw [ib,ia,il,drop_drop,drop_drop,drop_drop];congr 1;omega
def ck_:List (SK×Pc Term)->Nat
 | []=>0
 | (.n,.inl _)::r=>1+ck_ r
 | (_,.inl _)::r=>ck_ r
 | (_,.inr t)::r=>bindings t+ck_ r
theorem kq_ (x:Term):ck_ (au_ x)=bindings x:=by
 cases x with
 | leaf l=>cases l <;> rfl
 | one o a=>cases o <;> (show bindings a+0=bindings a;omega)
 | two o a b=>cases o <;> (show bindings a+(bindings b+0)=bindings a+bindings b;omega)
 | three o a b c=>cases o <;> (show bindings a+(bindings b+(bindings c+0))=bindings a+bindings b+bindings c;omega)
 | fn _ a=>show 1+(bindings a+0)=1+bindings a;omega
 | rec_ _ _ a=>show 1+(1+(bindings a+0))=2+bindings a;omega
 | let_ _ a b=>show 1+(bindings a+(bindings b+0))=1+bindings a+bindings b;omega
 | case l a _ _ b=>show bindings l+(bindings a+(1+(1+(bindings b+0))))=2+bindings l+bindings a+bindings b;omega
inductive Fr (away:List (List Nat)) (B:Nat):Nat->List (List Nat)->Prop
 | nil {i:Nat}:Fr away B i []
 | skip {i:Nat}{l:List (List Nat)}:vName i∈away->i<B->Fr away B (i+1) l->Fr away B i l
 | take {i:Nat}{l:List (List Nat)} : ¬ vName i∈away->i<B->Fr away B (i+1) l->Fr away B i (vName i::l)
theorem nZ_ (away:List (List Nat)) : ∀ (n i k:Nat),Fr away (i+n) i (vNames away n i k)
 | 0,_,_ => .nil
 | n+1,i,k=>by
  unfold vNames;have ih:=fun k=>nZ_ away n (i+1) k;rw [show i+1+n=i+(n+1) by omega] at ih;by_cases h:k=0
  ·rw [if_pos h];exact .nil
  rw [if_neg h,dd_];by_cases q:vName i∈away
  ·rw [decide_eq_true q,if_pos rfl];exact .skip q (by omega) (ih k)
  rw [decide_eq_false q,if_neg (by simp)];exact .take q (by omega) (ih (k - 1))
theorem n0_ {away:List (List Nat)}{B i:Nat}{l':List (List Nat)} (h:Fr away B i l') : ∀ {v:List Nat}{l:List (List Nat)},l'=v::l->∃ j,i<=j/\j<B/\(∀ m,i<=m->m<j->vName m∈away)/\¬ vName j∈away/\v=vName j/\Fr away B (j+1) l:=by
 induction h with
 | nil=>intro v l e;cases e
 | @skip i l' h1 h2 _ ih =>
  intro v l e;refine x_13 (ih e) fun j q1 q2 q3 q4=>?_;refine ⟨j,by omega,q2,fun m a b=>?_,q4⟩;by_cases z:m=i
  ·rw [z];exact h1
  exact q3 m (by omega) b
 | @take i l' h1 h2 h3 ih =>
 intro v l e;cases e;exact ⟨i,Nat.le_refl _,h2,fun m a b=>absurd a (by omega),h1,rfl,h3⟩
def pz_ (l:List Nat):Nat:=l.foldl (fun a c=>10 * a+(c - 48)) 0
theorem k0_ : ∀ i<2000,pz_ (decimal i)=i:=by left
theorem jx_ {i j:Nat} (hi:i<2000) (hj:j<2000) (h:vName i=vName j):i=j:=by
 unfold vName at h;injection h with _ h;rw [<- k0_ i hi,h,k0_ j hj]
theorem dD_ (away:List (List Nat)) : ∀ (n i k:Nat) (aw:List (List Nat)),i+n<=2000->(∀ j,i<=j->j<2000->vName j∈away->vName j∈aw)->aw.length+k<=n->(vNames away n i k).length=k
 | 0,i,k,aw,_,_,h=>by
  have:k=0:=by omega
  rw [this];rfl
 | n+1,i,k,aw,h0,h1,h=>by
  unfold vNames;by_cases hk:k=0
  ·rw [if_pos hk,hk];rfl
  rw [if_neg hk,dd_];by_cases q:vName i∈away
  ·rw [decide_eq_true q,if_pos rfl]
   have hm:=h1 i (Nat.le_refl _) (by omega) q;have hl:=List.length_erase_of_mem hm;have hp:0<aw.length:=List.length_pos_of_mem hm;refine dD_ away n (i+1) k (aw.erase (vName i)) (by omega) (fun j a b c=>?_) (by omega);refine (List.mem_erase_of_ne fun z=>?_).mpr (h1 j (by omega) b c);have:=jx_ b (by omega) z;omega
  rw [decide_eq_false q,if_neg (by simp),length_cons,dD_ away n (i+1) (k - 1) aw (by omega) (fun j a b c=>h1 j (by omega) b c) (by omega)];omega
theorem os_ (x:Term) : ∀ (env:RE) (new:List (List Nat)),szX (renamed env new x).1=szX x:=by
 induction x with
 | leaf l=>intro env new;cases l <;> rfl
 | one o a ih=>exact fun env new=>congrArg (1 + ·) (ih env new)
 | two o a b ia ib =>
  intro env new;show 1+szX (renamed env new a).1+szX (renamed env _ b).1=1+szX a+szX b;rw [ia,ib]
 | three o a b c ia ib ic =>
  intro env new;show 1+szX (renamed env new a).1+szX (renamed env _ b).1+szX (renamed env _ c).1=1+szX a+szX b+szX c;rw [ia,ib,ic]
 | fn x a ih=>exact fun env new=>congrArg (1 + ·) (ih _ _)
 | rec_ f x a ih=>exact fun env new=>congrArg (1 + ·) (ih _ _)
 | let_ x a b ia ib =>
  intro env new;show 1+szX (renamed env _ a).1+szX (renamed _ _ b).1=1+szX a+szX b;rw [ia,ib]
 | case l a h t b il ia ib =>
 intro env new;show 1+szX (renamed env new l).1+szX (renamed env _ a).1+szX (renamed _ _ b).1=1+szX l+szX a+szX b;rw [il,ia,ib]
def EB (env:RE):Prop:=∀ p∈env,p.2.length<=10100
theorem EB.cons {x v:List Nat}{env:RE} (h:v.length<=10100) (e:EB env):EB ((x,v)::env):=fun p m=>by
 rcases mem_cons.mp m with q | m
 ·rw [q];exact h
 exact e p m
theorem WB.head {l:List (List Nat)} (h:WB l):(l.headD []).length<=10100:=by
 cases l with
 | nil=>exact zero_le _
 | cons v r=>exact h v (mem_cons_self ..)
theorem WB.drop {l:List (List Nat)} (h:WB l) (k:Nat):WB (l.drop k):=fun w m=>h w (List.mem_of_mem_drop m)
theorem WB.ren {new:List (List Nat)} (h:WB new) (env:RE) (x:Term):WB (renamed env new x).2:=by
 rw [ns_];exact h.drop _
theorem bz_ : ∀ (x:Term) (env:RE) (new:List (List Nat)),EB env->WB new->WB (allX x)->WB (allX (renamed env new x).1)
 | .leaf (.name y),env,new,he,hn,h=>by
  intro w m;have m:w∈[((env.find? fun p=>p.1 == y).map fun p=>p.2).getD y]:=m;rw [mem_singleton.mp m];cases q:env.find? fun p=>p.1 == y with
  | none=>exact h y (mem_singleton.mpr rfl)
  | some p=>exact he p (List.mem_of_find?_eq_some q)
 | .leaf (.num _),_,_,_,_,h=>h
 | .leaf (.truth _),_,_,_,_,h=>h
 | .leaf .nil,_,_,_,_,h=>h
 | .one (.pow _) a,env,new,he,hn,h=>WB.cons.mpr ⟨(WB.cons.mp h).1,bz_ a env new he hn (WB.cons.mp h).2⟩
 | .one .fst a,env,new,he,hn,h=>bz_ a env new he hn h
 | .one .snd a,env,new,he,hn,h=>bz_ a env new he hn h
 | .one .root a,env,new,he,hn,h=>bz_ a env new he hn h
 | .two _ a b,env,new,he,hn,h=>WB.app.mpr ⟨bz_ a env new he hn (WB.app.mp h).1,bz_ b env _ he (hn.ren _ _) (WB.app.mp h).2⟩
 | .three _ a b c,env,new,he,hn,h=>by
  obtain ⟨h1,h2⟩:=WB.app.mp h;obtain ⟨h2,h3⟩:=WB.app.mp h2;exact WB.app.mpr ⟨bz_ a env new he hn h1,WB.app.mpr ⟨bz_ b env _ he (hn.ren _ _) h2,bz_ c env _ he ((hn.ren _ _).ren _ _) h3⟩⟩
 | .fn x a,env,new,he,hn,h=>WB.cons.mpr ⟨hn.head,bz_ a _ _ (he.cons hn.head) (hn.drop 1) (WB.cons.mp h).2⟩
 | .rec_ f x a,env,new,he,hn,h=>WB.cons.mpr ⟨hn.head,WB.cons.mpr ⟨(hn.drop 1).head,bz_ a _ _ ((he.cons hn.head).cons (hn.drop 1).head) (hn.drop 2) (WB.cons.mp (WB.cons.mp h).2).2⟩⟩
 | .let_ x a b,env,new,he,hn,h=>by
  obtain ⟨h1,h2⟩:=WB.app.mp (WB.cons.mp h).2;exact WB.cons.mpr ⟨hn.head,WB.app.mpr ⟨bz_ a env _ he (hn.drop 1) h1,bz_ b _ _ (he.cons hn.head) ((hn.drop 1).ren _ _) h2⟩⟩
 | .case l a y z b,env,new,he,hn,h=>by
  obtain ⟨h1,h2⟩:=WB.app.mp (WB.cons.mp (WB.cons.mp h).2).2;obtain ⟨h2,h3⟩:=WB.app.mp h2;have n1:=hn.ren env l;have n2:=n1.ren env a;exact WB.cons.mpr ⟨n2.head,WB.cons.mpr ⟨(n2.drop 1).head,WB.app.mpr ⟨bz_ l env new he hn h1,WB.app.mpr ⟨bz_ a env _ he n1 h2,bz_ b _ _ ((he.cons n2.head).cons (n2.drop 1).head) (n2.drop 2) h3⟩⟩⟩⟩
theorem iI_ (x:Term):bindings x<=2 * szX x:=by
 induction x with
 | leaf l=>exact zero_le _
 | _=>simp only [bindings,szX];omega
theorem jw_ {i:Nat} (h:i<2000):(vName i).length<=10100:=by
 have:=bO_ (n:=i) (by omega);unfold vName;rw [length_cons];omega
theorem Fr.wb {away:List (List Nat)}{B i:Nat}{l:List (List Nat)} (hB:B<=2000) (h:Fr away B i l):WB l:=by
 induction h with
 | nil=>exact fun w m=>by cases m
 | skip _ _ _ ih=>exact ih
 | take _ q _ ih=>exact WB.cons.mpr ⟨jw_ (by omega),ih⟩
section
variable {X:Cx}
theorem jq_:cS_ X (.type "dict") (fun xs H Q=>∃ a kvs,xs=[.ref a]/\H a=some (.dK kvs)/\∀ l,H l=none->Q (.ref l) (upd H l (.dK kvs))):=by
 intro pins s σ H xs us Q I r h;refine x_22 h fun a kvs zr2 ha q=>?_;subst zr2;obtain ⟨u,rfl,rx⟩:=gl_ r;cases rx;exact mm_ I (.inl ha) fun p s' hp I'=>⟨.ref p,_,I',rfl,q p hp⟩
theorem boot_dict1:bootBuiltins "dict"=some (.type "dict"):=by left
end
end M
section
set_option maxHeartbeats 2000000
namespace L2
open PySem PySem.Spec PyProof.Rows
open PySem.W (WData Codec OpenSpec Well WellAll ReadsW ReadsAllW)
mutual
inductive Dw (K:Frag) (H:Hp):V->WData->Prop
 | non:Dw K H .non .none
 | bl (b:Bool):Dw K H (.bl b) (.bool b)
 | int (i:Int):Dw K H (.int i) (.int i)
 | str (x:Str):Dw K H (.str x) (.str x)
 | byt (b:Array UInt8):Dw K H (.byt b) (.bytes b.toList)
 | lst {a:Addr}{xs:List V}{ds:List WData}:SqL K H a xs->DwAll K H xs ds->Dw K H (.ref a) (.list ds)
 | tup {a:Addr}{xs:List V}{ds:List WData}:SqT K H a xs->DwAll K H xs ds->Dw K H (.ref a) (.tuple ds)
inductive DwAll (K:Frag) (H:Hp):List V->List WData->Prop
 | nil:DwAll K H [] []
 | cons {v:V}{vs:List V}{d:WData}{ds:List WData}:Dw K H v d->DwAll K H vs ds->DwAll K H (v::vs) (d::ds)
end
theorem kV_ {K:Frag}{H:Hp} : ∀ ns:List Int,DwAll K H (ns.map V.int) (ns.map WData.int)
 | [] => .nil
 | n::r => .cons (.int n) (kV_ r)
theorem kE_ {K:Frag}{H:Hp} : ∀ (ns:List Int) (xs:List V),DwAll K H xs (ns.map WData.int)->xs=ns.map V.int
 | [],xs,h=>by
  cases h;rfl
 | n::r,xs,h=>by
  cases h with
  | cons h1 h2 =>
  cases h1;rw [kE_ r _ h2] <;> rfl
section
variable {P:Program}{w:World}{K:Frag}{H:Hp}{h:Heap}{R:PySem.W.WRecords}{cl:Str->Option Addr}
theorem ov_ {a:Addr}{xs:List V} (hok:HOk P w H h) (KX:K.In h) (q:SqL K H a xs) : ∃ (its:List Value) (o:Obj) (n:Nat),Vals xs its/\h.get? a=some o/\o.cls = .type "list"/\o.data = .seq its.toArray n:=by
 rcases q with q | ⟨o,its,n,e,hc,_,hd,_,hv⟩
 ·refine x_01 ((show a1_ P w H h a (.lst xs) from q.ok hok)) fun _ zz0=>?_
  refine x_21 zz0 fun its n hv e=>?_;exact ⟨its,_,n,hv,e,rfl,rfl⟩
 exact ⟨its.toList,o,n,hv,KX _ _ e,hc,by simp [hd]⟩
theorem ou_ {a:Addr}{xs:List V} (hok:HOk P w H h) (KX:K.In h) (q:SqT K H a xs) : ∃ (its:List Value) (o:Obj) (n:Nat),Vals xs its/\h.get? a=some o/\o.cls = .type "tuple"/\o.data = .seq its.toArray n:=by
 rcases q with q | ⟨o,its,n,e,hc,hd,_,hv⟩
 ·obtain ⟨_,its,hv,o,e,hc,n,hd⟩:=(show a1_ P w H h a (.tup xs) from q.ok hok)
  exact ⟨its,o,n,hv,e,hc,hd⟩
 exact ⟨its.toList,o,n,hv,KX _ _ e,hc,by simp [hd]⟩
mutual
theorem Dw.reads (hok:HOk P w H h) (KX:K.In h) : ∀ (d:WData) (v:V) (u:Value),Dw K H v d->RelV v u->∃ as,ReadsW R cl h u d as
 | .none,_,_,x,r=>by
  cases x;cases r;exact ⟨_,ReadsW.none⟩
 | .bool b,_,_,x,r=>by
  cases x;cases r;exact ⟨_,ReadsW.bool b⟩
 | .int i,_,_,x,r=>by
  cases x;obtain ⟨t,rfl⟩:=r;exact ⟨_,ReadsW.int i t⟩
 | .str s,_,_,x,r=>by
  cases x;obtain ⟨t,rfl⟩:=r;exact ⟨_,ReadsW.str s t⟩
 | .bytes b,_,_,x,r=>by
  cases x;obtain ⟨t,rfl⟩:=r;exact ⟨_,ReadsW.bytes _ t⟩
 | .list ds,_,_,x,r=>by
  cases x with
  | lst hs ha =>
  cases r;obtain ⟨its,o,n,rv,ho,hc,hd⟩:=ov_ hok KX hs;obtain ⟨as,hr⟩:=Dw.readsAll hok KX ds _ its ha rv;exact ⟨_,ReadsW.list ho hc hd hr⟩
 | .tuple ds,_,_,x,r=>by
  cases x with
  | tup hs ha =>
  cases r;obtain ⟨its,o,n,rv,ho,hc,hd⟩:=ou_ hok KX hs;obtain ⟨as,hr⟩:=Dw.readsAll hok KX ds _ its ha rv;exact ⟨_,ReadsW.tuple ho hc hd hr⟩
 | .float _,_,_,x,_=>by cases x
 | .dict _,_,_,x,_=>by cases x
 | .bytearray _,_,_,x,_=>by cases x
 | .set _,_,_,x,_=>by cases x
 | .frozenset _,_,_,x,_=>by cases x
 | .obj _ _,_,_,x,_=>by cases x
theorem Dw.readsAll (hok:HOk P w H h) (KX:K.In h) : ∀ (ds:List WData) (vs:List V) (us:List Value),DwAll K H vs ds->Vals vs us->∃ as,ReadsAllW R cl h us ds as
 | [],_,_,x,r=>by
  cases x;cases r;exact ⟨_,ReadsAllW.nil⟩
 | d::ds,_,_,x,r=>by
  cases x with
  | cons h1 h2 =>
  cases r with
  | cons r1 r2 =>
  obtain ⟨as,q1⟩:=Dw.reads hok KX d _ _ h1 r1;obtain ⟨bs,q2⟩:=Dw.readsAll hok KX ds _ _ h2 r2;exact ⟨_,ReadsAllW.cons q1 q2⟩
end
end
mutual
def plW:WData->Bool
 | .none=>true
 | .bool _=>true
 | .int _=>true
 | .str _=>true
 | .bytes _=>true
 | .list xs=>plWs xs
 | .tuple xs=>plWs xs
 | _=>false
def plWs:List WData->Bool
 | []=>true
 | x::r=>plW x && plWs r
end
theorem ie_ {α:Type}{f:α->WData} (h : ∀ a,plW (f a)=true) : ∀ l:List α,plWs (l.map f)=true
 | []=>rfl
 | x::r=>by
  show (plW (f x) && plWs (r.map f))=true;rw [h x,ie_ h r] <;> rfl
theorem dW_ : ∀ (c:Codec) (a:c.denote),plW (c.enc a)=true
 | .unit,_=>rfl
 | .bool,_=>rfl
 | .int _ _,_=>rfl
 | .nat _ _,_=>rfl
 | .u8,_=>rfl
 | .bytes _ _,_=>rfl
 | .text _ _ _ _,_=>rfl
 | .list _ _ c,a=>ie_ (fun x=>dW_ c x) a
 | .pair c d,a=>by
  show (plW (c.enc a.1) && (plW (d.enc a.2) && true))=true;rw [dW_ c a.1,dW_ d a.2] <;> rfl
 | .triple c d e,a=>by
  show (plW (c.enc a.1) && (plW (d.enc a.2.1) && (plW (e.enc a.2.2) && true)))=true;rw [dW_ c a.1,dW_ d a.2.1,dW_ e a.2.2] <;> rfl
 | .option c,none=>rfl
 | .option c,some x=>dW_ c x
theorem gI_ : ∀ (cs:List Codec) (a:Codec.denoteAll cs),plWs (Codec.encAll cs a)=true
 | [],_=>rfl
 | c::cs,a=>by
  show (plW (c.enc a.1) && plWs (Codec.encAll cs a.2))=true;rw [dW_ c a.1,gI_ cs a.2] <;> rfl
theorem dC_ : ∀ {xs:List WData}{d:WData},d∈xs->d.weight<=WData.weightAll xs
 | [],d,h=>absurd h (by simp)
 | x::r,d,h=>by
  show d.weight<=x.weight+1+WData.weightAll r;rcases mem_cons.mp h with e | m
  ·rw [e]
   omega
  have z:=dC_ m;omega
noncomputable def toV:Value->V
 | .none => .non
 | .bool b => .bl b
 | .int i _ => .int i
 | .str x _ => .str x
 | .bytes b _ => .byt b
 | .ref a => .ref a
 | _ => .non
def OkU (A:List Addr):Value->Prop
 | .none=>True
 | .bool _=>True
 | .int _ _=>True
 | .str _ _=>True
 | .bytes _ _=>True
 | .ref a=>a∈A
 | _=>False
theorem OkU.mono {A B:List Addr} (h : ∀ a∈A,a∈B) : ∀ {u:Value},OkU A u->OkU B u:=fun {u} x=>by
 cases u with
 | ref a=>exact h a x
 | none=>trivial
 | bool b=>trivial
 | int i t=>trivial
 | str s t=>trivial
 | bytes b t=>trivial
 | _=>exact False.elim x
theorem lE_ {A:List Addr}{u:Value} (x:OkU A u):RelV (toV u) u:=by
 cases u with
 | ref a=>rfl
 | none=>rfl
 | bool b=>rfl
 | int i t=>exact ⟨t,rfl⟩
 | str s t=>exact ⟨t,rfl⟩
 | bytes b t=>exact ⟨t,rfl⟩
 | _=>exact False.elim x
theorem cC_ {A:List Addr} : ∀ {vs:List Value},(∀ u∈vs,OkU A u)->Vals (vs.map toV) vs
 | [],_ => .nil
 | u::r,h => .cons (lE_ (h u (mem_cons_self ..))) (cC_ fun x hx=>h x (mem_cons_of_mem _ hx))
def d9_ (h:Heap) (A:List Addr) (a:Addr):Prop:=∃ vs:List Value,vs.length<=sizeLine/\(∀ u∈vs,OkU A u) /\
 (h.get? a=some { cls := .type "list",data := .seq vs.toArray }\/h.get? a=some { cls := .type "tuple",data := .seq vs.toArray })
theorem d9_.mono {h:Heap}{A B:List Addr}{a:Addr} (k : ∀ a∈A,a∈B) (x:d9_ h A a):d9_ h B a:=by
 obtain ⟨vs,h1,h2,h3⟩:=x;exact ⟨vs,h1,fun u hu=>(h2 u hu).mono k,h3⟩
theorem b6_ {P:Params}{h:Heap} : ∀ {vs:List Value}{ds:List WData},WellAll P h vs ds->vs.length=ds.length
 | _,_,.nil=>rfl
 | _,_,.cons _ b=>by
  show _+1=_+1;rw [b6_ b]
theorem gg_ {P:Params}{h:Heap}{v:Value}{ds:List WData} (x:Well P h v (.list ds)) : ∃ (a:Addr) (vs:List Value),v = .ref a/\h.get? a=some { cls := .type "list",data := .seq vs.toArray }/\WellAll P h vs ds:=by
 cases x with
 | list ho hall=>exact ⟨_,_,rfl,ho,hall⟩
theorem e8_ {P:Params}{h:Heap}{v:Value}{ds:List WData} (x:Well P h v (.tuple ds)) : ∃ (a:Addr) (vs:List Value),v = .ref a/\h.get? a=some { cls := .type "tuple",data := .seq vs.toArray }/\WellAll P h vs ds:=by
 cases x with
 | tuple ho hall=>exact ⟨_,_,rfl,ho,hall⟩
theorem gh_ {P:Params}{h:Heap}{us:List Value}{d:WData}{ds:List WData} (x:WellAll P h us (d::ds)) : ∃ (v:Value) (vs:List Value),us=v::vs/\Well P h v d/\WellAll P h vs ds:=by
 cases x with
 | cons a b=>exact ⟨_,_,rfl,a,b⟩
theorem kv_ {n:Nat} (h:n<=1048576):n<=sizeLine:=Nat.le_trans h (by decide)
section
variable {P:Params}{h:Heap}
mutual
theorem mp_ : ∀ (d:WData) (v:Value),Well P h v d->plW d=true->d.weight<=1048576->∃ A:List Addr,OkU A v/\∀ a∈A,d9_ h A a
 | .none,_,x,_,_=>by
  cases x;exact ⟨[],trivial,fun a m=>absurd m (by simp)⟩
 | .bool b,_,x,_,_=>by
  cases x;exact ⟨[],trivial,fun a m=>absurd m (by simp)⟩
 | .int i,_,x,_,_=>by
  cases x;exact ⟨[],trivial,fun a m=>absurd m (by simp)⟩
 | .str s,_,x,_,_=>by
  cases x;exact ⟨[],trivial,fun a m=>absurd m (by simp)⟩
 | .bytes b,_,x,_,_=>by
  cases x;exact ⟨[],trivial,fun a m=>absurd m (by simp)⟩
 | .list ds,_,x,p,z=>by
  refine x_22 (gg_ x) fun a vs zr2 ho hall=>?_;subst zr2;have z2:WData.weightAll ds<=1048576:=z;obtain ⟨A,h1,h2⟩:=em_ ds _ hall p fun d hd=>Nat.le_trans (dC_ hd) z2;have k : ∀ b∈A,b∈a::A:=fun b hb=>mem_cons_of_mem _ hb;refine ⟨a::A,mem_cons_self ..,fun b hb=>?_⟩;rcases mem_cons.mp hb with e | m
  ·rw [e]
   exact ⟨vs,kv_ (by rw [b6_ hall];exact Nat.le_trans (PySem.W.length_le_weightAllW ds) z2),fun u hu=>(h1 u hu).mono k,.inl ho⟩
  exact (h2 b m).mono k
 | .tuple ds,_,x,p,z=>by
  refine x_22 (e8_ x) fun a vs zr2 ho hall=>?_;subst zr2;have z2:WData.weightAll ds<=1048576:=z;obtain ⟨A,h1,h2⟩:=em_ ds _ hall p fun d hd=>Nat.le_trans (dC_ hd) z2;have k : ∀ b∈A,b∈a::A:=fun b hb=>mem_cons_of_mem _ hb;refine ⟨a::A,mem_cons_self ..,fun b hb=>?_⟩;rcases mem_cons.mp hb with e | m
  ·rw [e]
   exact ⟨vs,kv_ (by rw [b6_ hall];exact Nat.le_trans (PySem.W.length_le_weightAllW ds) z2),fun u hu=>(h1 u hu).mono k,.inr ho⟩
  exact (h2 b m).mono k
 | .float _,_,_,p,_=>Bool.noConfusion (show false=true from p)
 | .dict _,_,_,p,_=>Bool.noConfusion (show false=true from p)
 | .bytearray _,_,_,p,_=>Bool.noConfusion (show false=true from p)
 | .set _,_,_,p,_=>Bool.noConfusion (show false=true from p)
 | .frozenset _,_,_,p,_=>Bool.noConfusion (show false=true from p)
 | .obj _ _,_,_,p,_=>Bool.noConfusion (show false=true from p)
theorem em_ : ∀ (ds:List WData) (vs:List Value),WellAll P h vs ds->plWs ds=true->(∀ d∈ds,d.weight<=1048576)->∃ A:List Addr,(∀ u∈vs,OkU A u)/\∀ a∈A,d9_ h A a
 | [],_,x,_,_=>by
  cases x;exact ⟨[],fun u m=>absurd m (by simp),fun a m=>absurd m (by simp)⟩
 | d::ds,_,x,p,z=>by
  refine x_22 (gh_ x) fun v vs zr2 x1 x2=>?_;subst zr2;have q:plW d=true/\plWs ds=true:=Bool.and_eq_true_iff.mp p;obtain ⟨A,a1,a2⟩:=mp_ d v x1 q.1 (z d (mem_cons_self ..));obtain ⟨B,b1,b2⟩:=em_ ds vs x2 q.2 fun e he=>z e (mem_cons_of_mem _ he);have kA : ∀ b∈A,b∈A++B:=fun b hb=>mem_append.mpr (.inl hb);have kB : ∀ b∈B,b∈A++B:=fun b hb=>mem_append.mpr (.inr hb);refine ⟨A++B,fun u hu=>?_,fun b hb=>?_⟩
  ·rcases mem_cons.mp hu with e | m
   ·rw [e]
    exact a1.mono kA
   exact (b1 u m).mono kB
  rcases mem_append.mp hb with m | m
  ·exact (a2 b m).mono kA
  exact (b2 b m).mono kB
end
end
noncomputable def hoOf (o:Obj):Option HO:=match o.data with
 | .seq vs _=>if (o.cls == Value.type "list")=true then some (.frz o (.lst (vs.toList.map toV))) else some (.frz o (.tup (vs.toList.map toV)))
 | _=>none
noncomputable def argH (K:Frag) (h:Heap) (A:List Addr):Hp:=fun b=>if b∈A then (if (K.lookup b).isNone=true then (h.get? b).bind hoOf else none) else none
def lj_ (H:Hp):Prop:=∀ b,H b=none\/∃ o u,H b=some (.frz o u)
theorem iv_ (vs:List Value):hoOf { cls := .type "list",data := .seq vs.toArray }=some (.frz { cls := .type "list",data := .seq vs.toArray } (.lst (vs.map toV))):=by
 show (if (Value.type "list" == Value.type "list")=true then some (HO.frz { cls := .type "list",data := .seq vs.toArray } (.lst (vs.toArray.toList.map toV))) else some (HO.frz { cls := .type "list",data := .seq vs.toArray } (.tup (vs.toArray.toList.map toV))))=_;rw [if_pos (beq_self_eq_true _)]
theorem iu_ (vs:List Value):hoOf { cls := .type "tuple",data := .seq vs.toArray }=some (.frz { cls := .type "tuple",data := .seq vs.toArray } (.tup (vs.map toV))):=by
 show (if (Value.type "tuple" == Value.type "list")=true then some (HO.frz { cls := .type "tuple",data := .seq vs.toArray } (.lst (vs.toArray.toList.map toV))) else some (HO.frz { cls := .type "tuple",data := .seq vs.toArray } (.tup (vs.toArray.toList.map toV))))=_;rw [if_neg (by decide)]
section
variable {P:Program}{w:World}{K:Frag}{h:Heap}{A:List Addr}
theorem gb_ {b:Addr}{o:Obj} (hb:b∈A) (hk:K.lookup b=none) (e:h.get? b=some o):argH K h A b=hoOf o:=by
 unfold argH;rw [if_pos hb,hk,if_pos (show (none:Option Obj).isNone=true from rfl),e] <;> rfl
theorem nL_ {b:Addr}{u:HO} (q:argH K h A b=some u):b∈A/\K.lookup b=none:=by
 unfold argH at q;by_cases hb:b∈A
 ·rw [if_pos hb] at q
  cases hk:K.lookup b with
  | none=>exact ⟨hb,rfl⟩
  | some o =>
  rw [hk,if_neg (by simp)] at q;cases q
 rw [if_neg hb] at q;cases q
theorem ga_ (ar : ∀ a∈A,d9_ h A a) {b:Addr}{u:HO} (q:argH K h A b=some u):K.lookup b=none/\∃ vs:List Value,vs.length<=sizeLine/\(∀ u∈vs,OkU A u) /\
  ((h.get? b=some { cls := .type "list",data := .seq vs.toArray }/\u = .frz { cls := .type "list",data := .seq vs.toArray } (.lst (vs.map toV))) \/
   (h.get? b=some { cls := .type "tuple",data := .seq vs.toArray }/\u = .frz { cls := .type "tuple",data := .seq vs.toArray } (.tup (vs.map toV)))):=by
 obtain ⟨hb,hk⟩:=nL_ q;refine x_12 (ar b hb) fun vs h1 h2 h3=>?_;refine ⟨hk,vs,h1,h2,?_⟩;rcases h3 with e | e
 ·rw [gb_ hb hk e,iv_] at q
  exact .inl ⟨e,(Option.some.inj q).symm⟩
 rw [gb_ hb hk e,iu_] at q;exact .inr ⟨e,(Option.some.inj q).symm⟩
theorem lg_ (ar : ∀ a∈A,d9_ h A a):lj_ (argH K h A):=fun b=>by
 cases q:argH K h A b with
 | none=>exact .inl rfl
 | some u =>
 refine x_01 (ga_ ar q) fun _ zz0=>?_;refine x_12 zz0 fun vs _ _ zn4=>?_;obtain ⟨_,e⟩ | ⟨_,e⟩:=zn4
 ·exact .inr ⟨_,_,by rw [e]⟩
 exact .inr ⟨_,_,by rw [e]⟩
theorem od_ (ar : ∀ a∈A,d9_ h A a):HOk P w (argH K h A) h:=fun b u q=>by
 obtain ⟨_,vs,h1,h2,⟨e,rfl⟩ | ⟨e,rfl⟩⟩:=ga_ ar q
 ·exact ⟨e,by rw [length_map];exact h1,vs,_,cC_ h2,e⟩
 exact ⟨e,by rw [length_map];exact h1,vs,cC_ h2,_,e,rfl,_,rfl⟩
theorem fL_ {c c':Value}{vs us:List Value} (e:(some { cls:=c,data := .seq vs.toArray }:Option Obj)=some { cls:=c',data := .seq us.toArray }):c=c'/\vs=us:=by
 have e1:=Option.some.inj e;have e2:c=c':=congrArg Obj.cls e1;have e3:Data.seq vs.toArray=Data.seq us.toArray:=congrArg Obj.data e1;injection e3 with e4;refine ⟨e2,?_⟩;have e5:=congrArg Array.toList e4;simpa using e5
theorem argL (KX:K.In h) (ar : ∀ a∈A,d9_ h A a) {a:Addr}{vs:List Value} (ha:a∈A) (e:h.get? a=some { cls := .type "list",data := .seq vs.toArray }):(∀ u∈vs,OkU A u)/\SqL K (argH K h A) a (vs.map toV):=by
 refine x_12 (ar a ha) fun us h1 h2 h3=>?_;have hu:us=vs:=by
  rcases h3 with q | q
  ·rw [e] at q
   exact (fL_ q).2.symm
  rw [e] at q;exact absurd (Value.type.inj (fL_ q).1) (by decide)
 subst hu;refine ⟨h2,?_⟩;cases hk:K.lookup a with
 | none=>exact .inl (.inr ⟨_,by rw [gb_ ha hk e,iv_]⟩)
 | some o =>
 have e2:=KX a o hk;rw [e] at e2;obtain rfl:=Option.some.inj e2;exact .inr ⟨_,us.toArray,_,hk,rfl,rfl,rfl,by rw [size_toArray];exact h1,by simpa using cC_ h2⟩
theorem argT (KX:K.In h) (ar : ∀ a∈A,d9_ h A a) {a:Addr}{vs:List Value} (ha:a∈A) (e:h.get? a=some { cls := .type "tuple",data := .seq vs.toArray }):(∀ u∈vs,OkU A u)/\SqT K (argH K h A) a (vs.map toV):=by
 refine x_12 (ar a ha) fun us h1 h2 h3=>?_;have hu:us=vs:=by
  rcases h3 with q | q
  ·rw [e] at q
   exact absurd (Value.type.inj (fL_ q).1) (by decide)
  rw [e] at q;exact (fL_ q).2.symm
 subst hu;refine ⟨h2,?_⟩;cases hk:K.lookup a with
 | none=>exact .inl (.inr ⟨_,by rw [gb_ ha hk e,iu_]⟩)
 | some o =>
 have e2:=KX a o hk;rw [e] at e2;obtain rfl:=Option.some.inj e2;exact .inr ⟨_,us.toArray,_,hk,rfl,rfl,by rw [size_toArray];exact h1,by simpa using cC_ h2⟩
mutual
theorem pe_ {Pm:Params} (KX:K.In h) (ar : ∀ a∈A,d9_ h A a) : ∀ (d:WData) (v:Value),Well Pm h v d->plW d=true->OkU A v->Dw K (argH K h A) (toV v) d
 | .none,_,x,_,_=>by
  cases x;exact .non
 | .bool b,_,x,_,_=>by
  cases x;exact .bl b
 | .int i,_,x,_,_=>by
  cases x;exact .int i
 | .str s,_,x,_,_=>by
  cases x;exact .str s
 | .bytes b,_,x,_,_=>by
  cases x;have z:=Dw.byt (K:=K) (H:=argH K h A) b.toArray;exact z
 | .list ds,_,x,p,hu=>by
  obtain ⟨a,vs,rfl,ho,hall⟩:=gg_ x;obtain ⟨h2,hs⟩:=argL KX ar hu ho;exact .lst hs (iC_ KX ar ds _ hall p h2)
 | .tuple ds,_,x,p,hu=>by
  obtain ⟨a,vs,rfl,ho,hall⟩:=e8_ x;obtain ⟨h2,hs⟩:=argT KX ar hu ho;exact .tup hs (iC_ KX ar ds _ hall p h2)
 | .float _,_,_,p,_=>Bool.noConfusion (show false=true from p)
 | .dict _,_,_,p,_=>Bool.noConfusion (show false=true from p)
 | .bytearray _,_,_,p,_=>Bool.noConfusion (show false=true from p)
 | .set _,_,_,p,_=>Bool.noConfusion (show false=true from p)
 | .frozenset _,_,_,p,_=>Bool.noConfusion (show false=true from p)
 | .obj _ _,_,_,p,_=>Bool.noConfusion (show false=true from p)
theorem iC_ {Pm:Params} (KX:K.In h) (ar : ∀ a∈A,d9_ h A a) : ∀ (ds:List WData) (vs:List Value),WellAll Pm h vs ds->plWs ds=true->(∀ u∈vs,OkU A u)->DwAll K (argH K h A) (vs.map toV) ds
 | [],_,x,_,_=>by
  cases x;exact .nil
 | d::ds,_,x,p,hu=>by
  obtain ⟨v,vs,rfl,x1,x2⟩:=gh_ x;have q:plW d=true/\plWs ds=true:=Bool.and_eq_true_iff.mp p;exact .cons (pe_ KX ar d v x1 q.1 (hu _ (mem_cons_self ..))) (iC_ KX ar ds vs x2 q.2 fun u m=>hu u (mem_cons_of_mem _ m))
end
end
theorem jM_ {P:Program}{w:World}{K:Frag}{mg mb:zM}{CX:CXT}{k:Nat}{fa:Addr}{fd:FuncData}{ps:List Str}{sp:Sp}{s₁:Shared}{vals:List Value}{ds:List WData}{R:PySem.W.WRecords}{cl:Str->Option Addr}{d0:WData}
  (KX:K.In s₁.heap) (hns:s₁.heap.Ns mainGlobals mg) (hb:s₁.heap.Ns builtinsNs mb) (hbb : ∀ x:Str,x≠"__name__"->mb x=bootBuiltins x) (hlim:s₁.heap.NoLimit) (hg:s₁.gens = #[])
  (hwl:WellAll w.params s₁.heap vals ds) (hpl:plWs ds=true) (hwt : ∀ d∈ds,d.weight<=1048576) (hr:Room k callerA)
  (F : ∀ base:Heap,K.In base->base.Ns mainGlobals mg->FnOk P w K mg base CX k fa fd ps sp) (hbind : ∀ (s:Shared) (us:List Value),us.length=ps.length->BindsTo s fd ⟨us,[]⟩ (ps.zip us)) (hlen:ds.length=ps.length)
  (hsp : ∀ (H:Hp) (xs:List V),lj_ H->DwAll K H xs ds->sp xs H (fun v H'=>Dw K H' v d0) fun _ _ _=>False)
  (hCX : ∀ H e s',CX [] H s₁ (fun _ _ _=>False) e s'->False) :
  codeAny (model P w) callerA (.call (.ref fa) ⟨vals,[]⟩) (fun r s'=>∃ u as,r = .ok (.ret u)/\ReadsW R cl s'.heap u d0 as/\OldK s₁.heap s'.heap/\s'.os=s₁.os/\AllBare s'.gens) s₁:=by
 obtain ⟨A,ho,ar⟩:=em_ ds vals hwl hpl hwt;have hO:lj_ (argH K s₁.heap A):=lg_ ar;have hok:HOk P w (argH K s₁.heap A) s₁.heap:=od_ ar;have hS:=iC_ KX ar ds vals hwl hpl ho;have hV:=cC_ ho;have hK : ∀ b u,argH K s₁.heap A b=some u->K.lookup b=none:=fun b u q=>(ga_ ar q).1;have noA : ∀ {b:Addr}{o:Obj}{es:Array DictEntry}{ep:Nat},s₁.heap.get? b=some o->o.data = .dict es ep->argH K s₁.heap A b=none:=fun {b o es ep} e d=>by
  cases q:argH K s₁.heap A b with
  | none=>rfl
  | some u =>
  obtain ⟨_,vs,_,_,⟨e2,_⟩ | ⟨e2,_⟩⟩:=ga_ ar q
  ·rw [e2] at e
   cases e;have d':Data.seq vs.toArray _=Data.dict es ep:=d;cases d'
  rw [e2] at e;cases e;have d':Data.seq vs.toArray _=Data.dict es ep:=d;cases d'
 generalize argH K s₁.heap A=H at hO hok hS hK noA;have base_of : ∀ {b:Addr}{o:Obj},s₁.heap.get? b=some o->H b=none->(hidT s₁.heap H).get? b=some o:=fun e n=>l8_ e n;have nsK : ∀ {b:Addr}{m:zM},s₁.heap.Ns b m->(hidT s₁.heap H).Ns b m:=fun {b m} ⟨o,es,ep,e,d,r⟩=>⟨o,es,ep,base_of e (noA e d),d,r⟩;have nK : ∀ b o,K.lookup b=some o->H b=none:=fun b o e=>by
  cases q:H b with
  | none=>rfl
  | some u =>
  rw [hK b u q] at e;cases e
 have hKb:K.In (hidT s₁.heap H):=fun b o e=>base_of (KX b o e) (nK b o e);have hM:Mod K mg (hidT s₁.heap H):=⟨hKb,nsK hns,⟨mb,nsK hb,hbb⟩,let ⟨mc,h1,h2⟩:=hlim;⟨mc,nsK h1,h2⟩⟩;have e0:Env0 P w K mg (hidT s₁.heap H) callerA [] s₁ H:=⟨rfl,hM,fun b o e=>nK_ e,Nat.le_of_eq (kH_ _ _),trivial,fun b hb=>absurd (show b∈([]:List Addr) from hb) (by simp),hok,.of_eq hg⟩;have hl:vals.length=ps.length:=by rw [b6_ hwl];exact hlen
 refine codeAny_mono ((F _ hKb (nsK hns)).run callerA [] s₁ H ⟨vals,[]⟩ vals (vals.map toV) _ _ hr e0 (hbind s₁ vals hl) hV (hsp H _ hO hS)) fun r s' x=>?_;cases r with
 | error e=>exact (hCX H e s' x).elim
 | ok fl =>
 cases fl with
 | next=>exact False.elim x
 | brk=>exact False.elim x
 | cont=>exact False.elim x
 | ret u =>
 refine x_20 x fun v H' zy=>x_05 zy fun os bare un hok' r' q=>?_;have kept : ∀ b o,s₁.heap.get? b=some o->s'.heap.get? b=some o:=fun b o e=>by
  cases q2:H b with
  | none=>exact un.keep b o e q2 (by intro z;exact absurd (show b∈([]:List Addr) from z) (by simp)) (by simp)
  | some u2 =>
  rcases hO b with z | ⟨ob,u3,z⟩
  ·rw [q2] at z
   cases z
  have z2:=un.frzs b ob _ z;obtain ⟨e1,_⟩:=hok b _ z;obtain ⟨e2,_⟩:=hok' b _ z2;rw [e] at e1;cases e1;exact e2
 have KX':K.In s'.heap:=fun b o e=>kept b o (KX b o e);obtain ⟨as,hrd⟩:=Dw.reads (R:=R) (cl:=cl) hok' KX' d0 v u q r';exact ⟨u,as,rfl,hrd,OldK.of_keep kept,os,bare⟩
theorem e5_ {ds:List WData} (h:WData.layableAll ds=true) : ∀ d∈ds,d.weight<=1048576:=fun d hd =>
 (PySem.W.layableW_iff.mp (all_eq_true.mp h d hd)).2.2
theorem fv_ : ∀ (cs:List Codec) (a:Codec.denoteAll cs),(Codec.encAll cs a).length=cs.length
 | [],_=>rfl
 | c::cs,a=>by
  show (Codec.encAll cs a.2).length+1=cs.length+1;rw [fv_ cs a.2]
theorem jv_ {r:OpenSpec}{k:Nat}{q:Program}{loose:List Str}{XP:(zM)->Heap->Prop}{YP:World->Heap->Prop}{d:DefRec}{K:Params->Frag}{CX:World->CXT}{ps:List Str}{sp:World->Sp}
  (hwell:r.wellSaid=true) (hdf:d.params.defaults=[]) (hlen:r.args.length=ps.length) (hr:Room k callerA)
  (hY : ∀ (w:World) (h:Heap),YP w h->(K w.params).In h)
  (F : ∀ (w:World) (mg:zM) (fa:Addr) (h:Heap),YP w h->(K w.params).In h->h.Ns mainGlobals mg->mg d.name=some (.ref fa) ->
   ∃ fd:FuncData,(∀ (s:Shared) (us:List Value),us.length=ps.length->BindsTo s fd ⟨us,[]⟩ (ps.zip us)) /\
    ∀ base:Heap,(K w.params).In base->base.Ns mainGlobals mg->FnOk r.prog w (K w.params) mg base (CX w) k fa fd ps (sp w))
  (hsp : ∀ (w:World) (H:Hp) (xs:List V) (a:Codec.denoteAll r.args),lj_ H->Codec.withinAll r.args a=true->Codec.app r.args r.asked a=true->DwAll (K w.params) H xs (Codec.encAll r.args a) ->
   sp w xs H (fun v H'=>Dw (K w.params) H' v (r.ret.enc (Codec.app r.args r.f a))) fun _ _ _=>False)
  (hCX : ∀ (w:World) (H:Hp) (s:Shared) (e:Value) (s':Shared),CX w [] H s (fun _ _ _=>False) e s'->False) :
  PySem.W.WalkOS q loose XP YP r d [] (fun f vs=>PySem.call f vs):=by
 intro w s_0 s₁ mg mb G Y fa o pm cd doc dV kV ho hd hcd hD hmg hg args vals as hpre hlay hrd hwl hlo;obtain ⟨a,e1,e2⟩:=PySem.W.os_pre_some hpre;obtain ⟨e3,hwi⟩:=Codec.encAll_of_decAll r.args args a e1;subst e3;have KX:=hY w _ Y;obtain ⟨fd,hb,hF⟩:=F w mg fa _ Y KX G.T.g hmg;refine PySem.W.enter_call (codeAny_mono (jM_ (R:=[]) (cl:=classAt s_0.heap) (d0:=r.ret.enc (Codec.app r.args r.f a)) KX G.T.g G.T.b G.T.builtins G.T.nolimit hg hwl (gI_ _ _) (e5_ hlay) hr hF hb (by rw [fv_];exact hlen)
  (fun H xs hO hS=>hsp w H xs a hO hwi e2 hS) fun H e s'=>hCX w H s₁ e s') fun r' s' hq=>?_)
 obtain ⟨u,as',rfl,h1,h2,h3,h4⟩:=hq;exact ⟨.inl ⟨u,_,as',rfl,fun _=>rfl,h1,(OpenSpec.post_iff hwell hwi _ _).mpr rfl,fun z=>Bool.noConfusion (show false=true from z)⟩,h2,h3,h4⟩
theorem iJ_ {r:OpenSpec}{k:Nat}{q:Program}{loose:List Str}{XP:(zM)->Heap->Prop}{YP:World->Heap->Prop}{d:DefRec}{K:Params->Frag}{CX:CXT}{ps:List Str}{sp:Frag->Sp}
  (hwell:r.wellSaid=true) (hdf:d.params.defaults=[]) (hlen:r.args.length=ps.length) (hr:Room k callerA)
  (hY : ∀ (w:World) (h:Heap),YP w h->(K w.params).In h)
  (F : ∀ (w:World) (mg:zM) (fa:Addr) (h:Heap),YP w h->(K w.params).In h->h.Ns mainGlobals mg->mg d.name=some (.ref fa) ->
   ∃ fd:FuncData,(∀ (s:Shared) (us:List Value),us.length=ps.length->BindsTo s fd ⟨us,[]⟩ (ps.zip us)) /\
    ∀ base:Heap,(K w.params).In base->base.Ns mainGlobals mg->FnOk r.prog w (K w.params) mg base CX k fa fd ps (sp (K w.params)))
  (hsp : ∀ (K:Frag) (H:Hp) (xs:List V) (a:Codec.denoteAll r.args),lj_ H->Codec.withinAll r.args a=true->Codec.app r.args r.asked a=true->DwAll K H xs (Codec.encAll r.args a) ->
   sp K xs H (fun v H'=>Dw K H' v (r.ret.enc (Codec.app r.args r.f a))) fun _ _ _=>False)
  (hCX : ∀ (H:Hp) (s:Shared) (e:Value) (s':Shared),CX [] H s (fun _ _ _=>False) e s'->False) :
  PySem.W.WalkOS q loose XP YP r d [] (fun f vs=>PySem.call f vs) :=
 jv_ (K:=K) (CX:=fun _=>CX) (sp:=fun w=>sp (K w.params)) hwell hdf hlen hr hY F (fun w H xs a h1 h2 h3 h4=>hsp (K w.params) H xs a h1 h2 h3 h4) fun _ H s e s'=>hCX H s e s'
end L2
end
set_option maxHeartbeats 2000000
namespace M
open PySem PySem.Spec PyProof.Rows L2 TL
set_option hygiene false
local macro_rules
 | `(tactic| simp! [$l,*]) => `(tactic| ((try dsimp only [tRet,pu_,nc_,jI_,tC,tVar,tOp,tUn,rI0,rI,rU,lq_,isB,tB,tIfS,tIf,tAnd,tOr,tNot,or_,tOrV,pv_,tAsg,tCB,fG_,tNil,iM_,oq_,tAug,ipI,tSl,op_,jF_,tM0,tM1,rEq,rNe,tIsN,pw_,rIxS,rIxL,rIxT,rAll,rMax,rSum,rSlL,rSlS,rIn,tLst,tTup,iStr,l7_,iTup,tYes,if_true,if_false,ite_true,ite_false,dQ_,cx_K,cx_P,cx_w,pF_,n6_,cx_N,wipe,L2.start,map_cons,map_nil,cons_append,nil_append,List.getElem?_cons_zero,List.getElem?_cons_succ,List.set_cons_zero,List.set_cons_succ,$(⟨l.elemsAndSeps⟩),*]);(try simp only [no_,nn_,np_,map_cons,map_nil,length_cons,length_nil,List.replicate,cons_append,nil_append,append_nil,List.getElem?_cons_zero,List.getElem?_cons_succ,List.set_cons_zero,List.set_cons_succ,Nat.reduceSub,Nat.reduceAdd,add_zero,zero_add,Option.some.injEq,V.int.injEq,V.bl.injEq,V.str.injEq,V.ref.injEq,List.cons.injEq,and_true,true_and,exists_eq_left,exists_eq_left',exists_and_left,exists_eq,exists_eq',reduceCtorEq,false_and,false_eq_true,if_true,if_false,ite_true,ite_false,decide_eq_true_eq,nH_,nI_,S_eq,a5_,and_assoc,natCast_inj,ad_,er_,HO.ins.injEq,List.zip_cons_cons,List.zip_nil_left,List.zip_nil_right,$l,*])))
set_option hygiene true
def top (i:Nat):Stmt:=PySem.Challenge.pw_measuretext_s09_plain.main.body.getD i (.Pass ⟨0,0,0,0⟩)
abbrev s_G:Stmt:=top 10
theorem sc_G:FnScope ["term","found","todo","item","part"] ["term"] (ag_ s_G):=by right
abbrev s_ab:Stmt:=top 11
theorem sc_ab:FnScope ["term","number","item"] ["term"] (ag_ s_ab):=by right
abbrev s_aj:Stmt:=top 12
theorem sc_aj:FnScope ["term"] ["term"] (ag_ s_aj):=by right
abbrev s_H:Stmt:=top 13
theorem sc_H:FnScope ["whole","pieces_of","shown","todo","item","piece"] ["whole","pieces_of"] (ag_ s_H):=by right
abbrev s_I:Stmt:=top 14
theorem sc_I:FnScope ["node","pieces","content"] ["node"] (ag_ s_I):=by right
abbrev s_t:Stmt:=top 15
theorem sc_t:FnScope ["node","found","words","kind"] ["node"] (ag_ s_t):=by right
abbrev s_y:Stmt:=top 17
theorem sc_y:FnScope ["term","found","todo","item","node","bound","content"] ["term"] (ag_ s_y):=by right
abbrev s_ak:Stmt:=top 20
theorem sc_ak:FnScope ["term"] ["term"] (ag_ s_ak):=by right
abbrev s_B:Stmt:=top 21
theorem sc_B:FnScope ["term","away","fresh","whole","todo","item","name"] ["term","away"] (ag_ s_B):=by right
abbrev s_C:Stmt:=top 22
theorem sc_C:FnScope ["todo","item","node","copied","within","content","renamed"] ["todo","item"] (ag_ s_C):=by right
abbrev s_al:Stmt:=top 23
theorem sc_al:FnScope ["node","renamed"] ["node","renamed"] (ag_ s_al):=by right
abbrev s_J:Stmt:=top 35
theorem sc_J:FnScope ["byte"] ["byte"] (ag_ s_J):=by right
abbrev s_m:Stmt:=top 36
theorem sc_m:FnScope ["byte"] ["byte"] (ag_ s_m):=by right
abbrev s_D:Stmt:=top 37
theorem sc_D:FnScope ["byte"] ["byte"] (ag_ s_D):=by right
abbrev s_K:Stmt:=top 38
theorem sc_K:FnScope ["text","sign"] ["text"] (ag_ s_K):=by right
abbrev s_Q:Stmt:=top 39
theorem sc_Q:FnScope ["byte"] ["byte"] (ag_ s_Q):=by right
abbrev s_R:Stmt:=top 40
theorem sc_R:FnScope ["byte"] ["byte"] (ag_ s_R):=by right
abbrev s_o:Stmt:=top 41
theorem sc_o:FnScope ["text","place","belongs"] ["text","place","belongs"] (ag_ s_o):=by right
abbrev s_am:Stmt:=top 42
theorem sc_am:FnScope ["byte"] ["byte"] (ag_ s_am):=by right
abbrev s_q:Stmt:=top 43
theorem sc_q:FnScope ["some_bytes","byte"] ["some_bytes"] (ag_ s_q):=by right
abbrev s_ac:Stmt:=top 49
theorem sc_ac:FnScope ["text","begin","end"] ["text","begin"] (ag_ s_ac):=by right
abbrev s_L:Stmt:=top 50
theorem sc_L:FnScope ["spelling","divided","rows","row"] ["spelling"] (ag_ s_L):=by right
abbrev s_u:Stmt:=top 51
theorem sc_u:FnScope ["over","under","divisor"] ["over","under"] (ag_ s_u):=by right
abbrev s_S:Stmt:=top 52
theorem sc_S:FnScope ["first","second","remainder"] ["first","second"] (ag_ s_S):=by right
abbrev s_T:Stmt:=top 53
theorem sc_T:FnScope ["measure","factor"] ["measure"] (ag_ s_T):=by right
abbrev s_U:Stmt:=top 54
theorem sc_U:FnScope ["factor","halves"] ["factor"] (ag_ s_U):=by right
abbrev s_V:Stmt:=top 55
theorem sc_V:FnScope ["power","digits","sign"] ["power"] (ag_ s_V):=by right
abbrev s_an:Stmt:=top 56
theorem sc_an:FnScope ["amount","measure"] ["amount","measure"] (ag_ s_an):=by right
abbrev s_ao:Stmt:=top 57
theorem sc_ao:FnScope ["amount"] ["amount"] (ag_ s_ao):=by right
abbrev s_E:Stmt:=top 58
theorem sc_E:FnScope ["amount","shown"] ["amount"] (ag_ s_E):=by right
abbrev s_ap:Stmt:=top 66
theorem sc_ap:FnScope ["text"] ["text"] (ag_ s_ap):=by right
abbrev s_M:Stmt:=top 67
theorem sc_M:FnScope ["text","gap_end","token_at","found","place","token"] ["text","gap_end","token_at"] (ag_ s_M):=by right
abbrev s_W:Stmt:=top 68
theorem sc_W:FnScope ["text","place"] ["text","place"] (ag_ s_W):=by right
abbrev s_N:Stmt:=top 69
theorem sc_N:FnScope ["text","begin","digits"] ["text","begin"] (ag_ s_N):=by right
abbrev s_X:Stmt:=top 70
theorem sc_X:FnScope ["text","begin","end","word","kind"] ["text","begin"] (ag_ s_X):=by right
abbrev s_v:Stmt:=top 71
theorem sc_v:FnScope ["text","begin","digits","end","amount","measure","kind"] ["text","begin","digits"] (ag_ s_v):=by right
abbrev s_ad:Stmt:=top 72
theorem sc_ad:FnScope ["text","begin","end","measure"] ["text","begin"] (ag_ s_ad):=by right
abbrev s_ae:Stmt:=top 73
theorem sc_ae:FnScope ["text","begin","signs","sign"] ["text","begin","signs"] (ag_ s_ae):=by right
abbrev s_z:Stmt:=top 76
theorem sc_z:FnScope ["text","row","whole","todo","term"] ["text"] (ag_ s_z):=by right
abbrev s_ai:Stmt:=top 77
theorem sc_ai:FnScope ["row","todo","step","owner"] ["row","todo","step"] (ag_ s_ai):=by right
abbrev s_Y:Stmt:=top 78
theorem sc_Y:FnScope ["row","todo","step","node","kind"] ["row","todo","step"] (ag_ s_Y):=by right
abbrev s_Z:Stmt:=top 79
theorem sc_Z:FnScope ["row","begin","form"] ["row"] (ag_ s_Z):=by right
abbrev s_aq:Stmt:=top 80
theorem sc_aq:FnScope ["token"] ["token"] (ag_ s_aq):=by right
abbrev s_j:Stmt:=top 85
theorem sc_j:FnScope ["text"] ["text"] (ag_ s_j):=by right
abbrev s_af:Stmt:=top 86
theorem sc_af:FnScope ["text","reading","answering","found","fault"] ["text","reading","answering"] (ag_ s_af):=by right
abbrev s_ag:Stmt:=top 87
theorem sc_ag:FnScope ["term"] ["term"] (ag_ s_ag):=by right
abbrev s_ar:Stmt:=top 88
theorem sc_ar:FnScope ["shown"] ["shown"] (ag_ s_ar):=by right
abbrev s_ah:Stmt:=top 89
theorem sc_ah:FnScope ["shown","sign"] ["shown"] (ag_ s_ah):=by right
abbrev s_n:Stmt:=bF_ (top 1) 0
theorem sc_n:FnScope ["self","kind","place"] ["self","kind","place"] (ag_ s_n):=by right
abbrev s_r:Stmt:=bF_ (top 9) 0
theorem sc_r:FnScope ["self","form","words","parts","begin","end"] ["self","form","words","parts","begin","end"] (ag_ s_r):=by right
abbrev s_O:Stmt:=bF_ (top 18) 0
theorem sc_O:FnScope ["self","away"] ["self","away"] (ag_ s_O):=by right
abbrev s_s:Stmt:=bF_ (top 18) 1
theorem sc_s:FnScope ["self","name"] ["self"] (ag_ s_s):=by right
abbrev s_F:Stmt:=bF_ (top 19) 0
theorem sc_F:FnScope ["self","kind","content","owner","renamed"] ["self","kind","content","owner","renamed"] (ag_ s_F):=by right
abbrev s_A:Stmt:=bF_ (top 48) 0
theorem sc_A:FnScope ["self","over","under","measure"] ["self","over","under","measure"] (ag_ s_A):=by right
abbrev s_w:Stmt:=bF_ (top 64) 0
theorem sc_w:FnScope ["self","group","kind","begin","end","content"] ["self","group","kind","begin","end","content"] (ag_ s_w):=by right
abbrev s_P:Stmt:=bF_ (top 65) 0
theorem sc_P:FnScope ["self","found","length"] ["self","found","length"] (ag_ s_P):=by right
abbrev s_k:Stmt:=bF_ (top 65) 1
theorem sc_k:FnScope ["self"] ["self"] (ag_ s_k):=by right
abbrev s_l:Stmt:=bF_ (top 65) 2
theorem sc_l:FnScope ["self","token"] ["self"] (ag_ s_l):=by right
abbrev s_p:Stmt:=bF_ (top 65) 3
theorem sc_p:FnScope ["self","kind"] ["self","kind"] (ag_ s_p):=by right
abbrev s_x:Stmt:=bF_ (top 75) 0
theorem sc_x:FnScope ["self","kind","owner","depth"] ["self","kind","owner","depth"] (ag_ s_x):=by right
set_option genInjectivity false in
set_option genSizeOfSpec false in
set_option genSizeOf false in
structure TA where
 (a_au a_as a_aa a_a a_av a_aw a_at C_d f_n C_b f_r C_i f_O f_s C_h f_F C_e f_A C_c f_w C_f f_P f_k f_l f_p C_g f_x f_G f_ab f_aj f_H f_I f_t f_y f_ak f_B f_C f_al f_J f_m f_D f_K f_Q f_R f_o f_am f_q f_ac f_L f_u f_S f_T f_U f_V f_an f_ao f_E f_ap f_M f_W f_N f_X f_v f_ad f_ae f_z f_ai f_Y f_Z f_aq f_j f_af f_ag f_ar f_ah:Addr)
 (d_n d_r d_O d_s d_F d_A d_w d_P d_k d_l d_p d_x d_G d_ab d_aj d_H d_I d_t d_y d_ak d_B d_C d_al d_J d_m d_D d_K d_Q d_R d_o d_am d_q d_ac d_L d_u d_S d_T d_U d_V d_an d_ao d_E d_ap d_M d_W d_N d_X d_v d_ad d_ae d_z d_ai d_Y d_Z d_aq d_j d_af d_ag d_ar d_ah:FuncData)
structure TX (w:World) (K:Frag) (mg:zM) (J:TA):Prop where
 g_aJ : ∃ u,mg "MOST_DEPTH"=some u/\RelV (.int 40) u
 g_aW : ∃ u,mg "MOST_NODES"=some u/\RelV (.int 300) u
 g_au:mg "SPELLED_FORMS"=some (.ref J.a_au)
 t_au : ∀ H,SqT K H J.a_au [V.str "name",V.str "number"]
 g_as:mg "PLAIN_FORMS"=some (.ref J.a_as)
 t_as : ∀ H,SqT K H J.a_as [V.str "true",V.str "false",V.str "nil"]
 g_aa:mg "PART_KINDS"=some (.ref J.a_aa)
 t_aa : ∀ H,SqT K H J.a_aa [V.str "part",V.str "body"]
 g_a:mg "FORMS"=some (.ref J.a_a)
 t_a:ms_ w K J.a_a
 g_aX : ∃ u,mg "BLANK"=some u/\RelV (.int 32) u
 g_aY : ∃ u,mg "MEASURE_BEGIN"=some u/\RelV (.int 91) u
 g_aZ : ∃ u,mg "MEASURE_END"=some u/\RelV (.int 93) u
 g_a0 : ∃ u,mg "MINUS"=some u/\RelV (.int 45) u
 g_av:mg "FRACTION_SIGNS"=some (.ref J.a_av)
 t_av : ∀ H,SqT K H J.a_av [V.int 46,V.int 47]
 g_aK : ∃ u,mg "FIRST_PRINTED"=some u/\RelV (.int 32) u
 g_a1 : ∃ u,mg "LAST_PRINTED"=some u/\RelV (.int 126) u
 g_aL : ∃ u,mg "MOST_SIGNS"=some u/\RelV (.int 12) u
 g_a2 : ∃ u,mg "PRINTED"=some u/\RelV (.str " !\"#$?&'()*+,-./0123456789:;<=>?@ABCDEFGHIJKLMNOPQRSTUVWXYZ[\\]^_`abcdefghijklmnopqrstuvwxyz{|}~") u
 g_aw:mg "TAKEN_WORDS"=some (.ref J.a_aw)
 t_aw : ∀ H,SqT K H J.a_aw [V.str "fn",V.str "let",V.str "rec",V.str "if",V.str "cons",V.str "case",V.str "pair",V.str "fst",V.str "snd",V.str "fold",V.str "root",V.str "floor",V.str "rest",V.str "true",V.str "false",V.str "nil",V.str "truth",V.str "num",V.str "list",V.str "base",V.str "unit",V.str "def",V.str "fun",V.str "in",V.str "then",V.str "else",V.str "match",V.str "with",V.str "and",V.str "or",V.str "not"]
 g_a3 : ∃ u,mg "MOST_DIGITS"=some u/\RelV (.int 12) u
 g_aM : ∃ u,mg "FIRST_TOO_GREAT"=some u/\RelV (.int 1000000000000) u
 g_a4 : ∃ u,mg "MOST_POWER_DIGITS"=some u/\RelV (.int 2) u
 g_a5 : ∃ u,mg "WORD_GROUP"=some u/\RelV (.int 0) u
 g_a6 : ∃ u,mg "NUMBER_GROUP"=some u/\RelV (.int 1) u
 g_aN : ∃ u,mg "SIGN_GROUP"=some u/\RelV (.int 2) u
 g_at:mg "CORE_SIGNS"=some (.ref J.a_at)
 t_at : ∀ H,SqT K H J.a_at [V.str "(",V.str ")",V.str "+",V.str "-",V.str "*",V.str "/",V.str "^",V.str "<",V.str "="]
 g_aO : ∃ u,mg "MOST_BYTES"=some u/\RelV (.int 2000) u
 g_a7 : ∃ u,mg "TEXT_TOO_LONG"=some u/\RelV (.int (-1)) u
 g_a8 : ∃ u,mg "TOO_GREAT"=some u/\RelV (.int (-4)) u
 b_all:mg "all"=none
 b_dict:mg "dict"=none
 b_enumerate:mg "enumerate"=none
 b_int:mg "int"=none
 b_isinstance:mg "isinstance"=none
 b_len:mg "len"=none
 b_list:mg "list"=none
 b_max:mg "max"=none
 b_ord:mg "ord"=none
 b_reversed:mg "reversed"=none
 b_str:mg "str"=none
 b_tuple:mg "tuple"=none
 G_d:mg "Fault"=some (.ref J.C_d)
 F_n:Fun K "__init__" "Fault.__init__" s_n J.f_n J.d_n
 b_n:bb_ K J.d_n ["self","kind","place"] []
 X_d:XCls K J.C_d J.f_n
 n_bb:aC_ K J.C_d "kind"
 n_bc:aC_ K J.C_d "place"
 G_b:mg "Node"=some (.ref J.C_b)
 F_r:Fun K "__init__" "Node.__init__" s_r J.f_r J.d_r
 b_r:bb_ K J.d_r ["self","form","words","parts","begin","end"] []
 cl_b:Cls K J.C_b
 M_b:Mk K J.C_b J.f_r
 ns_b:NotStr K J.C_b
 n_ay:aC_ K J.C_b "form"
 n_ax:aC_ K J.C_b "words"
 n_aB:aC_ K J.C_b "parts"
 n_aF:aC_ K J.C_b "begin"
 n_aP:aC_ K J.C_b "end"
 G_i:mg "FreshNames"=some (.ref J.C_i)
 F_O:Fun K "__init__" "FreshNames.__init__" s_O J.f_O J.d_O
 b_O:bb_ K J.d_O ["self","away"] []
 F_s:Fun K "take" "FreshNames.take" s_s J.f_s J.d_s
 b_s:bb_ K J.d_s ["self"] []
 m_s:Meth K J.C_i "take" J.f_s
 cl_i:Cls K J.C_i
 M_i:Mk K J.C_i J.f_O
 n_bd:aC_ K J.C_i "away"
 n_aG:aC_ K J.C_i "tried"
 G_h:mg "Uncopied"=some (.ref J.C_h)
 F_F:Fun K "__init__" "Uncopied.__init__" s_F J.f_F J.d_F
 b_F:bb_ K J.d_F ["self","kind","content","owner","renamed"] []
 cl_h:Cls K J.C_h
 M_h:Mk K J.C_h J.f_F
 n_aC:aC_ K J.C_h "kind"
 n_aQ:aC_ K J.C_h "content"
 n_aR:aC_ K J.C_h "owner"
 n_aH:aC_ K J.C_h "renamed"
 G_e:mg "Amount"=some (.ref J.C_e)
 F_A:Fun K "__init__" "Amount.__init__" s_A J.f_A J.d_A
 b_A:bb_ K J.d_A ["self","over","under","measure"] []
 cl_e:Cls K J.C_e
 M_e:Mk K J.C_e J.f_A
 n_aS:aC_ K J.C_e "over"
 n_aI:aC_ K J.C_e "under"
 n_aT:aC_ K J.C_e "measure"
 G_c:mg "Token"=some (.ref J.C_c)
 F_w:Fun K "__init__" "Token.__init__" s_w J.f_w J.d_w
 b_w:bb_ K J.d_w ["self","group","kind","begin","end","content"] []
 cl_c:Cls K J.C_c
 M_c:Mk K J.C_c J.f_w
 n_bf:aC_ K J.C_c "group"
 n_az:aC_ K J.C_c "kind"
 n_aD:aC_ K J.C_c "begin"
 n_aU:aC_ K J.C_c "end"
 n_aE:aC_ K J.C_c "content"
 G_f:mg "Row"=some (.ref J.C_f)
 F_P:Fun K "__init__" "Row.__init__" s_P J.f_P J.d_P
 b_P:bb_ K J.d_P ["self","found","length"] []
 F_k:Fun K "upcoming" "Row.upcoming" s_k J.f_k J.d_k
 b_k:bb_ K J.d_k ["self"] []
 m_k:Meth K J.C_f "upcoming" J.f_k
 F_l:Fun K "take" "Row.take" s_l J.f_l J.d_l
 b_l:bb_ K J.d_l ["self"] []
 m_l:Meth K J.C_f "take" J.f_l
 F_p:Fun K "take_kind" "Row.take_kind" s_p J.f_p J.d_p
 b_p:bb_ K J.d_p ["self","kind"] []
 m_p:Meth K J.C_f "take_kind" J.f_p
 cl_f:Cls K J.C_f
 M_f:Mk K J.C_f J.f_P
 n_be:aC_ K J.C_f "ahead"
 n_a9:aC_ K J.C_f "index"
 G_g:mg "Step"=some (.ref J.C_g)
 F_x:Fun K "__init__" "Step.__init__" s_x J.f_x J.d_x
 b_x:bb_ K J.d_x ["self","kind","owner","depth"] []
 cl_g:Cls K J.C_g
 M_g:Mk K J.C_g J.f_x
 n_aA:aC_ K J.C_g "kind"
 n_ba:aC_ K J.C_g "owner"
 n_aV:aC_ K J.C_g "depth"
 F_G:FG K mg "numbered" s_G ["term"] J.f_G J.d_G
 F_ab:FG K mg "check_limits" s_ab ["term"] J.f_ab J.d_ab
 F_aj:FG K mg "core_text" s_aj ["term"] J.f_aj J.d_aj
 F_H:FG K mg "unfolded" s_H ["whole","pieces_of"] J.f_H J.d_H
 F_I:FG K mg "core_pieces" s_I ["node"] J.f_I J.d_I
 F_t:FG K mg "contents" s_t ["node"] J.f_t J.d_t
 F_y:FG K mg "free_names" s_y ["term"] J.f_y J.d_y
 F_ak:FG K mg "plain_form" s_ak ["term"] J.f_ak J.d_ak
 F_B:FG K mg "plain_form_away" s_B ["term","away"] J.f_B J.d_B
 F_C:FG K mg "copy_node" s_C ["todo","item"] J.f_C J.d_C
 F_al:FG K mg "leaf_words" s_al ["node","renamed"] J.f_al J.d_al
 F_J:FG K mg "is_letter" s_J ["byte"] J.f_J J.d_J
 F_m:FG K mg "is_digit" s_m ["byte"] J.f_m J.d_m
 F_D:FG K mg "is_in_word" s_D ["byte"] J.f_D J.d_D
 F_K:FG K mg "is_short_word" s_K ["text"] J.f_K J.d_K
 F_Q:FG K mg "is_blank" s_Q ["byte"] J.f_Q J.d_Q
 F_R:FG K mg "is_before_measure_end" s_R ["byte"] J.f_R J.d_R
 F_o:FG K mg "run_end" s_o ["text","place","belongs"] J.f_o J.d_o
 F_am:FG K mg "sign_of" s_am ["byte"] J.f_am J.d_am
 F_q:FG K mg "signs_of" s_q ["some_bytes"] J.f_q J.d_q
 F_ac:FG K mg "number_end" s_ac ["text","begin"] J.f_ac J.d_ac
 F_L:FG K mg "fraction_of" s_L ["spelling"] J.f_L J.d_L
 F_u:FG K mg "lowest" s_u ["over","under"] J.f_u J.d_u
 F_S:FG K mg "common_divisor" s_S ["first","second"] J.f_S J.d_S
 F_T:FG K mg "is_measure" s_T ["measure"] J.f_T J.d_T
 F_U:FG K mg "is_factor" s_U ["factor"] J.f_U J.d_U
 F_V:FG K mg "is_power" s_V ["power"] J.f_V J.d_V
 F_an:FG K mg "measured" s_an ["amount","measure"] J.f_an J.d_an
 F_ao:FG K mg "negated" s_ao ["amount"] J.f_ao J.d_ao
 F_E:FG K mg "amount_text" s_E ["amount"] J.f_E J.d_E
 F_ap:FG K mg "core_tokens" s_ap ["text"] J.f_ap J.d_ap
 F_M:FG K mg "tokens_between" s_M ["text","gap_end","token_at"] J.f_M J.d_M
 F_W:FG K mg "core_gap_end" s_W ["text","place"] J.f_W J.d_W
 F_N:FG K mg "core_token" s_N ["text","begin"] J.f_N J.d_N
 F_X:FG K mg "word_token" s_X ["text","begin"] J.f_X J.d_X
 F_v:FG K mg "number_token" s_v ["text","begin","digits"] J.f_v J.d_v
 F_ad:FG K mg "measure_at" s_ad ["text","begin"] J.f_ad J.d_ad
 F_ae:FG K mg "sign_token" s_ae ["text","begin","signs"] J.f_ae J.d_ae
 F_z:FG K mg "core_term" s_z ["text"] J.f_z J.d_z
 F_ai:FG K mg "go_on" s_ai ["row","todo","step"] J.f_ai J.d_ai
 F_Y:FG K mg "begin_term" s_Y ["row","todo","step"] J.f_Y J.d_Y
 F_Z:FG K mg "bracket_begin" s_Z ["row"] J.f_Z J.d_Z
 F_aq:FG K mg "leaf" s_aq ["token"] J.f_aq J.d_aq
 F_j:FG K mg "plain" s_j ["text"] J.f_j J.d_j
 F_af:FG K mg "answered" s_af ["text","reading","answering"] J.f_af J.d_af
 F_ag:FG K mg "plain_answer" s_ag ["term"] J.f_ag J.d_ag
 F_ar:FG K mg "text_answer" s_ar ["shown"] J.f_ar J.d_ar
 F_ah:FG K mg "bytes_of" s_ah ["shown"] J.f_ah J.d_ah
section
variable {P:Program}{w:World}{K:Frag}{mg:zM}{base:Heap}{J:TA}
theorem dq_ {C:Addr}{names:List Str}{vs:List V}{H:Hp}{Q:VK}{E:XK} (h:bA_ C names vs H Q E):vs.length=names.length+1:=by
 obtain ⟨p,dx,args,rfl,hl,_⟩:=h;rw [length_cons,hl]
theorem ok_J (T:TX w K mg J):FnOk P w K mg base CX0 1 J.f_J J.d_J ["byte"] (spB Vaunid.isSmall):=by
 refine T.F_J.fn.ok sc_J fun _ _ _ _ H _ Q E hr h=>?_;obtain ⟨n,rfl,k⟩:=h;refine ⟨_,(ae_ (an_ (ij_ iW_ iW_ ak_ (pv 0) ak_))),?_⟩;simp! [tSeq];have e:Vaunid.isSmall n=(decide ((97:Int)<=n) && decide ((n:Int)<=122)):=by unfold Vaunid.isSmall;congr 1 <;> exact decide_eq_decide.mpr (by omega)
 rw [e] at k;split <;> rename_i q <;> simpa [q] using k
theorem ok_m (T:TX w K mg J):FnOk P w K mg base CX0 1 J.f_m J.d_m ["byte"] (spB Vaunid.isDigit):=by
 refine T.F_m.fn.ok sc_m fun _ _ _ _ H _ Q E hr h=>?_;obtain ⟨n,rfl,k⟩:=h;refine ⟨_,(ae_ (an_ (ij_ iW_ iW_ ak_ (pv 0) ak_))),?_⟩;simp! [tSeq];have e:Vaunid.isDigit n=(decide ((48:Int)<=n) && decide ((n:Int)<=57)):=by unfold Vaunid.isDigit;congr 1 <;> exact decide_eq_decide.mpr (by omega)
 rw [e] at k;split <;> rename_i q <;> simpa [q] using k
theorem ok_D (T:TX w K mg J):FnOk P w K mg base CX0 2 J.f_D J.d_D ["byte"] (spB Vaunid.inWord):=by
 refine T.F_D.fn.ok sc_D fun _ _ _ _ H _ Q E hr h=>?_;obtain ⟨n,rfl,k⟩:=h;refine ⟨_,(ae_ (an_ (oQ_ (aF_ T.F_J (ok_J T) hr.m aq_ (aa_ (pv 0) ac_)) (oQ_ (aF_ T.F_m (ok_m T) hr.m aq_ (aa_ (pv 0) ac_)) (mO_ (fO_ bB_ (pv 0) ak_ (aw_ _))))))),?_⟩;simp! [tSeq,spB,natCast_inj];have e:decide ((n:Int)=95)=(n == 95):=hF_ n 95;unfold Vaunid.inWord at k;rw [e];cases h1:Vaunid.isSmall n <;> cases h2:Vaunid.isDigit n <;> rw [h1,h2] at k <;> simpa using k
def ng_:Sp:=fun vs H Q _=>∃ l:List Nat,vs=[.str (S l)]/\l.length<=sizeLine/\∀ H',Same H H'->Q (.bl (az_ l)) H'
theorem ok_K (T:TX w K mg J):FnOk P w K mg base CX0 3 J.f_K J.d_K ["text"] ng_:=by
 refine T.F_K.fn.ok sc_K fun _ _ _ _ H _ Q E hr h=>?_;obtain ⟨l,rfl,hl,k⟩:=h;refine ⟨_,(ab_ (aJ_ (PW.pt (pw_or (al_ bB_ (pv 0) as_ (aw_ _)) (pw_or (al_ gO_ (aD_ aX_ rfl T.b_len PySem.boot_len (aa_ (pv 0) ac_)) (pe_g T.g_aL) (aw_ _)) (pw_or1 (mK_ (cU_ (aF_ T.F_J (ok_J T) hr.m aq_ (aa_ (aD_ el_ rfl T.b_ord dA_ (aa_ (aY_ mR_ (pv 0) ak_ (fun _ _=>rfl)) ac_)) ac_)))))))) (ae_ (an_ iS_)) ar_)
  (ae_ (an_ (aD_ (mZ_ rfl) rfl T.b_all ha_ (aa_ (kf_ rfl sc_K.nd (kc_ (pv 0)) (dB_ (own:=[("sign",1)]) (by kernel_rfl)) (fun _ _ _ _ _=>pg_q 1 sc_K.nd) (fun _ _ _ _ _=>eI_) (fun _ _ _ _ _=>(aF_ T.F_D (ok_D T) hr.m aq_ (aa_ (aD_ el_ rfl T.b_ord dA_ (aa_ (pv 1) ac_)) ac_)))) ac_))))),?_⟩
 simp! [tSeq,spB,natCast_inj];have k0:=k H (Same.refl H)
 match l,hl,k,k0 with
 | [],hl,k,k0 =>
  exact ite2 (fun _=>k0) fun z=>absurd rfl z
 | c::r,hl,k,k0 =>
  rw [if_neg (by intro z;cases z)];refine ⟨hl,ite2 (fun h=>?_) fun h=>⟨hl,c,bt_ (j:=0) rfl,ite2 (fun h2=>?_) fun h2=>?_⟩⟩
  ·have e:az_ (c::r)=false:=by
    unfold az_;rw [decide_eq_false (by omega)];simp
   rw [e] at k0;exact k0
  ·have e:az_ (c::r)=false:=by
    have h3:Vaunid.isSmall c=false:=by simpa using h2
    unfold az_;rw [headD_cons,h3];simp
   rw [e] at k0;exact k0
  have h3:Vaunid.isSmall c=true:=by simpa using h2
  refine gp_ (Its (S (c::r))) ((c::r).map fun d=>V.str ⟨#[d]⟩) (fun v=>match v with | .str x=>V.bl (Vaunid.inWord (x.cps.getD 0 0)) | _ => .non) (H1:=H) (fun R h=>?_) (by rw [length_map];exact hl) (kM_ (x:=S (c::r))) (fun x H' D acc Nx hx sm hD hacc nx=>?_) fun D H' hD sm e=>?_
  ·simp! [tSeq]
   exact h
  ·obtain ⟨d,hd,rfl⟩:=mem_map.mp hx
   simp! [tSeq,spB,natCast_inj];exact ⟨acc,hD,hacc,nx H' (Same.refl _)⟩
  simp! [tSeq];refine ⟨(c::r).map Vaunid.inWord,SqL.of ?_,?_⟩
  ·rw [e,map_map,map_map]
   rfl
  have e2:az_ (c::r)=((c::r).map Vaunid.inWord).all id:=by
   unfold az_;rw [headD_cons,h3,decide_eq_true (by omega),all_map];rfl
  rw [<- e2];exact k H' sm
theorem ok_Q (T:TX w K mg J):FnOk P w K mg base CX0 1 J.f_Q J.d_Q ["byte"] (spB fun c=>c == 32):=by
 refine T.F_Q.fn.ok sc_Q fun _ _ _ _ H _ Q E hr h=>?_;obtain ⟨n,rfl,k⟩:=h;refine ⟨_,(ae_ (an_ (fO_ bB_ (pv 0) (pe_g T.g_aX) (aw_ _)))),?_⟩;simp! [tSeq];have e:decide ((n:Int)=32)=(n == 32):=hF_ n 32;rw [e];exact k
theorem ok_R (T:TX w K mg J):FnOk P w K mg base CX0 1 J.f_R J.d_R ["byte"] (spB fun c=>c != 93):=by
 refine T.F_R.fn.ok sc_R fun _ _ _ _ H _ Q E hr h=>?_;obtain ⟨n,rfl,k⟩:=h;refine ⟨_,(ae_ (an_ (fO_ iT_ (pv 0) (pe_g T.g_aZ) (aw_ _)))),?_⟩;simp! [tSeq];have e:decide ((n:Int)=93)=(n == 93):=hF_ n 93;rw [e];exact k
def jN_ (P:Program) (w:World) (K:Frag) (mg:zM) (base:Heap):Sp:=fun vs H Q _=>∃ (a f:Addr) (t:List Nat) (p:Nat) (b:Nat->Bool),vs=[.ref a,.int (p:Int),.ref f]/\SqL K H a (bs t)/\li_ P w K mg base 2 f b /\
 Q (.int ((p+((t.drop p).takeWhile b).length:Nat):Int)) H
theorem ok_o (T:TX w K mg J):FnOk P w K mg base CX0 3 J.f_o J.d_o ["text","place","belongs"] (jN_ P w K mg base):=by
 refine T.F_o.fn.ok sc_o fun _ _ _ _ H _ Q E hr h=>?_;obtain ⟨a,f,t,p,b,rfl,ht,⟨fd,ps,F,hb,hk⟩,k⟩:=h;refine ⟨_,(ab_ (bI_ PassesOwn.never (PW.pt (pw_and (al_ iV_ (pv 1) (aD_ aP_ rfl T.b_len PySem.boot_len (aa_ (pv 0) ac_)) (aw_ _)) (pw_and1 (cU_ (ca_ (CX:=CX0) (k:=2) 2 hr.m aq_ (aa_ (aY_ aN_ (pv 0) (pv 1) (fun _ _=>rfl)) ac_)))))) (ae_ (mM_ (i:=1) sc_o.nd rfl (Or.inl rfl) ak_ mS_)))
  (ae_ (an_ (pv 1)))),?_⟩
 simp! [tSeq];obtain ⟨Pv,hPv⟩ : ∃ Pv:Nat->L2.St->Hp->Prop,Pv=fun m σ H'=>H'=H/\∃ j,m=t.length - (p+j)/\σ=[some (.ref a),some (.int ((p+j:Nat):Int)),some (.ref f)]/\((t.drop p).takeWhile b).length=j+((t.drop (p+j)).takeWhile b).length:=⟨_,rfl⟩;refine b5_ Pv _ (by rw [hPv];exact ⟨rfl,0,rfl,rfl,by simp⟩) fun m σ H' hp=>?_;rw [hPv] at hp;obtain ⟨rfl,j,rfl,rfl,hj⟩:=hp;simp! [tSeq,ex_];refine ⟨bs t,.inl ht,ite2 (fun h=>?_) fun h=>?_⟩
 ·rw [b3_] at h
  have hlt:p+j<t.length:=by omega
  refine ⟨fd,ps,spB b,F,hb,hk,bs t,ht,_,bt_ (d1_ (getElem?_eq_getElem hlt)),?_⟩;simp! [tSeq,spB,natCast_inj];have hd:t.drop (p+j)=t[p+j]::t.drop (p+j+1):=drop_eq_getElem_cons hlt;rw [hd,takeWhile_cons] at hj;refine cc_ (fun q=>⟨_,fun _ _ z=>z,t.length - (p+(j+1)),by omega,?_⟩) fun q=>?_
  ·rw [hPv]
   refine ⟨rfl,j+1,rfl,?_,?_⟩
   ·have e:((p+j:Nat):Int)+1=((p+(j+1):Nat):Int):=by omega
    rw [e]
   rw [q,if_pos rfl,length_cons] at hj;rw [hj,show p+(j+1)=p+j+1 by omega];omega
  rw [q,if_neg (by simp)] at hj;have e:p+(List.takeWhile b (List.drop p t)).length=p+j:=by rw [hj];rfl
  rw [e] at k;exact k
 rw [b3_] at h;have hd:t.drop (p+j)=[]:=drop_eq_nil_of_le (by omega);rw [hd] at hj;have e:p+(List.takeWhile b (List.drop p t)).length=p+j:=by rw [hj];rfl
 rw [e] at k;exact k
def mC_:Sp:=fun vs H Q _=>∃ n:Nat,vs=[.int (n:Int)]/\Q (.str ⟨#[sgn n]⟩) H
theorem iQ_ (n:Nat) (h1:32<=n) (h2:n<=126):(tl (ofString " !\"#$?&'()*+,-./0123456789:;<=>?@ABCDEFGHIJKLMNOPQRSTUVWXYZ[\\]^_`abcdefghijklmnopqrstuvwxyz{|}~"))[n - 32]? = some (sgn n):=by
 have key : ∀ m:Fin 95,(tl (ofString " !\"#$?&'()*+,-./0123456789:;<=>?@ABCDEFGHIJKLMNOPQRSTUVWXYZ[\\]^_`abcdefghijklmnopqrstuvwxyz{|}~"))[m.1]? = some (sgn (m.1+32)):=by left
 have e:=key ⟨n - 32,by omega⟩;rw [show n=n - 32+32 by omega];simpa using e
theorem ok_am (T:TX w K mg J):FnOk P w K mg base CX0 1 J.f_am J.d_am ["byte"] mC_:=by
 refine T.F_am.fn.ok sc_am fun _ _ _ _ H _ Q E hr h=>?_;obtain ⟨n,rfl,k⟩:=h;refine ⟨_,(ab_ (aJ_ (lG_ iW_ iW_ (pe_g T.g_aK) (pv 0) (pe_g T.g_a1)) (ae_ (an_ (aY_ mR_ (pe_g T.g_a2) (bf_ in_ (pv 0) (pe_g T.g_aK)) (fun _ _=>rfl)))) ar_)
  (ae_ (an_ as_))),?_⟩
 simp! [tSeq];refine ite2 (fun h1=>ite2 (fun h2=>?_) fun h2=>?_) fun h1=>?_
 ·refine ⟨by left,sgn n,?_,k⟩
  have e:(n:Int) - 32=((n - 32:Nat):Int):=by omega
  rw [e];exact bt_ (iQ_ n (by omega) (by omega))
 ·have e:sgn n=63:=by unfold sgn;rw [if_neg (by omega)]
  rw [e] at k;exact k
 have e:sgn n=63:=by unfold sgn;rw [if_neg (by omega)]
 rw [e] at k;exact k
def eD_ (K:Frag):Sp:=fun vs H Q _=>∃ (a:Addr) (t:List Nat),vs=[.ref a]/\SqL K H a (bs t)/\t.length<=1000000/\∀ H',Same H H'->Q (.str (S (t.map sgn))) H'
theorem gV_ : ∀ l:List Nat,dO_ [] (l.map fun c=>[c])=l
 | []=>rfl
 | [c]=>rfl
 | c::d::r=>by
  have ih:=gV_ (d::r);show c::([]++dO_ [] ((d::r).map fun c=>[c]))=_;rw [ih];rfl
theorem h4_ : ∀ l:List Nat,((l.map fun c=>(⟨#[c]⟩:Str)).map (·.length)).sum=l.length
 | []=>rfl
 | c::r=>by
  have ih:=h4_ r;simp only [map_cons,sum_cons,length_cons,ih];show 1+r.length=r.length+1;omega
theorem ok_q (T:TX w K mg J):FnOk P w K mg base CX0 2 J.f_q J.d_q ["some_bytes"] (eD_ K):=by
 refine T.F_q.fn.ok sc_q fun _ _ _ _ H _ Q E hr h=>?_;obtain ⟨a,t,rfl,ht,hl,k⟩:=h;refine ⟨_,(ae_ (an_ (kg_ as_ (kf_ rfl sc_q.nd (ht_ (pv 0)) (dB_ (own:=[("byte",1)]) (by kernel_rfl)) (fun _ _ _ _ _=>pg_q 1 sc_q.nd) (fun _ _ _ _ _=>eI_) (fun _ _ _ _ _=>(aF_ T.F_am (ok_am T) hr.m aq_ (aa_ (pv 1) ac_))))))),?_⟩;simp! [tSeq];refine gp_ (Itl K a) (bs t) (fun v=>match v with | .int n=>V.str ⟨#[sgn n.toNat]⟩ | _ => .non) (H1:=H) (fun R h=>?_) (by rw [b3_];exact Nat.le_trans hl (by decide)) (kO_ ht) (fun x H' D acc Nx hx sm hD hacc nx=>?_) fun D H' hD sm e=>?_
 ·simp! [tSeq]
  exact ⟨⟨_,ht⟩,h⟩
 ·obtain ⟨d,hd,rfl⟩:=mem_map.mp hx
  simp! [tSeq,mC_,natCast_inj];exact ⟨acc,hD,hacc,nx H' (Same.refl _)⟩
 simp! [tSeq];refine ⟨t.map fun c=>⟨#[sgn c]⟩,.inl (SqL.of ?_),?_,?_⟩
 ·rw [e]
  unfold bs;rw [map_map,map_map];rfl
 ·have e1:(t.map fun c=>(⟨#[sgn c]⟩:Str))=(t.map sgn).map fun c=>(⟨#[c]⟩:Str):=by rw [map_map];rfl
  rw [e1,h4_,length_map,length_map];show t.length+t.length * 0<=16777216;omega
 have e1:Txt.join (ofString "") (t.map fun c=>(⟨#[sgn c]⟩:Str))=S (t.map sgn):=by
  refine ci_ ?_;rw [kB_,fE_,map_map];have e2:(t.map (tl ∘ fun c=>(⟨#[sgn c]⟩:Str)))=(t.map sgn).map fun c=>[c]:=by rw [map_map];rfl
  rw [e2];exact gV_ _
 rw [e1];exact k H' sm
theorem ok_e (T:TX w K mg J):FnOk P w K mg base CX0 1 J.f_A J.d_A ["self","over","under","measure"] (bA_ J.C_e ["over","under","measure"]):=by
 refine T.F_A.ok sc_A (fun _ _ _ _ H _ Q E hr h=>?_) fun _ _ _ _ h=>dq_ h;obtain ⟨p,dx,args,rfl,hl,hp,k⟩:=h;obtain ⟨a,b,c,rfl⟩:=len3 hl;refine ⟨_,(ab_ (a7_ (pv 0) (pv 1) rfl)
  (ab_ (a7_ (pv 0) (pv 2) rfl)
  (ae_ (a7_ (pv 0) (pv 3) rfl)))),?_⟩
 simp! [tSeq,sFld];refine ⟨_,_,_,hp,T.cl_e,T.n_aS,(by decide),T.cl_e,T.n_aI,few1,T.cl_e,T.n_aT,few2,?_⟩;exact k
def h6_ (K:Frag):Sp:=fun vs H Q _=>∃ (a:Addr) (t:List Nat) (p:Nat),vs=[.ref a,.int (p:Int)]/\SqL K H a (bs t)/\p<=t.length/\∀ H',Same H H'->Q (.int ((p+(numberText (t.drop p)).1:Nat):Int)) H'
theorem ok_ac (T:TX w K mg J):FnOk P w K mg base CX0 4 J.f_ac J.d_ac ["text","begin"] (h6_ K):=by
 have PD:li_ P w K mg base 2 J.f_m Vaunid.isDigit:=⟨_,_,(ok_m T).mono (by decide),T.F_m.b,T.F_m.fn.kp⟩;refine T.F_ac.fn.ok sc_ac fun _ _ _ _ H _ Q E hr h=>?_;obtain ⟨a,t,p,rfl,ht,hp,k⟩:=h;refine ⟨_,(ab_ (aA_ 2 sc_ac.nd (aF_ T.F_o (ok_o T) hr.m aq_ (aa_ (pv 0) (aa_ (pv 1) (aa_ (pe_r T.F_m.mg) ac_)))))
  (ab_ (aJ_ (PW.pt (pw_and (al_ iV_ (bf_ ch_ (pv 2) ak_) (aD_ aP_ rfl T.b_len PySem.boot_len (aa_ (pv 0) ac_)) (aw_ _)) (pw_and (al_ bq_ (aY_ aN_ (pv 0) (pv 2) (fun _ _=>rfl)) (pe_r T.g_av) rfl) (pw_and1 (cU_ (aF_ T.F_m (ok_m T) hr.m aq_ (aa_ (aY_ aN_ (pv 0) (bf_ ch_ (pv 2) ak_) (fun _ _=>rfl)) ac_))))))) (ae_ (aA_ 2 sc_ac.nd (aF_ T.F_o (ok_o T) hr.m aq_ (aa_ (pv 0) (aa_ (bf_ ch_ (pv 2) ak_) (aa_ (pe_r T.F_m.mg) ac_)))))) ar_)
  (ae_ (an_ (pv 2))))),?_⟩
 simp! [tSeq,jN_];refine ⟨t,ht,Vaunid.isDigit,PD,bs t,.inl ht,?_⟩;rw [b3_];have k0:=k H (Same.refl H);refine ite2 (fun h=>?_) fun h=>?_
 ·have hlt:p+((t.drop p).takeWhile Vaunid.isDigit).length+1<t.length:=by omega
  have h1:t[p+((t.drop p).takeWhile Vaunid.isDigit).length]? = some _:=getElem?_eq_getElem (by omega);have h2:t[p+((t.drop p).takeWhile Vaunid.isDigit).length+1]? = some _:=getElem?_eq_getElem hlt;refine ⟨bs t,ht,_,bt_ (d1_ h1),_,.inr (T.t_av H),rfl,rfl,?_⟩;rw [nV_];have nl:=lY_ h1 h2;refine ite2 (fun q=>⟨bs t,ht,_,bt_ (d1_ h2),?_⟩) fun q=>?_
  ·simp! [tSeq,spB]
   have q':=of_decide_eq_true q;refine cc_ (fun r=>?_) fun r=>?_
   ·rw [if_pos ⟨q'.symm,r⟩] at nl
    refine ⟨_,_,_,rfl,rfl,ht,_,PD,?_⟩;rw [nl,<- add_assoc,<- add_assoc] at k0;exact k0
   rw [if_neg (by rw [r];simp)] at nl;rw [nl] at k0;exact k0
  rw [if_neg (fun z=>q (decide_eq_true z.1.symm))] at nl;rw [nl] at k0;exact k0
 rw [ko_ (by omega)] at k0;exact k0
def oB_:Sp:=fun vs H Q _=>∃ o u:Nat,vs=[.int (o:Int),.int (u:Int)]/\Q (.int (Nat.gcd o u:Int)) H
theorem ok_S (T:TX w K mg J):FnOk P w K mg base CX0 1 J.f_S J.d_S ["first","second"] oB_:=by
 refine T.F_S.fn.ok sc_S fun _ _ _ _ H _ Q E hr h=>?_;obtain ⟨o,u,rfl,k⟩:=h;refine ⟨_,(ab_ (bI_ PassesOwn.never (al_ iT_ (pv 1) ak_ (aw_ _)) (ab_ (aA_ 2 sc_S.nd (bf_ oU_ (pv 0) (pv 1)))
  (ab_ (aA_ 0 sc_S.nd (pv 1))
  (ae_ (aA_ 1 sc_S.nd (pv 2))))))
  (ae_ (an_ (pv 0)))),?_⟩
 simp! [tSeq];obtain ⟨Pv,hPv⟩ : ∃ Pv:Nat->L2.St->Hp->Prop,Pv=fun m σ H'=>H'=H/\∃ (x y:Nat) (z:Option V),m=y/\σ=[some (.int (x:Int)),some (.int (y:Int)),z]/\Nat.gcd x y=Nat.gcd o u:=⟨_,rfl⟩;refine b5_ Pv _ (by rw [hPv];exact ⟨rfl,o,u,none,rfl,rfl,rfl⟩) fun m σ H' hp=>?_;rw [hPv] at hp;obtain ⟨rfl,x,y,z,rfl,rfl,hg⟩:=hp;simp! [tSeq];refine ite2 (fun h=>⟨_,fun _ _ q=>q,?_,x % m,?_,?_⟩) fun h=>?_
 ·simp at h
  omega
 ·have:m≠0:=by
   intro e;subst e;simp at h
  exact Nat.mod_lt _ (Nat.pos_of_ne_zero this)
 ·rw [hPv]
  refine ⟨rfl,m,x % m,_,rfl,by rw [<- Int.natCast_emod],?_⟩;rw [<- hg,Nat.gcd_comm x m,Nat.gcd_rec m x,Nat.gcd_comm]
 have e:m=0:=by simp at h;omega
 subst e;rw [Nat.gcd_zero_right] at hg;rw [hg];exact k
def lw_ (C:Addr):Sp:=fun vs H Q _=>∃ o u:Nat,vs=[.int (o:Int),.int (u:Int)]/\u<2 ^ 200/\e2_ C H Q (M.it_ o u)
theorem ok_u (T:TX w K mg J):FnOk P w K mg base CX0 3 J.f_u J.d_u ["over","under"] (lw_ J.C_e):=by
 refine T.F_u.fn.ok sc_u fun _ _ _ _ H _ Q E hr h=>?_;obtain ⟨o,u,rfl,hu,k⟩:=h;refine ⟨_,(ab_ (aJ_ (al_ bB_ (pv 1) ak_ (aw_ _)) (ae_ (an_ ke_)) ar_)
  (ab_ (aA_ 2 sc_u.nd (aF_ T.F_S (ok_S T) hr.m aq_ (aa_ (pv 0) (aa_ (pv 1) ac_))))
  (ab_ (aA_ 0 sc_u.nd (bf_ io_ (pv 0) (pv 2)))
  (ab_ (aA_ 1 sc_u.nd (bf_ io_ (pv 1) (pv 2)))
  (ab_ (aJ_ (PW.pt (pw_or (al_ oV_ (pv 0) (pe_g T.g_aM) (aw_ _)) (pw_or1 (al_ oV_ (pv 1) (pe_g T.g_aM) (aw_ _))))) (ae_ (an_ ke_)) ar_)
  (ae_ (an_ (aU_ T.M_e (ok_e T) hr.m rfl T.G_e T.b_A .nil aq_ (aa_ (pv 0) (aa_ (pv 1) (aa_ as_ ac_))))))))))),?_⟩
 simp! [tSeq,oB_,bE_,bA_];unfold M.it_ at k;refine ite2 (fun h=>?_) fun h=>?_
 ·rw [if_pos (by omega)] at k
  exact k H (Same.refl H)
 have hu0:u≠0:=by omega
 have hg:0<o.gcd u:=Nat.gcd_pos_of_pos_right _ (Nat.pos_of_ne_zero hu0);have hg2:o.gcd u<=u:=Nat.gcd_le_right _ (Nat.pos_of_ne_zero hu0);have cd : ∀ i:Int,ps_ i ((o.gcd u:Nat):Int):=fun i=>⟨by omega,i1_ (by rw [Int.natAbs_natCast];omega)⟩;rw [if_neg hu0] at k;refine ⟨cd _,cd _,?_⟩;rw [<- Int.natCast_ediv,<- Int.natCast_ediv];refine ite2 (fun h1=>?_) fun h1=>ite2 (fun h2=>?_) fun h2=>?_
 ·rw [if_pos (.inl (by omega))] at k
  exact k H (Same.refl H)
 ·rw [if_pos (.inr (by omega))] at k
  exact k H (Same.refl H)
 rw [if_neg (by omega)] at k;intro x dx hx hdx hne;exact k x _ (aQ_ hx hdx) ⟨dx,ad_⟩
def oD_ (C:Addr):Sp:=fun vs H Q _=>∃ (a b:List Nat) (c:Nat),vs=[.str (S (a++(if c=0 then [] else c::b)))]/\(∀ x∈a,Vaunid.isDigit x=true)/\a≠[]/\a.length+b.length<=100000 /\
 ((c=0/\b=[])\/((c=46\/c=47)/\b≠[]/\∀ x∈b,Vaunid.isDigit x=true))/\e2_ C H Q (frac a c b)
theorem ok_L (T:TX w K mg J):FnOk P w K mg base CX0 4 J.f_L J.d_L ["spelling"] (oD_ J.C_e):=by
 refine T.F_L.fn.ok sc_L fun _ _ _ _ H _ Q E hr h=>?_;obtain ⟨a,b,c,rfl,ha,hne,hl,hc,k⟩:=h;refine ⟨_,(ab_ (aA_ 1 sc_L.nd (fO_ iX_ as_ (pv 0) rfl))
  (ab_ (aA_ 2 sc_L.nd (cH_ (cU_ (pv 1)) (ih_ (pv 0) as_) (ih_ (pv 0) as_)))
  (ab_ (aJ_ (al_ gO_ (aD_ (pl_ rfl) rfl T.b_max lc_ (aa_ (kf_ rfl sc_L.nd (ht_ (pv 2)) (dB_ (own:=[("row",3)]) (by kernel_rfl)) (fun _ _ _ _ _=>pg_q 3 sc_L.nd) (fun _ _ _ _ _=>eI_) (fun _ _ _ _ _=>(aD_ aX_ rfl T.b_len PySem.boot_len (aa_ (pv 3) ac_)))) ac_)) (pe_g T.g_a3) (aw_ _)) (ae_ (an_ ke_)) ar_)
  (ab_ (aJ_ (cU_ (pv 1)) (ae_ (an_ (aF_ T.F_u (ok_u T) hr.m aq_ (aa_ (a8_ bD_ rfl T.b_int cz_ (aa_ (aY_ aN_ (pv 2) ak_ (fun _ _=>rfl)) ac_)) (aa_ (a8_ bD_ rfl T.b_int cz_ (aa_ (aY_ aN_ (pv 2) ak_ (fun _ _=>rfl)) ac_)) ac_))))) ar_)
  (ab_ (aJ_ (al_ bB_ (aD_ aP_ rfl T.b_len PySem.boot_len (aa_ (pv 2) ac_)) ak_ (aw_ _)) (ae_ (an_ (aF_ T.F_u (ok_u T) hr.m aq_ (aa_ (a8_ bD_ rfl T.b_int cz_ (aa_ (bf_ bd_ (aY_ aN_ (pv 2) ak_ (fun _ _=>rfl)) (aY_ aN_ (pv 2) ak_ (fun _ _=>rfl))) ac_)) (aa_ (a8_ bD_ rfl T.b_int cz_ (aa_ (bf_ bd_ as_ (bf_ iU_ as_ (aD_ aX_ rfl T.b_len PySem.boot_len (aa_ (aY_ aN_ (pv 2) ak_ (fun _ _=>rfl)) ac_)))) ac_)) ac_))))) ar_)
  (ae_ (an_ (aF_ T.F_u (ok_u T) hr.m aq_ (aa_ (a8_ bD_ rfl T.b_int cz_ (aa_ (aY_ aN_ (pv 2) ak_ (fun _ _=>rfl)) ac_)) (aa_ ak_ ac_)))))))))),?_⟩
 simp! [tSeq];refine ⟨47,jV_,?_⟩;have big : ∀ n:Nat,n<=100001->n+2<=sizeLine:=fun n h=>Nat.le_trans (Nat.add_le_add_right h 2) (by decide);have big2 : ∀ n:Nat,n<=100001->n<=sizeLine:=fun n h=>Nat.le_trans (le_add_right n 2) (big n h);have p12:(10:Nat) ^ 12<2 ^ 200:=by decide
 have n47:47∉a:=fun m=>by have:=ha _ m;revert this;decide
 have dotne:((ofString ".").length == 0)=false:=by left
 have slane:((ofString "/").length == 0)=false:=by left
 rcases hc with ⟨rfl,rfl⟩ | ⟨rfl | rfl,hb,hbd⟩
 ·simp only [if_true,append_nil]
  rw [if_neg (by rw [e7_];exact n47)];refine ⟨dotne,big _ (by simp at hl;omega),?_⟩;rw [mi_ ha];intro p hp;refine f1_ ad_ (by intro y hy;rw [mem_singleton.mp hy,a5_];exact big2 _ (by simp at hl;omega)) (by show 1<=sizeLine;decide) fun D H' sm e=>?_;have hpp:H' p=some (.lst [.str (S a)]):=sm _ _ ad_;have sm2:Same H H':=(Same.upd hp).trans sm;simp! [tSeq];refine ⟨[((S a).length:Int)],SqL.of e,by simp,fun m hm hmax=>?_⟩;rw [mem_singleton.mp hm,a5_];refine ite2 (fun h=>?_) fun h=>?_
  ·rw [eU_ (.inl (by omega))] at k
   exact k _ sm2
  rw [if_neg (by rw [e7_];exact n47)];refine ⟨_,.inl (SqL.of hpp),?_⟩;rw [if_neg (by simp)];refine ⟨_,SqL.of hpp,_,rfl,_,rfl,_,gZ_ ha hne (by omega),by rw [a5_];omega,?_⟩;rw [c5_ (by omega) (by decide)] at k;exact ⟨_,1,rfl,by decide,k.mono sm2⟩
 ·have e0:(a++if 46=0 then [] else 46::b)=a++46::b:=rfl
  rw [e0];have n47b:47∉a++46::b:=fun m=>by
   rcases mem_append.mp m with q | q
   ·exact n47 q
   rcases mem_cons.mp q with q | q
   ·cases q
   have:=hbd _ q;revert this;decide
  have hlen:(a++46::b).length<=100001:=by rw [length_append,length_cons];omega
  rw [if_neg (by rw [e7_];exact n47b)];refine ⟨dotne,big _ hlen,?_⟩;rw [n5_ ha hbd];intro p hp;refine f1_ ad_ (by intro y hy;exact (mem_cons.mp hy).elim (fun q=>by rw [q,a5_];exact big2 _ (by omega)) fun q=>by rw [mem_singleton.mp q,a5_];exact big2 _ (by omega)) (by show 2<=sizeLine;decide) fun D H' sm e=>?_;have hpp:H' p=some (.lst [.str (S a),.str (S b)]):=sm _ _ ad_;have sm2:Same H H':=(Same.upd hp).trans sm;simp! [tSeq];refine ⟨[((S a).length:Int),((S b).length:Int)],SqL.of e,by simp,fun m hm hmax=>?_⟩;have m1:=hmax ((S a).length:Int) (by simp);have m2:=hmax ((S b).length:Int) (by simp);rw [a5_] at m1 m2;have m3:m=(a.length:Int)\/m=(b.length:Int):=by
   rcases mem_cons.mp hm with q | q
   ·rw [q,a5_];exact .inl rfl
   rw [mem_singleton.mp q,a5_];exact .inr rfl
  refine ite2 (fun h=>?_) fun h=>?_
  ·rw [eU_ (by omega)] at k
   exact k _ sm2
  rw [if_neg (by rw [e7_];exact n47b)];refine ⟨_,.inl (SqL.of hpp),?_⟩;rw [if_pos (by simp)];have hl24:(a++b).length<=24:=by rw [length_append];omega
  have hab : ∀ x∈a++b,Vaunid.isDigit x=true:=fun x hx=>(mem_append.mp hx).elim (ha x) (hbd x);obtain ⟨t1,t2,t3⟩:=nF_ b.length (by omega);refine ⟨_,SqL.of hpp,_,rfl,_,SqL.of hpp,_,rfl,_,rfl,_,rfl,?_⟩;rw [gc_,a5_,a5_,a5_];refine ⟨big2 _ (by omega),_,gZ_ hab (by simp [hne]) (by omega),by omega,_,SqL.of hpp,_,rfl,_,rfl,?_⟩;rw [a5_];refine ⟨big2 _ (by omega),oX_ _ (by omega),t3,_,t1,t2,?_⟩;rw [c5_ (by omega) (by omega)] at k;exact ⟨_,10 ^ b.length,rfl,Nat.lt_of_le_of_lt (ff_ (by omega)) p12,k.mono sm2⟩
 have e0:(a++if 47=0 then [] else 47::b)=a++47::b:=rfl;rw [e0];have i47:47∈a++47::b:=by simp
 have hlen:(a++47::b).length<=100001:=by rw [length_append,length_cons];omega
 rw [if_pos (by rw [e7_];exact i47)];refine ⟨slane,big _ hlen,?_⟩;rw [jW_ ha hbd];intro p hp;refine f1_ ad_ (by intro y hy;exact (mem_cons.mp hy).elim (fun q=>by rw [q,a5_];exact big2 _ (by omega)) fun q=>by rw [mem_singleton.mp q,a5_];exact big2 _ (by omega)) (by show 2<=sizeLine;decide) fun D H' sm e=>?_;have hpp:H' p=some (.lst [.str (S a),.str (S b)]):=sm _ _ ad_;have sm2:Same H H':=(Same.upd hp).trans sm;simp! [tSeq];refine ⟨[((S a).length:Int),((S b).length:Int)],SqL.of e,by simp,fun m hm hmax=>?_⟩;have m1:=hmax ((S a).length:Int) (by simp);have m2:=hmax ((S b).length:Int) (by simp);rw [a5_] at m1 m2;have m3:m=(a.length:Int)\/m=(b.length:Int):=by
  rcases mem_cons.mp hm with q | q
  ·rw [q,a5_];exact .inl rfl
  rw [mem_singleton.mp q,a5_];exact .inr rfl
 refine ite2 (fun h=>?_) fun h=>?_
 ·rw [eU_ (by omega)] at k
  exact k _ sm2
 rw [if_pos (by rw [e7_];exact i47)];refine ⟨_,SqL.of hpp,_,rfl,_,rfl,_,gZ_ ha hne (by omega),by rw [a5_];omega,_,SqL.of hpp,_,rfl,_,rfl,_,gZ_ hbd hb (by omega),by rw [a5_];omega,?_⟩;rw [c5_ (by omega) (by omega)] at k;exact ⟨_,_,rfl,Nat.lt_trans (pg_ hbd (by omega)) p12,k.mono sm2⟩
def nh_:Sp:=fun vs H Q _=>∃ l:List Nat,vs=[.str (S l)]/\l.length<=sizeLine/\∀ H',Same H H'->Q (.bl (bm_ l)) H'
theorem ok_V (T:TX w K mg J):FnOk P w K mg base CX0 2 J.f_V J.d_V ["power"] nh_:=by
 refine T.F_V.fn.ok sc_V fun _ _ _ _ H _ Q E hr h=>?_;obtain ⟨l,rfl,hl,k⟩:=h;refine ⟨_,(ab_ (aA_ 1 sc_V.nd (cH_ (cU_ (lM_ F.slot_str_startswith F.type_str_startswith f0_ (pv 0) as_)) (cG_ mE_ (pv 0) (bT_ ak_) kb_) (pv 0)))
  (ab_ (aJ_ (PW.pt (pw_or (al_ bB_ (pv 1) as_ (aw_ _)) (pw_or1 (al_ gO_ (aD_ aX_ rfl T.b_len PySem.boot_len (aa_ (pv 1) ac_)) (pe_g T.g_a4) (aw_ _))))) (ae_ (an_ iS_)) ar_)
  (ae_ (an_ (aD_ (mZ_ rfl) rfl T.b_all ha_ (aa_ (kf_ rfl sc_V.nd (kc_ (pv 1)) (dB_ (own:=[("sign",2)]) (by kernel_rfl)) (fun _ _ _ _ _=>pg_q 2 sc_V.nd) (fun _ _ _ _ _=>eI_) (fun _ _ _ _ _=>(aF_ T.F_m (ok_m T) hr.m aq_ (aa_ (aD_ el_ rfl T.b_ord dA_ (aa_ (pv 2) ac_)) ac_)))) ac_)))))),?_⟩
 simp! [tSeq];have k0:=k H (Same.refl H);have part : ∀ d:List Nat,bm_ l=(!d.isEmpty && (decide (d.length<=2) && d.all Vaunid.isDigit))->d.length<=sizeLine->(if S d=ofString "" then Q (V.bl false) H else (S d).length<=sizeLine/\if 2<((S d).length:Int) then Q (V.bl false) H else
   tLc (iStr (tVar 1)) (dQ_ 2) tYes (iM_ (spB Vaunid.isDigit) [] E0 (fG_ (tCB (fun xs H Q=>∃ x,xs=[V.str x]/\x.length=1/\Q (V.int ↑(x.cps.getD 0 0)) H) (fG_ (tVar 2) tNil)) tNil)) [2] [some (V.str (S l)),some (V.str (S d)),none] H fun x H1 =>
    ∃ a,x=V.ref a/\∃ x,SqL K H1 a (List.map V.bl x)/\Q (V.bl (x.all id)) H1):=fun d hd hdl=>by
  rw [hd] at k0 k;rw [a5_];refine ite2 (fun z=>?_) fun z=>⟨hdl,ite2 (fun z2=>?_) fun z2=>?_⟩
  ·have e:d=[]:=by rw [S_eq] at z;exact z
   subst e;exact k0
  ·rw [decide_eq_false (by omega)] at k0
   simpa using k0
  refine lb_ hdl fun D H' sm e=>⟨D,rfl,d.map Vaunid.isDigit,SqL.of e,?_⟩;have k1:=k H' sm;have e2:(!d.isEmpty && (decide (d.length<=2) && d.all Vaunid.isDigit))=(d.map Vaunid.isDigit).all id:=by
   rw [decide_eq_true (by omega),all_map];cases d with
   | nil=>exact absurd (by rw [S_eq];rfl) z
   | cons c r=>rfl
  rw [e2] at k1;exact k1
 have ec:cutS (S l) (some 1) none=S (l.drop 1):=mn_ l 1;rw [gq_,ec];refine ite2 (fun h=>?_) fun h=>?_
 ·have hh:=of_decide_eq_true h
  refine ⟨hl,part (l.drop 1) ?_ (by rw [length_drop];omega)⟩;unfold bm_;rw [if_pos hh];cases l with
  | nil=>cases hh
  | cons c r=>rfl
 have hh : ¬ l.head? = some 45:=fun z=>h (decide_eq_true z);have:=part l (by unfold bm_;rw [if_neg hh]) hl;simp only [S_eq,a5_] at this;exact this
def ly_:Sp:=fun vs H Q _=>∃ l:List Nat,vs=[.str (S l)]/\l.length<=sizeLine/\∀ H',Same H H'->Q (.bl (av_ l)) H'
theorem ok_U (T:TX w K mg J):FnOk P w K mg base CX0 4 J.f_U J.d_U ["factor"] ly_:=by
 refine T.F_U.fn.ok sc_U fun _ _ _ _ H _ Q E hr h=>?_;obtain ⟨l,rfl,hl,k⟩:=h;refine ⟨_,(ab_ (aJ_ (al_ bB_ (pv 0) as_ (aw_ _)) (ae_ (an_ iS_)) ar_)
  (ab_ (aJ_ (al_ fV_ as_ (pv 0) rfl) (ae_ (an_ (aF_ T.F_K (ok_K T) hr.m aq_ (aa_ (pv 0) ac_)))) ar_)
  (ab_ (aA_ 1 sc_U.nd (gK_ (pv 0) as_))
  (ae_ (an_ (oS_ (aF_ T.F_K (ok_K T) hr.m aq_ (aa_ (aY_ bC_ (pv 1) ak_ (fun _ _=>rfl)) ac_)) (mO_ (aF_ T.F_V (ok_V T) hr.m aq_ (aa_ (aY_ bC_ (pv 1) ak_ (fun _ _=>rfl)) ac_))))))))),?_⟩
 simp! [tSeq];have k0:=k H (Same.refl H);refine ite2 (fun h=>?_) fun h=>⟨94,nW_,?_⟩
 ·have e:av_ l=true:=by rw [h];left
  rw [e] at k0;exact k0
 have h1:(l == [49])=false:=by
  cases q:l == [49] with
  | false=>rfl
  | true=>exact absurd ((eq_of_beq q).trans (by left)) h
 rw [e7_];have hc:l.contains 94=decide (94∈l):=by rw [Bool.eq_iff_iff];simp
 refine ite2 (fun q=>?_) fun q=>?_
 ·have q' : ¬ 94∈l:=by simpa using q
  have e:av_ l=az_ l:=by
   unfold av_;rw [h1,hc,decide_eq_false q'];rfl
  refine ⟨l,rfl,hl,?_⟩;rw [e] at k;exact k
 have q':94∈l:=by simpa using q
 have e:av_ l=(az_ (l.takeWhile (· != 94)) && bm_ ((l.dropWhile (· != 94)).drop 1)):=by
  unfold av_;rw [h1,hc,decide_eq_true q'];rfl
 rw [e] at k;refine ⟨by left,hl,fun p hp=>⟨_,SqT.of ad_,_,rfl,?_⟩⟩;rw [lT_ q'];refine ⟨_,rfl,Nat.le_trans (d3_ _ _) hl,fun H' sm=>⟨_,rfl,?_⟩⟩;have sm2:Same H H':=(Same.upd hp).trans sm;refine cc_ (fun r=>?_) fun r=>?_
 ·refine ⟨_,SqT.of (sm _ _ ad_),_,rfl,_,rfl,?_,fun H2 s2=>?_⟩
  ·rw [length_drop,bG_,length_drop]
   omega
  have:=k H2 (sm2.trans s2);rw [r] at this;exact this
 have:=k H' sm2;rw [r] at this;exact this
def jQ_:Sp:=fun vs H Q _=>∃ l:List Nat,vs=[.str (S l)]/\l.length<=1000000/\∀ H',Same H H'->Q (.bl (measureText (l.length+1) l)) H'
theorem ok_T (T:TX w K mg J):FnOkT P w K mg base CX0 5 J.f_T J.d_T ["measure"] jQ_:=by
 refine T.F_T.fn.okT sc_T (fun _ _ _ _ h=>?_) (fun _ _ _ _ H _ Q E hr h=>?_)
 ·obtain ⟨n,rfl,_⟩:=h
  rfl
 obtain ⟨l,rfl,hl,k⟩:=h;refine ⟨_,(j6_ (nx_ PassesOwn.never rfl (lL_ (oR_ PySem.F.slot_str_split PySem.F.type_str_split ir_ (hu_ (pv 0)) as_)) (kd_ (i:=1) (sc_T).nd rfl (Or.inl rfl)) (ae_ (aJ_ (mK_ (cU_ (fP_ (ok_U T) (hr.mono (by decide)) rfl T.F_U.mg T.F_U.fn.kp T.F_U.b .nil aq_ (aa_ (pv 1) ac_)))) (ae_ (an_ iS_)) ar_)))
  (ae_ (an_ iS_))),?_⟩
 have ea:(Txt.split (Txt.replace (S l) (ofString "/") (ofString ".")) (ofString ".")).map tl=cut sep [] l:=by rw [eH_,eA_,hm_]
 have ea2:Txt.split (Txt.replace (S l) (ofString "/") (ofString ".")) (ofString ".")=(cut sep [] l).map S:=by
  refine b0_ ?_;rw [ea,map_map];exact (List.map_id _).symm
 refine bc_ ?_;simp! [tSeq,ef_];rw [ea2];have me:=bZ_ (l.length+1) l (by omega);rw [me] at k;have sz:(1000000:Nat)+2<=sizeLine:=by decide
 refine ⟨by omega,by left,by rw [eH_,a5_,length_map];omega,fun p hp=>⟨⟨_,SqL.of ad_⟩,?_⟩⟩;refine fp_ (((cut sep [] l).map S).map V.str) (fun i σ H'=>Same (upd H p (HO.lst (List.map V.str (List.map S (cut sep [] l))))) H'/\(∃ z,σ=[some (.str (S l)),z])/\((cut sep [] l).take i).all av_=true) ⟨Same.refl _,⟨_,rfl⟩,rfl⟩ (fun i σ H' _ hp=>SqL.of (hp.1 _ _ ad_)) (fun i x σ H' hx hp=>?_) fun σ H' hp=>?_
 ·obtain ⟨sm,⟨z,rfl⟩,hall⟩:=hp
  rw [getElem?_map,getElem?_map] at hx;cases q:(cut sep [] l)[i]? with
  | none=>rw [q] at hx;cases hx
  | some f =>
  rw [q] at hx;cases hx;simp! [tSeq];have hf:=hP_ sep l [] f (mem_of_getElem? q);rw [length_nil] at hf;refine ⟨f,rfl,by omega,fun H2 s2=>⟨_,rfl,?_⟩⟩;have sm2:Same H H2:=((Same.upd hp).trans sm).trans s2;cases r:av_ f with
  | false =>
   have k1:=k H2 sm2;rw [pp_ q r] at k1;exact iteT k1
  | true =>
  refine iteF ⟨sm.trans s2,?_⟩;rw [lp_ q,hall,r];rfl
 obtain ⟨sm,⟨z,rfl⟩,hall⟩:=hp;rw [length_map,length_map,take_length] at hall;have k1:=k H' ((Same.upd hp).trans sm);rw [hall] at k1;exact k1
def fc_ (C:Addr):Sp:=fun vs H Q _=>∃ (a:Addr) (o u:Int) (m l:List Nat),vs=[.ref a,.str (S l)]/\a2_ C H a o u m/\∀ (b:Addr) (H':Hp),Same H H'->a2_ C H' b o u l->Q (.ref b) H'
theorem ok_an (T:TX w K mg J):FnOk P w K mg base CX0 3 J.f_an J.d_an ["amount","measure"] (fc_ J.C_e):=by
 refine T.F_an.fn.ok sc_an fun _ _ _ _ H _ Q E hr h=>?_;obtain ⟨a,o,u,m,l,rfl,⟨dx,ha⟩,k⟩:=h;refine ⟨_,(ae_ (an_ (aU_ T.M_e (ok_e T) hr.m rfl T.G_e T.b_A .nil aq_ (aa_ (ah_ (pv 0) rfl) (aa_ (ah_ (pv 0) rfl) (aa_ (pv 1) ac_)))))),?_⟩;simp! [tSeq,tFld,bE_,bA_,ha];refine ⟨T.cl_e,T.n_aS,_,rfl,T.cl_e,T.n_aI,_,rfl,fun x dx hx hdx hne=>?_⟩;exact k x _ (aQ_ hx hdx) ⟨dx,ad_⟩
def gy_ (C:Addr):Sp:=fun vs H Q _=>∃ (a:Addr) (o u:Int) (m:List Nat),vs=[.ref a]/\a2_ C H a o u m/\∀ (b:Addr) (H':Hp),Same H H'->a2_ C H' b (-o) u m->Q (.ref b) H'
theorem ok_ao (T:TX w K mg J):FnOk P w K mg base CX0 3 J.f_ao J.d_ao ["amount"] (gy_ J.C_e):=by
 refine T.F_ao.fn.ok sc_ao fun _ _ _ _ H _ Q E hr h=>?_;obtain ⟨a,o,u,m,rfl,⟨dx,ha⟩,k⟩:=h;refine ⟨_,(ae_ (an_ (aU_ T.M_e (ok_e T) hr.m rfl T.G_e T.b_A .nil aq_ (aa_ (py_ ol_ (ah_ (pv 0) rfl)) (aa_ (ah_ (pv 0) rfl) (aa_ (ah_ (pv 0) rfl) ac_)))))),?_⟩;simp! [tSeq,tFld,bE_,bA_,ha];refine ⟨T.cl_e,T.n_aS,_,rfl,_,rfl,T.cl_e,T.n_aI,_,rfl,T.cl_e,T.n_aT,_,rfl,fun x dx hx hdx hne=>?_⟩;exact k x _ (aQ_ hx hdx) ⟨dx,ad_⟩
theorem ok_d (T:TX w K mg J):FnOk P w K mg base CX0 1 J.f_n J.d_n ["self","kind","place"] (eE_ J.C_d):=by
 refine T.F_n.ok sc_n fun _ _ _ _ H _ Q E hr h=>?_;obtain ⟨p,k,q,rfl,hp,kk⟩:=h;refine ⟨_,(ab_ (lI_ (pv 0) (pv 1) rfl)
  (ae_ (lH_ (pv 0) (pv 2) rfl))),?_⟩
 simp! [tSeq,mI_,mH_];refine ⟨_,hp,_,T.X_d,T.n_bb,fun dx hdx hne=>⟨_,_,_,rfl,_,(by rw [am_ hne];exact ad_),T.X_d,T.n_bc,(by show 1<1000;decide),?_⟩⟩;have e:upd (upd (upd H dx (XDic dx [(ofString "kind",k)])) p (XNew J.C_d p (some dx))) dx (XDic dx (putF (ofString "place") q [(ofString "kind",k)]))=upd (upd H dx (XDic dx [("kind",k),("place",q)])) p (XNew J.C_d p (some dx)):=by
  rw [h1_ (fun z=>hne z.symm),er_];rfl
 rw [e];exact kk dx hdx hne
theorem ok_c (T:TX w K mg J):FnOk P w K mg base CX0 1 J.f_w J.d_w ["self","group","kind","begin","end","content"] (bA_ J.C_c ["group","kind","begin","end","content"]):=by
 refine T.F_w.ok sc_w (fun _ _ _ _ H _ Q E hr h=>?_) fun _ _ _ _ h=>dq_ h;obtain ⟨p,dx,args,rfl,hl,hp,k⟩:=h;obtain ⟨a,b,c,d,e,rfl⟩:=len5 hl;refine ⟨_,(ab_ (a7_ (pv 0) (pv 1) rfl)
  (ab_ (a7_ (pv 0) (pv 2) rfl)
  (ab_ (a7_ (pv 0) (pv 3) rfl)
  (ab_ (a7_ (pv 0) (pv 4) rfl)
  (ae_ (a7_ (pv 0) (pv 5) rfl)))))),?_⟩
 simp! [tSeq,sFld];refine ⟨_,_,_,hp,T.cl_c,T.n_bf,few0,T.cl_c,T.n_az,few1,T.cl_c,T.n_aD,few2,T.cl_c,T.n_aU,few3,T.cl_c,T.n_aE,few4,?_⟩;exact k
def oC_ (core:Bool) (C:Addr) (K:Frag):Sp:=fun vs H Q E=>∃ (a:Addr) (t:List Nat) (p:Nat),vs=[.ref a,.int (p:Int)]/\SqL K H a (bs t)/\p<=t.length/\RES C H Q E (gapT core p (t.drop p)) (fun x v _=>v = .int (x.1:Int))
inductive IWord (Ca Ct C:Addr) (K:Frag) (H:Hp) (Q:VK) (E:XK):List V->Prop
 | mk (a:Addr) (t:List Nat) (p:Nat):SqL K H a (bs t)->p<=t.length->t.length<=10000->RES C H Q E (wordToken p (t.drop p)) (fun x v H'=>∃ b,v = .ref b/\cR_ Ca Ct H' b x.1)->IWord Ca Ct C K H Q E [.ref a,.int (p:Int)]
def ow_ (Ca Ct C:Addr) (K:Frag):Sp:=fun vs H Q E=>IWord Ca Ct C K H Q E vs
theorem ok_X (T:TX w K mg J):FnOk P w K mg base (CX1 P w) 4 J.f_X J.d_X ["text","begin"] (ow_ J.C_e J.C_c J.C_d K):=by
 have PD:li_ P w K mg base 2 J.f_D Vaunid.inWord:=⟨_,_,(ok_D T),T.F_D.b,T.F_D.fn.kp⟩;refine T.F_X.fn.okX sc_X fun _ _ _ _ H _ Q E hr h=>?_;obtain ⟨a,t,p,ht,hp,hl,k⟩:=h;refine ⟨_,(ab_ (aA_ 2 sc_X.nd (aF_ T.F_o (ok_o T) hr.m aq_ (aa_ (pv 0) (aa_ (pv 1) (aa_ (pe_r T.F_D.mg) ac_)))))
  (ab_ (aJ_ (al_ gO_ (bf_ in_ (pv 2) (pv 1)) (pe_g T.g_aL) (aw_ _)) (ae_ (bJ_ T.X_d (ok_d T) hr.m rfl T.G_d T.b_n bp_ rfl (aa_ ak_ (aa_ (pv 1) ac_)))) ar_)
  (ab_ (aA_ 3 sc_X.nd (aF_ T.F_q (ok_q T) hr.m aq_ (aa_ (cG_ fK_ (pv 0) (bT_ (pv 1)) (bT_ (pv 2))) ac_)))
  (ab_ (aA_ 4 sc_X.nd (cH_ (al_ bq_ (pv 3) (pe_r T.g_aw) rfl) (pv 3) as_))
  (ae_ (an_ (aU_ T.M_c (ok_c T) hr.m rfl T.G_c T.b_w .nil aq_ (aa_ (pe_g T.g_a5) (aa_ (pv 4) (aa_ (pv 1) (aa_ (pv 2) (aa_ (pv 3) ac_)))))))))))),?_⟩
 simp! [tSeq,jN_,cT_,eD_];refine ⟨t,ht,_,PD,?_⟩;unfold wordToken at k;dsimp only at k;have hw:=et_ (p:=Vaunid.inWord) (t.drop p);have htk:=es_ Vaunid.inWord (t.drop p);have hle:=d3_ Vaunid.inWord (t.drop p);rw [length_drop] at hle;generalize (t.drop p).takeWhile Vaunid.inWord=wd at k hw htk hle ⊢;refine ite2 (fun h=>?_) fun h=>⟨bs t,ht,fun q hq=>?_⟩
 ·rw [if_pos (show MOSTSIGNS<wd.length by show 12<_;omega)] at k
  exact ⟨by decide,bx_ k⟩
 rw [if_neg (show ¬ MOSTSIGNS<wd.length by show ¬ 12<_;omega)] at k;rw [dy_ t p _ hp,add_sub_cancel_left,htk];refine ⟨wd,SqL.of ad_,by omega,fun H' sm=>⟨_,.inr (T.t_aw H'),rfl,rfl,?_⟩⟩;rw [iL_,l2_ hw,in_S,<- jD_];have sm2:Same H H':=(Same.upd hq).trans sm;refine cc_ (fun r=>?_) fun r=>?_
 ·simp! [tSeq,bE_,bA_]
  intro x dx hx hdx hne;refine k _ _ (sm2.trans (aQ_ hx hdx)) ⟨x,rfl,dx,.str (S wd),?_,rfl⟩;rw [ad_];have hk:kindOf (.word wd)=wd:=if_pos r;show _=some (HO.ins J.C_c dx (d5_ 0 (S (kindOf (.word wd))) _ _ _));rw [hk];rfl
 simp! [tSeq,bE_,bA_];intro x dx hx hdx hne;refine k _ _ (sm2.trans (aQ_ hx hdx)) ⟨x,rfl,dx,.str (S wd),?_,rfl⟩;rw [ad_];have hk:kindOf (.word wd)=Vaunid.txt "name":=if_neg (by rw [r];simp);show _=some (HO.ins J.C_c dx (d5_ 0 (S (kindOf (.word wd))) _ _ _));rw [hk,<- aI_];rfl
def hn_ (C:Addr) (K:Frag):Sp:=fun vs H Q E=>∃ (a:Addr) (t:List Nat) (p:Nat) (r:List Nat),vs=[.ref a,.int (p:Int)]/\SqL K H a (bs t)/\t.drop p=91::r/\t.length<=10000 /\
 RES C H Q E (if (r.takeWhile fun c=>c != 93).length=r.length\/measureText ((r.takeWhile fun c=>c != 93).length+1) (r.takeWhile fun c=>c != 93)=false then fault 5 p else (.ok (r.takeWhile fun c=>c != 93):Res (List Nat))) (fun m v _=>v = .str (S m))
theorem ok_ad (T:TX w K mg J):FnOk P w K mg base (CX1 P w) 6 J.f_ad J.d_ad ["text","begin"] (hn_ J.C_d K):=by
 have PD:li_ P w K mg base 2 J.f_R (fun c=>c != 93):=⟨_,_,(ok_R T).mono (by decide),T.F_R.b,T.F_R.fn.kp⟩;refine T.F_ad.fn.okX sc_ad fun _ _ _ _ H _ Q E hr h=>?_;obtain ⟨a,t,p,r,rfl,ht,hd,hl,k⟩:=h;refine ⟨_,(ab_ (ia_ (i:=2) (sc_ad).nd rfl (Or.inl rfl) (fP_ (ok_o T) (hr.mono (by decide)) rfl T.F_o.mg T.F_o.fn.kp T.F_o.b .nil aq_ (aa_ (pv 0) (aa_ (pv 1) (aa_ (pe_r T.F_R.mg) ac_)))))
  (ab_ (ia_ (i:=3) (sc_ad).nd rfl (Or.inl rfl) (fP_ (ok_q T) (hr.mono (by decide)) rfl T.F_q.mg T.F_q.fn.kp T.F_q.b .nil aq_ (aa_ (cG_ fK_ (pv 0) (bT_ (bf_ ch_ (pv 1) ak_)) (bT_ (pv 2))) ac_)))
  (ab_ (aJ_ (pw_orP (nw_ bB_ (pv 2) (nA_ rfl T.b_len (pv 0)) (aw_ _)) (pw_or1T (nu_ (nt_ (lQ_ (ok_T T) (hr.mono (by decide)) rfl T.F_T.mg T.F_T.fn.kp T.F_T.b aq_ (aa_ (pv 3) ac_))))))
    (ae_ (bJ_ T.X_d (ok_d T) (hr.mono (by decide)) rfl T.G_d T.b_n bp_ rfl (aa_ ak_ (aa_ (pv 1) ac_)))) ar_)
  (ae_ (an_ (pv 3)))))),?_⟩
 simp! [tSeq,jN_,cT_,eD_];refine ⟨t,ht,_,PD,bs t,ht,fun q hq=>?_⟩;have e1:((t.drop p).takeWhile fun c=>c != 93)=91::r.takeWhile fun c=>c != 93:=by rw [hd];rfl
 have hp:=cL_ hd;have hlen:=iD_ hd (Nat.le_of_lt hp);rw [length_cons] at hlen;have hm:=hA_ (r.takeWhile fun c=>c != 93);have hmm:=hB_ (m:=r.takeWhile fun c=>c != 93);have htk:=es_ (fun c=>c != 93) r;have hle:=d3_ (fun c=>c != 93) r;rw [e1,length_cons];generalize (r.takeWhile fun c=>c != 93)=m at k hm hmm htk hle ⊢;have ec:cutV (bs t) (some ((p:Int)+1)) (some ((p+(m.length+1):Nat):Int))=bs m:=by
  have:=dy_ t (p+1) (p+(m.length+1)) (by omega);rw [show ((p:Int)+1)=((p+1:Nat):Int) by omega,this,show p+(m.length+1) - (p+1)=m.length by omega,kY_ hd];show bs (r.take m.length)=_;rw [htk]
 rw [ec];refine ⟨m,SqL.of ad_,by omega,fun H' sm=>?_⟩;have sm2:Same H H':=(Same.upd hq).trans sm;refine ⟨bs t,sm2.seq ht,?_⟩;rw [b3_];refine ite2 (fun h=>?_) fun h=>?_
 ·rw [if_pos (.inl (by omega))] at k
  exact ⟨by decide,bx_ (ExF.mono k sm2)⟩
 refine ⟨m.map sgn,rfl,by rw [length_map];omega,fun H2 s2=>⟨_,rfl,?_⟩⟩;rw [hm];cases q2:measureText (m.length+1) m with
 | false =>
  rw [if_pos (.inr q2)] at k;exact iteT ⟨by decide,bx_ (ExF.mono k (sm2.trans s2))⟩
 | true =>
 rw [if_neg (fun z=>z.elim (by omega) (by rw [q2];simp))] at k;refine iteF ?_;rw [hmm q2];exact k _ H2 (sm2.trans s2) rfl
inductive ISignTok (Ca Ct C:Addr) (K:Frag) (H:Hp) (Q:VK) (E:XK):List V->Prop
 | mk (a b:Addr) (t:List Nat) (p:Nat) (L:List (List Nat)):SqL K H a (bs t)->p<t.length->t.length<=10000->GoodSigns L->(∀ H,SqT K H b ((L.map S).map V.str))->RES C H Q E (signToken L p (t.drop p)) (fun x v H'=>∃ b,v = .ref b/\cR_ Ca Ct H' b x.1)->ISignTok Ca Ct C K H Q E [.ref a,.int (p:Int),.ref b]
def gw_ (Ca Ct C:Addr) (K:Frag):Sp:=fun vs H Q E=>ISignTok Ca Ct C K H Q E vs
theorem ok_ae (T:TX w K mg J):FnOk P w K mg base (CX1 P w) 3 J.f_ae J.d_ae ["text","begin","signs"] (gw_ J.C_e J.C_c J.C_d K):=by
 refine T.F_ae.fn.okX sc_ae fun _ _ _ _ H _ Q E hr h=>?_;obtain ⟨a,b,t,p,L,ht,hp,hl,hL,hb,k⟩:=h;refine ⟨_,(ab_ (aA_ 3 sc_ae.nd (aF_ T.F_q (ok_q T) hr.m aq_ (aa_ (cG_ fK_ (pv 0) (bT_ (pv 1)) (bT_ (bf_ ch_ (pv 1) ak_))) ac_)))
  (ab_ (aJ_ (al_ cq_ (pv 3) (pv 2) rfl) (ae_ (aA_ 3 sc_ae.nd (cG_ mE_ (pv 3) kb_ (bT_ ak_)))) ar_)
  (ab_ (aJ_ (al_ cq_ (pv 3) (pv 2) rfl) (ae_ (bJ_ T.X_d (ok_d T) hr.m rfl T.G_d T.b_n bp_ rfl (aa_ ak_ (aa_ (pv 1) ac_)))) ar_)
  (ae_ (an_ (aU_ T.M_c (ok_c T) hr.m rfl T.G_c T.b_w .nil aq_ (aa_ (pe_g T.g_aN) (aa_ (pv 3) (aa_ (pv 1) (aa_ (bf_ ch_ (pv 1) (aD_ aX_ rfl T.b_len PySem.boot_len (aa_ (pv 3) ac_))) (aa_ (pv 3) ac_))))))))))),?_⟩
 simp! [tSeq,cT_,eD_];refine ⟨bs t,ht,fun q hq=>?_⟩;have ec:cutV (bs t) (some (p:Int)) (some ((p:Int)+2))=bs ((t.drop p).take 2):=by
  have:=dy_ t p (p+2) (by omega);rw [show ((p:Int)+2)=((p+2:Nat):Int) by omega,this,add_sub_cancel_left]
 rw [ec];refine ⟨(t.drop p).take 2,SqL.of ad_,by rw [length_take];omega,fun H' sm=>?_⟩;have sm2:Same H H':=(Same.upd hq).trans sm;unfold signToken at k;rw [jh_ hL] at k;unfold jY_ at k;have et:((t.drop p).take 2).take 1=(t.drop p).take 1:=by rw [List.take_take];rfl
 have ec2:cutS (S (((t.drop p).take 2).map sgn)) none (some 1)=S (((t.drop p).take 1).map sgn):=by
  have:=pk_ (((t.drop p).take 2).map sgn) 1;rw [<- List.map_take,et] at this;exact this
 have l2:(((t.drop p).take 2).map sgn).length<=sizeLine:=by
  rw [length_map,length_take];exact Nat.le_trans (Nat.min_le_left _ _) (by decide)
 rw [ec2];have plain : ∀ {x},x∈L->x.map sgn=x:=fun hx=>dM_ fun c hc=>(hL.plain _ hx c hc).1;generalize (t.drop p).take 2=s2 at k l2 ⊢;generalize (t.drop p).take 1=s1 at k ⊢;have inL : ∀ l:List Nat,inV (.str (S (l.map sgn))) ((L.map S).map V.str)=decide (l∈L):=fun l=>by
  rw [in_S,decide_eq_decide];exact nN_ hL l
 refine ⟨_,.inr (hb H'),rfl,flat_strs _,?_⟩;rw [inL];by_cases m2:s2∈L
 ·rw [if_pos m2] at k
  rw [decide_eq_true m2];refine iteF ⟨_,.inr (hb H'),rfl,flat_strs _,?_⟩;rw [inL,decide_eq_true m2];refine iteF ?_;rw [plain m2];simp! [tSeq,bE_,bA_,aX_];refine ⟨by rw [<- plain m2];exact l2,fun x dx hx hdx hne=>?_⟩;refine k _ _ (sm2.trans (aQ_ hx hdx)) ⟨x,rfl,dx,.str (S s2),?_,rfl⟩;rw [ad_];rfl
 rw [if_neg m2] at k;rw [decide_eq_false m2];refine iteT ⟨l2,_,.inr (hb H'),rfl,flat_strs _,?_⟩;rw [inL];by_cases m1:s1∈L
 ·rw [if_pos m1] at k
  rw [decide_eq_true m1];refine iteF ?_;rw [plain m1];simp! [tSeq,bE_,bA_,aX_];refine ⟨?_,fun x dx hx hdx hne=>?_⟩
  ·have:s1.length=1\/s1.length=2:=by
    obtain ⟨L2,L1,rfl,h2,h1⟩:=hL.parts;rcases mem_append.mp m1 with z | z
    ·exact .inr (h2 _ z)
    exact .inl (h1 _ z)
   exact Nat.le_trans (show s1.length<=2 by omega) (by decide)
  refine k _ _ (sm2.trans (aQ_ hx hdx)) ⟨x,rfl,dx,.str (S s1),?_,rfl⟩;rw [ad_];rfl
 rw [if_neg m1] at k;rw [decide_eq_false m1];exact iteT ⟨by decide,bx_ (ExF.mono k sm2)⟩
inductive INumTok (Ca Ct C:Addr) (K:Frag) (H:Hp) (Q:VK) (E:XK):List V->Prop
 | mk (a:Addr) (t:List Nat) (p d c:Nat) (r:List Nat) (neg:Bool):SqL K H a (bs t)->t.length<=10000->d=p+(if neg=true then 1 else 0)->t.drop d=c::r->Vaunid.isDigit c=true->RES C H Q E (numberToken neg p (t.drop p)) (fun x v H'=>∃ b,v = .ref b/\cR_ Ca Ct H' b x.1)->INumTok Ca Ct C K H Q E [.ref a,.int (p:Int),.int (d:Int)]
def lv_ (Ca Ct C:Addr) (K:Frag):Sp:=fun vs H Q E=>INumTok Ca Ct C K H Q E vs
theorem ok_v (T:TX w K mg J):FnOk P w K mg base (CX1 P w) 7 J.f_v J.d_v ["text","begin","digits"] (lv_ J.C_e J.C_c J.C_d K):=by
 refine T.F_v.fn.okX sc_v fun _ _ _ _ H _ Q E hr h=>?_;obtain ⟨a,t,p,d,c,r,neg,ht,hl,hd,hdr,hc,k⟩:=h;refine ⟨_,(ab_ (aA_ 3 sc_v.nd (aF_ T.F_ac (ok_ac T) hr.m aq_ (aa_ (pv 0) (aa_ (pv 2) ac_))))
  (ab_ (aA_ 4 sc_v.nd (aF_ T.F_L (ok_L T) hr.m aq_ (aa_ (aF_ T.F_q (ok_q T) hr.m aq_ (aa_ (cG_ fK_ (pv 0) (bT_ (pv 2)) (bT_ (pv 3))) ac_)) ac_)))
  (ab_ (aJ_ (mL_ (oT_ (pv 4))) (ae_ (bJ_ T.X_d (ok_d T) hr.m rfl T.G_d T.b_n bp_ rfl (aa_ ak_ (aa_ (pv 1) ac_)))) ar_)
  (ab_ (aJ_ (PW.pt (pw_and (al_ iV_ (pv 3) (aD_ aP_ rfl T.b_len PySem.boot_len (aa_ (pv 0) ac_)) (aw_ _)) (pw_and1 (al_ bB_ (aY_ aN_ (pv 0) (pv 3) (fun _ _=>rfl)) (pe_g T.g_aY) (aw_ _))))) (ab_ (aA_ 5 sc_v.nd (aF_ T.F_ad (ok_ad T) hr.m aL_ (aa_ (pv 0) (aa_ (pv 3) ac_))))
  (ab_ (aA_ 4 sc_v.nd (aF_ T.F_an (ok_an T) hr.m aq_ (aa_ (pv 4) (aa_ (pv 5) ac_))))
  (ae_ (aA_ 3 sc_v.nd (bf_ ch_ (bf_ ch_ (pv 3) (aD_ aX_ rfl T.b_len PySem.boot_len (aa_ (pv 5) ac_))) ak_))))) ar_)
  (ab_ (aJ_ (al_ iV_ (pv 1) (pv 2) (aw_ _)) (ae_ (aA_ 4 sc_v.nd (aF_ T.F_ao (ok_ao T) hr.m aq_ (aa_ (pv 4) ac_)))) ar_)
  (ab_ (aA_ 6 sc_v.nd (cH_ (al_ bB_ (bf_ in_ (pv 3) (pv 2)) ak_ (aw_ _)) as_ as_))
  (ae_ (an_ (aU_ T.M_c (ok_c T) hr.m rfl T.G_c T.b_w .nil aq_ (aa_ (pe_g T.g_a6) (aa_ (pv 6) (aa_ (pv 1) (aa_ (pv 3) (aa_ (pv 4) ac_)))))))))))))),?_⟩
 have es:(if neg=true then (t.drop p).drop 1 else t.drop p)=t.drop d:=by
  cases neg with
  | false=>rw [hd];rfl
  | true=>rw [hd,if_pos rfl,drop_drop];rfl
 unfold numberToken at k;dsimp only at k;rw [es] at k;obtain ⟨hrest,hsz⟩:=fY_ (t.drop d);have hpos:=kp_ hdr hc;obtain ⟨b2,c2,sp1,sp2,sp3,sp4⟩:=kn_ (t.drop d);have hdlt:=cL_ hdr;generalize hx:numberText (t.drop d)=x at k hrest hsz hpos sp1 sp3;obtain ⟨n,o,rest⟩:=x;dsimp only at k hrest hsz hpos sp1 sp3;rw [length_drop] at hsz sp4;refine bM_ (fun σ' H'=>Same H H'/\σ'=[some (.ref a),some (.int (p:Int)),some (.int (d:Int)),some (.int ((d+n:Nat):Int)),none,none,none]) (fun X hX=>?_) ?_
 ·simp! [tSeq,h6_]
  refine ⟨t,ht,by omega,fun H' sm=>?_⟩;rw [hx];exact hX _ _ ⟨sm,rfl⟩
 rintro σ' H1 ⟨sm1,rfl⟩
 have ht1:=sm1.seq ht;refine bM_ (fun σ' H'=>Same H H'/\∃ am,σ'=[some (.ref a),some (.int (p:Int)),some (.int (d:Int)),some (.int ((d+n:Nat):Int)),some am,none,none]/\(match o with | none=>am = .non | some (tp,lw)=>∃ b,am = .ref b/\a2_ J.C_e H' b (tp:Int) (lw:Int) [])) (fun X hX=>?_) ?_
 ·simp! [tSeq,eD_]
  refine ⟨bs t,ht1,fun q hq=>?_⟩;rw [dy_ t d (d+n) (by omega),add_sub_cancel_left];refine ⟨_,SqL.of ad_,by rw [length_take];omega,fun H2 s2=>?_⟩;have sm2:Same H H2:=sm1.trans ((Same.upd hq).trans s2);rw [sp1];have hall:=et_ (p:=Vaunid.isDigit) (t.drop d);have hpl:((t.drop d).takeWhile Vaunid.isDigit++(if c2=0 then [] else c2::b2)).map sgn=(t.drop d).takeWhile Vaunid.isDigit++(if c2=0 then [] else c2::b2):=dM_ fun y hy=>by
   rcases mem_append.mp hy with z | z
   ·have:=dx_ (hall y z);omega
   rcases sp2 with ⟨rfl,rfl⟩ | ⟨h46,_,hbd⟩
   ·simp at z
   rw [if_neg (by omega)] at z;rcases mem_cons.mp z with z | z
   ·omega
   have:=dx_ (hbd y z);omega
  rw [hpl];refine ⟨_,b2,c2,rfl,hall,?_,by omega,sp2,?_⟩
  ·rw [hdr,takeWhile_cons,hc]
   simp
  rw [<- sp3];cases o with
  | none=>exact fun H3 s3=>hX _ _ ⟨sm2.trans s3,.non,rfl,rfl⟩
  | some tp=>exact fun b H3 s3 hb=>hX _ _ ⟨sm2.trans s3,.ref b,rfl,b,rfl,hb⟩
 rintro σ' H2 ⟨sm2,am,rfl,ham⟩
 have ht2:=sm2.seq ht;cases o with
 | none =>
  subst ham;simp! [tSeq,cT_];exact ⟨by decide,bx_ (ExF.mono k sm2)⟩
 | some tl =>
 obtain ⟨tp,lw⟩:=tl;obtain ⟨b,rfl,hb⟩:=ham;dsimp only at k;refine bM_ (fun σ' H'=>H'=H2/\σ'=[some (.ref a),some (.int (p:Int)),some (.int (d:Int)),some (.int ((d+n:Nat):Int)),some (.ref b),none,none]) (fun X hX=>?_) ?_
 ·simp! [tSeq,cT_]
  exact hX _ _ ⟨rfl,rfl⟩
 rintro σ' H2' ⟨rfl,rfl⟩
 have hrest':rest=t.drop (d+n):=by rw [hrest,drop_drop]
 have hpd:p+(n+if neg=true then 1 else 0)=d+n:=by omega
 rw [hpd] at k;refine bM_ (fun σ' H'=>Same H H'/\∃ (am:Addr) (m:Option (List Nat)) (e:Nat) (dg:Option Int) (mz:Option V),σ'=[some (.ref a),some (.int (p:Int)),some (.int (d:Int)),some (.int (e:Int)),some (.ref am),mz,none]/\a2_ J.C_e H' am (tp:Int) (lw:Int) (m.getD [])/\(dg.isSome=decide (e=d+1))/\d<e /\
   (∀ v H',Same H H'->(∃ b,v = .ref b/\cR_ J.C_e J.C_c H' b { tok := .num { top:=if neg=true then -(tp:Int) else (tp:Int),low:=lw,measure:=m } dg,start:=p,halt_:=e })->Q v H')) (fun X hX=>?_) ?_
 ·simp! [tSeq]
  refine ⟨bs t,.inl ht2,?_⟩;rw [b3_];have nomeas:(∀ r2,rest≠91::r2)->X [some (.ref a),some (.int (p:Int)),some (.int (d:Int)),some (.int ((d+n:Nat):Int)),some (.ref b),none,none] H2':=fun hno=>by
   refine hX _ _ ⟨sm2,b,none,d+n,(if n=1 then some (if neg=true then -(tp:Int) else (tp:Int)) else none),none,rfl,hb,?_,by omega,?_⟩
   ·by_cases h1:n=1
    ·subst h1
     simp
    rw [if_neg h1,decide_eq_false (by omega)];rfl
   split at k
   ·exact absurd rfl (hno _)
   exact fun v H' s' q=>k v H' s' q
  refine ite2 (fun hlt=>?_) fun hlt=>nomeas fun r2 z=>?_
  ·have hlt':d+n<t.length:=by omega
   have hg1:t[d+n]? = some t[d+n]:=getElem?_eq_getElem hlt';have hd1:=dS_ hg1;generalize t[d+n]=c3 at hg1 hd1;refine ⟨bs t,ht2,_,bt_ (d1_ hg1),rfl,ite2 (fun h=>?_) fun h=>nomeas fun r2 z=>?_⟩
   ·have hc3:c3=91:=by injection h with h;omega
    subst hc3;rw [<- hrest'] at hd1;rw [hd1] at k;change RES J.C_d H Q E (if _\/_ then _ else _) _ at k;refine ⟨a,t,d+n,_,rfl,ht2,by rw [<- hrest'];exact hd1,hl,?_⟩;generalize t.drop (d+n+1)=r2 at k hd1 ⊢;by_cases hbad:(r2.takeWhile fun c=>c != 93).length=r2.length\/measureText ((r2.takeWhile fun c=>c != 93).length+1) (r2.takeWhile fun c=>c != 93)=false
    ·rw [if_pos hbad] at k ⊢
     exact ExF.mono k sm2
    rw [if_neg hbad] at k ⊢
    rintro v H3 s3 rfl
    simp! [tSeq,fc_];refine ⟨_,_,_,_,rfl,hb.same s3,fun b3 H4 s4 hb4=>⟨?_,?_⟩⟩
    ·have h1:=d3_ (fun c=>c != 93) r2
     have h2:=cL_ (hrest'.symm.trans hd1);have h3:=iD_ (hrest'.symm.trans hd1) (Nat.le_of_lt h2);rw [length_cons] at h3;exact Nat.le_trans (show _<=10000 by omega) (by decide)
    refine hX _ _ ⟨sm2.trans (s3.trans s4),b3,some (r2.takeWhile fun c=>c != 93),d+n+(r2.takeWhile fun c=>c != 93).length+2,none,_,rfl,hb4,?_,by omega,?_⟩
    ·rw [decide_eq_false (by omega)]
     rfl
    exact fun v H' s' q=>k v H' s' q
   rw [hrest',hd1] at z;cases z;exact h rfl
  rw [hrest'] at z;exact absurd (cL_ z) (by omega)
 rintro σ' H3 ⟨sm3,am,m,e,dg,mz,rfl,ham,hdg,hde,k⟩
 refine bM_ (fun σ' H'=>Same H H'/\∃ (am:Addr) (mz:Option V),σ'=[some (.ref a),some (.int (p:Int)),some (.int (d:Int)),some (.int (e:Int)),some (.ref am),mz,none]/\a2_ J.C_e H' am (if neg=true then -(tp:Int) else (tp:Int)) (lw:Int) (m.getD [])) (fun X hX=>?_) ?_
 ·simp! [tSeq,gy_]
  refine ite2 (fun h=>?_) fun h=>?_
  ·have hn:neg=true:=by
    cases neg with
    | true=>rfl
    | false=>simp at hd;omega
   rw [if_pos hn] at hX;exact ⟨_,_,_,ham,fun b4 H4 s4 hb4=>hX _ _ ⟨sm3.trans s4,_,_,rfl,hb4⟩⟩
  have hn:neg=false:=by
   cases neg with
   | false=>rfl
   | true=>simp at hd;omega
  rw [if_neg (by rw [hn];simp)] at hX;exact hX _ _ ⟨sm3,_,_,rfl,ham⟩
 rintro σ' H4 ⟨sm4,am,mz,rfl,ham⟩
 simp! [tSeq,bE_,bA_];refine ite2 (fun h=>?_) fun h=>?_
 ·intro x dx hx hdx hne
  refine k _ _ (sm4.trans (aQ_ hx hdx)) ⟨x,rfl,dx,.ref am,?_,am,rfl,ham.same (aQ_ hx hdx)⟩;rw [ad_];have hk:kindOf (.num { top:=if neg=true then -(tp:Int) else (tp:Int),low:=lw,measure:=m } dg)=Vaunid.txt "digit":=if_pos (by rw [hdg];exact decide_eq_true (by omega));show _=some (HO.ins J.C_c dx (d5_ 1 (S (kindOf (.num _ dg))) _ _ _));rw [hk,<- aI_];rfl
 intro x dx hx hdx hne;refine k _ _ (sm4.trans (aQ_ hx hdx)) ⟨x,rfl,dx,.ref am,?_,am,rfl,ham.same (aQ_ hx hdx)⟩;rw [ad_];have hk:kindOf (.num { top:=if neg=true then -(tp:Int) else (tp:Int),low:=lw,measure:=m } dg)=Vaunid.txt "number":=if_neg (by rw [hdg,decide_eq_true_eq];omega);show _=some (HO.ins J.C_c dx (d5_ 1 (S (kindOf (.num _ dg))) _ _ _));rw [hk,<- aI_];rfl
def oy_ (core:Bool) (Ca Ct C:Addr) (K:Frag):Sp:=fun vs H Q E=>∃ (a:Addr) (t:List Nat) (p:Nat),vs=[.ref a,.int (p:Int)]/\SqL K H a (bs t)/\p<t.length/\t.length<=10000 /\
 RES C H Q E (token core p (t.drop p)) (fun x v H'=>∃ b,v = .ref b/\cR_ Ca Ct H' b x.1)
theorem ok_W (T:TX w K mg J):FnOk P w K mg base (CX1 P w) 5 J.f_W J.d_W ["text","place"] (oC_ true J.C_d K):=by
 have PD:li_ P w K mg base 2 J.f_Q (fun c=>c == 32):=⟨_,_,(ok_Q T).mono (by decide),T.F_Q.b,T.F_Q.fn.kp⟩;refine T.F_W.fn.okX sc_W fun _ _ _ _ H _ Q E hr h=>?_;obtain ⟨a,t,p,rfl,ht,hp,k⟩:=h;refine ⟨_,(ae_ (an_ (aF_ T.F_o (ok_o T) hr.m aq_ (aa_ (pv 0) (aa_ (pv 1) (aa_ (pe_r T.F_Q.mg) ac_)))))),?_⟩;simp! [tSeq,jN_];refine ⟨t,ht,_,PD,?_⟩;rw [fn_] at k;exact k _ H (Same.refl H) rfl
theorem hz_ {t:List Nat}{p c:Nat} (hd:t.drop p=c::t.drop (p+1)):(minusDigit (t.drop p)=true)↔(c=45/\∃ d r,t.drop (p+1)=d::r/\Vaunid.isDigit d=true):=by
 rw [hd];unfold minusDigit
 constructor
 ·intro h
  split at h
  ·rename_i d r e
   injection e with e1 e2;exact ⟨e1,d,r,e2,h⟩
  cases h
 rintro ⟨rfl,d,r,e,h⟩
 rw [e];exact h
theorem ok_N (T:TX w K mg J):FnOk P w K mg base (CX1 P w) 8 J.f_N J.d_N ["text","begin"] (oy_ true J.C_e J.C_c J.C_d K):=by
 refine T.F_N.fn.okX sc_N fun _ _ _ _ H _ Q E hr h=>?_;obtain ⟨a,t,p,rfl,ht,hp,hl,k⟩:=h;refine ⟨_,(ab_ (aJ_ (cU_ (aF_ T.F_J (ok_J T) hr.m aq_ (aa_ (aY_ aN_ (pv 0) (pv 1) (fun _ _=>rfl)) ac_))) (ae_ (an_ (aF_ T.F_X (ok_X T) hr.m aL_ (aa_ (pv 0) (aa_ (pv 1) ac_))))) ar_)
  (ab_ (aA_ 2 sc_N.nd (cH_ (al_ bB_ (aY_ aN_ (pv 0) (pv 1) (fun _ _=>rfl)) (pe_g T.g_a0) (aw_ _)) (bf_ ch_ (pv 1) ak_) (pv 1)))
  (ab_ (aJ_ (PW.pt (pw_and (al_ iV_ (pv 2) (aD_ aP_ rfl T.b_len PySem.boot_len (aa_ (pv 0) ac_)) (aw_ _)) (pw_and1 (cU_ (aF_ T.F_m (ok_m T) hr.m aq_ (aa_ (aY_ aN_ (pv 0) (pv 2) (fun _ _=>rfl)) ac_)))))) (ae_ (an_ (aF_ T.F_v (ok_v T) hr.m aL_ (aa_ (pv 0) (aa_ (pv 1) (aa_ (pv 2) ac_)))))) ar_)
  (ae_ (an_ (aF_ T.F_ae (ok_ae T) hr.m aL_ (aa_ (pv 0) (aa_ (pv 1) (aa_ (pe_r T.g_at) ac_))))))))),?_⟩
 simp! [tSeq];have hg1:t[p]? = some t[p]:=getElem?_eq_getElem hp;have hd1:=dS_ hg1;generalize t[p]=c at hg1 hd1;have md:=hz_ hd1;rw [hd1] at k;unfold token at k;dsimp only at k;rw [<- hd1] at k;refine ⟨bs t,ht,_,bt_ (d1_ hg1),?_⟩;simp! [tSeq,spB];refine cc_ (fun h=>?_) fun h=>⟨bs t,ht,_,bt_ (d1_ hg1),?_⟩
 ·rw [if_pos h] at k
  exact ⟨a,t,p,ht,Nat.le_of_lt hp,hl,k⟩
 rw [if_neg (by rw [h];simp)] at k;have signs : ¬ Vaunid.isDigit c=true->¬ minusDigit (t.drop p)=true->gw_ J.C_e J.C_c J.C_d K [.ref a,.int (p:Int),.ref J.a_at] H Q E:=fun h2 h3=>by
  rw [if_neg h2,if_neg (fun z=>h3 z.2)] at k;refine ⟨a,_,t,p,coreSigns,ht,hp,hl,kL_,fun H'=>?_,k⟩;rw [<- k6_];exact T.t_at H'
 simp! [tSeq,spB];refine ite2 (fun h45=>?_) fun h45=>?_
 ·have e45:c=45:=by omega
  subst e45;refine ⟨bs t,.inl ht,?_⟩;rw [b3_];refine ite2 (fun h2=>?_) fun h2=>?_
  ·have h2':p+1<t.length:=by omega
   have hg2:t[p+1]? = some t[p+1]:=getElem?_eq_getElem h2';have hd2:=dS_ hg2;generalize t[p+1]=d at hg2 hd2;refine ⟨bs t,ht,_,bt_ (d1_ hg2),?_⟩;simp! [tSeq,spB];refine cc_ (fun h3=>?_) fun h3=>?_
   ·rw [if_neg (by decide),if_pos ⟨rfl,md.mpr ⟨rfl,d,_,hd2,h3⟩⟩] at k
    exact ⟨a,t,p,p+1,d,_,true,ht,hl,rfl,hd2,h3,k⟩
   exact signs (by decide) (fun z=>by
    obtain ⟨_,d',r',e1,e2⟩:=md.mp z;rw [hd2] at e1;cases e1;rw [h3] at e2;cases e2)
  exact signs (by decide) (fun z=>by
   obtain ⟨_,d',r',e1,e2⟩:=md.mp z;rw [drop_eq_nil_of_le (by omega)] at e1;cases e1)
 have e45 : ¬ c=45:=by omega
 refine ⟨bs t,.inl ht,?_⟩;rw [b3_];refine ite2 (fun h2=>?_) fun h2=>?_
 ·refine ⟨bs t,ht,_,bt_ (d1_ hg1),?_⟩
  simp! [tSeq,spB];refine cc_ (fun h3=>?_) fun h3=>?_
  ·rw [if_pos h3] at k
   exact ⟨a,t,p,p,c,_,false,ht,hl,rfl,hd1,h3,k⟩
  exact signs (by rw [h3];simp) (fun z=>e45 (md.mp z).1)
 omega
def GapF (P:Program) (w:World) (K:Frag) (mg:zM) (base:Heap) (k:Nat) (C f:Addr) (core:Bool):Prop:=∃ fd ps,FnOk P w K mg base (CX1 P w) k f fd ps (oC_ core C K)/\bb_ K fd ps []/\keepIn K (.ref f)=true
def TokF (P:Program) (w:World) (K:Frag) (mg:zM) (base:Heap) (k:Nat) (Ca Ct C f:Addr) (core:Bool):Prop:=∃ fd ps,FnOk P w K mg base (CX1 P w) k f fd ps (oy_ core Ca Ct C K)/\bb_ K fd ps []/\keepIn K (.ref f)=true
def ic_ (Ca Ct:Addr) (l:List Vaunid.Token) (v:V) (H:Hp):Prop:=∃ (b:Addr) (as:List Addr),v = .ref b/\H b=some (.lst (as.map V.ref))/\cj_ Ca Ct H as l
def jU_ (P:Program) (w:World) (K:Frag) (mg:zM) (base:Heap) (Ca Ct C:Addr):Sp:=fun vs H Q E=>∃ (a f g:Addr) (t:List Nat) (core:Bool),vs=[.ref a,.ref f,.ref g]/\SqL K H a (bs t)/\t.length<=10000/\GapF P w K mg base 8 C f core/\TokF P w K mg base 8 Ca Ct C g core /\
 RES C H Q E (d4_ core 0 t) (ic_ Ca Ct)
theorem ok_M (T:TX w K mg J):FnOk P w K mg base (CX1 P w) 9 J.f_M J.d_M ["text","gap_end","token_at"] (jU_ P w K mg base J.C_e J.C_c J.C_d):=by
 refine T.F_M.fn.okX sc_M fun _ _ _ _ H _ Q E hr h=>?_;obtain ⟨a,f,g,t,core,rfl,ht,hl,⟨fd1,ps1,F1,b1,k1⟩,⟨fd2,ps2,F2,b2,k2⟩,k⟩:=h;refine ⟨_,(ab_ (aA_ 3 sc_M.nd (aK_ ac_))
  (ab_ (aA_ 4 sc_M.nd (ca_ (CX:=CX1 P w) (k:=8) 1 hr.m aL_ (aa_ (pv 0) (aa_ ak_ ac_))))
  (ab_ (bI_ im_ (al_ iV_ (pv 4) (aD_ aP_ rfl T.b_len PySem.boot_len (aa_ (pv 0) ac_)) (aw_ _)) (ab_ (aA_ 5 sc_M.nd (ca_ (CX:=CX1 P w) (k:=8) 2 hr.m aL_ (aa_ (pv 0) (aa_ (pv 4) ac_))))
  (ab_ (aE_ (bP_ pla sla tla aB_ (pv 3) (aa_ (pv 5) ac_)))
  (ae_ (aA_ 4 sc_M.nd (ca_ (CX:=CX1 P w) (k:=8) 1 hr.m aL_ (aa_ (pv 0) (aa_ (ah_ (pv 5) rfl) ac_))))))))
  (ae_ (an_ (pv 3)))))),?_⟩
 simp! [tSeq,ex_];refine ⟨zero_le _,fun b hb=>⟨fd1,ps1,_,F1,b1,k1,a,t,0,rfl,(Same.upd hb).seq ht,zero_le _,?_⟩⟩;rw [drop_zero];cases q0:gapT core 0 t with
 | error e =>
  rw [dE_,q0] at k;exact ExF.mono k (Same.upd hb)
 | ok x =>
 obtain ⟨g1,g2,g3⟩:=ei_ core _ _ _ _ q0;rw [sub_zero] at g3;rw [zero_add] at g2
 rintro v H1 s1 rfl
 have hk0:d4_ core 0 t=preR [] (aS_ core (x.1,t.drop x.1)):=by
  rw [dE_,q0];show aS_ core x=_;rw [<- g3];show aS_ core (x.1,x.2)=_;cases aS_ core (x.1,x.2) <;> rfl
 obtain ⟨Pv,hPv⟩ : ∃ Pv:Nat->L2.St->Hp->Prop,Pv=fun m σ H'=>Same H H'/\∃ (q:Nat) (as:List Addr) (l:List Vaunid.Token) (z:Option V),m=t.length - q/\q<=t.length/\as.length<=q/\σ=[some (.ref a),some (.ref f),some (.ref g),some (.ref b),some (.int (q:Int)),z] /\
  H' b=some (.lst (as.map V.ref))/\cj_ J.C_e J.C_c H' as l/\d4_ core 0 t=preR l (aS_ core (q,t.drop q)):=⟨_,rfl⟩
 refine b5_ Pv _ (by rw [hPv];exact ⟨(Same.upd hb).trans s1,x.1,[],[],none,rfl,g2,zero_le _,rfl,s1 _ _ ad_,.nil,hk0⟩) fun m σ H' hp=>?_;rw [hPv] at hp;obtain ⟨sm,q,as,l,z,rfl,hq,hal,rfl,hbl,hto,hk⟩:=hp;have ht':=sm.seq ht;simp! [tSeq,ex_];refine ⟨bs t,.inl ht',?_⟩;rw [b3_];refine ite2 (fun hlt=>?_) fun hlt=>?_
 ·have hlt':q<t.length:=by omega
  have hg1:t[q]? = some t[q]:=getElem?_eq_getElem hlt';have hd1:=dS_ hg1;generalize t[q]=c at hg1 hd1;refine ⟨_,fun _ _ z=>z,fd2,ps2,_,F2,b2,k2,a,t,q,rfl,ht',hlt',hl,?_⟩;cases qt:token core q (t.drop q) with
  | error e =>
   have e1:d4_ core 0 t = .error e:=by
    rw [hk];unfold aS_;rw [hd1] at qt;rw [hd1];dsimp only;rw [qt];rfl
   rw [e1] at k;exact ExF.mono k sm
  | ok y =>
  obtain ⟨kt,rest⟩:=y;have tf:=bX_ qt;have hhl:kt.halt_<=t.length:=by have:=tf.le;rw [length_drop] at this;omega
  have hqh:q<kt.halt_:=tf.lt;have hrest:rest=t.drop kt.halt_:=by rw [tf.rest,drop_drop];congr 1;omega
  rintro v H2 s2 ⟨bt,rfl,htk⟩
  have hk2:d4_ core 0 t=preR l (match gapT core kt.halt_ (t.drop kt.halt_) with | .error e => .error e | .ok y=>preR [kt] (aS_ core y)):=by
   rw [hk];congr 1;have e2:aS_ core (q,t.drop q)=(match d4_ core kt.halt_ rest with | .error e => .error e | .ok l => .ok (kt::l)):=by
    unfold aS_;rw [hd1] at qt ⊢;dsimp only;rw [qt] <;> rfl
   rw [e2,hrest,dE_];cases gapT core kt.halt_ (t.drop kt.halt_) with
   | error e=>rfl
   | ok y =>
   show (match aS_ core y with | .error e => .error e | .ok l => .ok (kt::l))=preR [kt] (aS_ core y)
   cases aS_ core y <;> rfl
  simp! [tSeq,tBM,a4_,tFld,ex_];have hbl2:=s2 _ _ hbl;obtain ⟨dt,ct,hins,hcont⟩:=htk;have nbt:bt≠b:=be_ hins hbl2 (by intro z;cases z);have sI:d7_ H2 (upd H2 b (.lst (as.map V.ref++[.ref bt]))):=d7_.lst hbl2;have sH:Same H (upd H2 b (.lst (as.map V.ref++[.ref bt]))):=fun c o e=>by
   rw [am_ (af_ e hb)];exact s2 _ _ (sm _ _ e)
  refine ⟨.inl ⟨rfl,_,SqL.of hbl2⟩,_,hbl2,?_,?_⟩
  ·rw [length_map]
   exact Nat.lt_of_le_of_lt (show as.length<=10000 by omega) (by decide)
  refine ⟨fd1,ps1,_,F1,b1,k1,J.C_c,dt,_,by rw [am_ nbt];exact hins,T.cl_c,T.n_aU,_,rfl,a,t,kt.halt_,rfl,sH.seq ht,hhl,?_⟩;cases qg:gapT core kt.halt_ (t.drop kt.halt_) with
  | error e =>
   rw [qg] at hk2;rw [hk2] at k;exact ExF.mono k sH
  | ok y =>
  obtain ⟨g1,g2,g3⟩:=ei_ core _ _ _ _ qg;rw [length_drop] at g2
  rintro v H3 s3 rfl
  refine ⟨t.length - y.1,by omega,?_⟩;rw [hPv];refine ⟨sH.trans s3,y.1,as++[bt],l++[kt],_,rfl,by omega,by rw [length_append,length_singleton];omega,rfl,?_,?_,?_⟩
  ·rw [map_append]
   exact s3 _ _ ad_
  ·exact cj_.snoc (cj_.sameI hto ((Same.insts s2).trans (sI.trans (Same.insts s3)))) (cR_.sameI ⟨dt,ct,hins,hcont⟩ (sI.trans (Same.insts s3)))
  rw [hk2,qg];dsimp only;have e3:y=(y.1,t.drop y.1):=by
   have:y.2=t.drop y.1:=by rw [g3,drop_drop];congr 1;omega
   rw [<- this]
  rw [<- e3];cases aS_ core y with
  | error e=>rfl
  | ok l2 =>
  show Except.ok _=Except.ok _;rw [append_assoc]
 have e0:t.drop q=[]:=drop_eq_nil_of_le (by omega);rw [e0] at hk;have e1:d4_ core 0 t = .ok l:=by
  rw [hk];show Except.ok (l++[])=_;rw [append_nil]
 rw [e1] at k;exact k _ H' sm ⟨b,as,rfl,hbl,hto⟩
def gx_ (core:Bool) (Ca Ct C:Addr) (K:Frag):Sp:=fun vs H Q E=>∃ (a:Addr) (t:List Nat),vs=[.ref a]/\SqL K H a (bs t)/\t.length<=10000/\RES C H Q E (allTokens core t) (ic_ Ca Ct)
theorem ok_ap (T:TX w K mg J):FnOk P w K mg base (CX1 P w) 10 J.f_ap J.d_ap ["text"] (gx_ true J.C_e J.C_c J.C_d K):=by
 have GF:GapF P w K mg base 8 J.C_d J.f_W true:=⟨_,_,(ok_W T).mono (by decide),T.F_W.b,T.F_W.fn.kp⟩;have TF:TokF P w K mg base 8 J.C_e J.C_c J.C_d J.f_N true:=⟨_,_,ok_N T,T.F_N.b,T.F_N.fn.kp⟩;refine T.F_ap.fn.okX sc_ap fun _ _ _ _ H _ Q E hr h=>?_;obtain ⟨a,t,rfl,ht,hl,k⟩:=h;refine ⟨_,(ae_ (an_ (aF_ T.F_M (ok_M T) hr.m aL_ (aa_ (pv 0) (aa_ (pe_r T.F_W.mg) (aa_ (pe_r T.F_N.mg) ac_)))))),?_⟩;simp! [tSeq];exact ⟨a,_,_,t,true,rfl,ht,hl,GF,TF,k⟩
def gz_ (Ca:Addr):Sp:=fun vs H Q _=>∃ (a:Addr) (v:Vaunid.Lit),vs=[.ref a]/\a2_ Ca H a v.top (v.low:Int) (v.measure.getD [])/\gd_ v/\Q (.str (S (shownLit v))) H
theorem ok_E (T:TX w K mg J):FnOk P w K mg base CX0 1 J.f_E J.d_E ["amount"] (gz_ J.C_e):=by
 refine T.F_E.fn.ok sc_E fun _ _ _ _ H _ Q E hr h=>?_;obtain ⟨a,v,rfl,⟨dx,ha⟩,g,k⟩:=h;refine ⟨_,(ab_ (aA_ 1 sc_E.nd (a8_ bQ_ rfl T.b_str cy_ (aa_ (ah_ (pv 0) rfl) ac_)))
  (ab_ (aJ_ (al_ iT_ (ah_ (pv 0) rfl) ak_ (aw_ _)) (ae_ (aA_ 1 sc_E.nd (bf_ bd_ (bf_ bd_ (pv 1) as_) (a8_ bQ_ rfl T.b_str cy_ (aa_ (ah_ (pv 0) rfl) ac_))))) ar_)
  (ab_ (aJ_ (al_ iT_ (ah_ (pv 0) rfl) as_ (aw_ _)) (ae_ (aA_ 1 sc_E.nd (bf_ bd_ (bf_ bd_ (bf_ bd_ (pv 1) as_) (ah_ (pv 0) rfl)) as_))) ar_)
  (ae_ (an_ (pv 1)))))),?_⟩
 have big : ∀ n:Nat,n<=20000->n<=sizeLine:=fun n h=>Nat.le_trans h (by decide);have d1:=cV_ g.2.1;have d2:=bO_ g.2.2;have lm:(v.measure.getD []).length<=10000:=by
  cases h:v.measure with
  | none=>exact zero_le _
  | some m=>exact (g.1 m h).2
 rw [gD_ v g] at k;simp! [tSeq,tFld,ha];refine ⟨T.cl_e,T.n_aS,_,rfl,_,rfl,eF_ g.2.1,?_⟩;refine ⟨T.cl_e,T.n_aI,_,rfl,rfl,?_⟩;rw [str_int];generalize hm:v.measure.getD []=m at *;have tail : ∀ l:List Nat,l.length<=1000->Q (.str (S (l++(if m=[] then [] else 91::(m++[93]))))) H->Cls K J.C_e/\aC_ K J.C_e (ofString "measure")/\∃ x,List.lookup (ofString "measure") (afs v.top (↑v.low) (S m))=some x/\scal x (V.str (ofString ""))=true /\
   if (!decide (x=V.str (ofString "")))=true then (S l).length+(ofString "[").length<=sizeLine/\Cls K J.C_e/\aC_ K J.C_e (ofString "measure")/\∃ x,List.lookup (ofString "measure") (afs v.top (↑v.low) (S m))=some x/\∃ x_1,x=V.str x_1 /\
    (S l++ofString "[").length+x_1.length<=sizeLine/\(S l++ofString "["++x_1).length+(ofString "]").length<=sizeLine/\Q (V.str (S l++ofString "["++x_1++ofString "]")) H
   else Q (V.str (S l)) H:=fun l hl q=>by
  refine ⟨T.cl_e,T.n_aT,_,rfl,rfl,?_⟩;simp only [lW_,k9_,kT_,V.str.injEq,ce_,gc_,a5_,length_append,length_singleton];by_cases hm0:m=[]
  ·rw [if_pos hm0,append_nil] at q
   rw [decide_eq_true hm0];exact q
  rw [if_neg hm0] at q;rw [decide_eq_false hm0];refine ⟨big _ (by omega),T.cl_e,T.n_aT,_,rfl,S m,rfl,big _ (by rw [a5_];omega),?_⟩;simp only [gc_,a5_,length_append,length_singleton,append_assoc,List.singleton_append];exact ⟨big _ (by simp only [length_cons];omega),q⟩
 by_cases h1:v.low=1
 ·rw [if_pos h1,append_nil] at k
  rw [if_neg (by simp [h1])];exact tail _ (by omega) k
 rw [if_neg h1] at k;rw [if_pos (by simp;omega)];refine ⟨by rw [a5_,gC_,a5_];exact big _ (by simp;omega),T.cl_e,T.n_aI,_,rfl,_,rfl,eF_ (by rw [Int.natAbs_natCast];exact g.2.2),?_⟩;rw [str_int,gC_,gc_,gc_,bW_,append_assoc];refine ⟨by simp only [a5_,length_append,length_singleton];exact big _ (by omega),?_⟩;exact tail _ (by simp;omega) k
theorem ok_b (T:TX w K mg J):FnOk P w K mg base CX0 1 J.f_r J.d_r ["self","form","words","parts","begin","end"] (bA_ J.C_b ["form","words","parts","begin","end"]):=by
 refine T.F_r.ok sc_r (fun _ _ _ _ H _ Q E hr h=>?_) fun _ _ _ _ h=>dq_ h;obtain ⟨p,dx,args,rfl,hl,hp,k⟩:=h;obtain ⟨a,b,c,d,e,rfl⟩:=len5 hl;refine ⟨_,(ab_ (a7_ (pv 0) (pv 1) rfl)
  (ab_ (a7_ (pv 0) (pv 2) rfl)
  (ab_ (a7_ (pv 0) (pv 3) rfl)
  (ab_ (a7_ (pv 0) (pv 4) rfl)
  (ae_ (a7_ (pv 0) (pv 5) rfl)))))),?_⟩
 simp! [tSeq,sFld];refine ⟨_,_,_,hp,T.cl_b,T.n_ay,few0,T.cl_b,T.n_ax,few1,T.cl_b,T.n_aB,few2,T.cl_b,T.n_aF,few3,T.cl_b,T.n_aP,few4,?_⟩;exact k
theorem ok_g (T:TX w K mg J):FnOk P w K mg base CX0 1 J.f_x J.d_x ["self","kind","owner","depth"] (bA_ J.C_g ["kind","owner","depth"]):=by
 refine T.F_x.ok sc_x (fun _ _ _ _ H _ Q E hr h=>?_) fun _ _ _ _ h=>dq_ h;obtain ⟨p,dx,args,rfl,hl,hp,k⟩:=h;obtain ⟨a,b,c,rfl⟩:=len3 hl;refine ⟨_,(ab_ (a7_ (pv 0) (pv 1) rfl)
  (ab_ (a7_ (pv 0) (pv 2) rfl)
  (ae_ (a7_ (pv 0) (pv 3) rfl)))),?_⟩
 simp! [tSeq,sFld];refine ⟨_,_,_,hp,T.cl_g,T.n_aA,few0,T.cl_g,T.n_ba,few1,T.cl_g,T.n_aV,few2,?_⟩;exact k
inductive IRowInit (Ca Ct Cr:Addr) (H:Hp) (Q:VK):List V->Prop
 | mk (p dx b:Addr) (as:List Addr) (l:Toks) (hl:Nat):H p=some (.ins Cr dx [])->H b=some (.lst (as.map V.ref))->as.length<=10000->cj_ Ca Ct H as l->(∀ (la:Addr) (H':Hp),H la=none->ai_ [p] H H'->bo_ Ca Ct Cr H' p la (l++[sent hl])->Q .non H')->IRowInit Ca Ct Cr H Q [.ref p,.ref b,.int (hl:Int)]
def jO_ (Ca Ct Cr:Addr):Sp:=fun vs H Q _=>IRowInit Ca Ct Cr H Q vs
theorem ok_f (T:TX w K mg J):FnOk P w K mg base CX0 3 J.f_P J.d_P ["self","found","length"] (jO_ J.C_e J.C_c J.C_f):=by
 refine T.F_P.ok sc_P fun _ _ _ _ H _ Q E hr h=>?_;obtain ⟨p,dx,b,as,l,hl,hp,hb,hn,hto,k⟩:=h;refine ⟨_,(ab_ (a7_ (pv 0) (bf_ mQ_ (pv 1) (aK_ (aa_ (aU_ T.M_c (ok_c T) hr.m rfl T.G_c T.b_w .nil aq_ (aa_ (pe_g T.g_aN) (aa_ as_ (aa_ (pv 2) (aa_ (pv 2) (aa_ as_ ac_)))))) ac_))) rfl)
  (ae_ (a7_ (pv 0) ak_ rfl))),?_⟩
 simp! [tSeq,sFld,bE_,rCat];refine bw_ rfl fun x dx1 H1 hx s1 e1=>⟨by decide,fun q hq=>?_⟩;have s2:Same H1 (upd H1 q (.lst [.ref x])):=Same.upd hq;have e2:upd H1 q (.lst [.ref x]) q=some (.lst [.ref x]):=ad_;generalize upd H1 q (.lst [.ref x])=H2 at s2 e2 ⊢;have s12:Same H H2:=s1.trans s2;refine ⟨_,s12 _ _ hb,_,rfl,?_,fun la hla=>?_⟩
 ·rw [length_map]
  exact Nat.le_trans (show as.length+1<=10001 by omega) (by decide)
 have hla0:=none_of s12 hla;have nla:la≠p:=fun z=>by rw [z,s12 _ _ hp] at hla;cases hla
 have s3:Same H2 (upd H2 la (.lst (as.map V.ref++[.ref x]))):=Same.upd hla;have e3:upd H2 la (.lst (as.map V.ref++[.ref x])) la=some (.lst (as.map V.ref++[.ref x])):=ad_;generalize upd H2 la (.lst (as.map V.ref++[.ref x]))=H3 at s3 e3 ⊢;have s13:Same H H3:=s12.trans s3;have hp3:=s13 _ _ hp;refine ⟨_,_,_,hp3,T.cl_f,T.n_be,few0,T.cl_f,T.n_a9,few1,?_⟩;have im:Imm H3 (upd H3 p (.ins J.C_f dx (hq_ la 0))):=⟨fun a C dx' g k b e c q=>by
   rw [am_ (be_ q hp3 (by intro z;injection z with _ _ z;cases z))];exact q,fun a C dx' o u m q=>by
   rw [am_ (be_ q hp3 (by intro z;injection z with _ _ z;cases z))];exact q⟩
 refine k la (upd H3 p (.ins J.C_f dx (hq_ la 0))) hla0 (fun a o n e=>?_) ⟨dx,as++[x],0,ad_,?_,?_⟩
 ·rw [am_ (fun z=>n (by rw [z];exact mem_singleton.mpr rfl))]
  exact s13 _ _ e
 ·rw [am_ nla,e3,map_append]
  rfl
 rw [drop_zero];refine aR_ (Paired.mapP hto fun a k z=>((z.same s13).b).imm im) ?_;refine TokB.imm ⟨dx1,.str (ofString ""),?_,trivial⟩ im;rw [s3 _ _ (s2 _ _ e1)];show some (HO.ins J.C_c dx1 (d5_ 2 (ofString "end") (hl:Int) (hl:Int) (.str (ofString ""))))=_;rw [aI_];rfl
def bv_ (Ca Ct Cr:Addr):Sp:=fun vs H Q _=>∃ (row la:Addr) (t:Vaunid.Token) (l:Toks),vs=[.ref row]/\bo_ Ca Ct Cr H row la (t::l)/\∀ b,TokB Ca Ct H b t->Q (.ref b) H
theorem h9_ {Ca Ct:Addr}{H:Hp}{as:List Addr}{i:Nat}{t:Vaunid.Token}{l:Toks} (h:Paired (fun a k=>TokB Ca Ct H a k) (as.drop i) (t::l)) : ∃ b,as[i]? = some b/\TokB Ca Ct H b t/\Paired (fun a k=>TokB Ca Ct H a k) (as.drop (i+1)) l:=by
 cases q:as.drop i with
 | nil=>rw [q] at h;cases h
 | cons b r =>
 rw [q] at h;cases h with
 | cons h1 h2 =>
 refine ⟨b,?_,h1,?_⟩
 ·rw [<- List.head?_drop,q]
  rfl
 rw [<- List.tail_drop,q];exact h2
theorem bl_ (T:TX w K mg J):FnOk P w K mg base CX0 1 J.f_k J.d_k ["self"] (bv_ J.C_e J.C_c J.C_f):=by
 refine T.F_k.ok sc_k fun _ _ _ _ H _ Q E hr h=>?_;obtain ⟨row,la,t,l,rfl,⟨dx,as,i,h1,h2,h3⟩,k⟩:=h;obtain ⟨b,hb,htk,_⟩:=h9_ h3;refine ⟨_,(ae_ (an_ (aY_ aN_ (ah_ (pv 0) rfl) (ah_ (pv 0) rfl) (fun _ _=>rfl)))),?_⟩;simp! [tSeq,tFld,h1];refine ⟨T.cl_f,T.n_be,_,rfl,T.cl_f,T.n_a9,_,rfl,_,rfl,_,_,rfl,SqL.of h2,_,bt_ (by rw [getElem?_map,hb];rfl),?_⟩;exact k b htk
def gv_ (Ca Ct Cr:Addr):Sp:=fun vs H Q _=>∃ (row la:Addr) (t:Vaunid.Token) (l:Toks),vs=[.ref row]/\bo_ Ca Ct Cr H row la (t::l)/\∀ b H',TokB Ca Ct H' b t->ai_ [row] H H'->bo_ Ca Ct Cr H' row la l->Q (.ref b) H'
theorem fX_ (T:TX w K mg J):FnOk P w K mg base CX0 2 J.f_l J.d_l ["self"] (gv_ J.C_e J.C_c J.C_f):=by
 refine T.F_l.ok sc_l fun _ _ _ _ H _ Q E hr h=>?_;obtain ⟨row,la,t,l,rfl,hrow,k⟩:=h;have hr0:=hrow;obtain ⟨dx,as,i,h1,h2,h3⟩:=hrow;obtain ⟨b,hb,htk,hrest⟩:=h9_ h3;refine ⟨_,(ab_ (aA_ 1 sc_l.nd (bk_ (pv 0) T.cl_f T.m_k (bl_ T) hr.m T.b_k .nil aq_))
  (ab_ (eJ_ (pv 0) ak_ kG_)
  (ae_ (an_ (pv 1))))),?_⟩
 simp! [tSeq,dG_,bv_,fM_,rAdd,h1];refine ⟨rfl,la,t,l,hr0,fun b' hb'=>⟨T.cl_f,T.n_a9,_,rfl,_,rfl,(by show 2<1000;decide),?_⟩⟩;have sx:ai_ [row] H (upd H row (.ins J.C_f dx (hq_ la ((i+1:Nat):Int)))):=ai_.upd (mem_singleton.mpr rfl);have nt : ∀ x∈[row],NT H x:=fun x hx=>by rw [mem_singleton.mp hx];exact hr0.nt
 have im:=Imm.of sx nt;have nla:la≠row:=be_ h2 h1 (by intro z;cases z);exact k b' _ (hb'.imm im) sx ⟨dx,as,i+1,ad_,by rw [am_ nla];exact h2,Paired.mapP hrest fun a k z=>z.imm im⟩
def cD_ (Ca Ct Cr C:Addr):Sp:=fun vs H Q E=>∃ (row la:Addr) (t:Vaunid.Token) (l:Toks) (x:List Nat),vs=[.ref row,.str (S x)]/\bo_ Ca Ct Cr H row la (t::l) /\
 if kindOf t.tok=x then (∀ b H',TokB Ca Ct H' b t->ai_ [row] H H'->bo_ Ca Ct Cr H' row la l->Q (.ref b) H') else ExF C E H 6 (t.start:Int)
theorem cs_ (T:TX w K mg J):FnOk P w K mg base (CX1 P w) 3 J.f_p J.d_p ["self","kind"] (cD_ J.C_e J.C_c J.C_f J.C_d):=by
 refine T.F_p.okX sc_p fun _ _ _ _ H _ Q E hr h=>?_;obtain ⟨row,la,t,l,x,rfl,hrow,k⟩:=h;have hr0:=hrow;obtain ⟨dx,as,i,h1,h2,h3⟩:=hrow;refine ⟨_,(ab_ (aJ_ (al_ iT_ (ah_ (bk_ (pv 0) T.cl_f T.m_k (bl_ T) hr.m T.b_k .nil aq_) rfl) (pv 1) (aw_ _)) (ae_ (bJ_ T.X_d (ok_d T) hr.m rfl T.G_d T.b_n bp_ rfl (aa_ ak_ (aa_ (ah_ (bk_ (pv 0) T.cl_f T.m_k (bl_ T) hr.m T.b_k .nil aq_) rfl) ac_)))) ar_)
  (ae_ (an_ (bk_ (pv 0) T.cl_f T.m_l (fX_ T) hr.m T.b_l .nil aq_)))),?_⟩
 simp! [tSeq,dG_,bv_,gv_,cT_,tFld,h1];refine ⟨rfl,la,t,l,hr0,fun b ⟨dt,ct,e1,_⟩=>?_⟩;refine ⟨J.C_c,dt,_,e1,T.cl_c,T.n_az,_,rfl,rfl,?_⟩;by_cases hk:kindOf t.tok=x
 ·rw [if_pos hk] at k
  rw [if_neg (by rw [hk];simp)];exact ⟨rfl,la,t,l,hr0,k⟩
 rw [if_neg hk] at k;rw [if_pos (by simp only [V.str.injEq,ce_];simp [hk])];refine ⟨rfl,la,t,l,hr0,fun b2 ⟨dt2,ct2,e2,_⟩=>⟨J.C_c,dt2,_,e2,T.cl_c,T.n_aD,_,rfl,by decide,?_⟩⟩;exact bx_ k
theorem i2_ {k:Vaunid.Tok} (g:aV_ k):(∃ w,k = .word w/\kindOf k=Vaunid.txt "name"/\Vaunid.leafOf k=some (.name w))\/(∃ v d,k = .num v d/\(kindOf k=Vaunid.txt "number"\/kindOf k=Vaunid.txt "digit")/\Vaunid.leafOf k=some (.num v)) \/
  (¬ kindOf k=Vaunid.txt "name"/\¬ kindOf k=Vaunid.txt "number"/\¬ kindOf k=Vaunid.txt "digit"/\((kindOf k∈[Vaunid.txt "true",Vaunid.txt "false",Vaunid.txt "nil"]/\∃ x,Vaunid.leafOf k=some x/\Vaunid.txt (bK_ x)=kindOf k/\ba_ x=[])\/(¬ kindOf k∈[Vaunid.txt "true",Vaunid.txt "false",Vaunid.txt "nil"]/\Vaunid.leafOf k=none))):=by
 cases k with
 | word w =>
  by_cases h:isTaken w=true
  ·have e:kindOf (.word w)=w:=by simp only [kindOf];rw [if_pos h]
   rw [e];refine .inr (.inr ⟨fun z=>?_,fun z=>?_,fun z=>?_,?_⟩)
   ·rw [z] at h;exact absurd h (by left)
   ·rw [z] at h;exact absurd h (by left)
   ·rw [z] at h;exact absurd h (by left)
   by_cases h1:w=Vaunid.txt "true"
   ·refine .inl ⟨by rw [h1];simp,.truth true,?_,h1.symm,rfl⟩
    simp only [Vaunid.leafOf];rw [if_pos h1]
   by_cases h2:w=Vaunid.txt "false"
   ·refine .inl ⟨by rw [h2];simp,.truth false,?_,h2.symm,rfl⟩
    simp only [Vaunid.leafOf];rw [if_neg h1,if_pos h2]
   by_cases h3:w=Vaunid.txt "nil"
   ·refine .inl ⟨by rw [h3];simp,.nil,?_,h3.symm,rfl⟩
    simp only [Vaunid.leafOf];rw [if_neg h1,if_neg h2,if_pos h3]
   refine .inr ⟨by simp [h1,h2,h3],?_⟩;simp only [Vaunid.leafOf];rw [if_neg h1,if_neg h2,if_neg h3,if_neg];unfold isName;rw [h];simp
  have e:kindOf (.word w)=Vaunid.txt "name":=by simp only [kindOf];rw [if_neg h]
  refine .inl ⟨w,rfl,e,?_⟩;obtain ⟨w',q,hn⟩:=(eT_ g).mp e;cases q;simp only [Vaunid.leafOf];rw [if_neg (fun z=>by rw [z] at h;exact h (by left)),if_neg (fun z=>by rw [z] at h;exact h (by left)),if_neg (fun z=>by rw [z] at h;exact h (by left)),if_pos hn]
 | num v d =>
  refine .inr (.inl ⟨v,d,rfl,?_,rfl⟩);cases d with
  | none=>exact .inl rfl
  | some n=>exact .inr rfl
 | sign s =>
 have q : ∀ x∈coreSigns++[Vaunid.txt "end"],¬ x=Vaunid.txt "name"/\¬ x=Vaunid.txt "number"/\¬ x=Vaunid.txt "digit"/\¬ x∈[Vaunid.txt "true",Vaunid.txt "false",Vaunid.txt "nil"]:=by left
 have hs:s∈coreSigns++[Vaunid.txt "end"]:=by
  rcases g with g | g
  ·exact mem_append_left _ g
  rw [g];exact mem_append_right _ (mem_singleton.mpr rfl)
 obtain ⟨q1,q2,q3,q4⟩:=q s hs;exact .inr (.inr ⟨q1,q2,q3,.inr ⟨q4,rfl⟩⟩)
theorem dJ_:[V.str "true",V.str "false",V.str "nil"]=(([Vaunid.txt "true",Vaunid.txt "false",Vaunid.txt "nil"]).map S).map V.str:=by left
theorem iq_ {Cn:Addr}{H H1 H2 H3:Hp}{n dx wl pl:Addr}{f:List Nat}{ws:List (List Nat)}{b e:Nat} (h1:H wl=none) (s1:Same H H1) (e1:H1 wl=some (.lst ((ws.map S).map V.str))) (h2:H1 pl=none) (s2:Same H1 H2) (e2:H2 pl=some (.lst [])) (h3:H2 n=none) (s3:Same H2 H3) (e3:H3 n=some (.ins Cn dx (a9_ (S f) wl pl (b:Int) (e:Int)))) :
  TreeAt Cn H3 n (.mk f ws b e []) [n,wl,pl]/\[n,wl,pl].Nodup/\∀ a∈[n,wl,pl],H a=none:=by
 refine ⟨.mk (as:=[]) e3 (s3 _ _ (s2 _ _ e1)) (s3 _ _ e2) .nil,?_,?_⟩
 ·have q1:wl≠pl:=af_ e1 h2
  have q2:wl≠n:=af_ (s2 _ _ e1) h3;have q3:pl≠n:=af_ e2 h3;simp [q1,q2.symm,q3.symm]
 intro a ha;have:=none_of (s1.trans s2) h3;have:=none_of s1 h2;simp at ha;rcases ha with rfl | rfl | rfl <;> assumption
def oz_ (Ca Ct Cn C:Addr):Sp:=fun vs H Q E=>∃ (b:Addr) (t:Vaunid.Token),vs=[.ref b]/\TokB Ca Ct H b t/\aV_ t.tok/\(match Vaunid.leafOf t.tok with
 | none=>ExF C E H 6 (t.start:Int)
 | some x=>∀ (n:Addr) (F:List Addr) (H':Hp),Same H H'->TreeAt Cn H' n (gU_ t x) F->F.Nodup->(∀ a∈F,H a=none)->Q (.ref n) H')
theorem cp_ {t u:TS}{D:Ends}{σ:L2.St}{H:Hp} (h:t { D with nx:=u D } σ H):tSeq t u D σ H:=h
theorem ok_aq (T:TX w K mg J):FnOk P w K mg base (CX1 P w) 3 J.f_aq J.d_aq ["token"] (oz_ J.C_e J.C_c J.C_b J.C_d):=by
 refine T.F_aq.fn.okX sc_aq fun _ _ _ _ H _ Q E hr h=>?_;obtain ⟨b,t,rfl,⟨dt,ct,hb,hc⟩,g,k⟩:=h;refine ⟨_,(ab_ (aJ_ (al_ bB_ (ah_ (pv 0) rfl) as_ (aw_ _)) (ae_ (an_ (aU_ T.M_b (ok_b T) hr.m rfl T.G_b T.b_r .nil aq_ (aa_ as_ (aa_ (aK_ (aa_ (ah_ (pv 0) rfl) ac_)) (aa_ (aK_ ac_) (aa_ (ah_ (pv 0) rfl) (aa_ (ah_ (pv 0) rfl) ac_)))))))) ar_)
  (ab_ (aJ_ (PW.pt (pw_or (al_ bB_ (ah_ (pv 0) rfl) as_ (aw_ _)) (pw_or1 (al_ bB_ (ah_ (pv 0) rfl) as_ (aw_ _))))) (ae_ (an_ (aU_ T.M_b (ok_b T) hr.m rfl T.G_b T.b_r .nil aq_ (aa_ as_ (aa_ (aK_ (aa_ (aF_ T.F_E (ok_E T) hr.m aq_ (aa_ (ah_ (pv 0) rfl) ac_)) ac_)) (aa_ (aK_ ac_) (aa_ (ah_ (pv 0) rfl) (aa_ (ah_ (pv 0) rfl) ac_)))))))) ar_)
  (ab_ (aJ_ (al_ bq_ (ah_ (pv 0) rfl) (pe_r T.g_as) rfl) (ae_ (an_ (aU_ T.M_b (ok_b T) hr.m rfl T.G_b T.b_r .nil aq_ (aa_ (ah_ (pv 0) rfl) (aa_ (aK_ ac_) (aa_ (aK_ ac_) (aa_ (ah_ (pv 0) rfl) (aa_ (ah_ (pv 0) rfl) ac_)))))))) ar_)
  (ae_ (bJ_ T.X_d (ok_d T) hr.m rfl T.G_d T.b_n bp_ rfl (aa_ ak_ (aa_ (ah_ (pv 0) rfl) ac_))))))),?_⟩
 refine cp_ ?_;simp! [tFld,hb,bE_];refine ⟨T.cl_c,T.n_az,_,rfl,rfl,?_⟩;have l1:(1:Nat)<=sizeLine:=by decide
 have l0:(0:Nat)<=sizeLine:=zero_le _;have tail : ∀ (f:List Nat) (fs:Str) (ws:List (List Nat)) (xs:List V),fs=S f->xs=(ws.map S).map V.str->(∀ (n:Addr) (F:List Addr) (H':Hp),Same H H'->TreeAt J.C_b H' n (.mk f ws t.start t.halt_ []) F->F.Nodup->(∀ a∈F,H a=none)->Q (.ref n) H') ->
   ∀ p,H p=none->0<=sizeLine/\∀ p1,upd H p (.lst xs) p1=none->∃ x1 x2 x3,upd (upd H p (.lst xs)) p1 (.lst []) b=some (.ins x1 x2 x3)/\Cls K x1/\aC_ K x1 (ofString "begin")/\∃ x4,List.lookup (ofString "begin") x3=some x4 /\
    ∃ x5 x6 x7,upd (upd H p (.lst xs)) p1 (.lst []) b=some (.ins x5 x6 x7)/\Cls K x5/\aC_ K x5 (ofString "end")/\∃ x8,List.lookup (ofString "end") x7=some x8 /\
     ∀ x9 dx,upd (upd H p (.lst xs)) p1 (.lst []) x9=none->upd (upd H p (.lst xs)) p1 (.lst []) dx=none->dx≠x9->bA_ J.C_b [ofString "form",ofString "words",ofString "parts",ofString "begin",ofString "end"] [V.ref x9,V.str fs,V.ref p,V.ref p1,x4,x8]
      (upd (upd (upd (upd H p (.lst xs)) p1 (.lst [])) dx (HO.own x9)) x9 (HO.ins J.C_b dx [])) (fun v H2=>v=V.non/\Q (V.ref x9) H2) (fun _ _ _=>False):=fun f fs ws xs ef ex kk p hp=>⟨l0,fun p1 hp1=>by
  subst ef ex;have s1:Same H (upd H p (.lst ((ws.map S).map V.str))):=Same.upd hp;have e1:upd H p (.lst ((ws.map S).map V.str)) p=some (.lst ((ws.map S).map V.str)):=ad_;generalize upd H p (.lst ((ws.map S).map V.str))=H1 at s1 e1 hp1 ⊢;have s2:Same H1 (upd H1 p1 (.lst [])):=Same.upd hp1;have e2:upd H1 p1 (.lst []) p1=some (.lst []):=ad_;generalize upd H1 p1 (.lst [])=H2 at s2 e2 ⊢;have hb2:=(s1.trans s2) _ _ hb;refine ⟨_,_,_,hb2,T.cl_c,T.n_aD,_,rfl,_,_,_,hb2,T.cl_c,T.n_aU,_,rfl,?_⟩;refine bw_ rfl fun n dx H3 hn s3 e3=>?_;obtain ⟨t1,t2,t3⟩:=iq_ (f:=f) (ws:=ws) (b:=t.start) (e:=t.halt_) hp s1 e1 hp1 s2 e2 hn s3 e3;exact kk n _ H3 (s1.trans (s2.trans s3)) t1 t2 t3⟩
 rcases i2_ g with ⟨w,e1,e2,e3⟩ | ⟨v,d,e1,e2,e3⟩ | ⟨n1,n2,n3,hp⟩
 ·rw [e3] at k
  rw [e2,if_pos (by rw [aI_])];rw [e1] at hc;refine ⟨T.cl_c,T.n_aE,_,rfl,l1,?_⟩;exact tail (Vaunid.txt "name") _ [w] _ (aI_ _) (by rw [show ct=V.str (S w) from hc];rfl) k
 ·rw [e3] at k
  rw [e1] at hc g;obtain ⟨a,ec,ha⟩:=hc;have gl:gd_ v:=⟨g.1,g.2.1,g.2.2.1⟩;have amt:=tail (Vaunid.txt "number") _ [shownLit v] _ (aI_ _) rfl k;rw [if_neg (by rw [aI_];simp only [V.str.injEq,ce_];rcases e2 with q | q <;> (rw [q];left))]
  refine cp_ ?_;simp! [tFld,hb,bE_];refine ⟨T.cl_c,T.n_az,_,rfl,rfl,?_⟩;rcases e2 with q | q
  ·rw [q,if_pos (by rw [aI_])]
   exact ⟨T.cl_c,T.n_aE,_,rfl,a,v,by rw [ec],ha,gl,l1,amt⟩
  rw [q,if_neg (by rw [aI_];simp only [V.str.injEq,ce_];left)];refine ⟨T.cl_c,T.n_az,_,rfl,rfl,?_⟩;rw [if_pos (by rw [aI_])];exact ⟨T.cl_c,T.n_aE,_,rfl,a,v,by rw [ec],ha,gl,l1,amt⟩
 rw [if_neg (by rw [aI_];simp only [V.str.injEq,ce_];exact n1)];refine cp_ ?_;simp! [tFld,hb,bE_];refine ⟨T.cl_c,T.n_az,_,rfl,rfl,?_⟩;rw [if_neg (by rw [aI_];simp only [V.str.injEq,ce_];exact n2)];refine ⟨T.cl_c,T.n_az,_,rfl,rfl,?_⟩;rw [if_neg (by rw [aI_];simp only [V.str.injEq,ce_];exact n3)];refine cp_ ?_;simp! [tFld,hb,bE_,cT_];refine ⟨T.cl_c,T.n_az,_,rfl,_,.inr (T.t_as H),rfl,rfl,?_⟩;rw [dJ_,in_S];rcases hp with ⟨hm,x,e1,e2,e3⟩ | ⟨hm,e1⟩
 ·rw [e1] at k
  rw [decide_eq_true hm];refine ⟨T.cl_c,T.n_az,_,rfl,l0,?_⟩;refine tail (kindOf t.tok) _ [] _ rfl rfl ?_;rw [<- e2,<- e3];exact k
 rw [e1] at k;rw [decide_eq_false hm];exact ⟨T.cl_c,T.n_aD,_,rfl,by decide,bx_ k⟩
inductive IBracket (Ca Ct Cr Cn:Addr) (H:Hp) (Q:VK):List V->Prop
 | mk (row la:Addr) (t:Vaunid.Token) (l:Toks):bo_ Ca Ct Cr H row la (t::l)->bn_ l->l≠[]->(∀ (n dx wl pl:Addr) (H':Hp),ai_ [row] H H'->bo_ Ca Ct Cr H' row la (ap_ l).2->H' n=some (.ins Cn dx (a9_ (S (Vaunid.txt (ap_ l).1.word)) wl pl (t.start:Int) (t.start:Int)))->H' wl=some (.lst [])->H' pl=some (.lst [])->[n,wl,pl].Nodup->(∀ a∈[n,wl,pl],H a=none)->Q (.ref n) H')->IBracket Ca Ct Cr Cn H Q [.ref row]
def jT_ (Ca Ct Cr Cn:Addr):Sp:=fun vs H Q _=>IBracket Ca Ct Cr Cn H Q vs
theorem ok_Z (T:TX w K mg J):FnOk P w K mg base CX0 3 J.f_Z J.d_Z ["row"] (jT_ J.C_e J.C_c J.C_f J.C_b):=by
 refine T.F_Z.fn.ok sc_Z fun _ _ _ _ H _ Q E hr h=>?_;obtain ⟨row,la,t,l,hrow,hg,hne,k⟩:=h;obtain ⟨ad,md,sq,_⟩:=T.t_a;refine ⟨_,(ab_ (aA_ 1 sc_Z.nd (ah_ (bk_ (pv 0) T.cl_f T.m_l (fX_ T) hr.m T.b_l .nil aq_) rfl))
  (ab_ (aA_ 2 sc_Z.nd as_)
  (ab_ (aJ_ (nv_ (ah_ (bk_ (pv 0) T.cl_f T.m_k (bl_ T) hr.m T.b_k .nil aq_) rfl) (pe_r T.g_a)) (ae_ (aA_ 2 sc_Z.nd (ah_ (bk_ (pv 0) T.cl_f T.m_l (fX_ T) hr.m T.b_l .nil aq_) rfl))) ar_)
  (ae_ (an_ (aU_ T.M_b (ok_b T) hr.m rfl T.G_b T.b_r .nil aq_ (aa_ (pv 2) (aa_ (aK_ ac_) (aa_ (aK_ ac_) (aa_ (pv 1) (aa_ (pv 1) ac_))))))))))),?_⟩
 have hr0:=hrow;obtain ⟨dx,as,i,h1,h2,h3⟩:=hrow;simp! [tSeq,dG_,gv_,bv_,tFld,nd_,bE_,h1];refine ⟨rfl,la,t,l,hr0,fun b H1 ⟨dt,ct,e1,_⟩ sx1 hr1=>?_⟩;refine ⟨J.C_c,dt,_,e1,T.cl_c,T.n_aD,_,rfl,?_⟩;have hr1':=hr1;obtain ⟨dx1,as1,i1,r1,r2,r3⟩:=hr1
 match l,hne,hg,k,hr1',r3 with
 | t2::l2,_,hg,k,hr1',r3 =>
  have gt:=hg t2 (mem_cons_self ..);simp! [tSeq,r1];refine ⟨rfl,la,t2,l2,hr1',fun b2 ⟨dt2,ct2,e2,_⟩=>?_⟩;refine ⟨J.C_c,dt2,_,e2,T.cl_c,T.n_az,_,rfl,_,_,rfl,md,?_⟩;have tail : ∀ (H2:Hp) (f:Fm) (r:Toks) (fs:Str),fs=S (Vaunid.txt f.word)->ai_ [row] H H2->bo_ J.C_e J.C_c J.C_f H2 row la r->ap_ (t2::l2)=(f,r)->0<=sizeLine/\∀ p,H2 p=none->0<=sizeLine/\∀ p1,upd H2 p (.lst []) p1=none ->
    ∀ x dx,upd (upd H2 p (.lst [])) p1 (.lst []) x=none->upd (upd H2 p (.lst [])) p1 (.lst []) dx=none->dx≠x->bA_ J.C_b [ofString "form",ofString "words",ofString "parts",ofString "begin",ofString "end"] [V.ref x,V.str fs,V.ref p,V.ref p1,V.int ↑t.start,V.int ↑t.start]
     (upd (upd (upd (upd H2 p (.lst [])) p1 (.lst [])) dx (.own x)) x (.ins J.C_b dx [])) (fun v H2=>v=V.non/\Q (V.ref x) H2) (fun _ _ _=>False):=fun H2 f r fs ef sx hrw eb=>⟨zero_le _,fun p hp=>⟨zero_le _,fun p1 hp1=>by
   subst ef;have s1:Same H2 (upd H2 p (.lst [])):=Same.upd hp;have e1:upd H2 p (.lst []) p=some (.lst []):=ad_;generalize upd H2 p (.lst [])=H3 at s1 e1 hp1 ⊢;have s2:Same H3 (upd H3 p1 (.lst [])):=Same.upd hp1;have e2:upd H3 p1 (.lst []) p1=some (.lst []):=ad_;generalize upd H3 p1 (.lst [])=H4 at s2 e2 ⊢;refine bw_ rfl fun n dx H5 hn s3 e3=>?_;obtain ⟨t1,t2,t3⟩:=iq_ (f:=Vaunid.txt f.word) (ws:=[]) (b:=t.start) (e:=t.start) hp s1 e1 hp1 s2 e2 hn s3 e3;have sA:Same H2 H5:=s1.trans (s2.trans s3);rw [eb] at k;have nr : ∀ a,H2 a=none->a≠row:=fun a ha z=>by
    obtain ⟨_,_,_,q,_,_⟩:=hrw;rw [z,q] at ha;cases ha
   exact k n dx p p1 H5 (sx.trans (ai_.of sA)) (hrw.same sA) e3 (s3 _ _ (s2 _ _ e1)) (s3 _ _ e2) t2 fun a ha=>eh_ sx (nin (nr a (t3 a ha))) (t3 a ha)⟩⟩
  rw [fq_,kK_ gt];cases hf:fmOf t2.tok with
  | none =>
   have eb:ap_ (t2::l2)=(.app,t2::l2):=by unfold ap_;dsimp only;rw [hf]
   exact tail H1 .app (t2::l2) _ (aI_ _) sx1 hr1' eb
  | some f =>
  have eb:ap_ (t2::l2)=(f,l2):=by unfold ap_;dsimp only;rw [hf]
  refine ⟨rfl,la,t2,l2,hr1',fun b3 H2 ⟨dt3,ct3,e3,_⟩ sx2 hr2=>⟨J.C_c,dt3,_,e3,T.cl_c,T.n_az,_,rfl,?_⟩⟩;exact tail H2 f l2 _ (by rw [kQ_ hf]) (sx1.trans sx2) hr2 eb
def pq_ (Cs:Addr) (H:Hp) (s:Addr) (k:String) (o:Addr) (d:Nat):Prop:=∃ dx,H s=some (.ins Cs dx (e9_ (ofString k) o (d:Int)))
inductive IBegin (Ca Ct Cr Cn Cs C:Addr) (H:Hp) (Q:VK) (E:XK):List V->Prop
 | mk (row la todo s o dxo wl pl:Addr) (k:String) (d:Nat) (t:Vaunid.Token) (l:Toks) (xs ps:List V) (f:Str) (b e:Int):pq_ Cs H s k o d->bo_ Ca Ct Cr H row la (t::l)->bn_ (t::l)->H todo=some (.lst xs)->xs.length<=1000->H o=some (.ins Cn dxo (a9_ f wl pl b e))->H pl=some (.lst ps)->ps.length<=100->todo≠pl->la≠todo->la≠pl->((if d=40 then ExF C E H 8 (t.start:Int)
 else if kindOf t.tok=Vaunid.txt "(" then l≠[]/\∀ (n dx wl' pl':Addr) (ss:List Addr) (H':Hp),ai_ [row,todo,pl] H H'->bo_ Ca Ct Cr H' row la (ap_ l).2->H' todo=some (.lst (xs++ss.reverse.map V.ref))->de_ Cs H' ss ((ap_ l).1.sk.map SK.w++[")"]) n (d+1)->H' pl=some (.lst (ps++[.ref n])) ->
   H' n=some (.ins Cn dx (a9_ (S (Vaunid.txt (ap_ l).1.word)) wl' pl' (t.start:Int) (t.start:Int)))->H' wl'=some (.lst [])->H' pl'=some (.lst [])->((n::wl'::pl'::ss):List Addr).Nodup->(∀ a∈n::wl'::pl'::ss,H a=none)->Q .non H'
 else match Vaunid.leafOf t.tok with
  | none=>ExF C E H 6 (t.start:Int)
  | some x=>∀ (n:Addr) (F:List Addr) (H':Hp),ai_ [row,pl] H H'->bo_ Ca Ct Cr H' row la l->H' pl=some (.lst (ps++[.ref n]))->TreeAt Cn H' n (gU_ t x) F->F.Nodup->(∀ a∈F,H a=none)->Q .non H'))->IBegin Ca Ct Cr Cn Cs C H Q E [.ref row,.ref todo,.ref s]
def nj_ (Ca Ct Cr Cn Cs C:Addr):Sp:=fun vs H Q E=>IBegin Ca Ct Cr Cn Cs C H Q E vs
theorem ok_Y (T:TX w K mg J):FnOk P w K mg base (CX1 P w) 5 J.f_Y J.d_Y ["row","todo","step"] (nj_ J.C_e J.C_c J.C_f J.C_b J.C_g J.C_d):=by
 refine T.F_Y.fn.okX sc_Y fun _ _ _ _ H _ Q E hr h=>?_;obtain ⟨row,la,todo,s,o,dxo,wl,pl,k,d,t,l,xs,ps,f,b,e,⟨dxs,hs⟩,hrow,hg,hto,hxs,ho,hpl,hps,n1,n2,n3,kk⟩:=h;obtain ⟨ad,md,sq,_⟩:=T.t_a;refine ⟨_,(ab_ (aJ_ (al_ bB_ (ah_ (pv 2) rfl) (pe_g T.g_aJ) (aw_ _)) (ae_ (bJ_ T.X_d (ok_d T) hr.m rfl T.G_d T.b_n bp_ rfl (aa_ ak_ (aa_ (ah_ (bk_ (pv 0) T.cl_f T.m_k (bl_ T) hr.m T.b_k .nil aq_) rfl) ac_)))) ar_)
  (ab_ (aJ_ (al_ bB_ (ah_ (bk_ (pv 0) T.cl_f T.m_k (bl_ T) hr.m T.b_k .nil aq_) rfl) as_ (aw_ _)) (ab_ (aA_ 3 sc_Y.nd (aF_ T.F_Z (ok_Z T) hr.m aq_ (aa_ (pv 0) ac_)))
  (ab_ (aE_ (bP_ pla sla tla aB_ (pv 1) (aa_ (aU_ T.M_g (ok_g T) hr.m rfl T.G_g T.b_x .nil aq_ (aa_ as_ (aa_ (pv 3) (aa_ (bf_ ch_ (ah_ (pv 2) rfl) ak_) ac_)))) ac_)))
  (ae_ (dV_ im_ rfl (gJ_ rfl T.b_reversed (aa_ (lO_ (pe_r T.g_a) (ah_ (pv 3) rfl)) ac_)) (pg_q 4 sc_Y.nd) (ae_ (aE_ (bP_ pla sla tla aB_ (pv 1) (aa_ (aU_ T.M_g (ok_g T) hr.m rfl T.G_g T.b_x .nil aq_ (aa_ (pv 4) (aa_ (pv 3) (aa_ (bf_ ch_ (ah_ (pv 2) rfl) ak_) ac_)))) ac_)))))))) (ab_ (aA_ 3 sc_Y.nd (aF_ T.F_aq (ok_aq T) hr.m aL_ (aa_ (bk_ (pv 0) T.cl_f T.m_k (bl_ T) hr.m T.b_k .nil aq_) ac_)))
  (ae_ (aE_ (bk_ (pv 0) T.cl_f T.m_l (fX_ T) hr.m T.b_l .nil aq_)))))
  (ae_ (aE_ (bP_ pla sla tla aB_ (ah_ (ah_ (pv 2) rfl) rfl) (aa_ (pv 3) ac_)))))),?_⟩
 have hr0:=hrow;obtain ⟨dx,as,i,h1,h2,h3⟩:=hrow;refine cp_ ?_;simp! [dG_,bv_,tFld,cT_,hs,h1];refine ⟨T.cl_g,T.n_aV,_,rfl,rfl,?_⟩;by_cases hd:d=40
 ·subst hd
  rw [if_pos rfl] at kk;rw [if_pos (show V.int ((40:Nat):Int)=V.int 40 from rfl)];exact ⟨rfl,la,t,l,hr0,fun b ⟨dt,ct,e1,_⟩=>⟨J.C_c,dt,_,e1,T.cl_c,T.n_aD,_,rfl,by decide,bx_ kk⟩⟩
 rw [if_neg hd] at kk;rw [if_neg (by simp only [V.int.injEq];omega)];refine bM_ (fun σ' H'=>∃ n z,σ'=[some (.ref row),some (.ref todo),some (.ref s),some (.ref n),z]/\H' s=some (.ins J.C_g dxs (e9_ (ofString k) o (d:Int)))/\H' o=some (.ins J.C_b dxo (a9_ f wl pl b e))/\H' pl=some (.lst ps)/\Q .non (upd H' pl (.lst (ps++[.ref n])))) (fun X hX=>?_) (fun σ' H' hh=>?_)
 case' refine_2 =>
  obtain ⟨n,z,rfl,hs2,ho2,hpl2,kq⟩:=hh;simp! [tBM,a4_,tFld,hs2];exact ⟨T.cl_g,T.n_ba,_,rfl,_,rfl,_,_,_,ho2,T.cl_b,T.n_aB,_,rfl,(show tyV K "list" (.ref pl) _ from .inl ⟨rfl,_,SqL.of hpl2⟩),_,rfl,_,hpl2,Nat.lt_of_le_of_lt hps (by decide),kq⟩
 simp! [dG_,gv_,bv_,tFld,h1];refine ⟨rfl,la,t,l,hr0,fun b ⟨dt,ct,e1,_⟩=>⟨J.C_c,dt,_,e1,T.cl_c,T.n_az,_,rfl,rfl,?_⟩⟩;by_cases hk:kindOf t.tok=Vaunid.txt "("
 ·rw [if_pos hk] at kk
  rw [if_pos (by rw [hk,aI_])];obtain ⟨hl,kk⟩:=kk;refine cp_ ?_;simp! [tRet];refine ⟨row,la,t,l,hr0,fun k hk=>hg k (mem_cons_of_mem _ hk),hl,fun n dx wl' pl' H1 sx1 hr1 e1 e2 e3 nd fr=>?_⟩;generalize hff:(ap_ l).1=ff at kk e1;generalize (ap_ l).2=rr at kk hr1;have nrow:row≠todo:=be_ h1 hto (by intro z;cases z);have hto1:H1 todo=some (.lst xs):=sx1 _ _ (nin nrow.symm) hto;have hs1:H1 s=some (.ins J.C_g dxs (e9_ (ofString k) o (d:Int))):=sx1 _ _ (nin (be_ hs h1 (by intro z;injection z with _ _ z;cases z))) hs;have b0:BI J.C_e J.C_c J.C_f J.C_b J.C_g H row la todo xs rr n dx wl' pl' (S (Vaunid.txt ff.word)) (t.start:Int) (d+1) H1 [] []:=⟨sx1.more (by simp),hr1,by rw [hto1];simp,.nil,e1,e2,e3,nd,fr⟩;refine cp_ ?_;simp! [tBM,a4_,bE_,tFld,hs1,hto1];refine ⟨.inl ⟨rfl,_,SqL.of hto1⟩,T.cl_g,T.n_aV,_,rfl,_,rfl,?_⟩;refine bw_ rfl fun s1 dx1 H2 hx1 sm1 es1=>⟨_,sm1 _ _ hto1,Nat.lt_of_le_of_lt hxs (by decide),?_⟩;have b1:=b0.add hto n2 (k:=")") hx1 sm1 es1;rw [List.reverse_nil,map_nil,append_nil] at b1;generalize upd H2 todo (.lst (xs++[.ref s1]))=H3 at b1 ⊢;refine bc_ ?_;simp! [mx_,o6_,tFld];have wd:=g4_ ad ff;rw [aI_] at wd;refine ⟨_,_,_,b1.node,T.cl_b,T.n_ay,_,rfl,_,_,rfl,md,_,wd,_,rfl,_,sq ff H3,?_⟩;refine jd_ (((ff.kt.map fun s=>ofString s)).map V.str) (fun i σ H'=>(∃ z,σ=[some (.ref row),some (.ref todo),some (.ref s),some (.ref n),z])/\∃ ss,BI J.C_e J.C_c J.C_f J.C_b J.C_g H row la todo xs rr n dx wl' pl' (S (Vaunid.txt ff.word)) (t.start:Int) (d+1) H' ss (ff.kt.drop (ff.kt.length - i)++[")"]))
   ⟨⟨_,rfl⟩,[s1],by rw [sub_zero,drop_length];exact b1⟩ (fun i σ H' _ _=>sq ff H') (fun i x σ H' hx q=>?_) fun σ H' q=>?_
  ·obtain ⟨⟨z,rfl⟩,ss,b2⟩:=q
   have hkl:ss.length=i+1/\ff.kt.length<=5/\i<ff.kt.length:=by
    have h1:=b2.steps.length;rw [length_append,length_drop,length_singleton] at h1;have h2:i<((((ff.kt.map fun s=>ofString s)).map V.str).reverse).length:=(List.getElem?_eq_some_iff.mp hx).1;rw [length_reverse,length_map,length_map] at h2;have h3:=mF_ ff;have h4:ff.kt.length=ff.sk.length:=by rw [<- nk_,length_map]
    omega
   obtain ⟨hl1,hl2,hl3⟩:=hkl;have hkx : ∃ kx,ff.kt.drop (ff.kt.length - (i+1))=kx::ff.kt.drop (ff.kt.length - i)/\x=V.str (ofString kx):=by
    have e1:ff.kt.length - i=ff.kt.length - (i+1)+1:=by omega
    have hlt:ff.kt.length - (i+1)<ff.kt.length:=by omega
    refine ⟨ff.kt[ff.kt.length - (i+1)],by rw [e1];exact drop_eq_getElem_cons hlt,?_⟩;rw [getElem?_reverse (by rw [length_map,length_map];exact hl3),length_map,length_map,getElem?_map,getElem?_map,show ff.kt.length - 1 - i=ff.kt.length - (i+1) by omega,getElem?_eq_getElem hlt] at hx;exact (Option.some.inj hx).symm
   obtain ⟨kx,ek,rfl⟩:=hkx;have hs2:H' s=some (.ins J.C_g dxs (e9_ (ofString k) o (d:Int))):=b2.sx _ _ (by
    have q1:s≠row:=be_ hs h1 (by intro z;injection z with _ _ z;cases z);have q2:s≠todo:=be_ hs hto (by intro z;cases z);simp [q1,q2]) hs
   have hto2:=b2.todo;simp! [tBM,a4_,bE_,tFld,hs2];refine ⟨.inl ⟨rfl,_,SqL.of hto2⟩,T.cl_g,T.n_aV,_,rfl,_,rfl,?_⟩;refine bw_ rfl fun s2 dx2 H4 hx2 sm2 es2=>⟨_,sm2 _ _ hto2,?_,?_⟩
   ·rw [length_append,length_map,length_reverse]
    exact Nat.lt_of_le_of_lt (show _<=2000 by omega) (by decide)
   refine ⟨s2::ss,?_⟩;rw [ek];exact b2.add hto n2 hx2 sm2 es2
  obtain ⟨⟨z,rfl⟩,ss,b2⟩:=q;rw [length_map,length_map,Nat.sub_self,drop_zero,<- nk_] at b2;have keep : ∀ a u,H a=some u->a≠row->a≠todo->H' a=some u:=fun a u e q1 q2=>b2.sx _ _ (by simp [q1,q2]) e;have hs2:=keep _ _ hs (be_ hs h1 (by intro z;injection z with _ _ z;cases z)) (be_ hs hto (by intro z;cases z));have ho2:=keep _ _ ho (be_ ho h1 (by intro z;injection z with _ _ z;cases z)) (be_ ho hto (by intro z;cases z));have hpl2:=keep _ _ hpl (be_ hpl h1 (by intro z;cases z)) n1.symm;refine hX _ _ ⟨n,_,rfl,hs2,ho2,hpl2,?_⟩;have nn : ∀ a,H a=none->a≠pl:=fun a ha z=>by rw [z,hpl] at ha;cases ha
  have su:ai_ [pl] H' (upd H' pl (.lst (ps++[.ref n]))):=ai_.upd (mem_singleton.mpr rfl);have nt : ∀ x∈[pl],NT H' x:=fun x hx=>by rw [mem_singleton.mp hx];exact .lst hpl2
  have nrp:row≠pl:=be_ h1 hpl (by intro z;cases z);have fr2 : ∀ a∈n::wl'::pl'::ss,a∉[pl]:=fun a ha=>nin (nn a (b2.fr a ha));exact kk n dx wl' pl' ss _ ((b2.sx.more (by simp)).trans (su.more (by simp))) (b2.row.keep su nt (nin nrp) (nin n3)) (su _ _ (nin n1) b2.todo) (b2.steps.keep (Kp.of su fun a ha=>fr2 a (by simp [ha]))) ad_
   (su _ _ (fr2 n (by simp)) b2.node) (su _ _ (fr2 wl' (by simp)) b2.words) (su _ _ (fr2 pl' (by simp)) b2.parts) b2.nd b2.fr
 rw [if_neg hk] at kk;rw [if_neg (by rw [aI_];simp only [V.str.injEq,ce_];exact hk)];have gt:=hg t (mem_cons_self ..);refine cp_ ?_;simp! [dG_,bv_,gv_,h1];refine ⟨rfl,la,t,l,hr0,fun b htk=>⟨b,t,rfl,htk,gt,?_⟩⟩;cases hx:Vaunid.leafOf t.tok with
 | none=>rw [hx] at kk;exact kk
 | some x =>
 rw [hx] at kk;intro n F H1 sm tr nd fr;have hr1:=hr0.same sm;have hr1':=hr1;obtain ⟨dx1,as1,i1,q1,q2,q3⟩:=hr1';refine ⟨_,_,q1,rfl,la,t,l,hr1,fun b2 H2 _ sx2 hr2=>?_⟩;have keep : ∀ a u,H a=some u->a≠row->H2 a=some u:=fun a u e q1=>sx2 _ _ (by simp [q1]) (sm _ _ e);have hs2:=keep _ _ hs (be_ hs h1 (by intro z;injection z with _ _ z;cases z));have ho2:=keep _ _ ho (be_ ho h1 (by intro z;injection z with _ _ z;cases z));have hpl2:=keep _ _ hpl (be_ hpl h1 (by intro z;cases z));refine hX _ _ ⟨n,_,rfl,hs2,ho2,hpl2,?_⟩;have su:ai_ [pl] H2 (upd H2 pl (.lst (ps++[.ref n]))):=ai_.upd (mem_singleton.mpr rfl);have nt : ∀ x∈[pl],NT H2 x:=fun x hx=>by rw [mem_singleton.mp hx];exact .lst hpl2
 have nrp:row≠pl:=be_ h1 hpl (by intro z;cases z);have nn : ∀ a,H a=none->a≠pl/\a≠row:=fun a ha=>⟨fun z=>(by rw [z,hpl] at ha;cases ha),fun z=>(by rw [z,h1] at ha;cases ha)⟩;exact kk n F _ (((ai_.of sm).trans (sx2.more (by simp))).trans (su.more (by simp))) (hr2.keep su nt (nin nrp) (nin n3)) ad_ (tr.keep fun a ha u e=>su _ _ (nin (nn a (fr a ha)).1) (sx2 _ _ (nin (nn a (fr a ha)).2) e)) nd fr
inductive IGoOn (Ca Ct Cr Cn Cs C:Addr) (H:Hp) (Q:VK) (E:XK):List V->Prop
 | mk (row la todo wh st:Addr) (H0:Hp) (s:MS) (ss own:List Addr) (r:Res MS):Same H0 H->bo_ Ca Ct Cr H row la s.l->bn_ s.l->Lv s.fs->Stk Cn Cs H wh s.fs [] (st::ss) own->H todo=some (.lst (ss.reverse.map V.ref))->(row::todo::la::(own++(st::ss))).Nodup->(∀ a∈row::todo::own,H0 a=none)->b8_ s=some r->((match r with
  | .error e=>ExF C E H (e.kind:Int) (e.place:Int)
  | .ok s'=>∀ H',AtM Ca Ct Cr Cn Cs H0 H' row la todo wh s'->Q .non H'))->IGoOn Ca Ct Cr Cn Cs C H Q E [.ref row,.ref todo,.ref st]
def oA_ (Ca Ct Cr Cn Cs C:Addr):Sp:=fun vs H Q E=>IGoOn Ca Ct Cr Cn Cs C H Q E vs
theorem bg_:[V.str "part",V.str "body"]=(([Vaunid.txt "part",Vaunid.txt "body"]).map S).map V.str:=by left
theorem ok_ai (T:TX w K mg J):FnOk P w K mg base (CX1 P w) 6 J.f_ai J.d_ai ["row","todo","step"] (oA_ J.C_e J.C_c J.C_f J.C_b J.C_g J.C_d):=by
 refine T.F_ai.fn.okX sc_ai fun _ _ _ _ H _ Q E hr h=>?_;obtain ⟨row,la,todo,wh,st,H0,⟨fs,l,res⟩,ss,own,r,sm0,hrow,hg,hlv,hstk,hto,hnd,hfr,hst,k⟩:=h;refine ⟨_,(ab_ (aA_ 3 sc_ai.nd (ah_ (pv 2) rfl))
  (ae_ (aJ_ (al_ bq_ (ah_ (pv 2) rfl) (pe_r T.g_aa) rfl) (ae_ (aE_ (aF_ T.F_Y (ok_Y T) hr.m aL_ (aa_ (pv 0) (aa_ (pv 1) (aa_ (pv 2) ac_)))))) (ae_ (aJ_ (al_ bB_ (ah_ (pv 2) rfl) as_ (aw_ _)) (ae_ (aE_ (bP_ pla sla tla aB_ (ah_ (pv 3) rfl) (aa_ (ah_ (hv_ (pv 0) T.cl_f T.m_p (cs_ T) hr.m T.b_p .nil aL_ (aa_ as_ ac_)) rfl) ac_)))) (ae_ (aJ_ (al_ bB_ (ah_ (pv 2) rfl) as_ (aw_ _)) (ae_ (aE_ (bP_ pla sla tla aB_ (ah_ (pv 3) rfl) (aa_ (aF_ T.F_E (ok_E T) hr.m aq_ (aa_ (ah_ (hv_ (pv 0) T.cl_f T.m_p (cs_ T) hr.m T.b_p .nil aL_ (aa_ as_ ac_)) rfl) ac_)) ac_)))) (ae_ (a7_ (pv 3) (ah_ (hv_ (pv 0) T.cl_f T.m_p (cs_ T) hr.m T.b_p .nil aL_ (aa_ (ah_ (pv 2) rfl) ac_)) rfl) rfl))))))))),?_⟩
 have hr0:=hrow;obtain ⟨dx,as,i,h1,h2,h3⟩:=hrow;cases fs with
 | nil=>cases hst
 | cons pf fs =>
 cases l with
 | nil=>cases hst
 | cons t l =>
 obtain ⟨n,ss1,ss2,own2,dxn,wl,pl,as',F,e0,hf,hb,ess,rfl⟩:=hstk.top;have lvs : ∀ s',b8_ ⟨pf::fs,t::l,res⟩=some (.ok s')->Lv s'.fs:=fun s' e=>nP_ hlv e;obtain ⟨form,ws,b,ts,ks,c,d⟩:=pf;have gl:bn_ l:=fun k hk=>hg k (mem_cons_of_mem _ hk);have gt:aV_ t.tok:=hg t (mem_cons_self ..);have hn:=hf.node;have hw:=hf.words;have hp:=hf.parts;have hstp:=hf.steps;have hnd':=hnd;rw [ess] at hnd';have dj:=ml_ hnd';have ra:=dj.ra;have ta:=dj.ta;have laa:=dj.laa;simp at ra ta laa;obtain ⟨rn,rw',rp⟩:=ra;obtain ⟨tn,tw,tp⟩:=ta;obtain ⟨lan,law,lap⟩:=laa;have cnt5:=hlv.1;simp only [cnt] at cnt5;obtain ⟨kw,krest,ek⟩ : ∃ kw krest,ks.map SK.w++[c]=kw::krest:=by
  cases ks with
  | nil=>exact ⟨_,_,rfl⟩
  | cons a r=>exact ⟨_,_,rfl⟩
 replace hstp:de_ J.C_g H ss1 (ks.map SK.w++[c]) n d:=hstp;rw [ek] at hstp;cases hstp with
 | cons h5 h6 =>
 rename_i st' ss1;obtain ⟨dxs,hs⟩:=h5;injection ess with ess1 ess2;subst ess1 ess2;have hc:=hlv.2.1;refine bM_ (fun σ' H'=>σ'=[some (.ref row),some (.ref todo),some (.ref st),some (.ref n)]/\H=H') (fun X hX=>?_) (fun σ' H' hh=>?_)
 ·simp! [tFld,hs]
  exact ⟨T.cl_g,T.n_ba,_,rfl,hX _ _ ⟨rfl,rfl⟩⟩
 obtain ⟨rfl,rfl⟩:=hh;refine fk_ fun A1 B1 hA1 hB1=>?_;simp! [tFld,hs];refine ⟨T.cl_g,T.n_aA,_,rfl,_,.inr (T.t_aa H),rfl,rfl,?_⟩;cases ks with
 | nil =>
  injection ek with ek1 ek2;subst ek1 ek2;cases h6;have hc:c=")"\/c="end":=hc;rw [show (V.str (ofString c))=V.str (S (Vaunid.txt c)) by rw [aI_],bg_,in_S,decide_eq_false (by rcases hc with rfl | rfl <;> left)]
  rw [if_neg (by simp)];refine hB1 _ (fk_ fun A2 B2 hA2 hB2=>?_);simp! [tFld,hs];refine ⟨T.cl_g,T.n_aA,_,rfl,rfl,?_⟩;rw [if_neg (show ¬ V.str (ofString c)=V.str (ofString "name") by simp only [V.str.injEq];rcases hc with rfl | rfl <;> left)]
  refine hB2 _ (fk_ fun A3 B3 hA3 hB3=>?_);simp! [tFld,hs];refine ⟨T.cl_g,T.n_aA,_,rfl,rfl,?_⟩;rw [if_neg (show ¬ V.str (ofString c)=V.str (ofString "power") by simp only [V.str.injEq];rcases hc with rfl | rfl <;> left)]
  refine hB3 _ ?_;simp! [dG_,cD_,tFld,sFld,hs,h1];refine ⟨rfl,T.cl_g,T.n_aA,_,rfl,la,t,l,Vaunid.txt c,by rw [<- aI_],hr0,?_⟩;by_cases hk:kindOf t.tok=Vaunid.txt c
  ·rw [if_pos hk]
   intro b2 H1 ⟨dt,ct,e3,_⟩ sx1 hr1;have hn1:H1 n=some (.ins J.C_b dxn (a9_ (S form) wl pl (b:Int) (e0:Int))):=sx1 _ _ (nin (Ne.symm rn)) hn;refine ⟨J.C_c,dt,_,e3,T.cl_c,T.n_aU,_,rfl,_,_,_,hn1,T.cl_b,T.n_aP,(by show 5<1000;decide),?_⟩;have su:ai_ [n] H1 (upd H1 n (.ins J.C_b dxn (a9_ (S form) wl pl (b:Int) (t.halt_:Int)))):=ai_.upd (mem_singleton.mpr rfl);have nt : ∀ x∈[n],NT H1 x:=fun x hx=>by rw [mem_singleton.mp hx];exact .node hn1
   have sxx:ai_ [row,n] H (upd H1 n (.ins J.C_b dxn (a9_ (S form) wl pl (b:Int) (t.halt_:Int)))):=(sx1.more (by simp)).trans (su.more (by simp));have fin:=lf_ (e':=t.halt_) (res:=res) sm0 hto hr0 hf hb hnd' hfr sxx (hr1.keep su nt (nin rn) (nin lan)) gl ad_;show Q V.non (upd H1 n (.ins J.C_b dxn (a9_ (S form) wl pl (b:Int) (t.halt_:Int))));cases fs with
   | nil =>
    have hst':b8_ ⟨[⟨form,ws,b,ts,[],c,d⟩],t::l,res⟩=some (if kindOf t.tok=Vaunid.txt c then .ok ⟨[],l,[PF.done ⟨form,ws,b,ts,[],c,d⟩ t.halt_]⟩ else fault 6 t.start):=rfl;rw [hst',if_pos hk] at hst;injection hst with hst;subst hst;exact k _ fin
   | cons g fs =>
   have hst':b8_ ⟨⟨form,ws,b,ts,[],c,d⟩::g::fs,t::l,res⟩=some (if kindOf t.tok=Vaunid.txt c then .ok ⟨{ g with ts:=g.ts++[PF.done ⟨form,ws,b,ts,[],c,d⟩ t.halt_] }::fs,l,res⟩ else fault 6 t.start):=rfl;have lv2:=lvs _ (by rw [hst',if_pos hk]);rw [hst',if_pos hk] at hst;injection hst with hst;subst hst;exact k _ (fin lv2)
  rw [if_neg hk];have hst' : ∃ z,b8_ ⟨⟨form,ws,b,ts,[],c,d⟩::fs,t::l,res⟩=some (if kindOf t.tok=Vaunid.txt c then z else fault 6 t.start):=⟨_,rfl⟩;obtain ⟨z,hst'⟩:=hst';rw [hst',if_neg hk] at hst;injection hst with hst;subst hst;exact k
 | cons kk ks =>
 injection ek with ek1 ek2;subst ek1 ek2;rw [length_cons] at cnt5;cases kk with
 | n =>
  rw [show (V.str (ofString SK.n.w))=V.str (S (Vaunid.txt "name")) by rw [aI_];rfl,bg_,in_S,decide_eq_false (by left)];rw [if_neg (by simp)];refine hB1 _ (fk_ fun A2 B2 hA2 hB2=>?_);simp! [tFld,hs];refine ⟨T.cl_g,T.n_aA,_,rfl,rfl,?_⟩;rw [if_pos (show V.str (ofString SK.n.w)=V.str (ofString "name") from rfl)];refine hA2 _ ?_;simp! [dG_,cD_,tFld,tBM,a4_,hs,h1];refine ⟨_,_,_,hn,T.cl_b,T.n_ax,_,rfl,(show tyV K "list" (.ref wl) _ from .inl ⟨rfl,_,SqL.of hw⟩),rfl,la,t,l,Vaunid.txt "name",aI_ _,hr0,?_⟩;have hst':b8_ ⟨⟨form,ws,b,ts,.n::ks,c,d⟩::fs,t::l,res⟩=some (if kindOf t.tok=Vaunid.txt "name" then .ok ⟨⟨form,ws++[eo_ t.tok],b,ts,ks,c,d⟩::fs,l,res⟩ else fault 6 t.start):=rfl;rw [hst'] at hst;injection hst with hst;by_cases hk:kindOf t.tok=Vaunid.txt "name"
  ·rw [if_pos hk] at hst ⊢
   rw [if_pos hk] at hst';subst hst;have lv2:=lvs _ hst';intro b2 H1 htk sx1 hr1;obtain ⟨wd,e1,e2⟩:=(eT_ gt).mp hk;obtain ⟨dt,ct,e3,e4⟩:=htk;rw [e1] at e4;have ec:ct=V.str (S wd):=e4;have hw1:H1 wl=some (.lst ((ws.map S).map V.str)):=sx1 _ _ (nin (Ne.symm rw')) hw;refine ⟨J.C_c,dt,_,e3,T.cl_c,T.n_aE,_,rfl,_,rfl,_,hw1,?_,?_⟩
   ·rw [length_map,length_map]
    exact Nat.lt_of_le_of_lt (show ws.length<=5 by omega) (by decide)
   rw [ec];refine k _ ?_;have su:ai_ [wl] H1 (upd H1 wl (.lst ((ws.map S).map V.str++[.str (S wd)]))):=ai_.upd (mem_singleton.mpr rfl);have nt : ∀ x∈[wl],NT H1 x:=fun x hx=>by rw [mem_singleton.mp hx];exact .lst hw1
   have sxx:ai_ [row,n,wl,pl] H (upd H1 wl (.lst ((ws.map S).map V.str++[.str (S wd)]))):=(sx1.more (by simp)).trans (su.more (by simp));have s2:ai_ [row,wl] H (upd H1 wl (.lst ((ws.map S).map V.str++[.str (S wd)]))):=(sx1.more (by simp)).trans (su.more (by simp));refine hV_ (as':=as') (G:=[]) (e':=e0) sm0 hto hr0 hf hb hnd' hfr sxx (hr1.keep su nt (nin rw') (nin law)) gl lv2 (s2 _ _ (by simp;exact ⟨Ne.symm rn,dj.nw⟩) hn) ?_ (s2 _ _ (by simp;exact ⟨Ne.symm rp,Ne.symm dj.wp⟩) (by rw [hp,append_nil])) ?_ .nil (by simp) h6
   ·rw [ad_,e1]
    simp only [eo_,map_append,map_cons,map_nil]
   rw [append_nil];exact hf.trees.keep fun a ha o q=>sxx a o (fun m=>dj.out a (by simp [ha]) (by simp at m ⊢;rcases m with h | h | h | h <;> simp [h])) q
  rw [if_neg hk] at hst ⊢;subst hst;exact k
 | pw =>
  rw [show (V.str (ofString SK.pw.w))=V.str (S (Vaunid.txt "power")) by rw [aI_];rfl,bg_,in_S,decide_eq_false (by left)];rw [if_neg (by simp)];refine hB1 _ (fk_ fun A2 B2 hA2 hB2=>?_);simp! [tFld,hs];refine ⟨T.cl_g,T.n_aA,_,rfl,rfl,?_⟩;rw [if_neg (show ¬ V.str (ofString SK.pw.w)=V.str (ofString "name") by simp only [V.str.injEq];left)];refine hB2 _ (fk_ fun A3 B3 hA3 hB3=>?_);simp! [tFld,hs];refine ⟨T.cl_g,T.n_aA,_,rfl,rfl,?_⟩;rw [if_pos (show V.str (ofString SK.pw.w)=V.str (ofString "power") from rfl)];refine hA3 _ ?_;simp! [dG_,cD_,tFld,tBM,a4_,hs,h1];refine ⟨_,_,_,hn,T.cl_b,T.n_ax,_,rfl,(show tyV K "list" (.ref wl) _ from .inl ⟨rfl,_,SqL.of hw⟩),rfl,la,t,l,Vaunid.txt "digit",aI_ _,hr0,?_⟩;have hst':b8_ ⟨⟨form,ws,b,ts,.pw::ks,c,d⟩::fs,t::l,res⟩=some (if kindOf t.tok=Vaunid.txt "digit" then .ok ⟨⟨form,ws++[hJ_ t.tok],b,ts,ks,c,d⟩::fs,l,res⟩ else fault 6 t.start):=rfl;rw [hst'] at hst;injection hst with hst;by_cases hk:kindOf t.tok=Vaunid.txt "digit"
  ·rw [if_pos hk] at hst ⊢
   rw [if_pos hk] at hst';subst hst;have lv2:=lvs _ hst';intro b2 H1 htk sx1 hr1;obtain ⟨v,m,e1⟩:=(dP_ gt).mp hk;obtain ⟨dt,ct,e3,e4⟩:=htk;rw [e1] at e4 gt;obtain ⟨am,ec,ha⟩:=e4;have glit:gd_ v:=⟨gt.1,gt.2.1,gt.2.2.1⟩;have hw1:H1 wl=some (.lst ((ws.map S).map V.str)):=sx1 _ _ (nin (Ne.symm rw')) hw;refine ⟨J.C_c,dt,_,e3,T.cl_c,T.n_aE,_,rfl,am,v,by rw [ec],ha,glit,_,rfl,_,hw1,?_,?_⟩
   ·rw [length_map,length_map]
    exact Nat.lt_of_le_of_lt (show ws.length<=5 by omega) (by decide)
   refine k _ ?_;have su:ai_ [wl] H1 (upd H1 wl (.lst ((ws.map S).map V.str++[.str (S (shownLit v))]))):=ai_.upd (mem_singleton.mpr rfl);have nt : ∀ x∈[wl],NT H1 x:=fun x hx=>by rw [mem_singleton.mp hx];exact .lst hw1
   have sxx:ai_ [row,n,wl,pl] H (upd H1 wl (.lst ((ws.map S).map V.str++[.str (S (shownLit v))]))):=(sx1.more (by simp)).trans (su.more (by simp));have s2:ai_ [row,wl] H (upd H1 wl (.lst ((ws.map S).map V.str++[.str (S (shownLit v))]))):=(sx1.more (by simp)).trans (su.more (by simp));refine hV_ (as':=as') (G:=[]) (e':=e0) sm0 hto hr0 hf hb hnd' hfr sxx (hr1.keep su nt (nin rw') (nin law)) gl lv2 (s2 _ _ (by simp;exact ⟨Ne.symm rn,dj.nw⟩) hn) ?_ (s2 _ _ (by simp;exact ⟨Ne.symm rp,Ne.symm dj.wp⟩) (by rw [hp,append_nil])) ?_ .nil (by simp) h6
   ·rw [ad_,e1]
    simp only [hJ_,map_append,map_cons,map_nil]
   rw [append_nil];exact hf.trees.keep fun a ha o q=>sxx a o (fun m=>dj.out a (by simp [ha]) (by simp at m ⊢;rcases m with h | h | h | h <;> simp [h])) q
  rw [if_neg hk] at hst ⊢;subst hst;exact k
 | p bb =>
 rw [show (V.str (ofString (SK.p bb).w))=V.str (S (Vaunid.txt (SK.p bb).w)) by rw [aI_],bg_,in_S,decide_eq_true (by cases bb <;> left)]
 rw [if_pos rfl];refine hA1 _ ?_;simp! [tRet];have hlen:((ss1++ss2).reverse.map V.ref).length<=1000:=by
  have q1:=hb.len hlv.2.2.2.2;have q2:=hf.steps.length;have q3:=hlv.2.2.1;have q4:=hlv.2.2.2.1;rw [length_map,length_reverse,length_append];simp only [length_append,length_map,length_cons,length_nil] at q2 q3 q4;omega
 refine ⟨row,la,todo,st,n,dxn,wl,pl,(SK.p bb).w,d,t,l,_,as'.map V.ref,S form,(b:Int),(e0:Int),⟨dxs,hs⟩,hr0,hg,hto,hlen,hn,by rw [hp,append_nil],?_,tp,Ne.symm dj.tla,lap,?_⟩
 ·rw [length_map,hf.trees.length]
  show ts.length<=100;omega
 have hst':b8_ ⟨⟨form,ws,b,ts,.p bb::ks,c,d⟩::fs,t::l,res⟩=(if d=40 then some (fault 8 t.start)
   else if kindOf t.tok=Vaunid.txt "(" then (if l.isEmpty=true then none else some (.ok ⟨dU_ t.start (d+1) l::⟨form,ws,b,ts,ks,c,d⟩::fs,(ap_ l).2,res⟩))
   else match Vaunid.leafOf t.tok with
    | some x=>some (.ok ⟨⟨form,ws,b,ts++[gU_ t x],ks,c,d⟩::fs,l,res⟩)
    | none=>some (fault 6 t.start)):=rfl
 rw [hst'] at hst;by_cases hd:d=40
 ·rw [if_pos hd] at hst ⊢
  injection hst with hst;subst hst;exact k
 rw [if_neg hd] at hst hst' ⊢;by_cases hk:kindOf t.tok=Vaunid.txt "("
 ·rw [if_pos hk] at hst hst' ⊢
  by_cases hl:l.isEmpty=true
  ·rw [if_pos hl] at hst
   cases hst
  rw [if_neg hl] at hst hst';injection hst with hst;subst hst;have lv2:=lvs _ hst';refine ⟨fun z=>hl (by rw [z];rfl),fun n' dx' wl' pl' ss' H' sx hr' hto' st' pa' no' wo' pp' nd' fr'=>k H' ?_⟩;have gb:bn_ (ap_ l).2:=by
   obtain ⟨pre,epre⟩:=eZ_ l;rw [epre] at gl;exact gl.suf
  exact mo_ (pn:=dU_ t.start (d+1) l) (e':=t.start) sm0 hto hr0 hf hb hnd' hfr lv2 sx hr' gb hto' st' pa' no' wo' pp' rfl rfl nd' fr' rfl rfl rfl rfl h6
 rw [if_neg hk] at hst hst' ⊢;cases hx:Vaunid.leafOf t.tok with
 | none =>
  rw [hx] at hst;injection hst with hst;subst hst;exact k
 | some x =>
 rw [hx] at hst hst';injection hst with hst;subst hst;have lv2:=lvs _ hst';intro n' F' H' sx hr' pa' tr' nd' fr';have out : ∀ a,a∉[row,n,wl,pl]->a∉[row,pl]:=fun a m z=>m (by simp at z ⊢;rcases z with h | h <;> simp [h])
 refine k H' (hV_ (as':=as'++[n']) (G:=F') (e':=e0) sm0 hto hr0 hf hb hnd' hfr (sx.more (by simp)) hr' gl lv2 (sx _ _ (by simp;exact ⟨Ne.symm rn,dj.np⟩) hn) (sx _ _ (by simp;exact ⟨Ne.symm rw',dj.wp⟩) hw) (by rw [pa',map_append];rfl) ?_ nd' fr' h6);exact (hf.trees.keep fun a ha o q=>sx a o (fun m=>dj.out a (by simp [ha]) (by simp at m ⊢;rcases m with h | h <;> simp [h])) q).snoc tr'
def fb_ (Cn:Addr):Sp:=fun vs H Q _=>∃ (a:Addr) (tr:Tr) (F:List Addr),vs=[.ref a]/\TreeAt Cn H a tr F/\(bh_ 1 tr).length<=10000/\∀ (p:Addr) (items:List Addr) (H':Hp),Same H H'->H' p=some (.lst (items.map V.ref))->Paired (b4_ Cn H H') items (bh_ 1 tr)->Q (.ref p) H'
theorem b4_.keep {Cn:Addr}{H H1 H2:Hp}{xs:List Addr} (sx:ai_ xs H1 H2) (nt : ∀ x∈xs,∃ l,H1 x=some (.lst l)) {it:Addr}{p:Nat×Tr} (h:b4_ Cn H H1 it p):b4_ Cn H H2 it p:=by
 obtain ⟨a,F,e,t⟩:=h;refine ⟨a,F,sx _ _ (fun m=>?_) e,t⟩;obtain ⟨l,q⟩:=nt _ m;rw [q] at e;cases e
theorem dK_ {A B:Type}{R:A->B->Prop}{l l2:List A}{m m2:List B} (h:Paired R l m) (q:Paired R l2 m2):Paired R (l++l2) (m++m2):=by
 induction h with
 | nil=>exact q
 | cons r t ih=>exact .cons r ih
theorem ok_G (T:TX w K mg J):FnOk P w K mg base CX0 1 J.f_G J.d_G ["term"] (fb_ J.C_b):=by
 refine T.F_G.fn.ok sc_G fun _ _ _ _ H _ Q E hr h=>?_;obtain ⟨a,tr,F,rfl,htr,hlen,k⟩:=h;refine ⟨_,(ab_ (aA_ 1 sc_G.nd (aK_ ac_))
  (ab_ (aA_ 2 sc_G.nd (aK_ (aa_ (dl_ (aa_ (pv 0) (aa_ ak_ ac_))) ac_)))
  (ab_ (bI_ PassesOwn.never (dk_ (pv 2) (fun _=>rfl)) (ab_ (aA_ 3 sc_G.nd (gL_ pla slp tlp gQ_ (pv 2)))
  (ab_ (aE_ (bP_ pla sla tla aB_ (pv 1) (aa_ (pv 3) ac_)))
  (ae_ (dV_ PassesOwn.never rfl (b9_ rfl T.b_reversed (aa_ (ah_ (aY_ bC_ (pv 3) ak_ (fun _ _=>rfl)) rfl) ac_)) (pg_q 4 sc_G.nd) (ae_ (aE_ (bP_ pla sla tla aB_ (pv 2) (aa_ (dl_ (aa_ (pv 4) (aa_ (bf_ ch_ (aY_ bC_ (pv 3) ak_ (fun _ _=>rfl)) ak_) ac_))) ac_)))))))))
  (ae_ (an_ (pv 1)))))),?_⟩
 refine cp_ ?_;simp! [tRet];refine ⟨zero_le _,fun fd hfd=>cp_ ?_⟩;simp! [tRet];refine ⟨by decide,fun it0 hit0=>⟨by decide,fun td htd=>?_⟩⟩;have nf:fd≠it0:=fun z=>by rw [z,ad_] at hit0;cases hit0
 have hit00:H it0=none:=by rw [am_ (Ne.symm nf)] at hit0;exact hit0
 have ntd:td≠it0:=fun z=>by rw [z,ad_] at htd;cases htd
 have ntf:td≠fd:=fun z=>by rw [am_ ntd,z,ad_] at htd;cases htd
 have htd0:H td=none:=by rw [am_ ntd,am_ ntf] at htd;exact htd
 obtain ⟨Pv,hPv⟩ : ∃ Pv:Nat->L2.St->Hp->Prop,Pv=fun m σ H'=>Same H H'/\∃ (dn sk:List Addr) (dl sl:List (Nat×Tr)) (z z2:Option V),m=(dv_ sl).length/\σ=[some (.ref a),some (.ref fd),some (.ref td),z,z2]/\H' fd=some (.lst (dn.map V.ref))/\H' td=some (.lst (sk.map V.ref)) /\
  Paired (b4_ J.C_b H H') dn dl/\Paired (b4_ J.C_b H H') sk sl/\bh_ 1 tr=dl++dv_ sl:=⟨_,rfl⟩
 refine cp_ (b5_ Pv _ (by
  rw [hPv];refine ⟨?_,[],[it0],[],[(1,tr)],none,none,rfl,rfl,?_,ad_,.nil,.cons ⟨a,F,?_,htr⟩ .nil,?_⟩
  ·exact (Same.upd hfd).trans ((Same.upd hit0).trans (Same.upd htd))
  ·rw [am_ (Ne.symm ntf),am_ nf]
   exact ad_
  ·rw [am_ (Ne.symm ntd)]
   exact ad_
  show bh_ 1 tr=[]++dv_ ([]++[(1,tr)]);rw [cM_];show _=bh_ 1 tr++[];rw [append_nil]) fun m σ H' hp=>?_)
 rw [hPv] at hp;obtain ⟨sm,dn,sk,dl,sl,z,z2,rfl,rfl,hf,ht,pd,ps,hfl⟩:=hp;simp! [tRet];by_cases hsk:sk=[]
 ·subst hsk
  cases ps;refine ⟨false,.inl ⟨_,SqL.of ht,rfl⟩,?_⟩;rw [if_neg (by simp)];rw [show dv_ []=[] from rfl,append_nil] at hfl;exact k fd dn H' sm hf (by rw [hfl];exact pd)
 refine ⟨true,.inl ⟨_,SqL.of ht,by cases sk with | nil=>exact absurd rfl hsk | cons _ _=>rfl⟩,?_⟩;rw [if_pos rfl];refine ⟨_,fun _ _ z=>z,?_⟩;obtain ⟨sk',it,sl',⟨d,t⟩,rfl,rfl,ps',hit⟩:=c0_ ps hsk;obtain ⟨n,Fn,hitv,htn⟩:=hit;have hlens:dn.length<=10000/\sk'.length<=10000/\sk'.length+t.parts.length<=10000:=by
  have q1:=Paired.length pd;have q2:=Paired.length ps';have q3:=kR_ (sl'++(t.parts.reverse.map fun x=>(d+1,x)));rw [c6_,length_append,length_map,length_reverse] at q3;rw [hfl,length_append,cM_,length_append] at hlen;have q4:bh_ d t=(d,t)::cP_ (d+1) t.parts:=by cases t;rfl
  rw [q4,length_cons] at hlen;rw [length_append] at q3;omega
 obtain ⟨hl1,hl2,hl3⟩:=hlens;have ht':H' td=some (.lst (sk'.map V.ref++[.ref it])):=by rw [ht,map_append];rfl
 refine cp_ ?_;simp! [tBM0,rPop];refine ⟨.inl ⟨rfl,_,SqL.of ht⟩,_,ht',V.ref it,by simp,?_⟩;rw [dropLast_concat];have sx1:ai_ [td] H' (upd H' td (.lst (sk'.map V.ref))):=ai_.upd (mem_singleton.mpr rfl);have e1:upd H' td (.lst (sk'.map V.ref)) td=some (.lst (sk'.map V.ref)):=ad_;generalize upd H' td (.lst (sk'.map V.ref))=H1 at sx1 e1 ⊢;have hf1:=sx1 _ _ (nin (Ne.symm ntf)) hf;refine cp_ ?_;simp! [tBM,a4_];refine ⟨.inl ⟨rfl,_,SqL.of hf1⟩,_,hf1,by rw [length_map];exact Nat.lt_of_le_of_lt hl1 (by decide),?_⟩;have sx2:ai_ [fd] H1 (upd H1 fd (.lst (dn.map V.ref++[.ref it]))):=ai_.upd (mem_singleton.mpr rfl);have e2:upd H1 fd (.lst (dn.map V.ref++[.ref it])) fd=some (.lst (dn.map V.ref++[.ref it])):=ad_;have e12:=sx2 _ _ (nin ntf) e1;generalize upd H1 fd (.lst (dn.map V.ref++[.ref it]))=H2 at sx2 e2 e12 ⊢;have sx12:ai_ [fd,td] H' H2:=(sx1.more (by simp)).trans (sx2.more (by simp));have nt12 : ∀ x∈[fd,td],∃ l,H' x=some (.lst l):=fun x hx=>by
  rcases mem_cons.mp hx with rfl | hx
  ·exact ⟨_,hf⟩
  rw [mem_singleton.mp hx];exact ⟨_,ht⟩
 have pd2:Paired (b4_ J.C_b H H2) dn dl:=Paired.mapP pd fun _ _ q=>q.keep sx12 nt12;have ps2:Paired (b4_ J.C_b H H2) sk' sl':=Paired.mapP ps' fun _ _ q=>q.keep sx12 nt12;have it2:b4_ J.C_b H H2 it (d,t):=b4_.keep sx12 nt12 ⟨n,Fn,hitv,htn⟩;obtain ⟨n',Fn',hitv2,_⟩:=it2;have hn':n'=n:=by
  have:=sx12 _ _ (fun m=>by
   obtain ⟨l,q⟩:=nt12 _ m;rw [q] at hitv;cases hitv) hitv
  rw [this] at hitv2;cases hitv2;rfl
 subst hn';have sm2:Same H H2:=sx12.base sm (fun x hx=>by
  rcases mem_cons.mp hx with rfl | hx
  ·exact hfd
  rw [mem_singleton.mp hx];exact htd0)
 cases htn with
 | @mk _ dxn wl pl f ws b e as ps3 G t1 t2 t3 t4 =>
 have t1':=sm2 _ _ t1;have t3':=sm2 _ _ t3;refine bc_ ?_;simp! [iRev,tFld];refine ⟨_,SqT.of hitv2,_,rfl,_,rfl,_,_,_,t1',T.cl_b,T.n_aB,_,rfl,_,rfl,_,SqL.of t3',?_⟩;refine ds_ (as.map V.ref) (fun i σ H3=>(∃ z2,σ=[some (.ref a),some (.ref fd),some (.ref td),some (.ref it),z2])/\ai_ [td] H2 H3/\∃ nw,H3 td=some (.lst ((sk'++nw).map V.ref))/\Paired (b4_ J.C_b H H3) nw ((ps3.reverse.take i).map fun t=>(d+1,t)))
  ⟨⟨_,rfl⟩,fun _ _ _ q=>q,[],by rw [append_nil];exact e12,.nil⟩ (fun i σ H3 _ q=>SqL.of (q.2.1 _ _ (nin (af_ t3 htd0)) t3')) (fun i x σ H3 hx q=>?_) fun σ H3 q=>?_
 ·obtain ⟨⟨z2,rfl⟩,sx3,nw,hnw,pnw⟩:=q
  have hit3:=sx3 _ _ (nin (be_ hitv2 e12 (by intro z;cases z))) hitv2;rw [<- map_reverse,getElem?_map] at hx;cases qa:as.reverse[i]? with
  | none=>rw [qa] at hx;cases hx
  | some c =>
  rw [qa] at hx;cases hx;have hil:i<as.length:=by
   have:=(List.getElem?_eq_some_iff.mp qa).1;rw [length_reverse] at this;exact this
  have hal:=t4.length;rw [getElem?_reverse hil] at qa;obtain ⟨tc,Gc,hc1,hc2⟩:=t4.get qa;have hnl:nw.length=i:=by
   have:=Paired.length pnw;rw [length_map,length_take,length_reverse] at this;omega
  simp! [tSeq,tBM,a4_];refine ⟨.inl ⟨rfl,_,SqL.of hnw⟩,_,SqT.of hit3,_,rfl,_,rfl,by decide,fun q hq=>?_⟩;have s4:Same H3 (upd H3 q (.tup [.ref c,.int ((d:Int)+1)])):=Same.upd hq;have e4:upd H3 q (.tup [.ref c,.int ((d:Int)+1)]) q=some (.tup [.ref c,.int ((d:Int)+1)]):=ad_;generalize upd H3 q (.tup [.ref c,.int ((d:Int)+1)])=H4 at s4 e4 ⊢;have hnw4:=s4 _ _ hnw;have sx5:ai_ [td] H4 (upd H4 td (.lst ((sk'++nw).map V.ref++[.ref q]))):=ai_.upd (mem_singleton.mpr rfl);have nt5 : ∀ x∈[td],∃ l,H4 x=some (.lst l):=fun x hx=>by rw [mem_singleton.mp hx];exact ⟨_,hnw4⟩
  refine ⟨_,hnw4,?_,sx3.trans ((ai_.of s4).trans sx5),nw++[q],?_,?_⟩
  ·rw [length_map,length_append]
   have:(Tr.mk f ws b e ps3).parts.length=ps3.length:=rfl;exact Nat.lt_of_le_of_lt (show _<=10000 by omega) (by decide)
  ·rw [<- append_assoc,map_append (l₁:=sk'++nw)]
   rfl
  have hr:ps3.reverse[i]? = some tc:=by rw [getElem?_reverse (by omega),<- hal];exact hc1
  rw [take_succ,hr,map_append (f:=fun t=>(d+1,t))];refine aR_ (Paired.mapP pnw fun _ _ q=>(q.keep (ai_.of (xs:=[]) s4) (by simp)).keep sx5 nt5) ?_;exact b4_.keep sx5 nt5 ⟨c,Gc,e4,hc2⟩
 obtain ⟨⟨z2,rfl⟩,sx3,nw,hnw,pnw⟩:=q;have hal:=t4.length;rw [length_map,hal,<- length_reverse,take_length] at pnw;have nt3 : ∀ x∈[td],∃ l,H2 x=some (.lst l):=fun x hx=>by rw [mem_singleton.mp hx];exact ⟨_,e12⟩
 refine ⟨(dv_ (sl'++(ps3.reverse.map fun t=>(d+1,t)))).length,?_,?_⟩
 ·rw [c6_,cM_]
  show _<((d,Tr.mk f ws b e ps3)::cP_ (d+1) ps3++dv_ sl').length;rw [cons_append,length_cons];exact lt_succ_self _
 rw [hPv];refine ⟨sx3.base sm2 (fun x hx=>by rw [mem_singleton.mp hx];exact htd0),dn++[it],sk'++nw,dl++[(d,.mk f ws b e ps3)],_,_,_,rfl,rfl,?_,hnw,?_,?_,?_⟩
 ·rw [sx3 _ _ (nin (Ne.symm ntf)) e2,map_append]
  rfl
 ·exact aR_ (Paired.mapP pd2 fun _ _ q=>q.keep sx3 nt3) (b4_.keep sx3 nt3 ⟨n',_,hitv2,.mk t1 t2 t3 t4⟩)
 ·exact dK_ (Paired.mapP ps2 fun _ _ q=>q.keep sx3 nt3) pnw
 rw [hfl,c6_,cM_,append_assoc];rfl
def h7_ (Cn C:Addr):Sp:=fun vs H Q E=>∃ (a:Addr) (tr:Tr) (F:List Addr),vs=[.ref a]/\TreeAt Cn H a tr F/\(bh_ 1 tr).length<=10000/\(match limT 0 (bh_ 1 tr) with
 | none=>∀ H',Same H H'->Q .non H'
 | some (k,b)=>ExF C E H (k:Int) (b:Int))
theorem ok_ab (T:TX w K mg J):FnOk P w K mg base (CX1 P w) 3 J.f_ab J.d_ab ["term"] (h7_ J.C_b J.C_d):=by
 refine T.F_ab.fn.okX sc_ab fun _ _ _ _ H _ Q E hr h=>?_;obtain ⟨a,tr,F,rfl,htr,hlen,k⟩:=h;refine ⟨_,(ae_ (dV_ im_ rfl (ny_ rfl T.b_enumerate (aa_ (aF_ T.F_G (ok_G T) hr.m aq_ (aa_ (pv 0) ac_)) ac_)) (oO_ rfl (ig_ (pg_q 1 sc_ab.nd) (ig_ (pg_q 2 sc_ab.nd) nz_))) (ab_ (aJ_ (al_ gO_ (aY_ bC_ (pv 2) ak_ (fun _ _=>rfl)) (pe_g T.g_aJ) (aw_ _)) (ae_ (bJ_ T.X_d (ok_d T) hr.m rfl T.G_d T.b_n bp_ rfl (aa_ ak_ (aa_ (ah_ (aY_ bC_ (pv 2) ak_ (fun _ _=>rfl)) rfl) ac_)))) ar_)
  (ae_ (aJ_ (al_ bB_ (pv 1) (pe_g T.g_aW) (aw_ _)) (ae_ (bJ_ T.X_d (ok_d T) hr.m rfl T.G_d T.b_n bp_ rfl (aa_ ak_ (aa_ (ah_ (aY_ bC_ (pv 2) ak_ (fun _ _=>rfl)) rfl) ac_)))) ar_))))),?_⟩
 refine bc_ ?_;simp! [tSeq,fb_,o7_];refine ⟨tr,F,htr,hlen,fun p items H1 s1 hp hit=>⟨_,SqL.of hp,?_⟩⟩;refine je_ (items.map V.ref) (fun i σ H2=>Same H1 H2/\(∃ z1 z2,σ=[some (.ref a),z1,z2])/\limT 0 (bh_ 1 tr)=limT i ((bh_ 1 tr).drop i)) ⟨Same.refl _,⟨_,_,rfl⟩,rfl⟩ (fun i σ H2 _ q=>SqL.of (q.1 _ _ hp)) (fun i x σ H2 A hx q hA=>?_) fun σ H2 q=>?_
 ·obtain ⟨sm,⟨z1,z2,rfl⟩,hlim⟩:=q
  rw [getElem?_map] at hx;cases qa:items[i]? with
  | none=>rw [qa] at hx;cases hx
  | some it =>
  rw [qa] at hx;cases hx;obtain ⟨⟨d,t⟩,hd,n,G,hit1,htn⟩:=cK_ hit qa;have hdr:(bh_ 1 tr).drop i=(d,t)::(bh_ 1 tr).drop (i+1):=by
   obtain ⟨hlt,e⟩:=List.getElem?_eq_some_iff.mp hd;rw [drop_eq_getElem_cons hlt,e]
  rw [hdr] at hlim;have hlim':limT i ((d,t)::(bh_ 1 tr).drop (i+1))=if 40<d then some (8,t.b) else if i=300 then some (9,t.b) else limT (i+1) ((bh_ 1 tr).drop (i+1)):=rfl;rw [hlim'] at hlim;have s3:Same H2 (upd H2 A (.tup [.int (i:Nat),.ref it])):=Same.upd hA;have e3:upd H2 A (.tup [.int (i:Nat),.ref it]) A=some (.tup [.int (i:Nat),.ref it]):=ad_;generalize upd H2 A (.tup [.int (i:Nat),.ref it])=H3 at s3 e3 ⊢;have sm3:=sm.trans s3;have hit3:=sm3 _ _ hit1;have htn3:=htn.same (s1.trans sm3);simp! [tSeq,gTup,o9_,gNil,cT_,tFld];have hnode : ∃ dxn f wl pl e,H3 n=some (.ins J.C_b dxn (a9_ f wl pl (t.b:Int) e)):=by
   cases htn3 with
   | @mk _ dxn wl pl f ws b e as ps3 G t1 t2 t3 t4=>exact ⟨dxn,_,wl,pl,_,t1⟩
  obtain ⟨dxn,f,wl,pl,e,hn⟩:=hnode;refine ⟨_,SqT.of e3,rfl,_,_,rfl,_,_,rfl,rfl,_,rfl,_,SqT.of hit3,_,rfl,_,rfl,?_⟩;by_cases h40:40<d
  ·rw [if_pos h40] at hlim
   rw [hlim] at k;rw [if_pos (show (40:Int)<(d:Int) by omega)];exact ⟨_,rfl,_,SqT.of hit3,_,rfl,_,rfl,_,_,_,hn,T.cl_b,T.n_aF,_,rfl,by decide,bx_ (k.mono (s1.trans sm3))⟩
  rw [if_neg h40] at hlim;rw [if_neg (show ¬ (40:Int)<(d:Int) by omega)];refine ⟨rfl,?_⟩;by_cases h300:i=300
  ·rw [if_pos h300] at hlim
   rw [hlim] at k;rw [if_pos (by rw [h300];rfl)];exact ⟨_,rfl,_,SqT.of hit3,_,rfl,_,rfl,_,_,_,hn,T.cl_b,T.n_aF,_,rfl,by decide,bx_ (k.mono (s1.trans sm3))⟩
  rw [if_neg h300] at hlim;rw [if_neg (by simp only [V.int.injEq];omega)];exact ⟨sm3,hlim⟩
 obtain ⟨sm,⟨z1,z2,rfl⟩,hlim⟩:=q;have e1:items.length=(bh_ 1 tr).length:=Paired.length hit;rw [length_map,e1,drop_length] at hlim;rw [hlim] at k;exact k H2 (s1.trans sm)
def eg_ (Cn:Addr) (x:Term) (v:V) (H:Hp):Prop:=∃ (b:Addr) (tr:Tr) (F:List Addr),v = .ref b/\Rep x tr/\TreeAt Cn H b tr F/\(bh_ 1 tr).length<=300/\hL_ tr<=40/\WB (allX x)
def oE_ (Cn C:Addr) (K:Frag):Sp:=fun vs H Q E=>∃ (a:Addr) (t:List Nat),vs=[.ref a]/\SqL K H a (bs t)/\t.length<=10000/\RES C H Q E (readCore t) (eg_ Cn)
theorem eq_ (tr:Tr):(bh_ 1 tr).length=(cB_ tr).length:=by rw [<- dc_ 1 tr,length_map]
theorem hj_ : ∀ (n p:Nat) (s:List Nat) (l:List Vaunid.Token),tokens true n p s = .ok l->l.length<=s.length
 | n,p,[],l,h=>by
  have:l=[]:=by cases n <;> (cases h;rfl)
  subst this;simp
 | 0,p,c::r,l,h=>by
  cases h;simp
 | n+1,p,c::r,l,h=>by
  unfold tokens at h;rw [length_cons];split at h
  ·have:=hj_ n _ r l h
   omega
  split at h
  ·rename_i hz
   cases hz.1
  cases q:token true p (c::r) with
  | error e=>rw [q] at h;cases h
  | ok x =>
  obtain ⟨k,s⟩:=x;rw [q] at h;dsimp only at h;have tf:=bX_ q;have hs:s.length<=r.length:=by
   have h3:=tf.lt;rw [tf.rest,length_drop,length_cons];omega
  cases q2:tokens true n k.halt_ s with
  | error e=>rw [q2] at h;cases h
  | ok l2 =>
  rw [q2] at h;cases h;have:=hj_ n _ s l2 q2;rw [length_cons];omega
theorem ok_z (T:TX w K mg J):FnOk P w K mg base (CX1 P w) 12 J.f_z J.d_z ["text"] (oE_ J.C_b J.C_d K):=by
 refine T.F_z.fn.okX sc_z fun _ _ _ _ H _ Q E hr h=>?_;obtain ⟨a,t,rfl,ht,hl,k⟩:=h;refine ⟨_,(ab_ (aA_ 1 sc_z.nd (aU_ T.M_f (ok_f T) hr.m rfl T.G_f T.b_P .nil aq_ (aa_ (aF_ T.F_ap (ok_ap T) hr.m aL_ (aa_ (pv 0) ac_)) (aa_ (aD_ aP_ rfl T.b_len PySem.boot_len (aa_ (pv 0) ac_)) ac_))))
  (ab_ (aA_ 2 sc_z.nd (aU_ T.M_b (ok_b T) hr.m rfl T.G_b T.b_r .nil aq_ (aa_ as_ (aa_ (aK_ ac_) (aa_ (aK_ ac_) (aa_ ak_ (aa_ ak_ ac_)))))))
  (ab_ (aA_ 3 sc_z.nd (aK_ (aa_ (aU_ T.M_g (ok_g T) hr.m rfl T.G_g T.b_x .nil aq_ (aa_ as_ (aa_ (pv 2) (aa_ ak_ ac_)))) (aa_ (aU_ T.M_g (ok_g T) hr.m rfl T.G_g T.b_x .nil aq_ (aa_ as_ (aa_ (pv 2) (aa_ ak_ ac_)))) ac_))))
  (ab_ (bI_ im_ (dk_ (pv 3) (fun _=>rfl)) (ae_ (aE_ (aF_ T.F_ai (ok_ai T) hr.m aL_ (aa_ (pv 1) (aa_ (pv 3) (aa_ (gL_ pla slp tlp gQ_ (pv 3)) ac_)))))))
  (ab_ (aA_ 4 sc_z.nd (aY_ aN_ (ah_ (pv 2) rfl) ak_ (fun _ _=>rfl)))
  (ab_ (aE_ (aF_ T.F_ab (ok_ab T) hr.m aL_ (aa_ (pv 4) ac_)))
  (ae_ (an_ (pv 4))))))))),?_⟩
 refine cp_ ?_;simp! [gx_,bE_];rw [hr_] at k;refine ⟨t,ht,hl,?_⟩;cases qt:allTokens true t with
 | error e=>rw [qt] at k;exact k
 | ok l =>
 rw [qt] at k;intro v H1 s1 ⟨b,as,ev,hb,hto⟩;subst ev;refine ⟨bs t,.inl (s1.seq ht),?_⟩;rw [b3_];have gts:=c4_ _ _ _ _ hl qt;have ltk:=hj_ _ _ _ _ qt;have las:as.length=l.length:=Paired.length hto;have run : ∃ R n,Run (fa_ t.length l) R n/\(match R with
   | .error e=>ExF J.C_d E H (e.kind:Int) (e.place:Int)
   | .ok wt=>∃ x tr e,wt = .mk (Vaunid.txt "whole") [] 0 e [tr]/\Rep x tr/\hL_ tr<=40/\(cB_ tr).length<=10000/\(if 300<(cB_ tr).length then ExF J.C_d E H 9 (((cB_ tr).getD 300 0:Nat):Int) else ∀ v H',Same H H'->eg_ J.C_b x v H'->Q v H')):=by
  have wr:=ju_ t.length l (fun k hk=>(gts k hk).1) (fun k hk=>(gts k hk).2);dsimp only at k;cases qc:bH_ t.length 40 l with
  | error e =>
   rw [qc] at wr k;obtain ⟨n,hn⟩:=wr;exact ⟨_,n,hn,k⟩
  | ok v =>
  obtain ⟨x,pl,r⟩:=v;rw [qc] at wr k;cases r with
  | cons k0 r =>
   obtain ⟨n,hn⟩:=wr;exact ⟨_,n,hn,k⟩
  | nil =>
  obtain ⟨tr,n,e,w1,w2,w3,w4,w5⟩:=wr;refine ⟨_,n,w5,x,tr,e,rfl,w1,w3,by rw [w2];omega,?_⟩;rw [w2];dsimp only at k;by_cases h3:300<pl.length
  ·rw [if_pos h3] at k ⊢
   exact k
  rw [if_neg h3] at k ⊢;exact k
 obtain ⟨R,n0,hrun,hR⟩:=run;intro row dxr hrow0 hdxr hner;have sA:=aQ_ (o1:=HO.own row) (o2:=HO.ins J.C_f dxr []) hrow0 hdxr;refine ⟨row,dxr,b,as,l,t.length,ad_,sA _ _ hb,by omega,Paired.mapP hto fun _ _ z=>z.same sA,fun la H2 hla sx2 hr2=>⟨rfl,cp_ ?_⟩⟩;simp! [bE_];refine ⟨zero_le _,fun wl hwl=>⟨zero_le _,fun pl hpl=>?_⟩⟩;have s12:Same H1 H2:=sx2.base sA (fun x hx=>by rw [mem_singleton.mp hx];exact hrow0);have hla1:H1 la=none:=none_of sA hla;have s02:=s1.trans s12;have s3:Same H2 (upd H2 wl (.lst [])):=Same.upd hwl;have e3:upd H2 wl (.lst []) wl=some (.lst []):=ad_;generalize upd H2 wl (.lst [])=H3 at s3 e3 hpl ⊢;have s4:Same H3 (upd H3 pl (.lst [])):=Same.upd hpl;have e4:upd H3 pl (.lst []) pl=some (.lst []):=ad_;generalize upd H3 pl (.lst [])=H4 at s4 e4 ⊢;refine bw_ rfl fun wh dxw H5 hwh s5 e5=>cp_ ?_;simp! [bE_];refine bw_ rfl fun st0 dx0 H6 hst0 s6 e6=>?_;refine bw_ rfl fun st1 dx1 H7 hst1 s7 e7=>⟨by decide,fun todo htd=>?_⟩;have s8:Same H7 (upd H7 todo (.lst [.ref st0,.ref st1])):=Same.upd htd;have e8:upd H7 todo (.lst [.ref st0,.ref st1]) todo=some (.lst [.ref st0,.ref st1]):=ad_;generalize upd H7 todo (.lst [.ref st0,.ref st1])=H8 at s8 e8 ⊢;have hr2':=hr2;obtain ⟨dxr2,asr,ir,r1,r2,r3⟩:=hr2';have s28:Same H2 H8:=s3.trans (s4.trans (s5.trans (s6.trans (s7.trans s8))));have s58:Same H5 H8:=s6.trans (s7.trans s8);have nd:(row::todo::la::([wh,wl,pl]++[st1,st0])).Nodup:=by
  have x1:row≠la:=be_ r1 r2 (by intro z;cases z);have y2 : ∀ x,H2 x=none->row≠x/\la≠x:=fun x hx=>⟨af_ r1 hx,af_ r2 hx⟩;have x2:=y2 wl hwl;have x3:=y2 pl (none_of s3 hpl);have x4:=y2 wh (none_of (s3.trans s4) hwh);have x5:=y2 st0 (none_of (s3.trans (s4.trans s5)) hst0);have x6:=y2 st1 (none_of (s3.trans (s4.trans (s5.trans s6))) hst1);have x7:=y2 todo (none_of (s3.trans (s4.trans (s5.trans (s6.trans s7)))) htd);have z1:wl≠pl:=af_ e3 hpl;have z2:wl≠wh:=af_ (s4 _ _ e3) hwh;have z3:pl≠wh:=af_ e4 hwh;have z4:wl≠st0:=af_ (s5 _ _ (s4 _ _ e3)) hst0;have z5:pl≠st0:=af_ (s5 _ _ e4) hst0;have z6:wh≠st0:=af_ e5 hst0;have z7:wl≠st1:=af_ (s6 _ _ (s5 _ _ (s4 _ _ e3))) hst1;have z8:pl≠st1:=af_ (s6 _ _ (s5 _ _ e4)) hst1;have z9:wh≠st1:=af_ (s6 _ _ e5) hst1;have z10:st0≠st1:=af_ e6 hst1;have z11:wl≠todo:=af_ (s7 _ _ (s6 _ _ (s5 _ _ (s4 _ _ e3)))) htd;have z12:pl≠todo:=af_ (s7 _ _ (s6 _ _ (s5 _ _ e4))) htd;have z13:wh≠todo:=af_ (s7 _ _ (s6 _ _ e5)) htd;have z14:st0≠todo:=af_ (s7 _ _ e6) htd;have z15:st1≠todo:=af_ e7 htd;simp [x1,x2,x3,x4,x5,x6,x7,z1,z2,z3,z4,z5,z6,z7,z8,z9,z10,z11,z12,z13,z14,z15,Ne.symm z1,Ne.symm z2,Ne.symm z3,Ne.symm z4,Ne.symm z5,Ne.symm z6,Ne.symm z7,Ne.symm z8,Ne.symm z9,Ne.symm z10,Ne.symm z11,Ne.symm z12,Ne.symm z13,Ne.symm z14,Ne.symm z15,Ne.symm x7.1,Ne.symm x7.2]
 have at0:AtM J.C_e J.C_c J.C_f J.C_b J.C_g H H8 row la todo wh (fa_ t.length l):=by
  refine ⟨s02.trans s28,hr2.same s28,bn_.sent (fun k hk=>(gts k hk).1) _,?_,.inl ⟨by simp [fa_],[st1,st0],[wh,wl,pl],.bot (e:=0) (dx:=dxw) (wl:=wl) (pl:=pl) (as:=[]) (F:=[]) ⟨?_,?_,?_,.nil,.cons ⟨dx1,?_⟩ (.cons ⟨dx0,?_⟩ .nil)⟩,e8,nd,?_⟩⟩
  ·exact ⟨by show 0+0+1<=5;decide,.inr rfl,rfl,zero_le _,trivial⟩
  ·show H8 wh=some (.ins J.C_b dxw (a9_ (S (Vaunid.txt "whole")) wl pl 0 0))
   rw [<- aI_];exact s58 _ _ e5
  ·exact s58 _ _ (s5 _ _ (s4 _ _ e3))
  ·exact s58 _ _ (s5 _ _ e4)
  ·exact s8 _ _ e7
  ·exact s8 _ _ (s7 _ _ e6)
  have q1:=none_of s1 hrow0;have q2:=none_of s02 hwl;have q3:=none_of (s02.trans s3) hpl;have q4:=none_of (s02.trans (s3.trans s4)) hwh;have q5:=none_of (s02.trans (s3.trans (s4.trans (s5.trans (s6.trans s7))))) htd;intro x hx;simp only [mem_cons,not_mem_nil,or_false] at hx;rcases hx with rfl | rfl | rfl | rfl | rfl <;> assumption
 obtain ⟨Pv,hPv⟩ : ∃ Pv:Nat->L2.St->Hp->Prop,Pv=fun m σ H'=>σ=[some (.ref a),some (.ref row),some (.ref wh),some (.ref todo),none]/\∃ s,AtM J.C_e J.C_c J.C_f J.C_b J.C_g H H' row la todo wh s/\Run s R m:=⟨_,rfl⟩;refine cp_ (b5_ Pv n0 (by rw [hPv];exact ⟨rfl,_,at0,hrun⟩) fun m σ H' hp=>?_);rw [hPv] at hp;obtain ⟨rfl,s,hat,hrn⟩:=hp;simp! [tRet];rcases hat.frames with ⟨hne,ss,own,hstk,htd',hnd,hfr⟩ | ⟨hnil,htd',wt,F,hres,htree⟩
 ·obtain ⟨fs,l',res⟩:=s
  cases fs with
  | nil=>exact absurd rfl hne
  | cons pf fs =>
  obtain ⟨n,ss1,ss2,own2,dxn,wln,pln,as',Fn,en,hf,hbel,ess,eown⟩:=hstk.top;have hss : ∃ st ss',ss=st::ss':=by
   have q:=hf.steps.length;rw [length_append,length_singleton] at q;cases ss1 with
   | nil=>simp at q
   | cons st ss1=>exact ⟨st,ss1++ss2,ess⟩
  obtain ⟨st,ss',rfl⟩:=hss;have htd2:H' todo=some (.lst (ss'.reverse.map V.ref++[.ref st])):=by
   rw [htd',reverse_cons,map_append];rfl
  refine ⟨true,.inl ⟨_,SqL.of htd2,by simp⟩,?_⟩;rw [if_pos rfl];refine ⟨_,fun _ _ z=>z,?_⟩;simp! [tBM0,rPop];refine ⟨.inl ⟨rfl,_,SqL.of htd2⟩,_,htd2,V.ref st,by simp,?_⟩;rw [dropLast_concat];have su:ai_ [todo] H' (upd H' todo (.lst (ss'.reverse.map V.ref))):=ai_.upd (mem_singleton.mpr rfl);have nt : ∀ x∈[todo],NT H' x:=fun x hx=>by rw [mem_singleton.mp hx];exact .lst htd2
  have hnd2:=hnd;simp only [nodup_cons,mem_cons,not_or] at hnd2;have hst : ∃ r,b8_ ⟨pf::fs,l',res⟩=some r/\(match r with
    | .error e=>R = .error e
    | .ok s'=>∃ m',m=m'+1/\Run s' R m'):=by
   cases hrn with
   | bad h=>exact ⟨_,h,rfl⟩
   | go h h2=>exact ⟨_,h,_,rfl,h2⟩
  obtain ⟨r,hr1,hr2⟩:=hst;refine ⟨row,la,todo,wh,st,H,⟨pf::fs,l',res⟩,ss',own,r,su.base hat.same (fun x hx=>by rw [mem_singleton.mp hx];exact hfr _ (by simp)),hat.rowAt.keep su nt (nin hnd2.1.1) (nin (Ne.symm hnd2.2.1.1)),hat.goods,hat.lv,hstk.keep (Kp.of su fun x hx=>nin fun z=>hnd2.2.1.2 (by rw [<- z];exact hx)),ad_,hnd,hfr,hr1,?_⟩;cases r with
  | error e =>
   have e1:R = .error e:=hr2;rw [e1] at hR;exact ExF.mono hR (su.base hat.same (fun x hx=>by rw [mem_singleton.mp hx];exact hfr _ (by simp)))
  | ok s' =>
  obtain ⟨m',e1,h2⟩:=hr2;intro H'' at'';refine ⟨m',by omega,?_⟩;rw [hPv];exact ⟨rfl,s',at'',h2⟩
 refine ⟨false,.inl ⟨_,SqL.of htd',rfl⟩,?_⟩;rw [if_neg (by simp)];obtain ⟨fs,l',res⟩:=s;have hnil:fs=[]:=hnil;have hres:res=[wt]:=hres;subst hnil hres;have e1:R = .ok wt:=by
  cases hrn with
  | done=>rfl
  | bad h=>cases h
  | go h h2=>cases h
 rw [e1] at hR;have hwb:WB (allW wt):=gH_ hrun ⟨fun pf hpf=>by rw [mem_singleton.mp hpf];exact ⟨show WB [] from fun _ q=>(by cases q),show WB [] from fun _ q=>(by cases q)⟩,bn_.sent (fun k hk=>(gts k hk).1) _,show WB [] from fun _ q=>(by cases q)⟩ wt e1;obtain ⟨x,tr,e,rfl,hrep,hdeep,hbl,hfin⟩:=hR;have hwx:WB (allX x):=by
  rw [j5_ hrep];exact (WB.app.mp (WB.app.mp hwb).2).1
 cases htree with
 | @mk _ dxn wl2 pl2 f ws b2 e2 as2 ps2 G t1 t2 t3 t4 =>
 cases t4 with
 | @cons ac tc F1 G1 as3 ts3 c1 c2 =>
 cases c2;simp! [tSeq,tFld,h7_,t1];have hlow:=kw_ (bh_ 1 tr) 0 (by omega) (fun p hp=>by have:=g8_ 1 tr p hp;omega);rw [dc_,sub_zero,zero_add,eq_] at hlow;refine ⟨T.cl_b,T.n_aB,_,rfl,_,rfl,_,SqL.of t3,_,rfl,ac,rfl,tr,_,c1,by rw [eq_];exact hbl,?_⟩;rw [hlow];by_cases h3:300<(cB_ tr).length
 ·rw [if_pos h3] at hfin ⊢
  exact ExF.mono hfin hat.same
 rw [if_neg h3] at hfin ⊢;intro H9 s9;exact hfin _ H9 (hat.same.trans s9) ⟨ac,tr,_,rfl,hrep,c1.same s9,by rw [eq_];omega,hdeep,hwx⟩
def PcAt (Cn:Addr) (H:Hp) (v:V):Pc Term->Prop
 | .inl w=>v = .str (S w)
 | .inr t=>∃ (a:Addr) (tr:Tr) (F:List Addr),v = .ref a/\Rep t tr/\TreeAt Cn H a tr F
def CtAt (Cn:Addr) (H H':Hp) (it:Addr) (c:SK×Pc Term):Prop:=∃ v,H' it=some (.tup [.str (ofString c.1.w),v])/\PcAt Cn H v c.2
theorem CtAt.keep {Cn:Addr}{H H1 H2:Hp}{xs:List Addr} (sx:ai_ xs H1 H2) (nt : ∀ x∈xs,∃ l,H1 x=some (.lst l)) {it:Addr}{c:SK×Pc Term} (h:CtAt Cn H H1 it c):CtAt Cn H H2 it c:=by
 obtain ⟨v,e,t⟩:=h;refine ⟨v,sx _ _ (fun m=>?_) e,t⟩;obtain ⟨l,q⟩:=nt _ m;rw [q] at e;cases e
def cE_ (Cn:Addr):Sp:=fun vs H Q _=>∃ (a:Addr) (x:Term) (tr:Tr) (F:List Addr) (H0:Hp),vs=[.ref a]/\Same H0 H/\Rep x tr/\TreeAt Cn H0 a tr F/\∀ (p:Addr) (its:List Addr) (H':Hp),H p=none->Same H H'->H' p=some (.lst (its.map V.ref))->Paired (CtAt Cn H0 H') its (au_ x)->Q (.ref p) H'
theorem lC_ {xs:List Term}{ts:List Tr} (h:Reps xs ts) {i:Nat}{x:Term} (e:xs[i]? = some x) : ∃ t,ts[i]? = some t/\Rep x t :=
 Reps.rec (motive_1:=fun _ _ _=>True) (motive_2:=fun xs ts _=>∀ (i:Nat) (x:Term),xs[i]? = some x->∃ t,ts[i]? = some t/\Rep x t) (fun _ _=>trivial) (fun i x h=>by simp at h) (fun h1 _ _ ih i x h=>by
  cases i with
  | zero=>cases h;exact ⟨_,rfl,h1⟩
  | succ i=>exact ih i x h) h i x e
theorem Reps.length {xs:List Term}{ts:List Tr} (h:Reps xs ts):xs.length=ts.length :=
 Reps.rec (motive_1:=fun _ _ _=>True) (motive_2:=fun xs ts _=>xs.length=ts.length) (fun _ _=>trivial) rfl (fun _ _ _ ih=>congrArg (· + 1) ih) h
theorem jB_ {Cn:Addr}{H:Hp}{as:List Addr}{ts:List Tr}{F:List Addr} (h:TreesAt Cn H as ts F) {i:Nat}{t:Tr} (e:ts[i]? = some t) : ∃ a G,as[i]? = some a/\TreeAt Cn H a t G :=
 TreesAt.rec (motive_1:=fun _ _ _ _=>True) (motive_2:=fun as ts _ _=>∀ (i:Nat) (t:Tr),ts[i]? = some t->∃ a G,as[i]? = some a/\TreeAt Cn H a t G) (fun _ _ _ _ _=>trivial) (fun i a h=>by simp at h) (fun h1 _ _ ih i a h=>by
  cases i with
  | zero=>cases h;exact ⟨_,_,rfl,h1⟩
  | succ i=>exact ih i a h) h i t e
theorem eW_ {A:Type}{l:List A}{i:Nat}{x:A}{r:List A} (h:l.drop i=x::r):l[i]? = some x/\l.drop (i+1)=r:=by
 constructor
 ·have:=List.getElem?_drop (xs:=l) (i:=i) (j:=0)
  rw [h] at this;exact this.symm
 rw [<- drop_drop,h];rfl
theorem g3_ {l:List (List Nat)}{i:Nat}{x:List Nat} (h:l[i]? = some x):((l.map S).map V.str)[i]? = some (.str (S x)):=by
 rw [getElem?_map,getElem?_map,h];rfl
theorem f7_ (x:Term):(au_ x).length<=5:=by
 rw [f6_];have : ∀ (ks:List SK) (ws:List (List Nat)) (ts:List Term),(ax_ ks ws ts).length<=ks.length:=by
  intro ks
  induction ks with
  | nil=>intro ws ts;simp [ax_]
  | cons k r ih =>
  intro ws ts;cases k with
  | p b =>
   cases ts with
   | nil=>simp [ax_]
   | cons t ts=>have:=ih ws ts;simp [ax_];omega
  | n =>
   cases ws with
   | nil=>simp [ax_]
   | cons t ws=>have:=ih ws ts;simp [ax_];omega
  | pw =>
  cases ws with
  | nil=>simp [ax_]
  | cons t ws=>have:=ih ws ts;simp [ax_];omega
 refine Nat.le_trans (this _ _ _) ?_;unfold skX;cases fmX x with
 | none=>exact zero_le _
 | some f=>cases f <;> decide
theorem bN_ {t u:TS}{D:Ends}{σ:L2.St}{H:Hp} (h:t { D with nx:=u D } σ H):tSeq t u D σ H:=h
theorem once {G A:Hp->Prop}{R:Prop} (u:(∀ H,A H->G H)->R) (t : ∀ H,A H->G H):R:=u t
theorem cJ_ {A B:Type}{R:A->B->Prop}{l:List A}{m:List B} (h:Paired R l m):Paired R l.reverse m.reverse:=by
 induction h with
 | nil=>exact .nil
 | cons r t ih =>
 rw [reverse_cons,reverse_cons];exact aR_ ih r
theorem ok_t (T:TX w K mg J):FnOk P w K mg base CX0 1 J.f_t J.d_t ["node"] (cE_ J.C_b):=by
 refine T.F_t.fn.ok sc_t fun _ _ _ _ H _ Q E hr h=>?_;obtain ⟨a,x,tr,F,H0,rfl,s0,hrep,htr,k⟩:=h;obtain ⟨ad,md,sq,tu⟩:=T.t_a;refine ⟨_,(ab_ (aA_ 1 sc_t.nd (aK_ ac_))
  (ab_ (aA_ 2 sc_t.nd ak_)
  (ab_ (dV_ PassesOwn.never rfl (oN_ (kj_ (pe_r T.g_a) (ah_ (pv 0) rfl) (dl_ ac_) ⟨rfl,rfl,rfl,rfl⟩)) (pg_q 3 sc_t.nd) (ae_ (aJ_ (al_ bq_ (pv 3) (pe_r T.g_aa) rfl) (ae_ (aE_ (bP_ pla sla tla aB_ (pv 1) (aa_ (dl_ (aa_ (pv 3) (aa_ (aY_ aN_ (ah_ (pv 0) rfl) (bf_ in_ (aD_ aP_ rfl T.b_len PySem.boot_len (aa_ (pv 1) ac_)) (pv 2)) (fun _ _=>rfl)) ac_))) ac_)))) (ab_ (aE_ (bP_ pla sla tla aB_ (pv 1) (aa_ (dl_ (aa_ (pv 3) (aa_ (aY_ aN_ (ah_ (pv 0) rfl) (pv 2) (fun _ _=>rfl)) ac_))) ac_)))
  (ae_ (mM_ (i:=2) sc_t.nd rfl (Or.inl rfl) ak_ mS_))))))
  (ae_ (an_ (pv 1)))))),?_⟩
 simp! [tSeq];refine ⟨zero_le _,fun fd hfd=>?_⟩;have s1:Same H (upd H fd (.lst [])):=Same.upd hfd;have e1:upd H fd (.lst []) fd=some (.lst []):=ad_;generalize upd H fd (.lst [])=H1 at s1 e1 ⊢;cases hrep with
 | @mk _ b e ps hps =>
 cases htr with
 | @mk _ dxn wl pl _ _ _ _ as _ G t1 t2 t3 t4 =>
 have s01:=s0.trans s1;have t1':=s01 _ _ t1;refine bc_ ?_;simp! [tSeq,jH_,tFld,t1'];refine ⟨_,md,T.cl_b,T.n_ay,_,rfl,zero_le _,fun p0 hp0=>?_⟩;have s2:Same H1 (upd H1 p0 (.tup [])):=Same.upd hp0;have e2:upd H1 p0 (.tup []) p0=some (.tup []):=ad_;generalize upd H1 p0 (.tup [])=H2 at s2 e2 ⊢;have e12:=s2 _ _ e1;have kinds : ∃ kt,(cg_ (br_ ad) (S (bs_ x))).getD (.ref p0) = .ref kt/\∀ H',ai_ [fd] H2 H'->SqT K H' kt ((skX x).map fun k=>V.str (ofString k.w)):=by
  unfold skX;cases hf:fmX x with
  | none =>
   refine ⟨p0,?_,fun H' sx=>SqT.of (sx _ _ (nin (be_ e2 e12 (by intro z;cases z))) e2)⟩;cases x with
   | leaf l =>
    have:=fq_ ad (Vaunid.txt (bK_ l));rw [hC_] at this;show (cg_ (br_ ad) (S (Vaunid.txt (bK_ l)))).getD (.ref p0)=_;cases q:cg_ (br_ ad) (S (Vaunid.txt (bK_ l))) with
    | none=>rfl
    | some v=>rw [q] at this;cases this
   | _=>cases hf
  | some f =>
  refine ⟨ad f,?_,fun H' _=>?_⟩
  ·rw [du_ hf,<- aI_,g4_]
   rfl
  have:=sq f H';rw [<- nk_,map_map,map_map] at this;exact this
 obtain ⟨kt,ekt,hkt⟩:=kinds;refine ⟨_,rfl,kt,ekt,⟨_,hkt _ fun _ _ _ q=>q⟩,?_⟩;obtain ⟨Pv,hPv⟩ : ∃ Pv:Nat->L2.St->Hp->Prop,Pv=fun i σ H3=>∃ (its:List Addr) (dl:List (SK×Pc Term)) (wi pi:Nat) (z:Option V),σ=[some (.ref a),some (.ref fd),some (.int (wi:Int)),z]/\ai_ [fd] H2 H3/\H3 fd=some (.lst (its.map V.ref))/\its.length=i/\i=wi+pi/\Paired (CtAt J.C_b H0 H3) its dl /\
  au_ x=dl++ax_ ((skX x).drop i) ((aj_ x).drop wi) ((ao_ x).drop pi)/\Fits ((skX x).drop i) ((aj_ x).drop wi) ((ao_ x).drop pi):=⟨_,rfl⟩
 refine n1_ (xs:=(skX x).map fun k=>V.str (ofString k.w)) Pv (by rw [hPv];exact ⟨[],[],0,0,none,rfl,fun _ _ _ q=>q,e12,rfl,rfl,.nil,f6_ x,n3_ x⟩) (fun i σ H3 _ q=>?_) (fun i v σ H3 hx q=>?_) fun σ H3 q=>?_
 ·rw [hPv] at q
  obtain ⟨its,dl,wi,pi,z,rfl,sx3,hfd3,_⟩:=q;exact hkt _ sx3
 ·rw [hPv] at q
  obtain ⟨its,dl,wi,pi,z,rfl,sx3,hfd3,hil,hwp,pd,hc,ft⟩:=q;rw [getElem?_map] at hx;cases qk:(skX x)[i]? with
  | none=>rw [qk] at hx;cases hx
  | some kk =>
  rw [qk] at hx;cases hx;obtain ⟨hlt,ek⟩:=List.getElem?_eq_some_iff.mp qk;have hd:(skX x).drop i=kk::(skX x).drop (i+1):=by rw [drop_eq_getElem_cons hlt,ek]
  rw [hd] at hc ft;have nfd : ∀ {b:Addr}{o:HO},H0 b=some o->H3 b=some o:=fun {b o} q=>sx3 _ _ (nin (af_ q (none_of s0 hfd))) (s2 _ _ (s01 _ _ q));have t1'':=nfd t1;have t2'':=nfd t2;have t3'':=nfd t3;have hfl:its.length<=1000:=by
   have:(skX x).length<=5:=by
    unfold skX;cases fmX x with
    | none=>exact zero_le _
    | some f=>cases f <;> decide
   omega
  have hsl:(its.map V.ref).length<sizeLine:=by rw [length_map];exact Nat.lt_of_le_of_lt hfl (by decide)
  have fin : ∀ (v:V) (pc:Pc Term) (wi' pi':Nat),PcAt J.C_b H0 v pc->au_ x=dl++(kk,pc)::ax_ ((skX x).drop (i+1)) ((aj_ x).drop wi') ((ao_ x).drop pi')->Fits ((skX x).drop (i+1)) ((aj_ x).drop wi') ((ao_ x).drop pi')->i+1=wi'+pi'->∀ q,H3 q=none ->
    ∃ acc,upd H3 q (.tup [.str (ofString kk.w),v]) fd=some (.lst acc)/\acc.length<sizeLine/\Pv (i+1) [some (.ref a),some (.ref fd),some (.int (wi':Int)),some (.str (ofString kk.w))] (upd (upd H3 q (.tup [.str (ofString kk.w),v])) fd (.lst (acc++[.ref q]))):=by
   intro v pc wi' pi' hv hc' ft' hw' q hq;have s4:Same H3 (upd H3 q (.tup [.str (ofString kk.w),v])):=Same.upd hq;have e4:upd H3 q (.tup [.str (ofString kk.w),v]) q=some (.tup [.str (ofString kk.w),v]):=ad_;generalize upd H3 q (.tup [.str (ofString kk.w),v])=H4 at s4 e4 ⊢;have hfd4:=s4 _ _ hfd3;have sx5:ai_ [fd] H4 (upd H4 fd (.lst (its.map V.ref++[.ref q]))):=ai_.upd (mem_singleton.mpr rfl);have nt5 : ∀ x∈[fd],∃ l,H4 x=some (.lst l):=fun x hx=>by rw [mem_singleton.mp hx];exact ⟨_,hfd4⟩
   refine ⟨_,hfd4,hsl,?_⟩;rw [hPv];refine ⟨its++[q],dl++[(kk,pc)],wi',pi',_,rfl,sx3.trans ((ai_.of s4).trans sx5),?_,?_,hw',aR_ (Paired.mapP pd fun _ _ z=>(z.keep (ai_.of (xs:=[]) s4) (by simp)).keep sx5 nt5) (CtAt.keep sx5 nt5 ⟨v,e4,hv⟩),?_,ft'⟩
   ·rw [ad_,map_append]
    rfl
   ·rw [length_append,hil]
    rfl
   rw [hc',append_assoc];rfl
  simp! [tSeq,dQ_,tBM,a4_,tFld,t1''];refine ⟨_,.inr (T.t_aa H3),rfl,rfl,?_⟩;cases kk with
  | p bb =>
   generalize hD:(ao_ x).drop pi=D at ft hc;cases ft with
   | @part _ _ _ t ts ft =>
   obtain ⟨hg,hg2⟩:=eW_ hD;obtain ⟨tt,htt,hrt⟩:=lC_ hps hg;obtain ⟨ac,Gc,hac,hct⟩:=jB_ t4 htt;have f1:=fin (.ref ac) (.inr t) wi (pi+1) ⟨ac,tt,Gc,rfl,hrt,hct⟩ (by rw [hc,hg2];rfl) (by rw [hg2];exact ft) (by omega);have e5:inV (V.str (ofString (SK.p bb).w)) [V.str (ofString "part"),V.str (ofString "body")]=true:=by
    rw [aI_,bg_,in_S,decide_eq_true (by cases bb <;> left)]
   rw [e5,if_pos rfl];refine ⟨.inl ⟨rfl,_,SqL.of hfd3⟩,T.cl_b,T.n_aB,_,rfl,_,.inl (SqL.of hfd3),_,rfl,_,SqL.of t3'',.ref ac,?_,by decide,f1⟩;rw [length_map,hil,show ((i:Nat):Int) - (wi:Int)=(pi:Int) by omega];exact bt_ (by rw [getElem?_map,hac];rfl)
  | n =>
   generalize hD:(aj_ x).drop wi=D at ft hc;cases ft with
   | @name _ wd ws _ ft =>
   obtain ⟨hg,hg2⟩:=eW_ hD;have f1:=fin (.str (S wd)) (.inl wd) (wi+1) pi rfl (by rw [hc,hg2];rfl) (by rw [hg2];exact ft) (by omega);have e5:inV (V.str (ofString SK.n.w)) [V.str (ofString "part"),V.str (ofString "body")]=false:=by
    rw [aI_,bg_,in_S,decide_eq_false (by left)]
   rw [e5,if_neg (by simp)];refine ⟨.inl ⟨rfl,_,SqL.of hfd3⟩,T.cl_b,T.n_ax,_,rfl,_,rfl,_,SqL.of t2'',.str (S wd),bt_ (g3_ hg),by decide,?_⟩;rw [show ((wi:Int)+1)=((wi+1:Nat):Int) by omega];exact f1
  | pw =>
  generalize hD:(aj_ x).drop wi=D at ft hc;cases ft with
  | @pow _ wd ws _ ft =>
  obtain ⟨hg,hg2⟩:=eW_ hD;have f1:=fin (.str (S wd)) (.inl wd) (wi+1) pi rfl (by rw [hc,hg2];rfl) (by rw [hg2];exact ft) (by omega);have e5:inV (V.str (ofString SK.pw.w)) [V.str (ofString "part"),V.str (ofString "body")]=false:=by
   rw [aI_,bg_,in_S,decide_eq_false (by left)]
  rw [e5,if_neg (by simp)];refine ⟨.inl ⟨rfl,_,SqL.of hfd3⟩,T.cl_b,T.n_ax,_,rfl,_,rfl,_,SqL.of t2'',.str (S wd),bt_ (g3_ hg),by decide,?_⟩;rw [show ((wi:Int)+1)=((wi+1:Nat):Int) by omega];exact f1
 rw [hPv] at q;obtain ⟨its,dl,wi,pi,z,rfl,sx3,hfd3,hil,hwp,pd,hc,ft⟩:=q;rw [length_map,drop_length] at hc;simp only [ax_,append_nil] at hc;simp! [tSeq];exact k fd its H3 hfd (sx3.base (s1.trans s2) fun x hx=>by rw [mem_singleton.mp hx];exact hfd) hfd3 (by rw [hc];exact pd)
def lu_ (Cn:Addr):Sp:=fun vs H Q _=>∃ (a:Addr) (x:Term) (tr:Tr) (F:List Addr) (H0:Hp),vs=[.ref a]/\Same H0 H/\Rep x tr/\TreeAt Cn H0 a tr F/\∀ (p:Addr) (us:List V) (H':Hp),H p=none->Same H H'->H' p=some (.lst us)->Paired (PcAt Cn H0) us (pcsX x)->Q (.ref p) H'
theorem gt_:[V.str "name",V.str "number"]=(([Vaunid.txt "name",Vaunid.txt "number"]).map S).map V.str:=by left
theorem lS_ (f:Fm) (c:List (Pc Term)):(c.foldl bu_ (pcs0 f)).length<=2+2 * c.length:=by
 have : ∀ (l acc:List (Pc Term)),(l.foldl bu_ acc).length<=acc.length+2 * l.length:=by
  intro l
  induction l with
  | nil=>intro acc;simp
  | cons y r ih =>
  intro acc;have h:=ih (bu_ acc y);have h2:(bu_ acc y).length<=acc.length+2:=by
   unfold bu_;split <;> simp
  rw [foldl_cons,length_cons];omega
 refine Nat.le_trans (this c _) ?_;have:(pcs0 (A:=Term) f).length<=2:=by
  unfold pcs0;split <;> simp
 omega
theorem ok_I (T:TX w K mg J):FnOk P w K mg base CX0 2 J.f_I J.d_I ["node"] (lu_ J.C_b):=by
 refine T.F_I.fn.ok sc_I fun _ _ _ _ H _ Q E hr h=>?_;obtain ⟨a,x,tr,F,H0,rfl,s0,hrep,htr,k⟩:=h;refine ⟨_,(ab_ (aJ_ (al_ bq_ (ah_ (pv 0) rfl) (pe_r T.g_au) rfl) (ae_ (an_ (aK_ (aa_ (aY_ aN_ (ah_ (pv 0) rfl) ak_ (fun _ _=>rfl)) ac_)))) ar_)
  (ab_ (aJ_ (al_ bq_ (ah_ (pv 0) rfl) (pe_r T.g_as) rfl) (ae_ (an_ (aK_ (aa_ (ah_ (pv 0) rfl) ac_)))) ar_)
  (ab_ (aA_ 1 sc_I.nd (aK_ (aa_ as_ ac_)))
  (ab_ (aJ_ (al_ iT_ (ah_ (pv 0) rfl) as_ (aw_ _)) (ae_ (aE_ (bP_ pla sla tla aB_ (pv 1) (aa_ (ah_ (pv 0) rfl) ac_)))) ar_)
  (ab_ (dV_ PassesOwn.never rfl (ht_ (aF_ T.F_t (ok_t T) hr.m aq_ (aa_ (pv 0) ac_))) (pg_q 2 sc_I.nd) (ab_ (aJ_ (al_ gO_ (aD_ aP_ rfl T.b_len PySem.boot_len (aa_ (pv 1) ac_)) ak_ (aw_ _)) (ae_ (aE_ (bP_ pla sla tla aB_ (pv 1) (aa_ as_ ac_)))) ar_)
  (ae_ (aE_ (bP_ pla sla tla aB_ (pv 1) (aa_ (aY_ bC_ (pv 2) ak_ (fun _ _=>rfl)) ac_))))))
  (ab_ (aE_ (bP_ pla sla tla aB_ (pv 1) (aa_ as_ ac_)))
  (ae_ (an_ (pv 1))))))))),?_⟩
 have hrep':=hrep;have htr':=htr;cases hrep with
 | @mk _ b e ps hps =>
 cases htr with
 | @mk _ dxn wl pl _ _ _ _ as _ G t1 t2 t3 t4 =>
 have t1':=s0 _ _ t1;have t2':=s0 _ _ t2;refine bN_ ?_;simp! [tFld,t1'];refine ⟨T.cl_b,T.n_ay,_,rfl,_,.inr (T.t_au H),rfl,rfl,?_⟩;rw [gt_,in_S];cases hf:fmX x with
 | none =>
  cases x with
  | leaf l =>
   have k' : ∀ (wd:List Nat),wd=shownLeaf l->∀ p,H p=none->Q (.ref p) (upd H p (.lst [.str (S wd)])):=fun wd e p hp=>k p _ _ hp (Same.upd hp) ad_ (.cons (by rw [e];rfl) .nil);have plain : ¬ bs_ (.leaf l)∈[Vaunid.txt "name",Vaunid.txt "number"]->bs_ (.leaf l)∈[Vaunid.txt "true",Vaunid.txt "false",Vaunid.txt "nil"]/\bs_ (.leaf l)=shownLeaf l:=by
    intro hn;cases l with
    | name y=>exact absurd (show Vaunid.txt "name"∈_ by simp) hn
    | num v=>exact absurd (show Vaunid.txt "number"∈_ by simp) hn
    | truth b=>cases b <;> exact ⟨by simp [bs_,bK_],rfl⟩
    | nil=>exact ⟨by simp [bs_,bK_],rfl⟩
   by_cases hsp:bs_ (.leaf l)∈[Vaunid.txt "name",Vaunid.txt "number"]
   ·rw [decide_eq_true hsp,if_pos rfl]
    have hw : ∃ wd,aj_ (.leaf l)=[wd]/\wd=shownLeaf l:=by
     cases l with
     | name y=>exact ⟨y,rfl,rfl⟩
     | num v=>exact ⟨_,rfl,rfl⟩
     | truth b=>cases b <;> exact absurd hsp (by left)
     | nil=>exact absurd hsp (by left)
    obtain ⟨wd,hw1,hw2⟩:=hw;rw [hw1] at t2';exact ⟨T.cl_b,T.n_ax,_,rfl,_,rfl,_,SqL.of t2',.str (S wd),rfl,by decide,k' wd hw2⟩
   obtain ⟨p1,p2⟩:=plain hsp;rw [decide_eq_false hsp,if_neg (by simp)];refine bN_ ?_;simp! [tFld,t1'];refine ⟨T.cl_b,T.n_ay,_,rfl,_,.inr (T.t_as H),rfl,rfl,?_⟩;rw [dJ_,in_S,decide_eq_true p1,if_pos rfl];exact ⟨T.cl_b,T.n_ay,_,rfl,by decide,k' _ p2⟩
  | _=>cases hf
 | some f =>
 have ef:=du_ hf;have hno : ∀ f:Fm,¬ Vaunid.txt f.word∈[Vaunid.txt "name",Vaunid.txt "number"]/\¬ Vaunid.txt f.word∈[Vaunid.txt "true",Vaunid.txt "false",Vaunid.txt "nil"]/\(Vaunid.txt f.word=Vaunid.txt "apply"↔f = .app):=by
  intro f;cases f <;> left
 rw [ef,decide_eq_false (hno f).1,if_neg (by simp)];refine bN_ ?_;simp! [tFld,t1'];refine ⟨T.cl_b,T.n_ay,_,rfl,_,.inr (T.t_as H),rfl,rfl,?_⟩;rw [ef,dJ_,in_S,decide_eq_false (hno f).2.1,if_neg (by simp)];refine bN_ ?_;simp! [tRet];refine ⟨by decide,fun p hp=>?_⟩;have s1:Same H (upd H p (.lst [.str (ofString "(")])):=Same.upd hp;have e1:upd H p (.lst [.str (ofString "(")]) p=some (.lst [.str (ofString "(")]):=ad_;generalize upd H p (.lst [.str (ofString "(")])=H1 at s1 e1 ⊢;have t11:=s1 _ _ t1';rw [ef] at t11;have epc:pcsX x=((au_ x).map (·.2)).foldl bu_ (pcs0 f)++[.inl [41]]:=by
  unfold pcsX;rw [hf]
 refine bM_ (fun σ' H2=>σ'=[some (.ref a),some (.ref p),none]/\∃ us0:List V,ai_ [p] H H2/\H2 p=some (.lst us0)/\Paired (PcAt J.C_b H0) us0 (pcs0 f)) (fun X hX=>?_) (fun σ' H2 hh=>?_)
 ·simp! [tFld,t11,tBM,a4_]
  refine ⟨T.cl_b,T.n_ay,_,rfl,rfl,?_⟩;by_cases happ:f = .app
  ·rw [if_neg (by subst happ;decide)]
   exact hX _ _ ⟨rfl,_,ai_.of s1,e1,by subst happ;exact .cons (by rw [aI_];rfl) .nil⟩
  rw [if_pos (by simp only [V.str.injEq,S_eq,Bool.not_eq_true',decide_eq_false_iff_not];exact fun z=>happ ((hno f).2.2.mp z))];refine ⟨.inl ⟨rfl,_,SqL.of e1⟩,T.cl_b,T.n_ay,_,rfl,_,e1,by decide,?_⟩;refine hX _ _ ⟨rfl,_,?_,ad_,?_⟩
  ·exact (ai_.of s1).trans (ai_.upd (mem_singleton.mpr rfl))
  unfold pcs0;rw [if_neg happ];exact .cons (by rw [aI_];rfl) (.cons rfl .nil)
 clear s1 e1 t11;clear H1;obtain ⟨rfl,us0,sx1,e1,pc0⟩:=hh
 rename Hp=>H1
 refine bN_ ?_;have sH:Same H H1:=sx1.base (Same.refl _) fun y hy=>by rw [mem_singleton.mp hy];exact hp
 refine bc_ ?_;simp! [cE_];refine ⟨x,_,_,H0,s0.trans sH,hrep',htr',fun c its H2 hc s2 ec pits=>?_⟩;have ncp:c≠p:=fun z=>by rw [z,e1] at hc;cases hc
 have e2:=s2 _ _ e1;refine ⟨⟨_,SqL.of ec⟩,?_⟩;obtain ⟨Pv,hPv⟩ : ∃ Pv:Nat->L2.St->Hp->Prop,Pv=fun i σ H3=>∃ (us:List V) (z:Option V),σ=[some (.ref a),some (.ref p),z]/\ai_ [p] H2 H3/\H3 p=some (.lst us)/\Paired (PcAt J.C_b H0) us ((((au_ x).take i).map (·.2)).foldl bu_ (pcs0 f)):=⟨_,rfl⟩;have lens : ∀ (i:Nat) (us:List V),Paired (PcAt J.C_b H0) us ((((au_ x).take i).map (·.2)).foldl bu_ (pcs0 f))->us.length<=20:=fun i us q=>by
  have q1:=Paired.length q;have q2:=lS_ f (((au_ x).take i).map (·.2));have q3:=f7_ x;rw [length_map,length_take] at q2;omega
 have small : ∀ n:Nat,n<=30->n<sizeLine:=fun n h=>Nat.lt_of_le_of_lt h (by decide);refine fp_ (its.map V.ref) Pv (by rw [hPv];exact ⟨us0,none,rfl,fun _ _ _ q=>q,e2,pc0⟩) (fun i σ H3 _ q=>?_) (fun i v σ H3 hx q=>?_) fun σ H3 q=>?_
 ·rw [hPv] at q
  obtain ⟨us,z,rfl,sx3,hp3,pd⟩:=q;exact SqL.of (sx3 _ _ (nin ncp) ec)
 ·rw [hPv] at q
  obtain ⟨us,z,rfl,sx3,hp3,pd⟩:=q;rw [getElem?_map] at hx;cases qi:its[i]? with
  | none=>rw [qi] at hx;cases hx
  | some it =>
  rw [qi] at hx;cases hx;obtain ⟨⟨kk,pc⟩,hd,cv,hit,hpc⟩:=cK_ pits qi;have hit3:=sx3 _ _ (nin (be_ hit e2 (by intro z;cases z))) hit;have hul:=lens i us pd;have hpl:=Paired.length pd;have enext:(((au_ x).take (i+1)).map (·.2)).foldl bu_ (pcs0 f)=bu_ ((((au_ x).take i).map (·.2)).foldl bu_ (pcs0 f)) pc:=by
   rw [take_succ,hd,Option.toList_some,map_append,List.foldl_append];rfl
  generalize (((au_ x).take i).map (·.2)).foldl bu_ (pcs0 f)=accp at pd enext hpl;simp! [tSeq,dQ_,tBM,a4_];refine ⟨_,.inl (SqL.of hp3),ite2 (fun h1=>?_) fun h1=>?_⟩
  ·refine ⟨(show tyV K "list" (.ref p) _ from .inl ⟨rfl,_,SqL.of hp3⟩),_,hp3,small _ (by omega),?_⟩
   have sx4:ai_ [p] H3 (upd H3 p (.lst (us++[V.str (ofString " ")]))):=ai_.upd (mem_singleton.mpr rfl);have e4:upd H3 p (.lst (us++[V.str (ofString " ")])) p=some (.lst (us++[V.str (ofString " ")])):=ad_;generalize upd H3 p (.lst (us++[V.str (ofString " ")]))=H4 at sx4 e4 ⊢;have hit4:=sx4 _ _ (nin (be_ hit e2 (by intro z;cases z))) hit3;refine ⟨(show tyV K "list" (.ref p) _ from .inl ⟨rfl,_,SqL.of e4⟩),_,SqT.of hit4,cv,rfl,_,rfl,small _ (by rw [length_append];show us.length+1<=30;omega),?_⟩;rw [hPv];refine ⟨_,_,rfl,sx3.trans (ai_.upd (mem_singleton.mpr rfl)),ad_,?_⟩;rw [enext];unfold bu_;rw [if_pos (by omega)];exact aR_ (aR_ pd (by rw [aI_];rfl)) hpc
  refine ⟨(show tyV K "list" (.ref p) _ from .inl ⟨rfl,_,SqL.of hp3⟩),_,SqT.of hit3,cv,rfl,_,hp3,small _ (by omega),?_⟩;rw [hPv];refine ⟨_,_,rfl,sx3.trans (ai_.upd (mem_singleton.mpr rfl)),ad_,?_⟩;rw [enext];unfold bu_;rw [if_neg (by omega)];exact aR_ pd hpc
 rw [hPv] at q;obtain ⟨us,z,rfl,sx3,hp3,pd⟩:=q;have hul:=lens _ us pd;have hpl:its.length=(au_ x).length:=Paired.length pits;rw [length_map,hpl,take_length] at pd;dsimp only;refine bN_ ?_;simp! [tBM,a4_];refine ⟨(show tyV K "list" (.ref p) _ from .inl ⟨rfl,_,SqL.of hp3⟩),_,hp3,small _ (by omega),?_⟩;refine k p _ _ hp ?_ ad_ (by rw [epc];exact aR_ pd (by rw [aI_];rfl));exact (sx3.trans (ai_.upd (mem_singleton.mpr rfl))).base (sH.trans s2) fun y hy=>by rw [mem_singleton.mp hy];exact hp
def PcI {A:Type} (It:A->V->Hp->Prop) (H:Hp) (v:V):Pc A->Prop
 | .inl w=>v = .str (S w)
 | .inr a=>It a v H
structure Unf (P:Program) (w:World) (K:Frag) (mg:zM) (base:Heap) (H:Hp) (f:Addr) {A:Type} (It:A->V->Hp->Prop) (pcs:A->List (Pc A)):Prop where
 keep : ∀ a v H1 H2 xs,It a v H1->ai_ xs H1 H2->(∀ x∈xs,∃ l,H1 x=some (.lst l))->It a v H2
 ns : ∀ a v H1,It a v H1->Same H H1->∃ t,TyOf K H1 v t/\kitOne K t (.type "str")=some false
 fn : ∃ fd ps sp,FnOk P w K mg base CX0 10 f fd ps sp/\bb_ K fd ps []/\keepIn K (.ref f)=true /\
  ∀ a v H1 Q E,It a v H1->Same H H1->(∀ (p:Addr) (us:List V) (H2:Hp),H1 p=none->Same H1 H2->H2 p=some (.lst us)->Paired (PcI It H2) us (pcs a)->Q (.ref p) H2)->sp [v] H1 Q E
theorem PcI.keep {P:Program}{w:World}{K:Frag}{mg:zM}{base:Heap}{H:Hp}{f:Addr}{A:Type}{It:A->V->Hp->Prop}{pcs:A->List (Pc A)} (U:Unf P w K mg base H f It pcs) {H1 H2:Hp}{xs:List Addr} (sx:ai_ xs H1 H2) (nt : ∀ x∈xs,∃ l,H1 x=some (.lst l)) {v:V}{c:Pc A} (h:PcI It H1 v c):PcI It H2 v c:=by
 cases c with
 | inl w=>exact h
 | inr a=>exact U.keep a v H1 H2 xs h sx nt
def ox_ (P:Program) (w:World) (K:Frag) (mg:zM) (base:Heap):Sp:=fun vs H Q _=>∃ (v:V) (f:Addr) (A:Type) (It:A->V->Hp->Prop) (pcs:A->List (Pc A)) (tx:A->List Nat) (cost:A->Nat) (a0:A),vs=[v,.ref f]/\Unf P w K mg base H f It pcs/\It a0 v H /\
 (∀ a,tx a=pcsT tx (pcs a))/\(∀ a,1+pcsC cost (pcs a)<=cost a)/\cost a0<=1000000/\(tx a0).length<=16777216/\∀ H',Same H H'->Q (.str (S (tx a0))) H'
theorem cI_ {A:Type} (c:A->Nat) (l m:List (Pc A)):pcsC c (l++m)=pcsC c l+pcsC c m:=by
 unfold pcsC;rw [map_append,List.sum_append]
theorem fQ_ {A:Type} (c:A->Nat) : ∀ l:List (Pc A),pcsC c l.reverse=pcsC c l
 | []=>rfl
 | x::r=>by
  rw [reverse_cons,cI_,fQ_ c r];unfold pcsC;simp;omega
theorem ik_ {A:Type} (c:A->List Nat) (l m:List (Pc A)):pcsT c (l++m)=pcsT c l++pcsT c m:=by
 unfold pcsT;rw [List.flatMap_append]
theorem fR_ {A:Type}{c:A->Nat} (h : ∀ a,1<=c a) : ∀ l:List (Pc A),l.length<=pcsC c l
 | []=>Nat.le_refl _
 | x::r=>by
  have ih:=fR_ h r;have hx:1<=pcC c x:=by
   cases x with
   | inl w=>exact Nat.le_refl _
   | inr a=>exact h a
  unfold pcsC at ih ⊢;rw [map_cons,sum_cons,length_cons];omega
theorem gW_ : ∀ l:List (List Nat),dO_ [] l=l.flatten
 | []=>rfl
 | [c]=>by
  show c=c++[];rw [append_nil]
 | c::d::r=>by
  have ih:=gW_ (d::r);show c++([]++dO_ [] (d::r))=_;rw [ih];rfl
theorem h5_ : ∀ l:List (List Nat),((l.map S).map (·.length)).sum=l.flatten.length
 | []=>rfl
 | c::r=>by
  rw [map_cons,map_cons,sum_cons,h5_ r,flatten_cons,length_append,a5_]
theorem ok_H (T:TX w K mg J):FnOk P w K mg base CX0 11 J.f_H J.d_H ["whole","pieces_of"] (ox_ P w K mg base):=by
 refine T.F_H.fn.ok sc_H fun _ _ _ _ H _ Q E hr h=>?_;obtain ⟨v0,f,B,It,pcs,tx,cost,a0,rfl,U,hit,htx,hco,hc0,hlen,k⟩:=h;obtain ⟨fdf,psf,spf,Ff,Bf,Kf,Hf⟩:=U.fn;refine ⟨_,(ab_ (aA_ 2 sc_H.nd (aK_ ac_))
  (ab_ (aA_ 3 sc_H.nd (aK_ (aa_ (pv 0) ac_)))
  (ab_ (bI_ PassesOwn.never (dk_ (pv 3) (fun _=>rfl)) (ab_ (aA_ 4 sc_H.nd (gL_ pla slp tlp gQ_ (pv 3)))
  (ae_ (aJ_ (cU_ (lN_ (pv 4) rfl T.b_isinstance rfl T.b_str)) (ae_ (aE_ (bP_ pla sla tla aB_ (pv 2) (aa_ (pv 4) ac_)))) (ae_ (dV_ PassesOwn.never rfl (b9_ rfl T.b_reversed (aa_ (ca_ (CX:=CX0) (k:=10) 1 hr.m aq_ (aa_ (pv 4) ac_)) ac_)) (pg_q 5 sc_H.nd) (ae_ (aE_ (bP_ pla sla tla aB_ (pv 3) (aa_ (pv 5) ac_))))))))))
  (ae_ (an_ (kg_ as_ (pv 2))))))),?_⟩
 simp! [tSeq];refine ⟨zero_le _,fun sh hsh=>⟨by decide,fun td htd=>?_⟩⟩;have nst:sh≠td:=fun z=>by rw [<- z,ad_] at htd;cases htd
 have htd0:H td=none:=by rw [am_ (Ne.symm nst)] at htd;exact htd
 have hcp : ∀ a,1<=cost a:=fun a=>by have:=hco a;omega
 obtain ⟨Pv,hPv⟩ : ∃ Pv:Nat->L2.St->Hp->Prop,Pv=fun m σ H'=>Same H H'/\∃ (dn:List (List Nat)) (sk:List (Pc B)) (us:List V) (z1 z2:Option V),m=pcsC cost sk/\σ=[some v0,some (.ref f),some (.ref sh),some (.ref td),z1,z2]/\H' sh=some (.lst ((dn.map S).map V.str))/\H' td=some (.lst us) /\
  Paired (PcI It H') us sk/\tx a0=dn.flatten++pcsT tx sk.reverse/\dn.length+pcsC cost sk<=cost a0:=⟨_,rfl⟩
 refine b5_ Pv _ (by
  rw [hPv];refine ⟨?_,[],[.inr a0],[v0],none,none,rfl,rfl,?_,ad_,.cons ?_ .nil,?_,?_⟩
  ·exact (Same.upd hsh).trans (Same.upd htd)
  ·rw [am_ nst]
   exact ad_
  ·exact U.keep a0 v0 H _ [] hit (ai_.of ((Same.upd hsh).trans (Same.upd htd))) (by simp)
  ·show tx a0=[]++(tx a0++[])
   rw [append_nil];rfl
  show 0+(cost a0+0)<=_;omega) fun m σ H' hp=>?_
 rw [hPv] at hp;obtain ⟨sm,dn,sk,us,z1,z2,rfl,rfl,hs,ht,ps,htxt,hcost⟩:=hp;simp! [tSeq];have hun:us.length=sk.length:=Paired.length ps;by_cases hsk:us=[]
 ·subst hsk
  cases ps;refine ⟨false,.inl ⟨_,SqL.of ht,rfl⟩,?_⟩;rw [if_neg (by simp)];rw [show ([]:List (Pc B)).reverse=[] from rfl,show pcsT tx []=[] from rfl,append_nil] at htxt;refine ⟨dn.map S,.inl (SqL.of hs),?_,?_⟩
  ·rw [h5_,<- htxt,length_map]
   show (tx a0).length+dn.length * 0<=16777216;omega
  have e1:Txt.join (ofString "") (dn.map S)=S (tx a0):=by
   refine ci_ ?_;rw [kB_,fE_,map_map,htxt];have e2:dn.map (tl ∘ S)=dn:=by
    have:(tl ∘ S)=id:=by funext l;rfl
    rw [this,List.map_id]
   rw [e2];exact gW_ _
  rw [e1];exact k H' sm
 refine ⟨true,.inl ⟨_,SqL.of ht,by cases us with | nil=>exact absurd rfl hsk | cons _ _=>rfl⟩,?_⟩;rw [if_pos rfl];refine ⟨_,fun _ _ z=>z,?_⟩;obtain ⟨us',u,sk',c,rfl,rfl,ps',hu⟩:=c0_ ps hsk;rw [reverse_append,ik_] at htxt;rw [cI_] at hcost;have hl2:sk'.length<=pcsC cost sk':=fR_ hcp sk';have hl3:us'.length=sk'.length:=Paired.length ps';simp! [tSeq,tBM0,rPop,tBM,a4_,mw_];refine ⟨.inl ⟨rfl,_,SqL.of ht⟩,_,ht,u,by simp,?_⟩;rw [dropLast_concat];have sx1:ai_ [td] H' (upd H' td (.lst us')):=ai_.upd (mem_singleton.mpr rfl);have e1:upd H' td (.lst us') td=some (.lst us'):=ad_;have hlt : ∀ x∈[td],∃ l,H' x=some (.lst l):=fun x hx=>by rw [mem_singleton.mp hx];exact ⟨_,ht⟩
 generalize upd H' td (.lst us')=H1 at sx1 e1 ⊢;have sm1:Same H H1:=sx1.base sm fun x hx=>by rw [mem_singleton.mp hx];exact htd0
 have hs1:=sx1 _ _ (nin nst) hs;have ps1:Paired (PcI It H1) us' sk':=Paired.mapP ps' fun _ _ q=>q.keep U sx1 hlt;have hu1:PcI It H1 u c:=hu.keep U sx1 hlt;cases c with
 | inl wd =>
  have hu2:u = .str (S wd):=hu1;subst hu2;refine ⟨_,.str _,true,rfl,?_⟩;rw [if_pos rfl];have ec:pcsC cost [(Sum.inl wd:Pc B)]=1:=rfl;rw [ec] at hcost;refine ⟨.inl ⟨rfl,_,SqL.of hs1⟩,_,hs1,?_,pcsC cost sk',?_,?_⟩
  ·rw [length_map,length_map]
   exact Nat.lt_of_le_of_lt (show _<=1000000 by omega) (by decide)
  ·rw [cI_,ec]
   omega
  rw [hPv];have sx2:ai_ [sh] H1 (upd H1 sh (.lst ((dn.map S).map V.str++[V.str (S wd)]))):=ai_.upd (mem_singleton.mpr rfl);have hlt2 : ∀ x∈[sh],∃ l,H1 x=some (.lst l):=fun x hx=>by rw [mem_singleton.mp hx];exact ⟨_,hs1⟩
  refine ⟨sx2.base sm1 (fun x hx=>by rw [mem_singleton.mp hx];exact hsh),dn++[wd],sk',us',_,_,rfl,rfl,?_,sx2 _ _ (nin (Ne.symm nst)) e1,Paired.mapP ps1 fun _ _ q=>q.keep U sx2 hlt2,?_,?_⟩
  ·rw [ad_,map_append,map_append]
   rfl
  ·rw [htxt,List.flatten_append,append_assoc]
   show _++(pcsT tx [Sum.inl wd]++_)=_;rw [show pcsT tx [(Sum.inl wd:Pc B)]=wd++[] from rfl];simp
  rw [length_append];show dn.length+1+_<=_;omega
 | inr b =>
 obtain ⟨ty,hty,hk⟩:=U.ns b u H1 hu1 sm1;refine ⟨ty,hty,false,hk,?_⟩;rw [if_neg (by simp)];refine bc_ ?_;simp! [tSeq,ex_,iRev];refine ⟨fdf,psf,spf,Ff,Bf,Kf,Hf b u H1 _ _ hu1 sm1 fun p qs H2 hp s2 e2 pq=>⟨p,rfl,qs,SqL.of e2,?_⟩⟩;have hlc:=hco b;have hlq:qs.length=(pcs b).length:=Paired.length pq;have hlp:=fR_ hcp (pcs b);have ec:pcsC cost [Sum.inr b]=cost b:=by show cost b+0=_;omega
 rw [ec] at hcost;have e12:=s2 _ _ e1;have hs2:=s2 _ _ hs1;have ntp:p≠td:=fun z=>by rw [z,e1] at hp;cases hp
 refine ds_ qs (fun i σ H3=>(∃ z2,σ=[some v0,some (.ref f),some (.ref sh),some (.ref td),some u,z2])/\ai_ [td] H2 H3/\H3 td=some (.lst (us'++qs.reverse.take i)))
  ⟨⟨_,rfl⟩,fun _ _ _ q=>q,by rw [List.take_zero,append_nil];exact e12⟩ (fun i σ H3 _ q=>SqL.of (q.2.1 _ _ (nin ntp) e2)) (fun i x σ H3 hx q=>?_) fun σ H3 q=>?_
 ·obtain ⟨⟨z3,rfl⟩,sx3,h3⟩:=q
  have hil:=(List.getElem?_eq_some_iff.mp hx).1;rw [length_reverse] at hil;simp! [tSeq,dQ_,tBM,a4_];refine ⟨.inl ⟨rfl,_,SqL.of h3⟩,_,h3,?_,sx3.trans (ai_.upd (mem_singleton.mpr rfl)),?_⟩
  ·rw [length_append,length_take,length_reverse]
   exact Nat.lt_of_le_of_lt (show _<=2000000 by omega) (by decide)
  rw [take_succ,hx,append_assoc];rfl
 obtain ⟨⟨z3,rfl⟩,sx3,h3⟩:=q;rw [<- length_reverse (as:=qs),take_length] at h3;have nt3 : ∀ x∈[td],∃ l,H2 x=some (.lst l):=fun x hx=>by rw [mem_singleton.mp hx];exact ⟨_,e12⟩
 refine ⟨pcsC cost (sk'++(pcs b).reverse),?_,?_⟩
 ·rw [cI_,cI_,fQ_,ec]
  omega
 rw [hPv];refine ⟨sx3.base (sm1.trans s2) (fun x hx=>by rw [mem_singleton.mp hx];exact htd0),dn,_,us'++qs.reverse,_,_,rfl,rfl,sx3 _ _ (nin nst) hs2,h3,?_,?_,?_⟩
 ·refine dK_ (Paired.mapP ps1 fun _ _ q=>((q.keep U (ai_.of (xs:=[]) s2) (by simp)).keep U sx3 nt3)) ?_
  exact Paired.mapP (cJ_ pq) fun _ _ q=>q.keep U sx3 nt3
 ·rw [htxt,reverse_append,reverse_reverse,ik_]
  show _++(pcsT tx [Sum.inr b]++_)=_;rw [show pcsT tx [Sum.inr b]=tx b++[] from rfl,append_nil,htx b]
 rw [cI_,fQ_];omega
def FIt (Cn:Addr) (K:Frag) (H H':Hp) (it:Addr) (i:FI):Prop:=∃ (n:Addr) (tr:Tr) (F:List Addr) (bt:Addr),H' it=some (.tup [.ref n,.ref bt])/\Rep i.1 tr/\TreeAt Cn H n tr F/\SqT K H' bt ((i.2.map S).map V.str)/\i.2.length+2 * szX i.1<=600
theorem FIt.keep {Cn:Addr}{K:Frag}{H H1 H2:Hp}{xs:List Addr} (sx:ai_ xs H1 H2) (nt : ∀ x∈xs,Mut H1 x) {it:Addr}{i:FI} (h:FIt Cn K H H1 it i):FIt Cn K H H2 it i:=by
 obtain ⟨n,tr,F,bt,e,r,t,b,l⟩:=h;refine ⟨n,tr,F,bt,sx _ _ (fun m=>?_) e,r,t,SqT.keepX b sx nt,l⟩;rcases nt _ m with ⟨q,z⟩ | ⟨q,z⟩ <;> (rw [z] at e;cases e)
def mD_ (Cn:Addr):Sp:=fun vs H Q _=>∃ (a:Addr) (x:Term) (tr:Tr) (F:List Addr),vs=[.ref a]/\Rep x tr/\TreeAt Cn H a tr F/\szX x<=300/\∀ (p:Addr) (H':Hp),Same H H'->H' p=some (.lst (((Vaunid.free x).map S).map V.str))->Q (.ref p) H'
theorem flat_strs : ∀ l:List (List Nat),((l.map S).map V.str).all e6_=true
 | []=>rfl
 | _::r=>flat_strs r
theorem k8_ (x:Term) (bb:Bool) (wd:List Nat) : ¬ (SK.p bb,(Sum.inl wd:Pc Term))∈au_ x:=by
 rw [f6_];have : ∀ (ks:List SK) (ws:List (List Nat)) (ts:List Term),¬ (SK.p bb,(Sum.inl wd:Pc Term))∈ax_ ks ws ts:=by
  intro ks
  induction ks with
  | nil=>intro ws ts;simp [ax_]
  | cons k r ih =>
  intro ws ts;cases k with
  | p b=>cases ts with | nil=>simp [ax_] | cons t ts=>simp [ax_,ih]
  | n=>cases ws with | nil=>simp [ax_] | cons t ws=>simp [ax_,ih]
  | pw=>cases ws with | nil=>simp [ax_] | cons t ws=>simp [ax_,ih]
 exact this _ _ _
theorem ok_y (T:TX w K mg J):FnOk P w K mg base CX0 2 J.f_y J.d_y ["term"] (mD_ J.C_b):=by
 refine T.F_y.fn.ok sc_y fun _ _ _ _ H _ Q E hr h=>?_;obtain ⟨a,x,tr,F,rfl,hrep,htr,hsz,k⟩:=h;refine ⟨_,(ab_ (aA_ 1 sc_y.nd ii_)
  (ab_ (aA_ 2 sc_y.nd (aK_ (aa_ (dl_ (aa_ (pv 0) (aa_ (dl_ ac_) ac_))) ac_)))
  (ab_ (bI_ PassesOwn.never (dk_ (pv 2) (fun _=>rfl)) (ab_ (aA_ 3 sc_y.nd (gL_ pla slp tlp gQ_ (pv 2)))
  (ab_ (aA_ 4 sc_y.nd (aY_ bC_ (pv 3) ak_ (fun _ _=>rfl)))
  (ab_ (aA_ 5 sc_y.nd (aY_ bC_ (pv 3) ak_ (fun _ _=>rfl)))
  (ab_ (aJ_ (PW.pt (pw_and (al_ bB_ (ah_ (pv 4) rfl) as_ (aw_ _)) (pw_and1 (al_ cq_ (aY_ aN_ (ah_ (pv 4) rfl) ak_ (fun _ _=>rfl)) (pv 5) rfl)))) (ae_ (j7_ hr.u1 (pv 1) (aY_ aN_ (ah_ (pv 4) rfl) ak_ (fun _ _=>rfl)) iS_ rfl)) ar_)
  (ae_ (dV_ PassesOwn.never rfl (b9_ rfl T.b_reversed (aa_ (aF_ T.F_t (ok_t T) hr.m aq_ (aa_ (pv 4) ac_)) ac_)) (pg_q 6 sc_y.nd) (ae_ (aJ_ (al_ bB_ (aY_ bC_ (pv 6) ak_ (fun _ _=>rfl)) as_ (aw_ _)) (ae_ (aE_ (bP_ pla sla tla aB_ (pv 2) (aa_ (dl_ (aa_ (aY_ bC_ (pv 6) ak_ (fun _ _=>rfl)) (aa_ (pv 5) ac_))) ac_)))) (ae_ (aJ_ (al_ bB_ (aY_ bC_ (pv 6) ak_ (fun _ _=>rfl)) as_ (aw_ _)) (ae_ (aE_ (bP_ pla sla tla aB_ (pv 2) (aa_ (dl_ (aa_ (aY_ bC_ (pv 6) ak_ (fun _ _=>rfl)) (aa_ (bf_ nD_ (pv 5) (a8_ f9_ rfl T.b_tuple hS_ (aa_ (ah_ (pv 4) rfl) ac_))) ac_))) ac_)))) ar_)))))))))))
  (ae_ (an_ (a8_ (jp_ rfl) rfl T.b_list jr_ (aa_ (pv 1) ac_))))))),?_⟩
 refine bN_ ?_;simp! [jG_];intro fd hfd;refine bN_ ?_;simp! [tRet];refine ⟨zero_le _,fun p0 hp0=>⟨by decide,fun it0 hit0=>⟨by decide,fun td htd=>?_⟩⟩⟩;have s1:Same H (upd H fd (.dK [])):=Same.upd hfd;have e1:upd H fd (.dK []) fd=some (.dK []):=ad_;generalize upd H fd (.dK [])=H1 at s1 e1 hp0 hit0 htd ⊢;have s2:Same H1 (upd H1 p0 (.tup [])):=Same.upd hp0;have e2:upd H1 p0 (.tup []) p0=some (.tup []):=ad_;generalize upd H1 p0 (.tup [])=H2 at s2 e2 hit0 htd ⊢;have s3:Same H2 (upd H2 it0 (.tup [.ref a,.ref p0])):=Same.upd hit0;have e3:upd H2 it0 (.tup [.ref a,.ref p0]) it0=some (.tup [.ref a,.ref p0]):=ad_;generalize upd H2 it0 (.tup [.ref a,.ref p0])=H3 at s3 e3 htd ⊢;have s4:Same H3 (upd H3 td (.lst [.ref it0])):=Same.upd htd;have e4:upd H3 td (.lst [.ref it0]) td=some (.lst [.ref it0]):=ad_;generalize upd H3 td (.lst [.ref it0])=H4 at s4 e4 ⊢;have s04:Same H H4:=s1.trans (s2.trans (s3.trans s4));have f4:H4 fd=some (.dK (dk [])):=s4 _ _ (s3 _ _ (s2 _ _ e1));have nft:fd≠td:=be_ f4 e4 (by intro z;cases z);have htd0:H td=none:=none_of (s1.trans (s2.trans s3)) htd;obtain ⟨Pv,hPv⟩ : ∃ Pv:Nat->L2.St->Hp->Prop,Pv=fun m σ H'=>Same H H'/\∃ (got:List (List Nat)) (sk:List FI) (its:List Addr) (z1 z2 z3 z4:Option V),m=szF sk/\σ=[some (.ref a),some (.ref fd),some (.ref td),z1,z2,z3,z4]/\H' fd=some (.dK (dk got))/\H' td=some (.lst (its.map V.ref)) /\
  Paired (FIt J.C_b K H H') its sk/\b1_ [] (Vaunid.freeIn [] x)=b1_ got (dr_ sk.reverse)/\got.length+szF sk<=300:=⟨_,rfl⟩
 refine bN_ (b5_ Pv _ (by
  rw [hPv];refine ⟨s04,[],[(x,[])],[it0],none,none,none,none,rfl,rfl,f4,e4,.cons ⟨a,tr,F,p0,s4 _ _ e3,hrep,htr,SqT.of (s4 _ _ (s3 _ _ e2)),by show 0+2 * szX x<=600;omega⟩ .nil,?_,by show 0+(szX x+0)<=300;omega⟩;show _=b1_ [] (Vaunid.freeIn [] x++[]);rw [append_nil]) fun m σ H' hp=>?_)
 rw [hPv] at hp;obtain ⟨sm,got,sk,its,z1,z2,z3,z4,rfl,rfl,hf,ht,ps,hfr,hco⟩:=hp;simp! [tRet];by_cases hsk:its=[]
 ·subst hsk
  cases ps;refine ⟨false,.inl ⟨_,SqL.of ht,rfl⟩,?_⟩;rw [if_neg (by simp)];rw [List.reverse_nil,show dr_ []=[] from rfl] at hfr;refine ⟨_,hf,fun l hl=>k l _ (sm.trans (Same.upd hl)) ?_⟩;have e5:Vaunid.free x=got:=by rw [kP_,hfr];rfl
  rw [ad_,e5];unfold dk;rw [map_map,map_map];rfl
 refine ⟨true,.inl ⟨_,SqL.of ht,by cases its with | nil=>exact absurd rfl hsk | cons _ _=>rfl⟩,?_⟩;rw [if_pos rfl];refine ⟨_,fun _ _ z=>z,?_⟩;obtain ⟨its',it,sk',⟨t,b⟩,rfl,rfl,ps',hit⟩:=c0_ ps hsk;rw [ey_] at hco;rw [reverse_append] at hfr;have hl2:=jJ_ sk';have hl3:its'.length=sk'.length:=Paired.length ps';have ht':H' td=some (.lst (its'.map V.ref++[.ref it])):=by rw [ht,map_append];rfl
 refine bM_ (fun σ' H2=>σ'=[some (.ref a),some (.ref fd),some (.ref td),some (.ref it),z2,z3,z4]/\H2=upd H' td (.lst (its'.map V.ref))) (fun X hX=>?_) (fun σ' H2 hh=>?_)
 ·simp! [tBM0,rPop]
  refine ⟨.inl ⟨rfl,_,SqL.of ht⟩,_,ht',V.ref it,by simp,?_⟩;rw [dropLast_concat];exact hX _ _ ⟨rfl,rfl⟩
 obtain ⟨rfl,rfl⟩:=hh;obtain ⟨n,tn,Fn,bt,hitv,hrn,htn,hbt,hbl⟩:=hit;have sx5:ai_ [td] H' (upd H' td (.lst (its'.map V.ref))):=ai_.upd (mem_singleton.mpr rfl);have e5:upd H' td (.lst (its'.map V.ref)) td=some (.lst (its'.map V.ref)):=ad_;have mu5 : ∀ x∈[td],Mut H' x:=fun x hx=>by rw [mem_singleton.mp hx];exact .inl ⟨_,ht⟩
 generalize upd H' td (.lst (its'.map V.ref))=H5 at sx5 e5 ⊢;have sm5:Same H H5:=sx5.base sm fun x hx=>by rw [mem_singleton.mp hx];exact htd0
 have hit5:=sx5 _ _ (nin (be_ hitv ht (by intro z;cases z))) hitv;have hbt5:SqT K H5 bt ((b.map S).map V.str):=SqT.keepX hbt sx5 mu5;have hf5:=sx5 _ _ (nin nft) hf;have ps5:Paired (FIt J.C_b K H H5) its' sk':=Paired.mapP ps' fun _ _ q=>q.keep sx5 mu5;refine bN_ ?_;simp! [tRet];refine ⟨_,SqT.of hit5,.ref n,rfl,?_⟩;refine bN_ ?_;simp! [tRet];refine ⟨_,SqT.of hit5,.ref bt,rfl,?_⟩;have hbl':b.length+2 * szX t<=600:=hbl;have hbt':SqT K H' bt ((b.map S).map V.str):=hbt;have hrn':=hrn;have htn':=htn;cases hrn with
 | @mk _ b0 e0 ps0 hps =>
 cases htn with
 | @mk _ dxn wl pl _ _ _ _ as _ G t1 t2 t3 t4 =>
 have t15:=sm5 _ _ t1;have t25:=sm5 _ _ t2;have hfr':b1_ [] (Vaunid.freeIn [] x)=b1_ got (Vaunid.freeIn b t++dr_ sk'.reverse):=hfr;have hco':got.length+(szF sk'+(szX t+0))<=300:=hco;have dec:(bs_ t=Vaunid.txt "name"/\∃ y,t = .leaf (.name y)/\¬ y∈b)\/(bs_ t=Vaunid.txt "name"/\∃ y,t = .leaf (.name y)/\y∈b)\/(¬ bs_ t=Vaunid.txt "name"/\∀ y,¬ t = .leaf (.name y)):=by
  cases q:fmX t with
  | none =>
   cases t with
   | leaf l =>
    cases l with
    | name y =>
     by_cases hy:y∈b
     ·exact .inr (.inl ⟨rfl,y,rfl,hy⟩)
     exact .inl ⟨rfl,y,rfl,hy⟩
    | num v=>exact .inr (.inr ⟨by show ¬ Vaunid.txt "number"=_;left,fun y z=>by cases z⟩)
    | truth c=>exact .inr (.inr ⟨by cases c <;> left,fun y z=>by cases z⟩)
    | nil=>exact .inr (.inr ⟨by left,fun y z=>by cases z⟩)
   | _=>cases q
  | some f =>
  refine .inr (.inr ⟨?_,fun y z=>?_⟩)
  ·rw [du_ q]
   cases f <;> left
  rw [z] at q;cases q
 refine bM_ (fun σ' H6=>σ'=[some (.ref a),some (.ref fd),some (.ref td),some (.ref it),some (.ref n),some (.ref bt),z4]/\∃ got6:List (List Nat),ai_ [fd] H5 H6/\H6 fd=some (.dK (dk got6))/\got6.length<=got.length+1/\b1_ [] (Vaunid.freeIn [] x)=b1_ got6 (dr_ (fis b t)++dr_ sk'.reverse)) (fun X hX=>?_) (fun σ' H6 hh=>?_)
 ·simp! [tFld,t15,nq_]
  refine ⟨T.cl_b,T.n_ay,_,rfl,rfl,?_⟩;rcases dec with ⟨h1,y,h2,hy⟩ | ⟨h1,y,h2,hy⟩ | ⟨h1,h2⟩
  ·rw [if_pos (by rw [h1,aI_])]
   refine ⟨T.cl_b,T.n_ax,_,rfl,_,rfl,_,SqL.of t25,.str (S y),by rw [h2];rfl,_,.inr hbt5,rfl,flat_strs _,?_⟩;rw [in_S,decide_eq_false hy,if_pos (show (!false)=true from rfl)];refine ⟨T.cl_b,T.n_ax,_,rfl,_,rfl,_,SqL.of t25,.str (S y),by rw [h2];rfl,_,DPut.k (k:=Sum.inr (S y)) hf5 (by unfold dk;rw [length_map];exact Nat.lt_of_le_of_lt (show _<=300 by omega) (by decide)),?_⟩;rw [ph_];have sx6:ai_ [fd] H5 (upd H5 fd (.dK (dk (insO got y)))):=ai_.upd (mem_singleton.mpr rfl);have hf6:upd H5 fd (.dK (dk (insO got y))) fd=some (.dK (dk (insO got y))):=ad_;generalize upd H5 fd (.dK (dk (insO got y)))=H6 at sx6 hf6 ⊢;refine hX _ _ ⟨rfl,_,sx6,hf6,kF_ got y,?_⟩;rw [hfr',h2];have:Vaunid.freeIn b (.leaf (.name y))=[y]:=by
    unfold Vaunid.freeIn;rw [dd_,decide_eq_false hy];rfl
   rw [this];rfl
  ·rw [if_pos (by rw [h1,aI_])]
   refine ⟨T.cl_b,T.n_ax,_,rfl,_,rfl,_,SqL.of t25,.str (S y),by rw [h2];rfl,_,.inr hbt5,rfl,flat_strs _,?_⟩;rw [in_S,decide_eq_true hy,if_neg (by simp)];refine hX _ _ ⟨rfl,_,fun _ _ _ q=>q,hf5,le_succ _,?_⟩;rw [hfr',h2];have:Vaunid.freeIn b (.leaf (.name y))=[]:=by
    unfold Vaunid.freeIn;rw [dd_,decide_eq_true hy];rfl
   rw [this];rfl
  rw [if_neg (by rw [aI_];simp only [V.str.injEq,ce_];exact h1)];exact hX _ _ ⟨rfl,_,fun _ _ _ q=>q,hf5,le_succ _,by rw [hfr',hH_ t b h2]⟩
 obtain ⟨rfl,got6,sx6,hf6,hgl,hfr6⟩:=hh;have mu6 : ∀ x∈[fd],Mut H5 x:=fun x hx=>by rw [mem_singleton.mp hx];exact .inr ⟨_,hf5⟩
 have sm6:Same H H6:=sx6.base sm5 fun x hx=>by rw [mem_singleton.mp hx];exact hfd
 have e6:=sx6 _ _ (nin (Ne.symm nft)) e5;have ps6:Paired (FIt J.C_b K H H6) its' sk':=Paired.mapP ps5 fun _ _ q=>q.keep sx6 mu6;have hbt6:=SqT.keepX hbt5 sx6 mu6;refine bc_ ?_;simp! [cE_,iRev];refine ⟨t,_,_,H,sm6,hrn',htn',fun c cts H7 hc s7 ec pc=>⟨_,SqL.of ec,?_⟩⟩;have e7:=s7 _ _ e6;have hbt7:=SqT.keepX hbt6 (ai_.of (xs:=[]) s7) (by simp);have ps7:Paired (FIt J.C_b K H H7) its' sk':=Paired.mapP ps6 fun _ _ q=>q.keep (ai_.of (xs:=[]) s7) (by simp);have hf7:=s7 _ _ hf6;have sm7:=sm6.trans s7;have nct:c≠td:=fun z=>by rw [z,e6] at hc;cases hc
 have pcr:=cJ_ pc;have hcl:cts.length=(au_ t).length:=Paired.length pc;have hc5:=f7_ t;obtain ⟨Pw,hPw⟩ : ∃ Pw:Nat->L2.St->Hp->Prop,Pw=fun i σ H8=>(∃ z,σ=[some (.ref a),some (.ref fd),some (.ref td),some (.ref it),some (.ref n),some (.ref bt),z])/\ai_ [td] H7 H8/\∃ nw,H8 td=some (.lst ((its'++nw).map V.ref))/\nw.length<=i/\Paired (FIt J.C_b K H H8) nw (((au_ t).reverse.take i).filterMap (fiOf b (aj_ t))):=⟨_,rfl⟩;refine ds_ (cts.map V.ref) Pw (by rw [hPw];exact ⟨⟨_,rfl⟩,fun _ _ _ q=>q,[],by rw [append_nil];exact e7,Nat.le_refl _,.nil⟩) (fun i σ H8 _ q=>?_) (fun i v σ H8 hx q=>?_) fun σ H8 q=>?_
 ·rw [hPw] at q
  exact SqL.of (q.2.1 _ _ (nin nct) ec)
 ·rw [hPw] at q
  obtain ⟨⟨z,rfl⟩,sx8,nw,hnw,hnl,pnw⟩:=q;rw [<- map_reverse,getElem?_map] at hx;cases qi:cts.reverse[i]? with
  | none=>rw [qi] at hx;cases hx
  | some ct =>
  rw [qi] at hx;cases hx;have hil:=(List.getElem?_eq_some_iff.mp qi).1;rw [length_reverse] at hil;obtain ⟨⟨kk,pv⟩,hd,cv,hct,hpc⟩:=cK_ pcr qi;have hmem:(kk,pv)∈au_ t:=by
   have:=mem_of_getElem? hd;rwa [List.mem_reverse] at this
  have mu8 : ∀ x∈[td],Mut H7 x:=fun x hx=>by rw [mem_singleton.mp hx];exact .inl ⟨_,e7⟩
  have hct8:=sx8 _ _ (nin (be_ hct e7 (by intro z;cases z))) hct;have hbt8:=SqT.keepX hbt7 sx8 mu8;have enext:((au_ t).reverse.take (i+1)).filterMap (fiOf b (aj_ t))=((au_ t).reverse.take i).filterMap (fiOf b (aj_ t))++(match fiOf b (aj_ t) (kk,pv) with | none=>[] | some f=>[f]):=by
   rw [take_succ,hd,List.filterMap_append,Option.toList_some];cases q:fiOf b (aj_ t) (kk,pv) <;> simp [filterMap_cons,q]
  have hlt:((its'++nw).map V.ref).length<sizeLine:=by
   rw [length_map,length_append];exact Nat.lt_of_le_of_lt (show _<=1000 by omega) (by decide)
  have skip:fiOf b (aj_ t) (kk,pv)=none->Pw (i+1) [some (.ref a),some (.ref fd),some (.ref td),some (.ref it),some (.ref n),some (.ref bt),some (.ref ct)] H8:=fun e=>by
   rw [hPw];refine ⟨⟨_,rfl⟩,sx8,nw,hnw,by omega,?_⟩;rw [enext,e,append_nil];exact pnw
  have fin : ∀ (t':Term) (b':List (List Nat)) (ac bt':Addr) (tr':Tr) (F':List Addr) (H9:Hp),fiOf b (aj_ t) (kk,pv)=some (t',b')->Rep t' tr'->TreeAt J.C_b H ac tr' F'->Same H8 H9->SqT K H9 bt' ((b'.map S).map V.str)->b'.length+2 * szX t'<=600->∀ q,H9 q=none ->
    ∃ acc,upd H9 q (.tup [.ref ac,.ref bt']) td=some (.lst acc)/\acc.length<sizeLine/\Pw (i+1) [some (.ref a),some (.ref fd),some (.ref td),some (.ref it),some (.ref n),some (.ref bt),some (.ref ct)] (upd (upd H9 q (.tup [.ref ac,.ref bt'])) td (.lst (acc++[.ref q]))):=by
   intro t' b' ac bt' tr' F' H9 hfi hr' ht' s9 hb' hl' q hq;have s10:Same H9 (upd H9 q (.tup [.ref ac,.ref bt'])):=Same.upd hq;have e10:upd H9 q (.tup [.ref ac,.ref bt']) q=some (.tup [.ref ac,.ref bt']):=ad_;generalize upd H9 q (.tup [.ref ac,.ref bt'])=H10 at s10 e10 ⊢;have h10:=s10 _ _ (s9 _ _ hnw);have sx11:ai_ [td] H10 (upd H10 td (.lst ((its'++nw).map V.ref++[.ref q]))):=ai_.upd (mem_singleton.mpr rfl);have mu10 : ∀ x∈[td],Mut H10 x:=fun x hx=>by rw [mem_singleton.mp hx];exact .inl ⟨_,h10⟩
   refine ⟨_,h10,hlt,?_⟩;rw [hPw];refine ⟨⟨_,rfl⟩,sx8.trans ((ai_.of (s9.trans s10)).trans sx11),nw++[q],?_,by rw [length_append];show nw.length+1<=_;omega,?_⟩
   ·rw [ad_,<- append_assoc,map_append (l₁:=its'++nw)]
    rfl
   rw [enext,hfi];exact aR_ (Paired.mapP pnw fun _ _ z=>(z.keep (ai_.of (xs:=[]) (s9.trans s10)) (by simp)).keep sx11 mu10) (FIt.keep sx11 mu10 ⟨ac,tr',F',bt',e10,hr',ht',SqT.keepX hb' (ai_.of (xs:=[]) s10) (by simp),hl'⟩)
  simp! [dQ_,nc_,tBM,a4_,tFld,oK_];refine ⟨_,SqT.of hct8,_,rfl,rfl,?_⟩;cases kk with
  | n =>
   rw [if_neg (by simp only [V.str.injEq];left)];refine ⟨_,SqT.of hct8,_,rfl,rfl,?_⟩;rw [if_neg (by simp only [V.str.injEq];left)];exact skip rfl
  | pw =>
   rw [if_neg (by simp only [V.str.injEq];left)];refine ⟨_,SqT.of hct8,_,rfl,rfl,?_⟩;rw [if_neg (by simp only [V.str.injEq];left)];exact skip rfl
  | p bb =>
  cases pv with
  | inl wd=>exact absurd hmem (k8_ t bb wd)
  | inr t' =>
  have hsz':=n8_ hmem;obtain ⟨ac,tr',F',hcv,hr',ht'⟩:=hpc;subst hcv;cases bb with
  | false =>
   have f1:=fin t' b ac bt tr' F' H8 rfl hr' ht' (Same.refl _) hbt8 (by omega);rw [if_pos (by rfl)];exact ⟨.inl ⟨rfl,_,SqL.of hnw⟩,_,SqT.of hct8,_,rfl,by decide,f1⟩
  | true =>
  have hw2:=gf_ (x:=t);rw [if_neg (by simp only [V.str.injEq];left)];refine ⟨_,SqT.of hct8,_,rfl,rfl,?_⟩;rw [if_pos (by rfl)];have nn:n≠td:=fun z=>by rw [z] at t1;rw [htd0] at t1;cases t1
  have nw':wl≠td:=fun z=>by rw [z] at t2;rw [htd0] at t2;cases t2
  have t18:=sx8 _ _ (nin nn) (sm7 _ _ t1);have t28:=sx8 _ _ (nin nw') (sm7 _ _ t2);refine ⟨.inl ⟨rfl,_,SqL.of hnw⟩,_,SqT.of hct8,_,rfl,_,_,_,t18,T.cl_b,T.n_ax,_,rfl,_,rfl,_,.inl ⟨SqL.of t28,fun l hl=>?_⟩⟩;have s9:Same H8 (upd H8 l (.tup (((aj_ t).map S).map V.str))):=Same.upd hl;have e9:upd H8 l (.tup (((aj_ t).map S).map V.str)) l=some (.tup (((aj_ t).map S).map V.str)):=ad_;generalize upd H8 l (.tup (((aj_ t).map S).map V.str))=H9 at s9 e9 ⊢;refine ⟨_,SqT.keepX hbt8 (ai_.of (xs:=[]) s9) (by simp),_,SqT.of e9,?_,fun p H10 s10 h10=>⟨by decide,?_⟩⟩
  ·simp only [length_map]
   exact Nat.le_trans (show _<=1000 by omega) (by decide)
  exact fin t' (b++aj_ t) ac p tr' F' H10 rfl hr' ht' (s9.trans s10) (by rw [map_append,map_append];exact h10) (by rw [length_append];omega)
 rw [hPw] at q;obtain ⟨⟨z,rfl⟩,sx8,nw,hnw,hnl,pnw⟩:=q;have mu8 : ∀ x∈[td],Mut H7 x:=fun x hx=>by rw [mem_singleton.mp hx];exact .inl ⟨_,e7⟩
 rw [length_map,hcl,<- length_reverse (as:=au_ t),take_length,List.filterMap_reverse] at pnw;have hsf:=ne_ t b;refine ⟨szF (sk'++(fis b t).reverse),?_,?_⟩
 ·rw [ey_,ey_,hl_]
  show _<szF sk'+(szX t+0);omega
 rw [hPv];refine ⟨sx8.base sm7 (fun x hx=>by rw [mem_singleton.mp hx];exact htd0),_,sk'++(fis b t).reverse,its'++nw,_,_,_,_,rfl,rfl,sx8 _ _ (nin nft) hf7,hnw,dK_ (Paired.mapP ps7 fun _ _ q=>q.keep sx8 mu8) pnw,?_,?_⟩
 ·rw [hfr6,reverse_append,reverse_reverse]
  unfold dr_;rw [List.flatMap_append]
 rw [ey_,hl_];omega
theorem aH_ : ∀ (x:Term) (b:List (List Nat)),(Vaunid.freeIn b x).length<=szX x
 | .leaf (.name z),b=>by
  unfold Vaunid.freeIn;split <;> simp [szX]
 | .leaf (.num _),b=>by simp [Vaunid.freeIn]
 | .leaf (.truth _),b=>by simp [Vaunid.freeIn]
 | .leaf .nil,b=>by simp [Vaunid.freeIn]
 | .one _ a,b=>by have:=aH_ a b;simp only [Vaunid.freeIn,szX];omega
 | .two _ a c,b=>by have:=aH_ a b;have:=aH_ c b;simp only [Vaunid.freeIn,szX,length_append];omega
 | .three _ a c d,b=>by have:=aH_ a b;have:=aH_ c b;have:=aH_ d b;simp only [Vaunid.freeIn,szX,length_append];omega
 | .fn x a,b=>by have:=aH_ a (x::b);simp only [Vaunid.freeIn,szX];omega
 | .rec_ f x a,b=>by have:=aH_ a (x::f::b);simp only [Vaunid.freeIn,szX];omega
 | .let_ x a c,b=>by have:=aH_ a b;have:=aH_ c (x::b);simp only [Vaunid.freeIn,szX,length_append];omega
 | .case l a hh t c,b=>by have:=aH_ l b;have:=aH_ a b;have:=aH_ c (t::hh::b);simp only [Vaunid.freeIn,szX,length_append];omega
theorem g0_ : ∀ (l g:List (List Nat)),(b1_ g l).length<=g.length+l.length/\∀ y∈b1_ g l,y∈g\/y∈l
 | [],g=>⟨Nat.le_refl _,fun y h => .inl h⟩
 | x::r,g=>by
  obtain ⟨h1,h2⟩:=g0_ r (insO g x);have h3:=kF_ g x;refine ⟨by show (b1_ (insO g x) r).length<=_;rw [length_cons];omega,fun y hy=>?_⟩;rcases h2 y hy with h | h
  ·unfold insO at h
   split at h
   ·exact .inl h
   rcases mem_append.mp h with h | h
   ·exact .inl h
   exact .inr (mem_cons.mpr (.inl (mem_singleton.mp h)))
  exact .inr (mem_cons_of_mem _ h)
theorem iA_ (x:Term):(Vaunid.free x).length<=szX x:=by
 rw [kP_];have h:=(g0_ (Vaunid.freeIn [] x) []).1;have h2:=aH_ x [];rw [length_nil] at h;omega
theorem dF_ {t u:TS}{D:Ends}{σ:L2.St}{H:Hp} (h:t { D with nx:=u D } σ H):tSeq t u D σ H:=h
def DEnv (kv:List (Key×V)) (env:RE):Prop:=∀ x:List Nat,valV kv (Sum.inr (S x))=(env.find? fun p=>p.1 == x).map fun p=>V.str (S p.2)
theorem DEnv.nil:DEnv [] []:=fun _=>rfl
theorem DEnv.put {kv:List (Key×V)}{env:RE} (h:DEnv kv env) (x v:List Nat):DEnv (putK kv (Sum.inr (S x)) (V.str (S v))) ((x,v)::env):=fun z=>by
 rw [lm_,find?_cons];by_cases q:z=x
 ·subst q
  rw [if_pos rfl];simp
 rw [if_neg (by simp only [Sum.inr.injEq,ce_];exact q),h z];have:(x == z)=false:=by simpa using fun e=>q e.symm
 rw [this]
theorem lF_ (kv:List (Key×V)) (k:Key) (v:V):(putK kv k v).length<=kv.length+1:=by
 unfold putK;split
 ·rw [length_map];omega
 rw [length_append];exact Nat.le_refl _
def unFs (k:Str) (c:V) (o d:Addr):List (Str×V):=[("kind",.str k),("content",c),("owner",.ref o),("renamed",.ref d)]
def frFs (aw:Addr) (i:Int):List (Str×V):=[("away",.ref aw),("tried",.int i)]
def wk:SK×Pc Term->Bool
 | (.p _,.inl _)=>false
 | (.n,.inr _)=>false
 | (.pw,.inr _)=>false
 | _=>true
theorem n7_ (x:Term) : ∀ c∈au_ x,wk c=true:=by
 rw [f6_];have : ∀ (ks:List SK) (ws:List (List Nat)) (ts:List Term),∀ c∈ax_ ks ws ts,wk c=true:=by
  intro ks
  induction ks with
  | nil=>intro ws ts;simp [ax_]
  | cons k r ih =>
  intro ws ts c m;cases k with
  | p b=>cases ts with | nil=>simp [ax_] at m | cons t ts=>rcases mem_cons.mp m with rfl | m;rfl;exact ih _ _ c m
  | n=>cases ws with | nil=>simp [ax_] at m | cons t ws=>rcases mem_cons.mp m with rfl | m;rfl;exact ih _ _ c m
  | pw=>cases ws with | nil=>simp [ax_] at m | cons t ws=>rcases mem_cons.mp m with rfl | m;rfl;exact ih _ _ c m
 exact this _ _ _
def ItAt (Cn Cu:Addr) (H0 H:Hp) (n od id:Addr) (it:Addr) (c:SK×Pc Term):Prop:=∃ dx v,H it=some (.ins Cu dx (unFs (ofString c.1.w) v n (if c.1 = .p false then od else id)))/\PcAt Cn H0 v c.2/\wk c=true
def Chg (H:Hp) (x:Addr):Prop:=(∃ l,H x=some (.lst l))\/(∃ kv,H x=some (.dK kv))\/∃ C dx aw i,H x=some (.ins C dx (frFs aw i))
theorem om_ {k:Str}{c:V}{o d aw:Addr}{i:Int}:unFs k c o d≠frFs aw i:=fun h=>by
 have:=congrArg (List.map Prod.fst) h;have q:([("kind":Str),"content","owner","renamed"]:List Str)=[("away":Str),"tried"]:=this;exact absurd q (by left)
theorem ItAt.keep {Cn Cu:Addr}{H0 H H':Hp}{n od id:Addr}{xs:List Addr} (sx:ai_ xs H H') (ch : ∀ x∈xs,Chg H x) {it:Addr}{c:SK×Pc Term} (h:ItAt Cn Cu H0 H n od id it c):ItAt Cn Cu H0 H' n od id it c:=by
 obtain ⟨dx,v,e,p⟩:=h;refine ⟨dx,v,sx _ _ (fun m=>?_) e,p⟩;rcases ch _ m with ⟨l,q⟩ | ⟨l,q⟩ | ⟨_,_,_,_,q⟩
 ·rw [q] at e;cases e
 ·rw [q] at e;cases e
 rw [q] at e;injection e with e;injection e with _ _ e;exact om_ e.symm
structure RF where
 form:List Nat
 y:Term
 nw:List (List Nat)
 env:RE
 wi:RE
 ws:List (List Nat)
 ts:List Term
 rest:List (SK×Pc Term)
def RF.ok (f:RF) (new:List (List Nat)) (ts:List Term):Prop:=goF f.env f.rest f.wi new f.ws ts=(aj_ f.y,ao_ f.y,f.nw)
def mr_ (tgt:Term):List RF->Term->List (List Nat)->Prop
 | [],y,_=>y=tgt
 | g::gs,y,nw=>g.ok nw (g.ts++[y])/\(gs≠[]->g.form=bs_ g.y)/\mr_ tgt gs g.y g.nw
structure RFAt (Cn Cu:Addr) (H0 H:Hp) (f:RF) (n:Addr) (next its:List Addr) (wl pl od id:Addr) (F:List Addr):Prop where
 node : ∃ dx b e,H n=some (.ins Cn dx (a9_ (S f.form) wl pl ((b:Nat):Int) ((e:Nat):Int)))
 words:H wl=some (.lst ((f.ws.map S).map V.str))
 parts : ∃ as trs,H pl=some (.lst ((as++next).map V.ref))/\TreesAt Cn H as trs F/\Reps f.ts trs
 items:Paired (ItAt Cn Cu H0 H n od id) its f.rest
theorem RFAt.keep {Cn Cu:Addr}{H0 H H':Hp}{f:RF}{n:Addr}{next its:List Addr}{wl pl od id:Addr}{F:List Addr} (h:RFAt Cn Cu H0 H f n next its wl pl od id F) {xs:List Addr} (sx:ai_ xs H H') (ch : ∀ x∈xs,Chg H x) (d : ∀ a∈n::wl::pl::F,a∉xs):RFAt Cn Cu H0 H' f n next its wl pl od id F:=by
 obtain ⟨⟨dx,b,e,h1⟩,h2,⟨as,trs,h3,h4,h5⟩,h6⟩:=h;exact ⟨⟨dx,b,e,sx _ _ (d n (by simp)) h1⟩,sx _ _ (d wl (by simp)) h2,⟨as,trs,sx _ _ (d pl (by simp)) h3,h4.keep fun a m o q=>sx _ _ (d a (by simp [m])) q,h5⟩,Paired.mapP h6 fun _ _ q=>q.keep sx ch⟩
inductive RStk (Cn Cu:Addr) (H0 H:Hp) (wh:Addr):List RF->List Addr->List Addr->List Addr->List (Addr×RE)->Prop
 | bot {f:RF}{next its:List Addr}{wl pl rd:Addr}{F:List Addr}:RFAt Cn Cu H0 H f wh next its wl pl rd rd F->(∀ c∈f.rest,c.1≠SK.n)->f.env=[]->f.wi=[]->RStk Cn Cu H0 H wh [f] next its (wh::wl::pl::F) [(rd,[])]
 | cons {f g:RF}{fs:List RF}{n:Addr}{next its its2 own:List Addr}{wl pl od id:Addr}{F:List Addr}{ds:List (Addr×RE)}:RFAt Cn Cu H0 H f n next its wl pl od id F->(od,f.env)∈ds->RStk Cn Cu H0 H wh (g::fs) [n] its2 own ds->RStk Cn Cu H0 H wh (f::g::fs) next (its++its2) ((n::wl::pl::F)++own) ((id,f.wi)::ds)
theorem RStk.keep {Cn Cu:Addr}{H0 H H':Hp}{wh:Addr}{xs:List Addr} (sx:ai_ xs H H') (ch : ∀ x∈xs,Chg H x) {fs:List RF}{next its own:List Addr}{ds:List (Addr×RE)} (h:RStk Cn Cu H0 H wh fs next its own ds) (d : ∀ a∈own,a∉xs):RStk Cn Cu H0 H' wh fs next its own ds:=by
 induction h with
 | bot h a b c=>exact .bot (h.keep sx ch d) a b c
 | cons h m t ih=>exact .cons (h.keep sx ch fun a q=>d a (mem_append_left _ q)) m (ih fun a q=>d a (mem_append_right _ q))
theorem RFAt.here {Cn Cu:Addr}{H0 H:Hp}{f:RF}{n:Addr}{next its:List Addr}{wl pl od id:Addr}{F:List Addr} (h:RFAt Cn Cu H0 H f n next its wl pl od id F) : ∀ a∈n::wl::pl::F,∃ o,H a=some o:=fun a m=>by
 obtain ⟨⟨dx,b,e,h1⟩,h2,⟨as,trs,h3,h4,h5⟩,h6⟩:=h;rcases mem_cons.mp m with q | m
 ·exact ⟨_,q ▸ h1⟩
 rcases mem_cons.mp m with q | m
 ·exact ⟨_,q ▸ h2⟩
 rcases mem_cons.mp m with q | m
 ·exact ⟨_,q ▸ h3⟩
 exact h4.here a m
theorem RStk.here {Cn Cu:Addr}{H0 H:Hp}{wh:Addr}{fs:List RF}{next its own:List Addr}{ds:List (Addr×RE)} (h:RStk Cn Cu H0 H wh fs next its own ds) : ∀ a∈own,∃ o,H a=some o:=by
 induction h with
 | bot h _ _ _=>exact h.here
 | cons h m t ih=>exact fun a m=>(mem_append.mp m).elim (h.here a) (ih a)
theorem j4_ {xs:List Term}{ts:List Tr}{x:Term}{t:Tr} (h:Reps xs ts) (q:Rep x t):Reps (xs++[x]) (ts++[t]) :=
 Reps.rec (motive_1:=fun _ _ _=>True) (motive_2:=fun xs ts _=>Reps (xs++[x]) (ts++[t])) (fun _ _=>trivial) (.cons q .nil) (fun h1 _ _ ih => .cons h1 ih) h
theorem RStk.close {Cn Cu:Addr}{H0 H:Hp}{wh:Addr}{f g:RF}{fs:List RF}{its own:List Addr}{ds:List (Addr×RE)}{new:List (List Nat)} (h:RStk Cn Cu H0 H wh (f::g::fs) [] its own ds) (hr:f.rest=[]) (hf:f.form=bs_ f.y) (hk:f.ok new f.ts) :
  f.nw=new/\∃ p ds2 own2,ds=p::ds2/\own2.Perm own/\RStk Cn Cu H0 H wh ({ g with ts:=g.ts++[f.y] }::fs) [] its own2 ds2:=by
 cases h with
 | @cons _ _ _ n _ its1 its2 own wl pl od id F ds a m t =>
 unfold RF.ok at hk;rw [hr] at hk;have k1:f.ws=aj_ f.y:=congrArg (·.1) hk;have k2:f.ts=ao_ f.y:=congrArg (·.2.1) hk;have k3:new=f.nw:=congrArg (·.2.2) hk;obtain ⟨⟨dx,b,e,h1⟩,h2,⟨as,trs,h3,h4,h5⟩,h6⟩:=a;rw [hr] at h6;cases h6;rw [append_nil] at h3;have tree:TreeAt Cn H n (.mk (bs_ f.y) (aj_ f.y) b e trs) (n::wl::pl::F) := .mk (by rw [<- hf];exact h1) (by rw [<- k1];exact h2) h3 h4;have rep:Rep f.y (.mk (bs_ f.y) (aj_ f.y) b e trs) := .mk (by rw [<- k2];exact h5);have up : ∀ {n':Addr}{wl' pl' od' id':Addr}{F' its':List Addr},RFAt Cn Cu H0 H g n' [n] its' wl' pl' od' id' F'->RFAt Cn Cu H0 H { g with ts:=g.ts++[f.y] } n' [] its' wl' pl' od' id' (F'++(n::wl::pl::F)):=fun q=>by
  obtain ⟨g1,g2,⟨as2,trs2,g3,g4,g5⟩,g6⟩:=q;exact ⟨g1,g2,⟨as2++[n],trs2++[_],by rw [append_nil];exact g3,g4.snoc tree,j4_ g5 rep⟩,g6⟩
 refine ⟨k3.symm,(id,f.wi),ds,?_⟩;cases t with
 | @bot _ _ _ wl3 pl3 rd F3 q a1 a2 a3 =>
  refine ⟨_,rfl,?_,.bot (up q) a1 a2 a3⟩;exact List.perm_append_comm (l₁:=wh::wl3::pl3::F3) (l₂:=n::wl::pl::F)
 | @cons _ _ _ n3 _ its3 its4 own3 wl3 pl3 od3 id3 F3 ds3 q m3 t3 =>
 refine ⟨_,rfl,?_,.cons (its:=its3) (up q) m3 t3⟩;show (((n3::wl3::pl3::F3)++(n::wl::pl::F))++own3).Perm ((n::wl::pl::F)++((n3::wl3::pl3::F3)++own3));rw [append_assoc];exact List.perm_append_comm_assoc (n3::wl3::pl3::F3) (n::wl::pl::F) own3
def RBel (Cn Cu:Addr) (H0 H:Hp) (wh:Addr) (f:RF) (fs:List RF) (n od id:Addr) (its own:List Addr) (ds:List (Addr×RE)):Prop:=match fs with
 | []=>n=wh/\its=[]/\own=[]/\od=id/\ds=[]/\(∀ c∈f.rest,c.1≠SK.n)/\f.env=[]/\f.wi=[]
 | g::r=>(od,f.env)∈ds/\RStk Cn Cu H0 H wh (g::r) [n] its own ds
theorem RStk.top {Cn Cu:Addr}{H0 H:Hp}{wh:Addr}{f:RF}{fs:List RF}{next its own:List Addr}{ds:List (Addr×RE)} (h:RStk Cn Cu H0 H wh (f::fs) next its own ds) : ∃ n its1 its2 wl pl od id F own2 ds2,RFAt Cn Cu H0 H f n next its1 wl pl od id F/\RBel Cn Cu H0 H wh f fs n od id its2 own2 ds2/\its=its1++its2/\own=(n::wl::pl::F)++own2/\ds=(id,f.wi)::ds2/\(od,f.env)∈ds:=by
 cases h with
 | @bot _ _ _ wl pl rd F q a1 a2 a3=>exact ⟨_,_,[],_,_,_,_,_,[],[],q,⟨rfl,rfl,rfl,rfl,rfl,a1,a2,a3⟩,by simp,by simp,by rw [a3],by rw [a2];simp⟩
 | cons q m t=>exact ⟨_,_,_,_,_,_,_,_,_,_,q,⟨m,t⟩,rfl,rfl,rfl,mem_cons_of_mem _ m⟩
theorem RStk.mk {Cn Cu:Addr}{H0 H:Hp}{wh:Addr}{f f':RF}{fs:List RF}{n:Addr}{next its1 its2:List Addr}{wl pl od id:Addr}{F own2:List Addr}{ds2:List (Addr×RE)} (h:RFAt Cn Cu H0 H f' n next its1 wl pl od id F) (b:RBel Cn Cu H0 H wh f fs n od id its2 own2 ds2) (he:f'.env=f.env) (hw:fs=[]->f'.wi=f.wi) (hr : ∀ c∈f'.rest,c∈f.rest):RStk Cn Cu H0 H wh (f'::fs) next (its1++its2) ((n::wl::pl::F)++own2) ((id,f'.wi)::ds2):=by
 cases fs with
 | nil =>
  obtain ⟨rfl,rfl,rfl,rfl,rfl,b1,b2,b3⟩:=b;rw [append_nil,append_nil,hw rfl,b3];exact .bot h (fun c m=>b1 c (hr c m)) (he.trans b2) ((hw rfl).trans b3)
 | cons g r=>exact .cons h (by rw [he];exact b.1) b.2
theorem RBel.keep {Cn Cu:Addr}{H0 H H':Hp}{wh:Addr}{f:RF}{fs:List RF}{n od id:Addr}{its own:List Addr}{ds:List (Addr×RE)} (h:RBel Cn Cu H0 H wh f fs n od id its own ds) {xs:List Addr} (sx:ai_ xs H H') (ch : ∀ x∈xs,Chg H x) (d : ∀ a∈own,a∉xs):RBel Cn Cu H0 H' wh f fs n od id its own ds:=by
 cases fs with
 | nil=>exact h
 | cons g r=>exact ⟨h.1,h.2.keep sx ch d⟩
noncomputable def msC:List (SK×Pc Term)->Nat
 | []=>0
 | (_,.inl _)::r=>1+msC r
 | (_,.inr t)::r=>3 * szX t+msC r
noncomputable def msF (fs:List RF):Nat:=(fs.map fun f=>msC f.rest).sum
def cO_ (fs:List RF):Nat:=(fs.map fun f=>ck_ f.rest).sum
theorem nX_ (env:RE) (l:List (SK×Pc Term)) : ∀ (wi:RE) (new ws:List (List Nat)) (ts:List Term),ws.length<=(goF env l wi new ws ts).1.length/\ts.length<=(goF env l wi new ws ts).2.1.length:=by
 induction l with
 | nil=>exact fun _ _ _ _=>⟨Nat.le_refl _,Nat.le_refl _⟩
 | cons c r ih =>
 intro wi new ws ts;have w1 : ∀ wi new (x:List Nat),ws.length<=(goF env r wi new (ws++[x]) ts).1.length/\ts.length<=(goF env r wi new (ws++[x]) ts).2.1.length:=fun wi new x=>by
  have h:=ih wi new (ws++[x]) ts;rw [length_append] at h;exact ⟨Nat.le_trans (le_add_right _ _) h.1,h.2⟩
 have t1 : ∀ wi new (x:Term),ws.length<=(goF env r wi new ws (ts++[x])).1.length/\ts.length<=(goF env r wi new ws (ts++[x])).2.1.length:=fun wi new x=>by
  have h:=ih wi new ws (ts++[x]);rw [length_append] at h;exact ⟨h.1,Nat.le_trans (le_add_right _ _) h.2⟩
 obtain ⟨k,q⟩:=c;cases q with
 | inl x=>cases k <;> exact w1 _ _ _
 | inr t=>cases k with
  | p b=>cases b <;> exact t1 _ _ _
  | _=>exact t1 _ _ _
theorem RF.ok.len {f:RF}{new:List (List Nat)} (h:f.ok new f.ts):f.ws.length<=2/\f.ts.length<=3:=by
 have q:=nX_ f.env f.rest f.wi new f.ws f.ts;rw [show goF f.env f.rest f.wi new f.ws f.ts=_ from h] at q;have h1:(aj_ f.y).length<=2:=gf_;have h2:(ao_ f.y).length<=3:=by cases f.y <;> exact Nat.le_of_ble_eq_true rfl
 exact ⟨Nat.le_trans q.1 h1,Nat.le_trans q.2 h2⟩
theorem kt_ (x:Term):msC (au_ x)+1<=3 * szX x:=by
 cases x with
 | leaf l=>cases l <;> (show 0+1<=3 * 1;decide)
 | one o a=>cases o <;> (simp only [au_,ax_,fmX,cr_,Fm.sk,aj_,ao_,msC,szX];omega)
 | two o a b=>cases o <;> (simp only [au_,ax_,fmX,cm_,Fm.sk,aj_,ao_,msC,szX];omega)
 | three o a b c=>cases o <;> (simp only [au_,ax_,fmX,Fm.sk,aj_,ao_,msC,szX];omega)
 | fn=>simp only [au_,ax_,fmX,Fm.sk,aj_,ao_,msC,szX];omega
 | rec_=>simp only [au_,ax_,fmX,Fm.sk,aj_,ao_,msC,szX];omega
 | let_=>simp only [au_,ax_,fmX,Fm.sk,aj_,ao_,msC,szX];omega
 | case=>simp only [au_,ax_,fmX,Fm.sk,aj_,ao_,msC,szX];omega
theorem is_ : ∀ l:List (SK×Pc Term),l.length<=msC l
 | []=>Nat.le_refl _
 | (_,.inl _)::r=>by have:=is_ r;rw [length_cons];show _<=1+msC r;omega
 | (_,.inr t)::r=>by have:=is_ r;have:=kt_ t;rw [length_cons];show _<=3 * szX t+msC r;omega
theorem RStk.len {Cn Cu:Addr}{H0 H:Hp}{wh:Addr}{fs:List RF}{next its own:List Addr}{ds:List (Addr×RE)} (h:RStk Cn Cu H0 H wh fs next its own ds):its.length<=msF fs:=by
 induction h with
 | @bot f _ _ _ _ _ _ h _ _ _ =>
  have:=Paired.length h.items;have:=is_ f.rest;show _<=msC f.rest+0;omega
 | @cons f g fs _ _ _ _ _ _ _ _ _ _ _ h _ t ih =>
 have:=Paired.length h.items;have:=is_ f.rest;rw [length_append];show _<=msC f.rest+msF (g::fs);omega
theorem RStk.norm {Cn Cu:Addr}{H0 H:Hp}{wh:Addr}{tgt:Term}{new:List (List Nat)} : ∀ (fs:List RF) (f:RF) {its own:List Addr}{ds:List (Addr×RE)},RStk Cn Cu H0 H wh (f::fs) [] its own ds->f.ok new f.ts->(fs≠[]->f.form=bs_ f.y)->mr_ tgt fs f.y f.nw ->
  ∃ f' fs' own' ds',RStk Cn Cu H0 H wh (f'::fs') [] its own' ds'/\f'.ok new f'.ts/\(fs'≠[]->f'.form=bs_ f'.y)/\mr_ tgt fs' f'.y f'.nw/\(f'.rest≠[]\/fs'=[])/\own'.Perm own/\ds'.Sublist ds/\msF (f'::fs')=msF (f::fs)/\cO_ (f'::fs')=cO_ (f::fs)
 | [],f,its,own,ds,h,a,b,c=>⟨f,[],own,ds,h,a,b,c,.inr rfl,.refl _,List.Sublist.refl _,rfl,rfl⟩
 | g::r,f,its,own,ds,h,a,b,c=>by
  by_cases hr:f.rest=[]
  ·obtain ⟨q1,p,ds2,own2,rfl,q3,q4⟩:=h.close hr (b (by simp)) a
   rw [q1] at c;obtain ⟨f',fs',own',ds',z1,z2,z3,z4,z5,z6,z7,z8,z9⟩:=RStk.norm r { g with ts:=g.ts++[f.y] } q4 c.1 c.2.1 c.2.2;refine ⟨f',fs',own',ds',z1,z2,z3,z4,z5,z6.trans q3,z7.trans (sublist_cons_self _ _),z8.trans ?_,z9.trans ?_⟩
   ·show msC g.rest+msF r=msC f.rest+(msC g.rest+msF r)
    rw [hr];show _=0+_;omega
   show ck_ g.rest+cO_ r=ck_ f.rest+(ck_ g.rest+cO_ r);rw [hr];show _=0+_;omega
  exact ⟨f,g::r,own,ds,h,a,b,c,.inl hr,.refl _,List.Sublist.refl _,rfl,rfl⟩
def eM_ (env:RE):Term->List (List Nat)
 | .leaf (.name y)=>[((env.find? fun p=>p.1 == y).map fun p=>p.2).getD y]
 | .leaf (.num v)=>[shownLit v]
 | _=>[]
theorem hD_ (env:RE) (x:Term):(∃ y,x = .leaf (.name y))\/(∃ v,x = .leaf (.num v))\/(¬ bs_ x=Vaunid.txt "name"/\¬ bs_ x=Vaunid.txt "number"/\eM_ env x=[]):=by
 cases q:fmX x with
 | none =>
  cases x with
  | leaf l =>
   cases l with
   | name y=>exact .inl ⟨y,rfl⟩
   | num v=>exact .inr (.inl ⟨v,rfl⟩)
   | truth b=>cases b <;> exact .inr (.inr ⟨by left,by left,rfl⟩)
   | nil=>exact .inr (.inr ⟨by left,by left,rfl⟩)
  | _=>cases q
 | some f =>
 have h : ∀ f:Fm,¬ Vaunid.txt f.word=Vaunid.txt "name"/\¬ Vaunid.txt f.word=Vaunid.txt "number":=by intro f;cases f <;> left
 refine .inr (.inr ⟨by rw [du_ q];exact (h f).1,by rw [du_ q];exact (h f).2,?_⟩);cases x with
 | leaf l=>cases q
 | _=>rfl
theorem fz_ (env:RE) (new:List (List Nat)) (x:Term):bs_ (Vaunid.renamed env new x).1=bs_ x/\goF env (au_ x) env new (eM_ env x) []=(aj_ (Vaunid.renamed env new x).1,ao_ (Vaunid.renamed env new x).1,(Vaunid.renamed env new x).2):=by
 cases q:fmX x with
 | none =>
  cases x with
  | leaf l=>cases l <;> exact ⟨rfl,rfl⟩
  | _=>cases q
 | some f =>
 have e:eM_ env x=[]:=by
  cases x with
  | leaf l=>cases q
  | _=>rfl
 rw [e];exact lD_ env new q
structure PSt (Cn Cu Cf:Addr) (H0 H:Hp) (td fo aw wh:Addr) (away:List (List Nat)) (B:Nat) (tgt:Term) (f:RF) (fs:List RF) (its own:List Addr) (ds:List (Addr×RE)) (new:List (List Nat)):Prop where
 same:Same H0 H
 stk:RStk Cn Cu H0 H wh (f::fs) [] its own ds
 todo:H td=some (.lst (its.reverse.map V.ref))
 gv : ∃ dxf i,H fo=some (.ins Cf dxf (frFs aw ((i:Nat):Int)))/\Fr away B i new
 ok:f.ok new f.ts
 form:fs≠[]->f.form=bs_ f.y
 und:mr_ tgt fs f.y f.nw
 nd:(td::fo::(own++ds.map (·.1))).Nodup
 fr : ∀ a∈td::fo::(own++ds.map (·.1)),H0 a=none
 dct : ∀ p∈ds,∃ kv,H p.1=some (.dK kv)/\DEnv kv p.2/\kv.length+new.length<=600
 need:cO_ (f::fs)<=new.length
theorem pdj {td fo n wl pl id:Addr}{F own2 D:List Addr} (h:(td::fo::(((n::wl::pl::F)++own2)++(id::D))).Nodup):(∀ a∈F++own2,a∉[td,fo,n,wl,pl,id])/\(∀ a∈D,a∉[td,fo,n,wl,pl,id])/\[td,fo,n,wl,pl,id].Nodup/\(F++own2++D).Nodup:=by
 have pm:(td::fo::(((n::wl::pl::F)++own2)++(id::D))).Perm ([td,fo,n,wl,pl,id]++(F++own2++D)):=by
  show (td::fo::n::wl::pl::((F++own2)++(id::D))).Perm (td::fo::n::wl::pl::(id::(F++own2++D)));exact ((((List.perm_middle.cons pl).cons wl).cons n).cons fo).cons td
 obtain ⟨h1,h2,h3⟩:=List.nodup_append.mp (pm.nodup_iff.mp h);exact ⟨fun a m z=>h3 a z a (mem_append_left _ m) rfl,fun a m z=>h3 a z a (mem_append_right _ m) rfl,h1,h2⟩
def envB (bb:Bool) (f:RF):RE:=if bb=false then f.env else f.wi
noncomputable def n9_ (bb:Bool) (f:RF) (t:Term) (new:List (List Nat)):RF:={ form:=bs_ t,y:=(Vaunid.renamed (envB bb f) new t).1,nw:=(Vaunid.renamed (envB bb f) new t).2,env:=envB bb f,wi:=envB bb f,ws:=eM_ (envB bb f) t,ts:=[],rest:=au_ t }
section
variable {Cn Cu Cf:Addr}{H0 H H2:Hp}{td fo aw wh:Addr}{away:List (List Nat)}{B:Nat}{tgt:Term}{f:RF}{fs:List RF}{its own:List Addr}{ds:List (Addr×RE)}{new:List (List Nat)}
theorem PSt.norm (p:PSt Cn Cu Cf H0 H td fo aw wh away B tgt f fs its own ds new) : ∃ f' fs' own' ds',PSt Cn Cu Cf H0 H td fo aw wh away B tgt f' fs' its own' ds' new/\(f'.rest≠[]\/fs'=[])/\msF (f'::fs')=msF (f::fs):=by
 obtain ⟨f',fs',own',ds',z1,z2,z3,z4,z5,z6,z7,z8,z9⟩:=p.stk.norm fs f p.ok p.form p.und;have sub : ∀ a,a∈own'++ds'.map (·.1)->a∈own++ds.map (·.1):=fun a m=>by
  rcases mem_append.mp m with m | m
  ·exact mem_append_left _ (z6.subset m)
  exact mem_append_right _ ((z7.map _).subset m)
 refine ⟨f',fs',own',ds',⟨p.same,z1,p.todo,p.gv,z2,z3,z4,?_,fun a m=>p.fr a ?_,fun q m=>p.dct q (z7.subset m),by rw [z9];exact p.need⟩,z5,z8⟩
 ·have s2:(td::fo::(own++ds'.map (·.1))).Sublist (td::fo::(own++ds.map (·.1))):=(((List.Sublist.refl own).append (z7.map _)).cons_cons fo).cons_cons td
  exact (((z6.append_right _).cons fo).cons td).nodup_iff.mpr (List.Pairwise.sublist s2 p.nd)
 rcases mem_cons.mp m with q | m
 ·rw [q];exact mem_cons_self ..
 rcases mem_cons.mp m with q | m
 ·rw [q];simp
 exact mem_cons_of_mem _ (mem_cons_of_mem _ (sub a m))
theorem PSt.push (p:PSt Cn Cu Cf H0 H td fo aw wh away B tgt f fs its own ds new) {bb:Bool}{t:Term}{r:List (SK×Pc Term)} (hr:f.rest=(.p bb,.inr t)::r) {n it:Addr}{its1 its2:List Addr}{wl pl od id:Addr}{F own2:List Addr}{ds2:List (Addr×RE)}
  (ha:RFAt Cn Cu H0 H f n [] (it::its1) wl pl od id F) (hb:RBel Cn Cu H0 H wh f fs n od id its2 own2 ds2) (eo:own=(n::wl::pl::F)++own2) (ed:ds=(id,f.wi)::ds2) (eod:(od,f.env)∈ds) {c dxc wlc plc idc:Addr}{itsc:List Addr}{b' e':Nat}{kv:List (Key×V)}{ps:List V} (sx:ai_ [td,pl] H H2) (hps:H pl=some (.lst ps))
  (hc:H2 c=some (.ins Cn dxc (a9_ (S (bs_ t)) wlc plc (b':Int) (e':Int)))) (hwl:H2 wlc=some (.lst (((eM_ (envB bb f) t).map S).map V.str))) (hpl:H2 plc=some (.lst [])) (hid:H2 idc=some (.dK kv)) (hkv:H (if bb=false then od else id)=some (.dK kv)) (hits:Paired (ItAt Cn Cu H0 H2 c (if bb=false then od else id) idc) itsc (au_ t)) (hp2:H2 pl=some (.lst (ps++[.ref c])))
  (ht2:H2 td=some (.lst ((its1++its2).reverse.map V.ref++itsc.reverse.map V.ref))) (nd4:[c,wlc,plc,idc].Nodup) (fr4 : ∀ a∈[c,wlc,plc,idc],H a=none) :
  PSt Cn Cu Cf H0 H2 td fo aw wh away B tgt (n9_ bb f t new) ({ f with rest:=r }::fs) (itsc++(its1++its2)) ([c,wlc,plc]++own) ((idc,envB bb f)::ds) new/\msF (n9_ bb f t new::{ f with rest:=r }::fs)<msF (f::fs):=by
 have nd:=p.nd;rw [eo,ed] at nd;obtain ⟨o1,o2,o3,o4⟩:=pdj nd;have ch : ∀ x∈[td,pl],Chg H x:=fun x hx=>by
  rcases mem_cons.mp hx with q | hx
  ·rw [q];exact .inl ⟨_,p.todo⟩
  rw [mem_singleton.mp hx];exact .inl ⟨_,hps⟩
 have sub : ∀ a,a∉[td,fo,n,wl,pl,id]->a∉[td,pl]:=fun a h m=>h (by simp at m ⊢;rcases m with m | m <;> simp [m])
 simp only [nodup_cons,mem_cons,not_or,not_mem_nil,not_false_eq_true,and_true,List.nodup_nil] at o3;obtain ⟨⟨a1,a2,a3,a4,a5⟩,⟨b1,b2,b3,b4⟩,⟨c1,c2,c3⟩,⟨d1,d2⟩,e1⟩:=o3;have hb2:=hb.keep sx ch fun a m=>sub a (o1 a (mem_append_right _ m));obtain ⟨⟨dx,b,e,h1⟩,h2,⟨as,trs,h3,h4,h5⟩,h6⟩:=ha;rw [hr] at h6;cases h6 with
 | cons h7 h8 =>
 have eps:ps=as.map V.ref:=by rw [h3,append_nil] at hps;injection hps with q;injection q with q;exact q.symm
 have par:RFAt Cn Cu H0 H2 { f with rest:=r } n [c] its1 wl pl od id F:=⟨⟨dx,b,e,sx _ _ (by simp [Ne.symm a2,c2]) h1⟩,sx _ _ (by simp [Ne.symm a3,d1]) h2,⟨as,trs,by rw [hp2,eps,map_append];rfl,h4.keep fun x m o q=>sx _ _ (sub x (o1 x (mem_append_left _ m))) q,h5⟩,Paired.mapP h8 fun _ _ q=>q.keep sx ch⟩;have st2:RStk Cn Cu H0 H2 wh ({ f with rest:=r }::fs) [c] (its1++its2) own ds:=by
  rw [eo,ed];exact RStk.mk (f:=f) (f':={ f with rest:=r }) par hb2 rfl (fun _=>rfl) fun x m=>by rw [hr];exact mem_cons_of_mem _ m
 have here : ∀ a∈td::fo::(own++ds.map (·.1)),∃ o,H a=some o:=fun a m=>by
  rcases mem_cons.mp m with q | m
  ·exact ⟨_,q ▸ p.todo⟩
  rcases mem_cons.mp m with q | m
  ·obtain ⟨_,_,q2,_⟩:=p.gv
   exact ⟨_,q ▸ q2⟩
  rcases mem_append.mp m with m | m
  ·exact p.stk.here a m
  obtain ⟨z,zm,rfl⟩:=mem_map.mp m;obtain ⟨_,q,_⟩:=p.dct z zm;exact ⟨_,q⟩
 have dctd : ∀ q∈ds,q.1∉[td,pl]:=fun q m=>by
  rw [ed] at m;rcases mem_cons.mp m with z | m
  ·rw [z];simp [Ne.symm a5,Ne.symm e1]
  exact sub _ (o2 _ (List.mem_map_of_mem m))
 have env:(if bb=false then od else id,envB bb f)∈ds:=by
  unfold envB;cases bb with
  | false=>exact eod
  | true=>rw [ed];exact mem_cons_self ..
 refine ⟨⟨?_,?_,?_,?_,?_,?_,?_,?_,?_,?_,?_⟩,?_⟩
 ·exact sx.base p.same fun x m=>p.fr x (by rw [eo];simp at m ⊢;rcases m with m | m <;> simp [m])
 ·exact .cons (f:=n9_ bb f t new) ⟨⟨dxc,b',e',hc⟩,hwl,⟨[],[],hpl,.nil,.nil⟩,hits⟩ env st2
 ·rw [ht2,<- map_append,<- reverse_append]
 ·obtain ⟨dxf,i,q1,q2⟩:=p.gv
  exact ⟨dxf,i,sx _ _ (by simp [Ne.symm a1,b3]) q1,q2⟩
 ·exact (fz_ (envB bb f) new t).2
 ·exact fun _=>(fz_ (envB bb f) new t).1.symm
 ·refine ⟨?_,p.form,p.und⟩
  have k:=p.ok;unfold RF.ok at k ⊢;rw [hr] at k;rw [<- k];cases bb <;> rfl
 ·have hn : ∀ a∈[c,wlc,plc,idc],a∉td::fo::(own++ds.map (·.1)):=fun a m z=>by
   obtain ⟨o,q⟩:=here a z;rw [fr4 a m] at q;cases q
  refine (List.Perm.nodup_iff ?_).mpr (List.nodup_append.mpr ⟨nd4,p.nd,fun a m b z q=>hn a m (q ▸ z)⟩);show (td::fo::(c::wlc::plc::own++(idc::ds.map (·.1)))).Perm (c::wlc::plc::idc::td::fo::(own++ds.map (·.1)));have q1:(td::fo::(c::wlc::plc::own++(idc::ds.map (·.1)))).Perm (td::fo::([c,wlc,plc,idc]++(own++ds.map (·.1)))):=by
   refine .cons _ (.cons _ ?_);show (c::wlc::plc::(own++(idc::ds.map (·.1)))).Perm (c::wlc::plc::(idc::(own++ds.map (·.1))));exact ((List.perm_middle.cons plc).cons wlc).cons c
  refine q1.trans ?_;exact List.perm_append_comm_assoc [td,fo] [c,wlc,plc,idc] (own++ds.map (·.1))
 ·intro a m
  have q1:a∈[c,wlc,plc,idc]\/a∈td::fo::(own++ds.map (·.1)):=by
   simp only [map_cons,cons_append,nil_append,mem_cons,mem_append,not_mem_nil,or_false] at m ⊢;rcases m with m | m | m | m | m | m | m | m <;> simp [m]
  rcases q1 with q1 | q1
  ·exact none_of p.same (fr4 a q1)
  exact p.fr a q1
 ·intro q m
  rcases mem_cons.mp m with z | m
  ·rw [z]
   obtain ⟨kv2,z1,z2,z3⟩:=p.dct _ env;rw [hkv] at z1;cases z1;exact ⟨kv,hid,z2,z3⟩
  obtain ⟨kv2,z1,z2,z3⟩:=p.dct q m;exact ⟨kv2,sx _ _ (dctd q m) z1,z2,z3⟩
 ·have k:=p.need
  have k2:cO_ (f::fs)=ck_ f.rest+cO_ fs:=rfl;rw [k2,hr] at k;have k3:ck_ ((SK.p bb,Sum.inr t)::r)=Vaunid.bindings t+ck_ r:=by cases bb <;> rfl
  show ck_ (au_ t)+(ck_ r+cO_ fs)<=_;rw [kq_];omega
 have k:=kt_ t;show msC (au_ t)+(msC r+msF fs)<msC f.rest+msF fs;rw [hr];show _<3 * szX t+msC r+msF fs;omega
theorem PSt.step (p:PSt Cn Cu Cf H0 H td fo aw wh away B tgt f fs its own ds new) {f':RF}{new':List (List Nat)} (he:f'.env=f.env) (hy:f'.y=f.y) (hnw:f'.nw=f.nw) (hform:f'.form=f.form) (hts:f'.ts=f.ts) (hrr : ∀ c∈f'.rest,c∈f.rest) (hw:fs=[]->f'.wi=f.wi) {n it:Addr}{its1 its2:List Addr}{wl pl od id:Addr}{F own2:List Addr}{ds2:List (Addr×RE)}
  (ha:RFAt Cn Cu H0 H f n [] (it::its1) wl pl od id F) (hb:RBel Cn Cu H0 H wh f fs n od id its2 own2 ds2) (eo:own=(n::wl::pl::F)++own2) (ed:ds=(id,f.wi)::ds2) (sx:ai_ [td,fo,id,wl] H H2) (hi:Paired (ItAt Cn Cu H0 H n od id) its1 f'.rest) (hw2:H2 wl=some (.lst ((f'.ws.map S).map V.str)))
  (ht2:H2 td=some (.lst ((its1++its2).reverse.map V.ref))) (gv2 : ∃ dxf i,H2 fo=some (.ins Cf dxf (frFs aw ((i:Nat):Int)))/\Fr away B i new') (hok:f'.ok new' f'.ts) (hd2 : ∃ kv,H2 id=some (.dK kv)/\DEnv kv f'.wi/\kv.length+new'.length<=600) (hnl:new'.length<=new.length) (hnd:cO_ (f'::fs)<=new'.length) :
  PSt Cn Cu Cf H0 H2 td fo aw wh away B tgt f' fs (its1++its2) own ((id,f'.wi)::ds2) new':=by
 have nd:=p.nd;rw [eo,ed] at nd;obtain ⟨o1,o2,o3,o4⟩:=pdj nd;have ch : ∀ x∈[td,fo,id,wl],Chg H x:=fun x hx=>by
  simp only [mem_cons,not_mem_nil,or_false] at hx;rcases hx with rfl | rfl | rfl | rfl
  ·exact .inl ⟨_,p.todo⟩
  ·obtain ⟨dxf,i,q,_⟩:=p.gv
   exact .inr (.inr ⟨_,_,_,_,q⟩)
  ·obtain ⟨kv,q,_⟩:=p.dct (x,f.wi) (by rw [ed];exact mem_cons_self ..)
   exact .inr (.inl ⟨_,q⟩)
  exact .inl ⟨_,ha.words⟩
 have sub : ∀ a,a∉[td,fo,n,wl,pl,id]->a∉[td,fo,id,wl]:=fun a h m=>h (by simp at m ⊢;rcases m with m | m | m | m <;> simp [m])
 simp only [nodup_cons,mem_cons,not_or,not_mem_nil,not_false_eq_true,and_true,List.nodup_nil] at o3;obtain ⟨⟨a1,a2,a3,a4,a5⟩,⟨b1,b2,b3,b4⟩,⟨c1,c2,c3⟩,⟨d1,d2⟩,e1⟩:=o3;have hb2:=hb.keep sx ch fun a m=>sub a (o1 a (mem_append_right _ m));obtain ⟨⟨dx,b,e,h1⟩,h2,⟨as,trs,h3,h4,h5⟩,h6⟩:=ha;have top:RFAt Cn Cu H0 H2 f' n [] its1 wl pl od id F:=⟨⟨dx,b,e,by rw [hform];exact sx _ _ (by simp [Ne.symm a2,Ne.symm b1,c3,c1]) h1⟩,hw2,⟨as,trs,sx _ _ (by simp [Ne.symm a4,Ne.symm b3,e1,Ne.symm d1]) h3,h4.keep fun x m o q=>sx _ _ (sub x (o1 x (mem_append_left _ m))) q,by rw [hts];exact h5⟩,Paired.mapP hi fun _ _ q=>q.keep sx ch⟩;refine ⟨sx.base p.same fun x m=>p.fr x ?_,by rw [eo];exact RStk.mk (f:=f) (f':=f') top hb2 he hw hrr,ht2,gv2,hok,fun z=>by rw [hform,hy];exact p.form z,by rw [hy,hnw];exact p.und,?_,?_,?_,hnd⟩
 ·rw [eo,ed]
  simp at m ⊢;rcases m with m | m | m | m <;> simp [m]
 ·have:=p.nd
  rw [ed] at this;exact this
 ·have:=p.fr
  rw [ed] at this;exact this
 intro q m;rcases mem_cons.mp m with z | m
 ·rw [z];exact hd2
 obtain ⟨kv,z1,z2,z3⟩:=p.dct q (by rw [ed];exact mem_cons_of_mem _ m);exact ⟨kv,sx _ _ (sub _ (o2 _ (List.mem_map_of_mem m))) z1,z2,by omega⟩
end
def jR_ (Cn:Addr):Sp:=fun vs H Q _=>∃ (a d:Addr) (x:Term) (tr:Tr) (F:List Addr) (H0:Hp) (kv:List (Key×V)) (env:RE),vs=[.ref a,.ref d]/\Same H0 H/\Rep x tr/\TreeAt Cn H0 a tr F/\H d=some (.dK kv)/\DEnv kv env/\∀ p,H p=none->Q (.ref p) (upd H p (.lst (((eM_ env x).map S).map V.str)))
theorem ok_al (T:TX w K mg J):FnOk P w K mg base CX0 1 J.f_al J.d_al ["node","renamed"] (jR_ J.C_b):=by
 refine T.F_al.fn.ok sc_al fun _ _ _ _ H _ Q E hr h=>?_;obtain ⟨a,d,x,tr,F,H0,kv,env,rfl,s0,hrep,htr,hd,he,k⟩:=h;refine ⟨_,(ab_ (aJ_ (al_ bB_ (ah_ (pv 0) rfl) as_ (aw_ _)) (ae_ (an_ (aK_ (aa_ (lP_ hr.u1 (pv 1) (aY_ aN_ (ah_ (pv 0) rfl) ak_ (fun _ _=>rfl)) (aY_ aN_ (ah_ (pv 0) rfl) ak_ (fun _ _=>rfl)) ⟨rfl,rfl,rfl,rfl⟩) ac_)))) ar_)
  (ab_ (aJ_ (al_ bB_ (ah_ (pv 0) rfl) as_ (aw_ _)) (ae_ (an_ (aK_ (aa_ (aY_ aN_ (ah_ (pv 0) rfl) ak_ (fun _ _=>rfl)) ac_)))) ar_)
  (ae_ (an_ (aK_ ac_))))),?_⟩
 cases hrep with
 | @mk _ b e ps hps =>
 cases htr with
 | @mk _ dxn wl pl _ _ _ _ as _ G t1 t2 t3 t4 =>
 have t1':=s0 _ _ t1;have t2':=s0 _ _ t2;simp! [tSeq,tFld,t1',my_];refine ⟨T.cl_b,T.n_ay,_,rfl,rfl,?_⟩;rcases hD_ env x with ⟨y,rfl⟩ | ⟨v,rfl⟩ | ⟨n1,n2,n3⟩
 ·rw [if_pos (by rw [aI_];rfl)]
  refine ⟨.inl ⟨kv,.inl hd⟩,T.cl_b,T.n_ax,_,rfl,_,rfl,_,SqL.of t2',.str (S y),rfl,?_⟩;refine ⟨T.cl_b,T.n_ax,_,rfl,_,rfl,_,SqL.of t2',.str (S y),rfl,_,DGet.k (k:=Sum.inr (S y)) hd,by decide,?_⟩;rw [he y];have e:((env.find? fun p=>p.1 == y).map fun p=>V.str (S p.2)).getD (V.str (S y))=V.str (S (((env.find? fun p=>p.1 == y).map fun p=>p.2).getD y)):=by cases env.find? fun p=>p.1 == y <;> rfl
  rw [e];exact k
 ·rw [if_neg (by rw [aI_];simp only [V.str.injEq,ce_];show ¬ Vaunid.txt "number"=_;left)]
  refine ⟨T.cl_b,T.n_ay,_,rfl,rfl,?_⟩;rw [if_pos (by rw [aI_];rfl)];exact ⟨T.cl_b,T.n_ax,_,rfl,_,rfl,_,SqL.of t2',.str (S (shownLit v)),rfl,by decide,k⟩
 rw [if_neg (by rw [aI_];simp only [V.str.injEq,ce_];exact n1)];refine ⟨T.cl_b,T.n_ay,_,rfl,rfl,?_⟩;rw [if_neg (by rw [aI_];simp only [V.str.injEq,ce_];exact n2)];rw [n3] at k;exact ⟨zero_le _,k⟩
def lx_ (Cf:Addr):Sp:=fun vs H Q _=>∃ (p dx aw:Addr),vs=[.ref p,.ref aw]/\H p=some (.ins Cf dx [])/\Q .non (upd H p (.ins Cf dx (frFs aw 0)))
theorem ok_i (T:TX w K mg J):FnOk P w K mg base CX0 1 J.f_O J.d_O ["self","away"] (lx_ J.C_i):=by
 refine T.F_O.ok sc_O fun _ _ _ _ H _ Q E hr h=>?_;obtain ⟨p,dx,aw,rfl,hp,k⟩:=h;refine ⟨_,(ab_ (a7_ (pv 0) (pv 1) rfl)
  (ae_ (a7_ (pv 0) ak_ rfl))),?_⟩
 simp! [tSeq,sFld,hp];exact ⟨T.cl_i,T.n_bd,few0,T.cl_i,T.n_aG,few1,k⟩
inductive IFTake (Cf:Addr) (H:Hp) (Q:VK):List V->Prop
 | mk (fo dx aw:Addr) (i B:Nat) (away:List (List Nat)) (v:List Nat) (l:List (List Nat)):H fo=some (.ins Cf dx (frFs aw (i:Int)))->H aw=some (.lst ((away.map S).map V.str))->Fr away B i (v::l)->B<=2000->(∀ j:Nat,Fr away B j l->Q (.str (S v)) (upd H fo (.ins Cf dx (frFs aw (j:Int)))))->IFTake Cf H Q [.ref fo]
def ni_ (Cf:Addr):Sp:=fun vs H Q _=>IFTake Cf H Q vs
theorem ok_ (m:Nat):ofString "v"++ofString (toString (m:Int))=S (Vaunid.vName m):=by
 rw [str_int,bW_,aI_,gc_];rfl
theorem lX_ (T:TX w K mg J):FnOk P w K mg base CX0 2 J.f_s J.d_s ["self"] (ni_ J.C_i):=by
 refine T.F_s.ok sc_s fun _ _ _ _ H _ Q E hr h=>?_;obtain ⟨fo,dx,aw,i,B,away,v,l,hf,ha,hF,hB,k⟩:=h;obtain ⟨j,j1,j2,j3,j4,rfl,j6⟩:=n0_ hF rfl;refine ⟨_,(ab_ (aA_ 1 sc_s.nd (bf_ bd_ as_ (a8_ bQ_ rfl T.b_str cy_ (aa_ (ah_ (pv 0) rfl) ac_))))
  (ab_ (eJ_ (pv 0) ak_ kG_)
  (ab_ (bI_ PassesOwn.never (al_ bq_ (pv 1) (ah_ (pv 0) rfl) rfl) (ab_ (aA_ 1 sc_s.nd (bf_ bd_ as_ (a8_ bQ_ rfl T.b_str cy_ (aa_ (ah_ (pv 0) rfl) ac_))))
  (ae_ (eJ_ (pv 0) ak_ kG_))))
  (ae_ (an_ (pv 1)))))),?_⟩
 simp! [tSeq,tFld,fM_,rAdd,hf];have big : ∀ m:Nat,m<=3000->(ofString "v").length+(ofString (toString (m:Int))).length<=sizeLine:=fun m h=>by
  rw [aI_,str_int,a5_,a5_,bW_];have:=bO_ (n:=m) (by omega);exact Nat.le_trans (show 1+_<=13 by omega) (by decide)
 have lg : ∀ m:Nat,m<=3000->((m:Int).natAbs).log2<1920:=fun m h=>eF_ (by rw [Int.natAbs_natCast];omega);have naw:aw≠fo:=be_ ha hf (by intro z;cases z);refine ⟨T.cl_i,T.n_aG,_,rfl,_,rfl,lg i (by omega),big i (by omega),T.cl_i,T.n_aG,_,rfl,_,rfl,(by show 2<1000;decide),?_⟩;refine b5_ (fun m σ H'=>∃ q:Nat,m=j - q/\i<=q/\q<=j/\σ=[some (.ref fo),some (.str (S (Vaunid.vName q)))]/\H'=upd H fo (.ins J.C_i dx (frFs aw ((q+1:Nat):Int)))) _ ⟨i,rfl,Nat.le_refl _,j1,by rw [ok_],rfl⟩ fun m σ H' hp=>?_;obtain ⟨q,rfl,q1,q2,rfl,rfl⟩:=hp;simp! [tSeq,tFld,fM_,rAdd];refine ⟨T.cl_i,T.n_bd,_,rfl,_,rfl,_,.inl (SqL.of (by rw [am_ naw];exact ha)),rfl,flat_strs _,?_⟩;rw [in_S];by_cases z:q=j
 ·subst z
  rw [decide_eq_false j4,if_neg (by simp)];exact k _ j6
 rw [decide_eq_true (j3 q q1 (by omega)),if_pos rfl];refine ⟨_,fun _ _ z=>z,T.cl_i,T.n_aG,_,rfl,_,rfl,lg _ (by omega),big _ (by omega),T.cl_i,T.n_aG,_,rfl,_,rfl,(by show 2<1000;decide),j - (q+1),by omega,q+1,rfl,by omega,by omega,by rw [ok_],rfl⟩
inductive ICopy (Cn Cu:Addr) (H:Hp) (Q:VK):List V->Prop
 | mk (td it a n d pl dxu wl dxn:Addr) (kd:Str) (x:Term) (tr:Tr) (F:List Addr) (H0:Hp) (kv:List (Key×V)) (env:RE) (xs ps:List V) (f:Str) (b e:Int):H it=some (.ins Cu dxu (unFs kd (.ref a) n d))->Same H0 H->Rep x tr->TreeAt Cn H0 a tr F->H n=some (.ins Cn dxn (a9_ f wl pl b e))->H pl=some (.lst ps)->ps.length<=100->H d=some (.dK kv)->DEnv kv env->H td=some (.lst xs)->xs.length<=2000->td≠pl->H0 pl=none->H0 td=none->(∀ (c dxc wlc plc id:Addr) (its:List Addr) (b' e':Nat) (H':Hp),ai_ [td,pl] H H'->H' c=some (.ins Cn dxc (a9_ (S (bs_ x)) wlc plc (b':Int) (e':Int)))->H' wlc=some (.lst (((eM_ env x).map S).map V.str))->H' plc=some (.lst [])->H' id=some (.dK kv)->Paired (ItAt Cn Cu H0 H' c d id) its (au_ x)->H' pl=some (.lst (ps++[.ref c]))->H' td=some (.lst (xs++its.reverse.map V.ref))->[c,wlc,plc,id].Nodup->(∀ a∈[c,wlc,plc,id],H a=none)->Q .non H')->ICopy Cn Cu H Q [.ref td,.ref it]
def oF_ (Cn Cu:Addr):Sp:=fun vs H Q _=>ICopy Cn Cu H Q vs
theorem ok_h (T:TX w K mg J):FnOk P w K mg base CX0 1 J.f_F J.d_F ["self","kind","content","owner","renamed"] (bA_ J.C_h ["kind","content","owner","renamed"]):=by
 refine T.F_F.ok sc_F (fun _ _ _ _ H _ Q E hr h=>?_) fun _ _ _ _ h=>dq_ h;obtain ⟨p,dx,args,rfl,hl,hp,k⟩:=h;obtain ⟨a,b,c,d,rfl⟩:=len4 hl;refine ⟨_,(ab_ (a7_ (pv 0) (pv 1) rfl)
  (ab_ (a7_ (pv 0) (pv 2) rfl)
  (ab_ (a7_ (pv 0) (pv 3) rfl)
  (ae_ (a7_ (pv 0) (pv 4) rfl))))),?_⟩
 simp! [tSeq,sFld];refine ⟨_,_,_,hp,T.cl_h,T.n_aC,few0,T.cl_h,T.n_aQ,few1,T.cl_h,T.n_aR,few2,T.cl_h,T.n_aH,few3,?_⟩;exact k
theorem ok_C (T:TX w K mg J):FnOk P w K mg base CX0 3 J.f_C J.d_C ["todo","item"] (oF_ J.C_b J.C_h):=by
 refine T.F_C.fn.ok sc_C fun _ _ _ _ H _ Q E hr h=>?_;obtain ⟨td,it,a,n,d,pl,dxu,wl,dxn,kd,x,tr,F,H0,kv,env,xs,ps,f,b,e,hit,s0,hrep,htr,hn,hpl,hps,hd,hde,htd,hxs,ntp,hpl0,htd0,k⟩:=h;refine ⟨_,(ab_ (aA_ 2 sc_C.nd (ah_ (pv 1) rfl))
  (ab_ (aA_ 3 sc_C.nd (aU_ T.M_b (ok_b T) hr.m rfl T.G_b T.b_r .nil aq_ (aa_ (ah_ (pv 2) rfl) (aa_ (aF_ T.F_al (ok_al T) hr.m aq_ (aa_ (pv 2) (aa_ (ah_ (pv 1) rfl) ac_))) (aa_ (aK_ ac_) (aa_ (ah_ (pv 2) rfl) (aa_ (ah_ (pv 2) rfl) ac_)))))))
  (ab_ (aE_ (bP_ pla sla tla aB_ (ah_ (ah_ (pv 1) rfl) rfl) (aa_ (pv 3) ac_)))
  (ab_ (aA_ 4 sc_C.nd (a8_ jq_ rfl T.b_dict boot_dict1 (aa_ (ah_ (pv 1) rfl) ac_)))
  (ae_ (dV_ PassesOwn.never rfl (b9_ rfl T.b_reversed (aa_ (aF_ T.F_t (ok_t T) hr.m aq_ (aa_ (pv 2) ac_)) ac_)) (pg_q 5 sc_C.nd) (ab_ (aA_ 6 sc_C.nd (cH_ (al_ bB_ (aY_ bC_ (pv 5) ak_ (fun _ _=>rfl)) as_ (aw_ _)) (ah_ (pv 1) rfl) (pv 4)))
  (ae_ (aE_ (bP_ pla sla tla aB_ (pv 0) (aa_ (aU_ T.M_h (ok_h T) hr.m rfl T.G_h T.b_F .nil aq_ (aa_ (aY_ bC_ (pv 5) ak_ (fun _ _=>rfl)) (aa_ (aY_ bC_ (pv 5) ak_ (fun _ _=>rfl)) (aa_ (pv 3) (aa_ (pv 6) ac_))))) ac_))))))))))),?_⟩
 have hrep':=hrep;have htr':=htr;cases hrep with
 | @mk _ b0 e0 ps0 hps0 =>
 cases htr with
 | @mk _ dx0 wl0 pl0 _ _ _ _ as0 _ G0 t1 t2 t3 t4 =>
 have t1':=s0 _ _ t1;refine bN_ ?_;simp! [tFld,hit];refine ⟨T.cl_h,T.n_aQ,_,rfl,?_⟩;refine bN_ ?_;simp! [tFld,hit,t1',bE_,jR_];refine ⟨T.cl_b,T.n_ay,_,rfl,T.cl_h,T.n_aH,_,rfl,_,rfl,x,_,_,H0,s0,hrep',htr',_,hd,_,hde,fun wlc hwlc=>?_⟩;have s1:Same H (upd H wlc (.lst (((eM_ env x).map S).map V.str))):=Same.upd hwlc;have e1:upd H wlc (.lst (((eM_ env x).map S).map V.str)) wlc=some (.lst (((eM_ env x).map S).map V.str)):=ad_;generalize upd H wlc (.lst (((eM_ env x).map S).map V.str))=H1 at s1 e1 ⊢;refine ⟨zero_le _,fun plc hplc=>?_⟩;have s2:Same H1 (upd H1 plc (.lst [])):=Same.upd hplc;have e2:upd H1 plc (.lst []) plc=some (.lst []):=ad_;generalize upd H1 plc (.lst [])=H2 at s2 e2 ⊢;have s02:=s1.trans s2;refine ⟨_,_,_,s02 _ _ t1',T.cl_b,T.n_aF,_,rfl,_,_,_,s02 _ _ t1',T.cl_b,T.n_aP,_,rfl,?_⟩;refine bw_ rfl fun c dxc H3 hc s3 e3=>?_;refine bN_ ?_;simp! [tFld,tBM,a4_];have s03:=s02.trans s3;refine ⟨_,_,_,s03 _ _ hit,T.cl_h,T.n_aR,_,rfl,_,rfl,_,_,_,s03 _ _ hn,T.cl_b,T.n_aB,_,rfl,.inl ⟨rfl,_,SqL.of (s03 _ _ hpl)⟩,_,rfl,_,s03 _ _ hpl,Nat.lt_of_le_of_lt hps (by decide),?_⟩;have hpl3:=s03 _ _ hpl;have sx4:ai_ [pl] H3 (upd H3 pl (.lst (ps++[.ref c]))):=ai_.upd (mem_singleton.mpr rfl);have e4:upd H3 pl (.lst (ps++[.ref c])) pl=some (.lst (ps++[.ref c])):=ad_;generalize upd H3 pl (.lst (ps++[.ref c]))=H4 at sx4 e4 ⊢;have npl : ∀ {b:Addr}{o:HO},H3 b=some o->(∀ l,¬ o = .lst l)->H4 b=some o:=fun {b o} q nl=>sx4 _ _ (nin (be_ q hpl3 (nl _))) q;have hit4:=npl (s03 _ _ hit) (by intro l z;cases z)
 have hd4:=npl (s03 _ _ hd) (by intro l z;cases z);refine bN_ ?_;simp! [tFld];refine ⟨_,_,_,hit4,T.cl_h,T.n_aH,_,rfl,_,rfl,_,hd4,fun id hid=>?_⟩;have s5:Same H4 (upd H4 id (.dK kv)):=Same.upd hid;have e5:upd H4 id (.dK kv) id=some (.dK kv):=ad_;generalize upd H4 id (.dK kv)=H5 at s5 e5 ⊢;have b5:Same H0 H5:=(sx4.base (s0.trans s03) fun x hx=>by rw [mem_singleton.mp hx];exact hpl0).trans s5;refine bc_ ?_;simp! [cE_,iRev];refine ⟨x,_,_,H0,b5,hrep',htr',fun cl cts H6 hcl s6 ecl pc=>⟨_,SqL.of ecl,?_⟩⟩;have htd4:H4 td=some (.lst xs):=sx4 _ _ (nin ntp) (s03 _ _ htd);have s46:=s5.trans s6;have htd6:=s46 _ _ htd4;have nct:cl≠td:=fun z=>by rw [z,s5 _ _ htd4] at hcl;cases hcl
 have hcl5:cts.length=(au_ x).length:=Paired.length pc;have hc5:=f7_ x;have pcr:=cJ_ pc;obtain ⟨Pw,hPw⟩ : ∃ Pw:Nat->L2.St->Hp->Prop,Pw=fun i σ H8=>(∃ z1 z2,σ=[some (.ref td),some (.ref it),some (.ref a),some (.ref c),some (.ref id),z1,z2])/\ai_ [td] H6 H8/\∃ its,H8 td=some (.lst (xs++its.map V.ref))/\its.length<=i/\Paired (ItAt J.C_b J.C_h H0 H8 c d id) its ((au_ x).reverse.take i):=⟨_,rfl⟩;refine ds_ (cts.map V.ref) Pw (by rw [hPw];exact ⟨⟨_,_,rfl⟩,fun _ _ _ q=>q,[],by rw [map_nil,append_nil];exact htd6,Nat.le_refl _,.nil⟩) (fun i σ H8 _ q=>?_) (fun i v σ H8 hx q=>?_) fun σ H8 q=>?_
 ·rw [hPw] at q
  exact SqL.of (q.2.1 _ _ (nin nct) ecl)
 ·rw [hPw] at q
  obtain ⟨⟨z1,z2,rfl⟩,sx8,its,hits,hil8,pit⟩:=q;rw [<- map_reverse,getElem?_map] at hx;cases qi:cts.reverse[i]? with
  | none=>rw [qi] at hx;cases hx
  | some ct =>
  rw [qi] at hx;cases hx;have hil:=(List.getElem?_eq_some_iff.mp qi).1;rw [length_reverse] at hil;obtain ⟨⟨kk,pv⟩,hdd,cv,hct,hpc⟩:=cK_ pcr qi;have n8 : ∀ {b:Addr}{o:HO},H6 b=some o->(∀ l,¬ o = .lst l)->H8 b=some o:=fun {b o} q nl=>sx8 _ _ (nin (be_ q htd6 (nl _))) q;have hct8:=n8 hct (by intro l z;cases z);have hit8:=n8 (s46 _ _ hit4) (by intro l z;cases z);have fin : ∀ (z:Option V) (un dxu2:Addr) (H9:Hp),H8 un=none->Same H8 H9->H9 un=some (.ins J.C_h dxu2 (unFs (ofString kk.w) cv c (if kk = .p false then d else id))) ->
    ∃ acc,H9 td=some (.lst acc)/\acc.length<sizeLine/\Pw (i+1) [some (.ref td),some (.ref it),some (.ref a),some (.ref c),some (.ref id),some (.ref ct),z] (upd H9 td (.lst (acc++[.ref un]))):=by
   intro z un dxu2 H9 hun s9 e9;have htd9:=s9 _ _ hits;have sx10:ai_ [td] H9 (upd H9 td (.lst (xs++its.map V.ref++[.ref un]))):=ai_.upd (mem_singleton.mpr rfl);have ch9 : ∀ x∈[td],Chg H9 x:=fun x hx=>by rw [mem_singleton.mp hx];exact .inl ⟨_,htd9⟩
   refine ⟨_,htd9,?_,?_⟩
   ·rw [length_append,length_map]
    exact Nat.lt_of_le_of_lt (show _<=3000 by omega) (by decide)
   rw [hPw];refine ⟨⟨_,_,rfl⟩,sx8.trans ((ai_.of s9).trans sx10),its++[un],?_,by rw [length_append];show its.length+1<=_;omega,?_⟩
   ·rw [ad_,map_append,<- append_assoc]
    rfl
   rw [take_succ,hdd];exact aR_ (Paired.mapP pit fun _ _ q=>(q.keep (ai_.of (xs:=[]) s9) (by simp)).keep sx10 ch9) (ItAt.keep sx10 ch9 ⟨dxu2,cv,e9,hpc,n7_ x _ (List.mem_reverse.mp (mem_of_getElem? hdd))⟩)
  simp! [tSeq,dQ_,tBM,a4_,tFld,bE_];refine ⟨_,SqT.of hct8,_,rfl,rfl,?_⟩;by_cases hk:kk = .p false
  ·rw [if_pos hk] at fin
   rw [if_pos (by rw [hk];rfl)];exact ⟨_,_,_,hit8,T.cl_h,T.n_aH,_,rfl,.inl ⟨rfl,_,SqL.of hits⟩,_,SqT.of hct8,_,rfl,_,SqT.of hct8,_,rfl,bw_ rfl fun un dxu2 H9 hun s9 e9=>fin _ un dxu2 H9 hun s9 e9⟩
  rw [if_neg hk] at fin;have hk2 : ¬ ofString kk.w=ofString "part":=by
   cases kk with
   | p b=>cases b with
    | false=>exact absurd rfl hk
    | true=>left
   | n=>left
   | pw=>left
  rw [if_neg (by simp only [V.str.injEq];exact hk2)];exact ⟨.inl ⟨rfl,_,SqL.of hits⟩,_,SqT.of hct8,_,rfl,_,SqT.of hct8,_,rfl,bw_ rfl fun un dxu2 H9 hun s9 e9=>fin _ un dxu2 H9 hun s9 e9⟩
 rw [hPw] at q;obtain ⟨⟨z1,z2,rfl⟩,sx8,its,hits,hil8,pit⟩:=q;rw [length_map,hcl5,<- length_reverse (as:=au_ x),take_length] at pit;simp! [tSeq];have n8 : ∀ {b:Addr}{o:HO},H6 b=some o->b≠td->H8 b=some o:=fun {b o} q nl=>sx8 _ _ (nin nl) q;have fc : ∀ b,H b=none->b≠td/\b≠pl:=fun b hb=>⟨fun z=>(by rw [z,htd] at hb;cases hb),fun z=>(by rw [z,hpl] at hb;cases hb)⟩;have hplc0:=none_of s1 hplc;have hc0:=none_of s02 hc;have hid0:H id=none:=by
  have q1:id≠pl:=fun z=>by rw [z,e4] at hid;cases hid
  exact none_of s03 (eh_ sx4 (nin q1) hid)
 have up : ∀ {b:Addr}{o:HO},H3 b=some o->H b=none->H8 b=some o:=fun {b o} q hb=>n8 (s46 _ _ (sx4 _ _ (nin (fc b hb).2) q)) (fc b hb).1;refine k c dxc wlc plc id its.reverse b0 e0 H8 ?_ (up e3 hc0) (up (s3 _ _ (s2 _ _ e1)) hwlc) (up (s3 _ _ e2) hplc0) (n8 (s6 _ _ e5) (fc id hid0).1) ?_ (n8 (s46 _ _ e4) (Ne.symm ntp)) ?_ ?_ ?_
 ·exact (ai_.of s03).trans ((sx4.more (by simp)).trans ((ai_.of s46).trans (sx8.more (by simp))))
 ·have:=cJ_ pit
  rw [reverse_reverse] at this;exact this
 ·rw [reverse_reverse]
  exact hits
 ·have m1:c≠wlc:=fun z=>by rw [z,s2 _ _ e1] at hc;cases hc
  have m2:c≠plc:=fun z=>by rw [z,e2] at hc;cases hc
  have m3:wlc≠plc:=fun z=>by rw [<- z,e1] at hplc;cases hplc
  have m4 : ∀ b o,H3 b=some o->H b=none->b≠id:=fun b o q hb z=>by rw [<- z,sx4 _ _ (nin (fc b hb).2) q] at hid;cases hid
  have m5:=m4 c _ e3 hc0;have m6:=m4 wlc _ (s3 _ _ (s2 _ _ e1)) hwlc;have m7:=m4 plc _ (s3 _ _ e2) hplc0;simp [m1,m2,m3,m5,m6,m7]
 intro b hb;simp only [mem_cons,not_mem_nil,or_false] at hb;rcases hb with rfl | rfl | rfl | rfl
 ·exact hc0
 ·exact hwlc
 ·exact hplc0
 exact hid0
inductive IAway (Cn:Addr) (H:Hp) (Q:VK):List V->Prop
 | mk (a aw:Addr) (x:Term) (tr:Tr) (F:List Addr) (away:List (List Nat)):Rep x tr->TreeAt Cn H a tr F->H aw=some (.lst ((away.map S).map V.str))->away.length<=700->szX x<=300->(∀ (p:Addr) (tr':Tr) (F':List Addr) (H':Hp),Same H H'->Rep (Vaunid.plainAway away x) tr'->TreeAt Cn H' p tr' F'->Q (.ref p) H')->IAway Cn H Q [.ref a,.ref aw]
def oG_ (Cn:Addr):Sp:=fun vs H Q _=>IAway Cn H Q vs
theorem ok_B (T:TX w K mg J):FnOk P w K mg base CX0 4 J.f_B J.d_B ["term","away"] (oG_ J.C_b):=by
 refine T.F_B.fn.ok sc_B fun _ _ _ _ H _ Q E hr h=>?_;obtain ⟨a,aw,x,tr,F,away,hrep,htr,haw,hal,hsz,k⟩:=h;refine ⟨_,(ab_ (aA_ 2 sc_B.nd (aU_ T.M_i (ok_i T) hr.m rfl T.G_i T.b_O .nil aq_ (aa_ (pv 1) ac_)))
  (ab_ (aA_ 3 sc_B.nd (aU_ T.M_b (ok_b T) hr.m rfl T.G_b T.b_r .nil aq_ (aa_ as_ (aa_ (aK_ ac_) (aa_ (aK_ ac_) (aa_ (ah_ (pv 0) rfl) (aa_ (ah_ (pv 0) rfl) ac_)))))))
  (ab_ (aA_ 4 sc_B.nd (aK_ (aa_ (aU_ T.M_h (ok_h T) hr.m rfl T.G_h T.b_F .nil aq_ (aa_ as_ (aa_ (pv 0) (aa_ (pv 3) (aa_ ii_ ac_))))) ac_)))
  (ab_ (bI_ PassesOwn.never (dk_ (pv 4) (fun _=>rfl)) (ab_ (aA_ 5 sc_B.nd (gL_ pla slp tlp gQ_ (pv 4)))
  (ae_ (aJ_ (al_ bq_ (ah_ (pv 5) rfl) (pe_r T.g_aa) rfl) (ae_ (aE_ (aF_ T.F_C (ok_C T) hr.m aq_ (aa_ (pv 4) (aa_ (pv 5) ac_))))) (ae_ (aJ_ (al_ bB_ (ah_ (pv 5) rfl) as_ (aw_ _)) (ab_ (aA_ 6 sc_B.nd (bk_ (pv 2) T.cl_i T.m_s (lX_ T) hr.m T.b_s .nil aq_))
  (ab_ (j7_ hr.u1 (ah_ (pv 5) rfl) (ah_ (pv 5) rfl) (pv 6) rfl)
  (ae_ (aE_ (bP_ pla sla tla aB_ (ah_ (ah_ (pv 5) rfl) rfl) (aa_ (pv 6) ac_)))))) (ae_ (aE_ (bP_ pla sla tla aB_ (ah_ (ah_ (pv 5) rfl) rfl) (aa_ (ah_ (pv 5) rfl) ac_))))))))))
  (ae_ (an_ (aY_ aN_ (ah_ (pv 3) rfl) ak_ (fun _ _=>rfl)))))))),?_⟩
 have hrep':=hrep;have htr':=htr;cases hrep with
 | @mk _ b e ps hps =>
 cases htr with
 | @mk _ dxn wl0 pl0 _ _ _ _ as _ G t1 t2 t3 t4 =>
 refine dF_ ?_;simp! [bE_];intro fo dxf hfo hdxf hnef;have sA:=aQ_ (o1:=HO.own fo) (o2:=HO.ins J.C_i dxf []) hfo hdxf;refine ⟨fo,dxf,aw,rfl,ad_,?_⟩;rw [er_];have hAf : ∀ H',H'=upd (upd H dxf (.own fo)) fo (.ins J.C_i dxf (frFs aw 0))->Same H H'/\H' fo=some (.ins J.C_i dxf (frFs aw 0)):=fun H' e=>by rw [e];exact ⟨aQ_ hfo hdxf,ad_⟩
 generalize hgA:upd (upd H dxf (HO.own fo)) fo (HO.ins J.C_i dxf (frFs aw 0))=H1;obtain ⟨s1,e1⟩:=hAf H1 hgA.symm;clear hgA hAf sA;refine ⟨rfl,dF_ ?_⟩;simp! [bE_,tFld];refine ⟨zero_le _,fun wl hwl=>⟨zero_le _,fun pl hpl=>?_⟩⟩;have s2:Same H1 (upd H1 wl (.lst [])):=Same.upd hwl;have e2:upd H1 wl (.lst []) wl=some (.lst []):=ad_;generalize upd H1 wl (.lst [])=H2 at s2 e2 hpl ⊢;have s3:Same H2 (upd H2 pl (.lst [])):=Same.upd hpl;have e3:upd H2 pl (.lst []) pl=some (.lst []):=ad_;generalize upd H2 pl (.lst [])=H3 at s3 e3 ⊢;have s03:=s1.trans (s2.trans s3);refine ⟨_,_,_,s03 _ _ t1,T.cl_b,T.n_aF,_,rfl,_,_,_,s03 _ _ t1,T.cl_b,T.n_aP,_,rfl,?_⟩;refine bw_ rfl fun wh dxw H4 hwh s4 e4=>dF_ ?_;simp! [bE_,jG_];intro rd hrd;have s5:Same H4 (upd H4 rd (.dK [])):=Same.upd hrd;have e5:upd H4 rd (.dK []) rd=some (.dK []):=ad_;generalize upd H4 rd (.dK [])=H5 at s5 e5 ⊢;refine bw_ rfl fun it0 dx0 H6 hit0 s6 e6=>⟨by decide,fun td htd=>?_⟩;have s7:Same H6 (upd H6 td (.lst [.ref it0])):=Same.upd htd;have e7:upd H6 td (.lst [.ref it0]) td=some (.lst [.ref it0]):=ad_;generalize upd H6 td (.lst [.ref it0])=H7 at s7 e7 ⊢;have hbd:=iI_ x;obtain ⟨new0,hnew⟩ : ∃ new0,new0=Vaunid.vNames away (away.length+Vaunid.bindings x) 0 (Vaunid.bindings x):=⟨_,rfl⟩;have hnl:new0.length=Vaunid.bindings x:=by
  rw [hnew];exact dD_ away _ 0 _ away (by omega) (fun _ _ _ q=>q) (Nat.le_refl _)
 have hfr:=nZ_ away (away.length+Vaunid.bindings x) 0 (Vaunid.bindings x);rw [<- hnew] at hfr;generalize hB:0+(away.length+Vaunid.bindings x)=B at hfr;have etgt:Vaunid.plainAway away x=(Vaunid.renamed [] new0 x).1:=by rw [hnew];rfl
 rw [etgt] at k;obtain ⟨tgt,htgt⟩ : ∃ tgt:Term,tgt = .one .fst (Vaunid.renamed [] new0 x).1:=⟨_,rfl⟩;have c17:=s2.trans (s3.trans (s4.trans (s5.trans (s6.trans s7))));have c37:=s4.trans (s5.trans (s6.trans s7));have c47:=s5.trans (s6.trans s7);have c57:=s6.trans s7;have s07:Same H H7:=s1.trans c17;have st0:PSt J.C_b J.C_h J.C_i H H7 td fo aw wh away B tgt { form:=Vaunid.txt "whole",y:=tgt,nw:=(Vaunid.renamed [] new0 x).2,env:=[],wi:=[],ws:=[],ts:=[],rest:=[(.p false,.inr x)] } [] [it0] [wh,wl,pl] [(rd,[])] new0:=by
  refine ⟨s07,?_,e7,⟨dxf,0,c17 _ _ e1,hfr⟩,by rw [htgt];rfl,fun z=>absurd rfl z,rfl,?_,?_,?_,?_⟩
  ·refine .bot (f:={ form:=Vaunid.txt "whole",y:=tgt,nw:=(Vaunid.renamed [] new0 x).2,env:=[],wi:=[],ws:=[],ts:=[],rest:=[(.p false,.inr x)] }) ⟨⟨dxw,b,e,?_⟩,c37 _ _ (s3 _ _ e2),⟨[],[],c37 _ _ e3,.nil,.nil⟩,.cons ⟨dx0,.ref a,s7 _ _ e6,⟨a,_,_,rfl,hrep',htr'⟩,rfl⟩ .nil⟩ (fun c m=>?_) rfl rfl
   ·rw [<- aI_]
    exact c47 _ _ e4
   rw [mem_singleton.mp m];intro z;cases z
  ·have c14:=s2.trans (s3.trans s4)
   have c46:=s5.trans s6;have a1:=af_ e1 hwl;have a2:=af_ (s2 _ _ e1) hpl;have a3:=af_ (s3 _ _ (s2 _ _ e1)) hwh;have a4:=af_ (c14 _ _ e1) hrd;have a5:=af_ (c46 _ _ (c14 _ _ e1)) htd;have b1:=af_ e2 hpl;have b2:=af_ (s3 _ _ e2) hwh;have b3:=af_ (s4 _ _ (s3 _ _ e2)) hrd;have b4:=af_ (c46 _ _ (s4 _ _ (s3 _ _ e2))) htd;have d1:=af_ e3 hwh;have d2:=af_ (s4 _ _ e3) hrd;have d3:=af_ (c46 _ _ (s4 _ _ e3)) htd;have f1:=af_ e4 hrd;have f2:=af_ (c46 _ _ e4) htd;have f3:=af_ (s6 _ _ e5) htd;simp [a1,a2,a3,a4,a5.symm,b1,b2.symm,b3,b4.symm,d1.symm,d2,d3.symm,f1,f2.symm,f3.symm]
  ·intro q m
   simp only [cons_append,nil_append,map_cons,map_nil,mem_cons,not_mem_nil,or_false] at m;rcases m with rfl | rfl | rfl | rfl | rfl | rfl
   ·exact none_of (s03.trans (s4.trans (s5.trans s6))) htd
   ·exact hfo
   ·exact none_of s03 hwh
   ·exact none_of s1 hwl
   ·exact none_of (s1.trans s2) hpl
   exact none_of (s03.trans s4) hrd
  ·intro p m
   rw [mem_singleton.mp m];exact ⟨[],c57 _ _ e5,DEnv.nil,by show 0+_<=600;omega⟩
  show Vaunid.bindings x+0+0<=_;omega
 obtain ⟨Pv,hPv⟩ : ∃ Pv:Nat->L2.St->Hp->Prop,Pv=fun m σ H'=>∃ f fs its own ds new z5 z6,m=msF (f::fs)/\m<=900/\σ=[some (.ref a),some (.ref aw),some (.ref fo),some (.ref wh),some (.ref td),z5,z6]/\PSt J.C_b J.C_h J.C_i H H' td fo aw wh away B tgt f fs its own ds new:=⟨_,rfl⟩;refine dF_ (b5_ Pv (3 * szX x+0+0) (by rw [hPv];exact ⟨_,_,_,_,_,_,none,none,rfl,by omega,rfl,st0⟩) fun m σ H' hp=>?_);rw [hPv] at hp;obtain ⟨f1,fs1,its,own1,ds1,new,z5,z6,rfl,hm,rfl,p1⟩:=hp;obtain ⟨f,fs,own,ds,p,hnorm,hms⟩:=p1.norm;rw [<- hms];rw [<- hms] at hm;clear p1 hms;obtain ⟨n,its1,its2,wlf,plf,od,id,Ff,own2,ds2,ha,hb,ei,eo,ed,eod⟩:=p.stk.top;have hil:=p.stk.len;have hto:=p.todo;simp! [tFld];by_cases hsk:its=[]
 ·refine ⟨false,.inl ⟨_,SqL.of hto,by rw [hsk];rfl⟩,?_⟩
  rw [if_neg (by simp)];have hi1:its1=[]:=(List.append_eq_nil_iff.mp (ei.symm.trans hsk)).1;have hr0:f.rest=[]:=List.length_eq_zero_iff.mp (by rw [<- Paired.length ha.items,hi1];rfl);have hfs:fs=[]:=hnorm.resolve_left fun z=>z hr0;subst hfs;obtain ⟨rfl,_⟩:=hb;have ey:f.y=tgt:=p.und;have ok:=p.ok;unfold RF.ok at ok;rw [hr0,ey,htgt] at ok;have ets:f.ts=[(Vaunid.renamed [] new0 x).1]:=congrArg (·.2.1) ok;obtain ⟨⟨dxn2,b2,e2',h1⟩,h2,⟨as2,trs,h3,h4,h5⟩,h6⟩:=ha;rw [ets] at h5;cases h5 with
  | cons r1 r2 =>
  cases r2;cases h4 with
  | cons q1 q2 =>
  cases q2;exact ⟨_,_,_,h1,T.cl_b,T.n_aB,_,rfl,_,rfl,_,SqL.of h3,_,rfl,k _ _ _ _ p.same r1 q1⟩
 refine ⟨true,.inl ⟨_,SqL.of hto,by cases its with | nil=>exact absurd rfl hsk | cons q r=>simp⟩,?_⟩;rw [if_pos rfl];refine ⟨_,fun _ _ z=>z,?_⟩;have hcase : ∃ c r it its1',f.rest=c::r/\its1=it::its1':=by
  cases hr0:f.rest with
  | nil =>
   have hfs:fs=[]:=hnorm.resolve_left fun z=>z hr0;subst hfs;have hi1:its1=[]:=List.length_eq_zero_iff.mp (by rw [Paired.length ha.items,hr0];rfl);obtain ⟨_,hi2,_⟩:=hb;exact absurd (by rw [ei,hi1,hi2];rfl) hsk
  | cons c r =>
  cases its1 with
  | nil=>have:=Paired.length ha.items;rw [hr0] at this;cases this
  | cons it its1'=>exact ⟨c,r,it,its1',rfl,rfl⟩
 obtain ⟨c,r,it,its1',hr0,rfl⟩:=hcase;have hto':H' td=some (.lst ((its1'++its2).reverse.map V.ref++[.ref it])):=by
  rw [hto,ei,cons_append,reverse_cons,map_append];rfl
 refine bM_ (fun σ' H2=>σ'=[some (.ref a),some (.ref aw),some (.ref fo),some (.ref wh),some (.ref td),some (.ref it),z6]/\H2=upd H' td (.lst ((its1'++its2).reverse.map V.ref))) (fun X hX=>?_) (fun σ' H2 hh=>?_)
 ·simp! [tBM0,rPop]
  refine ⟨.inl ⟨rfl,_,SqL.of hto⟩,_,hto',V.ref it,by simp,?_⟩;rw [dropLast_concat];exact hX _ _ ⟨rfl,rfl⟩
 obtain ⟨rfl,rfl⟩:=hh;have sx1:ai_ [td] H' (upd H' td (.lst ((its1'++its2).reverse.map V.ref))):=ai_.upd (mem_singleton.mpr rfl);have ht1:upd H' td (.lst ((its1'++its2).reverse.map V.ref)) td=some (.lst ((its1'++its2).reverse.map V.ref)):=ad_;generalize upd H' td (.lst ((its1'++its2).reverse.map V.ref))=H8 at sx1 ht1 ⊢;simp! [tFld,dG_,tBM,a4_];have ha':=ha;obtain ⟨⟨dxn2,b2,e2',h1⟩,h2,⟨as2,trs,h3,h4,h5⟩,h6⟩:=ha';rw [hr0] at h6;cases h6 with
 | cons h7 h8 =>
 obtain ⟨dxu,v,hitv,hpc,hwk⟩:=h7;have nd:=p.nd;rw [eo,ed] at nd;obtain ⟨o1,o2,o3,o4⟩:=pdj nd;simp only [nodup_cons,mem_cons,not_or,not_mem_nil,not_false_eq_true,and_true,List.nodup_nil] at o3;obtain ⟨⟨a1,a2,a3,a4,a5⟩,⟨b1,b2x,b3,b4⟩,⟨c1,c2,c3⟩,⟨d1,d2⟩,ee1⟩:=o3;have lift : ∀ {q:Addr}{o:HO},H' q=some o->q≠td->H8 q=some o:=fun {q o} h n=>sx1 _ _ (nin n) h;have nl : ∀ {q:Addr}{o:HO},H' q=some o->(∀ l,¬ o = .lst l)->q≠td:=fun {q o} h n=>be_ h hto' (n _);have hit8:=lift hitv (nl hitv (by intro l z;cases z));have hn8:=lift h1 (Ne.symm a2);have hw8:=lift h2 (Ne.symm a3);have hp8:=lift h3 (Ne.symm a4);have hlen:=p.ok.len;have s08:Same H H8:=sx1.base p.same fun q m=>by rw [mem_singleton.mp m];exact p.fr td (mem_cons_self ..)
 obtain ⟨kk,pv⟩:=c;cases kk with
 | p bb =>
  cases pv with
  | inl wd=>cases hwk
  | inr t =>
  obtain ⟨ac,trt,Ft,rfl,hrt,htt⟩:=hpc;refine ⟨_,_,_,hit8,T.cl_h,T.n_aC,_,rfl,_,.inr (T.t_aa H8),rfl,rfl,?_⟩;have e5:inV (V.str (ofString (SK.p bb).w)) [V.str (ofString "part"),V.str (ofString "body")]=true:=by
   rw [aI_,bg_,in_S,decide_eq_true (by cases bb <;> left)]
  rw [e5,if_pos rfl];have edd:(if (SK.p bb)=SK.p false then od else id)=(if bb=false then od else id):=by cases bb <;> simp
  have hit9:H8 it=some (.ins J.C_h dxu (unFs (ofString (SK.p bb).w) (.ref ac) n (if bb=false then od else id))):=by rw [<- edd];exact hit8
  have env:(if bb=false then od else id,envB bb f)∈ds:=by
   unfold envB;cases bb with
   | false=>exact eod
   | true=>rw [ed];exact mem_cons_self ..
  obtain ⟨kv,k1,k2,k3⟩:=p.dct _ env;have k18:=lift k1 (nl k1 (by intro l z;cases z));refine ⟨td,it,ac,n,_,plf,dxu,wlf,dxn2,_,t,trt,Ft,H,kv,envB bb f,_,_,S f.form,(b2:Int),(e2':Int),hit9,s08,hrt,htt,hn8,hp8,?_,k18,k2,ht1,?_,a4,p.fr plf (by rw [eo];simp),p.fr td (mem_cons_self ..),fun c dxc wlc plc idc itsc b' e' H9 sx9 g1 g2 g3 g4 g5 g6 g7 g8 g9=>?_⟩
  ·rw [length_map,append_nil,h4.length,<- h5.length]
   omega
  ·rw [length_map,length_reverse]
   rw [ei,cons_append,length_cons] at hil;omega
  have pu:=p.push hr0 ha hb eo ed eod ((sx1.more (by simp)).trans sx9) h3 g1 g2 g3 g4 k1 g5 g6 g7 g8 fun q m=>eh_ sx1 (fun z=>by
   have:=g9 q m;rw [mem_singleton.mp z,ht1] at this;cases this) (g9 q m)
  refine ⟨_,pu.2,?_⟩;rw [hPv];exact ⟨_,_,_,_,_,_,_,_,rfl,by have:=pu.2;omega,rfl,pu.1⟩
 | n =>
  cases pv with
  | inr t=>cases hwk
  | inl wd =>
  have hv:v = .str (S wd):=hpc;subst hv;refine ⟨_,_,_,hit8,T.cl_h,T.n_aC,_,rfl,_,.inr (T.t_aa H8),rfl,rfl,?_⟩;have e5:inV (V.str (ofString SK.n.w)) [V.str (ofString "part"),V.str (ofString "body")]=false:=by
   rw [aI_,bg_,in_S,decide_eq_false (by left)]
  rw [e5,if_neg (by simp)];refine ⟨_,_,_,hit8,T.cl_h,T.n_aC,_,rfl,rfl,?_⟩;rw [if_pos (by rfl)];obtain ⟨dxf2,i,f1,f2⟩:=p.gv;have f18:=lift f1 (nl f1 (by intro l z;cases z));have hnd:=p.need;have hnd2:cO_ (f::fs)=1+ck_ r+cO_ fs:=by show ck_ f.rest+cO_ fs=_;rw [hr0];rfl
  cases new with
  | nil=>rw [hnd2] at hnd;simp at hnd
  | cons v0 l =>
  refine dF_ ?_;simp! [dG_];refine ⟨_,_,f18,rfl,fo,_,aw,i,B,away,v0,l,f18,s08 _ _ haw,f2,by omega,fun j hj=>dF_ ?_⟩;rw [if_neg (by intro z;cases z)] at hit8;obtain ⟨kv,k1,k2,k3⟩:=p.dct (id,f.wi) (by rw [ed];exact mem_cons_self ..);have k18:=lift k1 (Ne.symm a5);have sx9:ai_ [fo] H8 (upd H8 fo (.ins J.C_i dxf2 (frFs aw (j:Int)))):=ai_.upd (mem_singleton.mpr rfl);have e9:upd H8 fo (.ins J.C_i dxf2 (frFs aw (j:Int))) fo=some (.ins J.C_i dxf2 (frFs aw (j:Int))):=ad_;generalize upd H8 fo (.ins J.C_i dxf2 (frFs aw (j:Int)))=H9 at sx9 e9 ⊢;simp! [nq_,tFld,tBM,a4_];have it9:=sx9 _ _ (nin (be_ hit8 f18 (by intro z;injection z with _ _ z;exact om_ z))) hit8;have id9:=sx9 _ _ (nin (Ne.symm b4)) k18;have hkl:kv.length+(l.length+1)<=600:=k3;refine ⟨_,_,_,it9,T.cl_h,T.n_aH,_,rfl,_,_,_,it9,T.cl_h,T.n_aQ,_,rfl,_,rfl,_,DPut.k (k:=Sum.inr (S wd)) id9 (Nat.lt_of_le_of_lt (show _<=600 by omega) (by decide)),?_⟩;have sx10:ai_ [id] H9 (upd H9 id (.dK (putK kv (Sum.inr (S wd)) (.str (S v0))))):=ai_.upd (mem_singleton.mpr rfl);have e10:upd H9 id (.dK (putK kv (Sum.inr (S wd)) (.str (S v0)))) id=some (.dK (putK kv (Sum.inr (S wd)) (.str (S v0)))):=ad_;generalize upd H9 id (.dK (putK kv (Sum.inr (S wd)) (.str (S v0))))=H10 at sx10 e10 ⊢;have it10:=sx10 _ _ (nin (be_ it9 id9 (by intro z;cases z))) it9;have n10:=sx10 _ _ (nin c3) (sx9 _ _ (nin (Ne.symm b1)) hn8);have wl10:=sx10 _ _ (nin d2) (sx9 _ _ (nin (Ne.symm b2x)) hw8);refine ⟨_,_,_,it10,T.cl_h,T.n_aR,_,rfl,_,rfl,_,_,_,n10,T.cl_b,T.n_ax,_,rfl,.inl ⟨rfl,_,SqL.of wl10⟩,_,rfl,_,wl10,by rw [length_map,length_map];exact Nat.lt_of_le_of_lt hlen.1 (by decide),?_⟩
  have sx11:ai_ [wlf] H10 (upd H10 wlf (.lst ((f.ws.map S).map V.str++[.str (S v0)]))):=ai_.upd (mem_singleton.mpr rfl);have e11:upd H10 wlf (.lst ((f.ws.map S).map V.str++[.str (S v0)])) wlf=some (.lst ((f.ws.map S).map V.str++[.str (S v0)])):=ad_;generalize upd H10 wlf (.lst ((f.ws.map S).map V.str++[.str (S v0)]))=H11 at sx11 e11 ⊢;have hms1:msF (f::fs)=1+msC r+msF fs:=by show msC f.rest+msF fs=_;rw [hr0];rfl
  have ps:=p.step (f':={ f with rest:=r,ws:=f.ws++[v0],wi:=(wd,v0)::f.wi }) (new':=l) rfl rfl rfl rfl rfl (fun c m=>by rw [hr0];exact mem_cons_of_mem _ m) (fun z=>by
    subst z;obtain ⟨_,_,_,_,_,hno,_⟩:=hb;exact absurd rfl (hno (SK.n,.inl wd) (by rw [hr0];exact mem_cons_self ..)))
   ha hb eo ed ((sx1.more (by simp)).trans ((sx9.more (by simp)).trans ((sx10.more (by simp)).trans (sx11.more (by simp))))) h8 (by rw [e11,map_append,map_append];rfl)
   (sx11 _ _ (nin a3) (sx10 _ _ (nin a5) (sx9 _ _ (nin a1) ht1))) ⟨dxf2,j,sx11 _ _ (nin b2x) (sx10 _ _ (nin b4) e9),hj⟩ (by
    have ok:=p.ok;unfold RF.ok at ok;rw [hr0] at ok;exact ok)
   ⟨_,sx11 _ _ (nin (Ne.symm d2)) e10,k2.put wd v0,by have:=lF_ kv (Sum.inr (S wd)) (.str (S v0));omega⟩ (le_succ _) (by
    rw [hnd2] at hnd;show ck_ r+cO_ fs<=l.length;rw [length_cons] at hnd;omega)
  have hms2:msF ({ f with rest:=r,ws:=f.ws++[v0],wi:=(wd,v0)::f.wi }::fs)=msC r+msF fs:=rfl;refine ⟨msC r+msF fs,by omega,?_⟩;rw [hPv];exact ⟨_,_,_,_,_,_,_,_,hms2.symm,by omega,rfl,ps⟩
 | pw =>
 cases pv with
 | inr t=>cases hwk
 | inl wd =>
 have hv:v = .str (S wd):=hpc;subst hv;refine ⟨_,_,_,hit8,T.cl_h,T.n_aC,_,rfl,_,.inr (T.t_aa H8),rfl,rfl,?_⟩;have e5:inV (V.str (ofString SK.pw.w)) [V.str (ofString "part"),V.str (ofString "body")]=false:=by
  rw [aI_,bg_,in_S,decide_eq_false (by left)]
 rw [e5,if_neg (by simp)];refine ⟨_,_,_,hit8,T.cl_h,T.n_aC,_,rfl,rfl,?_⟩;rw [if_neg (by simp only [V.str.injEq];left)];obtain ⟨kv,k1,k2,k3⟩:=p.dct (id,f.wi) (by rw [ed];exact mem_cons_self ..);obtain ⟨dxf2,i,f1,f2⟩:=p.gv;refine ⟨_,_,_,hit8,T.cl_h,T.n_aR,_,rfl,_,rfl,_,_,_,hn8,T.cl_b,T.n_ax,_,rfl,.inl ⟨rfl,_,SqL.of hw8⟩,_,_,_,hit8,T.cl_h,T.n_aQ,_,rfl,_,rfl,_,hw8,by rw [length_map,length_map];exact Nat.lt_of_le_of_lt hlen.1 (by decide),?_⟩;have sx11:ai_ [wlf] H8 (upd H8 wlf (.lst ((f.ws.map S).map V.str++[.str (S wd)]))):=ai_.upd (mem_singleton.mpr rfl);have e11:upd H8 wlf (.lst ((f.ws.map S).map V.str++[.str (S wd)])) wlf=some (.lst ((f.ws.map S).map V.str++[.str (S wd)])):=ad_;generalize upd H8 wlf (.lst ((f.ws.map S).map V.str++[.str (S wd)]))=H11 at sx11 e11 ⊢;have hms1:msF (f::fs)=1+msC r+msF fs:=by show msC f.rest+msF fs=_;rw [hr0];rfl
 have hnd:=p.need;have hnd2:cO_ (f::fs)=ck_ r+cO_ fs:=by show ck_ f.rest+cO_ fs=_;rw [hr0];rfl
 have ps:=p.step (f':={ f with rest:=r,ws:=f.ws++[wd] }) (new':=new) rfl rfl rfl rfl rfl (fun c m=>by rw [hr0];exact mem_cons_of_mem _ m) (fun _=>rfl)
  ha hb eo ed ((sx1.more (by simp)).trans (sx11.more (by simp))) h8 (by rw [e11,map_append,map_append];rfl)
  (sx11 _ _ (nin a3) ht1) ⟨dxf2,i,sx11 _ _ (nin b2x) (lift f1 (Ne.symm a1)),f2⟩ (by
   have ok:=p.ok;unfold RF.ok at ok;rw [hr0] at ok;exact ok)
  ⟨_,sx11 _ _ (nin (Ne.symm d2)) (lift k1 (Ne.symm a5)),k2,k3⟩ (Nat.le_refl _) (by
   rw [hnd2] at hnd;exact hnd)
 have hms2:msF ({ f with rest:=r,ws:=f.ws++[wd] }::fs)=msC r+msF fs:=rfl;refine ⟨msC r+msF fs,by omega,?_⟩;rw [hPv];exact ⟨_,_,_,_,_,_,_,_,hms2.symm,by omega,rfl,ps⟩
def jS_:Sp:=fun vs H Q _=>∃ l:List Nat,vs=[.str (S l)]/\l.length<=20000/\∀ (p:Addr) (H':Hp),Same H H'->H' p=some (.lst (bs l))->Q (.ref p) H'
theorem ok_ah (T:TX w K mg J):FnOk P w K mg base CX0 1 J.f_ah J.d_ah ["shown"] jS_:=by
 refine T.F_ah.fn.ok sc_ah fun _ _ _ _ H _ Q E hr h=>?_;obtain ⟨l,rfl,hl,k⟩:=h;refine ⟨_,(ae_ (an_ (kf_ rfl sc_ah.nd (kc_ (pv 0)) (dB_ (own:=[("sign",1)]) (by kernel_rfl)) (fun _ _ _ _ _=>pg_q 1 sc_ah.nd) (fun _ _ _ _ _=>eI_) (fun _ _ _ _ _=>(aD_ el_ rfl T.b_ord dA_ (aa_ (pv 1) ac_)))))),?_⟩;simp! [tSeq];refine gp_ (Its (S l)) (l.map fun d=>V.str ⟨#[d]⟩) (fun v=>match v with | .str x=>V.int (x.cps.getD 0 0:Nat) | _ => .non) (H1:=H) (fun R h=>?_) (by rw [length_map];exact Nat.le_trans hl (by decide)) (kM_ (x:=S l)) (fun x H' D acc Nx hx sm hD hacc nx=>?_) fun D H' hD sm e=>?_
 ·simp! [tSeq]
  exact h
 ·obtain ⟨d,hd,rfl⟩:=mem_map.mp hx
  simp! [tSeq];exact ⟨acc,hD,hacc,nx H' (Same.refl _)⟩
 refine k D H' sm ?_;rw [e,map_map];rfl
def pH_ (P:Program) (w:World) (K:Frag) (mg:zM) (base:Heap) (C f a:Addr) (t:List Nat) {A:Type} (res:Res A) (post:A->V->Hp->Prop):Prop:=∃ fd ps sp,FnOk P w K mg base (CX1 P w) 20 f fd ps sp/\bb_ K fd ps []/\keepIn K (.ref f)=true /\
 ∀ H Q E,SqL K H a (bs t)->RES C H Q E res post->sp [.ref a] H Q E
def AnsF (P:Program) (w:World) (K:Frag) (mg:zM) (base:Heap) (f:Addr) {A:Type} (res:Res A) (post:A->V->Hp->Prop) (ans:A->List Int):Prop:=∃ fd ps sp,FnOk P w K mg base CX0 20 f fd ps sp/\bb_ K fd ps []/\keepIn K (.ref f)=true /\
 ∀ x v H Q E,res = .ok x->post x v H->(∀ (p:Addr) (H':Hp),Same H H'->H' p=some (.lst ((ans x).map V.int))->Q (.ref p) H')->sp [v] H Q E
def iO_ (P:Program) (w:World) (K:Frag) (mg:zM) (base:Heap) (C:Addr):Sp:=fun vs H Q _=>∃ (a f g:Addr) (t:List Nat) (A:Type) (res:Res A) (post:A->V->Hp->Prop) (ans:A->List Int),vs=[.ref a,.ref f,.ref g]/\SqL K H a (bs t) /\
 (t.length<=2000->pH_ P w K mg base C f a t res post/\AnsF P w K mg base g res post ans)/\∀ (p:Addr) (H':Hp),Same H H'->H' p=some (.lst ((if long t=true then [-1] else Vaunid.reading res ans).map V.int))->Q (.ref p) H'
theorem ok_af (T:TX w K mg J):FnOk P w K mg base CX0 21 J.f_af J.d_af ["text","reading","answering"] (iO_ P w K mg base J.C_d):=by
 refine T.F_af.fn.ok sc_af fun _ _ _ _ H _ Q E hr h=>?_;obtain ⟨a,f,g,t,A,res,post,ans,rfl,ht,hF,k⟩:=h;refine ⟨_,(ab_ (aJ_ (al_ gO_ (aD_ aP_ rfl T.b_len PySem.boot_len (aa_ (pv 0) ac_)) (pe_g T.g_aO) (aw_ _)) (ae_ (an_ (aK_ (aa_ (pe_g T.g_a7) ac_)))) ar_)
  (ab_ (oL_ (i:=4) (ts:=tRet (tLst (fG_ (lr_ K (tVar 4) "kind") (fG_ (lr_ K (tVar 4) "place") tNil)))) T.X_d rfl T.G_d (sc_af).nd rfl rfl rfl rfl
    (fun pn E' D hx=>ae_ (ia_ (i:=3) (sc_af).nd rfl (Or.inl rfl) (lR_ (P:=P) (w:=w) (K:=K) (mg:=mg) (base:=base) (CX:=CX1 P w) (k:=20) 1 (hr.mono (by decide)) hx (aa_ (pv 0) ac_))))
    (fun a=>ae_ (an_ (aK_ (aa_ (ki_ (pv 4) rfl) (aa_ (ki_ (pv 4) rfl) ac_))))))
  (ae_ (an_ (ca_ (CX:=CX0) (k:=20) 2 (hr.mono (by decide)) aq_ (aa_ (pv 3) ac_)))))),?_⟩
 simp! [tSeq,mz_,ex_];refine ⟨bs t,.inl ht,?_⟩;rw [b3_];have elong:long t=decide (2000<t.length):=rfl;refine ite2 (fun h=>?_) fun h=>?_
 ·rw [elong,decide_eq_true (by omega)] at k
  exact ⟨by decide,fun p hp=>k p _ (Same.upd hp) ad_⟩
 rw [elong,decide_eq_false (by omega)] at k;obtain ⟨⟨fd1,ps1,sp1,F1,b1,k1,r1⟩,⟨fd2,ps2,sp2,F2,b2,k2,r2⟩⟩:=hF (by omega);refine ⟨fd1,ps1,sp1,F1,b1,k1,r1 _ _ _ ht ?_⟩;cases res with
 | ok x =>
  intro v H' s' hp;exact ⟨fd2,ps2,sp2,F2,b2,k2,r2 x v H' _ _ rfl hp fun p H2 s2 e=>k p H2 (s'.trans s2) e⟩
 | error e =>
 intro dx H' s' hdx;refine ⟨rfl,fun ax dx' e1 hax=>?_⟩;cases e1;have hne:dx≠ax:=af_ hdx hax;simp! [tSeq,lr_];have hd2:upd H' ax (XGot J.C_d ax dx) dx=some (XDic dx (kS_ (e.kind:Int) (e.place:Int))):=by rw [am_ hne];exact hdx
 exact ⟨_,_,_,rfl,_,hd2,T.X_d,T.n_bb,_,rfl,_,_,_,rfl,_,hd2,T.X_d,T.n_bc,_,rfl,by decide,fun p hp=>k p _ (s'.trans ((Same.upd hax).trans (Same.upd hp))) ad_⟩
def ho_ (f:List Int->List Int) (K:Frag):Sp:=fun vs H Q _=>∃ (a:Addr) (ns:List Int),vs=[.ref a]/\SqL K H a (ns.map V.int)/\ns.length<=10000/\(∀ n∈ns,0<=n/\n<=255)/\∀ (H':Hp) (p:Addr),H' p=some (.lst ((f ns).map V.int))->Q (.ref p) H'
theorem nS_ {ns:List Int} (h : ∀ n∈ns,0<=n/\n<=255):ns.map V.int=bs (ns.map Int.toNat):=by
 unfold bs;rw [map_map];refine List.map_congr_left fun n hn=>?_;show V.int n=V.int ((n.toNat:Nat):Int);rw [Int.toNat_of_nonneg (h n hn).1]
theorem m9_ {ns:List Int} (h : ∀ n∈ns,0<=n/\n<=255):VaunidNeutral.text? ns=some (ns.map Int.toNat):=by
 unfold VaunidNeutral.text?;rw [if_pos];unfold NeutralIO.bytes;exact all_eq_true.mpr fun n hn=>by have:=h n hn;simp;omega
def fd_ (Cn:Addr):Sp:=fun vs H Q _=>∃ (a:Addr) (x:Term) (tr:Tr) (F:List Addr),vs=[.ref a]/\Rep x tr/\TreeAt Cn H a tr F/\szX x<=300/\WB (allX x)/\∀ H',Same H H'->Q (.str (S (coreText x))) H'
theorem ok_aj (T:TX w K mg J):FnOk P w K mg base CX0 12 J.f_aj J.d_aj ["term"] (fd_ J.C_b):=by
 refine T.F_aj.fn.ok sc_aj fun _ _ _ _ H _ Q E hr h=>?_;obtain ⟨a,x,tr,F,rfl,hrep,htr,hsz,hwb,k⟩:=h;refine ⟨_,(ae_ (an_ (aF_ T.F_H (ok_H T) hr.m aq_ (aa_ (pv 0) (aa_ (pe_r T.F_I.mg) ac_))))),?_⟩;simp! [tSeq,ox_];have hlen:=aT_ x hwb;refine ⟨Term,fun y v _=>PcAt J.C_b H v (.inr y),pcsX,⟨fun _ _ _ _ _ h _ _=>h,fun y v H1 h s1=>?_,?_⟩,coreText,fun y=>14 * szX y,x,⟨a,tr,F,rfl,hrep,htr⟩,kk_,pm_,(show 14 * szX x<=1000000 by omega),by omega,k⟩
 ·obtain ⟨b,tb,G,rfl,_,hb⟩:=h
  cases hb with
  | @mk _ dxn wl pl _ _ _ _ as _ G t1 t2 t3 t4 =>
  exact ⟨_,.ins (s1 _ _ t1) T.cl_b T.ns_b.ha T.ns_b.hn T.ns_b.htk T.ns_b.hm,T.ns_b.ks⟩
 refine ⟨_,_,_,(ok_I (P:=P) (base:=base) T).mono (by decide),T.F_I.b,T.F_I.fn.kp,fun y v H1 Q E h s1 k1=>?_⟩;obtain ⟨b,tb,G,rfl,hr,hb⟩:=h;refine ⟨b,y,tb,G,H,rfl,s1,hr,hb,fun p us H2 hp s2 e2 pu=>k1 p us H2 hp s2 e2 (Paired.mapP pu fun _ c q=>?_)⟩;cases c with
 | inl w=>exact q
 | inr y=>exact q
def gu_:Sp:=fun vs H Q _=>∃ l:List Nat,vs=[.str (S l)]/\l.length<=7000000/\∀ (p:Addr) (H':Hp),Same H H'->H' p=some (.lst ((answerText l).map V.int))->Q (.ref p) H'
theorem ok_ar (T:TX w K mg J):FnOk P w K mg base CX0 2 J.f_ar J.d_ar ["shown"] gu_:=by
 refine T.F_ar.fn.ok sc_ar fun _ _ _ _ H _ Q E hr h=>?_;obtain ⟨l,rfl,hl,k⟩:=h;refine ⟨_,(ab_ (aJ_ (al_ gO_ (aD_ aX_ rfl T.b_len PySem.boot_len (aa_ (pv 0) ac_)) (pe_g T.g_aO) (aw_ _)) (ae_ (an_ (aK_ (aa_ (pe_g T.g_a8) ac_)))) ar_)
  (ae_ (an_ (bf_ mQ_ (aK_ (aa_ ak_ ac_)) (aF_ T.F_ah (ok_ah T) hr.m aq_ (aa_ (pv 0) ac_)))))),?_⟩
 have el:long l=decide (2000<l.length):=rfl;unfold answerText at k;rw [el] at k;simp! [tSeq,rCat,jS_,ce_];have small : ∀ n:Nat,n<=7000000->n<=sizeLine:=fun n h=>Nat.le_trans h (by decide);refine ⟨small _ hl,ite2 (fun h=>?_) fun h=>?_⟩
 ·rw [decide_eq_true (show 2000<l.length by omega),if_pos rfl] at k
  exact ⟨by decide,fun p hp=>k p _ (Same.upd hp) ad_⟩
 rw [decide_eq_false (show ¬ 2000<l.length by omega),if_neg (by simp)] at k;refine ⟨by decide,fun p hp=>⟨by omega,fun q H1 s1 e1=>⟨_,s1 _ _ ad_,_,e1,?_,fun r hr=>k r _ ((Same.upd hp).trans (s1.trans (Same.upd hr))) ?_⟩⟩⟩
 ·rw [b3_]
  exact small _ (by show 1+l.length<=_;omega)
 rw [ad_];unfold Vaunid.numbers bs;rw [map_cons,map_map];rfl
def jP_ (Cn:Addr):Sp:=fun vs H Q _=>∃ (a:Addr) (x:Term) (tr:Tr) (F:List Addr),vs=[.ref a]/\Rep x tr/\TreeAt Cn H a tr F/\szX x<=300/\∀ (p:Addr) (tr':Tr) (F':List Addr) (H':Hp),Same H H'->Rep (Vaunid.plain x) tr'->TreeAt Cn H' p tr' F'->Q (.ref p) H'
theorem ok_ak (T:TX w K mg J):FnOk P w K mg base CX0 5 J.f_ak J.d_ak ["term"] (jP_ J.C_b):=by
 refine T.F_ak.fn.ok sc_ak fun _ _ _ _ H _ Q E hr h=>?_;obtain ⟨a,x,tr,F,rfl,hrep,htr,hsz,k⟩:=h;refine ⟨_,(ae_ (an_ (aF_ T.F_B (ok_B T) hr.m aq_ (aa_ (pv 0) (aa_ (aF_ T.F_y (ok_y T) hr.m aq_ (aa_ (pv 0) ac_)) ac_))))),?_⟩;simp! [tSeq,mD_];refine ⟨x,tr,hrep,F,htr,hsz,fun p H1 s1 e1=>?_⟩;have:=iA_ x;exact ⟨a,p,x,tr,F,Vaunid.free x,hrep,htr.same s1,e1,by omega,hsz,fun q tr' F' H' s2 r2 t2=>k q tr' F' H' (s1.trans s2) r2 t2⟩
theorem lK_ (x:Term):szX (Vaunid.plain x)=szX x:=os_ x _ _
theorem lJ_ (x:Term) (hs:szX x<=300) (h:WB (allX x)):WB (allX (Vaunid.plain x)):=by
 have h1:=iI_ x;have h2:=iA_ x;exact bz_ x [] _ (fun p m=>by cases m) (Fr.wb (by omega) (nZ_ (Vaunid.free x) ((Vaunid.free x).length+Vaunid.bindings x) 0 (Vaunid.bindings x))) h
def iN_ (Cn:Addr):Sp:=fun vs H Q _=>∃ (x:Term) (v:V),vs=[v]/\eg_ Cn x v H/\∀ (p:Addr) (H':Hp),Same H H'->H' p=some (.lst ((answerText (coreText (Vaunid.plain x))).map V.int))->Q (.ref p) H'
theorem ok_ag (T:TX w K mg J):FnOk P w K mg base CX0 13 J.f_ag J.d_ag ["term"] (iN_ J.C_b):=by
 refine T.F_ag.fn.ok sc_ag fun _ _ _ _ H _ Q E hr h=>?_;obtain ⟨x,v,rfl,⟨a,tr,F,rfl,hrep,htr,hfl,hdp,hwb⟩,k⟩:=h;refine ⟨_,(ae_ (an_ (aF_ T.F_ar (ok_ar T) hr.m aq_ (aa_ (aF_ T.F_aj (ok_aj T) hr.m aq_ (aa_ (aF_ T.F_ak (ok_ak T) hr.m aq_ (aa_ (pv 0) ac_)) ac_)) ac_)))),?_⟩;have hsz:szX x<=300:=by rw [<- oH_ hrep 1];exact hfl
 have hsz2:=lK_ x;have hwb2:=lJ_ x hsz hwb;have hlen:=aT_ (Vaunid.plain x) hwb2;rw [hsz2] at hlen;simp! [tSeq,jP_,fd_,gu_,ce_];exact ⟨x,tr,hrep,F,htr,hsz,fun p tr' F' H1 s1 r1 t1=>⟨Vaunid.plain x,tr',r1,F',t1,by omega,hwb2,fun H2 s2=>⟨by omega,fun q H3 s3 e3=>k q H3 (s1.trans (s2.trans s3)) e3⟩⟩⟩
theorem kX_ {ns:List Int} (h : ∀ n∈ns,0<=n/\n<=255):PyVaunid.plain ns=if long (ns.map Int.toNat)=true then [-1] else Vaunid.reading (readCore (ns.map Int.toNat)) fun x=>answerText (coreText (Vaunid.plain x)):=by
 have e:VaunidNeutral.callOf [[8],ns]=some (.plain (ns.map Int.toNat)):=by
  show (VaunidNeutral.text? ns).map _=_;rw [m9_ h];rfl
 unfold PyVaunid.plain VaunidNeutral.step;rw [e];rfl
theorem nJ_ (T:TX w K mg J):FnOk P w K mg base CX0 22 J.f_j J.d_j ["text"] (ho_ PyVaunid.plain K):=by
 refine T.F_j.fn.ok sc_j fun _ _ _ _ H _ Q E hr h=>?_;obtain ⟨a,ns,rfl,ht,hl,hn,k⟩:=h;refine ⟨_,(ae_ (an_ (aF_ T.F_af (ok_af T) hr.m aq_ (aa_ (pv 0) (aa_ (pe_r T.F_z.mg) (aa_ (pe_r T.F_ag.mg) ac_)))))),?_⟩;simp! [tSeq];rw [nS_ hn] at ht;rw [kX_ hn] at k;refine ⟨a,_,_,ns.map Int.toNat,_,readCore (ns.map Int.toNat),eg_ J.C_b,_,rfl,ht,fun h2=>⟨?_,?_⟩,fun p H' _ e=>k H' p e⟩
 ·exact ⟨_,_,_,(ok_z T).mono (by decide),T.F_z.b,T.F_z.fn.kp,fun H Q E h1 h3=>⟨a,_,rfl,h1,by rw [length_map];omega,h3⟩⟩
 exact ⟨_,_,_,(ok_ag T).mono (by decide),T.F_ag.b,T.F_ag.fn.kp,fun x v H Q E e h1 h3=>⟨x,v,rfl,h1,h3⟩⟩
end
set_option maxHeartbeats 4000000
open PySem.W (Codec nsIn findIn)
def FnIn (K:Frag) (nm qual:Str) (st:Stmt) (f:Addr):Prop:=∃ (oc kV dc pm cd ct:Value) (od an:Option Addr) (sl:Array (Option Value)),K.lookup f=some ⟨oc,od,.func (fnOf nm qual (c8_ st) (bV_ st) (ag_ st) .none kV dc pm an cd ct),sl⟩/\codeIn K cd qual=true/\keepIn K (.ref f)=true
theorem FnIn.fn {K:Frag}{nm qual:Str}{st:Stmt}{f:Addr} (h:FnIn K nm qual st f) : ∃ d,Fun K nm qual st f d:=by
 obtain ⟨oc,kV,dc,pm,cd,ct,od,an,sl,l,c,k⟩:=h;exact ⟨_,mT_ l c k⟩
theorem mo {K:Frag}{h:Heap}{mg:zM} (X:K.In h) (G:h.Ns mainGlobals mg) {x:Str}{u:Value} (e:PySem.W.nsIn K mainGlobals x=some (some u)):mg x=some u:=PySem.W.mg_of X G e
theorem mn {K:Frag}{h:Heap}{mg:zM} (X:K.In h) (G:h.Ns mainGlobals mg) {x:Str} (e:PySem.W.nsIn K mainGlobals x=some none):mg x=none:=PySem.W.mg_none_of X G e
theorem ln0 {Q:List Value->Prop} (h:Q []) : ∀ us:List Value,us.length=0->Q us
 | [],_=>h
theorem lnS {n:Nat}{Q:List Value->Prop} (h : ∀ a us,us.length=n->Q (a::us)) : ∀ us:List Value,us.length=n+1->Q us
 | a::us,e=>h a us (Nat.succ.inj e)
theorem ln1 {Q:List Value->Prop} (h : ∀ a,Q [a]) : ∀ us:List Value,us.length=1->Q us:=lnS fun a=>ln0 (Q:=fun l=>Q (a::l)) (h a)
theorem ln2 {Q:List Value->Prop} (h : ∀ a b,Q [a,b]) : ∀ us:List Value,us.length=2->Q us:=lnS fun a=>ln1 (Q:=fun l=>Q (a::l)) (h a)
theorem ln3 {Q:List Value->Prop} (h : ∀ a b c,Q [a,b,c]) : ∀ us:List Value,us.length=3->Q us:=lnS fun a=>ln2 (Q:=fun l=>Q (a::l)) (h a)
theorem ln4 {Q:List Value->Prop} (h : ∀ a b c d,Q [a,b,c,d]) : ∀ us:List Value,us.length=4->Q us:=lnS fun a=>ln3 (Q:=fun l=>Q (a::l)) (h a)
theorem ln5 {Q:List Value->Prop} (h : ∀ a b c d e,Q [a,b,c,d,e]) : ∀ us:List Value,us.length=5->Q us:=lnS fun a=>ln4 (Q:=fun l=>Q (a::l)) (h a)
theorem ln6 {Q:List Value->Prop} (h : ∀ a b c d e f,Q [a,b,c,d,e,f]) : ∀ us:List Value,us.length=6->Q us:=lnS fun a=>ln5 (Q:=fun l=>Q (a::l)) (h a)
theorem _root_.Internal.L2.Fun.b {K:Frag}{x qual:Str}{st:Stmt}{f:Addr}{fd:FuncData}{ps:List Str} (F:Fun K x qual st f fd) (h : ∀ (kV doc pm:Value) (an:Option Addr) (cdv ct:Value) (us:List Value),us.length=ps.length->bindArgs (fnOf x qual (c8_ st) (bV_ st) (ag_ st) .none kV doc pm an cdv ct) ⟨us,[]⟩=pure (ps.zip us):=by
  intro _ _ _ _ _ _;first | exact ln1 fun _=>rfl | exact ln2 fun _ _=>rfl | exact ln3 fun _ _ _=>rfl | exact ln4 fun _ _ _ _=>rfl | exact ln5 fun _ _ _ _ _=>rfl | exact ln6 fun _ _ _ _ _ _=>rfl):bb_ K fd ps []:=F.binds h
theorem o0_ {K:Frag}{C:Addr} (h:mroIn K C (.type "str")=some false):kitOne K (.ref C) (.type "str")=some false:=by
 unfold kitOne PySem.W.kitCls;rw [if_neg (by intro z;simp at z)];show (if PySem.W.kitMeta "str"=true then PySem.W.subIn K (.ref C) (.type "str") else none)=_;rw [if_pos (by left)];unfold PySem.W.subIn;exact h
theorem a3_ {K:Frag}{H:Hp}{a:Addr}{od:Option Addr}{its:Array Value}{n:Nat}{sl:Array (Option Value)}{vs:List V} (l:K.lookup a=some ⟨.type "tuple",od,.seq its n,sl⟩) (v:Vals vs its.toList) (hs:vs.length<=sizeLine):SqT K H a vs :=
 .inr ⟨_,its,n,l,rfl,rfl,by rw [<- Array.length_toList,<- L2.Vals.length v];exact hs,v⟩
set_option hygiene false
local macro_rules
 | `($x ^^^ $y) => `(nsIn K mainGlobals $x=some (some $y))
local macro_rules
 | `($x ||| $y) => `(findIn K (.ref $x) $y=some none)
set_option hygiene true
theorem po_ {P:Program}{w:World}{K:W.Frag}{h:Heap}{mg:zM}{fa:Addr} (X:K.In h) (G:h.Ns mainGlobals mg) (hfa:mg "plain"=some (.ref fa))
  {t_aJ t_aW t_aX t_aY t_aZ t_a0 t_aK t_a1 t_aL t_a2 t_a3 t_aM t_a4 t_a5 t_a6 t_aN t_aO t_a7 t_a8:Tok}{a_au a_as a_aa a_a ad_a_0 ad_a_1 ad_a_2 ad_a_3 ad_a_4 ad_a_5 ad_a_6 ad_a_7 ad_a_8 ad_a_9 ad_a_10 ad_a_11 ad_a_12 ad_a_13 ad_a_14 ad_a_15 ad_a_16 ad_a_17 ad_a_18 ad_a_19 ad_a_20 a_av a_aw a_at C_d N_d C_b C_i C_h C_e C_c C_f C_g f_n f_r f_O f_s f_F f_A f_w f_P f_k f_l f_p f_x f_G f_ab f_aj f_H f_I f_t f_y f_ak f_B f_C f_al f_J f_m f_D f_K f_Q f_R f_o f_am f_q f_ac f_L f_u f_S f_T f_U f_V f_an f_ao f_E f_ap f_M f_W f_N f_X f_v f_ad f_ae f_z f_ai f_Y f_Z f_aq f_j f_af f_ag f_ar f_ah:Addr}{od_au od_as od_aa od_av od_aw od_at dd_d od_j an_j:Option Addr}{its_au its_as its_aa its_a_0 its_a_1 its_a_2 its_a_3 its_a_4 its_a_5 its_a_6 its_a_7 its_a_8 its_a_9 its_a_10 its_a_11 its_a_12 its_a_13 its_a_14 its_a_15 its_a_16 its_a_17 its_a_18 its_a_19 its_a_20 its_av its_aw its_at:Array Value}{n_au n_as n_aa ep_a n_a_0 n_a_1 n_a_2 n_a_3 n_a_4 n_a_5 n_a_6 n_a_7 n_a_8 n_a_9 n_a_10 n_a_11 n_a_12 n_a_13 n_a_14 n_a_15 n_a_16 n_a_17 n_a_18 n_a_19 n_a_20 n_av n_aw n_at:Nat}{sl_au sl_as sl_aa sl_a_0 sl_a_1 sl_a_2 sl_a_3 sl_a_4 sl_a_5 sl_a_6 sl_a_7 sl_a_8 sl_a_9 sl_a_10 sl_a_11 sl_a_12 sl_a_13 sl_a_14 sl_a_15 sl_a_16 sl_a_17 sl_a_18 sl_a_19 sl_a_20 sl_av sl_aw sl_at sl_j:Array (Option Value)}{es_a:Array DictEntry}{nm_d qq_d:Str}{bs_d sub_d:List Value}{sn_d:List Str}{ab_d:Bool}{col_d:Option Bool}{x0_d x1_d x2_d x3_d x5_d:Option Value}{oc_j kV_j dc_j pm_j cd_j ct_j:Value}
  (g_aJ:"MOST_DEPTH" ^^^ (.int 40 t_aJ)) (g_aW:"MOST_NODES" ^^^ (.int 300 t_aW)) (g_au:"SPELLED_FORMS" ^^^ (.ref a_au)) (l_au:K.lookup a_au=some ⟨.type "tuple",od_au,.seq its_au n_au,sl_au⟩) (v_au:Vals [V.str "name",V.str "number"] its_au.toList) (g_as:"PLAIN_FORMS" ^^^ (.ref a_as)) (l_as:K.lookup a_as=some ⟨.type "tuple",od_as,.seq its_as n_as,sl_as⟩) (v_as:Vals [V.str "true",V.str "false",V.str "nil"] its_as.toList) (g_aa:"PART_KINDS" ^^^ (.ref a_aa)) (l_aa:K.lookup a_aa=some ⟨.type "tuple",od_aa,.seq its_aa n_aa,sl_aa⟩) (v_aa:Vals [V.str "part",V.str "body"] its_aa.toList) (g_a:"FORMS" ^^^ (.ref a_a)) (l_a:K.lookup a_a=some { cls := .type "dict",data := .dict es_a ep_a }) (p_a:Paired (hZ_ w) [("fn",V.ref ad_a_0),("rec",V.ref ad_a_1),("let",V.ref ad_a_2),("if",V.ref ad_a_3),("apply",V.ref ad_a_4),("pair",V.ref ad_a_5),("fst",V.ref ad_a_6),("snd",V.ref ad_a_7),("cons",V.ref ad_a_8),("case",V.ref ad_a_9),("fold",V.ref ad_a_10),("+",V.ref ad_a_11),("-",V.ref ad_a_12),("*",V.ref ad_a_13),("/",V.ref ad_a_14),("<",V.ref ad_a_15),("=",V.ref ad_a_16),("floor",V.ref ad_a_17),("rest",V.ref ad_a_18),("root",V.ref ad_a_19),("^",V.ref ad_a_20)] es_a.toList) (lt_a_0:K.lookup ad_a_0=some ⟨.type "tuple",none,.seq its_a_0 n_a_0,sl_a_0⟩) (v_a_0:Vals [V.str "name",V.str "body"] its_a_0.toList) (lt_a_1:K.lookup ad_a_1=some ⟨.type "tuple",none,.seq its_a_1 n_a_1,sl_a_1⟩) (v_a_1:Vals [V.str "name",V.str "name",V.str "body"] its_a_1.toList) (lt_a_2:K.lookup ad_a_2=some ⟨.type "tuple",none,.seq its_a_2 n_a_2,sl_a_2⟩) (v_a_2:Vals [V.str "name",V.str "part",V.str "body"] its_a_2.toList) (lt_a_3:K.lookup ad_a_3=some ⟨.type "tuple",none,.seq its_a_3 n_a_3,sl_a_3⟩) (v_a_3:Vals [V.str "part",V.str "part",V.str "part"] its_a_3.toList) (lt_a_4:K.lookup ad_a_4=some ⟨.type "tuple",none,.seq its_a_4 n_a_4,sl_a_4⟩) (v_a_4:Vals [V.str "part",V.str "part"] its_a_4.toList) (lt_a_5:K.lookup ad_a_5=some ⟨.type "tuple",none,.seq its_a_5 n_a_5,sl_a_5⟩) (v_a_5:Vals [V.str "part",V.str "part"] its_a_5.toList) (lt_a_6:K.lookup ad_a_6=some ⟨.type "tuple",none,.seq its_a_6 n_a_6,sl_a_6⟩) (v_a_6:Vals [V.str "part"] its_a_6.toList) (lt_a_7:K.lookup ad_a_7=some ⟨.type "tuple",none,.seq its_a_7 n_a_7,sl_a_7⟩) (v_a_7:Vals [V.str "part"] its_a_7.toList) (lt_a_8:K.lookup ad_a_8=some ⟨.type "tuple",none,.seq its_a_8 n_a_8,sl_a_8⟩) (v_a_8:Vals [V.str "part",V.str "part"] its_a_8.toList) (lt_a_9:K.lookup ad_a_9=some ⟨.type "tuple",none,.seq its_a_9 n_a_9,sl_a_9⟩) (v_a_9:Vals [V.str "part",V.str "part",V.str "name",V.str "name",V.str "body"] its_a_9.toList) (lt_a_10:K.lookup ad_a_10=some ⟨.type "tuple",none,.seq its_a_10 n_a_10,sl_a_10⟩) (v_a_10:Vals [V.str "part",V.str "part",V.str "part"] its_a_10.toList) (lt_a_11:K.lookup ad_a_11=some ⟨.type "tuple",none,.seq its_a_11 n_a_11,sl_a_11⟩) (v_a_11:Vals [V.str "part",V.str "part"] its_a_11.toList) (lt_a_12:K.lookup ad_a_12=some ⟨.type "tuple",none,.seq its_a_12 n_a_12,sl_a_12⟩) (v_a_12:Vals [V.str "part",V.str "part"] its_a_12.toList) (lt_a_13:K.lookup ad_a_13=some ⟨.type "tuple",none,.seq its_a_13 n_a_13,sl_a_13⟩) (v_a_13:Vals [V.str "part",V.str "part"] its_a_13.toList) (lt_a_14:K.lookup ad_a_14=some ⟨.type "tuple",none,.seq its_a_14 n_a_14,sl_a_14⟩) (v_a_14:Vals [V.str "part",V.str "part"] its_a_14.toList) (lt_a_15:K.lookup ad_a_15=some ⟨.type "tuple",none,.seq its_a_15 n_a_15,sl_a_15⟩) (v_a_15:Vals [V.str "part",V.str "part"] its_a_15.toList) (lt_a_16:K.lookup ad_a_16=some ⟨.type "tuple",none,.seq its_a_16 n_a_16,sl_a_16⟩) (v_a_16:Vals [V.str "part",V.str "part"] its_a_16.toList) (lt_a_17:K.lookup ad_a_17=some ⟨.type "tuple",none,.seq its_a_17 n_a_17,sl_a_17⟩) (v_a_17:Vals [V.str "part",V.str "part"] its_a_17.toList) (lt_a_18:K.lookup ad_a_18=some ⟨.type "tuple",none,.seq its_a_18 n_a_18,sl_a_18⟩) (v_a_18:Vals [V.str "part",V.str "part"] its_a_18.toList) (lt_a_19:K.lookup ad_a_19=some ⟨.type "tuple",none,.seq its_a_19 n_a_19,sl_a_19⟩) (v_a_19:Vals [V.str "part"] its_a_19.toList) (lt_a_20:K.lookup ad_a_20=some ⟨.type "tuple",none,.seq its_a_20 n_a_20,sl_a_20⟩) (v_a_20:Vals [V.str "part",V.str "power"] its_a_20.toList) (z_a:(a_a == sysModules)=false) (g_aX:"BLANK" ^^^ (.int 32 t_aX)) (g_aY:"MEASURE_BEGIN" ^^^ (.int 91 t_aY)) (g_aZ:"MEASURE_END" ^^^ (.int 93 t_aZ)) (g_a0:"MINUS" ^^^ (.int 45 t_a0)) (g_av:"FRACTION_SIGNS" ^^^ (.ref a_av)) (l_av:K.lookup a_av=some ⟨.type "tuple",od_av,.seq its_av n_av,sl_av⟩) (v_av:Vals [V.int 46,V.int 47] its_av.toList) (g_aK:"FIRST_PRINTED" ^^^ (.int 32 t_aK)) (g_a1:"LAST_PRINTED" ^^^ (.int 126 t_a1)) (g_aL:"MOST_SIGNS" ^^^ (.int 12 t_aL)) (g_a2:"PRINTED" ^^^ (.str " !\"#$?&'()*+,-./0123456789:;<=>?@ABCDEFGHIJKLMNOPQRSTUVWXYZ[\\]^_`abcdefghijklmnopqrstuvwxyz{|}~" t_a2)) (g_aw:"TAKEN_WORDS" ^^^ (.ref a_aw)) (l_aw:K.lookup a_aw=some ⟨.type "tuple",od_aw,.seq its_aw n_aw,sl_aw⟩) (v_aw:Vals [V.str "fn",V.str "let",V.str "rec",V.str "if",V.str "cons",V.str "case",V.str "pair",V.str "fst",V.str "snd",V.str "fold",V.str "root",V.str "floor",V.str "rest",V.str "true",V.str "false",V.str "nil",V.str "truth",V.str "num",V.str "list",V.str "base",V.str "unit",V.str "def",V.str "fun",V.str "in",V.str "then",V.str "else",V.str "match",V.str "with",V.str "and",V.str "or",V.str "not"] its_aw.toList) (g_a3:"MOST_DIGITS" ^^^ (.int 12 t_a3)) (g_aM:"FIRST_TOO_GREAT" ^^^ (.int 1000000000000 t_aM)) (g_a4:"MOST_POWER_DIGITS" ^^^ (.int 2 t_a4)) (g_a5:"WORD_GROUP" ^^^ (.int 0 t_a5)) (g_a6:"NUMBER_GROUP" ^^^ (.int 1 t_a6)) (g_aN:"SIGN_GROUP" ^^^ (.int 2 t_aN)) (g_at:"CORE_SIGNS" ^^^ (.ref a_at)) (l_at:K.lookup a_at=some ⟨.type "tuple",od_at,.seq its_at n_at,sl_at⟩) (v_at:Vals [V.str "(",V.str ")",V.str "+",V.str "-",V.str "*",V.str "/",V.str "^",V.str "<",V.str "="] its_at.toList) (g_aO:"MOST_BYTES" ^^^ (.int 2000 t_aO)) (g_a7:"TEXT_TOO_LONG" ^^^ (.int (-1) t_a7)) (g_a8:"TOO_GREAT" ^^^ (.int (-4) t_a8)) (b_all:nsIn K mainGlobals "all"=some none) (b_dict:nsIn K mainGlobals "dict"=some none) (b_enumerate:nsIn K mainGlobals "enumerate"=some none) (b_int:nsIn K mainGlobals "int"=some none) (b_isinstance:nsIn K mainGlobals "isinstance"=some none) (b_len:nsIn K mainGlobals "len"=some none) (b_list:nsIn K mainGlobals "list"=some none) (b_max:nsIn K mainGlobals "max"=some none) (b_ord:nsIn K mainGlobals "ord"=some none) (b_reversed:nsIn K mainGlobals "reversed"=some none) (b_str:nsIn K mainGlobals "str"=some none) (b_tuple:nsIn K mainGlobals "tuple"=some none) (G_d:"Fault" ^^^ (.ref C_d)) (a_n:findIn K (.ref C_d) "__init__"=some (some (.ref f_n))) (i_n:W.isFn K (.ref f_n)=true) (l_n:FnIn K "__init__" "Fault.__init__" s_n f_n) (kc_d:W.keepIn K (.ref C_d)=true) (hd_d:W.hasDictIn K C_d=true) (sa_d:findIn K (.ref C_d) "__setattr__"=some (some (.builtin "object.__setattr__"))) (lx_d:K.lookup C_d=some (excClassObj nm_d qq_d C_d N_d bs_d cX_ true sn_d sub_d ab_d col_d dd_d x0_d x1_d x2_d x3_d x5_d "Exception.__new__")) (ga_d:findIn K (.ref C_d) "__getattribute__"=some (some (.builtin "BaseException.__getattribute__"))) (gn_d:C_d ||| "__getattr__") (n_bb:C_d ||| "kind") (n_bc:C_d ||| "place") (G_b:"Node" ^^^ (.ref C_b)) (a_r:findIn K (.ref C_b) "__init__"=some (some (.ref f_r))) (i_r:W.isFn K (.ref f_r)=true) (l_r:FnIn K "__init__" "Node.__init__" s_r f_r) (kc_b:W.keepIn K (.ref C_b)=true) (hd_b:W.hasDictIn K C_b=true) (sa_b:findIn K (.ref C_b) "__setattr__"=some (some (.builtin "object.__setattr__"))) (pg_b:W.plainGet K C_b Str.empty=true) (po_b:W.plainOver K C_b=true) (mk_b:W.makesIn K C_b=true) (y1_b:findIn K (.ref C_b) "__class__"=some (some (.builtin "object.__class__"))) (y2_b:W.specialIn K (.builtin "object.__class__") "__get__"=some (some (.builtin "getset_descriptor.__get__"))) (y3_b:W.takesIn K (.builtin "object.__class__")=some true) (y4_b:W.mroIn K C_b (.type "object")=some true) (y5_b:W.mroIn K C_b (.type "str")=some false) (n_ay:C_b ||| "form") (n_ax:C_b ||| "words") (n_aB:C_b ||| "parts") (n_aF:C_b ||| "begin") (n_aP:C_b ||| "end") (G_i:"FreshNames" ^^^ (.ref C_i)) (a_O:findIn K (.ref C_i) "__init__"=some (some (.ref f_O))) (i_O:W.isFn K (.ref f_O)=true) (l_O:FnIn K "__init__" "FreshNames.__init__" s_O f_O) (a_s:findIn K (.ref C_i) "take"=some (some (.ref f_s))) (i_s:W.isFn K (.ref f_s)=true) (l_s:FnIn K "take" "FreshNames.take" s_s f_s) (kc_i:W.keepIn K (.ref C_i)=true) (hd_i:W.hasDictIn K C_i=true) (sa_i:findIn K (.ref C_i) "__setattr__"=some (some (.builtin "object.__setattr__"))) (pg_i:W.plainGet K C_i Str.empty=true) (po_i:W.plainOver K C_i=true) (mk_i:W.makesIn K C_i=true) (n_bd:C_i ||| "away") (n_aG:C_i ||| "tried") (G_h:"Uncopied" ^^^ (.ref C_h)) (a_F:findIn K (.ref C_h) "__init__"=some (some (.ref f_F))) (i_F:W.isFn K (.ref f_F)=true) (l_F:FnIn K "__init__" "Uncopied.__init__" s_F f_F) (kc_h:W.keepIn K (.ref C_h)=true) (hd_h:W.hasDictIn K C_h=true) (sa_h:findIn K (.ref C_h) "__setattr__"=some (some (.builtin "object.__setattr__"))) (pg_h:W.plainGet K C_h Str.empty=true) (po_h:W.plainOver K C_h=true) (mk_h:W.makesIn K C_h=true) (n_aC:C_h ||| "kind") (n_aQ:C_h ||| "content") (n_aR:C_h ||| "owner") (n_aH:C_h ||| "renamed") (G_e:"Amount" ^^^ (.ref C_e)) (a_A:findIn K (.ref C_e) "__init__"=some (some (.ref f_A))) (i_A:W.isFn K (.ref f_A)=true) (l_A:FnIn K "__init__" "Amount.__init__" s_A f_A) (kc_e:W.keepIn K (.ref C_e)=true) (hd_e:W.hasDictIn K C_e=true) (sa_e:findIn K (.ref C_e) "__setattr__"=some (some (.builtin "object.__setattr__"))) (pg_e:W.plainGet K C_e Str.empty=true) (po_e:W.plainOver K C_e=true) (mk_e:W.makesIn K C_e=true) (n_aS:C_e ||| "over") (n_aI:C_e ||| "under") (n_aT:C_e ||| "measure") (G_c:"Token" ^^^ (.ref C_c)) (a_w:findIn K (.ref C_c) "__init__"=some (some (.ref f_w))) (i_w:W.isFn K (.ref f_w)=true) (l_w:FnIn K "__init__" "Token.__init__" s_w f_w) (kc_c:W.keepIn K (.ref C_c)=true) (hd_c:W.hasDictIn K C_c=true) (sa_c:findIn K (.ref C_c) "__setattr__"=some (some (.builtin "object.__setattr__"))) (pg_c:W.plainGet K C_c Str.empty=true) (po_c:W.plainOver K C_c=true) (mk_c:W.makesIn K C_c=true) (n_bf:C_c ||| "group") (n_az:C_c ||| "kind") (n_aD:C_c ||| "begin") (n_aU:C_c ||| "end") (n_aE:C_c ||| "content") (G_f:"Row" ^^^ (.ref C_f)) (a_P:findIn K (.ref C_f) "__init__"=some (some (.ref f_P))) (i_P:W.isFn K (.ref f_P)=true) (l_P:FnIn K "__init__" "Row.__init__" s_P f_P) (a_k:findIn K (.ref C_f) "upcoming"=some (some (.ref f_k))) (i_k:W.isFn K (.ref f_k)=true) (l_k:FnIn K "upcoming" "Row.upcoming" s_k f_k) (a_l:findIn K (.ref C_f) "take"=some (some (.ref f_l))) (i_l:W.isFn K (.ref f_l)=true) (l_l:FnIn K "take" "Row.take" s_l f_l) (a_p:findIn K (.ref C_f) "take_kind"=some (some (.ref f_p))) (i_p:W.isFn K (.ref f_p)=true) (l_p:FnIn K "take_kind" "Row.take_kind" s_p f_p) (kc_f:W.keepIn K (.ref C_f)=true) (hd_f:W.hasDictIn K C_f=true) (sa_f:findIn K (.ref C_f) "__setattr__"=some (some (.builtin "object.__setattr__"))) (pg_f:W.plainGet K C_f Str.empty=true) (po_f:W.plainOver K C_f=true) (mk_f:W.makesIn K C_f=true) (n_be:C_f ||| "ahead") (n_a9:C_f ||| "index") (G_g:"Step" ^^^ (.ref C_g)) (a_x:findIn K (.ref C_g) "__init__"=some (some (.ref f_x))) (i_x:W.isFn K (.ref f_x)=true) (l_x:FnIn K "__init__" "Step.__init__" s_x f_x) (kc_g:W.keepIn K (.ref C_g)=true) (hd_g:W.hasDictIn K C_g=true) (sa_g:findIn K (.ref C_g) "__setattr__"=some (some (.builtin "object.__setattr__"))) (pg_g:W.plainGet K C_g Str.empty=true) (po_g:W.plainOver K C_g=true) (mk_g:W.makesIn K C_g=true) (n_aA:C_g ||| "kind") (n_ba:C_g ||| "owner") (n_aV:C_g ||| "depth") (a_G:"numbered" ^^^ (.ref f_G)) (l_G:FnIn K "numbered" "numbered" s_G f_G) (a_ab:"check_limits" ^^^ (.ref f_ab)) (l_ab:FnIn K "check_limits" "check_limits" s_ab f_ab) (a_aj:"core_text" ^^^ (.ref f_aj)) (l_aj:FnIn K "core_text" "core_text" s_aj f_aj) (a_H:"unfolded" ^^^ (.ref f_H)) (l_H:FnIn K "unfolded" "unfolded" s_H f_H) (a_I:"core_pieces" ^^^ (.ref f_I)) (l_I:FnIn K "core_pieces" "core_pieces" s_I f_I) (a_t:"contents" ^^^ (.ref f_t)) (l_t:FnIn K "contents" "contents" s_t f_t) (a_y:"free_names" ^^^ (.ref f_y)) (l_y:FnIn K "free_names" "free_names" s_y f_y) (a_ak:"plain_form" ^^^ (.ref f_ak)) (l_ak:FnIn K "plain_form" "plain_form" s_ak f_ak) (a_B:"plain_form_away" ^^^ (.ref f_B)) (l_B:FnIn K "plain_form_away" "plain_form_away" s_B f_B) (a_C:"copy_node" ^^^ (.ref f_C)) (l_C:FnIn K "copy_node" "copy_node" s_C f_C) (a_al:"leaf_words" ^^^ (.ref f_al)) (l_al:FnIn K "leaf_words" "leaf_words" s_al f_al) (a_J:"is_letter" ^^^ (.ref f_J)) (l_J:FnIn K "is_letter" "is_letter" s_J f_J) (a_m:"is_digit" ^^^ (.ref f_m)) (l_m:FnIn K "is_digit" "is_digit" s_m f_m) (a_D:"is_in_word" ^^^ (.ref f_D)) (l_D:FnIn K "is_in_word" "is_in_word" s_D f_D) (a_K:"is_short_word" ^^^ (.ref f_K)) (l_K:FnIn K "is_short_word" "is_short_word" s_K f_K) (a_Q:"is_blank" ^^^ (.ref f_Q)) (l_Q:FnIn K "is_blank" "is_blank" s_Q f_Q) (a_R:"is_before_measure_end" ^^^ (.ref f_R)) (l_R:FnIn K "is_before_measure_end" "is_before_measure_end" s_R f_R) (a_o:"run_end" ^^^ (.ref f_o)) (l_o:FnIn K "run_end" "run_end" s_o f_o) (a_am:"sign_of" ^^^ (.ref f_am)) (l_am:FnIn K "sign_of" "sign_of" s_am f_am) (a_q:"signs_of" ^^^ (.ref f_q)) (l_q:FnIn K "signs_of" "signs_of" s_q f_q) (a_ac:"number_end" ^^^ (.ref f_ac)) (l_ac:FnIn K "number_end" "number_end" s_ac f_ac) (a_L:"fraction_of" ^^^ (.ref f_L)) (l_L:FnIn K "fraction_of" "fraction_of" s_L f_L) (a_u:"lowest" ^^^ (.ref f_u)) (l_u:FnIn K "lowest" "lowest" s_u f_u) (a_S:"common_divisor" ^^^ (.ref f_S)) (l_S:FnIn K "common_divisor" "common_divisor" s_S f_S) (a_T:"is_measure" ^^^ (.ref f_T)) (l_T:FnIn K "is_measure" "is_measure" s_T f_T) (a_U:"is_factor" ^^^ (.ref f_U)) (l_U:FnIn K "is_factor" "is_factor" s_U f_U) (a_V:"is_power" ^^^ (.ref f_V)) (l_V:FnIn K "is_power" "is_power" s_V f_V) (a_an:"measured" ^^^ (.ref f_an)) (l_an:FnIn K "measured" "measured" s_an f_an) (a_ao:"negated" ^^^ (.ref f_ao)) (l_ao:FnIn K "negated" "negated" s_ao f_ao) (a_E:"amount_text" ^^^ (.ref f_E)) (l_E:FnIn K "amount_text" "amount_text" s_E f_E) (a_ap:"core_tokens" ^^^ (.ref f_ap)) (l_ap:FnIn K "core_tokens" "core_tokens" s_ap f_ap) (a_M:"tokens_between" ^^^ (.ref f_M)) (l_M:FnIn K "tokens_between" "tokens_between" s_M f_M) (a_W:"core_gap_end" ^^^ (.ref f_W)) (l_W:FnIn K "core_gap_end" "core_gap_end" s_W f_W) (a_N:"core_token" ^^^ (.ref f_N)) (l_N:FnIn K "core_token" "core_token" s_N f_N) (a_X:"word_token" ^^^ (.ref f_X)) (l_X:FnIn K "word_token" "word_token" s_X f_X) (a_v:"number_token" ^^^ (.ref f_v)) (l_v:FnIn K "number_token" "number_token" s_v f_v) (a_ad:"measure_at" ^^^ (.ref f_ad)) (l_ad:FnIn K "measure_at" "measure_at" s_ad f_ad) (a_ae:"sign_token" ^^^ (.ref f_ae)) (l_ae:FnIn K "sign_token" "sign_token" s_ae f_ae) (a_z:"core_term" ^^^ (.ref f_z)) (l_z:FnIn K "core_term" "core_term" s_z f_z) (a_ai:"go_on" ^^^ (.ref f_ai)) (l_ai:FnIn K "go_on" "go_on" s_ai f_ai) (a_Y:"begin_term" ^^^ (.ref f_Y)) (l_Y:FnIn K "begin_term" "begin_term" s_Y f_Y) (a_Z:"bracket_begin" ^^^ (.ref f_Z)) (l_Z:FnIn K "bracket_begin" "bracket_begin" s_Z f_Z) (a_aq:"leaf" ^^^ (.ref f_aq)) (l_aq:FnIn K "leaf" "leaf" s_aq f_aq) (a_j:"plain" ^^^ (.ref f_j)) (l_j:K.lookup f_j=some ⟨oc_j,od_j,.func (W.fnOf "plain" "plain" (c8_ s_j) (bV_ s_j) (ag_ s_j) .none kV_j dc_j pm_j an_j cd_j ct_j),sl_j⟩) (c_plain:W.codeIn K cd_j "plain"=true) (k_j:W.keepIn K (.ref f_j)=true) (a_af:"answered" ^^^ (.ref f_af)) (l_af:FnIn K "answered" "answered" s_af f_af) (a_ag:"plain_answer" ^^^ (.ref f_ag)) (l_ag:FnIn K "plain_answer" "plain_answer" s_ag f_ag) (a_ar:"text_answer" ^^^ (.ref f_ar)) (l_ar:FnIn K "text_answer" "text_answer" s_ar f_ar) (a_ah:"bytes_of" ^^^ (.ref f_ah)) (l_ah:FnIn K "bytes_of" "bytes_of" s_ah f_ah)
  : ∃ fd:FuncData,(∀ (s:Shared) (us:List Value),us.length=(["text"]:List Str).length->BindsTo s fd ⟨us,[]⟩ ((["text"]:List Str).zip us))/\∀ base:Heap,K.In base->base.Ns mainGlobals mg->FnOk P w K mg base CX0 22 fa fd ["text"] (ho_ PyVaunid.plain K):=by
 obtain ⟨d_n,F_n⟩:=l_n.fn;obtain ⟨d_r,F_r⟩:=l_r.fn;obtain ⟨d_O,F_O⟩:=l_O.fn;obtain ⟨d_s,F_s⟩:=l_s.fn;obtain ⟨d_F,F_F⟩:=l_F.fn;obtain ⟨d_A,F_A⟩:=l_A.fn;obtain ⟨d_w,F_w⟩:=l_w.fn;obtain ⟨d_P,F_P⟩:=l_P.fn;obtain ⟨d_k,F_k⟩:=l_k.fn;obtain ⟨d_l,F_l⟩:=l_l.fn;obtain ⟨d_p,F_p⟩:=l_p.fn;obtain ⟨d_x,F_x⟩:=l_x.fn;obtain ⟨d_G,F_G⟩:=l_G.fn;obtain ⟨d_ab,F_ab⟩:=l_ab.fn;obtain ⟨d_aj,F_aj⟩:=l_aj.fn;obtain ⟨d_H,F_H⟩:=l_H.fn;obtain ⟨d_I,F_I⟩:=l_I.fn;obtain ⟨d_t,F_t⟩:=l_t.fn;obtain ⟨d_y,F_y⟩:=l_y.fn;obtain ⟨d_ak,F_ak⟩:=l_ak.fn;obtain ⟨d_B,F_B⟩:=l_B.fn;obtain ⟨d_C,F_C⟩:=l_C.fn;obtain ⟨d_al,F_al⟩:=l_al.fn;obtain ⟨d_J,F_J⟩:=l_J.fn;obtain ⟨d_m,F_m⟩:=l_m.fn;obtain ⟨d_D,F_D⟩:=l_D.fn;obtain ⟨d_K,F_K⟩:=l_K.fn;obtain ⟨d_Q,F_Q⟩:=l_Q.fn;obtain ⟨d_R,F_R⟩:=l_R.fn;obtain ⟨d_o,F_o⟩:=l_o.fn;obtain ⟨d_am,F_am⟩:=l_am.fn;obtain ⟨d_q,F_q⟩:=l_q.fn;obtain ⟨d_ac,F_ac⟩:=l_ac.fn;obtain ⟨d_L,F_L⟩:=l_L.fn;obtain ⟨d_u,F_u⟩:=l_u.fn;obtain ⟨d_S,F_S⟩:=l_S.fn;obtain ⟨d_T,F_T⟩:=l_T.fn;obtain ⟨d_U,F_U⟩:=l_U.fn;obtain ⟨d_V,F_V⟩:=l_V.fn;obtain ⟨d_an,F_an⟩:=l_an.fn;obtain ⟨d_ao,F_ao⟩:=l_ao.fn;obtain ⟨d_E,F_E⟩:=l_E.fn;obtain ⟨d_ap,F_ap⟩:=l_ap.fn;obtain ⟨d_M,F_M⟩:=l_M.fn;obtain ⟨d_W,F_W⟩:=l_W.fn;obtain ⟨d_N,F_N⟩:=l_N.fn;obtain ⟨d_X,F_X⟩:=l_X.fn;obtain ⟨d_v,F_v⟩:=l_v.fn;obtain ⟨d_ad,F_ad⟩:=l_ad.fn;obtain ⟨d_ae,F_ae⟩:=l_ae.fn;obtain ⟨d_z,F_z⟩:=l_z.fn;obtain ⟨d_ai,F_ai⟩:=l_ai.fn;obtain ⟨d_Y,F_Y⟩:=l_Y.fn;obtain ⟨d_Z,F_Z⟩:=l_Z.fn;obtain ⟨d_aq,F_aq⟩:=l_aq.fn;have F_j:=mT_ (st:=s_j) l_j c_plain k_j;obtain ⟨d_af,F_af⟩:=l_af.fn;obtain ⟨d_ag,F_ag⟩:=l_ag.fn
 obtain ⟨d_ar,F_ar⟩:=l_ar.fn;obtain ⟨d_ah,F_ah⟩:=l_ah.fn;have T:=(⟨⟨_,mo X G g_aJ,_,rfl⟩,⟨_,mo X G g_aW,_,rfl⟩,mo X G g_au,fun _=>a3_ l_au v_au (by show 2<=sizeLine;decide),mo X G g_as,fun _=>a3_ l_as v_as (by show 3<=sizeLine;decide),mo X G g_aa,fun _=>a3_ l_aa v_aa (by show 2<=sizeLine;decide),mo X G g_a,⟨fun f=>match f with | .fn=>ad_a_0 | .rec_=>ad_a_1 | .let_=>ad_a_2 | .if_=>ad_a_3 | .app=>ad_a_4 | .pair=>ad_a_5 | .fst=>ad_a_6 | .snd=>ad_a_7 | .cons=>ad_a_8 | .case=>ad_a_9 | .fold=>ad_a_10 | .plus=>ad_a_11 | .minus=>ad_a_12 | .times=>ad_a_13 | .over=>ad_a_14 | .less=>ad_a_15 | .equal=>ad_a_16 | .floor=>ad_a_17 | .rest=>ad_a_18 | .root=>ad_a_19 | .pow=>ad_a_20,⟨⟨es_a,ep_a,l_a,p_a⟩,mc_,z_a⟩,fun f H=>match f with | .fn=>a3_ lt_a_0 v_a_0 (by show 2<=sizeLine;decide) | .rec_=>a3_ lt_a_1 v_a_1 (by show 3<=sizeLine;decide) | .let_=>a3_ lt_a_2 v_a_2 (by show 3<=sizeLine;decide) | .if_=>a3_ lt_a_3 v_a_3 (by show 3<=sizeLine;decide) | .app=>a3_ lt_a_4 v_a_4 (by show 2<=sizeLine;decide) | .pair=>a3_ lt_a_5 v_a_5 (by show 2<=sizeLine;decide) | .fst=>a3_ lt_a_6 v_a_6 (by show 1<=sizeLine;decide) | .snd=>a3_ lt_a_7 v_a_7 (by show 1<=sizeLine;decide) | .cons=>a3_ lt_a_8 v_a_8 (by show 2<=sizeLine;decide) | .case=>a3_ lt_a_9 v_a_9 (by show 5<=sizeLine;decide) | .fold=>a3_ lt_a_10 v_a_10 (by show 3<=sizeLine;decide) | .plus=>a3_ lt_a_11 v_a_11 (by show 2<=sizeLine;decide) | .minus=>a3_ lt_a_12 v_a_12 (by show 2<=sizeLine;decide) | .times=>a3_ lt_a_13 v_a_13 (by show 2<=sizeLine;decide) | .over=>a3_ lt_a_14 v_a_14 (by show 2<=sizeLine;decide) | .less=>a3_ lt_a_15 v_a_15 (by show 2<=sizeLine;decide) | .equal=>a3_ lt_a_16 v_a_16 (by show 2<=sizeLine;decide) | .floor=>a3_ lt_a_17 v_a_17 (by show 2<=sizeLine;decide) | .rest=>a3_ lt_a_18 v_a_18 (by show 2<=sizeLine;decide) | .root=>a3_ lt_a_19 v_a_19 (by show 1<=sizeLine;decide) | .pow=>a3_ lt_a_20 v_a_20 (by show 2<=sizeLine;decide),fun f=>match f with | .fn=>⟨_,_,_,lt_a_0,v_a_0⟩ | .rec_=>⟨_,_,_,lt_a_1,v_a_1⟩ | .let_=>⟨_,_,_,lt_a_2,v_a_2⟩ | .if_=>⟨_,_,_,lt_a_3,v_a_3⟩ | .app=>⟨_,_,_,lt_a_4,v_a_4⟩ | .pair=>⟨_,_,_,lt_a_5,v_a_5⟩ | .fst=>⟨_,_,_,lt_a_6,v_a_6⟩ | .snd=>⟨_,_,_,lt_a_7,v_a_7⟩ | .cons=>⟨_,_,_,lt_a_8,v_a_8⟩ | .case=>⟨_,_,_,lt_a_9,v_a_9⟩ | .fold=>⟨_,_,_,lt_a_10,v_a_10⟩ | .plus=>⟨_,_,_,lt_a_11,v_a_11⟩ | .minus=>⟨_,_,_,lt_a_12,v_a_12⟩ | .times=>⟨_,_,_,lt_a_13,v_a_13⟩ | .over=>⟨_,_,_,lt_a_14,v_a_14⟩ | .less=>⟨_,_,_,lt_a_15,v_a_15⟩ | .equal=>⟨_,_,_,lt_a_16,v_a_16⟩ | .floor=>⟨_,_,_,lt_a_17,v_a_17⟩ | .rest=>⟨_,_,_,lt_a_18,v_a_18⟩ | .root=>⟨_,_,_,lt_a_19,v_a_19⟩ | .pow=>⟨_,_,_,lt_a_20,v_a_20⟩⟩,⟨_,mo X G g_aX,_,rfl⟩,⟨_,mo X G g_aY,_,rfl⟩,⟨_,mo X G g_aZ,_,rfl⟩,⟨_,mo X G g_a0,_,rfl⟩,mo X G g_av,fun _=>a3_ l_av v_av (by show 2<=sizeLine;decide),⟨_,mo X G g_aK,_,rfl⟩,⟨_,mo X G g_a1,_,rfl⟩,⟨_,mo X G g_aL,_,rfl⟩,⟨_,mo X G g_a2,_,rfl⟩,mo X G g_aw,fun _=>a3_ l_aw v_aw (by show 31<=sizeLine;decide),⟨_,mo X G g_a3,_,rfl⟩,⟨_,mo X G g_aM,_,rfl⟩,⟨_,mo X G g_a4,_,rfl⟩,⟨_,mo X G g_a5,_,rfl⟩,⟨_,mo X G g_a6,_,rfl⟩,⟨_,mo X G g_aN,_,rfl⟩,mo X G g_at,fun _=>a3_ l_at v_at (by show 9<=sizeLine;decide),⟨_,mo X G g_aO,_,rfl⟩,⟨_,mo X G g_a7,_,rfl⟩,⟨_,mo X G g_a8,_,rfl⟩,mn X G b_all,mn X G b_dict,mn X G b_enumerate,mn X G b_int,mn X G b_isinstance,mn X G b_len,mn X G b_list,mn X G b_max,mn X G b_ord,mn X G b_reversed,mn X G b_str,mn X G b_tuple,mo X G G_d,F_n,F_n.b,m4_ lx_d a_n i_n kc_d ga_d gn_d sa_d hd_d,n_bb,n_bc,mo X G G_b,F_r,F_r.b,⟨pg_b,hd_b,po_b,sa_b⟩,⟨mk_b,a_r,i_r,kc_b⟩,⟨y1_b,y2_b,y3_b,y4_b,o0_ y5_b⟩,n_ay,n_ax,n_aB,n_aF,n_aP,mo X G G_i,F_O,F_O.b,F_s,F_s.b,⟨a_s,i_s,F_s.kp⟩,⟨pg_i,hd_i,po_i,sa_i⟩,⟨mk_i,a_O,i_O,kc_i⟩,n_bd,n_aG,mo X G G_h,F_F,F_F.b,⟨pg_h,hd_h,po_h,sa_h⟩,⟨mk_h,a_F,i_F,kc_h⟩,n_aC,n_aQ,n_aR,n_aH,mo X G G_e,F_A,F_A.b,⟨pg_e,hd_e,po_e,sa_e⟩,⟨mk_e,a_A,i_A,kc_e⟩,n_aS,n_aI,n_aT,mo X G G_c,F_w,F_w.b,⟨pg_c,hd_c,po_c,sa_c⟩,⟨mk_c,a_w,i_w,kc_c⟩,n_bf,n_az,n_aD,n_aU,n_aE,mo X G G_f,F_P,F_P.b,F_k,F_k.b,⟨a_k,i_k,F_k.kp⟩,F_l,F_l.b,⟨a_l,i_l,F_l.kp⟩,F_p,F_p.b,⟨a_p,i_p,F_p.kp⟩,⟨pg_f,hd_f,po_f,sa_f⟩,⟨mk_f,a_P,i_P,kc_f⟩,n_be,n_a9,mo X G G_g,F_x,F_x.b,⟨pg_g,hd_g,po_g,sa_g⟩,⟨mk_g,a_x,i_x,kc_g⟩,n_aA,n_ba,n_aV,⟨mo X G a_G,F_G,F_G.b⟩,⟨mo X G a_ab,F_ab,F_ab.b⟩,⟨mo X G a_aj,F_aj,F_aj.b⟩,⟨mo X G a_H,F_H,F_H.b⟩,⟨mo X G a_I,F_I,F_I.b⟩,⟨mo X G a_t,F_t,F_t.b⟩,⟨mo X G a_y,F_y,F_y.b⟩,⟨mo X G a_ak,F_ak,F_ak.b⟩,⟨mo X G a_B,F_B,F_B.b⟩,⟨mo X G a_C,F_C,F_C.b⟩,⟨mo X G a_al,F_al,F_al.b⟩,⟨mo X G a_J,F_J,F_J.b⟩,⟨mo X G a_m,F_m,F_m.b⟩,⟨mo X G a_D,F_D,F_D.b⟩,⟨mo X G a_K,F_K,F_K.b⟩,⟨mo X G a_Q,F_Q,F_Q.b⟩,⟨mo X G a_R,F_R,F_R.b⟩,⟨mo X G a_o,F_o,F_o.b⟩,⟨mo X G a_am,F_am,F_am.b⟩,⟨mo X G a_q,F_q,F_q.b⟩,⟨mo X G a_ac,F_ac,F_ac.b⟩,⟨mo X G a_L,F_L,F_L.b⟩,⟨mo X G a_u,F_u,F_u.b⟩,⟨mo X G a_S,F_S,F_S.b⟩,⟨mo X G a_T,F_T,F_T.b⟩,⟨mo X G a_U,F_U,F_U.b⟩,⟨mo X G a_V,F_V,F_V.b⟩,⟨mo X G a_an,F_an,F_an.b⟩,⟨mo X G a_ao,F_ao,F_ao.b⟩,⟨mo X G a_E,F_E,F_E.b⟩,⟨mo X G a_ap,F_ap,F_ap.b⟩,⟨mo X G a_M,F_M,F_M.b⟩,⟨mo X G a_W,F_W,F_W.b⟩,⟨mo X G a_N,F_N,F_N.b⟩,⟨mo X G a_X,F_X,F_X.b⟩,⟨mo X G a_v,F_v,F_v.b⟩,⟨mo X G a_ad,F_ad,F_ad.b⟩,⟨mo X G a_ae,F_ae,F_ae.b⟩,⟨mo X G a_z,F_z,F_z.b⟩,⟨mo X G a_ai,F_ai,F_ai.b⟩,⟨mo X G a_Y,F_Y,F_Y.b⟩,⟨mo X G a_Z,F_Z,F_Z.b⟩,⟨mo X G a_aq,F_aq,F_aq.b⟩,⟨mo X G a_j,F_j,F_j.b⟩,⟨mo X G a_af,F_af,F_af.b⟩,⟨mo X G a_ag,F_ag,F_ag.b⟩,⟨mo X G a_ar,F_ar,F_ar.b⟩,⟨mo X G a_ah,F_ah,F_ah.b⟩⟩:TX w K mg ⟨_,_,_,_,_,_,_,_,_,_,_,_,_,_,_,_,_,_,_,_,_,_,_,_,_,_,_,_,_,_,_,_,_,_,_,_,_,_,_,_,_,_,_,_,_,_,_,_,_,_,_,_,_,_,_,_,_,_,_,_,_,_,_,_,_,_,_,_,_,_,_,_,_,_,_,_,_,_,_,_,_,_,_,_,_,_,_,_,_,_,_,_,_,_,_,_,_,_,_,_,_,_,_,_,_,_,_,_,_,_,_,_,_,_,_,_,_,_,_,_,_,_,_,_,_,_,_,_,_,_,_,_,_,_,_⟩)
 have e:=hfa.symm.trans T.F_j.mg;cases e;refine ⟨_,?_,fun base _ _=>nJ_ T⟩;exact fun s us hu=>match us,hu with | [_],_ => .of_eq rfl
end M
end Internal
set_option genInjectivity false in
set_option genSizeOfSpec false in
set_option genSizeOf false in
structure PySem.W.Fast:Prop where
 (tw17257891691007655459 tw3757250648851782454 tw7062973156112477128 tw3378973204784876468 tw4205904596372920907 tw5692057399428930840 tw5749084897767421983 tw6505334067678271343 tw11490929786133058849 tw10686739074626608396 tw10175386990723249728 tw7490214939633999090 tw1053730833834864328 tw12098187351251484317 tw10048724979364078665 tw5604238318376720559 tw9684442872518955178 tw3482069258570980567 tw10342811092671501508 tw13533292209765149747 tw2005742850692349853 tw2407662168059139451 tw8333884451330931150 tw1035698937728513838 tw12486387899142986157 tw8344336841007627646 tw8155595459428266047 tw16027356840538236586 tw7140245608351834852 tw3143431564186985015 tw2951501464403420564 tw14330011767664891373 tw5241688035567358004 tw6894092413532272167 tw6175014337643964614 tw3993736500903689606 tw8432082066650745222 tw4304702261173913531 tw15641977521884672129 tw7752023673507633503 tw5629114222347924644 tw8268441517231347220 tw2277754273324844032 tw8664005204449921399 tw3436965228928132392 tw1989268982556354368 tw4235454164018473684 tw9516385355802305133 tw14123453776077022384 tw2616902032386663245 tw13230978996270402881 tw16885008848535384451 tw16280771598777756651 tw4035145751750841577 tw11667007502566008211 tw6258390618178253148 tw9160920842891142014 tw9095172808928510438 tw6515389108662350916 tw11956262294769751534 tw8127579173923982233 tw8967430234483439329 tw18074528298756046941 tw9072520755384133996 tw5073423957432422637 tw9392395517738905787 tw9355996042394962842 tw8323984396213405771 tw13469746052915906488 tw583370701327586942 tw12114742080748551792 tw4820925564815615452 tw3760786465362500330 tw1922514382668991617 tw10043947729325921137 tw3025859812830626705 tw17979565768163669017 tw12670117734297945988 tw16368182238305644042 tw7365081086725085838 tw9582800578077896132 tw2373662031200747862 tw15526537363898547687 tw11139967539797238741 tw558027371520617006 tw14449038185830067769 tw5750939064351129260 tw8349510228005331493 tw10052321241263080975 tw13186582580908865722 tw18235413570229687335 tw10623444200391710132 tw7369271829231635112 tw13827016958950926337 tw18320430916524120814 tw14092110750501914750 tw10046508563284536086 tw17535223009097674434 tw4070685009640407336 tw3793899454578164763 tw16697248423285225044 tw1851044146573936724 tw321311458475371335 tw2868749531741233004 tw16694998050383610995 tw1892444910991306303 tw18138212552034526358 tw11182556619580502732 tw16692356805721056182 tw2000140956166697110 tw4266608906487599783 tw16757521483098789868 tw16658549064800935865 tw17354461505758564128 tw16067164035823695676 tw15356876016843124169 tw14286091765815965812 tw942870437552519248 tw11972493660184107677 tw2438568462814336110 tw1230035638159087352 tw1611925830745700776 tw4147504652771370521 tw708669407597367679 tw9581792991596568299 tw13521552535304291006 tw16773694817211275365 tw14641822781195110583 tw11910997463433974025 tw17549683644072707696 tw972736958280870846 tw5461142472744463386 tw2397381907351447970 tw3953577776208930254 tw5150725579539942971 tw17608606447885383731 tw16941174838091807805 tw14343689402100549695 tw4491157486414671715 tw7847064294858004139 tw11797640936701329138 tw5097572561265461882 tw3969415864157445174 tw2411727254192259417 tw17414864858992663471 tw10456664965867046983 tw15339393372492165827 tw11012017736981295626 tw5330108116946319845 tw7331386220051420879 tw9347343566399048723 tw9425803774856040304 tw9713920986220261159 tw2015043298996384831 tw13717500451012720123 tw6606231303256161037 tw7786245836270737289 tw13652149538567748485 tw16364878857175715651 tw5239949231783676350 tw7896778991098879416 tw4287707079716702147 tw16174887084702360905 tw6405884843322143480 tw18404057524499455781 tw14111060411305117520 tw1771611962871111668 tw7483887139842372835 tw2378181413112870163 tw292487611282907822 tw10224393789431639627 tw15264248871990130786 tw3846406231721593265 tw4517695012248103252 tw562433223626244929 tw11386290921651098505 tw3811807787303805308 tw13493408854792921336 tw6572768357608147118 tw16920416694967032248 tw9762154638716900693 tw141557628814295505 tw14739567710292863545 tw8868716638900181944 tw12357797907334286745 tw14799294340912946280 tw4050111930204032544 tw13400986884261466934 tw2820126926079862486 tw12201747662706710315 tw7813443998718154502 tw13329520557473938456 tw6990275603225904698 tw1372733749572719449 tw7825598787643977578 tw17395186831473191889 tw16380354179409770903 tw10964341806224105482 tw12648028670171648002 tw1693958838033590759 tw6362585118645824102 tw7845667757214299022 tw12667432953408876959 tw7011375949765275334 tw14394478739967783265 tw9375995522306839130 tw17287004483507868371 tw9064268614511879622 tw4159877657934095149 tw13748041391700241316 tw1122886268902074312 tw730678070773220043 tw7721005919769236952 tw10563836827841039023 tw4396859936587718088 tw5653186554282701028 tw15786793570863620636 tw15264900480054779531 tw12185019480967853752 tw11216618285163863990 tw16856030736878974733 tw12185269662771697656 tw1036272232333155550 tw7308926355360486259 tw10275494287788343336 tw2530393255435696813 tw17865554124408906831 tw14375426942830851921 tw13340203332600587039 tw560405023496787762 tw9138801610589098817 tw13540026324493509481 tw17523513214914740062 tw4201715386610705306 tw485139735610802614 tw7926206317297831442 tw5202803440924539212 tw9472897698961648662 tw5514760460723039343 tw12675075173542331530 tw17851051462609320264 tw6488688595334594747 tw430416095762728632 tw7175636979505444290 tw10105413091919256166 tw2633881090519995377 tw10907798049839432516 tw13349016733363772961 tw13454113032435479547 tw17833572580126950855 tw9821096647076380343 tw13603712793155662962 tw10991504152322271534 tw13739390446388875816 tw17207265507013213199 tw14519280435118717287 tw11992666695692501906 tw15935663120486941216 tw5230723699011748089 tw11656266341506047855 tw17678545615753964679 tw10886935124309423617 tw16235161330951837890 tw17218004849476843313 tw14076744136792797438 tw16097526640812759319 tw5238054008640562125 tw380206310911666752 tw5617018549378120219 tw10775219885723540761 tw12217397379469645235 tw6800409929903650674 tw13891682404977276109 tw3750340287636903600 tw11802821224550141536 tw17406132730496627240 tw13179291185493690948 tw6182023427400944619 tw16212705517298470385 tw17281004621669955370 tw18286950441561323871 tw9866595925032649213 tw3569956981770914693 tw6119559582652353178 tw1234798245047103372 tw855735343799092351 tw3538009140193622832 tw3729791494578037174 tw9612590249530165660 tw11776556016236438345 tw18077572863063780306 tw13402086465518469182 tw5706816802487688279 tw15439807326596412468 tw17301688549604829453 tw4868447796910219356 tw12168041954853246602 tw1096119156023924830 tw17928454518867886178 tw5719919179478742633 tw4213827845179945826 tw6234991656558262753 tw8129894549627327120 tw14194170179466888388 tw4223251714085963711 tw8320751085601242841 tw15726957235047676831 tw3507881131501200600 tw11886794312356789679 tw5997449980952481118 tw17516933595168748796 tw10990934528732477651 tw11819125267141755711 tw15814781207270817406 tw11589664638918838065 tw15218208180167726867 tw15534027852202929805 tw16530540123140042375 tw3017872848696048123 tw1679609969664005699 tw10418979796097908401 tw9697035124036216209 tw2606392147642861263 tw14381788149774267006 tw1758289282750574101 tw3786651742896388430 tw4520928534529249087 tw10472247695469742228 tw7020489896081873146 tw5541847221141359761 tw8662886919973203627 tw10323283551333137334 tw11792115781780617214 tw13834257394902092695 tw2316866350691211346 tw11273630120731759556 tw4351644961792070167 tw15391034603089704914 tw16305441453987130227 tw16765129627330907055 tw5493547132008619993 tw2709541322445888193 tw6808609638034513838 tw7009707715090997197 tw6302966192072706908 tw5161788763687861645 tw15502811528009763878 tw1199688360700435675 tw18188598006401984107 tw5702957254928554728 tw16985303604897647155 tw16406938131700224107 tw15703848290026374810 tw12669652021102343931 tw10311202121053576716 tw10046297404096519110 tw9387707946171563459 tw3061869532987231391 tw9224018303716909884 tw8264253074318973407 tw4693787391047646908 tw18297995925211409907 tw16322912067877171542 tw2735288287073017795 tw1225932888165327817 tw10079308761613527705 tw13940170765279817904 tw13467565245881098320 tw13210636983999477518 tw11050194190454993458 tw4775243395037083369 tw15200261802372664989 tw3050370114485759270 tw17634050926850927719 tw16732674769059370430 tw14381424360074934710 tw2460559762647834532 tw9897511189270347450 tw18272056725190915754 tw11952364810093553930 tw3991291467717017747 tw13647315683417302675 tw1641326974395440133 tw5474989365426802487 tw10358412410225969524 tw261403723335409773 tw16102317365197190048 tw4756165664556217959 tw9560848767686833354 tw3687748557424080427 tw10294594950130632195 tw14874817801156615544 tw9944406855299019768 tw9776693645779823529 tw15613219977149481971 tw10846980348074767160 tw7373751534096687049 tw7029299266458096280 tw9362741036863828745 tw10406388431185527436 tw2518953738591367925 tw18263671028868829873 tw10381552624439404649 tw1019842515733548319 tw13299228584347895336 tw6274479758301035085 tw8200093659788766909 tw1575213801132874859 tw4675068779354740723 tw3245627928736083609 tw8775726879689967645 tw6523453275806302643 tw4672934675383530711 tw11625736452990948213 tw14216637065418218130 tw1234201418813891440 tw11369110504388015698 tw18002268136106553306 tw7967358138198806592 tw2257144140397684570 tw4527790671191151833 tw8242772621585712217 tw459036150115851892 tw18147385837849238229 tw3900110468423495589 tw2340797404782258089 tw5093515424096115096 tw7862658292138882216 tw12687167139791215212 tw3926756403694868136 tw3815848684990234574 tw8201056942195576908 tw9217249557813810906 tw4512178667884689933 tw2040932675693301738 tw12100916106523491074 tw13337501055221400788 tw13327724785229656853 tw9029548463477358497 tw3067218510498879495 tw6305122680674708590 tw3726313269394865826 tw9258231274028560724 tw14523160231996574147 tw11977732788954649910 tw527647601991108047 tw8657724734173132266 tw14014912637493565953 tw16831211546195613437 tw4250990143712751844 tw16782337702516154926 tw10233650333583718630 tw17922133803951231743 tw9130930009199551582 tw10558590308146775327 tw10941884520431148042 tw2011591849425588127 tw9308573361334407667 tw728730359270135024 tw7126985811892820877 tw17009410319579753226 tw3408327918644415519 tw4871438090566161702 tw10571946182777488847 tw7128054396901101278 tw7805409982542971739 tw10020008548467429073 tw2081219991845907742 tw10651335641361865591 tw2306792331947933229 tw9953060011303132433 tw303936332787713102 tw15492497843600709350 tw9319886397819940191 tw14566407320830872695 tw15641390291502620037 tw14523911276580722480 tw17748455669578606195 tw9859576346031176248 tw3387052322901545234 tw17702924885111805356 tw8785156976833719456 tw17881725367105608974 tw11572183339907096599 tw1332013912498401820 tw15549529087686626255 tw6908606603186549164 tw4682115587978572208 tw186374637105697959 tw15062926266284838234 tw16113568138916287131 tw13091903925262602326 tw9896375405553967287 tw8092439223283556650 tw2238339724755273590 tw12189415988078466924 tw1738968919559462299 tw12185070123767837542 tw5451598469106798023 tw2593510689530108213 tw11815673814224080163 tw9881154404071194892 tw13416698647397763572 tw3996084403525350464 tw4683305733927210682 tw17092523205504393021 tw17186515529311004798 tw10425683909225677458 tw2768809681272764944 tw15036941694967595417 tw10454249929107929678 tw16776008082015983063 tw12185468897404633751 tw17884348704219316826 tw10145617119656545473 tw3650880591522458576 tw8340210424557485764 tw5578185681229432839 tw10817744885205994916 tw4025945823817022521 tw18082318105355277182 tw12398043487009885979 tw1375437232980431923 tw10679103655202823861 tw10006607490275132562 tw15348215700310574888 tw10746518811570217074 tw17364703793671335635 tw4816472800881556513 tw5263759475339555199 tw15017276565696689082 tw11934490282726391023 tw1801999362793062900 tw17730163544848362623:True)
open PySem PySem.W PyProof.Rows
set_option maxRecDepth 100000 in
set_option maxHeartbeats 0 in
theorem PySem.Challenge.cw_measuretext_s09_plain_holds : PySem.Challenge.rw_measuretext_s09_plain.Holds := by
 w_on;k_headS;(case hw=>exact ⟨[.list []],by left,by left⟩)
 k_fillS
 refine L2.iJ_ (r:=PySem.Challenge.rw_measuretext_s09_plain) (k:=22) (CX:=L2.CX0) (ps:=["text"]) (sp:=M.ho_ PyVaunid.plain) (by left) rfl rfl ⟨rfl,by decide,by decide⟩ (fun w h Y=>PySem.W.kIn_of Y) ?F ?S (fun _ _ _ _ z=>z)
 case F =>
  intro w mg fa h Y KX G hmg;refine' M.po_ KX G hmg ?a0 ?a1 ?a2 ?a3 ?a4 ?a5 ?a6 ?a7 ?a8 ?a9 ?a10 ?a11 ?a12 ?a13 ?a14 ?a15 ?a16 ?a17 ?a18 ?a19 ?a20 ?a21 ?a22 ?a23 ?a24 ?a25 ?a26 ?a27 ?a28 ?a29 ?a30 ?a31 ?a32 ?a33 ?a34 ?a35 ?a36 ?a37 ?a38 ?a39 ?a40 ?a41 ?a42 ?a43 ?a44 ?a45 ?a46 ?a47 ?a48 ?a49 ?a50 ?a51 ?a52 ?a53 ?a54 ?a55 ?a56 ?a57 ?a58 ?a59 ?a60 ?a61 ?a62 ?a63 ?a64 ?a65 ?a66 ?a67 ?a68 ?a69 ?a70 ?a71 ?a72 ?a73 ?a74 ?a75 ?a76 ?a77 ?a78 ?a79 ?a80 ?a81 ?a82 ?a83 ?a84 ?a85 ?a86 ?a87 ?a88 ?a89 ?a90 ?a91 ?a92 ?a93 ?a94 ?a95 ?a96 ?a97 ?a98 ?a99 ?a100 ?a101 ?a102 ?a103 ?a104 ?a105 ?a106 ?a107 ?a108 ?a109 ?a110 ?a111 ?a112 ?a113 ?a114 ?a115 ?a116 ?a117 ?a118 ?a119 ?a120 ?a121 ?a122 ?a123 ?a124 ?a125 ?a126 ?a127 ?a128 ?a129 ?a130 ?a131 ?a132 ?a133 ?a134 ?a135 ?a136 ?a137 ?a138 ?a139 ?a140 ?a141 ?a142 ?a143 ?a144 ?a145 ?a146 ?a147 ?a148 ?a149 ?a150 ?a151 ?a152 ?a153 ?a154 ?a155 ?a156 ?a157 ?a158 ?a159 ?a160 ?a161 ?a162 ?a163 ?a164 ?a165 ?a166 ?a167 ?a168 ?a169 ?a170 ?a171 ?a172 ?a173 ?a174 ?a175 ?a176 ?a177 ?a178 ?a179 ?a180 ?a181 ?a182 ?a183 ?a184 ?a185 ?a186 ?a187 ?a188 ?a189 ?a190 ?a191 ?a192 ?a193 ?a194 ?a195 ?a196 ?a197 ?a198 ?a199 ?a200 ?a201 ?a202 ?a203 ?a204 ?a205 ?a206 ?a207 ?a208 ?a209 ?a210 ?a211 ?a212 ?a213 ?a214 ?a215 ?a216 ?a217 ?a218 ?a219 ?a220 ?a221 ?a222 ?a223 ?a224 ?a225 ?a226 ?a227 ?a228 ?a229 ?a230 ?a231 ?a232 ?a233 ?a234 ?a235 ?a236 ?a237 ?a238 ?a239 ?a240 ?a241 ?a242 ?a243 ?a244 ?a245 ?a246 ?a247 ?a248 ?a249 ?a250 ?a251 ?a252 ?a253 ?a254 ?a255 ?a256 ?a257 ?a258 ?a259 ?a260 ?a261 ?a262 ?a263 ?a264 ?a265 ?a266 ?a267 ?a268 ?a269 ?a270 ?a271 ?a272 ?a273 ?a274 ?a275 ?a276 ?a277 ?a278 ?a279 ?a280 ?a281 ?a282 ?a283 ?a284 ?a285 ?a286 ?a287 ?a288 ?a289 ?a290 ?a291 ?a292 ?a293 ?a294 ?a295 ?a296 ?a297 ?a298 ?a299 ?a300 ?a301 ?a302 ?a303 ?a304 ?a305 ?a306 ?a307 ?a308 ?a309 ?a310 ?a311 ?a312 ?a313 ?a314 ?a315
  case a0 | a1 | a2 | a3 | a4 | a5 | a6 | a7 | a8 | a9 | a10 | a11 | a12 | a13 | a14 | a15 | a16 | a17 | a18 | a19 | a20 | a21 | a22 | a23 | a24 | a25 | a26 | a27 | a28 | a29 | a30 | a31 | a32 | a33 | a34 | a35 | a36 | a37 | a38 | a39 | a40 | a41 | a42 | a43 | a44 | a45 | a46 | a47 | a48 | a49 | a50 | a51 | a52 | a53 | a54 | a55 | a56 | a57 | a58 | a59 | a60 | a61 | a62 | a63 | a64 | a65 | a66 | a67 | a68 | a69 | a70 | a71 | a72 | a73 | a74 | a75 | a76 | a77 | a78 | a79 | a80 | a81 | a82 | a83 | a84 | a85 | a86 | a87 | a88 | a89 | a90 | a91 | a92 | a93 | a94 | a95 | a96 | a97 | a98 | a99 | a100 | a101 | a102 | a103 | a104 | a105 | a106 | a107 | a108 | a109 | a110 | a111 | a112 | a113 | a114 | a115 | a116 | a117 | a118 | a119 | a120 | a121 | a122 | a123 | a124 | a125 | a126 | a127 | a128 | a129 | a130 | a131 | a132 | a133 | a134 | a135 | a136 | a137 | a138 | a139 | a140 | a141 | a142 | a143 | a144 | a145 | a146 | a147 | a148 | a149 | a150 | a151 | a152 | a153 | a154 | a155 | a156 | a157 | a158 | a159 | a160 | a161 | a162 | a163 | a164 | a165 | a166 | a167 | a168 | a169 | a170 | a171 | a172 | a173 | a174 | a175 | a176 | a177 | a178 | a179 | a180 | a181 | a182 | a183 | a184 | a185 | a186 | a187 | a188 | a189 | a190 | a191 | a192 | a193 | a194 | a195 | a196 | a197 | a198 | a199 | a200 | a201 | a202 | a203 | a204 | a205 | a206 | a207 | a208 | a209 | a210 | a211 | a212 | a213 | a214 | a215 | a216 | a217 | a218 | a219 | a220 | a221 | a222 | a223 | a224 | a225 | a226 | a227 | a228 | a229 | a230 | a231 | a232 | a233 | a234 | a235 | a236 | a237 | a238 | a239 | a240 | a241 | a242 | a243 | a244 | a245 | a246 | a247 | a248 | a249 | a250 | a251 | a252 | a253 | a254 | a255 | a256 | a257 | a258 | a259 | a260 | a261 | a262 | a263 | a264 | a265 | a266 | a267 | a268 | a269 | a270 | a271 | a272 | a273 | a274 | a275 | a276 | a277 | a278 | a279 | a280 | a281 | a282 | a283 | a284 | a285 | a286 | a287 | a288 | a289 | a290 | a291 | a292 | a293 | a294 | a295 | a296 | a297 | a298 | a299 | a300 | a301 | a302 | a303 | a304 | a305 | a306 | a307 | a308 | a309 | a310 | a311 | a312 | a313 | a314 | a315=>first | k_is | (exact ⟨_,_,_,_,_,_,_,_,_,by k_is,by k_is,by k_is⟩) | ((repeat (refine .cons ⟨_,rfl⟩ ?_));exact .nil) | decide | ((repeat (refine .cons ⟨rfl,⟨_,rfl⟩,rfl⟩ ?_));exact .nil) | ((repeat (refine .cons ⟨rfl,⟨_,rfl⟩,⟨_,rfl⟩⟩ ?_));exact .nil)
 case S =>
  intro K H xs a hO hwi hask hx;cases hx with
  | cons h1 h2 =>
  cases h2;cases h1 with
  | lst hs ha =>
  have e:=L2.kE_ a.1 _ ha;subst e;have q:((Codec.inLen 0 10000 a.1 && a.1.all (Codec.inInt 0 255)) && true)=true:=hwi;rw [and_eq_true,and_eq_true] at q;refine ⟨_,a.1,rfl,hs,(Codec.inNat_iff.mp q.1.1).2,fun n hn=>?_,fun H' p hp => .lst (L2.SqL.of hp) (L2.kV_ _)⟩;have:=all_eq_true.mp q.1.2 n hn;unfold Codec.inInt at this;simpa using this
#print axioms PySem.Challenge.cw_measuretext_s09_plain_holds
