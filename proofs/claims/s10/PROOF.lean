import PyProof.Rows.All
import Wide.All
import OpenK.AllK
import Wide.FinOn
import PyProof.EqAt
import PyProof.EqKinds
import PyProof.TupleCall
import KE.BitLaws
import PyProof.EnumStmt
import PyProof.Rows.CountFlat
import PyProof.ExcBaseAll.Exception
import PyProof.ExcAttrAll.Exception
import Open.SpecLaws
import KE.OsHead
import KE.OsGo
import PySem.Challenge.RW_measuretext_s10_alike
open List (filterMap_cons mem_cons_self mem_cons_of_mem mem_cons mem_append mem_append_left mem_append_right size_toArray length_cons map_cons length_map append_nil nodup_cons of_mem_zip length_take getElem?_map mem_of_getElem? length_append length_drop all_cons any_cons length_singleton map_nil all_map lookup_cons mem_map all_eq_true find?_cons cons_append length_nil drop_zero take_succ_cons drop_eq_getElem_cons append_assoc drop_drop length_pos_iff take_of_length_le drop_length nil_append drop_left take_length getElem?_eq_getElem take_succ map_append takeWhile_cons dropWhile_cons takeWhile_append_dropWhile takeWhile_append_of_pos headD_cons mem_singleton foldl_cons replicate_succ any_map drop_succ_cons map_map drop_eq_nil_of_le any_eq_true getElem?_reverse not_mem_nil forall_mem_cons reverse_cons sublist_cons_self reverse_append flatMap_append map_reverse reverse_reverse flatMap_map length_reverse sum_cons dropLast_concat)
open Nat (ne_of_gt zero_le lt_succ_self le_succ le_of_succ_le le_add_right add_zero add_comm zero_add sub_zero mul_comm add_assoc add_sub_cancel_left le_of_ble_eq_true)
open Option (map_some)
open Bool (and_eq_true false_eq_true or_eq_true or_eq_true_iff)
open Int (natCast_inj)
open Vaunid (powerText factorText MOSTSIGNS measureText digitsValue fits numberText secondRow wordToken numberToken signToken token minusDigit Res fault tokens coreSigns isTaken Core coreTerm want wantName wantDigit Term formOne formTwo formThree coreForm readCore allTokens Leaf shownLit decimalInt isName decimal Lit depths shownLeaf coreText long reading alike)
open PySem.W (instObj Frag lookIn plainGet hasDictIn isFn looks_clsIn emptyDict looks_findIn keepIn mroIn kitOne kia_one callWith_K fnOf codeIn clsIn)
open PySem.F (slot_dict_get)
open PySem.Str (ofString)
open PySem.Heap (lt_size get?_none_of_le get?_push_of_some get?_push_size size_push get?_update_other get?_update_self)
abbrev zM:=PySem.Str->Option PySem.Value
abbrev zP:=List (PySem.Addr×PySem.Obj)
abbrev zQ:=PySem.Value->PySem.Shared->Prop
set_option Elab.async false
set_option linter.all false
set_option maxRecDepth 100000
local macro_rules
 | `(tactic| omega) => `(tactic| lia)
local macro_rules
 | `(tactic| left) => `(tactic| decide +kernel)
local macro_rules
 | `(tactic| right) => `(tactic| constructor <;> first | rfl | decide +kernel)
namespace Internal
theorem x_01 {P Q:Prop}{G:Prop} (h:P/\Q) (k:P->Q->G):G:=by
 obtain ⟨p,q⟩:=h;exact k p q
theorem x_02 {P Q R:Prop}{G:Prop} (h:P/\Q/\R) (k:P->Q->R->G):G:=by
 obtain ⟨p,q,r⟩:=h;exact k p q r
theorem x_03 {P Q R S:Prop}{G:Prop} (h:P/\Q/\R/\S) (k:P->Q->R->S->G):G:=by
 obtain ⟨p,q,r,s⟩:=h;exact k p q r s
theorem x_04 {P Q R S T:Prop}{G:Prop} (h:P/\Q/\R/\S/\T) (k:P->Q->R->S->T->G):G:=by
 obtain ⟨p,q,r,s,t⟩:=h;exact k p q r s t
theorem x_05 {P Q R S T U:Prop}{G:Prop} (h:P/\Q/\R/\S/\T/\U) (k:P->Q->R->S->T->U->G):G:=by
 obtain ⟨p,q,r,s,t,u⟩:=h;exact k p q r s t u
theorem x_06 {P Q R S T U V:Prop}{G:Prop} (h:P/\Q/\R/\S/\T/\U/\V) (k:P->Q->R->S->T->U->V->G):G:=by
 obtain ⟨p,q,r,s,t,u,v⟩:=h;exact k p q r s t u v
theorem x_07 {P Q R S T U V W:Prop}{G:Prop} (h:P/\Q/\R/\S/\T/\U/\V/\W) (k:P->Q->R->S->T->U->V->W->G):G:=by
 obtain ⟨p,q,r,s,t,u,v,w⟩:=h;exact k p q r s t u v w
theorem x_10 {A:Type}{P:A->Prop}{G:Prop} (h : ∃ a,P a) (k : ∀ a,P a->G):G:=by
 obtain ⟨a,p⟩:=h;exact k a p
theorem x_20 {A B:Type}{P:A->B->Prop}{G:Prop} (h : ∃ a b,P a b) (k : ∀ a b,P a b->G):G:=by
 obtain ⟨a,b,p⟩:=h;exact k a b p
theorem x_30 {A B C:Type}{P:A->B->C->Prop}{G:Prop} (h : ∃ a b c,P a b c) (k : ∀ a b c,P a b c->G):G:=by
 obtain ⟨a,b,c,p⟩:=h;exact k a b c p
theorem x_40 {A B C D:Type}{P:A->B->C->D->Prop}{G:Prop} (h : ∃ a b c d,P a b c d) (k : ∀ a b c d,P a b c d->G):G:=by
 obtain ⟨a,b,c,d,p⟩:=h;exact k a b c d p
theorem x_50 {A B C D E:Type}{P:A->B->C->D->E->Prop}{G:Prop} (h : ∃ a b c d e,P a b c d e) (k : ∀ a b c d e,P a b c d e->G):G:=by
 obtain ⟨a,b,c,d,e,p⟩:=h;exact k a b c d e p
theorem x_60 {A B C D E F:Type}{P:A->B->C->D->E->F->Prop}{G:Prop} (h : ∃ a b c d e f,P a b c d e f) (k : ∀ a b c d e f,P a b c d e f->G):G:=by
 obtain ⟨a,b,c,d,e,f,p⟩:=h;exact k a b c d e f p
theorem x_90 {A B C D E F I J K:Type}{P:A->B->C->D->E->F->I->J->K->Prop}{G:Prop} (h : ∃ a b c d e f i j l,P a b c d e f i j l) (k : ∀ a b c d e f i j l,P a b c d e f i j l->G):G:=by
 obtain ⟨a,b,c,d,e,f,i,j,l,p⟩:=h;exact k a b c d e f i j l p
theorem x_11 {A:Type}{P Q:A->Prop}{G:Prop} (h : ∃ a,P a/\Q a) (k : ∀ a,P a->Q a->G):G:=x_10 h fun a z=>x_01 z (k a)
theorem x_12 {A:Type}{P Q R:A->Prop}{G:Prop} (h : ∃ a,P a/\Q a/\R a) (k : ∀ a,P a->Q a->R a->G):G:=x_10 h fun a z=>x_02 z (k a)
theorem x_13 {A:Type}{P Q R S:A->Prop}{G:Prop} (h : ∃ a,P a/\Q a/\R a/\S a) (k : ∀ a,P a->Q a->R a->S a->G):G:=x_10 h fun a z=>x_03 z (k a)
theorem x_21 {A B:Type}{P Q:A->B->Prop}{G:Prop} (h : ∃ a b,P a b/\Q a b) (k : ∀ a b,P a b->Q a b->G):G:=x_20 h fun a b z=>x_01 z (k a b)
theorem x_22 {A B:Type}{P Q R:A->B->Prop}{G:Prop} (h : ∃ a b,P a b/\Q a b/\R a b) (k : ∀ a b,P a b->Q a b->R a b->G):G:=x_20 h fun a b z=>x_02 z (k a b)
theorem x_23 {A B:Type}{P Q R S:A->B->Prop}{G:Prop} (h : ∃ a b,P a b/\Q a b/\R a b/\S a b) (k : ∀ a b,P a b->Q a b->R a b->S a b->G):G:=x_20 h fun a b z=>x_03 z (k a b)
theorem x_24 {A B:Type}{P Q R S T:A->B->Prop}{G:Prop} (h : ∃ a b,P a b/\Q a b/\R a b/\S a b/\T a b) (k : ∀ a b,P a b->Q a b->R a b->S a b->T a b->G):G:=x_20 h fun a b z=>x_04 z (k a b)
theorem x_32 {A B C:Type}{P Q R:A->B->C->Prop}{G:Prop} (h : ∃ a b c,P a b c/\Q a b c/\R a b c) (k : ∀ a b c,P a b c->Q a b c->R a b c->G):G:=x_30 h fun a b c z=>x_02 z (k a b c)
theorem x_33 {A B C:Type}{P Q R S:A->B->C->Prop}{G:Prop} (h : ∃ a b c,P a b c/\Q a b c/\R a b c/\S a b c) (k : ∀ a b c,P a b c->Q a b c->R a b c->S a b c->G):G:=x_30 h fun a b c z=>x_03 z (k a b c)
theorem x_34 {A B C:Type}{P Q R S T:A->B->C->Prop}{G:Prop} (h : ∃ a b c,P a b c/\Q a b c/\R a b c/\S a b c/\T a b c) (k : ∀ a b c,P a b c->Q a b c->R a b c->S a b c->T a b c->G):G:=x_30 h fun a b c z=>x_04 z (k a b c)
namespace L2
open PySem PySem.Spec PyProof.Rows
abbrev Key:=Sum Int Str
def hU_:Key->Value->Bool
 | .inl k,v=>Value.isInt k v
 | .inr x,v=>Value.isStrOf x v
noncomputable def keyH (w:World):Key->Int
 | .inl k=>hashInt k
 | .inr x=>hashStr w x
theorem aR_ : ∀ {k:Key}{v:Value},hU_ k v=true->(∃ i t,k=Sum.inl i/\v=Value.int i t)\/(∃ x t,k=Sum.inr x/\v=Value.str x t)
 | .inl i,v,h=>by
  obtain ⟨t,e⟩:=Value.isInt_shape (k:=i) (v:=v) h;exact .inl ⟨i,t,rfl,e⟩
 | .inr x,v,h=>by
  obtain ⟨t,e⟩:=Value.isStrOf_shape (x:=x) (v:=v) h;exact .inr ⟨x,t,rfl,e⟩
theorem k6_ (i:Int) (t:Tok):hU_ (.inl i) (.int i t)=true:=by simp [hU_,Value.isInt]
theorem k5_ (x:Str) (t:Tok):hU_ (.inr x) (.str x t)=true:=by simp [hU_,Value.isStrOf]
theorem pT_ (a b:Int):decide ((Sum.inl a:Key)=Sum.inl b)=(a == b):=by
 by_cases e:a=b
 ·subst e;simp
 have h : ¬ (Sum.inl a:Key)=Sum.inl b:=fun q=>e (Sum.inl.inj q);rw [decide_eq_false h];exact (beq_eq_false_iff_ne.mpr e).symm
theorem pQ_ (a b:Str):decide ((Sum.inr a:Key)=Sum.inr b)=decide (a=b):=by
 by_cases e:a=b
 ·subst e;simp
 have h : ¬ (Sum.inr a:Key)=Sum.inr b:=fun q=>e (Sum.inr.inj q);rw [decide_eq_false h,decide_eq_false e]
theorem pS_ (a:Int) (b:Str):decide ((Sum.inl a:Key)=Sum.inr b)=false:=decide_eq_false (fun q=>nomatch q)
theorem pR_ (a:Str) (b:Int):decide ((Sum.inr a:Key)=Sum.inl b)=false:=decide_eq_false (fun q=>nomatch q)
noncomputable def aI_ (prog:Program) (w:World):PySem.KeyKind prog w Key where
 is:=hU_
 hash:=keyH w
 inj:=fun v a b ha hb=>by
  rcases aR_ ha with ⟨i,t,rfl,rfl⟩ | ⟨x,t,rfl,rfl⟩
  ·rcases aR_ hb with ⟨j,u,rfl,e⟩ | ⟨y,u,rfl,e⟩
   ·injection e with e1 _;rw [e1]
   exact nomatch e
  rcases aR_ hb with ⟨j,u,rfl,e⟩ | ⟨y,u,rfl,e⟩
  ·exact nomatch e
  injection e with e1 _;rw [e1]
 byValue:=fun k v h=>by
  rcases aR_ h with ⟨i,t,rfl,rfl⟩ | ⟨x,t,rfl,rfl⟩ <;> rfl
 pyHash:=fun hv h=>by
  rcases aR_ hv with ⟨i,t,rfl,rfl⟩ | ⟨x,t,rfl,rfl⟩
  ·exact wpAny_pyHash_int h
  exact wpAny_pyHash_str h
 eqBool:=fun hu hv h=>by
  rcases aR_ hu with ⟨i,t,rfl,rfl⟩ | ⟨x,t,rfl,rfl⟩
  ·rcases aR_ hv with ⟨j,u,rfl,rfl⟩ | ⟨y,u,rfl,rfl⟩
   ·rw [pT_] at h;exact wpAny_eqBool_int h
   rw [pS_] at h;exact SeqAt.EqAt.int_str i t y u _ _ _ _ h
  rcases aR_ hv with ⟨j,u,rfl,rfl⟩ | ⟨y,u,rfl,rfl⟩
  ·rw [pR_] at h;exact SeqAt.EqAt.str_int x t j u _ _ _ _ h
  rw [pQ_] at h;exact wpAny_eqBool_str h
 «strs» := fun k x t v h=>by
  rcases aR_ h with ⟨i,u,rfl,e⟩ | ⟨y,u,rfl,e⟩
  ·exact nomatch e
  injection e with e1 _;subst e1;cases v <;> rfl
theorem hN_ (prog:Program) (w:World) (i:Int) (t:Tok):(aI_ prog w).is (.inl i) (.int i t)=true:=k6_ i t
theorem eP_ (prog:Program) (w:World) (x:Str) (t:Tok):(aI_ prog w).is (.inr x) (.str x t)=true:=k5_ x t
inductive V where
 | non | bl (b:Bool) | int (i:Int) | str (x:Str) | byt (b:Array UInt8) | flt (b:UInt64) | ref (a:Addr) | ty (n:String)
 deriving DecidableEq
def RelV:V->Value->Prop
 | .non,u=>u=Value.none
 | .bl b,u=>u=Value.bool b
 | .int i,u=>∃ t,u=Value.int i t
 | .str x,u=>∃ t,u=Value.str x t
 | .byt b,u=>∃ t,u=Value.bytes b t
 | .flt b,u=>∃ t,u=Value.float b t
 | .ref a,u=>u=Value.ref a
 | .ty n,u=>u=Value.type n
abbrev Vals:List V->List Value->Prop:=Paired RelV
theorem Vals.length {xs:List V}{us:List Value} (r:Vals xs us):xs.length=us.length:=Paired.length r
theorem Vals.get : ∀ {xs:List V}{us:List Value}{i:Nat}{x:V},Vals xs us->xs[i]? = some x->∃ u,us[i]? = some u/\RelV x u
 | _,_,_,_,.nil,e=>by simp at e
 | _,_,0,_,.cons r _,e=>by simp at e;subst e;exact ⟨_,rfl,r⟩
 | _,_,i+1,x,.cons _ t,e=>by
  obtain ⟨u,h1,h2⟩:=Vals.get (i:=i) (x:=x) t (by simpa using e);exact ⟨u,by simpa using h1,h2⟩
theorem Vals.append : ∀ {xs ys:List V}{us ws:List Value},Vals xs us->Vals ys ws->Vals (xs++ys) (us++ws)
 | _,_,_,_,.nil,s=>s
 | _,_,_,_,.cons r t,s => .cons r (Vals.append t s)
theorem Vals.take : ∀ {xs:List V}{us:List Value} (n:Nat),Vals xs us->Vals (xs.take n) (us.take n)
 | _,_,0,_ => .nil
 | _,_,_+1,.nil => .nil
 | _,_,n+1,.cons r t => .cons r (Vals.take n t)
theorem Vals.drop : ∀ {xs:List V}{us:List Value} (n:Nat),Vals xs us->Vals (xs.drop n) (us.drop n)
 | _,_,0,r=>r
 | _,_,_+1,.nil => .nil
 | _,_,n+1,.cons _ t=>Vals.drop n t
def RelO:Option V->Option Value->Prop
 | some v,some u=>RelV v u
 | none,none=>True
 | _,_=>False
def KV {κ:Type}:List (κ×V)->List (κ×Value)->Prop:=Paired fun (p:κ×V) (q:κ×Value)=>p.1=q.1/\RelV p.2 q.2
def kV:Key->V
 | .inl i => .int i
 | .inr x => .str x
inductive HO where
 | lst (xs:List V)
 | tup (xs:List V)
 | dK (zw:List (Key×V)) | dT (zw:List (List Key×V))
 | set (S:Int->Bool) (n:Nat)
 | ins (C dx:Addr) (fs:List (Str×V))
 | own (x:Addr)
 | xd (fs:List (Str×V))
 | met (f x:Addr)
 | rng (lo hi:Int)
 | frz (o:Obj) (u:HO)
 | tbl (ps:Array Value)
 | ext (φ:Heap->Prop)
abbrev Hp:=Addr->Option HO
noncomputable def upd (H:Hp) (a:Addr) (o:HO):Hp:=fun b=>if b=a then some o else H b
theorem ad_ {H:Hp}{a:Addr}{o:HO}:upd H a o a=some o:=by unfold upd;rw [if_pos rfl]
theorem al_ {H:Hp}{a b:Addr}{o:HO} (h:b≠a):upd H a o b=H b:=by unfold upd;rw [if_neg h]
theorem ew_ {H:Hp}{a:Addr}{o u:HO}:upd (upd H a o) a u=upd H a u:=by
 funext b;unfold upd;split <;> rfl
theorem a7_ {H:Hp}{a b:Addr}{o u:HO} (h:H a=some o) (h':H b=some u) (d:o≠u):a≠b:=by
 intro e;subst e;rw [h] at h';exact d (Option.some.inj h')
theorem af_ {H:Hp}{a b:Addr}{o:HO} (h:H a=some o) (h':H b=none):a≠b:=by
 intro e;subst e;rw [h] at h';cases h'
section
variable (P:Program) (w:World)
def aT_ (H:Hp) (h:Heap) (a:Addr):HO->Prop
 | .lst xs=>xs.length<=sizeLine/\∃ (its:List Value) (n:Nat),Vals xs its/\h.get? a=some { cls := .type "list",data := .seq its.toArray n }
 | .tup xs=>xs.length<=sizeLine/\∃ its:List Value,Vals xs its/\IsTup h a its.toArray
 | .dK zw=>zw.length<=sizeLine/\(a == sysModules)=false/\∃ vs,KV zw vs/\h.DictOf (aI_ P w) a vs
 | .dT zw=>zw.length<=sizeLine/\(a == sysModules)=false/\∃ xs:List (List Key×Addr×Value),
   Paired (fun (p:List Key×V) (q:List Key×Addr×Value)=>p.1=q.1/\H q.2.1=some (.tup (p.1.map kV))/\RelV p.2 q.2.2) zw xs /\
   ∃ o es ep,h.get? a=some o/\o.ExactDict/\o.data = .dict es ep/\es.toList=xs.map (entryOfKey (tupleKind (aI_ P w)))/\(xs.map (·.1)).Nodup
 | .set S n=>h.SetOf (intKind P w) a S n
 | .ins C dx fs=>H dx=some (.own a)/\fs.length<=1000/\dx≠a/\h.get? a=some (instObj C dx) /\
   ∃ mA,h.Ns1 dx mA/\(∀ f,RelO (fs.lookup f) (mA f))/\PySem.Within mA (fs.map (·.1))
 | .own _=>∃ o,h.get? a=some o
 | .xd fs=>∃ mA,h.Ns1 a mA/\∀ f,RelO (fs.lookup f) (mA f)
 | .rng lo hi=>∃ t u v,h.get? a=some { cls := .type "range",data := .fields #[.int lo t,.int hi u,.int 1 v] }
 | .frz o u=>h.get? a=some o/\aT_ H h a u
 | .tbl ps=>h.get? a=some { cls := .none,data := .fields ps }
 | .met f x=>h.get? a=some (PySem.W.methodObj (.ref f) (.ref x))
 | .ext φ=>φ h/\(∃ o,h.get? a=some o)/\∀ h1 h2:Heap,φ h1->(∀ o,h1.get? a=some o->h2.get? a=some o)->φ h2
def HOk (H:Hp) (h:Heap):Prop:=∀ a o,H a=some o->aT_ P w H h a o
end
variable {P:Program}{w:World}{H H':Hp}{h h':Heap}{a:Addr}{o:HO}
theorem aT_.lt (x:aT_ P w H h a o):a<h.objs.size:=by
 cases o with
 | lst xs=>obtain ⟨_,_,_,_,e⟩:=x;exact lt_size e
 | tup xs=>obtain ⟨_,_,_,p⟩:=x;exact p.lt
 | dK zw=>obtain ⟨_,_,_,_,o,_,_,e,_⟩:=x;exact lt_size e
 | dT zw=>obtain ⟨_,_,_,_,o,_,_,e,_⟩:=x;exact lt_size e
 | set S n=>obtain ⟨o,_,_,_,e,_⟩:=x;exact lt_size e
 | ins C dx fs=>obtain ⟨_,_,_,e,_⟩:=x;exact lt_size e
 | own y=>obtain ⟨_,e⟩:=x;exact lt_size e
 | xd fs=>obtain ⟨_,⟨_,_,_,e,_⟩,_⟩:=x;exact lt_size e
 | rng lo hi=>obtain ⟨_,_,_,e⟩:=x;exact lt_size e
 | frz ob u=>obtain ⟨e,_⟩:=x;exact lt_size e
 | tbl ps=>exact lt_size (show h.get? a=some _ from x)
 | met f y=>exact lt_size (show h.get? a=some _ from x)
 | ext φ=>obtain ⟨_,⟨_,e⟩,_⟩:=x;exact lt_size e
theorem Paired.mapP {α β:Type}{F G:α->β->Prop} : ∀ {l₁:List α}{l₂:List β},Paired F l₁ l₂->(∀ a b,F a b->G a b)->Paired G l₁ l₂
 | _,_,.nil,_ => .nil
 | _,_,.cons r t,f => .cons (f _ _ r) (Paired.mapP t f)
theorem aT_.stay (x:aT_ P w H h a o) (k : ∀ b u,(b=a\/H b=some (.own a))->h.get? b=some u->h'.get? b=some u)
  (ho : ∀ b,H b=some (.own a)->H' b=some (.own a)) (ht : ∀ b xs,H b=some (.tup xs)->H' b=some (.tup xs)):aT_ P w H' h' a o:=by
 induction o with
 | lst xs=>obtain ⟨z,its,n,r,e⟩:=x;exact ⟨z,its,n,r,k _ _ (.inl rfl) e⟩
 | tup xs=>obtain ⟨z,its,r,ob,e,c⟩:=x;exact ⟨z,its,r,ob,k _ _ (.inl rfl) e,c⟩
 | dK zw=>obtain ⟨z,y,vs,r,ob,es,ep,e,c⟩:=x;exact ⟨z,y,vs,r,ob,es,ep,k _ _ (.inl rfl) e,c⟩
 | dT zw =>
  obtain ⟨z,y,xs,r,ob,es,ep,e,c⟩:=x;exact ⟨z,y,xs,Paired.mapP r fun p q z=>⟨z.1,ht _ _ z.2.1,z.2.2⟩,ob,es,ep,k _ _ (.inl rfl) e,c⟩
 | set S n=>obtain ⟨ob,es,ep,t,e,c⟩:=x;exact ⟨ob,es,ep,t,k _ _ (.inl rfl) e,c⟩
 | ins C dx fs =>
  obtain ⟨d,z,ne,e,mA,⟨od,es,ep,e2,c⟩,r⟩:=x;exact ⟨ho _ d,z,ne,k _ _ (.inl rfl) e,mA,⟨od,es,ep,k _ _ (.inr d) e2,c⟩,r⟩
 | own y=>obtain ⟨ob,e⟩:=x;exact ⟨ob,k _ _ (.inl rfl) e⟩
 | xd fs=>obtain ⟨mA,⟨od,es,ep,e,c⟩,r⟩:=x;exact ⟨mA,⟨od,es,ep,k _ _ (.inl rfl) e,c⟩,r⟩
 | rng lo hi=>obtain ⟨t,u,v,e⟩:=x;exact ⟨t,u,v,k _ _ (.inl rfl) e⟩
 | frz ob u ih=>obtain ⟨e,q⟩:=x;exact ⟨k _ _ (.inl rfl) e,ih q⟩
 | tbl ps =>
  have e:h.get? a=some { cls := .none,data := .fields ps }:=x;show h'.get? a=some { cls := .none,data := .fields ps };exact k a _ (.inl rfl) e
 | met f y =>
  have e:h.get? a=some (PySem.W.methodObj (.ref f) (.ref y)):=x;show h'.get? a=some (PySem.W.methodObj (.ref f) (.ref y));exact k a _ (.inl rfl) e
 | ext φ=>obtain ⟨p,⟨o,e⟩,st⟩:=x;exact ⟨st _ _ p fun o q=>k _ _ (.inl rfl) q,⟨o,k _ _ (.inl rfl) e⟩,st⟩
theorem HOk.lt (x:HOk P w H h) (e:H a=some o):a<h.objs.size:=(x a o e).lt
theorem HOk.fresh (x:HOk P w H h) (e:h.objs.size<=a):H a=none:=by
 cases q:H a with
 | none=>rfl
 | some u=>exact absurd (Nat.lt_of_lt_of_le (x.lt q) e) (Nat.lt_irrefl _)
theorem HOk.kept (x:HOk P w H h) (k : ∀ b u,h.get? b=some u->h'.get? b=some u):HOk P w H h':=fun a o e =>
 (x a o e).stay (fun b u _ q=>k b u q) (fun _ q=>q) fun _ _ q=>q
theorem HOk.laid (x:HOk P w H h) (k : ∀ b u,h.get? b=some u->h'.get? b=some u) (hp:h.objs.size<=a) (new:aT_ P w (upd H a o) h' a o):HOk P w (upd H a o) h':=fun b u e=>by
 have hn:=x.fresh hp;by_cases hb:b=a
 ·subst hb;rw [ad_] at e;cases e;exact new
 rw [al_ hb] at e;exact (x b u e).stay (fun c v _ q=>k c v q) (fun c q=>by rw [al_ (af_ q hn)];exact q) fun c xs q=>by rw [al_ (af_ q hn)];exact q
def Rd (H:Hp) (a:Addr) (u:HO):Prop:=H a=some u\/∃ o,H a=some (.frz o u)
theorem Rd.ok {P:Program}{w:World}{H:Hp}{h:Heap}{a:Addr}{u:HO} (r:Rd H a u) (x:HOk P w H h):aT_ P w H h a u:=by
 rcases r with r | ⟨o,r⟩
 ·exact x a u r
 obtain ⟨_,q⟩:=x a _ r;exact q
def Mut:Option HO->Prop
 | some (.lst _)=>True
 | some (.dK _)=>True
 | some (.dT _)=>True
 | some (.set _ _)=>True
 | some (.ins _ _ _)=>True
 | some (.ext _)=>True
 | _=>False
variable {x:Addr}
section
variable {e:Addr}{o':HO}
theorem HOk.write (ok:HOk P w H h) (mu:Mut (H x)) (he:e=x\/H e=some (.own x)) (k : ∀ b u,b≠e->h.get? b=some u->h'.get? b=some u) (heo : ∃ u,h'.get? e=some u)
  (new:aT_ P w (upd H x o') h' x o'):HOk P w (upd H x o') h':=fun b u q=>by
 have nown : ∀ c y,H c=some (.own y)->c≠x:=fun c y r z=>by subst z;rw [r] at mu;exact mu
 have ntup : ∀ c xs,H c=some (.tup xs)->c≠x:=fun c xs r z=>by subst z;rw [r] at mu;exact mu
 by_cases hb:b=x
 ·subst hb;rw [ad_] at q;cases q;exact new
 rw [al_ hb] at q;by_cases hbe:b=e
 ·have q':H b=some (.own x):=by
   rcases he with z | z
   ·exact absurd (hbe.trans z) hb
   rw [hbe];exact z
  rw [q] at q';cases q';obtain ⟨v,hv⟩:=heo;exact ⟨v,by rw [hbe];exact hv⟩
 refine (ok b u q).stay (fun c v hc r=>k c v ?_ r) (fun c r=>by rw [al_ (nown c b r)];exact r) fun c xs r=>by rw [al_ (ntup c xs r)];exact r
 rcases hc with rfl | hc
 ·exact hbe
 rintro rfl
 rcases he with z | z
 ·exact nown c b hc z
 rw [hc] at z;cases z;exact hb rfl
end
structure Un (fs ex:List Addr) (H H':Hp) (h h':Heap):Prop where
 keep : ∀ b o,h.get? b=some o->H b=none->b∉fs->b∉ex->h'.get? b=some o
 slot : ∀ b o,h.get? b=some o->H b=none->b∈fs->b∉ex->∃ sl,h'.get? b=some { o with slots:=sl }
 free : ∀ b o,h.get? b=some o->H b=none->b∉ex->H' b=none
 there : ∀ b o,h.get? b=some o->b∉ex->∃ o',h'.get? b=some o'
 tups : ∀ b xs,H b=some (.tup xs)->H' b=some (.tup xs)
 frzs : ∀ b o u,H b=some (.frz o u)->H' b=some (.frz o u)
 tbls : ∀ b ps,H b=some (.tbl ps)->∃ more,H' b=some (.tbl (ps++more))
section
variable {fs ex:List Addr}{H1:Hp}{h1:Heap}{e:Addr}
theorem Un.any (u:Un fs ex H H1 h h1) {b:Addr}{ob:Obj} (q:h.get? b=some ob) (n:H b=none) (hx:b∉ex) : ∃ sl,h1.get? b=some { ob with slots:=sl }:=by
 by_cases hb:b∈fs
 ·exact u.slot b ob q n hb hx
 exact ⟨ob.slots,u.keep b ob q n hb hx⟩
theorem Un.kept (k : ∀ b u,h.get? b=some u->h'.get? b=some u):Un fs ex H H h h' :=
 ⟨fun b ob q _ _ _=>k b ob q,fun b ob q _ _ _=>⟨ob.slots,k b ob q⟩,fun _ _ _ n _=>n,fun b ob q _=>⟨ob,k b ob q⟩,fun _ _ q=>q,fun _ _ _ q=>q,fun _ ps q=>⟨#[],by rw [q];simp⟩⟩
theorem Un.refl:Un fs ex H H h h:=Un.kept fun _ _ q=>q
theorem Un.laid (k : ∀ b u,h.get? b=some u->h'.get? b=some u) (hp:h.objs.size<=a) (hn:H a=none):Un fs ex H (upd H a o) h h' where
 keep:=fun b u q _ _ _=>k b u q
 slot:=fun b u q _ _ _=>⟨u.slots,k b u q⟩
 free:=fun b u q n _=>by rw [al_ (Nat.ne_of_lt (Nat.lt_of_lt_of_le (lt_size q) hp))];exact n
 there:=fun b u q _=>⟨u,k b u q⟩
 tups:=fun b xs q=>by rw [al_ (af_ q hn)];exact q
 frzs:=fun b u xs q=>by rw [al_ (af_ q hn)];exact q
 tbls:=fun b ps q=>⟨#[],by rw [al_ (af_ q hn),q];simp⟩
theorem Un.write (mu:Mut (H x)) (he:e=x\/H e=some (.own x)) (k : ∀ b u,b≠e->h.get? b=some u->h'.get? b=some u) (heo : ∃ u,h'.get? e=some u):Un fs ex H (upd H x o) h h':=by
 have hx : ∀ b,H b=none->b≠x:=fun b n z=>by subst z;rw [n] at mu;exact mu
 have hb : ∀ b,H b=none->b≠e:=fun b n z=>by
  subst z;rcases he with r | r
  ·exact hx b n r
  rw [n] at r;cases r
 have hm : ∀ b u,H b=some u->¬ Mut (some u)->b≠x:=fun b u q nm z=>by subst z;rw [q] at mu;exact nm mu
 refine ⟨fun b u q n _ _=>k b u (hb b n) q,fun b u q n _ _=>⟨u.slots,k b u (hb b n) q⟩,fun b u q n _=>by rw [al_ (hx b n)];exact n,fun b u q _=>?_,
  fun b xs q=>by rw [al_ (hm b _ q fun z=>z)];exact q,fun b u xs q=>by rw [al_ (hm b _ q fun z=>z)];exact q,fun b ps q=>⟨#[],by rw [al_ (hm b _ q fun z=>z),q];simp⟩⟩
 by_cases hbe:b=e
 ·subst hbe;exact heo
 exact ⟨u,k b u hbe q⟩
end
def trk (h:Heap) (H:Hp):List Addr:=(List.range h.objs.size).filter fun a=>(H a).isSome
def hidT (h:Heap) (H:Hp):Heap:=PySem.W.hideAll h (trk h H)
theorem lf_ (h:Heap) (H:Hp):(hidT h H).objs.size=h.objs.size:=PySem.W.hideAll_size _ _
theorem mH_ {h:Heap}{H:Hp}{b:Addr}{o:Obj} (e:h.get? b=some o) (n:H b=none):(hidT h H).get? b=some o :=
 PySem.W.hideAll_get _ e fun hm=>by
  have q:(H b).isSome=true:=(List.mem_filter.mp hm).2;rw [n] at q;simp at q
theorem ov_ {h:Heap}{H:Hp}{b:Addr}{o:Obj} (e:(hidT h H).get? b=some o):h.get? b=some o/\H b=none:=by
 have e':h.get? b=some o:=PySem.W.of_hideAll (trk h H) e;refine ⟨e',?_⟩;cases q:H b with
 | none=>rfl
 | some x =>
 have hm:b∈trk h H:=List.mem_filter.mpr ⟨List.mem_range.mpr (lt_size e'),by simp [q]⟩;have z:(hidT h H).get? b=none:=PySem.W.hideAll_none (trk h H) hm;rw [z] at e;cases e
def o3_ (g h:Heap) (L:Addr):zP:=(List.range h.objs.size).filterMap fun a=>if a=L\/(g.get? a).isSome=true then none else (h.get? a).map fun o=>(a,o)
def rest (g h:Heap) (L d:Addr):zP:=(o3_ g h L).filter fun p=>decide (p.1≠d)
structure Mod (K:Frag) (mg:zM) (base:Heap):Prop where
 kin:K.In base
 glob:base.Ns mainGlobals mg
 blt : ∃ mb,base.Ns builtinsNs mb/\∀ x:Str,x≠"__name__"->mb x=bootBuiltins x
 nolimit:base.NoLimit
structure Cx where
 prog:Program
 w:World
 K:Frag
 mg:Str->Option Value
 base:Heap
 A:Around
 N:List Str
 s_0:Shared
 H_0:Hp
 env:Env
 outer:List Env
 stack:List Env
 ex:List Addr
 fn:Str->Bool
 calm:Bool
 pn:List (Addr×Obj)
 xe:Value->Shared->Prop
def frs (l:List Env):List Addr:=l.filterMap (·.frame)
abbrev Cx.fs (X:Cx):List Addr:=frs X.outer
def Vis (sc:Scope) (x:Str):Prop:=sc.names.lookup x=some .local\/sc.names.lookup x=some .cell\/sc.names.lookup x=some .free
def Loc (sc:Scope) (x:Str):Prop:=sc.names.lookup x=some .local\/sc.names.lookup x=some .cell
def Look (env:Env) (h:Heap) (m:zM) (x:Str) (u:Value):Prop :=
 (env.kindOf x=some .local/\m x=some u)\/((env.kindOf x=some .cell\/env.kindOf x=some .free)/\∃ c,env.cells.lookup x=some c/\h.IsCell c (some u))
structure Cx.Ok (X:Cx):Prop where
 mod:Mod X.K X.mg X.base
 kind:X.env.scope.kind = .function
 glob:X.env.globals=mainGlobals
 blt:X.env.builtins=builtinsNs
 above:X.s_0.heap.objs.size<=X.env.locals
 inj : ∀ x y c,X.env.cells.lookup x=some c->X.env.cells.lookup y=some c->x=y
 has : ∀ x,(X.env.kindOf x=some .cell\/X.env.kindOf x=some .free)->∃ c,X.env.cells.lookup x=some c
 cab : ∀ x c,X.fn x=true->X.env.cells.lookup x=some c->X.s_0.heap.objs.size<=c
 hd:X.calm=true->X.A.handled=none
 frames:X.A.frames=some X.stack
 stk:X.stack=X.outer\/(X.stack=X.env::X.outer/\X.env.frame=some X.env.locals)
 exf : ∀ b∈X.ex,b≠X.env.locals/\∀ x c,X.env.cells.lookup x=some c->c≠b
 bs : ∀ b o,X.base.get? b=some o->X.s_0.heap.get? b=some o/\X.H_0 b=none
 bsz:X.base.objs.size<=X.s_0.heap.objs.size
 noex : ∀ b o,X.base.get? b=some o->b∉X.ex
 exfs : ∀ b∈X.ex,b∉X.fs
 funs:X.s_0.heap.FunFrames X.base X.outer
 frf : ∀ b∈X.fs,X.H_0 b=none
structure Inv (X:Cx) (zz:zP) (σ:List (Option V)) (H:Hp) (s:Shared):Prop where
 ok:X.Ok
 os:s.os=X.s_0.os
 bare:AllBare s.gens
 base:Un X.fs X.ex X.H_0 H X.s_0.heap s.heap
 loc : ∃ m,s.heap.Ns X.env.locals m/\∀ (i:Nat) (x:Str) (v:V),X.N[i]? = some x->σ[i]? = some (some v)->Vis X.env.scope x->∃ u,RelV v u/\Look X.env s.heap m x u
 cell : ∀ x c,X.env.cells.lookup x=some c->∃ v,s.heap.IsCell c v
 free:H X.env.locals=none
 freeC : ∀ x c,X.env.cells.lookup x=some c->H c=none
 pin : ∀ p∈X.pn++zz,s.heap.get? p.1=some p.2/\H p.1=none/\p.1≠X.env.locals/\p.1∉X.fs/\∀ v,p.2.data ≠ .cell v
 hok:HOk X.prog X.w H s.heap
 len:σ.length=X.N.length
variable {X:Cx}{zz:zP}{s:Shared}
section
variable {σ:List (Option V)}
theorem Cx.Ok.nofr (ok:X.Ok) {b:Addr}{o:Obj} (e:X.base.get? b=some o):b∉X.fs:=fun hb=>by
 have:=(ok.funs.mem hb).1;rw [e] at this;cases this
theorem Inv.bs (I:Inv X zz σ H s) : ∀ b o,X.base.get? b=some o->s.heap.get? b=some o/\H b=none:=fun b o e =>
 ⟨I.base.keep b o (I.ok.bs b o e).1 (I.ok.bs b o e).2 (I.ok.nofr e) (I.ok.noex b o e),I.base.free b o (I.ok.bs b o e).1 (I.ok.bs b o e).2 (I.ok.noex b o e)⟩
theorem Inv.bk (I:Inv X zz σ H s) : ∀ b o,X.base.get? b=some o->s.heap.get? b=some o:=fun b o e=>(I.bs b o e).1
theorem Inv.mod (I:Inv X zz σ H s):Mod X.K X.mg X.base:=I.ok.mod
theorem Inv.kIn (I:Inv X zz σ H s):X.K.In s.heap:=I.ok.mod.kin.keeps I.bk
theorem Inv.nolimit (I:Inv X zz σ H s):s.heap.NoLimit:=I.ok.mod.nolimit.keeps I.bk
theorem Inv.fr (I:Inv X zz σ H s) : ∃ m,Fr X.base X.env.locals s.heap m :=
 let ⟨m,hn,_⟩:=I.loc
 ⟨m,hn,I.bk,Nat.le_trans I.ok.bsz I.ok.above⟩
theorem Inv.lt (I:Inv X zz σ H s):X.env.locals<s.heap.objs.size:=let ⟨_,hn,_⟩:=I.loc;hn.lt
theorem Inv.sz (I:Inv X zz σ H s):X.s_0.heap.objs.size<=s.heap.objs.size:=Nat.le_trans I.ok.above (Nat.le_of_lt I.lt)
theorem Inv.nofs (I:Inv X zz σ H s) {a:Addr} (h:s.heap.objs.size<=a):a∉X.fs:=fun hb=>by
 obtain ⟨_,o,ho,_⟩:=I.ok.funs.mem hb;exact absurd (Nat.lt_of_lt_of_le (lt_size ho) (Nat.le_trans I.sz h)) (Nat.lt_irrefl _)
theorem Inv.cne (I:Inv X zz σ H s) : ∀ x c,X.env.cells.lookup x=some c->c≠X.env.locals:=fun x c e z=>by
 obtain ⟨v,o,ho,hd⟩:=I.cell x c e;obtain ⟨m,⟨o',es,ep,ho',hd',_⟩,_⟩:=I.loc;rw [z,ho'] at ho;cases ho;rw [hd'] at hd;cases hd
theorem Inv.funs (I:Inv X zz σ H s):s.heap.FunFrames X.base X.outer:=by
 have all : ∀ (l:List Env),(∀ b∈frs l,b∈X.fs)->X.s_0.heap.FunFrames X.base l->s.heap.FunFrames X.base l:=by
  intro l
  induction l with
  | nil=>intro _ _;trivial
  | cons env r ih =>
  intro hs hl;obtain ⟨hk,⟨L,o,hf,hn,ho,hd⟩,hr⟩:=hl;have hL:L∈X.fs:=hs L (by unfold frs;rw [filterMap_cons,hf];exact mem_cons_self);obtain ⟨sl,e⟩:=I.base.slot L o ho (I.ok.frf L hL) hL fun z=>I.ok.exfs L z hL;exact ⟨hk,⟨L,_,hf,hn,e,hd⟩,ih (fun b hb=>hs b (by unfold frs;rw [filterMap_cons,hf];exact mem_cons_of_mem _ hb)) hr⟩
 exact all X.outer (fun _ hb=>hb) I.ok.funs
theorem Inv.stack (I:Inv X zz σ H s):s.heap.FunFrames X.base X.stack:=by
 rcases I.ok.stk with e | ⟨e,hf⟩
 ·rw [e];exact I.funs
 rw [e];obtain ⟨m,hn,_⟩:=I.loc;refine .cons (by rw [I.ok.kind];decide) hf hn ?_ I.funs;exact get?_none_of_le (Nat.le_trans I.ok.bsz I.ok.above)
theorem Inv.stkSub (I:Inv X zz σ H s) : ∀ b∈frs X.stack,b∈X.env.locals::X.fs:=fun b hb=>by
 rcases I.ok.stk with e | ⟨e,hf⟩
 ·rw [e] at hb;exact mem_cons_of_mem _ hb
 rw [e] at hb;unfold frs at hb;rw [filterMap_cons,hf] at hb;exact hb
theorem Inv.stkFree (I:Inv X zz σ H s) : ∀ b∈frs X.stack,H b=none:=fun b hb=>by
 rcases mem_cons.mp (I.stkSub b hb) with e | hb
 ·rw [e];exact I.free
 obtain ⟨_,o,ho,_⟩:=I.ok.funs.mem hb;exact I.base.free b o ho (I.ok.frf b hb) fun z=>I.ok.exfs b z hb
theorem Inv.step {g':Array GenState}{t':Nat}{d':Drawn}{ch:List Addr} (I:Inv X zz σ H s)
  (hch : ∀ b∈ch,(b∈X.ex\/X.s_0.heap.objs.size<=b)/\b≠X.env.locals/\(∀ x c,X.env.cells.lookup x=some c->c≠b)/\∀ p∈X.pn++zz,p.1≠b)
  (keep : ∀ b o,b≠X.env.locals->b∉X.fs->b∉ch->s.heap.get? b=some o->H b=none->h'.get? b=some o)
  (slot : ∀ b o,b≠X.env.locals->b∈X.fs->b∉ch->s.heap.get? b=some o->H b=none->∃ sl,h'.get? b=some { o with slots:=sl }) (free : ∀ b o,b∉ch->s.heap.get? b=some o->H b=none->H' b=none)
  (there : ∀ b o,b∉ch->s.heap.get? b=some o->∃ o',h'.get? b=some o')
  (tups : ∀ b xs,H b=some (.tup xs)->H' b=some (.tup xs)) (frzs : ∀ b o u,H b=some (.frz o u)->H' b=some (.frz o u)) (tbls : ∀ b ps,H b=some (.tbl ps)->∃ more,H' b=some (.tbl (ps++more)))
  (ns : ∀ m,s.heap.Ns X.env.locals m->h'.Ns X.env.locals m) (hok:HOk X.prog X.w H' h') (hg:AllBare g') :
  Inv X zz σ H' { s with heap:=h',gens:=g',drawn:=d',toks:=t' }:=by
 have neL : ∀ b o,X.s_0.heap.get? b=some o->b≠X.env.locals:=fun b o e=>Nat.ne_of_lt (Nat.lt_of_lt_of_le (lt_size e) I.ok.above);have neC : ∀ b o,X.s_0.heap.get? b=some o->b∉X.ex->b∉ch:=fun b o e hx hb=>by
  rcases (hch b hb).1 with z | z
  ·exact hx z
  exact absurd (Nat.lt_of_lt_of_le (lt_size e) z) (Nat.lt_irrefl _)
 have cellK : ∀ x c,X.env.cells.lookup x=some c->∀ v,s.heap.IsCell c v->h'.IsCell c v:=fun x c e v ⟨o,ho,hd⟩=>by
  have nch:c∉ch:=fun z=>(hch c z).2.2.1 x c e rfl;by_cases hc:c∈X.fs
  ·obtain ⟨sl,q⟩:=slot c o (I.cne x c e) hc nch ho (I.freeC x c e)
   exact ⟨_,q,hd⟩
  exact ⟨o,keep c o (I.cne x c e) hc nch ho (I.freeC x c e),hd⟩
 refine ⟨I.ok,I.os,hg,⟨fun b o e n hb hx=>?_,fun b o e n hb hx=>?_,fun b o e n hx=>?_,fun b o e hx=>?_,fun b xs e=>tups b xs (I.base.tups b xs e),fun b o xs e=>frzs b o xs (I.base.frzs b o xs e),fun b ps e=>?_⟩,?_,fun x c e=>?_,?_,fun x c e=>?_,fun p hp=>?_,hok,I.len⟩
 ·exact keep b o (neL b o e) hb (neC b o e hx) (I.base.keep b o e n hb hx) (I.base.free b o e n hx)
 ·obtain ⟨sl,e1⟩:=I.base.slot b o e n hb hx
  obtain ⟨sl',e2⟩:=slot b _ (neL b o e) hb (neC b o e hx) e1 (I.base.free b o e n hx);exact ⟨sl',e2⟩
 ·obtain ⟨o',e1⟩:=I.base.there b o e hx
  exact free b o' (neC b o e hx) e1 (I.base.free b o e n hx)
 ·obtain ⟨o',e1⟩:=I.base.there b o e hx
  exact there b o' (neC b o e hx) e1
 ·obtain ⟨m1,e1⟩:=I.base.tbls b ps e
  obtain ⟨m2,e2⟩:=tbls b _ e1;exact ⟨m1++m2,by rw [e2,Array.append_assoc]⟩
 ·obtain ⟨m,hn,hl⟩:=I.loc
  refine ⟨m,ns m hn,fun i x v e1 e2 e3=>?_⟩;obtain ⟨u,r,l⟩:=hl i x v e1 e2 e3;refine ⟨u,r,?_⟩;rcases l with l | ⟨k,c,e,z⟩
  ·exact .inl l
  exact .inr ⟨k,c,e,cellK x c e _ z⟩
 ·obtain ⟨v,z⟩:=I.cell x c e
  exact ⟨v,cellK x c e v z⟩
 ·obtain ⟨m,⟨o,_,_,ho,_⟩,_⟩:=I.loc
  exact free _ o (fun z=>(hch _ z).2.1 rfl) ho I.free
 ·obtain ⟨v,o,ho,hd⟩:=I.cell x c e
  exact free c o (fun z=>(hch c z).2.2.1 x c e rfl) ho (I.freeC x c e)
 refine x_04 (I.pin p hp) fun e n ne nf d=>?_;have nch:p.1∉ch:=fun z=>(hch p.1 z).2.2.2 p hp rfl;exact ⟨keep p.1 p.2 ne nf nch e n,free p.1 p.2 nch e n,ne,nf,d⟩
theorem Inv.un {t':Nat} (I:Inv X zz σ H s) (u:Un X.fs [] H H' s.heap h') (hok:HOk X.prog X.w H' h'):Inv X zz σ H' { s with heap:=h',toks:=t' }:=by
 obtain ⟨m,⟨o,es,ep,ho,r⟩,_⟩:=id I.loc;obtain ⟨sl,hL⟩:=u.any ho I.free (by simp);exact I.step (g':=s.gens) (d':=s.drawn) (ch:=[]) (fun _ z=>nomatch z) (fun b o _ hb _ e n=>u.keep b o e n hb (by simp)) (fun b o _ hb _ e n=>u.slot b o e n hb (by simp)) (fun b o _ e n=>u.free b o e n (by simp)) (fun b o _ e=>u.there b o e (by simp)) u.tups u.frzs u.tbls (fun m' hm=>by
  obtain ⟨o',es',ep',ho',r'⟩:=hm;rw [ho] at ho';cases ho';exact ⟨_,es',ep',hL,r'⟩) hok I.bare
theorem Inv.call {g':Array GenState}{t':Nat}{d':Drawn}{ch:List Addr} (I:Inv X zz σ H s) (u:Un (frs X.stack) ch H H' s.heap h') (hok:HOk X.prog X.w H' h') (hg:AllBare g')
  (hch : ∀ b∈ch,(b∈X.ex\/X.s_0.heap.objs.size<=b)/\b≠X.env.locals/\(∀ x c,X.env.cells.lookup x=some c->c≠b)/\∀ p∈X.pn++zz,p.1≠b) :
  Inv X zz σ H' { s with heap:=h',gens:=g',drawn:=d',toks:=t' }:=by
 obtain ⟨m,⟨o,es,ep,ho,r⟩,_⟩:=id I.loc;obtain ⟨sl,hL⟩:=u.any ho I.free fun z=>(hch _ z).2.1 rfl;exact I.step (ch:=ch) hch (fun b o hL hb hc e n=>u.keep b o e n (fun z=>(mem_cons.mp (I.stkSub b z)).elim hL hb) hc) (fun b o _ _ hc e n=>u.any e n hc) (fun b o hc e n=>u.free b o e n hc) (fun b o hc e=>u.there b o e hc) u.tups u.frzs u.tbls (fun m' hm=>by
  obtain ⟨o',es',ep',ho',r'⟩:=hm;rw [ho] at ho';cases ho';exact ⟨_,es',ep',hL,r'⟩) hok hg
theorem Inv.turned {t':Nat}{it:Addr} (I:Inv X zz σ H s) (k : ∀ b o,b≠it->s.heap.get? b=some o->h'.get? b=some o) (hn:H it=none) (hL:it≠X.env.locals)
  (h1:it∈X.ex\/X.s_0.heap.objs.size<=it) (h2 : ∀ x c,X.env.cells.lookup x=some c->c≠it) (h3 : ∀ p∈X.pn++zz,p.1≠it):Inv X zz σ H { s with heap:=h',toks:=t' }:=by
 have nit : ∀ b u,H b=some u->b≠it:=fun b u e z=>by rw [z,hn] at e;cases e
 refine I.step (g':=s.gens) (d':=s.drawn) (ch:=[it]) (fun b hb=>?_) (fun b o _ _ hc e _=>k b o (fun z=>hc (by simp [z])) e) (fun b o _ _ hc e _=>⟨o.slots,k b o (fun z=>hc (by simp [z])) e⟩) (fun _ _ _ _ n=>n)
  (fun b o hc e=>⟨o,k b o (fun z=>hc (by simp [z])) e⟩) (fun _ _ e=>e) (fun _ _ _ e=>e) (fun b ps e=>⟨#[],by rw [e];simp⟩) (fun m hm=>?_) (fun b u e=>?_) I.bare
 ·have e:b=it:=by simpa using hb
  subst e;exact ⟨h1,hL,h2,h3⟩
 ·obtain ⟨o,es,ep,ho,r⟩:=hm
  exact ⟨o,es,ep,k _ o (Ne.symm hL) ho,r⟩
 refine (I.hok b u e).stay (fun c v hc q=>k c v ?_ q) (fun _ q=>q) fun _ _ q=>q;rcases hc with z | z
 ·rw [z];exact nit b u e
 exact nit c _ z
theorem Inv.tok (I:Inv X zz σ H s) (t:Nat):Inv X zz σ H { s with toks:=t }:=I.un (h':=s.heap) (t':=t) Un.refl I.hok
theorem Inv.kept {t':Nat} (I:Inv X zz σ H s) (k : ∀ b u,s.heap.get? b=some u->h'.get? b=some u):Inv X zz σ H { s with heap:=h',toks:=t' }:=I.un (Un.kept k) (I.hok.kept k)
theorem Inv.laid {a:Addr}{o:HO}{t':Nat} (I:Inv X zz σ H s) (k : ∀ b u,s.heap.get? b=some u->h'.get? b=some u) (hp:s.heap.objs.size<=a) (new:aT_ X.prog X.w (upd H a o) h' a o) :
  Inv X zz σ (upd H a o) { s with heap:=h',toks:=t' }:=I.un (Un.laid k hp (I.hok.fresh hp)) (I.hok.laid k hp new)
theorem Inv.write {x e:Addr}{o:HO}{t':Nat} (I:Inv X zz σ H s) (mu:Mut (H x)) (he:e=x\/H e=some (.own x)) (k : ∀ b u,b≠e->s.heap.get? b=some u->h'.get? b=some u) (heo : ∃ u,h'.get? e=some u)
  (new:aT_ X.prog X.w (upd H x o) h' x o):Inv X zz σ (upd H x o) { s with heap:=h',toks:=t' }:=I.un (Un.write mu he k heo) (I.hok.write mu he k heo new)
theorem Inv.weak {σ':List (Option V)} (I:Inv X zz σ H s) (hl:σ'.length=σ.length) (w : ∀ (i:Nat) v,σ'[i]? = some (some v)->σ[i]? = some (some v)):Inv X zz σ' H s :=
 ⟨I.ok,I.os,I.bare,I.base,let ⟨m,hn,hl'⟩:=I.loc;⟨m,hn,fun i x v e1 e2 e3=>hl' i x v e1 (w i v e2) e3⟩,I.cell,I.free,I.freeC,I.pin,I.hok,hl.trans I.len⟩
theorem Inv.pins_of {pins':zP} (I:Inv X zz σ H s) (h : ∀ p∈pins',s.heap.get? p.1=some p.2/\H p.1=none/\p.1≠X.env.locals/\p.1∉X.fs/\∀ v,p.2.data ≠ .cell v):Inv X pins' σ H s :=
 ⟨I.ok,I.os,I.bare,I.base,I.loc,I.cell,I.free,I.freeC,fun p hp=>(mem_append.mp hp).elim (fun z=>I.pin p (mem_append_left _ z)) (h p),I.hok,I.len⟩
theorem gb_ {N:List Str} (hN:N.Nodup) {i j:Nat}{x:Str} (a:N[i]? = some x) (b:N[j]? = some x):i=j:=by
 obtain ⟨h1,e1⟩:=List.getElem?_eq_some_iff.mp a;obtain ⟨h2,e2⟩:=List.getElem?_eq_some_iff.mp b;exact (List.getElem_inj hN).mp (e1.trans e2.symm)
theorem kg_ {M:Model}{A:Around}{E:zQ}{i:Nat}{x:Str}{v:V}{u:Value}{Q:Unit->Shared->Prop} (I:Inv X zz σ H s) (hN:X.N.Nodup) (hi:X.N[i]? = some x) (hx:Loc X.env.scope x) (r:RelV v u)
  (h : ∀ s',Inv X zz (σ.set i (some v)) H s'->(∃ a,Heap.SameBut a s.heap s'.heap/\(a=X.env.locals\/X.env.cells.lookup x=some a))->Q () s') (hf:X.fn x=true\/X.env.scope.names.lookup x=some .local:=by first | exact .inl rfl | exact .inr rfl | assumption):wpAny M A (storeName X.env x u) Q E s:=by
 obtain ⟨m,hn,hl⟩:=id I.loc;have hcls:(X.env.scope.kind == .class || (X.env.scope.kind == .module && X.env.locals != X.env.globals))=false:=by rw [I.ok.kind];rfl
 have hiσ:i<σ.length:=by rw [I.len];exact (List.getElem?_eq_some_iff.mp hi).1
 have cne:=I.cne;have tracked : ∀ {a:Addr}{h':Heap},(∃ o,s.heap.get? a=some o/\H a=none)->Heap.SameBut a s.heap h'->HOk X.prog X.w H h':=fun {a h'} ha hs b ob e=>by
  obtain ⟨_,_,hfree⟩:=ha;refine (I.hok b ob e).stay (fun c w' hc q=>(hs.2 c ?_).trans q) (fun _ q=>q) fun _ _ q=>q
  rintro rfl
  rcases hc with rfl | hc
  ·rw [hfree] at e;cases e
  rw [hfree] at hc;cases hc
 rcases hx with hk | hk
 ·refine wpAny_storeName_local hk hn (fun h' hn' hs=>?_) hcls
  refine x_30 (id hn) fun oL _ _ zy=>x_01 zy fun hoL _=>?_;refine h _ ⟨I.ok,I.os,I.bare,⟨fun b o e n hb hx=>?_,fun b o e n hb hx=>?_,I.base.free,fun b o e hx=>?_,I.base.tups,I.base.frzs,I.base.tbls⟩,⟨_,hn',fun j y v' e1 e2 e3=>?_⟩,fun y c e=>?_,I.free,I.freeC,fun p hp=>?_,tracked ⟨oL,hoL,I.free⟩ hs,by simpa using I.len⟩ ⟨_,hs,.inl rfl⟩
  ·exact (hs.2 b (Nat.ne_of_lt (Nat.lt_of_lt_of_le (lt_size e) I.ok.above))).trans (I.base.keep b o e n hb hx)
  ·obtain ⟨sl,e1⟩:=I.base.slot b o e n hb hx
   exact ⟨sl,(hs.2 b (Nat.ne_of_lt (Nat.lt_of_lt_of_le (lt_size e) I.ok.above))).trans e1⟩
  ·obtain ⟨o',e1⟩:=I.base.there b o e hx
   exact ⟨o',(hs.2 b (Nat.ne_of_lt (Nat.lt_of_lt_of_le (lt_size e) I.ok.above))).trans e1⟩
  ·by_cases hj:j=i
   ·subst hj
    rw [hi] at e1;cases e1;rw [List.getElem?_set_self hiσ] at e2;cases e2;exact ⟨u,r,.inl ⟨hk,by simp⟩⟩
   rw [List.getElem?_set_ne (Ne.symm hj)] at e2;obtain ⟨u',r',q⟩:=hl j y v' e1 e2 e3;refine ⟨u',r',?_⟩;rcases q with ⟨k,e⟩ | ⟨k,c,e,z⟩
   ·refine .inl ⟨k,?_⟩
    have:y≠x:=fun e=>hj (gb_ hN e1 (e ▸ hi));simp [this,e]
   exact .inr ⟨k,c,e,z.sameBut hs (cne y c e)⟩
  ·obtain ⟨w',z⟩:=I.cell y c e
   exact ⟨w',z.sameBut hs (cne y c e)⟩
  refine x_04 (I.pin p hp) fun e n ne nf d=>?_;exact ⟨(hs.2 p.1 ne).trans e,n,ne,nf,d⟩
 have hfn:X.fn x=true:=by
  rcases hf with z | z
  ·exact z
  rw [z] at hk;cases hk
 obtain ⟨c,hc⟩:=I.ok.has x (.inl hk);obtain ⟨w',z⟩:=I.cell x c hc;refine wpAny_storeName_cell I.ok.kind hk hc z (fun h' hc' hs=>?_);obtain ⟨oc,hoc,hocd⟩:=id z;refine h { s with heap:=h' } ⟨I.ok,I.os,I.bare,⟨fun b o e n hb hx=>?_,fun b o e n hb hx=>?_,I.base.free,fun b o e hx=>?_,I.base.tups,I.base.frzs,I.base.tbls⟩,⟨m,hn.sameBut hs (Ne.symm (cne x c hc)),fun j y v' e1 e2 e3=>?_⟩,fun y c' e=>?_,I.free,I.freeC,fun p hp=>?_,tracked ⟨oc,hoc,I.freeC x c hc⟩ hs,by simpa using I.len⟩ ⟨c,hs,.inr hc⟩
 ·exact (hs.2 b (Nat.ne_of_lt (Nat.lt_of_lt_of_le (lt_size e) (I.ok.cab x c hfn hc)))).trans (I.base.keep b o e n hb hx)
 ·obtain ⟨sl,e1⟩:=I.base.slot b o e n hb hx
  exact ⟨sl,(hs.2 b (Nat.ne_of_lt (Nat.lt_of_lt_of_le (lt_size e) (I.ok.cab x c hfn hc)))).trans e1⟩
 ·obtain ⟨o',e1⟩:=I.base.there b o e hx
  exact ⟨o',(hs.2 b (Nat.ne_of_lt (Nat.lt_of_lt_of_le (lt_size e) (I.ok.cab x c hfn hc)))).trans e1⟩
 ·by_cases hj:j=i
  ·subst hj
   rw [hi] at e1;cases e1;rw [List.getElem?_set_self hiσ] at e2;cases e2;exact ⟨u,r,.inr ⟨.inl hk,c,hc,hc'⟩⟩
  rw [List.getElem?_set_ne (Ne.symm hj)] at e2;obtain ⟨u',r',q⟩:=hl j y v' e1 e2 e3;refine ⟨u',r',?_⟩;rcases q with q | ⟨k,c',e,z'⟩
  ·exact .inl q
  refine .inr ⟨k,c',e,z'.sameBut hs ?_⟩
  rintro rfl
  exact hj (gb_ hN e1 (I.ok.inj _ _ _ e hc ▸ hi))
 ·by_cases hcc:c'=c
  ·subst hcc;exact ⟨_,hc'⟩
  obtain ⟨w2,z2⟩:=I.cell y c' e;exact ⟨w2,z2.sameBut hs hcc⟩
 refine x_04 (I.pin p hp) fun e n ne nf d=>?_;refine ⟨(hs.2 p.1 ?_).trans e,n,ne,nf,d⟩;intro q;rw [q,hoc] at e;have q':oc=p.2:=Option.some.inj e;exact d w' (by rw [<- q'];exact hocd)
theorem eg_ {M:Model}{A:Around}{E:zQ}{i:Nat}{x:Str}{v:V}{u:Value}{Q:Unit->Shared->Prop} (I:Inv X zz σ H s) (hN:X.N.Nodup) (hi:X.N[i]? = some x) (hx:Loc X.env.scope x) (r:RelV v u)
  (h : ∀ s',Inv X zz (σ.set i (some v)) H s'->Q () s') (hf:X.fn x=true\/X.env.scope.names.lookup x=some .local:=by first | exact .inl rfl | exact .inr rfl | assumption):wpAny M A (storeName X.env x u) Q E s :=
 kg_ I hN hi hx r (fun s' I' _=>h s' I') hf
theorem Inv.call' {s':Shared}{ch:List Addr} (I:Inv X zz σ H s) (ho:s'.os=s.os) (u:Un (frs X.stack) ch H H' s.heap s'.heap) (hok:HOk X.prog X.w H' s'.heap) (hg:AllBare s'.gens)
  (hch : ∀ b∈ch,(b∈X.ex\/X.s_0.heap.objs.size<=b)/\b≠X.env.locals/\(∀ x c,X.env.cells.lookup x=some c->c≠b)/\∀ p∈X.pn++zz,p.1≠b):Inv X zz σ H' s':=by
 obtain ⟨h',g',d',t',o'⟩:=s';have e:o'=s.os:=ho;subst e;exact I.call (g':=g') (t':=t') (d':=d') u hok hg hch
end
abbrev XK:=Value->Option Addr->Hp->Prop
abbrev St:=List (Option V)
abbrev VK:=V->Hp->Prop
abbrev TE:=St->Hp->VK->Prop
abbrev TT:=St->Hp->(Bool->Hp->Prop)->Prop
abbrev TA:=St->Hp->(List V->Hp->Prop)->Prop
structure Ends where
 nx:St->Hp->Prop
 rt:VK
 bk:St->Hp->Prop:=fun _ _=>False
 ct:St->Hp->Prop:=fun _ _=>False
abbrev TS:=Ends->St->Hp->Prop
def EP (X:Cx) (zz:zP) (σ:St) (Q:VK) (u:Value) (s':Shared):Prop:=∃ v H',Inv X zz σ H' s'/\RelV v u/\Q v H'
def TP (X:Cx) (zz:zP) (σ:St) (Q:Bool->Hp->Prop) (b:Bool) (s':Shared):Prop:=∃ H',Inv X zz σ H' s'/\Q b H'
def AP (X:Cx) (zz:zP) (σ:St) (Q:List V->Hp->Prop) (us:List Value) (s':Shared):Prop:=∃ vs H',Inv X zz σ H' s'/\Vals vs us/\Q vs H'
def SP (X:Cx) (zz:zP) (D:Ends) (f:Flow) (s':Shared):Prop :=
 match f with
 | .next=>∃ σ' H',Inv X zz σ' H' s'/\D.nx σ' H'
 | .brk=>∃ σ' H',Inv X zz σ' H' s'/\D.bk σ' H'
 | .cont=>∃ σ' H',Inv X zz σ' H' s'/\D.ct σ' H'
 | .ret u=>∃ v σ' H',Inv X zz σ' H' s'/\RelV v u/\D.rt v H'
def PE (X:Cx) (e:Expr) (t:TE):Prop :=
 ∀ (zz:zP) (s:Shared) (σ:St) (H:Hp) (Q:VK),Inv X zz σ H s->t σ H Q->wpAny (model X.prog X.w) X.A (eval e X.env) (EP X zz σ Q) X.xe s
def PT (X:Cx) (e:Expr) (t:TT):Prop :=
 ∀ (zz:zP) (s:Shared) (σ:St) (H:Hp) (Q:Bool->Hp->Prop),Inv X zz σ H s->t σ H Q->wpAny (model X.prog X.w) X.A (isTrue e X.env (eval e X.env)) (TP X zz σ Q) X.xe s
def PW (X:Cx) (e:Expr) (t:TT):Prop :=
 ∀ (whole:Sem Value) (zz:zP) (s:Shared) (σ:St) (H:Hp) (Q:Bool->Hp->Prop),Inv X zz σ H s->t σ H Q->wpAny (model X.prog X.w) X.A (isTrue e X.env whole) (TP X zz σ Q) X.xe s
theorem PW.pt {X:Cx}{e:Expr}{t:TT} (h:PW X e t):PT X e t:=h _
def PA (X:Cx) (es:List Expr) (t:TA):Prop :=
 ∀ (pos:Pos) (zz:zP) (s:Shared) (σ:St) (H:Hp) (Q:List V->Hp->Prop),Inv X zz σ H s->t σ H Q->wpAny (model X.prog X.w) X.A (spliced (backTo pos (starEach es X.env))) (AP X zz σ Q) X.xe s
def PS (X:Cx) (st:Stmt) (t:TS):Prop :=
 ∀ (zz:zP) (s:Shared) (σ:St) (H:Hp) (D:Ends),Inv X zz σ H s->t D σ H->wpAny (model X.prog X.w) X.A (exec st X.env) (SP X zz D) X.xe s
def PSs (X:Cx) (st:List Stmt) (t:TS):Prop :=
 ∀ (zz:zP) (s:Shared) (σ:St) (H:Hp) (D:Ends),Inv X zz σ H s->t D σ H->wpAny (model X.prog X.w) X.A (execs st X.env) (SP X zz D) X.xe s
theorem thn {α:Type}{t:Sem α}{Q Q':α->Shared->Prop}{M:Model}{A:Around}{E:zQ}{s:Shared} (h:wpAny M A t Q E s) (hQ : ∀ a s,Q a s->Q' a s):wpAny M A t Q' E s:=wpAny_mono h hQ fun _ _ x=>x
section
def tVar (i:Nat):TE:=fun σ H Q=>match σ[i]? with
 | some (some v)=>Q v H
 | _=>False
theorem nV_ {i:Nat}{σ:St}{H:Hp}{Q:VK} (h:tVar i σ H Q) : ∃ v,σ[i]? = some (some v)/\Q v H:=by
 unfold tVar at h;split at h
 ·rename_i v e
  exact ⟨v,e,h⟩
 exact h.elim
def tC (v:V):TE:=fun _ H Q=>Q v H
theorem pD_ {i:Nat}{x:Str}{pos:Pos} (hN:X.N[i]? = some x) (hv:Vis X.env.scope x) (hd:(x == ("__debug__":Str))=false:=by decide) (hcd:(x == ("__classdict__":Str))=false:=by decide):PE X (.Name x pos) (tVar i):=by
 intro zz s σ H Q I h;obtain ⟨v,e,h⟩:=nV_ h;obtain ⟨m,hn,hl⟩:=I.loc;obtain ⟨u,r,l⟩:=hl i x v hN e hv;have fin:EP X zz σ Q u s:=⟨v,H,I,r,h⟩;rcases l with ⟨hk,hm⟩ | ⟨hk,c,hc,hcell⟩
 ·exact wpAny_Name (wpAny_loadName_local I.ok.kind hk hn hm fin) hd
 rcases hk with hk | hk
 ·exact wpAny_Name (wpAny_loadName_cell I.ok.kind hk hc hcell fin) hd
 exact wpAny_Name (wpAny_loadName_free I.ok.kind hk hc hcell fin hcd) hd
theorem aj_ {i j pos}:PE X (.Constant (.int i) j pos) (tC (.int i)):=fun _ _ _ H _ I h=>wpAny_Constant_int ⟨.int i,H,I.tok _,⟨_,rfl⟩,h⟩
theorem jk_ {b j pos}:PE X (.Constant (.bool b) j pos) (tC (.bl b)):=fun _ _ _ H _ I h=>Constant_bool ⟨.bl b,H,I,rfl,h⟩
theorem kL_ {j pos}:PE X (.Constant .none j pos) (tC .non):=fun _ _ _ H _ I h=>Constant_none ⟨.non,H,I,rfl,h⟩
theorem aq_ {x j pos}:PE X (.Constant (.str x) j pos) (tC (.str x)):=fun _ _ _ H _ I h=>Calls.Constant_str ⟨.str x,H,I.tok _,⟨_,rfl⟩,h⟩
def Gl (X:Cx) (x:Str):Prop:=X.env.kindOf x=some .globalImplicit
theorem dO_ {E:zQ}{zz:zP}{s:Shared}{σ:St}{H:Hp}{x:Str}{u:Value}{pos:Pos}{Q:zQ} (I:Inv X zz σ H s) (hg:Gl X x) (hm:X.mg x=some u) (h:Q u s)
  (hd:(x == ("__debug__":Str))=false:=by decide):wpAny (model X.prog X.w) X.A (eval (.Name x pos) X.env) Q E s :=
 Calls.Name_function_global I.ok.kind hg (Calls.loadGlobal_global (by rw [I.ok.glob];exact I.mod.glob.keeps I.bk) hm h) hd
theorem d1_ {E:zQ}{zz:zP}{s:Shared}{σ:St}{H:Hp}{x:Str}{u:Value}{pos:Pos}{Q:zQ} (I:Inv X zz σ H s) (hg:Gl X x) (hm:X.mg x=none) (hv:bootBuiltins x=some u) (h:Q u s)
  (hn:x≠"__name__":=by decide) (hd:(x == ("__debug__":Str))=false:=by decide):wpAny (model X.prog X.w) X.A (eval (.Name x pos) X.env) Q E s:=by
 obtain ⟨mb,h1,h2⟩:=I.mod.blt;exact Calls.Name_function_global I.ok.kind hg (Calls.loadGlobal_builtin (by rw [I.ok.glob];exact I.mod.glob.keeps I.bk) hm (by rw [I.ok.blt];exact h1.keeps I.bk) ((h2 x hn).trans hv) h) hd
theorem kN_ {x:Str}{v:V}{u:Value}{pos:Pos} (hg:Gl X x) (hm:X.mg x=some u) (r:RelV v u) (hd:(x == ("__debug__":Str))=false:=by decide):PE X (.Name x pos) (tC v) :=
 fun _ _ _ H _ I h=>dO_ I hg hm ⟨v,H,I,r,h⟩ hd
variable {a b:Expr}{ta tb:TE}{pos:Pos}
def PC (X:Cx) (op:CmpOp) (a b:Expr) (t:TE):Prop :=
 ∀ (zz:zP) (s:Shared) (σ:St) (H:Hp) (Q:VK),Inv X zz σ H s->t σ H Q ->
  wpAny (model X.prog X.w) X.A (eval a X.env) (fun v s₁=>wpAny (model X.prog X.w) X.A (eval b X.env) (fun u s₂=>wpAny (model X.prog X.w) X.A (compareOp op v u) (EP X zz σ Q) X.xe s₂) X.xe s₁) X.xe s
theorem mx_ (b:Expr) {op:CmpOp} (h:op ≠ .In) (h2:op ≠ .NotIn):behindInMarks op b=false:=by
 have e1:(op == CmpOp.In)=false:=by cases op <;> first | rfl | exact absurd rfl h
 have e2:(op == CmpOp.NotIn)=false:=by cases op <;> first | rfl | exact absurd rfl h2
 cases b <;> simp [behindInMarks,e1,e2]
def tIsN (ta:TE):TE:=fun σ H Q=>ta σ H fun x H1=>Q (.bl (decide (x = .non))) H1
def qq_ (ta:TE):TE:=fun σ H Q=>ta σ H fun x H1=>Q (.bl (!decide (x = .non))) H1
theorem RelV.none_iff {x:V}{v:Value} (r:RelV x v):(v == Value.none)=decide (x = .non):=by
 cases x with
 | non=>cases r;rfl
 | bl _=>cases r;rfl
 | int _=>obtain ⟨t,rfl⟩:=r;rfl
 | str _=>obtain ⟨t,rfl⟩:=r;rfl
 | byt _=>obtain ⟨t,rfl⟩:=r;rfl
 | flt _=>obtain ⟨t,rfl⟩:=r;rfl
 | ref _=>cases r;rfl
 | ty _=>cases r;rfl
theorem pG_ {j pos'} (ha:PE X a ta):PC X .Is a (.Constant .none j pos') (tIsN ta):=by
 intro zz s σ H Q I h;refine thn (ha zz s σ H _ I h) fun v s1 zq=>?_;refine x_22 zq fun x H1 I1 r1 q1=>?_;exact Constant_none (is_none_gen ⟨.bl _,H1,I1,by rw [r1.none_iff];rfl,q1⟩)
def tB (t:TE):TT:=fun σ H Q=>t σ H fun x H1=>∃ c,x = .bl c/\Q c H1
theorem nr_ {op:CmpOp}{t:TE} (h:PC X op a b t) (h1:behindInMarks op b=false:=by first | exact mx_ _ (by decide) (by decide) | rfl):PT X (.Compare a [op] [b] pos) (tB t):=by
 intro zz s σ H Q I hw;refine wpAny_isTrue_Compare1 (thn (h zz s σ H _ I hw) fun v s1 h1=>thn h1 fun u s2 h2=>thn h2 fun c s3 zq=>?_) h1;obtain ⟨x,H1,I1,r1,q1⟩:=zq;obtain ⟨d,rfl,q⟩:=q1;cases r1;exact wpAny_truthy_bool ⟨H1,I1,q⟩
theorem cq_ {e:Expr}{t:TE} (h:PE X e t) (he : ∀ whole,isTrue e X.env whole=(do let v <- whole;standAt e.pos;holding [v] (truthy v)):=by intro _;rfl):PT X e (tB t):=by
 intro zz s σ H Q I hw;refine isTrue_plain (thn (h zz s σ H _ I hw) fun v s1 zq=>?_) (he _);obtain ⟨x,H1,I1,r1,q1⟩:=zq;obtain ⟨d,rfl,q⟩:=q1;cases r1;exact wpAny_truthy_bool ⟨H1,I1,q⟩
variable {tA tB':TT}{rest:List Expr}
def tAnd (t u:TT):TT:=fun σ H Q=>t σ H fun c H1=>if c=true then u σ H1 Q else Q false H1
def tOr (t u:TT):TT:=fun σ H Q=>t σ H fun c H1=>if c=true then Q true H1 else u σ H1 Q
def tNot (t:TT):TT:=fun σ H Q=>t σ H fun c H1=>Q (!c) H1
theorem pw_and1 (ha:PT X a tA):PW X (.BoolOp .And [a] pos) tA:=by
 intro wh zz s σ H Q I h;refine isTrue_and (thn (ha zz s σ H Q I h) fun c s1 e=>?_);cases c with
 | true=>exact isTrue_and_nil e
 | false=>exact e
theorem pw_or1 (ha:PT X a tA):PW X (.BoolOp .Or [a] pos) tA:=by
 intro wh zz s σ H Q I h;refine isTrue_or (thn (ha zz s σ H Q I h) fun c s1 e=>?_);cases c with
 | false=>exact isTrue_or_nil e
 | true=>exact e
theorem pw_and (ha:PT X a tA) (hb:PW X (.BoolOp .And (b::rest) pos) tB'):PW X (.BoolOp .And (a::b::rest) pos) (tAnd tA tB'):=by
 intro wh zz s σ H Q I h;refine isTrue_and (thn (ha zz s σ H _ I h) fun c s1 ⟨H1,I1,q1⟩=>?_);cases c with
 | true=>exact hb wh zz s1 σ H1 Q I1 q1
 | false=>exact ⟨H1,I1,q1⟩
theorem pw_or (ha:PT X a tA) (hb:PW X (.BoolOp .Or (b::rest) pos) tB'):PW X (.BoolOp .Or (a::b::rest) pos) (tOr tA tB'):=by
 intro wh zz s σ H Q I h;refine isTrue_or (thn (ha zz s σ H _ I h) fun c s1 ⟨H1,I1,q1⟩=>?_);cases c with
 | true=>exact ⟨H1,I1,q1⟩
 | false=>exact hb wh zz s1 σ H1 Q I1 q1
theorem nq_ (ha:PT X a tA):PT X (.UnaryOp .Not a pos) (tNot tA):=by
 intro zz s σ H Q I h;exact isTrue_not (ha zz s σ H (fun c H1=>Q (!c) H1) I h)
def pf_ (ta tb:TE):TE:=fun σ H Q=>ta σ H fun x H1=>∃ c,x = .bl c/\if c=true then tb σ H1 Q else Q (.bl false) H1
def tOrV (ta tb:TE):TE:=fun σ H Q=>ta σ H fun x H1=>∃ c,x = .bl c/\if c=true then Q (.bl true) H1 else tb σ H1 Q
def qp_ (ta:TE):TE:=fun σ H Q=>ta σ H fun x H1=>∃ c,x = .bl c/\Q (.bl (!c)) H1
theorem kK_ {op}{t:TE} (h:PE X a t):PE X (.BoolOp op [a] pos) t:=fun zz s σ H Q I hw=>BoolOp_one (h zz s σ H Q I hw)
theorem pF_ (ha:PE X a ta) (hb:PE X (.BoolOp .And (b::rest) pos) tb):PE X (.BoolOp .And (a::b::rest) pos) (pf_ ta tb):=by
 intro zz s σ H Q I h;refine BoolOp_and (thn (ha zz s σ H _ I h) fun v s1 zq=>?_);refine x_22 zq fun x H1 I1 r1 q1=>?_;obtain ⟨c,rfl,q1⟩:=q1;cases r1;refine wpAny_truthy_bool ?_;cases c with
 | true=>exact hb zz s1 σ H1 Q I1 q1
 | false=>exact ⟨.bl false,H1,I1,rfl,q1⟩
theorem ok_ (ha:PE X a ta) (hb:PE X (.BoolOp .Or (b::rest) pos) tb):PE X (.BoolOp .Or (a::b::rest) pos) (tOrV ta tb):=by
 intro zz s σ H Q I h;refine BoolOp_or (thn (ha zz s σ H _ I h) fun v s1 zq=>?_);refine x_22 zq fun x H1 I1 r1 q1=>?_;obtain ⟨c,rfl,q1⟩:=q1;cases r1;refine wpAny_truthy_bool ?_;cases c with
 | false=>exact hb zz s1 σ H1 Q I1 q1
 | true=>exact ⟨.bl true,H1,I1,rfl,q1⟩
def tIf (t:TT) (ta tb:TE):TE:=fun σ H Q=>t σ H fun c H1=>if c=true then ta σ H1 Q else tb σ H1 Q
theorem cI_ {c:Expr} (hc:PT X c tA) (ha:PE X a ta) (hb:PE X b tb):PE X (.IfExp c a b pos) (tIf tA ta tb):=by
 intro zz s σ H Q I h;refine wpAny_IfExp (thn (hc zz s σ H _ I h) fun d s1 ⟨H1,I1,q1⟩=>?_);cases d with
 | true=>exact ha zz s1 σ H1 Q I1 q1
 | false=>exact hb zz s1 σ H1 Q I1 q1
end
def SqL (K:Frag) (H:Hp) (a:Addr) (xs:List V):Prop :=
 Rd H a (.lst xs) \/
  ∃ (o:Obj) (its:Array Value) (n:Nat),K.lookup a=some o/\o.cls = .type "list"/\o.dict=none/\o.data = .seq its n/\its.size<=sizeLine/\Vals xs its.toList
def SqT (K:Frag) (H:Hp) (a:Addr) (xs:List V):Prop :=
 Rd H a (.tup xs) \/
  ∃ (o:Obj) (its:Array Value) (n:Nat),K.lookup a=some o/\o.cls = .type "tuple"/\o.data = .seq its n/\its.size<=sizeLine/\Vals xs its.toList
noncomputable def absV:Value->Option V
 | .none=>some .non
 | .bool b=>some (.bl b)
 | .int i _=>some (.int i)
 | .str x _=>some (.str x)
 | .bytes b _=>some (.byt b)
 | .float b _=>some (.flt b)
 | .ref a=>some (.ref a)
 | .type n=>some (.ty n)
 | _=>none
theorem RelV.abs {x:V}{u:Value} (r:RelV x u):absV u=some x:=by
 cases x with
 | non=>cases r;rfl
 | bl _=>cases r;rfl
 | int _=>obtain ⟨t,rfl⟩:=r;rfl
 | str _=>obtain ⟨t,rfl⟩:=r;rfl
 | byt _=>obtain ⟨t,rfl⟩:=r;rfl
 | flt _=>obtain ⟨t,rfl⟩:=r;rfl
 | ref _=>cases r;rfl
 | ty _=>cases r;rfl
theorem RelV.inj {x y:V}{u:Value} (r:RelV x u) (q:RelV y u):x=y:=Option.some.inj (r.abs.symm.trans q.abs)
theorem Vals.inj : ∀ {xs ys:List V}{us:List Value},Vals xs us->Vals ys us->xs=ys
 | _,_,_,.nil,.nil=>rfl
 | _,_,_,.cons r t,.cons r' t'=>by rw [r.inj r',Vals.inj t t']
variable {σ:St}
section
variable {xs ys:List V}
theorem SqL.of {K:Frag} (h:H a=some (.lst xs)):SqL K H a xs := .inl (.inl h)
theorem SqT.of {K:Frag} (h:H a=some (.tup xs)):SqT K H a xs := .inl (.inl h)
theorem Inv.list (I:Inv X zz σ H s) (h:SqL X.K H a xs) : ∃ its:List Value,Vals xs its/\PlainL s.heap a its.toArray/\xs.length<=sizeLine:=by
 rcases h with h | ⟨o,its,n,hk,hc,hd,hs,hz,r⟩
 ·refine x_01 (h.ok I.hok) fun z zz0=>?_
  refine x_21 zz0 fun its n r e=>?_;exact ⟨its,r,⟨_,n,e,rfl,rfl,rfl⟩,z⟩
 refine ⟨its.toList,r,⟨o,n,I.kIn a o hk,hc,hd,by simpa using hs⟩,?_⟩;have e:=r.length;simp only [Array.length_toList] at e;omega
theorem Inv.tuple (I:Inv X zz σ H s) (h:SqT X.K H a xs) : ∃ its:List Value,Vals xs its/\IsTup s.heap a its.toArray/\xs.length<=sizeLine:=by
 rcases h with h | ⟨o,its,n,hk,hc,hs,hz,r⟩
 ·refine x_01 (h.ok I.hok) fun z zz0=>?_
  refine x_11 zz0 fun its r p=>?_;exact ⟨its,r,p,z⟩
 refine ⟨its.toList,r,⟨o,I.kIn a o hk,hc,n,by simpa using hs⟩,?_⟩;have e:=r.length;simp only [Array.length_toList] at e;omega
theorem Inv.list_inj (I:Inv X zz σ H s) (h:SqL X.K H a xs) (h':SqL X.K H a ys):xs=ys:=by
 obtain ⟨its,r,⟨o,n,e,_,_,d⟩,_⟩:=I.list h;obtain ⟨its',r',⟨o',n',e',_,_,d'⟩,_⟩:=I.list h';rw [e] at e';cases e';rw [d] at d';injection d' with d1 _;have:its=its':=by simpa using congrArg Array.toList d1
 subst this;exact r.inj r'
theorem Inv.tuple_inj (I:Inv X zz σ H s) (h:SqT X.K H a xs) (h':SqT X.K H a ys):xs=ys:=by
 obtain ⟨its,r,⟨o,e,_,n,d⟩,_⟩:=I.tuple h;obtain ⟨its',r',⟨o',e',_,n',d'⟩,_⟩:=I.tuple h';rw [e] at e';cases e';rw [d] at d';injection d' with d1 _;have:its=its':=by simpa using congrArg Array.toList d1
 subst this;exact r.inj r'
end
abbrev Cx.wish (X:Cx) (E:zQ):Cx:={ X with xe:=E }
abbrev Cx.nox (X:Cx):Cx:=X.wish fun _ _=>False
theorem Cx.Ok.wish {X:Cx} (ok:X.Ok) (E:zQ):(X.wish E).Ok :=
 ⟨ok.mod,ok.kind,ok.glob,ok.blt,ok.above,ok.inj,ok.has,ok.cab,ok.hd,ok.frames,ok.stk,ok.exf,ok.bs,ok.bsz,ok.noex,ok.exfs,ok.funs,ok.frf⟩
theorem Cx.Ok.unwish {X:Cx}{E:zQ} (ok:(X.wish E).Ok):X.Ok :=
 ⟨ok.mod,ok.kind,ok.glob,ok.blt,ok.above,ok.inj,ok.has,ok.cab,ok.hd,ok.frames,ok.stk,ok.exf,ok.bs,ok.bsz,ok.noex,ok.exfs,ok.funs,ok.frf⟩
variable {E:zQ}
theorem Inv.wish (I:Inv X zz σ H s) (E:zQ):Inv (X.wish E) zz σ H s:=⟨I.ok.wish E,I.os,I.bare,I.base,I.loc,I.cell,I.free,I.freeC,I.pin,I.hok,I.len⟩
theorem Inv.unwish (I:Inv (X.wish E) zz σ H s):Inv X zz σ H s:=⟨I.ok.unwish,I.os,I.bare,I.base,I.loc,I.cell,I.free,I.freeC,I.pin,I.hok,I.len⟩
theorem SP.unwish {D:Ends}{f:Flow}{s':Shared} (h:SP (X.wish E) zz D f s'):SP X zz D f s':=by
 cases f with
 | next=>obtain ⟨σ',H',I,q⟩:=h;exact ⟨σ',H',I.unwish,q⟩
 | brk=>obtain ⟨σ',H',I,q⟩:=h;exact ⟨σ',H',I.unwish,q⟩
 | cont=>obtain ⟨σ',H',I,q⟩:=h;exact ⟨σ',H',I.unwish,q⟩
 | ret u=>obtain ⟨v,σ',H',I,r,q⟩:=h;exact ⟨v,σ',H',I.unwish,r,q⟩
theorem PSs.nox {st:List Stmt}{t:TS} (h:PSs X.nox st t):PSs X st t:=fun zz s σ H D I hw =>
 wpAny_mono (h zz s σ H D (I.wish _) hw) (fun _ _ q=>q.unwish) fun _ _ z=>False.elim z
variable {e:Expr}{te:TE}{pos:Pos}
section
variable {st:Stmt}{rest:List Stmt}{t u:TS}
def nW_:TS:=fun D σ H=>D.nx σ H
def tSeq (t u:TS):TS:=fun D σ H=>t { D with nx:=u D } σ H
theorem ap_:PSs X [] nW_:=fun _ _ σ H _ I h=>wpAny_execs_nil ⟨σ,H,I,h⟩
theorem ab_ (h1:PS X st t) (h2:PSs X rest u):PSs X (st::rest) (tSeq t u):=by
 intro zz s σ H D I h;refine wpAny_execs_cons (thn (h1 zz s σ H { D with nx:=u D } I h) fun f s1 q=>?_);cases f with
 | next =>
  refine x_21 q fun σ' H' I' q=>?_;exact h2 zz s1 σ' H' D I' q
 | ret v=>exact q
 | brk=>exact q
 | cont=>exact q
theorem ae_ (h1:PS X st t):PSs X [st] t:=by
 intro zz s σ H D I h;refine wpAny_execs_cons (thn (h1 zz s σ H D I h) fun f s1 q=>?_);cases f with
 | next=>exact wpAny_execs_nil q
 | ret v=>exact q
 | brk=>exact q
 | cont=>exact q
theorem Inv.quiet {zz:zP}{σ:St}{H:Hp}{s:Shared} (I:Inv X zz σ H s):interactive X.env=false:=by simp [interactive,I.ok.kind]
def pe_ (te:TE):TS:=fun D σ H=>te σ H fun _ H1=>D.nx σ H1
theorem aB_ (he:PE X e te) (hs:swapsWith e none pos.line X.env=pure false:=by rfl):PS X (.Expr e pos) (pe_ te):=by
 intro zz s σ H D I h;exact wpAny_Expr_any (thn (he zz s σ H _ I h) fun v s1 ⟨x,H1,I1,r1,q1⟩=>⟨σ,H1,I1,q1⟩) I.quiet hs
def tRet (te:TE):TS:=fun D σ H=>te σ H D.rt
theorem am_ (he:PE X e te):PS X (.Return (some e) pos) (tRet te):=by
 intro zz s σ H D I h;exact wpAny_Return_some (thn (he zz s σ H _ I h) fun v s1 ⟨x,H1,I1,r1,q1⟩=>⟨x,σ,H1,I1,r1,q1⟩)
def qo_:TS:=fun D _ H=>D.rt .non H
def tIfS (c:TT) (t u:TS):TS:=fun D σ H=>c σ H fun b H1=>if b=true then t D σ H1 else u D σ H1
theorem aG_ {c:Expr}{a b:List Stmt}{tc:TT} (hc:PT X c tc) (ha:PSs X a t) (hb:PSs X b u):PS X (.If c a b pos) (tIfS tc t u):=by
 intro zz s σ H D I h;refine wpAny_If (thn (hc zz s σ H _ I h) fun d s1 ⟨H1,I1,q1⟩=>?_);cases d with
 | true=>exact ha zz s1 σ H1 D I1 q1
 | false=>exact hb zz s1 σ H1 D I1 q1
end
abbrev TG:=V->St->Hp->(St->Hp->Prop)->Prop
abbrev TGs:=List V->St->Hp->(St->Hp->Prop)->Prop
def PG (X:Cx) (target:Expr) (t:TG):Prop :=
 ∀ (zz:zP) (s:Shared) (σ:St) (H:Hp) (v:V) (u:Value) (Q:St->Hp->Prop),Inv X zz σ H s->RelV v u->t v σ H Q ->
  wpAny (model X.prog X.w) X.A (assign target X.env u) (fun _ s'=>∃ σ' H',Inv X zz σ' H' s'/\Q σ' H') X.xe s
def PGs (X:Cx) (ts:List Expr) (t:TGs):Prop :=
 ∀ (zz:zP) (s:Shared) (σ:St) (H:Hp) (vs:List V) (us:List Value) (Q:St->Hp->Prop),Inv X zz σ H s->Vals vs us->t vs σ H Q ->
  wpAny (model X.prog X.w) X.A (assignInOrder ((assignEach ts X.env).map (·.2)) us) (fun _ s'=>∃ σ' H',Inv X zz σ' H' s'/\Q σ' H') X.xe s
abbrev TIp:=V->V->Hp->VK->Prop
def PIp (X:Cx) (op:Operator) (t:TIp):Prop :=
 ∀ (zz:zP) (s:Shared) (σ:St) (H:Hp) (x y:V) (v u:Value) (Q:VK),Inv X zz σ H s->RelV x v->RelV y u->t x y H Q ->
  wpAny (model X.prog X.w) X.A (inplaceOp op v u) (EP X zz σ Q) X.xe s
def dS_ (i:Nat):TG:=fun v σ H Q=>Q (σ.set i (some v)) H
theorem kJ_ {i:Nat}{x:Str} (hN:X.N.Nodup) (hi:X.N[i]? = some x) (hx:Loc X.env.scope x) (hf:X.fn x=true\/X.env.scope.names.lookup x=some .local:=by first | exact .inl rfl | exact .inr rfl | assumption):PG X (.Name x pos) (dS_ i):=by
 intro zz s σ H v u Q I r h;exact wpAny_assign_Name (eg_ I hN hi hx r (fun s' I'=>⟨_,H,I',h⟩) hf)
def gNil:TGs:=fun vs σ H Q=>vs=[]/\Q σ H
def p1_ (t:TG) (u:TGs):TGs:=fun vs σ H Q=>∃ v r,vs=v::r/\t v σ H fun σ' H'=>u r σ' H' Q
theorem oj_:PGs X [] gNil:=by
 intro zz s σ H vs us Q I r h;obtain ⟨e,h⟩:=h;subst e;cases r;exact assignInOrder_nil ⟨σ,H,I,h⟩
theorem iF_ {e:Expr}{es:List Expr}{t:TG}{u:TGs} (h1:PG X e t) (h2:PGs X es u)
  (hs:(assignEach (e::es) X.env).map (·.2)=assign e X.env::(assignEach es X.env).map (·.2):=by rfl):PGs X (e::es) (p1_ t u):=by
 intro zz s σ H vs us Q I r h;obtain ⟨v,vr,e1,h⟩:=h;subst e1;cases r with
 | cons r rr =>
 rw [hs];refine assignInOrder_cons (thn (h1 zz s σ H _ _ _ I r h) fun _ s1 ⟨σ1,H1,I1,q1⟩=>?_);exact h2 zz s1 σ1 H1 _ _ Q I1 rr q1
def gTup (K:Frag) (n:Nat) (t:TGs):TG:=fun v σ H Q=>∃ a xs,v = .ref a/\SqT K H a xs/\xs.length=n/\t xs σ H Q
theorem pC_ {es:List Expr}{k:Nat}{t:TGs}{n:Nat} (hc:X.calm=true) (h:PGs X es t)
  (hn:(assignEach es X.env).length=n:=by rfl) (hst:(assignEach es X.env).findIdx? (·.1)=none:=by rfl):PG X (.Tuple es k pos) (gTup X.K n t):=by
 intro zz s σ H v u Q I r hw;obtain ⟨a,xs,e1,hq,hl,hw⟩:=hw;subst e1;cases r;obtain ⟨its,rv,ht,hz⟩:=I.tuple hq;refine assign_Tuple_tuple (I.ok.hd hc) ht (by simp [hn,<- hl,rv.length]) hst fun h' hx=>?_;have I1:Inv X zz σ H { s with heap:=h' }:=I.kept (t':=s.toks) fun b o e=>hx b o (Nat.ne_of_lt (lt_size e)) e;exact h zz _ σ H xs _ Q I1 (by simpa using rv) hw
def tAsg (te:TE) (g:TG):TS:=fun D σ H=>te σ H fun x H1=>g x σ H1 D.nx
theorem gU_ {i:Nat}{x:Str}{e:Expr}{te:TE}{pos':Pos} (hN:X.N.Nodup) (hi:X.N[i]? = some x) (hx:Loc X.env.scope x) (he:PE X e te) (hs:swapsWith e (some (.Name x pos')) pos.line X.env=pure false:=by rfl) (hf:X.fn x=true\/X.env.scope.names.lookup x=some .local:=by first | exact .inl rfl | exact .inr rfl | assumption) :
  PS X (.Assign [.Name x pos'] e pos) (tAsg te (dS_ i)):=by
 intro zz s σ H D I h;refine wpAny_Assign_Name (thn (he zz s σ H _ I h) fun v s1 zq=>?_) hs;refine x_22 zq fun y H1 I1 r1 q1=>?_;exact eg_ I1 hN hi hx r1 (fun s2 I2=>⟨_,H1,I2,q1⟩) hf
def tAug (i:Nat) (te:TE) (ti:TIp):TS:=fun D σ H=>∃ x,σ[i]? = some (some x)/\te σ H fun y H1=>ti x y H1 fun z H2=>D.nx (σ.set i (some z)) H2
theorem nt_ {i:Nat}{x:Str}{e:Expr}{te:TE}{op:Operator}{ti:TIp}{pos':Pos} (hN:X.N.Nodup) (hi:X.N[i]? = some x) (hx:Loc X.env.scope x) (he:PE X e te) (ho:PIp X op ti) (hf:X.fn x=true\/X.env.scope.names.lookup x=some .local:=by first | exact .inl rfl | exact .inr rfl | assumption) :
  PS X (.AugAssign (.Name x pos') op e pos) (tAug i te ti):=by
 intro zz s σ H D I h;obtain ⟨v,e1,h⟩:=h;obtain ⟨m,hn,hl⟩:=I.loc;have vis:Vis X.env.scope x:=by rcases hx with k | k;exact .inl k;exact .inr (.inl k)
 obtain ⟨u,r,l⟩:=hl i x v hi e1 vis;refine wpAny_AugAssign_Name ?_;have go:wpAny (model X.prog X.w) X.A (eval e X.env) (fun w s₂=>wpAny (model X.prog X.w) X.A (inplaceOp op u w) (fun r s₃=>wpAny (model X.prog X.w) X.A (storeName X.env x r) (fun _=>SP X zz D .next) X.xe s₃) X.xe s₂) X.xe s:=by
  refine thn (he zz s σ H _ I h) fun w s1 zq=>?_;refine x_22 zq fun y H1 I1 r1 q1=>?_;refine thn (ho zz s1 σ H1 v y u w _ I1 r r1 q1) fun z s2 zq=>?_;refine x_22 zq fun zv H2 I2 r2 q2=>?_;exact eg_ I2 hN hi hx r2 (fun s3 I3=>⟨_,H2,I3,q2⟩) hf
 rcases l with ⟨hk,hm⟩ | ⟨hk,c,hc,hcell⟩
 ·exact wpAny_loadName_local I.ok.kind hk hn hm go
 rcases hk with hk | hk
 ·exact wpAny_loadName_cell I.ok.kind hk hc hcell go
 rcases hx with k | k
 ·have:X.env.scope.names.lookup x=some .free:=hk
  rw [k] at this;cases this
 have:X.env.scope.names.lookup x=some .free:=hk;rw [k] at this;cases this
def ipI (f:Int->Int->Int):TIp:=fun x y H Q=>∃ i j,x = .int i/\y = .int j/\Q (.int (f i j)) H
theorem ny_:PIp X .Add (ipI fun i j=>i+j):=by
 intro zz s σ H x y v u Q I r1 r2 h;refine x_22 h fun i j e1 e2 q=>?_;subst e1;subst e2;obtain ⟨t,rfl⟩:=r1;obtain ⟨t',rfl⟩:=r2;exact iadd_int ⟨.int _,H,I.tok _,⟨_,rfl⟩,q⟩
def m9_ (c:TT) (tb:TS):TS:=fun D σ H=>∃ W:Nat->St->Hp->Prop,(∃ m,W m σ H)/\∀ m σ H,W m σ H ->
 c σ H fun b H1=>if b=true then ∃ N:St->Hp->Prop,(∀ σ' H',N σ' H'->∃ m',m'<m/\W m' σ' H')/\tb { D with nx:=N,ct:=N,bk:=D.nx } σ H1 else D.nx σ H1
theorem bD_ {c:Expr}{body:List Stmt}{tc:TT}{tb:TS} (hp:PassesOwn (model X.prog X.w) X.A X.env X.xe) (hc:PT X c tc) (hb:PSs X body tb):PS X (.While c body [] pos) (m9_ tc tb):=by
 intro zz s σ H D I h;obtain ⟨W,⟨m0,w0⟩,turn⟩:=h;refine wpAny_While (codeAny_whileLoop (fun n s'=>∃ σ' H',Inv X zz σ' H' s'/\W n σ' H') ?_ m0 ⟨σ,H,I,w0⟩)
 rintro n s1 ⟨σ1,H1,I1,w1⟩
 refine wpAny_passesOwn hp (thn (hc zz s1 σ1 H1 _ I1 (turn n σ1 H1 w1)) fun b s2 ⟨H2,I2,q2⟩=>?_);cases b with
 | true =>
  obtain ⟨N,hN,q2⟩:=q2;rw [if_pos rfl];refine wpAny_passesOwn hp (thn (hb zz s2 σ1 H2 _ I2 q2) fun f s3 q3=>?_);cases f with
  | next =>
   refine x_21 q3 fun σ3 H3 I3 n3=>?_;obtain ⟨m',hm,w3⟩:=hN σ3 H3 n3;exact ⟨m',hm,σ3,H3,I3,w3⟩
  | cont =>
   refine x_21 q3 fun σ3 H3 I3 n3=>?_;obtain ⟨m',hm,w3⟩:=hN σ3 H3 n3;exact ⟨m',hm,σ3,H3,I3,w3⟩
  | brk=>exact q3
  | ret v=>exact q3
 | false =>
 rw [if_neg Bool.false_ne_true];exact wpAny_execs_nil ⟨σ1,H2,I2,q2⟩
structure It where
 go:Nat->Hp->Prop
 yld:Nat->Hp->V->Hp->Prop
 stop:Nat->Hp->Prop
def FpOk (X:Cx) (zz:zP) (H:Hp) (b:Addr):Prop :=
 H b=none/\b≠X.env.locals/\b∉X.fs/\(b∈X.ex\/X.s_0.heap.objs.size<=b)/\(∀ x c,X.env.cells.lookup x=some c->c≠b)/\∀ p∈X.pn++zz,p.1≠b
theorem Inv.fpOk {X:Cx}{zz:zP}{σ:St}{H H':Hp}{s:Shared}{b:Addr} (I:Inv X zz σ H s) (hb:s.heap.objs.size<=b) (hn:H' b=none):FpOk X zz H' b:=by
 refine ⟨hn,ne_of_gt (Nat.lt_of_lt_of_le I.lt hb),I.nofs hb,.inr (Nat.le_trans I.sz hb),fun x c e z=>?_,fun p hp z=>?_⟩
 ·obtain ⟨v,q⟩:=I.cell x c e
  exact absurd (Nat.lt_of_lt_of_le q.lt (by rw [z];exact hb)) (Nat.lt_irrefl _)
 exact absurd (Nat.lt_of_lt_of_le (lt_size (I.pin p hp).1) (by rw [z];exact hb)) (Nat.lt_irrefl _)
structure Turn (P:Program) (w:World) (K:Frag) (tg:Expr) (J:It) (fp:List Addr) (it:Addr) (tn:Nat->Heap->Prop):Prop where
 mem:it∈fp
 obj : ∀ i h,tn i h->∀ b∈fp,∃ o,h.get? b=some o/\∀ v,o.data ≠ .cell v
 keep : ∀ i h h',tn i h->(∀ b∈fp,∀ o,h.get? b=some o->h'.get? b=some o)->tn i h'
 item : ∀ (X:Cx),X.prog=P->X.w=w->X.K=K->X.calm=true->∀ (i:Nat) (zz:zP) (s:Shared) (σ:St) (H:Hp) (E:zQ),Inv X zz σ H s->(∀ b∈fp,FpOk X zz H b)->tn i s.heap->J.go i H ->
  wpAny (model P w) X.A (pyNext (.ref it)) (fun r s1=>∃ u,r=some u /\
   wpAny (model P w) X.A (letOwnedTupleGo tg (.ref it) u) (fun _ s2=>∃ x H',Inv X zz σ H' s2/\RelV x u/\J.yld i H x H'/\tn (i+1) s2.heap/\∀ b∈fp,H' b=none) E s1) E s
 done : ∀ (X:Cx),X.prog=P->X.w=w->X.K=K->X.calm=true->∀ (i:Nat) (zz:zP) (s:Shared) (σ:St) (H:Hp) (E:zQ),Inv X zz σ H s->(∀ b∈fp,FpOk X zz H b)->tn i s.heap->J.stop i H ->
  wpAny (model P w) X.A (pyNext (.ref it)) (fun r s1=>r=none/\Inv X zz σ H s1) E s
 self : ∀ (A:Around) (i:Nat) (s:Shared) (Q:zQ) (E:zQ),tn i s.heap->Q (.ref it) s->wpAny (model P w) A (pyIter (.ref it)) Q E s
abbrev TI:=St->Hp->(It->Hp->Prop)->Prop
def PIE (X:Cx) (zz:zP) (σ:St) (tg:Expr) (R:It->Hp->Prop) (itv:Value) (s2:Shared):Prop :=
 ∃ (it:Addr) (fp:List Addr) (tn:Nat->Heap->Prop) (J:It) (H':Hp),itv = .ref it/\Inv X zz σ H' s2/\Turn X.prog X.w X.K tg J fp it tn/\tn 0 s2.heap/\(∀ b∈fp,FpOk X zz H' b)/\R J H'
def PI (X:Cx) (tg iter:Expr) (wi:TI):Prop :=
 ∀ (zz:zP) (s:Shared) (σ:St) (H:Hp) (R:It->Hp->Prop),Inv X zz σ H s->wi σ H R ->
  wpAny (model X.prog X.w) X.A (eval iter X.env) (fun v s1=>wpAny (model X.prog X.w) X.A (pyIter v) (PIE X zz σ tg R) X.xe s1) X.xe s
theorem ll_ {M:Model}{A:Around}{E:zQ}{s:Shared}{tg:Expr}{it:Addr}{u:Value}{o:Obj}{n:String}{vs:Array Value}{Q:Unit->Shared->Prop} (ho:s.heap.get? it=some o) (hc:o.cls = .type n) (hd:o.data = .fields vs)
  (hn:["enumerate","zip","dict_itemiterator","dict_reverseitemiterator","odict_iterator","itertools.zip_longest","itertools.pairwise"].contains n=false) (hQ:Q () s):wpAny M A (letOwnedTupleGo tg (.ref it) u) Q E s:=by
 unfold letOwnedTupleGo;cases tg <;> first
  | exact wpAny_pure hQ
  | (cases u <;> first
    | exact wpAny_pure hQ
    | (refine wpAny_bind (wpAny_load ho ?_)
       rw [hc,hd];show wpAny M A (if (["enumerate","zip","dict_itemiterator","dict_reverseitemiterator","odict_iterator","itertools.zip_longest","itertools.pairwise"].contains n && vs[0]? == some (rawInt _))=true then _ else _) Q E s;rw [if_neg (by intro h;rw [hn,Bool.false_and] at h;cases h)];exact wpAny_pure hQ))
def Itl (K:Frag) (a:Addr):It :=
 ⟨fun i H=>∃ xs x,SqL K H a xs/\xs[i]? = some x,fun i H x H'=>H'=H/\∀ xs,SqL K H a xs->xs[i]? = some x,fun i H=>∃ xs,SqL K H a xs/\xs.length<=i⟩
def Itt (K:Frag) (a:Addr):It :=
 ⟨fun i H=>∃ xs x,SqT K H a xs/\xs[i]? = some x,fun i H x H'=>H'=H/\∀ xs,SqT K H a xs->xs[i]? = some x,fun i H=>∃ xs,SqT K H a xs/\xs.length<=i⟩
theorem gC_ {P:Program}{w:World}{K:Frag}{tg:Expr} (a it:Addr):Turn P w K tg (Itl K a) [it] it (fun i h=>h.IsListIter it a i) where
 mem:=by simp
 obj:=fun i h st b hb=>by
  have e:b=it:=by simpa using hb
  subst e;refine x_12 st fun o e c d=>?_;exact ⟨o,e,fun v z=>by rw [d] at z;cases z⟩
 keep:=fun i h h' st k=>st.at fun o e=>k it (by simp) o e
 item:=by
  intro X hP hw hK hc i zz s σ H E I hf st hg;subst hP hw hK;refine x_21 hg fun xs x hq hx=>?_;refine x_12 (I.list hq) fun its rv p hz=>?_;obtain ⟨u,hu,ru⟩:=rv.get hx;obtain ⟨f0,f1,f2,f3,f4,f5⟩:=hf it (by simp);refine wpAny_pyNext_list_item st p.isList (x:=u) (by simpa using hu) fun h' st' sb=>?_;have I1:Inv X zz σ H { s with heap:=h' }:=I.turned (t':=s.toks) (fun b o hb e=>(sb.2 b hb).trans e) f0 f1 f3 f4 f5;refine x_12 (id st') fun o e c d=>?_;exact ⟨u,rfl,ll_ (s:={ s with heap:=h' }) e c d (by decide) ⟨x,H,I1,ru,⟨rfl,fun ys hy=>by rw [I.list_inj hy hq];exact hx⟩,st',fun b hb=>(hf b hb).1⟩⟩
 done:=by
  intro X hP hw hK hc i zz s σ H E I hf st hg;subst hP hw hK;obtain ⟨xs,hq,hx⟩:=hg;refine x_12 (I.list hq) fun its rv p hz=>?_;obtain ⟨f0,f1,f2,f3,f4,f5⟩:=hf it (by simp);have hl:=rv.length;exact wpAny_pyNext_list_end (I.ok.hd hc) st p.isList (by simp;omega) fun h' eb=>⟨rfl,I.turned (t':=s.toks) (fun b o hb e=>eb b o hb e) f0 f1 f3 f4 f5⟩
 self:=fun _ _ _ _ _ st h=>wpAny_pyIter_listiter st h
theorem jd_ {P:Program}{w:World}{K:Frag}{tg:Expr} (a it:Addr):Turn P w K tg (Itt K a) [it] it (fun i h=>h.IsTupleIter it a i) where
 mem:=by simp
 obj:=fun i h st b hb=>by
  have e:b=it:=by simpa using hb
  subst e;refine x_12 st fun o e c d=>?_;exact ⟨o,e,fun v z=>by rw [d] at z;cases z⟩
 keep:=fun i h h' st k=>st.at fun o e=>k it (by simp) o e
 item:=by
  intro X hP hw hK hc i zz s σ H E I hf st hg;subst hP hw hK;refine x_21 hg fun xs x hq hx=>?_;refine x_12 (I.tuple hq) fun its rv p hz=>?_;obtain ⟨u,hu,ru⟩:=rv.get hx;obtain ⟨f0,f1,f2,f3,f4,f5⟩:=hf it (by simp);refine wpAny_pyNext_tuple_item st (show s.heap.IsTuple a its.toArray from p) (x:=u) (by simpa using hu) fun h' st' sb=>?_;have I1:Inv X zz σ H { s with heap:=h' }:=I.turned (t':=s.toks) (fun b o hb e=>(sb.2 b hb).trans e) f0 f1 f3 f4 f5;refine x_12 (id st') fun o e c d=>?_;exact ⟨u,rfl,ll_ (s:={ s with heap:=h' }) e c d (by decide) ⟨x,H,I1,ru,⟨rfl,fun ys hy=>by rw [I.tuple_inj hy hq];exact hx⟩,st',fun b hb=>(hf b hb).1⟩⟩
 done:=by
  intro X hP hw hK hc i zz s σ H E I hf st hg;subst hP hw hK;obtain ⟨xs,hq,hx⟩:=hg;refine x_12 (I.tuple hq) fun its rv p hz=>?_;obtain ⟨f0,f1,f2,f3,f4,f5⟩:=hf it (by simp);have hl:=rv.length;exact wpAny_pyNext_tuple_end (I.ok.hd hc) st (show s.heap.IsTuple a its.toArray from p) (by simp;omega) fun h' eb=>⟨rfl,I.turned (t':=s.toks) (fun b o hb e=>eb b o hb e) f0 f1 f3 f4 f5⟩
 self:=fun _ _ _ _ _ st h=>wpAny_pyIter_tupleiter st h
section
variable {tg:Expr}
def mG_ (K:Frag) (tl:TE):TI:=fun σ H R=>tl σ H fun x H1=>∃ a,x = .ref a/\(∃ xs,SqL K H1 a xs)/\R (Itl K a) H1
def iTup (K:Frag) (tl:TE):TI:=fun σ H R=>tl σ H fun x H1=>∃ a,x = .ref a/\(∃ xs,SqT K H1 a xs)/\R (Itt K a) H1
theorem hI_ {l:Expr}{tl:TE} (hl:PE X l tl):PI X tg l (mG_ X.K tl):=by
 intro zz s σ H R I h;refine thn (hl zz s σ H _ I h) fun v s1 zq=>?_;obtain ⟨x,H1,I1,r1,q1⟩:=zq;obtain ⟨a,e,⟨xs,hq⟩,q⟩:=q1;subst e;cases r1;refine x_12 (I1.list hq) fun its rv p hz=>?_;refine wpAny_pyIter_list p.isList ?_;refine ⟨s1.heap.objs.size,[s1.heap.objs.size],_,_,H1,rfl,I1.kept (t':=s1.toks) fun b o e=>get?_push_of_some _ e,gC_ a _,⟨_,get?_push_size _ rfl,rfl,rfl⟩,fun b hb=>?_,q⟩;have e:b=s1.heap.objs.size:=by simpa using hb
 subst e;exact I1.fpOk (Nat.le_refl _) (I1.hok.fresh (Nat.le_refl _))
theorem pB_ {l:Expr}{tl:TE} (hl:PE X l tl):PI X tg l (iTup X.K tl):=by
 intro zz s σ H R I h;refine thn (hl zz s σ H _ I h) fun v s1 zq=>?_;obtain ⟨x,H1,I1,r1,q1⟩:=zq;obtain ⟨a,e,⟨xs,hq⟩,q⟩:=q1;subst e;cases r1;refine x_12 (I1.tuple hq) fun its rv p hz=>?_;refine wpAny_pyIter_tuple (show s1.heap.IsTuple a its.toArray from p) ?_;refine ⟨s1.heap.objs.size,[s1.heap.objs.size],_,_,H1,rfl,I1.kept (t':=s1.toks) fun b o e=>get?_push_of_some _ e,jd_ a _,⟨_,get?_push_size _ rfl,rfl,rfl⟩,fun b hb=>?_,q⟩;have e:b=s1.heap.objs.size:=by simpa using hb
 subst e;exact I1.fpOk (Nat.le_refl _) (I1.hok.fresh (Nat.le_refl _))
def tFor (wi:TI) (g:TG) (tb:TS):TS:=fun D σ H=>wi σ H fun J H1=>∃ W:Nat->Nat->St->Hp->Prop,(∃ m,W 0 m σ H1)/\∀ i m σ H,W i m σ H ->
 (J.stop i H/\D.nx σ H)\/(J.go i H/\∃ N:St->Hp->Prop,(∀ σ' H',N σ' H'->∃ m',m'<m/\W (i+1) m' σ' H')/\∀ x H',J.yld i H x H'->g x σ H' fun σ2 H2=>tb { D with nx:=N,ct:=N,bk:=D.nx } σ2 H2)
noncomputable def fq_ (fp:List Addr) (h:Heap):zP:=fp.filterMap fun b=>(h.get? b).map fun o=>(b,o)
theorem bX_ {fp:List Addr}{h:Heap}{b:Addr}{o:Obj} (hb:b∈fp) (e:h.get? b=some o):(b,o)∈fq_ fp h:=List.mem_filterMap.mpr ⟨b,hb,by rw [e];rfl⟩
theorem kR_ {fp:List Addr}{h:Heap}{p:Addr×Obj} (hp:p∈fq_ fp h):p.1∈fp/\h.get? p.1=some p.2:=by
 obtain ⟨b,hb,e⟩:=List.mem_filterMap.mp hp;cases q:h.get? b with
 | none=>rw [q] at e;cases e
 | some o =>
 rw [q] at e;have e':(b,o)=p:=Option.some.inj e;subst e';exact ⟨hb,q⟩
theorem Inv.pinned {zz:zP}{σ:St}{H:Hp}{s:Shared}{fp:List Addr} (I:Inv X zz σ H s) (hf : ∀ b∈fp,FpOk X zz H b) (ho : ∀ b∈fp,∃ o,s.heap.get? b=some o/\∀ v,o.data ≠ .cell v):Inv X (zz++fq_ fp s.heap) σ H s :=
 I.pins_of fun p hp=>(mem_append.mp hp).elim (fun z=>I.pin p (mem_append_right _ z)) fun z=>by
  obtain ⟨hb,e⟩:=kR_ z;refine x_03 (hf p.1 hb) fun f0 f1 f2 _=>?_;obtain ⟨o,e',d⟩:=ho p.1 hb;rw [e] at e';cases e';exact ⟨e,f0,f1,f2,d⟩
theorem Inv.unpinned {zz pl:zP}{σ:St}{H:Hp}{s:Shared} (I:Inv X (zz++pl) σ H s):Inv X zz σ H s:=I.pins_of fun p hp=>I.pin p (mem_append_right _ (mem_append_left _ hp))
theorem dZ_ {iter:Expr}{body:List Stmt}{wi:TI}{g:TG}{tb:TS}{pos:Pos} (hp:PassesOwn (model X.prog X.w) X.A X.env X.xe) (hc:X.calm=true) (hi:PI X tg iter wi) (hg:PG X tg g) (hb:PSs X body tb)
  (hs : ∀ x,foldedSetIterable iter X.env x=pure x:=by intro _;rfl):PS X (.For tg iter body [] pos) (tFor wi g tb):=by
 intro zz s σ H D I h;refine wpAny_For (thn (hi zz s σ H _ I h) fun v s1 h1=>thn h1 fun itv s2 h2=>?_) hs;refine x_50 h2 fun it fp tn J H2 zy=>x_05 zy fun e I2 T st2 f2 zz0=>?_;refine x_11 zz0 fun W zn11 turn=>?_;obtain ⟨m0,w0⟩:=zn11;subst e;have stat : ∀ {H':Hp},(∀ b∈fp,H' b=none)->∀ b∈fp,FpOk X zz H' b:=fun hn b hb=>⟨hn b hb,(f2 b hb).2⟩;refine codeAny_forLoop_any (fun n s'=>∃ i σ' H',Inv X zz σ' H' s'/\tn i s'.heap/\(∀ b∈fp,H' b=none)/\W i n σ' H') ?_ m0 ⟨0,σ,H2,I2,st2,fun b hb=>(f2 b hb).1,w0⟩
 rintro n s3 ⟨i,σ3,H3,I3,st3,fr3,w3⟩
 rcases turn i n σ3 H3 w3 with ⟨stop,qn⟩ | ⟨go,N,hN,step⟩
 ·refine wpAny_passesOwn hp (thn (T.done X rfl rfl rfl hc i zz s3 σ3 H3 X.xe I3 (stat fr3) st3 stop) fun r s4 ⟨hr,I4⟩=>?_)
  subst hr;exact wpAny_execs_nil ⟨σ3,H3,I4,qn⟩
 refine wpAny_passesOwn hp (thn (T.item X rfl rfl rfl hc i zz s3 σ3 H3 X.xe I3 (stat fr3) st3 go) fun r s4 ⟨u,hr,h4⟩=>?_);subst hr;refine wpAny_passesOwn hp (thn h4 fun _ s5 zq=>?_);refine x_24 zq fun x H5 I5 r5 y5 st5 fr5=>?_;have I5':=I5.pinned (stat fr5) (T.obj _ _ st5);refine wpAny_passesOwn hp (thn (hg _ s5 σ3 H5 x u _ I5' r5 (step x H5 y5)) fun _ s6 ⟨σ6,H6,I6,q6⟩=>?_);refine wpAny_passesOwn hp (thn (hb _ s6 σ6 H6 _ I6 q6) fun f s7 q7=>?_);have again : ∀ {σ7:St}{H7:Hp},Inv X (zz++fq_ fp s5.heap) σ7 H7 s7->N σ7 H7->∃ m,m<n/\∃ i σ' H',Inv X zz σ' H' s7/\tn i s7.heap/\(∀ b∈fp,H' b=none)/\W i m σ' H':=fun {σ7 H7} I7 n7=>by
  obtain ⟨m',hm,w7⟩:=hN σ7 H7 n7;refine ⟨m',hm,i+1,σ7,H7,I7.unpinned,T.keep _ _ _ st5 fun b hb o e=>(I7.pin (b,o) (mem_append_right _ (mem_append_right _ (bX_ hb e)))).1,fun b hb=>?_,w7⟩;obtain ⟨o,e,d⟩:=T.obj _ _ st5 b hb;exact (I7.pin (b,o) (mem_append_right _ (mem_append_right _ (bX_ hb e)))).2.1
 cases f with
 | next=>obtain ⟨σ7,H7,I7,n7⟩:=q7;exact again I7 n7
 | cont=>obtain ⟨σ7,H7,I7,n7⟩:=q7;exact again I7 n7
 | brk=>obtain ⟨σ7,H7,I7,q7⟩:=q7;exact ⟨σ7,H7,I7.unpinned,q7⟩
 | ret v=>obtain ⟨x7,σ7,H7,I7,r7,q7⟩:=q7;exact ⟨x7,σ7,H7,I7.unpinned,r7,q7⟩
end
theorem mO_ {K:Frag}{a:Addr}{xs:List V}{g:TG}{tb:TS}{D:Ends}{σ:St}{H:Hp} (Pv:Nat->St->Hp->Prop) (h0:Pv 0 σ H) (hl : ∀ i σ H,i<=xs.length->Pv i σ H->SqL K H a xs)
  (hs : ∀ i x σ H,xs[i]? = some x->Pv i σ H->g x σ H fun σ2 H2=>tb { D with nx:=Pv (i+1),ct:=Pv (i+1),bk:=D.nx } σ2 H2) (hd : ∀ σ H,Pv xs.length σ H->D.nx σ H) :
  ∃ W:Nat->Nat->St->Hp->Prop,(∃ m,W 0 m σ H)/\∀ i m σ H,W i m σ H ->
   ((Itl K a).stop i H/\D.nx σ H)\/((Itl K a).go i H/\∃ N:St->Hp->Prop,(∀ σ' H',N σ' H'->∃ m',m'<m/\W (i+1) m' σ' H')/\∀ x H',(Itl K a).yld i H x H'->g x σ H' fun σ2 H2=>tb { D with nx:=N,ct:=N,bk:=D.nx } σ2 H2):=by
 refine ⟨fun i m σ H=>m=xs.length - i/\i<=xs.length/\Pv i σ H,⟨xs.length,by simp,zero_le _,h0⟩,?_⟩
 rintro i m σ H ⟨rfl,hi,p⟩
 have q:=hl i σ H hi p;by_cases hlt:i<xs.length
 ·refine .inr ⟨⟨xs,xs[i],q,by simp [hlt]⟩,Pv (i+1),fun σ' H' p'=>⟨xs.length - (i+1),by omega,rfl,hlt,p'⟩,fun x H' y=>?_⟩
  obtain ⟨e,y⟩:=y;subst e;exact hs i x σ _ (y xs q) p
 have e:i=xs.length:=by omega
 subst e;exact .inl ⟨⟨xs,q,Nat.le_refl _⟩,hd σ H p⟩
theorem oP_ {K:Frag}{a:Addr}{xs:List V}{g:TG}{tb:TS}{D:Ends}{σ:St}{H:Hp} (Pv:Nat->St->Hp->Prop) (h0:Pv 0 σ H) (hl : ∀ i σ H,i<=xs.length->Pv i σ H->SqT K H a xs)
  (hs : ∀ i x σ H,xs[i]? = some x->Pv i σ H->g x σ H fun σ2 H2=>tb { D with nx:=Pv (i+1),ct:=Pv (i+1),bk:=D.nx } σ2 H2) (hd : ∀ σ H,Pv xs.length σ H->D.nx σ H) :
  ∃ W:Nat->Nat->St->Hp->Prop,(∃ m,W 0 m σ H)/\∀ i m σ H,W i m σ H ->
   ((Itt K a).stop i H/\D.nx σ H)\/((Itt K a).go i H/\∃ N:St->Hp->Prop,(∀ σ' H',N σ' H'->∃ m',m'<m/\W (i+1) m' σ' H')/\∀ x H',(Itt K a).yld i H x H'->g x σ H' fun σ2 H2=>tb { D with nx:=N,ct:=N,bk:=D.nx } σ2 H2):=by
 refine ⟨fun i m σ H=>m=xs.length - i/\i<=xs.length/\Pv i σ H,⟨xs.length,by simp,zero_le _,h0⟩,?_⟩
 rintro i m σ H ⟨rfl,hi,p⟩
 have q:=hl i σ H hi p;by_cases hlt:i<xs.length
 ·refine .inr ⟨⟨xs,xs[i],q,by simp [hlt]⟩,Pv (i+1),fun σ' H' p'=>⟨xs.length - (i+1),by omega,rfl,hlt,p'⟩,fun x H' y=>?_⟩
  obtain ⟨e,y⟩:=y;subst e;exact hs i x σ _ (y xs q) p
 have e:i=xs.length:=by omega
 subst e;exact .inl ⟨⟨xs,q,Nat.le_refl _⟩,hd σ H p⟩
abbrev R2:=V->V->Hp->VK->Prop
def OpR (X:Cx) (f:Value->Value->Sem Value) (r:R2):Prop :=
 ∀ (zz:zP) (s:Shared) (σ:St) (H:Hp) (x y:V) (v u:Value) (Q:VK),Inv X zz σ H s->RelV x v->RelV y u->r x y H Q ->
  wpAny (model X.prog X.w) X.A (f v u) (EP X zz σ Q) X.xe s
def UnR (X:Cx) (f:Value->Sem Value) (r:V->Hp->VK->Prop):Prop :=
 ∀ (zz:zP) (s:Shared) (σ:St) (H:Hp) (x:V) (v:Value) (Q:VK),Inv X zz σ H s->RelV x v->r x H Q ->
  wpAny (model X.prog X.w) X.A (f v) (EP X zz σ Q) X.xe s
def ec_ (X:Cx) (f:Value) (r:List V->Hp->VK->Prop):Prop :=
 ∀ (zz:zP) (s:Shared) (σ:St) (H:Hp) (xs:List V) (us:List Value) (Q:VK),Inv X zz σ H s->Vals xs us->r xs H Q ->
  wpAny (model X.prog X.w) X.A (call f us) (EP X zz σ Q) X.xe s
def TruR (X:Cx) (r:V->Hp->(Bool->Hp->Prop)->Prop):Prop :=
 ∀ (zz:zP) (s:Shared) (σ:St) (H:Hp) (x:V) (v:Value) (Q:Bool->Hp->Prop),Inv X zz σ H s->RelV x v->r x H Q ->
  wpAny (model X.prog X.w) X.A (truthy v) (TP X zz σ Q) X.xe s
def tOp (r:R2) (ta tb:TE):TE:=fun σ H Q=>ta σ H fun x H1=>tb σ H1 fun y H2=>r x y H2 Q
def tUn (r:V->Hp->VK->Prop) (ta:TE):TE:=fun σ H Q=>ta σ H fun x H1=>r x H1 Q
def rI (C:Int->Int->Prop) (g:Int->Int->V):R2:=fun x y H Q=>∃ i j,x = .int i/\y = .int j/\C i j/\Q (g i j) H
def rI0 (g:Int->Int->V):R2:=fun x y H Q=>∃ i j,x = .int i/\y = .int j/\Q (g i j) H
def rU (g:Int->V):V->Hp->VK->Prop:=fun x H Q=>∃ i,x = .int i/\Q (g i) H
variable {b:Expr}{ta tb:TE}
section
variable {a:Expr}
theorem binT (ha:PE X a ta) (hb:PE X b tb) {zz:zP}{s:Shared}{σ:St}{H:Hp}{R:V->V->Hp->Prop} (I:Inv X zz σ H s)
  (h:ta σ H fun x H1=>tb σ H1 fun y H2=>R x y H2) {Q:zQ}{f:Value->Value->Sem Value}
  (hf : ∀ v u s2 x y H2,Inv X zz σ H2 s2->RelV x v->RelV y u->R x y H2->wpAny (model X.prog X.w) X.A (f v u) Q X.xe s2) :
  wpAny (model X.prog X.w) X.A (eval a X.env) (fun v s₁=>wpAny (model X.prog X.w) X.A (eval b X.env) (fun u s₂=>wpAny (model X.prog X.w) X.A (f v u) Q X.xe s₂) X.xe s₁) X.xe s:=by
 refine thn (ha zz s σ H _ I h) fun v s1 zq=>?_;refine x_22 zq fun x H1 I1 r1 q1=>?_;refine thn (hb zz s1 σ H1 _ I1 q1) fun u s2 zq=>?_;obtain ⟨y,H2,I2,r2,q2⟩:=zq;exact hf v u s2 x y H2 I2 r1 r2 q2
theorem a9_ {op:Operator}{r:R2} (ho:OpR X (binaryOp op) r) (ha:PE X a ta) (hb:PE X b tb):PE X (.BinOp a op b pos) (tOp r ta tb):=by
 intro zz s σ H Q I h;exact wpAny_BinOp (binT ha hb I h fun v u s2 x y H2 I2 rx ry q=>ho zz s2 σ H2 x y v u Q I2 rx ry q)
theorem qs_ {op:UnaryOp}{r:V->Hp->VK->Prop} (ho:UnR X (unaryOp op) r) (ha:PE X a ta):PE X (.UnaryOp op a pos) (tUn r ta):=by
 intro zz s σ H Q I h;exact UnaryOp_ (thn (ha zz s σ H _ I h) fun v s1 ⟨x,H1,I1,r1,q1⟩=>ho zz s1 σ H1 x v Q I1 r1 q1)
theorem opI {f:Value->Value->Sem Value}{C:Int->Int->Prop}{g:Int->Int->Int}
  (rule : ∀ (i j:Int) (t u:Tok) (s:Shared) (Q:zQ) (E:zQ),C i j->Q (.int (g i j) s.toks) { s with toks:=s.toks+1 }->wpAny (model X.prog X.w) X.A (f (.int i t) (.int j u)) Q E s) :
  OpR X f (rI C fun i j => .int (g i j)):=by
 intro zz s σ H x y v u Q I rx ry h;obtain ⟨i,j,rfl,rfl,hc,q⟩:=h;obtain ⟨t,rfl⟩:=rx;obtain ⟨t',rfl⟩:=ry;exact rule i j t t' s _ _ hc ⟨.int (g i j),H,I.tok _,⟨_,rfl⟩,q⟩
theorem opI0 {f:Value->Value->Sem Value}{g:Int->Int->Int}
  (rule : ∀ (i j:Int) (t u:Tok) (s:Shared) (Q:zQ) (E:zQ),Q (.int (g i j) s.toks) { s with toks:=s.toks+1 }->wpAny (model X.prog X.w) X.A (f (.int i t) (.int j u)) Q E s) :
  OpR X f (rI0 fun i j => .int (g i j)):=by
 intro zz s σ H x y v u Q I rx ry h;obtain ⟨i,j,rfl,rfl,q⟩:=h;obtain ⟨t,rfl⟩:=rx;obtain ⟨t',rfl⟩:=ry;exact rule i j t t' s _ _ ⟨.int (g i j),H,I.tok _,⟨_,rfl⟩,q⟩
theorem opB0 {f:Value->Value->Sem Value}{g:Int->Int->Bool}
  (rule : ∀ (i j:Int) (t u:Tok) (s:Shared) (Q:zQ) (E:zQ),Q (.bool (g i j)) s->wpAny (model X.prog X.w) X.A (f (.int i t) (.int j u)) Q E s) :
  OpR X f (rI0 fun i j => .bl (g i j)):=by
 intro zz s σ H x y v u Q I rx ry h;obtain ⟨i,j,rfl,rfl,q⟩:=h;obtain ⟨t,rfl⟩:=rx;obtain ⟨t',rfl⟩:=ry;exact rule i j t t' s _ _ ⟨.bl (g i j),H,I,rfl,q⟩
theorem bU_:OpR X (binaryOp .Add) (rI0 fun i j => .int (i+j)):=opI0 fun _ _ _ _ _ _ _ q=>add_int q
theorem iM_:OpR X (binaryOp .Sub) (rI0 fun i j => .int (i - j)):=opI0 fun _ _ _ _ _ _ _ q=>sub_int q
theorem pI_:OpR X (binaryOp .Mod) (rI (fun _ j=>0<j) fun i j => .int (i % j)):=opI fun i j _ _ _ _ _ hc q=>by
 have h1:(0:Int)<j:=hc;exact mod_int' (by omega) (by rw [Int.fmod_eq_emod_of_nonneg i (by omega)];exact q)
theorem unI {f:Value->Sem Value}{g:Int->Int}
  (rule : ∀ (i:Int) (t:Tok) (s:Shared) (Q:zQ) (E:zQ),Q (.int (g i) s.toks) { s with toks:=s.toks+1 }->wpAny (model X.prog X.w) X.A (f (.int i t)) Q E s) :
  UnR X f (rU fun i => .int (g i)):=by
 intro zz s σ H x v Q I rx h;obtain ⟨i,rfl,q⟩:=h;obtain ⟨t,rfl⟩:=rx;exact rule i t s _ _ ⟨.int (g i),H,I.tok _,⟨_,rfl⟩,q⟩
theorem o8_:UnR X (unaryOp .USub) (rU fun i => .int (-i)):=unI fun _ _ _ _ _ q=>neg_int q
end
noncomputable def scal:V->V->Bool
 | .non,.non=>true | .non,.int _=>true | .int _,.non=>true | .non,.bl _=>true | .bl _,.non=>true | .non,.str _=>true | .str _,.non=>true
 | .int _,.int _=>true | .bl _,.bl _=>true | .str _,.str _=>true | .byt _,.byt _=>true
 | .int _,.str _=>true | .str _,.int _=>true | .bl _,.str _=>true | .str _,.bl _=>true
 | _,_=>false
def rEq:R2:=fun x y H Q=>scal x y=true/\Q (.bl (decide (x=y))) H
def rNe:R2:=fun x y H Q=>scal x y=true/\Q (.bl (!decide (x=y))) H
theorem lz_ {i j:Int}:decide (V.int i=V.int j)=(i == j):=by
 rw [Bool.eq_iff_iff];simp
theorem nI_ {i j:Bool}:decide (V.bl i=V.bl j)=(i == j):=by
 rw [Bool.eq_iff_iff];simp
theorem lx_ {i j:Str}:decide (V.str i=V.str j)=(i == j):=by
 rw [Bool.eq_iff_iff];simp
theorem lA_ {i j:Array UInt8}:decide (V.byt i=V.byt j)=(i.toList == j.toList):=by
 rw [Bool.eq_iff_iff];cases i;cases j;simp
section
variable {a c:Expr}{tc:TE}
theorem aK_ {zz:zP}{σ:St}{H:Hp}{s:Shared}{Q:VK}{k k':Bool} (I:Inv X zz σ H s) (q:Q (.bl k) H) (e:k=k'):EP X zz σ Q (.bool k') s:=by
 subst e;exact ⟨.bl k,H,I,rfl,q⟩
theorem br_:OpR X (compareOp .Eq) rEq:=by
 intro zz s σ H x y v u Q I rx ry h;obtain ⟨hs,q⟩:=h;cases x with
 | non =>
  cases rx;cases y with
  | non=>cases ry;exact PySem.EqNone.eq_none_none (aK_ I q (by simp))
  | bl j=>cases ry;exact PySem.EqNone.eq_none_bool (aK_ I q (by simp))
  | int j=>obtain ⟨t',rfl⟩:=ry;exact PySem.EqNone.eq_none_int (aK_ I q (by simp))
  | str j=>obtain ⟨t',rfl⟩:=ry;exact PySem.EqNone.eq_none_str (aK_ I q (by simp))
  | _=>exact absurd (show false=true from hs) Bool.false_ne_true
 | bl i =>
  cases rx;cases y with
  | non=>cases ry;exact PySem.EqNone.eq_bool_none (aK_ I q (by simp))
  | bl j=>cases ry;exact eq_bool (aK_ I q nI_)
  | str j=>obtain ⟨t',rfl⟩:=ry;exact PySem.EqMixed.eq_bool_str (aK_ I q (by simp))
  | _=>exact absurd (show false=true from hs) Bool.false_ne_true
 | int i =>
  obtain ⟨t,rfl⟩:=rx;cases y with
  | non=>cases ry;exact PySem.EqNone.eq_int_none (aK_ I q (by simp))
  | int j=>obtain ⟨t',rfl⟩:=ry;exact eq_int (aK_ I q lz_)
  | str j=>obtain ⟨t',rfl⟩:=ry;exact PySem.EqMixed.eq_int_str (aK_ I q (by simp))
  | _=>exact absurd (show false=true from hs) Bool.false_ne_true
 | str i =>
  obtain ⟨t,rfl⟩:=rx;cases y with
  | non=>cases ry;exact PySem.EqNone.eq_str_none (aK_ I q (by simp))
  | bl j=>cases ry;exact PySem.EqMixed.eq_str_bool (aK_ I q (by simp))
  | int j=>obtain ⟨t',rfl⟩:=ry;exact PySem.EqMixed.eq_str_int (aK_ I q (by simp))
  | str j=>obtain ⟨t',rfl⟩:=ry;exact eq_str (aK_ I q lx_)
  | _=>exact absurd (show false=true from hs) Bool.false_ne_true
 | byt i =>
  obtain ⟨t,rfl⟩:=rx;cases y with
  | byt j=>obtain ⟨t',rfl⟩:=ry;exact PySem.W.eq_bytes (aK_ I q lA_)
  | _=>exact absurd (show false=true from hs) Bool.false_ne_true
 | _=>cases y <;> exact absurd (show false=true from hs) Bool.false_ne_true
theorem jl_:OpR X (compareOp .NotEq) rNe:=by
 intro zz s σ H x y v u Q I rx ry h;obtain ⟨hs,q⟩:=h;cases x with
 | non =>
  cases rx;cases y with
  | non=>cases ry;exact PySem.EqNone.ne_none_none (aK_ I q (by simp))
  | bl j=>cases ry;exact PySem.EqNone.ne_none_bool (aK_ I q (by simp))
  | int j=>obtain ⟨t',rfl⟩:=ry;exact PySem.EqNone.ne_none_int (aK_ I q (by simp))
  | str j=>obtain ⟨t',rfl⟩:=ry;exact PySem.EqNone.ne_none_str (aK_ I q (by simp))
  | _=>exact absurd (show false=true from hs) Bool.false_ne_true
 | bl i =>
  cases rx;cases y with
  | non=>cases ry;exact PySem.EqNone.ne_bool_none (aK_ I q (by simp))
  | bl j=>cases ry;exact ne_bool (aK_ I q (congrArg not nI_))
  | str j=>obtain ⟨t',rfl⟩:=ry;exact PySem.EqMixed.ne_bool_str (aK_ I q (by simp))
  | _=>exact absurd (show false=true from hs) Bool.false_ne_true
 | int i =>
  obtain ⟨t,rfl⟩:=rx;cases y with
  | non=>cases ry;exact PySem.EqNone.ne_int_none (aK_ I q (by simp))
  | int j=>obtain ⟨t',rfl⟩:=ry;exact ne_int (aK_ I q (congrArg not lz_))
  | str j=>obtain ⟨t',rfl⟩:=ry;exact PySem.EqMixed.ne_int_str (aK_ I q (by simp))
  | _=>exact absurd (show false=true from hs) Bool.false_ne_true
 | str i =>
  obtain ⟨t,rfl⟩:=rx;cases y with
  | non=>cases ry;exact PySem.EqNone.ne_str_none (aK_ I q (by simp))
  | bl j=>cases ry;exact PySem.EqMixed.ne_str_bool (aK_ I q (by simp))
  | int j=>obtain ⟨t',rfl⟩:=ry;exact PySem.EqMixed.ne_str_int (aK_ I q (by simp))
  | str j=>obtain ⟨t',rfl⟩:=ry;exact ne_str (aK_ I q (congrArg not lx_))
  | _=>exact absurd (show false=true from hs) Bool.false_ne_true
 | byt i =>
  obtain ⟨t,rfl⟩:=rx;cases y with
  | byt j=>obtain ⟨t',rfl⟩:=ry;exact PySem.W.ne_bytes (aK_ I q (congrArg not lA_))
  | _=>exact absurd (show false=true from hs) Bool.false_ne_true
 | _=>cases y <;> exact absurd (show false=true from hs) Bool.false_ne_true
theorem jn_:OpR X (compareOp .Lt) (rI0 fun i j => .bl (decide (i<j))):=opB0 fun _ _ _ _ _ _ _ q=>lt_int q
theorem jo_:OpR X (compareOp .LtE) (rI0 fun i j => .bl (decide (i<=j))):=opB0 fun _ _ _ _ _ _ _ q=>le_int q
theorem g1_:OpR X (compareOp .Gt) (rI0 fun i j => .bl (decide (j<i))):=opB0 fun _ _ _ _ _ _ _ q=>gt_int q
theorem pJ_:OpR X (compareOp .GtE) (rI0 fun i j => .bl (decide (j<=i))):=opB0 fun _ _ _ _ _ _ _ q=>ge_int q
theorem as_ (b:Expr) {op:CmpOp} (h:op ≠ .In:=by decide) (h2:op ≠ .NotIn:=by decide):behindInMarks op b=false:=by
 have e1:(op == CmpOp.In)=false:=by cases op <;> first | rfl | exact absurd rfl h
 have e2:(op == CmpOp.NotIn)=false:=by cases op <;> first | rfl | exact absurd rfl h2
 cases b <;> simp [behindInMarks,e1,e2]
theorem dI_ {op:CmpOp}{r:R2} (ho:OpR X (compareOp op) r) (ha:PE X a ta) (hb:PE X b tb) (hm:behindInMarks op b=false):PE X (.Compare a [op] [b] pos) (tOp r ta tb):=by
 intro zz s σ H Q I h;exact wpAny_Compare1 (binT ha hb I h fun v u s2 x y H2 I2 rx ry q=>ho zz s2 σ H2 x y v u Q I2 rx ry q) hm
def isB (x:V) (R:Bool->Prop):Prop:=match x with
 | .bl k=>R k
 | _=>False
theorem k9_ {x:V}{R:Bool->Prop} (h:isB x R) : ∃ k,x = .bl k/\R k:=by
 cases x with
 | bl k=>exact ⟨k,rfl,h⟩
 | _=>exact h.elim
def lZ_ (t:TE):TT:=fun σ H Q=>t σ H fun x H'=>isB x fun k=>Q k H'
theorem ak_ {op:CmpOp}{r:R2} (ho:OpR X (compareOp op) r) (ha:PE X a ta) (hb:PE X b tb) (hm:behindInMarks op b=false):PT X (.Compare a [op] [b] pos) (lZ_ (tOp r ta tb)):=by
 intro zz s σ H Q I h;refine wpAny_isTrue_Compare1 (thn (ha zz s σ H _ I h) fun v s1 ⟨x,H1,I1,r1,q1⟩=>thn (hb zz s1 σ H1 _ I1 q1) fun u s2 ⟨y,H2,I2,r2,q2⟩ =>
  thn (ho zz s2 σ H2 x y v u _ I2 r1 r2 q2) fun c s3 ⟨z,H3,I3,r3,q3⟩=>?_) hm
 obtain ⟨k,e,q3⟩:=k9_ q3;subst e;cases r3;exact wpAny_truthy_bool ⟨H3,I3,q3⟩
def kd_ (r r':R2) (ta tb tc:TE):TE:=fun σ H Q=>ta σ H fun x H1=>tb σ H1 fun y H2=>r x y H2 fun z H3=>∃ k,z = .bl k /\
 (if k=true then tc σ H3 fun w' H4=>r' y w' H4 Q else Q (.bl false) H3)
theorem iI_ {op op':CmpOp}{r r':R2} (ho:OpR X (compareOp op) r) (ho':OpR X (compareOp op') r') (ha:PE X a ta) (hb:PE X b tb) (hc:PE X c tc)
  (hm:lastMarks [op,op'] [b,c]=false:=by with_unfolding_all rfl):PE X (.Compare a [op,op'] [b,c] pos) (kd_ r r' ta tb tc):=by
 intro zz s σ H Q I h;refine Compare_chain (thn (ha zz s σ H _ I h) fun v s1 ⟨x,H1,I1,r1,q1⟩=>chain_link (thn (hb zz s1 σ H1 _ I1 q1) fun u s2 ⟨y,H2,I2,r2,q2⟩ =>
  thn (ho zz s2 σ H2 x y v u _ I2 r1 r2 q2) fun d s3 ⟨z,H3,I3,r3,k,e,q3⟩=>?_)) hm
 subst e;cases r3;refine wpAny_truthy_bool ?_;cases k with
 | false=>exact ite_ff ⟨.bl false,H3,I3,rfl,q3⟩
 | true=>exact ite_tt (chain_last (thn (hc zz s3 σ H3 _ I3 q3) fun w' s4 ⟨z',H4,I4,r4,q4⟩=>ho' zz s4 σ H4 y z' u w' Q I4 r2 r4 q4))
theorem mf_ {op op':CmpOp}{r r':R2} (ho:OpR X (compareOp op) r) (ho':OpR X (compareOp op') r') (ha:PE X a ta) (hb:PE X b tb) (hc:PE X c tc)
  (hm:lastMarks [op,op'] [b,c]=false:=by with_unfolding_all rfl):PT X (.Compare a [op,op'] [b,c] pos) (lZ_ (kd_ r r' ta tb tc)):=by
 intro zz s σ H Q I h;refine isTrue_chain (thn (ha zz s σ H _ I h) fun v s1 ⟨x,H1,I1,r1,q1⟩=>test_link (thn (hb zz s1 σ H1 _ I1 q1) fun u s2 ⟨y,H2,I2,r2,q2⟩ =>
  thn (ho zz s2 σ H2 x y v u _ I2 r1 r2 q2) fun d s3 ⟨z,H3,I3,r3,k,e,q3⟩=>?_)) hm
 subst e;cases r3;refine wpAny_truthy_bool ?_;cases k with
 | false =>
  exact ite_ff ⟨H3,I3,q3⟩
 | true =>
 refine ite_tt (test_last (thn (hc zz s3 σ H3 _ I3 q3) fun w' s4 ⟨z',H4,I4,r4,q4⟩=>thn (ho' zz s4 σ H4 y z' u w' _ I4 r2 r4 q4) fun d' s5 zq=>?_));obtain ⟨z2,H5,I5,r5,q5⟩:=zq;obtain ⟨k2,e2,q5⟩:=k9_ q5;subst e2;cases r5;exact wpAny_truthy_bool ⟨H5,I5,q5⟩
def TruV (K:Frag) (x:V) (H:Hp) (k:Bool):Prop :=
 match x with
 | .non=>k=false
 | .bl b=>k=b
 | .int i=>k=(i != 0)
 | .str y=>y.length<=sizeLine/\k=((y.length:Int) != 0)
 | .byt y=>y.size<=sizeLine/\k=((y.size:Int) != 0)
 | .ref p=>(∃ xs,SqL K H p xs/\k = !xs.isEmpty)\/(∃ xs,SqT K H p xs/\k = !xs.isEmpty)\/∃ zw,H p=some (.dK zw)/\k = !zw.isEmpty
 | _=>False
theorem jz_ {κ:Type}{zw:List (κ×V)}{vs:List (κ×Value)} (r:KV zw vs):(!vs.isEmpty) = !zw.isEmpty:=by
 cases r <;> rfl
theorem ft_ {xs:List V}{its:List Value} (r:Vals xs its):(!its.toArray.isEmpty) = !xs.isEmpty:=by
 cases r <;> simp
theorem dq_:(sizeLine:Nat)<2 ^ 63:=by rw [sizeLine_eq];decide
theorem pb_:TruR X (fun x H Q=>∃ k,TruV X.K x H k/\Q k H):=by
 intro zz s σ H x v Q I rx h;obtain ⟨k,e,q⟩:=h;have hl:=dq_;have hs:sizeLine=16777216:=sizeLine_eq;cases x with
 | non =>
  cases rx;have e':k=false:=e;subst e';exact truthy_none ⟨H,I,q⟩
 | bl b =>
  cases rx;have e':k=b:=e;subst e';exact wpAny_truthy_bool ⟨H,I,q⟩
 | int i =>
  obtain ⟨t,rfl⟩:=rx;have e':k=(i != 0):=e;subst e';exact PySem.P.truthy_int ⟨H,I,q⟩
 | str y =>
  obtain ⟨t,rfl⟩:=rx;obtain ⟨hy,e'⟩:y.length<=sizeLine/\k=((y.length:Int) != 0):=e;subst e';exact PySem.P.truthy_str (by omega) ⟨H,I.tok _,q⟩
 | byt y =>
  obtain ⟨t,rfl⟩:=rx;obtain ⟨hy,e'⟩:y.size<=sizeLine/\k=((y.size:Int) != 0):=e;subst e';exact PySem.W.truthy_bytes (by omega) ⟨H,I.tok _,q⟩
 | ref p =>
  cases rx;have e':(∃ xs,SqL X.K H p xs/\k = !xs.isEmpty)\/(∃ xs,SqT X.K H p xs/\k = !xs.isEmpty)\/∃ zw,H p=some (.dK zw)/\k = !zw.isEmpty:=e;rcases e' with ⟨xs,hx,e'⟩ | ⟨xs,hx,e'⟩ | ⟨zw,hx,e'⟩
  ·subst e'
   refine x_12 (I.list hx) fun its r pl hz=>?_;have zr:=r.length;exact wpAny_truthy_list pl.isList (by simp only [size_toArray];omega) ⟨H,I.tok _,by rw [ft_ r];exact q⟩
  ·subst e'
   refine x_12 (I.tuple hx) fun its r pl hz=>?_;have zr:=r.length;exact truthy_tuple pl (by simp only [size_toArray];omega) ⟨H,I.tok _,by rw [ft_ r];exact q⟩
  subst e';obtain ⟨hz,hS,vs,r,m⟩:zw.length<=sizeLine/\(p == sysModules)=false/\∃ vs,KV zw vs/\s.heap.DictOf (aI_ X.prog X.w) p vs:=I.hok p _ hx;have zr:zw.length=vs.length:=Paired.length r;exact wpAny_truthy_dict hS m (by omega) ⟨H,I.tok _,by rw [jz_ r];exact q⟩
 | _=>exact (show False from e).elim
theorem dm_ (ha:PE X a ta) (he : ∀ whole,isTrue a X.env whole=(do let v <- whole;standAt a.pos;holding [v] (truthy v))) :
  PT X a (fun σ H Q=>ta σ H fun x H'=>∃ k,TruV X.K x H' k/\Q k H'):=by
 intro zz s σ H Q I h;exact isTrue_plain (thn (ha zz s σ H _ I h) fun v s1 ⟨x,H1,I1,r1,q1⟩=>pb_ zz s1 σ H1 x v Q I1 r1 q1) (he _)
theorem a6_:OpR X (binaryOp .Add) (fun x y H Q=>∃ i j,x = .str i/\y = .str j/\i.length+j.length<=sizeLine/\Q (.str (i++j)) H):=by
 intro zz s σ H x y v u Q I rx ry h;refine x_23 h fun i j zr2 zr3 hz q=>?_;subst zr2;subst zr3;obtain ⟨t,rfl⟩:=rx;obtain ⟨t',rfl⟩:=ry;exact add_str (fun t' tk=>⟨.str (i++j),H,I.tok _,⟨_,rfl⟩,q⟩) hz
theorem gA_ {x:V}{us:List Value} (r:Vals [x] us) : ∃ u,us=[u]/\RelV x u:=by
 cases r with
 | cons r1 r2=>cases r2;exact ⟨_,rfl,r1⟩
theorem bM_:ec_ X (.type "str") (fun xs H Q=>∃ i,xs=[.int i]/\i.natAbs.log2<1920/\Q (.str (toString i)) H):=by
 intro zz s σ H xs us Q I r h;refine x_12 h fun i zr1 hz q=>?_;subst zr1;refine x_11 (gA_ r) fun u zr1 zz0=>?_;refine x_10 zz0 fun t zr3=>?_;subst zr1;subst zr3;exact PySem.P.str_of_int hz ⟨.str _,H,I.tok _,⟨_,rfl⟩,q⟩
theorem gn_:ec_ X (.builtin "ord") (fun xs H Q=>∃ x,xs=[.str x]/\x.length=1/\Q (.int (x.cps.getD 0 0:Nat)) H):=by
 intro zz s σ H xs us Q I r h;refine x_12 h fun x zr1 hz q=>?_;subst zr1;refine x_11 (gA_ r) fun u zr1 zz0=>?_;refine x_10 zz0 fun t zr3=>?_;subst zr1;subst zr3;exact ord_of_one hz ⟨.int _,H,I.tok _,⟨_,rfl⟩,q⟩
end
structure ObjM (h:Heap) (x dx C:Addr) (mA:zM):Prop where
 obj:h.get? x=some (instObj C dx)
 ns:h.Ns1 dx mA
 ne:dx≠x
theorem g6_ {h:Heap}{dx:Addr}{mA:zM} (n:h.Ns1 dx mA) : ∃ od,h.get? dx=some od/\∀ name,lookIn name od=some (mA name):=by
 refine x_34 n fun o es ep ho hd hk _ hm=>?_;refine ⟨o,ho,fun name=>?_⟩;have e:=hm name;unfold nsFind findBy at e;rw [<- Array.find?_toList] at e;unfold lookIn;rw [hd];dsimp only;split
 ·rename_i y q
  rw [q] at e;exact congrArg some e
 rename_i q;rw [q] at e;have a:es.toList.any (·.refKey)=false:=by
  rw [List.any_eq_false];intro y hy;obtain ⟨z,t,hkey⟩:=hk y (Array.mem_toList_iff.mp hy);simp [DictEntry.refKey,hkey]
 have a' : ¬ es.toList.any (·.refKey)=true:=by rw [a];exact Bool.false_ne_true
 rw [if_neg a'];exact congrArg some e
theorem ObjM.look {h:Heap}{x dx C:Addr}{mA:zM} (I:ObjM h x dx C mA) : ∃ od,PySem.W.InstAt h x (instObj C dx) C (some od)/\∀ name,lookIn name od=some (mA name) :=
 let ⟨od,ho,hl⟩:=g6_ I.ns
 ⟨od,⟨I.obj,rfl,rfl,ho⟩,hl⟩
variable {A:Around}{dx C f:Addr}
section
variable {prog:Program}{K:Frag}{mA:zM}{name:Str}{v:Value}
theorem oM_ {expr:Bool}{Q:zQ} (X:K.In s.heap) (I:ObjM s.heap x dx C mA) (hg:plainGet K C name=true) (hh:hasDictIn K C=true)
  (ha:PySem.W.findIn K (.ref C) name=some none) (hv:mA name=some v) (hv':PySem.W.handedIn v=true) (h:Q v { s with toks:=s.toks+1 }) :
  wpAny (model prog w) A (getAttr (.ref x) name expr) Q E s:=by
 obtain ⟨od,J,hl⟩:=I.look;exact PySem.W.get_value X J (PySem.W.plainGet_of hg).1 (PySem.W.findObj_own hh ha rfl (by rw [hl,hv])) hv' h
theorem mK_ {pl:Sem Bool}{Q:Value×List Value->Shared->Prop} (X:K.In s.heap) (I:ObjM s.heap x dx C mA) (hg:plainGet K C name=true)
  (hf:PySem.W.findIn K (.ref C) name=some (some (.ref f))) (ht:isFn K (.ref f)=true) (hv:mA name=none) (h:Q (.ref f,[.ref x]) s) :
  wpAny (model prog w) A (getMethod (.ref x) name pl) Q E s:=by
 obtain ⟨od,J,hl⟩:=I.look;exact PySem.W.method_fn X J (PySem.W.plainGet_of hg).1 (PySem.W.plainGet_of hg).2 hf (beq_iff_eq.mp ht) (by show (lookIn name od).map (·.isSome)=some false;rw [hl,hv];rfl) h
theorem n6_ {ns:List Str}{Q:Unit->Shared->Prop} (X:K.In s.heap) (I:ObjM s.heap x dx C mA)
  (hs:PySem.W.findIn K (.ref C) "__setattr__"=some (some (.builtin "object.__setattr__"))) (hp:PySem.W.plainOver K C=true) (ht:PySem.W.takerIn K C name=some none) (hh:hasDictIn K C=true)
  (hw:PySem.Within mA ns) (hsz:ns.length<=sizeLine)
  (h : ∀ h',ObjM h' x dx C (fun y=>if y=name then some v else mA y)->Heap.SameBut dx s.heap h'->Q () { s with heap:=h',toks:=s.toks+2 }) :
  wpAny (model prog w) A (setAttr (.ref x) name v) Q E s:=by
 obtain ⟨od,J,hl⟩:=I.look;refine PySem.W.set_plain X J hs (PySem.W.osa_open (s:={ s with toks:=s.toks+1 }) (r:=none) X J hp ht fun b=>?_);obtain ⟨cd,hc,hd'⟩:=PySem.W.any_some hh;have hx:s.heap.get? x=some ⟨.ref C,some dx,.plain,#[]⟩:=I.obj;refine wpAny_bind (wpAny_pure (wpAny_bind (wpAny_bind (wpAny_loadPart hx (wpAny_bind (PySem.W.Looks.here (s:={ s with toks:=s.toks+1 }) (looks_clsIn X hc) ?_))))));rw [hd'];refine wpAny_pure (a:=some dx) (wpAny_bind (wpAny_pure (wpAny_bind ?_)));refine wpAny_nsSet1 (s:={ s with toks:=s.toks+1 }) I.ns fun h' hn2 hs2=>?_;refine x_32 (hn2.count (PySem.Within.cons name v hw)) fun oD esD epD hoD hdD hcD=>?_;refine wpAny_bind (wpAny_lookBehind hoD (by rw [hdD];exact pastItsLine_dict (Nat.le_trans hcD (by rw [length_cons];omega))) ?_);exact wpAny_pure (h _ ⟨(hs2.2 _ (Ne.symm I.ne)).trans I.obj,hn2,I.ne⟩ hs2)
theorem mA_ {R:Result->Shared->Prop}{vs:List Value}{kw:List (Str×Value)} (X:K.In s.heap) (hm:PySem.W.makesIn K C=true)
  (hi:PySem.W.findIn K (.ref C) "__init__"=some (some (.ref f))) (hf:PySem.W.typeIn K (.ref f)=some (.type "function"))
  (h:codeAny (model prog w) (A.under (.builtin "type.__call__" ⟨.ref C::vs,kw⟩)) (.call (.ref f) ⟨.ref (s.heap.objs.size+1)::vs,kw⟩) (PySem.W.InitBack (s.heap.objs.size+1) R)
   { s with heap:=(s.heap.push emptyDict).push (instObj C s.heap.objs.size) }) :
  codeAny (model prog w) A (.call (.ref C) ⟨vs,kw⟩) R s:=by
 obtain ⟨hh,g,d,t,os⟩:=s;exact PySem.W.make_core (PySem.W.makes_of X hm) (looks_findIn X hi) (fun self=>PySem.W.bind_fn X self hf) (.inl rfl) h
end
def putF (f:Str) (v:V):List (Str×V)->List (Str×V)
 | []=>[(f,v)]
 | (g,x)::r=>if g=f then (g,v)::r else (g,x)::putF f v r
theorem c5_ (f g:Str) (v:V) : ∀ fs:List (Str×V),(putF f v fs).lookup g=if g=f then some v else fs.lookup g
 | []=>by
  show List.lookup g [(f,v)]=_;by_cases h:g=f
  ·have hb:(g == f)=true:=beq_iff_eq.mpr h
   simp only [List.lookup,hb,if_pos h]
  have hb:(g == f)=false:=beq_eq_false_iff_ne.mpr h;simp only [List.lookup,hb,if_neg h]
 | (k,x)::r=>by
  have ih:=c5_ f g v r;rw [show putF f v ((k,x)::r)=(if k=f then (k,v)::r else (k,x)::putF f v r) from rfl];by_cases hk:k=f
  ·rw [if_pos hk]
   by_cases h:g=k
   ·have hb:(g == k)=true:=beq_iff_eq.mpr h
    simp only [List.lookup,hb,if_pos (h.trans hk)]
   have hb:(g == k)=false:=beq_eq_false_iff_ne.mpr h;simp only [List.lookup,hb,if_neg (fun e:g=f=>h (e.trans hk.symm))]
  rw [if_neg hk];by_cases h:g=k
  ·have hb:(g == k)=true:=beq_iff_eq.mpr h
   simp only [List.lookup,hb,if_neg (fun e:g=f=>hk (h.symm.trans e))]
  have hb:(g == k)=false:=beq_eq_false_iff_ne.mpr h;simp only [List.lookup,hb];exact ih
theorem ct_ (f:Str) (v:V) : ∀ fs:List (Str×V),f∈(putF f v fs).map (·.1)/\∀ g,g∈fs.map (·.1)->g∈(putF f v fs).map (·.1)
 | []=>⟨by simp [putF],fun g h=>by simp at h⟩
 | (k,x)::r=>by
  obtain ⟨i1,i2⟩:=ct_ f v r;rw [show putF f v ((k,x)::r)=(if k=f then (k,v)::r else (k,x)::putF f v r) from rfl];by_cases hk:k=f
  ·rw [if_pos hk]
   subst hk;exact ⟨by simp,fun g h=>by simpa using h⟩
  rw [if_neg hk];refine ⟨?_,fun g h=>?_⟩
  ·rw [map_cons]
   exact mem_cons_of_mem _ i1
  rw [map_cons] at h ⊢;rcases mem_cons.mp h with e | e
  ·exact mem_cons.mpr (.inl e)
  exact mem_cons_of_mem _ (i2 g e)
theorem cb_ (f:Str) (v:V) : ∀ fs:List (Str×V),(putF f v fs).length<=fs.length+1
 | []=>by simp [putF]
 | (k,x)::r=>by
  have ih:=cb_ f v r;rw [show putF f v ((k,x)::r)=(if k=f then (k,v)::r else (k,x)::putF f v r) from rfl];by_cases hk:k=f
  ·rw [if_pos hk,length_cons,length_cons];omega
  rw [if_neg hk,length_cons,length_cons];omega
theorem RelO.some_of {v:V}{o:Option Value} (r:RelO (some v) o) : ∃ u,o=some u/\RelV v u:=by
 cases o with
 | none=>exact (show False from r).elim
 | some u=>exact ⟨u,rfl,r⟩
theorem RelO.none_of {o:Option Value} (r:RelO none o):o=none:=by
 cases o with
 | none=>rfl
 | some u=>exact (show False from r).elim
theorem hf_ {v:V}{u:Value} (r:RelV v u):PySem.W.handedIn u=true:=by
 cases v with
 | non=>cases (show u=Value.none from r);rfl
 | bl b=>cases (show u=Value.bool b from r);rfl
 | int i=>obtain ⟨t,e⟩:=(show ∃ t,u=Value.int i t from r);cases e;rfl
 | str x=>obtain ⟨t,e⟩:=(show ∃ t,u=Value.str x t from r);cases e;rfl
 | byt b=>obtain ⟨t,e⟩:=(show ∃ t,u=Value.bytes b t from r);cases e;rfl
 | flt b=>obtain ⟨t,e⟩:=(show ∃ t,u=Value.float b t from r);cases e;rfl
 | ref a=>cases (show u=Value.ref a from r);rfl
 | ty n=>cases (show u=Value.type n from r);rfl
variable {fs:List (Str×V)}
theorem gg_ (hok:HOk P w H h) (e:H a=some (.ins C dx fs)) : ∃ mA,ObjM h a dx C mA/\(∀ f,RelO (fs.lookup f) (mA f))/\PySem.Within mA (fs.map (·.1))/\fs.length<=1000/\H dx=some (.own a):=by
 refine x_04 ((show aT_ P w H h a (.ins C dx fs) from hok a _ e)) fun d z ne ob zz0=>?_;refine x_12 zz0 fun mA n r q=>?_;exact ⟨mA,⟨ob,n,ne⟩,r,q,z,d⟩
structure Cls (K:Frag) (C:Addr):Prop where
 pg:plainGet K C Str.empty=true
 hd:hasDictIn K C=true
 po:PySem.W.plainOver K C=true
 sa:PySem.W.findIn K (.ref C) "__setattr__"=some (some (.builtin "object.__setattr__"))
theorem Cls.get {K:Frag}{C:Addr} (c:Cls K C) (f:Str):plainGet K C f=true:=c.pg
def ay_ (K:Frag) (C:Addr) (f:Str):Prop:=PySem.W.findIn K (.ref C) f=some none
theorem ay_.taker {K:Frag}{C:Addr}{f:Str} (n:ay_ K C f):PySem.W.takerIn K C f=some none:=by
 unfold PySem.W.takerIn;rw [show PySem.W.findIn K (.ref C) f=some none from n];rfl
structure Meth (K:Frag) (C:Addr) (m:Str) (f:Addr):Prop where
 at_:PySem.W.findIn K (.ref C) m=some (some (.ref f))
 fn:isFn K (.ref f)=true
 kp:keepIn K (.ref f)=true
section
variable {f:Str}{v:V}
theorem fw_ {b:Bool}{Q:zQ} (I:Inv X zz σ H s) (e:H a=some (.ins C dx fs)) (c:Cls X.K C) (n:ay_ X.K C f) (l:fs.lookup f=some v)
  (h : ∀ u s',Inv X zz σ H s'->RelV v u->Q u s'):wpAny (model X.prog X.w) A (getAttr (.ref a) f b) Q E s:=by
 obtain ⟨mA,O,r,_,_,_⟩:=gg_ I.hok e;obtain ⟨u,hu,ru⟩:=RelO.some_of (v:=v) (o:=mA f) (by rw [<- l];exact r f);exact oM_ I.kIn O (c.get f) c.hd n hu (hf_ ru) (h u _ (I.tok _) ru)
theorem fv_ {m:Str}{g:Addr}{pl:Sem Bool}{Q:Value×List Value->Shared->Prop} (I:Inv X zz σ H s) (e:H a=some (.ins C dx fs)) (c:Cls X.K C) (k:Meth X.K C m g) (l:fs.lookup m=none)
  (h:Q (.ref g,[.ref a]) s):wpAny (model X.prog X.w) A (getMethod (.ref a) m pl) Q E s:=by
 obtain ⟨mA,O,r,_,_,_⟩:=gg_ I.hok e;have hn:mA m=none:=RelO.none_of (by rw [<- l];exact r m);exact mK_ I.kIn O (c.get m) k.at_ k.fn hn h
theorem fo_ {y:V}{u:Value}{Q:Unit->Shared->Prop} (I:Inv X zz σ H s) (e:H a=some (.ins C dx fs)) (c:Cls X.K C) (n:ay_ X.K C f) (hl:fs.length<1000) (ry:RelV y u)
  (h : ∀ s',Inv X zz σ (upd H a (.ins C dx (putF f y fs))) s'->Q () s'):wpAny (model X.prog X.w) A (setAttr (.ref a) f u) Q E s:=by
 obtain ⟨mA,O,r,wi,_,ho⟩:=gg_ I.hok e;have hz:(fs.map (·.1)).length<=sizeLine:=by rw [length_map,sizeLine_eq];omega
 refine n6_ I.kIn O c.sa c.po n.taker c.hd wi hz fun h' O' sb=>h _ ?_;have hd : ∃ o,h'.get? dx=some o:=let ⟨o,_,_,e',_⟩:=O'.ns;⟨o,e'⟩;refine I.write (x:=a) (e:=dx) (by rw [e];exact True.intro) (.inr ho) (fun b q hb z=>(sb.2 b hb).trans z) hd ?_;refine ⟨by rw [al_ O.ne];exact ho,?_,O.ne,O'.obj,_,O'.ns,fun g=>?_,fun g hg=>?_⟩
 ·have:=cb_ f y fs;omega
 ·show RelO ((putF f y fs).lookup g) (if g=f then some u else mA g)
  rw [c5_];by_cases q:g=f
  ·rw [if_pos q,if_pos q];exact ry
  rw [if_neg q,if_neg q];exact r g
 by_cases q:g=f
 ·rw [q];exact (ct_ f y fs).1
 refine (ct_ f y fs).2 g (wi g fun z=>hg ?_);show (if g=f then some u else mA g)=none;rw [if_neg q];exact z
theorem Inv.made (I:Inv X zz σ H s):Inv X zz σ (upd (upd H s.heap.objs.size (.own (s.heap.objs.size+1))) (s.heap.objs.size+1) (.ins C s.heap.objs.size []))
  { s with heap:=(s.heap.push emptyDict).push (instObj C s.heap.objs.size) }:=by
 have e1:(s.heap.push emptyDict).get? s.heap.objs.size=some emptyDict:=get?_push_size s.heap rfl;have e2:((s.heap.push emptyDict).push (instObj C s.heap.objs.size)).get? (s.heap.objs.size+1)=some (instObj C s.heap.objs.size):=by
  have:=get?_push_size (s.heap.push emptyDict) (o:=instObj C s.heap.objs.size) rfl;rwa [size_push] at this
 have e3:(s.heap.push emptyDict).Ns s.heap.objs.size (fun _=>none):=⟨emptyDict,#[],_,e1,rfl,(fun e he=>absurd he (by simp)),fun _=>rfl⟩;have I1:=I.laid (a:=s.heap.objs.size) (o := .own (s.heap.objs.size+1)) (h':=s.heap.push emptyDict) (t':=s.toks) (fun b u q=>get?_push_of_some _ q) (Nat.le_refl _) ⟨_,e1⟩;refine I1.laid (a:=s.heap.objs.size+1) (o := .ins C s.heap.objs.size []) (t':=s.toks) (fun b u q=>get?_push_of_some _ q) (Nat.le_of_eq (size_push _ _)) ?_;have ne:s.heap.objs.size≠s.heap.objs.size+1:=Nat.ne_of_lt (lt_succ_self _);refine ⟨by rw [al_ ne,ad_],zero_le _,ne,e2,fun _=>none,(Heap.Ns1.of_empty e3).at fun o q=>get?_push_of_some _ q,fun _=>True.intro,fun y hy=>absurd rfl hy⟩
theorem lL_ {prog:Program}{w:World}{env:Env}{e:Expr}{f:Str}{pos:Pos}{s:Shared}{Q:zQ} (hb:attributeBase e f env (eval e env)=eval e env)
  (h:wpAny (model prog w) A (eval e env) (fun o s₁=>wpAny (model prog w) A (getAttr o f true) Q E s₁) E s):wpAny (model prog w) A (eval (.Attribute e f pos) env) Q E s :=
 Attribute_any_ h (by rw [arm_eval_Attribute,hb])
end
def tFld (K:Frag) (ta:TE) (f:Str):TE:=fun σ H Q=>ta σ H fun x H1=>∃ a C dx fs v,x = .ref a/\H1 a=some (.ins C dx fs)/\Cls K C/\ay_ K C f/\fs.lookup f=some v/\Q v H1
def sFld (K:Frag) (ta tv:TE) (f:Str):TS:=fun D σ H=>tv σ H fun y H1=>ta σ H1 fun x H2=>∃ a C dx fs,x = .ref a/\H2 a=some (.ins C dx fs)/\Cls K C/\ay_ K C f/\fs.length<1000 /\
 D.nx σ (upd H2 a (.ins C dx (putF f y fs)))
def InOp (X:Cx) (op:Operator) (rd:V->V->Hp->VK->Prop):Prop :=
 ∀ (zz:zP) (s:Shared) (σ:St) (H:Hp) (x y:V) (u v:Value) (Q:VK),Inv X zz σ H s->RelV x u->RelV y v->rd x y H Q->wpAny (model X.prog X.w) X.A (inplaceOp op u v) (EP X zz σ Q) X.xe s
def fX_ (K:Frag) (ta tv:TE) (rd:V->V->Hp->VK->Prop) (f:Str):TS:=fun D σ H=>ta σ H fun x H1=>∃ a C dx fs v,x = .ref a/\H1 a=some (.ins C dx fs)/\Cls K C/\ay_ K C f/\fs.lookup f=some v /\
 tv σ H1 fun y H2=>rd v y H2 fun z H3=>∃ dx' fs',H3 a=some (.ins C dx' fs')/\fs'.length<1000/\D.nx σ (upd H3 a (.ins C dx' (putF f z fs')))
section
variable {o value:Expr}{f:Str}{pos' tpos:Pos}{tv:TE}
theorem ah_ (he:PE X e ta) (hb:attributeBase e f X.env (eval e X.env)=eval e X.env):PE X (.Attribute e f pos) (tFld X.K ta f):=by
 intro zz s σ H Q I h;refine lL_ hb (thn (he zz s σ H _ I h) fun u s1 zq=>?_);refine x_22 zq fun x H1 I1 rx zz0=>?_;refine x_50 zz0 fun a C dx fs v zy=>x_05 zy fun ex ea c n l q=>?_;subst ex;obtain rfl:u=Value.ref a:=rx;exact fw_ I1 ea c n l fun u' s2 I2 ru=>⟨v,H1,I2,ru,q⟩
theorem a2_ (ha:PE X o ta) (hv:PE X value tv) (hs:swapsWith value (some (.Attribute o f pos')) pos.line X.env=pure false):PS X (.Assign [.Attribute o f pos'] value pos) (sFld X.K ta tv f):=by
 intro zz s σ H D I h;refine plainObj_wpAny_Assign_Attribute (thn (hv zz s σ H _ I h) fun u s1 ⟨y,H1,I1,ry,q⟩=>thn (ha zz s1 σ H1 _ I1 q) fun ov s2 zq=>?_) hs;refine x_22 zq fun x H2 I2 rx zz0=>?_;refine x_40 zz0 fun a C dx fs zy=>x_05 zy fun ex ea c n l q2=>?_;subst ex;obtain rfl:ov=Value.ref a:=rx;exact fo_ I2 ea c n l ry fun s3 I3=>⟨σ,_,I3,q2⟩
theorem eO_ {op:Operator}{rd:V->V->Hp->VK->Prop} (ha:PE X o ta) (hv:PE X value tv) (hop:InOp X op rd):PS X (.AugAssign (.Attribute o f tpos) op value pos) (fX_ X.K ta tv rd f):=by
 intro zz s σ H D I h;refine wpAny_AugAssign_AttributeAny (thn (ha zz s σ H _ I h) fun ov s1 zq=>?_);refine x_22 zq fun x H1 I1 rx zz0=>?_;refine x_50 zz0 fun a C dx fs v zy=>x_05 zy fun ex ea c n l q=>?_;subst ex;obtain rfl:ov=Value.ref a:=rx;refine fw_ I1 ea c n l fun u s2 I2 ru=>thn (hv zz s2 σ H1 _ I2 q) fun w3 s3 ⟨y,H2,I3,ry,q3⟩=>thn (hop zz s3 σ H2 v y u w3 _ I3 ru ry q3) fun w4 s4 zq=>?_;refine x_22 zq fun z H3 I4 rz zz0=>?_;refine x_22 zz0 fun dx' fs' ea' l' q4=>?_;exact fo_ I4 ea' c n l' rz fun s5 I5=>⟨σ,_,I5,q4⟩
def rAdd:V->V->Hp->VK->Prop:=fun x y H Q=>∃ i j,x = .int i/\y = .int j/\Q (.int (i+j)) H
theorem le_:InOp X .Add rAdd:=by
 rintro zz s σ H x y u v Q I rx ry ⟨i,j,rfl,rfl,q⟩
 obtain ⟨t,rfl⟩:=(show ∃ t,u=Value.int i t from rx);obtain ⟨t',rfl⟩:=(show ∃ t',v=Value.int j t' from ry);exact PyProof.Rows.iadd_int ⟨.int (i+j),H,I.tok _,⟨_,rfl⟩,q⟩
end
section
variable {Q:zQ}{c:Value}{b:Bool}
inductive TyOf (K:Frag) (H:Hp):V->Value->Prop where
 | non:TyOf K H .non (.type "NoneType")
 | bl (x:Bool):TyOf K H (.bl x) (.type "bool")
 | int (i:Int):TyOf K H (.int i) (.type "int")
 | str (x:Str):TyOf K H (.str x) (.type "str")
 | flt (x:UInt64):TyOf K H (.flt x) (.type "float")
 | lst {a:Addr}{xs:List V} (e:H a=some (.lst xs)):TyOf K H (.ref a) (.type "list")
 | frz {a:Addr}{o:Obj}{xs:List V} (e:H a=some (.frz o (.lst xs))):TyOf K H (.ref a) (.type "list")
 | tup {a:Addr}{xs:List V} (e:H a=some (.tup xs)):TyOf K H (.ref a) (.type "tuple")
 | dK {a:Addr}{zw:List (Key×V)} (e:H a=some (.dK zw)):TyOf K H (.ref a) (.type "dict")
 | dT {a:Addr}{zw:List (List Key×V)} (e:H a=some (.dT zw)):TyOf K H (.ref a) (.type "dict")
 | ins {a C dx:Addr}{fs:List (Str×V)} (e:H a=some (.ins C dx fs)) (cl:Cls K C) (ha:PySem.W.findIn K (.ref C) "__class__"=some (some (.builtin "object.__class__")))
   (hn:PySem.W.specialIn K (.builtin "object.__class__") "__get__"=some (some (.builtin "getset_descriptor.__get__"))) (htk:PySem.W.takesIn K (.builtin "object.__class__")=some true)
   (hm:mroIn K C (.type "object")=some true):TyOf K H (.ref a) (.ref C)
theorem k8_ {x:V}{u t:Value} (I:Inv X zz σ H s) (rx:RelV x u) (ty:TyOf X.K H x t) (e:kitOne X.K t c=some b) (h : ∀ tk,Q (.bool b) { s with toks:=tk }) :
  wpAny (model X.prog X.w) A (call (.builtin "isinstance") [u,c]) Q E s:=by
 cases ty with
 | non=>cases (show u=Value.none from rx);exact kia_one PySem.W.kitx_none I.kIn True.intro e (fun z=>nomatch z) h
 | bl y=>cases (show u=Value.bool y from rx);exact kia_one PySem.W.kitx_bool I.kIn True.intro e (fun z=>nomatch z) h
 | int i=>obtain ⟨t,q⟩:=(show ∃ t,u=Value.int i t from rx);cases q;exact kia_one PySem.W.kitx_int I.kIn True.intro e (fun z=>nomatch z) h
 | str y=>obtain ⟨t,q⟩:=(show ∃ t,u=Value.str y t from rx);cases q;exact kia_one PySem.W.kitx_str I.kIn True.intro e (fun z=>nomatch z) h
 | flt y=>obtain ⟨t,q⟩:=(show ∃ t,u=Value.float y t from rx);cases q;exact kia_one PySem.W.kitx_float I.kIn True.intro e (fun z=>nomatch z) h
 | @lst a xs ea =>
  cases (show u=Value.ref a from rx);refine x_01 ((show aT_ X.prog X.w H s.heap a (.lst xs) from I.hok a _ ea)) fun _ zz0=>?_;refine x_21 zz0 fun _ n _ h1=>?_;exact kia_one PySem.W.kitx_list I.kIn ⟨_,h1,rfl⟩ e (fun z=>nomatch z) h
 | @frz a ob xs ea =>
  cases (show u=Value.ref a from rx);refine x_02 ((show aT_ X.prog X.w H s.heap a (.frz ob (.lst xs)) from I.hok a _ ea)) fun _ _ zz0=>?_;refine x_21 zz0 fun _ n _ h1=>?_;exact kia_one PySem.W.kitx_list I.kIn ⟨_,h1,rfl⟩ e (fun z=>nomatch z) h
 | @tup a xs ea =>
  cases (show u=Value.ref a from rx);refine x_01 ((show aT_ X.prog X.w H s.heap a (.tup xs) from I.hok a _ ea)) fun _ zz0=>?_;refine x_11 zz0 fun _ _ p=>?_;refine x_12 p fun o h1 h2 _=>?_;exact kia_one PySem.W.kitx_tuple I.kIn ⟨o,h1,h2⟩ e (fun z=>nomatch z) h
 | @dK a zw ea =>
  cases (show u=Value.ref a from rx);refine x_02 ((show aT_ X.prog X.w H s.heap a (.dK zw) from I.hok a _ ea)) fun _ _ zz0=>?_;refine x_11 zz0 fun vs _ p=>?_;refine x_32 p fun o es ep h1 h2 _=>?_;exact kia_one PySem.W.kitx_dict I.kIn ⟨o,h1,h2.1⟩ e (fun z=>nomatch z) h
 | @dT a zw ea =>
  cases (show u=Value.ref a from rx);refine x_02 ((show aT_ X.prog X.w H s.heap a (.dT zw) from I.hok a _ ea)) fun _ _ zz0=>?_;refine x_11 zz0 fun xs _ zz1=>?_;refine x_32 zz1 fun o es ep h1 h2 _=>?_;exact kia_one PySem.W.kitx_dict I.kIn ⟨o,h1,h2.1⟩ e (fun z=>nomatch z) h
 | @ins a C dx fs ea cl ha hn htk hm =>
 cases (show u=Value.ref a from rx);obtain ⟨mA,O,_⟩:=gg_ I.hok ea;obtain ⟨od,J,_⟩:=O.look;exact kia_one (PySem.W.kitx_own (cl.get _) cl.hd ha hn htk hm) I.kIn J e (fun z=>nomatch z) h
end
structure Room (k:Nat) (A:Around):Prop where
 hd:A.handled=none
 dp:A.depth+3 * k+5<recursionLimit
 un:A.units+16 * k+200<cLine
theorem Room.mono {j k:Nat}{A:Around} (r:Room k A) (h:j<=k):Room j A:=⟨r.hd,by have:=r.dp;omega,by have:=r.un;omega⟩
theorem Room.deeper {k:Nat}{A:Around} (r:Room (k+1) A) (env:Env):Room k (A.deeper env) :=
 ⟨r.hd,by have:=r.dp;show A.depth+1+3 * k+5<_;omega,by have:=r.un;show A.units+3+16 * k+200<_;omega⟩
theorem jt_ {A:Around}{C:Addr}{us:List Value}{kw:List (Str×Value)}:(A.under (.builtin "type.__call__" ⟨.ref C::us,kw⟩)).depth=A.depth+1:=by
 first | rfl | simp [Around.under,Code.weight,Code.isCreation,Code.isGuard,Code.isCaller,Code.frames,Code.isFrame,guardIds]
theorem js_ {A:Around}{C:Addr}{us:List Value}{kw:List (Str×Value)}:(A.under (.builtin "type.__call__" ⟨.ref C::us,kw⟩)).units=A.units+1:=by
 first | rfl | simp [Around.under,Code.cUnits,Code.frames,Code.isFrame]
theorem Room.make {k:Nat}{A:Around} (r:Room (k+1) A) (C:Addr) (us:List Value) (kw:List (Str×Value)):Room k (A.under (.builtin "type.__call__" ⟨.ref C::us,kw⟩)) :=
 ⟨r.hd,by have:=r.dp;rw [jt_];omega,by have:=r.un;rw [js_];omega⟩
theorem Room.depth {k:Nat}{A:Around} (r:Room k A):A.depth<recursionLimit:=by have:=r.dp;omega
theorem Room.units {k:Nat}{A:Around} (r:Room k A):A.units+64<cLine:=by have:=r.un;omega
def tNil:TA:=fun _ H Q=>Q [] H
def eB_ (ta:TE) (tr:TA):TA:=fun σ H Q=>ta σ H fun x H1=>tr σ H1 fun xs H2=>Q (x::xs) H2
variable {es:List Expr}{t:TA}
theorem ac_:PA X [] tNil:=fun _ _ _ _ H Q I h=>Calls.spliced_nil ⟨[],H,I,.nil,h⟩
theorem aa_ (ha:PE X e te) (hr:PA X es t) (hs:starEach (e::es) X.env=(false,eval e X.env)::starEach es X.env:=by rfl):PA X (e::es) (eB_ te t):=by
 intro pos zz s σ H Q I h;rw [hs];show wpAny _ _ (spliced ((false,eval e X.env)::backTo pos (starEach es X.env))) _ _ s;refine Calls.spliced_cons (thn (ha zz s σ H _ I h) fun u s1 zq=>?_);refine x_22 zq fun x H1 I1 r1 q1=>?_;exact thn (hr pos zz s1 σ H1 _ I1 q1) fun us s2 ⟨xs,H2,I2,r2,q2⟩=>⟨x::xs,H2,I2,.cons r1 r2,q2⟩
def tTup (t:TA):TE:=fun σ H Q=>t σ H fun xs H1=>xs.length<=sizeLine/\∀ p,H1 p=none->Q (.ref p) (upd H1 p (.tup xs))
def tLst (t:TA):TE:=fun σ H Q=>t σ H fun xs H1=>xs.length<=sizeLine/\∀ p,H1 p=none->Q (.ref p) (upd H1 p (.lst xs))
theorem dn_ {x1} (h:PA X es t):PE X (.Tuple es x1 pos) (tTup t):=by
 intro zz s σ H Q I hq;refine wpAny_Tuple_spliced (thn (h pos zz s σ H _ I hq) fun us s1 ⟨xs,H1,I1,r,z,q⟩=>⟨by rw [<- r.length];exact z,?_⟩);have hf:H1 s1.heap.objs.size=none:=I1.hok.fresh (Nat.le_refl _);refine ⟨.ref s1.heap.objs.size,upd H1 s1.heap.objs.size (.tup xs),I1.laid (t':=s1.toks) (fun b u e=>get?_push_of_some _ e) (Nat.le_refl _) ?_,rfl,q _ hf⟩;exact ⟨z,us,r,⟨_,get?_push_size _ rfl,rfl,_,rfl⟩⟩
theorem aE_ (h:PA X es t):PE X (.List es pos) (tLst t):=by
 intro zz s σ H Q I hq;refine wpAny_List_spliced (thn (h pos zz s σ H _ I hq) fun us s1 ⟨xs,H1,I1,r,z,q⟩=>⟨by rw [<- r.length];exact z,?_⟩);have hf:H1 s1.heap.objs.size=none:=I1.hok.fresh (Nat.le_refl _);refine ⟨.ref s1.heap.objs.size,upd H1 s1.heap.objs.size (.lst xs),I1.laid (t':=s1.toks) (fun b u e=>get?_push_of_some _ e) (Nat.le_refl _) ?_,rfl,q _ hf⟩;exact ⟨z,us,0,r,get?_push_size _ rfl⟩
abbrev Sp:=List V->Hp->VK->XK->Prop
abbrev CXT:=List Env->Hp->Shared->XK->Value->Shared->Prop
structure Env0 (P:Program) (w:World) (K:Frag) (mg:zM) (base:Heap) (A:Around) (outer:List Env) (s:Shared) (H:Hp):Prop where
 frames:A.frames=some outer
 mod:Mod K mg base
 bs : ∀ b o,base.get? b=some o->s.heap.get? b=some o/\H b=none
 bsz:base.objs.size<=s.heap.objs.size
 funs:s.heap.FunFrames base outer
 frf : ∀ b∈frs outer,H b=none
 hok:HOk P w H s.heap
 bare:AllBare s.gens
def CE (outer:List Env) (P:Program) (w:World) (H:Hp) (s:Shared) (Q:VK) (u:Value) (s':Shared):Prop :=
 ∃ v H',s'.os=s.os/\AllBare s'.gens/\Un (frs outer) [] H H' s.heap s'.heap/\HOk P w H' s'.heap/\RelV v u/\Q v H'
def CR (CX:CXT) (outer:List Env) (P:Program) (w:World) (H:Hp) (s:Shared) (Q:VK) (E:XK) (r:Result) (s':Shared):Prop :=
 match r with
 | .ok (.ret u)=>CE outer P w H s Q u s'
 | .ok _=>False
 | .error e=>CX outer H s E e s'
structure FnOk (P:Program) (w:World) (K:Frag) (mg:zM) (base:Heap) (CX:CXT) (k:Nat) (f:Addr) (fd:FuncData) (ps:List Str) (sp:Sp):Prop where
 len : ∀ vs H Q E,sp vs H Q E->vs.length=ps.length
 run : ∀ (A:Around) (outer:List Env) (s:Shared) (H:Hp) (args:Args) (us:List Value) (vs:List V) (Q:VK) (E:XK),Room k A->Env0 P w K mg base A outer s H->BindsTo s fd args (ps.zip us)->Vals vs us->sp vs H Q E ->
  codeAny (model P w) A (.call (.ref f) args) (CR CX outer P w H s Q E) s
theorem FnOk.mono {P:Program}{w:World}{K:Frag}{mg:zM}{base:Heap}{CX:CXT}{j k:Nat}{f:Addr}{fd:FuncData}{ps:List Str}{sp:Sp} (F:FnOk P w K mg base CX j f fd ps sp) (h:j<=k) :
  FnOk P w K mg base CX k f fd ps sp:=⟨F.len,fun A outer s H args us vs Q E hr=>F.run A outer s H args us vs Q E (hr.mono h)⟩
theorem FnOk.imp {P:Program}{w:World}{K:Frag}{mg:zM}{base:Heap}{CX:CXT}{k:Nat}{f:Addr}{fd:FuncData}{ps:List Str}{sp sp':Sp} (F:FnOk P w K mg base CX k f fd ps sp)
  (h : ∀ vs H Q E,sp' vs H Q E->sp vs H Q E):FnOk P w K mg base CX k f fd ps sp' :=
 ⟨fun vs H Q E q=>F.len vs H Q E (h _ _ _ _ q),fun A outer s H args us vs Q E hr he hb hv hs=>F.run A outer s H args us vs Q E hr he hb hv (h _ _ _ _ hs)⟩
theorem Env0.make {P:Program}{w:World}{K:Frag}{mg:zM}{base:Heap}{A:Around}{outer:List Env}{s:Shared}{H:Hp} (e:Env0 P w K mg base A outer s H) (C:Addr) (us:List Value) (kw:List (Str×Value)) :
  Env0 P w K mg base (A.under (.builtin "type.__call__" ⟨.ref C::us,kw⟩)) outer s H:=⟨by first | exact e.frames | (simpa [Around.under,Code.envs,Code.isFrame,pushEnvs] using e.frames),e.mod,e.bs,e.bsz,e.funs,e.frf,e.hok,e.bare⟩
section
variable {s':Shared}
theorem Inv.env0 (I:Inv X zz σ H s):Env0 X.prog X.w X.K X.mg X.base X.A X.stack s H :=
 ⟨I.ok.frames,I.ok.mod,I.bs,Nat.le_trans I.ok.bsz I.sz,I.stack,I.stkFree,I.hok,I.bare⟩
theorem Inv.after {Q:VK}{u:Value} (I:Inv X zz σ H s) (h:CE X.stack X.prog X.w H s Q u s'):EP X zz σ Q u s':=by
 obtain ⟨v,H',os,bare,un,hok,r,q⟩:=h;obtain ⟨hh,g,d,t,os'⟩:=s';obtain rfl:os'=s.os:=os;exact ⟨v,H',I.call (h':=hh) (g':=g) (d':=d) (t':=t) (ch:=[]) un hok bare (fun b z=>absurd z (by simp)),r,q⟩
end
def jf_ (sp:Sp) (dvs:List V) (E:XK) (t:TA):TE:=fun σ H Q=>t σ H fun vs H1=>sp (vs++dvs) H1 Q E
def dF_ (C:Addr) (m:Str) (sp:Sp) (dvs:List V) (E:XK) (ta:TE) (t:TA):TE:=fun σ H Q=>ta σ H fun x H1=>∃ a dx fs,x = .ref a/\H1 a=some (.ins C dx fs)/\fs.lookup m=none /\
 t σ H1 fun vs H2=>sp (x::(vs++dvs)) H2 Q E
def bz_ (C:Addr) (sp:Sp) (dvs:List V) (E:XK) (t:TA):TE:=fun σ H Q=>t σ H fun vs H1=>∀ x dx,H1 x=none->H1 dx=none->dx≠x ->
 sp (.ref x::(vs++dvs)) (upd (upd H1 dx (.own x)) x (.ins C dx [])) (fun v H2=>v = .non/\Q (.ref x) H2) E
def a8_ (K:Frag) (fd:FuncData) (ps:List Str) (ds:List Value):Prop :=
 ∀ (s:Shared) (us:List Value),K.In s.heap->(us++ds).length=ps.length->BindsTo s fd ⟨us,[]⟩ (ps.zip (us++ds))
theorem a8_.all {K:Frag}{fd:FuncData}{ps:List Str} (h : ∀ us:List Value,us.length=ps.length->bindArgs fd ⟨us,[]⟩=pure (ps.zip us)):a8_ K fd ps []:=fun s us _ hl=>by
 rw [append_nil] at hl ⊢;exact .of_eq (h us hl)
def b3_ (CX:CXT) (X:Cx) (E:XK):Prop:=∀ (zz:zP) (σ:St) (H:Hp) (s:Shared) (e:Value) (s':Shared),Inv X zz σ H s->CX X.stack H s E e s'->X.xe e s'
variable {p:Pos}
section
variable {CX:CXT}{k:Nat}{fd:FuncData}{ps:List Str}{sp:Sp}{dvs:List V}{ds:List Value}{E:XK}{x m:Str}{zt:Pos}{o:Expr}
theorem ix_ {zz:zP}{σ:St}{H:Hp}{s:Shared}{Q:VK}{us:List Value}{vs:List V} (F:FnOk X.prog X.w X.K X.mg X.base CX k f fd ps sp) (hr:Room k X.A) (hb:a8_ X.K fd ps ds) (hd:Vals dvs ds) (hx:b3_ CX X E)
  (I:Inv X zz σ H s) (r:Vals vs us) (h:sp (vs++dvs) H Q E):wpAny (model X.prog X.w) X.A (call (.ref f) us) (EP X zz σ Q) X.xe s:=by
 have r2:Vals (vs++dvs) (us++ds):=r.append hd;have hl:(us++ds).length=ps.length:=by rw [<- r2.length];exact F.len _ _ _ _ h
 refine wpAny_call (codeAny_mono (F.run X.A X.stack s H ⟨us,[]⟩ (us++ds) (vs++dvs) Q E hr I.env0 (hb s us I.kIn hl) r2 h) fun r s' hq=>?_);cases r with
 | error e=>exact hx zz σ H s e s' I hq
 | ok fl =>
 cases fl with
 | ret u=>exact I.after hq
 | next=>exact False.elim hq
 | brk=>exact False.elim hq
 | cont=>exact False.elim hq
theorem dJ_ (F:FnOk X.prog X.w X.K X.mg X.base CX k f fd ps sp) (hr:Room k X.A) (hg:Gl X x) (hm:X.mg x=some (.ref f)) (hk:keepIn X.K (.ref f)=true) (hb:a8_ X.K fd ps ds) (hd:Vals dvs ds) (hx:b3_ CX X E)
  (ha:PA X (e::es) t) (hdb:(x == ("__debug__":Str))=false:=by decide) (he:starEach (e::es) X.env=(false,eval e X.env)::starEach es X.env:=by rfl) (hpl:(backTo pos (starEach es X.env)).any (·.1)=false:=by rfl) :
  PE X (.Call (.Name x p) (e::es) [] pos) (jf_ sp dvs E t):=by
 intro zz s σ H Q I h;refine wpAny_Call_Name_kw (dO_ I hg hm ?_ hdb);refine callWith_K (h₀:=X.base) I.ok.mod.kin hk (thn (ha pos zz s σ H _ I h) fun us s1 ⟨vs,H1,I1,r,q⟩=>⟨I1.kIn,?_⟩) he hpl;exact ix_ F hr hb hd hx I1 r q
theorem hK_ {pl:Sem Bool} (he:PE X o ta) (c:Cls X.K C) (hm:Meth X.K C m f) (F:FnOk X.prog X.w X.K X.mg X.base CX k f fd ps sp) (hr:Room k X.A) (hb:a8_ X.K fd ps ds) (hd:Vals dvs ds) (hx:b3_ CX X E) (ha:PA X (e::es) t)
  (hst:starEach (e::es) X.env=(false,eval e X.env)::starEach es X.env:=by rfl) (hpl:(backTo pos (starEach es X.env)).any (·.1)=false:=by rfl)
  (ht:eval (.Call (.Attribute o m zt) (e::es) [] pos) X.env=(do
   let ov <- eval o X.env
   standAt zt.atName
   let (f,first) <- holding [ov] (getMethod ov m pl)
   callWith pos f first (backTo pos (starEach (e::es) X.env)) (backToKw pos (keywordEach [] X.env))):=by rfl) :
  PE X (.Call (.Attribute o m zt) (e::es) [] pos) (dF_ C m sp dvs E ta t):=by
 intro zz s σ H Q I h;refine PySem.W.methodCall_KW (pl:=pl) (thn (he zz s σ H _ I h) fun u s1 zq=>?_) ht;refine x_22 zq fun x H1 I1 rx zz0=>?_;refine x_33 zz0 fun a dx fs ex ea l q=>?_;subst ex;obtain rfl:u=Value.ref a:=rx;refine fv_ I1 ea c hm l ?_;refine callWith_K (first:=[.ref a]) (h₀:=X.base) I.ok.mod.kin hm.kp (thn (ha pos zz s1 σ H1 _ I1 q) fun us s2 ⟨vs,H2,I2,r,q2⟩=>⟨I2.kIn,?_⟩) hst hpl;exact ix_ (us := .ref a::us) (vs := .ref a::vs) F hr hb hd hx I2 (.cons rfl r) q2
theorem bf_ {pl:Sem Bool} (he:PE X o ta) (c:Cls X.K C) (hm:Meth X.K C m f) (F:FnOk X.prog X.w X.K X.mg X.base CX k f fd ps sp) (hr:Room k X.A) (hb:a8_ X.K fd ps ds) (hd:Vals dvs ds) (hx:b3_ CX X E)
  (ht:eval (.Call (.Attribute o m zt) [] [] pos) X.env=(do
   let ov <- eval o X.env
   standAt zt.atName
   let (f,first) <- holding [ov] (getMethod ov m pl)
   callWith pos f first (backTo pos (starEach [] X.env)) (backToKw pos (keywordEach [] X.env))):=by rfl) :
  PE X (.Call (.Attribute o m zt) [] [] pos) (dF_ C m sp dvs E ta tNil):=by
 intro zz s σ H Q I h;refine PySem.W.methodCall_KW (pl:=pl) (thn (he zz s σ H _ I h) fun u s1 zq=>?_) ht;refine x_22 zq fun x H1 I1 rx zz0=>?_;refine x_33 zz0 fun a dx fs ex ea l q=>?_;subst ex;obtain rfl:u=Value.ref a:=rx;refine fv_ I1 ea c hm l ?_;exact PySem.W.callWith_K0 (first:=[.ref a]) I1.kIn hm.kp (ix_ (us:=[.ref a]) (vs:=[.ref a]) F hr hb hd hx I1 (.cons rfl .nil) q)
structure Mk (K:Frag) (C f:Addr):Prop where
 makes:PySem.W.makesIn K C=true
 init:PySem.W.findIn K (.ref C) "__init__"=some (some (.ref f))
 fn:isFn K (.ref f)=true
 kp:keepIn K (.ref C)=true
theorem l9_ {zz:zP}{σ:St}{H:Hp}{s:Shared}{Q:VK}{us:List Value}{vs:List V} (M:Mk X.K C f) (F:FnOk X.prog X.w X.K X.mg X.base CX k f fd ps sp) (hr:Room (k+1) X.A) (hb:a8_ X.K fd ps ds) (hd:Vals dvs ds)
  (hx:b3_ CX X E) (I:Inv X zz σ H s) (r:Vals vs us)
  (h : ∀ x dx,H x=none->H dx=none->dx≠x->sp (.ref x::(vs++dvs)) (upd (upd H dx (.own x)) x (.ins C dx [])) (fun v H2=>v = .non/\Q (.ref x) H2) E) :
  wpAny (model X.prog X.w) X.A (call (.ref C) us) (EP X zz σ Q) X.xe s:=by
 have hq:=h (s.heap.objs.size+1) s.heap.objs.size (I.hok.fresh (le_succ _)) (I.hok.fresh (Nat.le_refl _)) (Nat.ne_of_lt (lt_succ_self _));have I2:=Inv.made (C:=C) I;have r2:Vals (V.ref (s.heap.objs.size+1)::(vs++dvs)) (Value.ref (s.heap.objs.size+1)::(us++ds)) := .cons rfl (r.append hd);have hl:(Value.ref (s.heap.objs.size+1)::us++ds).length=ps.length:=by
  have e:=r2.length;rw [F.len _ _ _ _ hq] at e;exact e.symm
 refine wpAny_call (mA_ (f:=f) I.kIn M.makes M.init (beq_iff_eq.mp M.fn) (codeAny_mono (F.run _ X.stack _ _ ⟨Value.ref (s.heap.objs.size+1)::us,[]⟩ (Value.ref (s.heap.objs.size+1)::(us++ds)) _ _ E (hr.make C us [])
  (I2.env0.make C us []) (hb _ (Value.ref (s.heap.objs.size+1)::us) I2.kIn hl) r2 hq) fun r s' hq'=>?_))
 cases r with
 | error e=>exact hx zz σ _ _ e s' I2 hq'
 | ok fl =>
 cases fl with
 | ret u =>
  refine x_23 (I2.after hq') fun v H' I3 rv ev q3=>?_;subst ev;exact ⟨rv,⟨V.ref (s.heap.objs.size+1),H',I3,rfl,q3⟩⟩
 | next=>exact False.elim hq'
 | brk=>exact False.elim hq'
 | cont=>exact False.elim hq'
theorem aO_ (M:Mk X.K C f) (F:FnOk X.prog X.w X.K X.mg X.base CX k f fd ps sp) (hr:Room (k+1) X.A) (hg:Gl X x) (hm:X.mg x=some (.ref C)) (hb:a8_ X.K fd ps ds) (hd:Vals dvs ds) (hx:b3_ CX X E)
  (ha:PA X (e::es) t) (hdb:(x == ("__debug__":Str))=false:=by decide) (he:starEach (e::es) X.env=(false,eval e X.env)::starEach es X.env:=by rfl) (hpl:(backTo pos (starEach es X.env)).any (·.1)=false:=by rfl) :
  PE X (.Call (.Name x p) (e::es) [] pos) (bz_ C sp dvs E t):=by
 intro zz s σ H Q I h;refine wpAny_Call_Name_kw (dO_ I hg hm ?_ hdb);refine callWith_K (h₀:=X.base) I.ok.mod.kin M.kp (thn (ha pos zz s σ H _ I h) fun us s1 ⟨vs,H1,I1,r,q⟩=>⟨I1.kIn,?_⟩) he hpl;exact l9_ M F hr hb hd hx I1 r q
end
structure FnScope (N P:List Str) (sc:Scope):Prop where
 kind:sc.kind = .function
 co:sc.isCoroutine=false
 gen:sc.isGenerator=false
 nd:N.Nodup
 pre:N.take P.length=P
 par : ∀ x∈P,sc.names.lookup x=some .local\/sc.names.lookup x=some .cell
 nofree : ∀ y∈sc.names,y.2 ≠ .free
theorem hp_ {kindOf:Str->Option NameKind}{x:Str} : ∀ {binds:List (Str×Value)}{m:zM},(∀ v,(x,v)∉binds)->bindL kindOf binds m x=m x
 | [],_,_=>rfl
 | (n,v)::r,m,h=>by
  unfold bindL;rw [hp_ fun w hw=>h w (mem_cons_of_mem _ hw)];split
  ·have:x≠n:=by rintro rfl;exact h v mem_cons_self
   simp [this]
  rfl
theorem hr_ {kindOf:Str->Option NameKind}{x:Str} : ∀ {binds:List (Str×Value)}{m:zM},(∀ v,(x,v)∉binds)->bindC kindOf binds m x=m x
 | [],_,_=>rfl
 | (n,v)::r,m,h=>by
  unfold bindC;rw [hr_ fun w hw=>h w (mem_cons_of_mem _ hw)];split
  ·rfl
  have:x≠n:=by rintro rfl;exact h v mem_cons_self
  simp [this]
theorem hq_ {kindOf:Str->Option NameKind}{x:Str}{v:Value} : ∀ {P:List Str}{vs:List Value}{i:Nat}{m:zM},P.Nodup->P[i]? = some x->vs[i]? = some v->kindOf x=some .local ->
  bindL kindOf (P.zip vs) m x=some v
 | [],_,_,_,_,h,_,_=>by simp at h
 | _::_,[],_,_,_,_,h,_=>by simp at h
 | p::P,w::vs,0,m,nd,h1,h2,hk=>by
  simp at h1 h2;subst h1;subst h2;show bindL kindOf ((p,w)::P.zip vs) m p=_;unfold bindL;rw [hp_ fun v hv=>(nodup_cons.mp nd).1 (of_mem_zip hv).1,if_pos hk];simp
 | p::P,w::vs,i+1,m,nd,h1,h2,hk=>by
  show bindL kindOf ((p,w)::P.zip vs) m x=_;unfold bindL;exact hq_ (i:=i) (nodup_cons.mp nd).2 (by simpa using h1) (by simpa using h2) hk
theorem hs_ {kindOf:Str->Option NameKind}{x:Str}{v:Value} : ∀ {P:List Str}{vs:List Value}{i:Nat}{m:zM},P.Nodup->P[i]? = some x->vs[i]? = some v->kindOf x≠some .local ->
  bindC kindOf (P.zip vs) m x=some v
 | [],_,_,_,_,h,_,_=>by simp at h
 | _::_,[],_,_,_,_,h,_=>by simp at h
 | p::P,w::vs,0,m,nd,h1,h2,hk=>by
  simp at h1 h2;subst h1;subst h2;show bindC kindOf ((p,w)::P.zip vs) m p=_;unfold bindC;rw [hr_ fun v hv=>(nodup_cons.mp nd).1 (of_mem_zip hv).1,if_neg hk];simp
 | p::P,w::vs,i+1,m,nd,h1,h2,hk=>by
  show bindC kindOf ((p,w)::P.zip vs) m x=_;unfold bindC;exact hs_ (i:=i) (nodup_cons.mp nd).2 (by simpa using h1) (by simpa using h2) hk
def start (N:List Str) (vs:List V):St:=vs.map some++List.replicate (N.length - vs.length) none
noncomputable def cxOf (CX:CXT) (P:Program) (w:World) (K:Frag) (mg:zM) (base:Heap) (N:List Str) (qual:Str) (scope:Scope) (f:Addr) (cd:Value) (A:Around) (outer:List Env) (s:Shared) (H:Hp) (E:XK):Cx where
 prog:=P
 w:=w
 K:=K
 mg:=mg
 base:=base
 A:=A.deeper (envOfC qual scope s.heap.objs.size f cd)
 N:=N
 s_0:=s
 H_0:=H
 env:=envOfC qual scope s.heap.objs.size f cd
 outer:=outer
 stack:=envOfC qual scope s.heap.objs.size f cd::outer
 ex:=[]
 calm:=true
 fn:=fun _=>true
 pn:=[]
 xe:=fun e s'=>wpAny (model P w) (A.deeper (envOfC qual scope s.heap.objs.size f cd)) (leaving (envOfC qual scope s.heap.objs.size f cd) e) (fun _ s''=>CX outer H s E e s'') (fun e' s''=>CX outer H s E e' s'') s'
theorem i7_ {sc:Scope}{n:Nat}{x:Str} (h:sc.names.lookup x=some .cell) : ∃ c,(cellsFrom n sc.names []).lookup x=some c:=by
 have q:=PySem.W.cellsFrom_some sc.names n [] (.inl h);exact Option.isSome_iff_exists.mp q
theorem hb_ {CX:CXT}{P:Program}{w:World}{K:Frag}{mg:zM}{base:Heap}{N ps:List Str}{qual:Str}{scope:Scope}{f:Addr}{cd:Value}{A:Around}{outer:List Env}{s s1:Shared}{H:Hp}{E:XK}{us:List Value}{vs:List V}
  (S:FnScope N ps scope) (hd:A.handled=none) (e0:Env0 P w K mg base A outer s H) (hl:vs.length=ps.length) (r:Vals vs us)
  (x:InCallC s s.heap.objs.size (bindL (envOfC qual scope s.heap.objs.size f cd).kindOf (ps.zip us) fun _=>none) (cellsFrom (s.heap.objs.size+1) scope.names []) (bindC (envOfC qual scope s.heap.objs.size f cd).kindOf (ps.zip us) fun _=>none) s1) :
  Inv (cxOf CX P w K mg base N qual scope f cd A outer s H E) [] (start N vs) H s1:=by
 have hpl:ps.length<=N.length:=by have:=congrArg List.length S.pre;rw [length_take] at this;omega
 refine x_21 x.done fun h1 tk zr2 hk=>?_;subst zr2;have noA : ∀ b:Addr,b∉(cxOf CX P w K mg base N qual scope f cd A outer s H E).ex:=fun b z=>absurd (show b∈([]:List Addr) from z) (by simp);refine ⟨⟨e0.mod,S.kind,rfl,rfl,Nat.le_refl _,fun y z c h1 h2=>?_,fun y hy=>?_,fun y c _ h=>?_,fun _=>hd,Around.frames_deeper e0.frames,.inr ⟨rfl,rfl⟩,fun b z=>absurd z (noA b),e0.bs,e0.bsz,fun b _ _=>noA b,fun b z=>absurd z (noA b),e0.funs,e0.frf⟩,
  rfl,e0.bare,Un.kept hk,⟨_,x.toInCall.ns,fun i y v h1 h2 h3=>?_⟩,fun y c h=>⟨_,x.cell y c h⟩,e0.hok.fresh (Nat.le_refl _),fun y c h=>?_,fun p hp=>absurd (show p∈([]:zP) from hp) (by simp),e0.hok.kept hk,?_⟩
 ·exact name_of_addr x.apart (PySem.mem_of_lookup h1) (PySem.mem_of_lookup h2)
 ·have hy:scope.names.lookup y=some .cell\/scope.names.lookup y=some .free:=hy
  rcases hy with hy | hy
  ·exact i7_ hy
  exact absurd rfl (S.nofree _ (PySem.mem_of_lookup hy))
 ·exact Nat.le_of_lt (x.above y c (PySem.mem_of_lookup h))
 ·have hi:i<vs.length:=by
   unfold start at h2;by_cases hi:i<vs.length
   ·exact hi
   rw [List.getElem?_append_right (by simpa using hi)] at h2;rw [List.getElem?_replicate] at h2;split at h2 <;> cases h2
  have ha:vs[i]? = some v:=by
   unfold start at h2;rw [List.getElem?_append_left (by simpa using hi),getElem?_map] at h2;cases e:vs[i]? with
   | none=>rw [e] at h2;cases h2
   | some a=>rw [e] at h2;cases h2;rfl
  obtain ⟨u,hu,rv⟩:=r.get ha;have hp:ps[i]? = some y:=by
   rw [<- S.pre,List.getElem?_take_of_lt (by omega)];exact h1
  have ndP:ps.Nodup:=by rw [<- S.pre];exact S.nd.sublist (List.take_sublist _ _)
  refine ⟨u,rv,?_⟩;rcases S.par y (mem_of_getElem? hp) with k | k
  ·exact .inl ⟨k,hq_ ndP hp hu k⟩
  obtain ⟨c,e⟩:=i7_ (n:=s.heap.objs.size+1) k;refine .inr ⟨.inl k,c,e,?_⟩;have q:=x.cell y c e;rw [hs_ ndP hp hu (by show scope.names.lookup y≠_;rw [k];decide)] at q;exact q
 ·exact e0.hok.fresh (Nat.le_of_lt (x.above y c (PySem.mem_of_lookup h)))
 unfold start;show _=N.length;rw [length_append,length_map,List.length_replicate];omega
theorem p3_ {CX:CXT}{P:Program}{w:World}{K:Frag}{mg:zM}{base:Heap}{k:Nat}{f:Addr}{name qual:Str}{params:Arguments}{body:List Stmt}{scope:Scope}{dV kV doc pm cdv ct oc:Value}{an od:Option Addr}
  {osl:Array (Option Value)}{N ps:List Str}{sp:Sp} (lk:K.lookup f=some ⟨oc,od,.func (fnOf name qual params body scope dV kV doc pm an cdv ct),osl⟩) (hcd:codeIn K cdv qual=true) (S:FnScope N ps scope)
  (len : ∀ vs H Q E,sp vs H Q E->vs.length=ps.length)
  (hbody : ∀ (A:Around) (outer:List Env) (s:Shared) (H:Hp) (vs:List V) (Q:VK) (E:XK),Room k (A.deeper (envOfC qual scope s.heap.objs.size f cdv))->sp vs H Q E ->
   ∃ t,PSs (cxOf CX P w K mg base N qual scope f cdv A outer s H E) body t/\t { nx:=fun _ H'=>Q .non H',rt:=Q } (start N vs) H) :
  FnOk P w K mg base CX (k+1) f (fnOf name qual params body scope dV kV doc pm an cdv ct) ps sp:=by
 refine ⟨len,fun A outer s H args us vs Q E hr e0 hb r hsp=>?_⟩;have hl:=len _ _ _ _ hsp;have KX:K.In s.heap:=e0.mod.kin.keeps fun b o e=>(e0.bs b o e).1;have lim:s.heap.NoLimit:=e0.mod.nolimit.keeps fun b o e=>(e0.bs b o e).1;have hkind : ∀ y∈ps.zip us,scope.names.lookup y.1=some .local\/(scope.names.lookup y.1=some .cell/\((cellsFrom (s.heap.objs.size+1) scope.names []).lookup y.1).isSome=true):=fun ⟨n,v⟩ hy=>by
  rcases S.par n (of_mem_zip hy).1 with q | q
  ·exact .inl q
  exact .inr ⟨q,PySem.W.cellsFrom_some _ _ _ (.inl q)⟩
 refine codeAny_call_function hr.depth (KX _ _ lk) rfl S.co S.gen rfl (PySem.W.codeRec_of KX hcd) (hb _ _ _ _ ?_);refine wpAny_newFunctionEnv_cells S.kind hkind fun env he s1 x=>?_;subst he;refine ⟨lim.keeps x.toInCall.keep,codeAny_func ?_⟩;obtain ⟨t,ht,hq⟩:=hbody A outer s H vs Q E (hr.deeper _) hsp;have I:Inv (cxOf CX P w K mg base N qual scope f cdv A outer s H E) [] (start N vs) H s1:=hb_ S hr.hd e0 hl r x;refine wpAny_mono (ht [] s1 (start N vs) H _ I hq) (fun fl s' hs=>?_) fun e s' hs=>hs;have fin : ∀ {σ':St}{H':Hp}{v:V}{u:Value},Inv (cxOf CX P w K mg base N qual scope f cdv A outer s H E) [] σ' H' s'->RelV v u->Q v H'->CE outer P w H s Q u s' :=
  fun {σ' H' v u} J rv q=>⟨v,H',J.os,J.bare,J.base,J.hok,rv,q⟩
 cases fl with
 | ret u =>
  refine x_32 hs fun v σ' H' J rv q=>?_;exact fin J rv q
 | next =>
  refine x_21 hs fun σ' H' J q=>?_;exact fin (v:=V.non) (u:=Value.none) J rfl q
 | brk =>
  refine x_21 hs fun _ _ _ q=>?_;exact False.elim q
 | cont =>
 refine x_21 hs fun _ _ _ q=>?_;exact False.elim q
section
variable {x:Str}{id T:String}{r:List V->Hp->VK->Prop}
def tCB (r:List V->Hp->VK->Prop) (t:TA):TE:=fun σ H Q=>t σ H fun vs H1=>r vs H1 Q
theorem aA_ (hc:ec_ X (.builtin id) r) (hg:Gl X x) (hm:X.mg x=none) (hv:bootBuiltins x=some (.builtin id)) (ha:PA X (e::es) t) (hn:x≠"__name__":=by decide) (hdb:(x == ("__debug__":Str))=false:=by decide)
  (he:starEach (e::es) X.env=(false,eval e X.env)::starEach es X.env:=by rfl) (hpl:(backTo pos (starEach es X.env)).any (·.1)=false:=by rfl):PE X (.Call (.Name x p) (e::es) [] pos) (tCB r t):=by
 intro zz s σ H Q I h;refine wpAny_Call_Name_kw (d1_ I hg hm hv ?_ hn hdb);exact PyProof.Rows.callWith_builtin1 (thn (ha pos zz s σ H _ I h) fun us s1 ⟨vs,H1,I1,r1,q1⟩=>hc zz s1 σ H1 vs us Q I1 r1 q1) he hpl
theorem a3_ (hc:ec_ X (.type T) r) (hg:Gl X x) (hm:X.mg x=none) (hv:bootBuiltins x=some (.type T)) (ha:PA X (e::es) t) (hn:x≠"__name__":=by decide) (hdb:(x == ("__debug__":Str))=false:=by decide)
  (he:starEach (e::es) X.env=(false,eval e X.env)::starEach es X.env:=by rfl) (hpl:(backTo pos (starEach es X.env)).any (·.1)=false:=by rfl):PE X (.Call (.Name x p) (e::es) [] pos) (tCB r t):=by
 intro zz s σ H Q I h;refine wpAny_Call_Name_kw (d1_ I hg hm hv ?_ hn hdb);exact PyProof.Rows.callWith_type1 (thn (ha pos zz s σ H _ I h) fun us s1 ⟨vs,H1,I1,r1,q1⟩=>hc zz s1 σ H1 vs us Q I1 r1 q1) he hpl
end
end L2
namespace HT
open PySem PyProof.Rows
section
variable {prog:Program}{w:World}{A:Around}{E:zQ}{s:Shared}
theorem cat_tup {t b:Addr}{vs ws:List Value}{Q:zQ} (ht:IsTup s.heap t vs.toArray) (hb:IsTup s.heap b ws.toArray) (hv:vs≠[])
  (h1:ws=[]->Q (.ref t) s) (h2:ws≠[]->Q (.ref s.heap.objs.size) { s with heap:=s.heap.push { cls := .type "tuple",data := .seq (vs++ws).toArray } })
  (hsz:vs.length+ws.length<=sizeLine):wpAny (model prog w) A (binaryOp .Add (.ref t) (.ref b)) Q E s:=by
 obtain ⟨⟨cls,dd,data,sl⟩,ho,hc,n,hd⟩:=id ht;obtain ⟨⟨cls2,dd2,data2,sl2⟩,ho2,hc2,n2,hd2⟩:=id hb;simp only at hc hd hc2 hd2;subst hc hd hc2 hd2;have e:vs.toArray++ws.toArray=(vs++ws).toArray:=by simp
 by_cases hw:ws=[]
 ·exact concat_meets ⟨_,ho,rfl⟩ ⟨_,ho2,rfl⟩ noFill_tuple_add seq_tuple_add PySem.F.slot_tuple_add PySem.F.entry_tuple_add (PySem.F.args_tuple_add_2 _ _)
   (tuple_addW1 t b vs.toArray ws.toArray n n2 dd dd2 sl sl2 (by simpa using hv) (by simp [hw])) ⟨ho,ho2,h1 hw⟩
 refine concat_meets ⟨_,ho,rfl⟩ ⟨_,ho2,rfl⟩ noFill_tuple_add seq_tuple_add PySem.F.slot_tuple_add PySem.F.entry_tuple_add (PySem.F.args_tuple_add_2 _ _)
  (tuple_addW2 t b vs.toArray ws.toArray n n2 dd dd2 sl sl2 (by simpa using hv) (by simpa using hw) (by rw [size_toArray,size_toArray];exact hsz)) ⟨ho,ho2,?_⟩
 rw [e];exact h2 hw
def sIx (n d:Nat):Option Int->Nat
 | none=>d
 | some v=>if v<0 then (v+(n:Int)).toNat else min v.toNat n
theorem sIx_none (n d:Nat):sIx n d none=d:=rfl
theorem sIx_nat (n d k:Nat):sIx n d (some (k:Int))=min k n:=by
 show (if (k:Int)<0 then ((k:Int)+(n:Int)).toNat else min (k:Int).toNat n)=min k n;rw [if_neg (by omega),Int.toNat_natCast]
theorem sIx_le (n d:Nat) (hd:d<=n) (o:Option Int):sIx n d o<=n:=by
 cases o with
 | none=>exact hd
 | some v =>
 show (if v<0 then (v+(n:Int)).toNat else min v.toNat n)<=n;by_cases hv:v<0
 ·rw [if_pos hv];omega
 rw [if_neg hv];exact Nat.min_le_right _ _
end
end HT
namespace L2
open PySem PySem.Spec PyProof.Rows
abbrev TO:=St->Hp->(Option Int->Hp->Prop)->Prop
def PO (X:Cx) (e:Option Expr) (t:TO):Prop :=
 ∀ (zz:zP) (s:Shared) (σ:St) (H:Hp) (Q:Option Int->Hp->Prop),Inv X zz σ H s->t σ H Q ->
  wpAny (model X.prog X.w) X.A (evalPart e X.env) (fun u s'=>∃ o H',Inv X zz σ H' s'/\IsPart u o/\Q o H') X.xe s
def ka_:TO:=fun _ H Q=>Q none H
def pd_ (t:TE):TO:=fun σ H Q=>t σ H fun x H1=>∃ i,x = .int i/\Q (some i) H1
variable {X:Cx}{e:Expr}{pos:Pos}
section
variable {te:TE}{lo hi:Option Expr}{tl th:TO}{p2:Pos}
theorem kI_:PO X none ka_:=by
 intro zz s σ H Q I h;rw [evalPart_none];exact wpAny_pure ⟨none,H,I,.none,h⟩
theorem bO_ (h:PE X e te):PO X (some e) (pd_ te):=by
 intro zz s σ H Q I hw;rw [evalPart_some];refine thn (h zz s σ H _ I hw) fun u s1 zq=>?_;refine x_22 zq fun x H1 I1 r1 q1=>?_;obtain ⟨i,rfl,q⟩:=q1;obtain ⟨t,rfl⟩:=r1;exact ⟨some i,H1,I1,.int i t,q⟩
def SlR (X:Cx) (r:V->Option Int->Option Int->Hp->VK->Prop):Prop :=
 ∀ (zz:zP) (s:Shared) (σ:St) (H:Hp) (x:V) (v vl vu:Value) (lo hi:Option Int) (sl:Addr) (Q:VK),Inv X zz σ H s->RelV x v->s.heap.IsSliceOf sl vl vu .none->IsPart vl lo->IsPart vu hi->r x lo hi H Q ->
  ∃ T id,typeLookup (.type T) "__getitem__"=pure (some (.builtin id))/\s.TypeIs v T/\wpAny (model X.prog X.w) X.A (getItem v (.ref sl)) (EP X zz σ Q) X.xe s
def tSl (r:V->Option Int->Option Int->Hp->VK->Prop) (te:TE) (tl th:TO):TE:=fun σ H Q=>te σ H fun x H1=>tl σ H1 fun l H2=>th σ H2 fun u H3=>r x l u H3 Q
theorem cH_ {r:V->Option Int->Option Int->Hp->VK->Prop} (hr:SlR X r) (he:PE X e te) (hl:PO X lo tl) (hu:PO X hi th):PE X (.Subscript e (.Slice lo hi none p2) pos) (tSl r te tl th):=by
 intro zz s σ H Q I h;refine Subscript_ (thn (he zz s σ H _ I h) fun v s1 zq=>?_);refine x_22 zq fun x H1 I1 r1 q1=>?_;refine wpAny_Slice (thn (hl zz s1 σ H1 _ I1 q1) fun vl s2 ⟨l,H2,I2,pl,q2⟩=>thn (hu zz s2 σ H2 _ I2 q2) fun vu s3 zq=>?_);refine x_22 zq fun u H3 I3 pu q3=>?_;rw [evalPart_none];refine wpAny_pure ?_;have I4:Inv X zz σ H3 { s3 with heap:=s3.heap.push { cls := .type "slice",data := .fields #[vl,vu,.none] } }:=I3.kept (t':=s3.toks) fun b ob q=>get?_push_of_some _ q;obtain ⟨T,id,hT,ht,hg⟩:=hr zz { s3 with heap:=s3.heap.push { cls := .type "slice",data := .fields #[vl,vu,.none] } } σ H3 x v vl vu l u s3.heap.objs.size Q I4 r1 (Heap.IsSliceOf.new ..) pl pu q3;show wpAny (model X.prog X.w) X.A (subscriptTail e (.Slice lo hi none p2) v (.ref s3.heap.objs.size)) (EP X zz σ Q) X.xe { s3 with heap:=s3.heap.push { cls := .type "slice",data := .fields #[vl,vu,.none] } };exact tail_any (ops:=[.ref s3.heap.objs.size,v]) ht hT hg (by with_unfolding_all rfl)
def cutV (xs:List V) (lo hi:Option Int):List V:=(xs.drop (HT.sIx xs.length 0 lo)).take (HT.sIx xs.length xs.length hi - HT.sIx xs.length 0 lo)
theorem ic_ (xs:List V) (lo hi:Option Int):(cutV xs lo hi).length<=xs.length:=by
 unfold cutV;rw [length_take,length_drop];omega
def qr_ (K:Frag):R2:=fun x y H Q=>∃ a b xs ys,x = .ref a/\y = .ref b/\SqT K H a xs/\SqT K H b ys/\xs≠[]/\xs.length+ys.length<=sizeLine /\
 (ys=[]->Q (.ref a) H)/\(ys≠[]->∀ p,H p=none->Q (.ref p) (upd H p (.tup (xs++ys))))
theorem Vals.nil_iff {xs:List V}{us:List Value} (r:Vals xs us):us=[]↔xs=[]:=by
 cases r with
 | nil=>simp
 | cons _ _=>simp
theorem op_:OpR X (binaryOp .Add) (qr_ X.K):=by
 intro zz s σ H x y v u Q I rx ry h;refine x_40 h fun a b xs ys zy=>x_07 zy fun zr4 zr5 ha hb hx hz q1 q2=>?_;subst zr4;subst zr5;cases rx;cases ry;refine x_12 (I.tuple ha) fun its r1 p1 _=>?_;refine x_12 (I.tuple hb) fun zp r2 p2 _=>?_;refine HT.cat_tup p1 p2 (fun z=>hx (r1.nil_iff.mp z)) (fun z=>⟨.ref a,H,I,rfl,q1 (r2.nil_iff.mp z)⟩) (fun z=>?_) (by rw [<- r1.length,<- r2.length];exact hz);refine ⟨.ref s.heap.objs.size,_,I.laid (t':=s.toks) (o := .tup (xs++ys)) (fun b ob q=>get?_push_of_some _ q) (Nat.le_refl _) ?_,rfl,q2 (fun w=>z (r2.nil_iff.mpr w)) _ (I.hok.fresh (Nat.le_refl _))⟩;exact ⟨by rw [length_append];exact hz,_,r1.append r2,IsTup.new _ _⟩
end
def ixN (n:Nat) (i:Int):Option Nat:=if 0<=i then (if i<n then some i.toNat else none) else if -(n:Int)<=i then some (i+n).toNat else none
def atI {α:Type} (xs:List α) (i:Int):Option α:=(ixN xs.length i).bind fun j=>xs[j]?
theorem oF_ {n:Nat}{i:Int}{j:Nat} (h:ixN n i=some j):seqIndex? i n=some j/\j<n /\ -(n:Int)<=i/\i<n:=by
 unfold ixN at h;by_cases h0:0<=i
 ·rw [if_pos h0] at h
  by_cases h1:i<n
  ·rw [if_pos h1] at h
   have e:i.toNat=j:=Option.some.inj h;exact ⟨by rw [seqIndex_of h0 h1,e],by omega,by omega,h1⟩
  rw [if_neg h1] at h;cases h
 rw [if_neg h0] at h;by_cases h1 : -(n:Int)<=i
 ·rw [if_pos h1] at h
  have e:(i+n).toNat=j:=Option.some.inj h;exact ⟨by rw [seqIndex_neg (by omega) h1,e],by omega,h1,by omega⟩
 rw [if_neg h1] at h;cases h
theorem ij_ {α:Type}{xs:List α}{i:Int}{v:α} (h:atI xs i=some v) : ∃ j,seqIndex? i xs.length=some j/\xs[j]? = some v/\j<xs.length /\ -(xs.length:Int)<=i/\i<xs.length:=by
 unfold atI at h;cases e:ixN xs.length i with
 | none=>rw [e] at h;cases h
 | some j =>
 rw [e] at h;refine x_03 (oF_ e) fun h1 h2 h3 h4=>?_;exact ⟨j,h1,h,h2,h3,h4⟩
theorem bo_ {α:Type}{xs:List α}{j:Nat}{v:α} (h:xs[j]? = some v):atI xs (j:Int)=some v:=by
 have hj:j<xs.length:=(List.getElem?_eq_some_iff.mp h).1;have e:ixN xs.length (j:Int)=some j:=by
  unfold ixN;rw [if_pos (by omega),if_pos (by omega)];simp
 unfold atI;rw [e];exact h
def o5_ (b:Expr):Prop:=∀ o i,subscripted b false o i=operate [o,i] (getItem o i)
def IxR (X:Cx) (r:R2):Prop :=
 ∀ (value slice:Expr) (zz:zP) (s:Shared) (σ:St) (H:Hp) (x y:V) (v u:Value) (Q:VK),Inv X zz σ H s->RelV x v->RelV y u->r x y H Q ->
  subscripted slice false v u=operate [v,u] (getItem v u)->wpAny (model X.prog X.w) X.A (subscriptTail value slice v u) (EP X zz σ Q) X.xe s
def MtR (X:Cx) (id:String) (r:V->List V->Hp->VK->Prop):Prop :=
 ∀ (zz:zP) (s:Shared) (σ:St) (H:Hp) (x:V) (xs:List V) (v:Value) (us:List Value) (Q:VK),Inv X zz σ H s->RelV x v->Vals xs us->r x xs H Q ->
  wpAny (model X.prog X.w) X.A (call (.builtin id) (v::us)) (EP X zz σ Q) X.xe s
section
variable {a b:Expr}{ta tb:TE}
theorem aQ_ {r:R2} (hr:IxR X r) (ha:PE X a ta) (hb:PE X b tb) (hs:o5_ b):PE X (.Subscript a b pos) (tOp r ta tb):=by
 intro zz s σ H Q I h;exact Subscript_ (binT ha hb I h fun v u s2 x y H2 I2 rx ry q=>hr a b zz s2 σ H2 x y v u Q I2 rx ry q (hs _ _))
def rIxL (K:Frag):R2:=fun x y H Q=>∃ p xs i v,x = .ref p/\y = .int i/\SqL K H p xs/\atI xs i=some v/\Q v H
def rIxT (K:Frag):R2:=fun x y H Q=>∃ p xs i v,x = .ref p/\y = .int i/\SqT K H p xs/\atI xs i=some v/\Q v H
def rIxS:R2:=fun x y H Q=>∃ z i c,x = .str z/\y = .int i/\z.length<=sizeLine/\atI z.cps.toList i=some c/\Q (.str ⟨#[c]⟩) H
theorem aJ_:IxR X (rIxL X.K):=by
 intro value slice zz s σ H x y v u Q I rx ry h hs;refine x_40 h fun p xs i z zy=>x_04 zy fun zr4 zr5 hq he q=>?_;subst zr4;subst zr5;cases rx;obtain ⟨t,rfl⟩:=ry;refine x_12 (I.list hq) fun its r pl hz=>?_;refine x_10 (ij_ he) fun j zy=>x_04 zy fun h1 h2 h3 h4 h5=>?_;obtain ⟨w,ew,rw'⟩:=r.get h2;have hl:=r.length;have hn:=dq_;have fin:EP X zz σ Q w s:=⟨z,H,I,rw',q⟩;by_cases h0:0<=i
 ·have hj:i.toNat=j:=by
   rw [seqIndex_of h0 h5] at h1;exact Option.some.inj h1
  exact item_listR pl.isList h0 (by omega) (by rw [hj];simpa using ew) fin hs
 have hj:(i+(its.toArray.size:Int)).toNat=j:=by
  rw [seqIndex_neg (by omega) h4] at h1;rw [size_toArray,<- hl];exact Option.some.inj h1
 exact subscriptTail_builtinR (x:=w) pl.isList.typeIs slot_list_getitem.lookup
  (wpAny_getItem_list_neg (Q:=fun r s'=>r=w/\EP X zz σ Q r s') pl.isList (by omega) (by rw [size_toArray] <;> omega) (by omega) (by rw [hj];simpa using ew) ⟨rfl,fin⟩) hs
theorem bx_:IxR X (rIxT X.K):=by
 intro value slice zz s σ H x y v u Q I rx ry h hs;refine x_40 h fun p xs i z zy=>x_04 zy fun zr4 zr5 hq he q=>?_;subst zr4;subst zr5;cases rx;obtain ⟨t,rfl⟩:=ry;refine x_12 (I.tuple hq) fun its r pl hz=>?_;refine x_10 (ij_ he) fun j zy=>x_04 zy fun h1 h2 h3 h4 h5=>?_;obtain ⟨w,ew,rw'⟩:=r.get h2;have hl:=r.length;have hn:=dq_;have fin:EP X zz σ Q w s:=⟨z,H,I,rw',q⟩;exact subscriptTail_builtinR (x:=w) pl.typeIs slot_tuple_getitem.lookup
  (getItem_tuple (j:=j) (Q:=fun r s'=>r=w/\EP X zz σ Q r s') pl (by omega) (by omega) (by rw [size_toArray,<- hl];exact h1) (by simpa using ew) ⟨rfl,fin⟩) hs
theorem nx_:IxR X rIxS:=by
 intro value slice zz s σ H x y v u Q I rx ry h hs;refine x_34 h fun z i c zr3 zr4 hz he q=>?_;subst zr3;subst zr4;obtain ⟨t,rfl⟩:=rx;obtain ⟨t',rfl⟩:=ry;refine x_10 (ij_ he) fun j zy=>x_04 zy fun h1 h2 h3 h4 h5=>?_;have hl:z.cps.toList.length=z.length:=by simp [Str.length]
 rw [hl] at h1 h4 h5;have hn:=dq_;exact tail_any (typeIs_str s z t) slot_str_getitem.lookup (getItem_str (c:=c) (by
  have e1:decide (i < -(2 ^ 63:Int))=false:=decide_eq_false (by omega);have e2:decide (i≥2 ^ 63)=false:=decide_eq_false (by omega);rw [e1,e2,Bool.or_false]) (by rw [h1];simpa using h2) ⟨.str ⟨#[c]⟩,H,I.tok _,⟨_,rfl⟩,q⟩) hs
theorem gO_ (lo hi:Option Int) (n:Nat):(sliceBounds lo hi none n).1=((HT.sIx n 0 lo:Nat):Int)/\(sliceBounds lo hi none n).2.1=((HT.sIx n n hi:Nat):Int)/\(sliceBounds lo hi none n).2.2=1:=by
 refine ⟨?_,?_,rfl⟩
 ·cases lo with
  | none=>simp [sliceBounds,HT.sIx]
  | some i =>
   simp only [sliceBounds,HT.sIx,Option.getD_none,show (1:Int) > 0 by decide,if_true];by_cases h:i<0
   ·simp only [h,if_true] <;> omega
   simp only [h,if_false] <;> omega
 cases hi with
 | none=>simp [sliceBounds,HT.sIx]
 | some i =>
 simp only [sliceBounds,HT.sIx,Option.getD_none,show (1:Int) > 0 by decide,if_true];by_cases h:i<0
 ·simp only [h,if_true] <;> omega
 simp only [h,if_false] <;> omega
theorem fU_ (its:List Value) (lo hi:Option Int):slicePick its.toArray lo hi none=((its.drop (HT.sIx its.length 0 lo)).take (HT.sIx its.length its.length hi - HT.sIx its.length 0 lo)).toArray:=by
 obtain ⟨h1,h2,h3⟩:=gO_ lo hi its.toArray.size;unfold slicePick;rw [h1,h2,h3];simp only [sliceRange_one,pick_run,size_toArray] <;> rfl
def rSlL (K:Frag):V->Option Int->Option Int->Hp->VK->Prop:=fun x lo hi H Q=>∃ a xs,x = .ref a/\SqL K H a xs/\∀ p,H p=none->Q (.ref p) (upd H p (.lst (cutV xs lo hi)))
theorem fV_:SlR X (rSlL X.K):=by
 intro zz s σ H x v vl vu lo hi sl Q I rx hs pl pu h;refine x_22 h fun a xs zr2 hx q=>?_;subst zr2;cases rx;refine x_12 (I.list hx) fun its r ht hz=>?_;have zr:=r.length;refine ⟨"list",_,slot_list_getitem.lookup,ht.isList.typeIs,?_⟩;refine wpAny_getItem_list_slice ht.isList hs pl pu .none (by simp) ?_ (by rw [size_toArray] <;> omega)
 rw [fU_,<- zr];refine ⟨.ref s.heap.objs.size,_,I.laid (t':=s.toks) (o := .lst (cutV xs lo hi)) (fun b ob q=>get?_push_of_some _ q) (Nat.le_refl _) ?_,rfl,q _ (I.hok.fresh (Nat.le_refl _))⟩;exact ⟨Nat.le_trans (ic_ xs lo hi) hz,_,0,(r.drop (HT.sIx xs.length 0 lo)).take (HT.sIx xs.length xs.length hi - HT.sIx xs.length 0 lo),get?_push_size _ rfl⟩
def fe_:V->Bool
 | .non=>true
 | .bl _=>true
 | .int _=>true
 | .str _=>true
 | _=>false
noncomputable def eqV:V->V->Bool
 | .non,.non=>true
 | .bl a,.bl b=>a == b
 | .bl a,.int b=>(if a then 1 else 0) == b
 | .int a,.bl b=>a == (if b then 1 else 0)
 | .int a,.int b=>a == b
 | .str a,.str b=>a == b
 | _,_=>false
theorem p6_ {A:Around}{s:Shared}{y x:V}{u v:Value} (ry:RelV y u) (rx:RelV x v) (fy:fe_ y=true) (fx:fe_ x=true):SeqAt.EqAt A s u v (eqV y x):=by
 cases y with
 | non =>
  cases ry;cases x with
  | non=>cases rx;exact SeqAt.EqAt.same _
  | bl b=>cases rx;exact SeqAt.EqAt.none_bool b
  | int b=>obtain ⟨t,rfl⟩:=rx;exact SeqAt.EqAt.none_int b t
  | str b=>obtain ⟨t,rfl⟩:=rx;exact SeqAt.EqAt.none_str b t
  | _=>exact absurd (show false=true from fx) Bool.false_ne_true
 | bl a =>
  cases ry;cases x with
  | non=>cases rx;exact SeqAt.EqAt.bool_none a
  | bl b=>cases rx;exact SeqAt.EqAt.bool_bool a b
  | int b=>obtain ⟨t,rfl⟩:=rx;exact SeqAt.EqAt.bool_int a b t
  | str b=>obtain ⟨t,rfl⟩:=rx;exact SeqAt.EqAt.bool_str a b t
  | _=>exact absurd (show false=true from fx) Bool.false_ne_true
 | int a =>
  obtain ⟨t',rfl⟩:=ry;cases x with
  | non=>cases rx;exact SeqAt.EqAt.int_none a t'
  | bl b=>cases rx;exact SeqAt.EqAt.int_bool a t' b
  | int b=>obtain ⟨t,rfl⟩:=rx;exact SeqAt.EqAt.int_int a t' b t
  | str b=>obtain ⟨t,rfl⟩:=rx;exact SeqAt.EqAt.int_str a t' b t
  | _=>exact absurd (show false=true from fx) Bool.false_ne_true
 | str a =>
  obtain ⟨t',rfl⟩:=ry;cases x with
  | non=>cases rx;exact SeqAt.EqAt.str_none a t'
  | bl b=>cases rx;exact SeqAt.EqAt.str_bool a t' b
  | int b=>obtain ⟨t,rfl⟩:=rx;exact SeqAt.EqAt.str_int a t' b t
  | str b=>obtain ⟨t,rfl⟩:=rx;exact SeqAt.EqAt.str_str a t' b t
  | _=>exact absurd (show false=true from fx) Bool.false_ne_true
 | _=>exact absurd (show false=true from fy) Bool.false_ne_true
noncomputable def eqU (x:V) (u:Value):Bool:=match u with
 | .none=>eqV .non x
 | .bool b=>eqV (.bl b) x
 | .int i _=>eqV (.int i) x
 | .str z _=>eqV (.str z) x
 | _=>false
theorem nD_ {x y:V}{u:Value} (r:RelV y u) (f:fe_ y=true):eqU x u=eqV y x:=by
 cases y with
 | non=>cases r;rfl
 | bl b=>cases r;rfl
 | int i=>obtain ⟨t,rfl⟩:=r;rfl
 | str z=>obtain ⟨t,rfl⟩:=r;rfl
 | _=>exact absurd (show false=true from f) Bool.false_ne_true
theorem fa_ {x:V} : ∀ {xs:List V}{us:List Value},Vals xs us->xs.all fe_=true->us.any (eqU x)=xs.any fun y=>eqV y x
 | _,_,.nil,_=>rfl
 | y::xs,u::us,.cons r t,f=>by
  rw [all_cons,and_eq_true] at f;rw [any_cons,any_cons,nD_ r f.1,fa_ t f.2]
theorem dp_ {A:Around}{s:Shared}{x:V}{v:Value} (rx:RelV x v) (fx:fe_ x=true) : ∀ {xs:List V}{us:List Value},Vals xs us->xs.all fe_=true->∀ u∈us,SeqAt.EqAt A s u v (eqU x u)
 | _,_,.nil,_=>fun u hu=>by cases hu
 | y::xs,u::us,.cons r t,f=>fun u' hu=>by
  rw [all_cons,and_eq_true] at f;rcases mem_cons.mp hu with rfl | hu
  ·rw [nD_ r f.1];exact p6_ r rx f.1 fx
  exact dp_ rx fx t f.2 u' hu
noncomputable def inV (x:V) (xs:List V):Bool:=xs.any fun y=>eqV y x
def rIn (K:Frag) (neg:Bool):R2:=fun x y H Q=>∃ p xs,y = .ref p/\(SqL K H p xs\/SqT K H p xs)/\fe_ x=true/\xs.all fe_=true/\Q (.bl (if neg then !inV x xs else inV x xs)) H
theorem bm_:OpR X (compareOp .In) (rIn X.K false):=by
 intro zz s σ H x y v u Q I rx ry h;refine x_24 h fun p xs zr2 hq fx fs q=>?_;subst zr2;cases ry;rcases hq with hq | hq
 ·refine x_12 (I.list hq) fun its r pl hz=>?_
  refine SeqAt.in_listAt (eqU x) pl.isList (fun w hw=>dp_ rx fx r fs w (by simpa using hw)) ⟨.bl _,H,I,rfl,?_⟩;rw [show its.toArray.any (eqU x)=its.any (eqU x) by simp,fa_ r fs];exact q
 refine x_12 (I.tuple hq) fun its r pl hz=>?_;refine SeqAt.in_tupleAt (eqU x) pl (fun w hw=>dp_ rx fx r fs w (by simpa using hw)) ⟨.bl _,H,I,rfl,?_⟩;rw [show its.toArray.any (eqU x)=its.any (eqU x) by simp,fa_ r fs];exact q
theorem cr_:OpR X (compareOp .NotIn) (rIn X.K true):=by
 intro zz s σ H x y v u Q I rx ry h;refine x_24 h fun p xs zr2 hq fx fs q=>?_;subst zr2;cases ry;rcases hq with hq | hq
 ·refine x_12 (I.list hq) fun its r pl hz=>?_
  refine SeqAt.notIn_listAt (eqU x) pl.isList (fun w hw=>dp_ rx fx r fs w (by simpa using hw)) ⟨.bl _,H,I,rfl,?_⟩;rw [show its.toArray.any (eqU x)=its.any (eqU x) by simp,fa_ r fs];exact q
 refine x_12 (I.tuple hq) fun its r pl hz=>?_;refine SeqAt.notIn_tupleAt (eqU x) pl (fun w hw=>dp_ rx fx r fs w (by simpa using hw)) ⟨.bl _,H,I,rfl,?_⟩;rw [show its.toArray.any (eqU x)=its.any (eqU x) by simp,fa_ r fs];exact q
theorem aD_:ec_ X (.builtin "len") (fun xs H Q=>∃ p ys,xs=[.ref p]/\(SqL X.K H p ys\/SqT X.K H p ys)/\Q (.int ys.length) H):=by
 intro zz s σ H xs us Q I r h;refine x_22 h fun p ys zr2 hq q=>?_;subst zr2;obtain ⟨u,rfl,rx⟩:=gA_ r;cases rx;have hn:=dq_;rcases hq with hq | hq
 ·refine x_12 (I.list hq) fun its r' pl hz=>?_
  have zr:=r'.length;exact Calls.call_len_list pl.isList (by simp only [size_toArray] <;> omega) ⟨.int ys.length,H,I.tok _,⟨s.toks+1,by rw [size_toArray,zr]⟩,q⟩
 refine x_12 (I.tuple hq) fun its r' pl hz=>?_;have zr:=r'.length;exact len_tuple pl (by simp only [size_toArray] <;> omega) ⟨.int ys.length,H,I.tok _,⟨s.toks+1,by rw [size_toArray,zr]⟩,q⟩
theorem a0_:ec_ X (.builtin "len") (fun xs H Q=>∃ z,xs=[.str z]/\z.length<=sizeLine/\Q (.int z.length) H):=by
 intro zz s σ H xs us Q I r h;refine x_12 h fun z zr1 hz q=>?_;subst zr1;refine x_11 (gA_ r) fun u zr1 zz0=>?_;refine x_10 zz0 fun t zr3=>?_;subst zr1;subst zr3;have hn:=dq_;exact len_str (by omega) ⟨.int z.length,H,I.tok _,⟨_,rfl⟩,q⟩
theorem gm_:ec_ X (.type "tuple") (fun xs H Q=>∃ p ys,xs=[.ref p]/\((SqL X.K H p ys/\∀ l,H l=none->Q (.ref l) (upd H l (.tup ys)))\/(SqT X.K H p ys/\Q (.ref p) H))):=by
 intro zz s σ H xs us Q I r h;obtain ⟨p,ys,rfl,h⟩:=h;obtain ⟨u,rfl,rx⟩:=gA_ r;cases rx;rcases h with ⟨hq,q⟩ | ⟨hq,q⟩
 ·obtain ⟨its,r',pl,hz⟩:=I.list hq
  have zr:=r'.length;refine call_tuple_list pl.isList (fun h' kp=>?_) (by simp only [size_toArray] <;> omega)
  have I1:Inv X zz σ H { s with heap:=h' }:=I.kept (t':=s.toks) kp;have I2:Inv X zz σ (upd H h'.objs.size (.tup ys)) { s with heap:=h'.push { cls := .type "tuple",data := .seq its.toArray } } :=
   I1.laid (t':=s.toks) (fun b o e=>get?_push_of_some _ e) (Nat.le_refl _) (show aT_ X.prog X.w _ _ _ (.tup ys) from ⟨hz,its,r',IsTup.new _ _⟩)
  exact ⟨.ref h'.objs.size,_,I2,rfl,q _ (I1.hok.fresh (Nat.le_refl _))⟩
 obtain ⟨its,r',pl,hz⟩:=I.tuple hq;exact call_tuple_same pl ⟨.ref p,H,I,rfl,q⟩
def tyV (K:Frag) (T:String) (x:V) (H:Hp):Prop:=match x with
 | .str _=>T="str"
 | .int _=>T="int"
 | .ref p=>(T="list"/\∃ xs,SqL K H p xs)\/(T="tuple"/\∃ o,K.lookup p=some o/\o.cls = .type "tuple"/\o.dict=none) \/
   (T="dict"/\((∃ zw,H p=some (.dK zw))\/∃ zw,H p=some (.dT zw)))\/(T="set"/\∃ S n,H p=some (.set S n))
 | _=>False
theorem m7_ {zz:zP}{σ:St}{H:Hp}{s:Shared}{T:String}{x:V}{v:Value} (I:Inv X zz σ H s) (r:RelV x v) (ty:tyV X.K T x H) :
  s.TypeIs v T/\∀ a,v = .ref a->∃ ob,s.heap.get? a=some ob/\ob.dict=none:=by
 cases x with
 | str z =>
  obtain ⟨t,rfl⟩:=r;cases (show T="str" from ty);exact ⟨typeIs_str s z t,fun _ e=>nomatch e⟩
 | int i =>
  obtain ⟨t,rfl⟩:=r;cases (show T="int" from ty);exact ⟨typeIs_int s i t,fun _ e=>nomatch e⟩
 | ref p =>
  cases r;rcases ty with ⟨rfl,xs,hq⟩ | ⟨rfl,o,hk,hc,hd⟩ | ⟨rfl,hk⟩ | ⟨rfl,S,n,hk⟩
  ·refine x_12 (I.list hq) fun its _ pl _=>?_
   refine ⟨pl.isList.typeIs,fun a e=>?_⟩;cases e;refine x_23 pl fun o n e c hd _=>?_;exact ⟨o,e,hd⟩
  ·refine ⟨⟨o,I.kIn p o hk,hc⟩,fun a e=>?_⟩
   cases e;exact ⟨o,I.kIn _ o hk,hd⟩
  ·have z : ∃ o,s.heap.get? p=some o/\o.ExactDict:=by
    rcases hk with ⟨zw,hk⟩ | ⟨zw,hk⟩
    ·obtain ⟨_,_,_,_,o,_,_,e,ex,_⟩:=I.hok p _ hk
     exact ⟨o,e,ex⟩
    obtain ⟨_,_,_,_,o,_,_,e,ex,_⟩:=I.hok p _ hk;exact ⟨o,e,ex⟩
   obtain ⟨o,e,ex⟩:=z;refine ⟨⟨o,e,ex.1⟩,fun a e2=>?_⟩;cases e2;exact ⟨o,e,ex.2.1⟩
  refine x_40 (I.hok p _ hk) fun o _ _ _ zy=>x_02 zy fun e ex _=>?_;refine ⟨⟨o,e,ex.1⟩,fun a e2=>?_⟩;cases e2;exact ⟨o,e,ex.2.1⟩
 | _=>exact False.elim ty
def tBM0 (K:Frag) (T:String) (r:V->List V->Hp->VK->Prop) (to:TE):TE:=fun σ H Q=>to σ H fun x H1=>tyV K T x H1/\r x [] H1 Q
def tBM (K:Frag) (T:String) (r:V->List V->Hp->VK->Prop) (to:TE) (t:TA):TE:=fun σ H Q=>to σ H fun x H1=>tyV K T x H1/\t σ H1 fun xs H2=>r x xs H2 Q
variable {o e:Expr}{es:List Expr}{to:TE}{t:TA}{name:Str}{zt zn:Pos}{T id:String}{r:V->List V->Hp->VK->Prop}
theorem gY_ (pa:PlainAttrs T) (slot:Slot T name id) (hty:typeOf (.builtin id)=pure (.type "method_descriptor")) (hm:MtR X id r) (ho:PE X o to)
  (zj:attributeBase o name X.env (eval o X.env)=eval o X.env:=by rfl) (zl:(zt.endLine == zn.line)=true:=by rfl):PE X (.Call (.Attribute o name zt) [] [] zn) (tBM0 X.K T r to):=by
 intro zz s σ H Q I h;refine wpAny_Call_method0_late zj zl (thn (ho zz s σ H _ I h) fun v s1 zq=>?_);refine x_23 zq fun x H1 I1 r1 ty q1=>?_;obtain ⟨h1,h2⟩:=m7_ I1 r1 ty;exact ⟨T,id,pa,slot,hty,h1,h2,Calls.callWith_builtin rfl (PySem.evalArgs_none (hm zz s1 σ H1 x [] v [] Q I1 r1 .nil q1))⟩
theorem bL_ (pa:PlainAttrs T) (slot:Slot T name id) (hty:typeOf (.builtin id)=pure (.type "method_descriptor")) (hm:MtR X id r) (ho:PE X o to) (ha:PA X (e::es) t)
  (zj:attributeBase o name X.env (eval o X.env)=eval o X.env:=by rfl)
  (hfew:((backTo zn (starEach (e::es) X.env)).all (fun x => !x.1) && (backToKw zn (keywordEach [] X.env)).all (fun x=>x.1.isSome)
   && decide ((e::es).length+([]:List Keyword).length+(if ([]:List Keyword).isEmpty then 0 else 1)<30))=true:=by rfl)
  (zl:(zt.endLine == zn.line)=true:=by rfl) (hs:starEach (e::es) X.env=(false,eval e X.env)::starEach es X.env:=by rfl) (hplain:(backTo zn (starEach es X.env)).any (·.1)=false:=by rfl) :
  PE X (.Call (.Attribute o name zt) (e::es) [] zn) (tBM X.K T r to t):=by
 intro zz s σ H Q I h;refine wpAny_Call_method_late zj hfew zl rfl (thn (ho zz s σ H _ I h) fun v s1 zq=>?_);refine x_23 zq fun x H1 I1 r1 ty q1=>?_;obtain ⟨h1,h2⟩:=m7_ I1 r1 ty;refine ⟨T,id,pa,slot,hty,h1,h2,?_⟩;have hA:=ha zn zz s1 σ H1 _ I1 q1;rw [hs] at hA ⊢;refine Calls.callWith_builtin (by show (false || (backTo zn (starEach es X.env)).any (·.1))=false;rw [hplain] <;> rfl) (Calls.evalArgs_plain ?_)
 exact thn hA fun us s2 ⟨vs,H2,I2,r2,q2⟩=>hm zz s2 σ H2 x vs v us Q I2 r1 r2 q2
end
def MtM (X:Cx) (id:String) (r:V->List V->Hp->VK->Prop):Prop :=
 ∀ (zz:zP) (s:Shared) (σ:St) (H:Hp) (x:V) (xs:List V) (v:Value) (us:List Value) (Q:VK),Inv X zz σ H s->RelV x v->Vals xs us->r x xs H Q ->
  wpAny (model X.prog X.w) X.A (call (.builtin id) (v::us)) (EP X zz σ Q) X.xe s
theorem Vals.one {x:V}{us:List Value} (h:Vals [x] us) : ∃ u,us=[u]/\RelV x u:=by
 cases h with
 | cons r t=>cases t;exact ⟨_,rfl,r⟩
theorem Vals.zero : ∀ {us:List Value},Vals [] us->us=[]
 | _,.nil=>rfl
theorem Vals.dropLast {xs:List V}{us:List Value} (h:Vals xs us):Vals xs.dropLast us.dropLast:=by
 induction h with
 | nil=>exact .nil
 | cons r t ih =>
 cases t with
 | nil=>exact .nil
 | cons q t'=>exact .cons r ih
theorem jN_ {α:Type} (l:List α):l.eraseIdx (l.length - 1)=l.dropLast:=by
 induction l with
 | nil=>rfl
 | cons a r ih =>
 cases r with
 | nil=>rfl
 | cons b r =>
 have e:(a::b::r).length - 1=((b::r).length - 1)+1:=by
  have h1:(a::b::r).length=r.length+2:=rfl;have h2:(b::r).length=r.length+1:=rfl;omega
 rw [e,List.eraseIdx_cons_succ,ih]
 all_goals rfl
variable {zz:zP}{σ:St}{H:Hp}{s:Shared}{l:Addr}
section
variable {xs ys:List V}
theorem Inv.lset {its its':List Value}{n:Nat}{f:Array Value->Array Value}{t':Nat} (I:Inv X zz σ H s) (hH:H l=some (.lst xs))
  (e:s.heap.get? l=some { cls := .type "list",data := .seq its.toArray n }) (hf:f its.toArray=its'.toArray) (hv:Vals ys its') (hz:ys.length<=sizeLine) :
  Inv X zz σ (upd H l (.lst ys)) { s with heap:=s.heap.update l (Obj.mapSeq f),toks:=t' }:=by
 have q:=PySem.IsL.update e f;rw [hf] at q;refine I.write (x:=l) (e:=l) (by rw [hH];exact trivial) (.inl rfl) (fun b' u hb hu=>(get?_update_other s.heap (Obj.mapSeq f) (Ne.symm hb)).trans hu) ⟨_,q⟩ ?_;exact ⟨hz,its',_,hv,q⟩
theorem Inv.lnew {its:List Value}{t':Nat} (I:Inv X zz σ H s) (hv:Vals ys its) (hz:ys.length<=sizeLine) :
  Inv X zz σ (upd H s.heap.objs.size (.lst ys)) { s with heap:=s.heap.push { cls := .type "list",data := .seq its.toArray },toks:=t' } :=
 I.laid (fun _ _ q=>get?_push_of_some _ q) (Nat.le_refl _) ⟨hz,its,0,hv,get?_push_size _ rfl⟩
theorem Inv.fresh (I:Inv X zz σ H s):H s.heap.objs.size=none:=I.hok.fresh (Nat.le_refl _)
theorem Inv.lstM (I:Inv X zz σ H s) (hH:H l=some (.lst xs)):xs.length<=sizeLine/\∃ (its:List Value) (n:Nat),Vals xs its/\xs.length=its.length/\s.heap.get? l=some { cls := .type "list",data := .seq its.toArray n }:=by
 refine x_01 (I.hok l _ hH) fun z zz0=>?_;refine x_21 zz0 fun its n r e=>?_;exact ⟨z,its,n,r,r.length,e⟩
end
def aY_:V->List V->Hp->VK->Prop:=fun x vs H Q=>∃ l xs y,x = .ref l/\vs=[y]/\H l=some (.lst xs)/\xs.length<sizeLine/\Q .non (upd H l (.lst (xs++[y])))
theorem ax_:MtM X "list.append" aY_:=by
 intro zz s σ H x vs v us Q I rx rv h;refine x_34 h fun l xs y zr3 zr4 hH hz q=>?_;subst zr3;subst zr4;cases rx;obtain ⟨u,rfl,ru⟩:=rv.one;refine x_01 (I.lstM hH) fun z zz0=>?_;refine x_22 zz0 fun its n r hl e=>?_;refine call_meets F.slot_list_append ⟨_,e,rfl⟩ F.entry_list_append (F.args_list_append_2 _ _) (PySem.list_append l its.toArray n u (by rw [size_toArray];omega)) ⟨e,?_⟩;refine ⟨.non,_,I.lset (its':=its++[u]) hH e (by simp) (r.append (.cons ru .nil)) ?_,rfl,q⟩;rw [length_append,length_singleton];omega
def rPop:V->List V->Hp->VK->Prop:=fun x vs H Q=>∃ l xs y,x = .ref l/\vs=[]/\H l=some (.lst xs)/\xs[xs.length - 1]? = some y/\Q y (upd H l (.lst xs.dropLast))
theorem g3_:MtM X "list.pop" rPop:=by
 intro zz s σ H x vs v us Q I rx rv h;refine x_34 h fun l xs y zr3 zr4 hH hy q=>?_;subst zr3;subst zr4;cases rx;have hus:=rv.zero;subst hus;refine x_01 (I.lstM hH) fun z zz0=>?_;refine x_22 zz0 fun its n r hl e=>?_;obtain ⟨u,hu,ru⟩:=r.get hy;have hy':its.toArray[its.toArray.size - 1]? = some u:=by
  show its.toArray[its.length - 1]? = some u;rw [<- Array.getElem?_toList,<- hl];exact hu
 refine call_meets F.slot_list_pop ⟨_,e,rfl⟩ F.entry_list_pop (F.args_list_pop_1 _) (MeetsSeq.list_pop_last l its.toArray n u hy' (by rw [size_toArray];omega)) ⟨e,?_⟩;refine ⟨y,_,I.lset (its':=its.dropLast) hH e ?_ r.dropLast ?_,ru,q⟩
 ·show its.toArray.eraseIdxIfInBounds (its.toArray.size - 1)=its.dropLast.toArray
  rw [size_toArray,List.eraseIdxIfInBounds_toArray,jN_]
 rw [List.length_dropLast];omega
def rCat:R2:=fun x y H Q=>∃ l b xs zs,x = .ref l/\y = .ref b/\H l=some (.lst xs)/\H b=some (.lst zs)/\xs.length+zs.length<=sizeLine/\∀ p,H p=none->Q (.ref p) (upd H p (.lst (xs++zs)))
theorem pK_:OpR X (binaryOp .Add) rCat:=by
 intro zz s σ H x y v u Q I rx ry h;refine x_40 h fun l b xs zs zy=>x_05 zy fun zr4 zr5 hH hB hz q=>?_;subst zr4;subst zr5;cases rx;cases ry;refine x_01 (I.lstM hH) fun z zz0=>?_;refine x_22 zz0 fun its n r hl e=>?_;refine x_01 (I.lstM hB) fun z2 zz0=>?_;refine x_22 zz0 fun zp n2 r2 hl2 e2=>?_;refine PySem.P.add_list e e2 ?_ (by rw [size_toArray,size_toArray];omega);have ea:its.toArray++zp.toArray=(its++zp).toArray:=by simp
 rw [ea];exact ⟨.ref _,_,I.lnew (t':=s.toks) (r.append r2) (by rw [length_append];omega),rfl,q _ I.fresh⟩
theorem Vals.ints : ∀ {ns:List Int}{us:List Value},Vals (ns.map V.int) us->IntsAre us ns
 | [],us,h=>by
  rw [map_nil] at h;cases h;exact IntsAre.nil
 | n::ns,us,h=>by
  rw [map_cons] at h;cases h with
  | cons r t =>
  obtain ⟨k,rfl⟩:=r;exact IntsAre.cons n k (Vals.ints t)
theorem Vals.bls : ∀ {bs:List Bool}{us:List Value},Vals (bs.map V.bl) us->us=bs.map Value.bool
 | [],us,h=>by
  rw [map_nil] at h;cases h;rfl
 | b::bs,us,h=>by
  rw [map_cons] at h;cases h with
  | cons r t =>
  cases r;rw [Vals.bls t,map_cons]
theorem Vals.ref1 {a:Addr}{us:List Value} (r:Vals [V.ref a] us):us=[Value.ref a]:=by
 cases r with
 | cons r t =>
 cases t;cases r;rfl
variable {w:World}{A:Around}{E:zQ}
section
variable {prog:Program}{its:List Value}{ns:List Int}{Q:zQ}
theorem oz_ (hh:A.handled=none) (hl:s.heap.IsList l its.toArray) (hi:IntsAre its ns) (hne:0<ns.length)
  (h : ∀ h' tk M t',(∀ b o,s.heap.get? b=some o->h'.get? b=some o)->M∈ns->(∀ a,a∈ns->a<=M)->Q (.int M t') { s with heap:=h',toks:=tk }):wpAny (model prog w) A (call (.builtin "max") [.ref l]) Q E s:=by
 obtain ⟨xs,e⟩:=hi.allInts.items;have hn:numsOf (intItems xs).toList=ns:=by rw [<- e];exact hi.numsOf
 rw [nums_intItems] at hn;subst hn;rw [e] at hl;have hsz:0<xs.size:=by simpa using hne
 refine PySem.max_intList hh hl hsz fun v h' tk hv hk=>?_;obtain ⟨t,rfl⟩:=intItems_at hv;obtain ⟨h1,h2⟩:=argBest_gt (numAt xs) (xs.size - 1);refine h h' tk _ t hk ?_ fun a ha=>?_
 ·rw [numAt_eq];exact PySem.getD_mem (by rw [length_map,Array.length_toList];omega)
 obtain ⟨j,hj,rfl⟩:=mem_getD ha;rw [length_map,Array.length_toList] at hj;rw [<- numAt_eq];exact h2 j (by omega)
end
def rSum (K:Frag):List V->Hp->VK->Prop:=fun vs H Q=>∃ (a:Addr) (ns:List Int),vs=[V.ref a]/\SqL K H a (ns.map V.int)/\Q (.int ns.sum) H
def rMax (K:Frag):List V->Hp->VK->Prop:=fun vs H Q=>∃ (a:Addr) (ns:List Int),vs=[V.ref a]/\SqL K H a (ns.map V.int)/\0<ns.length/\∀ m,m∈ns->(∀ y,y∈ns->y<=m)->Q (.int m) H
theorem qe_ (hc:X.calm=true):ec_ X (.builtin "max") (rMax X.K):=by
 intro zz s σ H vs us Q I r h;refine x_23 h fun a ns zr2 hs hne q=>?_;subst zr2;refine x_12 (I.list hs) fun its rv hl _=>?_;rw [Vals.ref1 r];exact oz_ (I.ok.hd hc) hl.isList rv.ints hne fun h' tk m t' hk h1 h2=>⟨.int _,H,I.kept hk,⟨_,rfl⟩,q m h1 h2⟩
theorem mD_ {prog:Program}{w:World}{A:Around}{E:zQ}{s:Shared}{l:Addr}{items:Array Value}{Q:zQ} (hl:s.heap.IsList l items)
  (h : ∀ s₂:Shared,s₂={ s with heap:=s.heap.push { cls := .type "list_iterator",data := .fields #[.ref l,.int 0 0] } } ->
   (s₂.heap.IsListIter s.heap.objs.size l 0/\s₂.heap.IsList l items)->l≠s.heap.objs.size->Q (.ref s.heap.objs.size) s₂):wpAny (model prog w) A (pyIter (.ref l)) Q E s:=by
 have hlt:l<s.heap.objs.size:=by obtain ⟨_,e,_⟩:=hl;exact lt_size e
 exact wpAny_pyIter_list hl (h _ rfl ⟨⟨_,get?_push_size _ rfl,rfl,rfl⟩,hl.push _⟩ (Nat.ne_of_lt hlt))
theorem hw_ {prog:Program}{w:World}{A:Around}{bs:List Bool}{its:List Value} (e:its=bs.map Value.bool) :
  TruthOf prog w A (fun i v=>its.toArray[i]? = some v) (fun i=>bs.getD i false):=fun i v s Q E hv hq=>by
 have hv':its[i]? = some v:=by simpa using hv
 rw [e,getElem?_map] at hv';obtain ⟨b,hb,rfl⟩:=Option.map_eq_some_iff.mp hv';have hg:bs.getD i false=b:=by rw [List.getD_eq_getElem?_getD,hb] <;> rfl
 have hq':Q (bs.getD i false) s:=hq;rw [hg] at hq';exact wpAny_truthy_bool hq'
theorem ht_ : ∀ bs:List Bool,(List.range bs.length).all (fun i=>bs.getD i false)=bs.all id
 | []=>rfl
 | b::bs=>by
  rw [length_cons,List.range_succ_eq_map,all_cons,all_map,all_cons,<- ht_ bs]
  all_goals rfl
def rAll (K:Frag):List V->Hp->VK->Prop:=fun vs H Q=>∃ (a:Addr) (bs:List Bool),vs=[V.ref a]/\SqL K H a (bs.map V.bl)/\Q (.bl (bs.all id)) H
theorem nJ_ (hc:X.calm=true):ec_ X (.builtin "all") (rAll X.K):=by
 intro zz s σ H vs us Q I r h;refine x_22 h fun a bs zr2 hs q=>?_;subst zr2;refine x_12 (I.list hs) fun its rv hl _=>?_;rw [Vals.ref1 r];have hb:=rv.bls;refine call_all_walk (mD_ hl.isList fun s₂ e2 st hne=>?_);subst e2;refine ⟨_,_,_,_,_,_,_,rfl,Walks.list (A:=X.A.in1) (I.ok.hd hc) _ a hne its.toArray,st,hw_ hb,fun h' tk hk=>?_⟩;refine ⟨.bl _,H,I.kept fun b o eo=>hk b o (fun hmem=>?_) (get?_push_of_some _ eo),?_,q⟩
 ·rcases mem_cons.mp hmem with e1 | hmem
  ·exact absurd (e1 ▸ lt_size eo) (Nat.lt_irrefl _)
  cases hmem
 show Value.bool _=Value.bool _;rw [<- ht_,hb,size_toArray,length_map]
abbrev nM_ (h:Heap) (c:Addr) (v:Option Value):Prop:=h.IsCell c v
def relS (scope sc:Scope):Scope :=
 { scope with names:=scope.names.map fun (n,k)=>if (k == .free && sc.kind == .function && sc.names.lookup n == some .cell) then (n,.cell) else (n,k) }
def aS_ (cells:List (Str×Addr)):List (Str×NameKind)->List (Str×Addr)->List (Str×Addr)
 | [],zx=>zx
 | (n,k)::r,zx=>if k == .free then aS_ cells r ((n,(cells.lookup n).getD 0)::zx) else aS_ cells r zx
theorem d3_ (env:Env) (f:Str×NameKind->List (Str×Addr)->Sem (ForInStep (List (Str×Addr))))
  (hf : ∀ n k c,f (n,k) c=if k == .free then (do let a <- cellOf env n;pure (.yield ((n,a)::c))) else pure (.yield c)) :
  ∀ (names:List (Str×NameKind)) (zx:List (Str×Addr)),(∀ y∈names,y.2 = .free->∃ c,env.cells.lookup y.1=some c)->forIn names zx f=pure (aS_ env.cells names zx)
 | [],zx,_=>by rw [List.forIn_nil];rfl
 | (n,k)::r,zx,h=>by
  rw [List.forIn_cons,hf];have ih:=fun zx=>d3_ env f hf r zx fun y hy=>h y (mem_cons_of_mem _ hy);unfold aS_;by_cases hk:(k == NameKind.free)=true
  ·rw [if_pos hk,if_pos hk]
   obtain ⟨c,hc⟩:=h (n,k) mem_cons_self (by simpa using hk);have e:cellOf env n=pure c:=by unfold cellOf;rw [hc]
   rw [e];have e2:(env.cells.lookup n).getD 0=c:=by rw [hc];rfl
   rw [e2];exact ih _
  rw [if_neg hk,if_neg hk];exact ih _
theorem jT_ {scope:Scope}{env:Env} (h : ∀ y∈scope.names,y.2 = .free->∃ c,env.cells.lookup y.1=some c):closureFor scope env=pure (aS_ env.cells scope.names []):=by
 simp only [closureFor];rw [d3_ env _ (fun n k c=>rfl) scope.names [] h];rfl
theorem dM_ {α:Type} : ∀ {l:List (Str×α)}{n:Str}{c:α},(n,c)∈l->∃ c',l.lookup n=some c'
 | (k,v)::r,n,c,h=>by
  rw [lookup_cons];cases hb:n == k with
  | true=>exact ⟨_,rfl⟩
  | false =>
  rcases mem_cons.mp h with e | h
  ·cases e;simp at hb
  exact dM_ h
theorem cf_ {cells:List (Str×Addr)} : ∀ {names:List (Str×NameKind)}{zx:List (Str×Addr)}{n:Str}{c:Addr},(n,c)∈aS_ cells names zx->(n,c)∈zx\/((n,.free)∈names/\c=(cells.lookup n).getD 0)
 | [],_,_,_,h => .inl h
 | (m,k)::r,zx,n,c,h=>by
  unfold aS_ at h;split at h
  ·rename_i hk
   have hk:k = .free:=by simpa using hk
   rcases cf_ h with h | ⟨h1,h2⟩
   ·rcases mem_cons.mp h with e | h
    ·cases e;exact .inr ⟨hk ▸ mem_cons_self,rfl⟩
    exact .inl h
   exact .inr ⟨mem_cons_of_mem _ h1,h2⟩
  rcases cf_ h with h | ⟨h1,h2⟩
  ·exact .inl h
  exact .inr ⟨mem_cons_of_mem _ h1,h2⟩
theorem dc_ {cells:List (Str×Addr)} : ∀ {names:List (Str×NameKind)}{zx:List (Str×Addr)}{p:Str×Addr},p∈zx->p∈aS_ cells names zx
 | [],_,_,h=>h
 | (m,k)::r,zx,p,h=>by
  unfold aS_;split
  ·exact dc_ (mem_cons_of_mem _ h)
  exact dc_ h
theorem db_ {cells:List (Str×Addr)} : ∀ {names:List (Str×NameKind)}{zx:List (Str×Addr)}{n:Str},(n,.free)∈names->(n,(cells.lookup n).getD 0)∈aS_ cells names zx
 | (m,k)::r,zx,n,h=>by
  unfold aS_;rcases mem_cons.mp h with e | h
  ·cases e
   exact dc_ mem_cons_self
  split
  ·exact db_ h
  exact db_ h
theorem cx_ : ∀ {names:List (Str×NameKind)}{h:Heap}{zx:List (Str×Addr)}{x:Str}{c:Addr},(x,c)∈cellsFrom h.objs.size names zx ->
  (x,c)∈zx\/((x,.cell)∈names/\h.objs.size<=c/\nM_ (pushCells h names) c none)
 | [],_,_,_,_,h => .inl h
 | (n,k)::r,h,zx,x,c,hm=>by
  unfold cellsFrom at hm;unfold pushCells;split at hm
  ·rename_i hk
   rw [if_pos hk];have hk:k = .cell:=by simpa using hk
   rw [<- size_push h { cls := .type "cell",data := .cell none }] at hm;rcases cx_ hm with hm | ⟨h1,h2,h3⟩
   ·rcases mem_cons.mp hm with e | hm
    ·cases e
     exact .inr ⟨hk ▸ mem_cons_self,Nat.le_refl _,_,pushCells_keeps r _ _ _ (get?_push_size _ rfl),rfl⟩
    exact .inl hm
   rw [size_push] at h2;exact .inr ⟨mem_cons_of_mem _ h1,le_of_succ_le h2,h3⟩
  rename_i hk;rw [if_neg hk];rcases cx_ hm with hm | ⟨h1,h2,h3⟩
  ·exact .inl hm
  exact .inr ⟨mem_cons_of_mem _ h1,h2,h3⟩
theorem dB_ : ∀ {names:List (Str×NameKind)}{n:Nat}{zx:List (Str×Addr)}{p:Str×Addr},p∈zx->p∈cellsFrom n names zx
 | [],_,_,_,h=>h
 | (m,k)::r,n,zx,p,h=>by
  unfold cellsFrom;split
  ·exact dB_ (mem_cons_of_mem _ h)
  exact dB_ h
theorem e5_ : ∀ {names:List (Str×NameKind)}{n:Nat}{zx:List (Str×Addr)}{x:Str},(x,.cell)∈names->∃ c,(x,c)∈cellsFrom n names zx
 | (m,k)::r,n,zx,x,h=>by
  unfold cellsFrom;rcases mem_cons.mp h with e | h
  ·cases e
   exact ⟨n,dB_ mem_cons_self⟩
  split
  ·exact e5_ h
  exact e5_ h
theorem e4_ : ∀ {names:List (Str×NameKind)}{h:Heap}{zx:List (Str×Addr)}{x y:Str}{c:Addr},(∀ p∈zx,p.2<h.objs.size)->(∀ x y c,(x,c)∈zx->(y,c)∈zx->x=y) ->
  (x,c)∈cellsFrom h.objs.size names zx->(y,c)∈cellsFrom h.objs.size names zx->x=y
 | [],_,_,_,_,_,_,hi,h1,h2=>hi _ _ _ h1 h2
 | (n,k)::r,h,zx,x,y,c,hl,hi,h1,h2=>by
  unfold cellsFrom at h1 h2;split at h1
  ·rename_i hk
   rw [if_pos hk] at h2;rw [<- size_push h { cls := .type "cell",data := .cell none }] at h1 h2;refine e4_ (h:=h.push _) (fun p hp=>?_) (fun x y c a b=>?_) h1 h2
   ·rw [size_push]
    rcases mem_cons.mp hp with rfl | hp
    ·exact lt_succ_self _
    exact Nat.lt_succ_of_lt (hl p hp)
   rcases mem_cons.mp a with e | a <;> rcases mem_cons.mp b with e' | b
   ·cases e;cases e';rfl
   ·cases e;exact absurd (hl _ b) (Nat.lt_irrefl _)
   ·cases e';exact absurd (hl _ a) (Nat.lt_irrefl _)
   exact hi _ _ _ a b
  rename_i hk;rw [if_neg hk] at h2;exact e4_ hl hi h1 h2
theorem hM_ {M:Model}{A:Around}{E:zQ}{s:Shared}{scope:Scope}{globals:Addr}{closure:List (Str×Addr)}{qual:Str}{func:Option Addr}{code:Value}{around:Env}{builtins:Addr}{Q:Env->Shared->Prop}
  (h:Q (newEnv scope s.heap.objs.size globals (cellsFrom (s.heap.objs.size+1) scope.names closure) qual func code (some around) builtins)
   { s with heap:=pushCells (s.heap.push { cls := .type "dict",data := .dict #[] }) scope.names }) :
  wpAny M A (newFunctionEnv scope globals closure [] qual func code (some around) builtins) Q E s:=by
 simp only [newFunctionEnv,Option.isSome_some,if_true];refine wpAny_bind (wpAny_alloc ?_);refine wpAny_bind (wpAny_layCells _ (fun n k c=>rfl) scope.names closure _ _ ?_);rw [show ({ s with heap:=s.heap.push { cls := .type "dict",data := .dict #[] } }:Shared).heap.objs.size=s.heap.objs.size+1 from size_push ..];rw [List.forIn_nil];exact wpAny_bind (wpAny_pure (wpAny_pure h))
theorem c4_ {sc:Scope} : ∀ {names:List (Str×NameKind)}{x:Str}{k:NameKind},
  (names.map fun (n,k)=>if (k == NameKind.free && sc.kind == .function && sc.names.lookup n == some .cell) then (n,NameKind.cell) else (n,k)).lookup x=some k ->
  ∃ k',names.lookup x=some k'/\(k=k'\/(k' = .free/\k = .cell))
 | [],_,_,h=>by simp at h
 | (n,k₀)::r,x,k,h=>by
  have ih := @c4_ sc r x k;have h':List.lookup x ((if (k₀ == NameKind.free && sc.kind == .function && sc.names.lookup n == some .cell)=true then (n,NameKind.cell) else (n,k₀))::(r.map _))=some k:=h;cases hx:x == n with
  | true =>
   simp only [lookup_cons,hx];by_cases hc:(k₀ == NameKind.free && sc.kind == .function && sc.names.lookup n == some .cell)=true
   ·rw [if_pos hc] at h'
    simp only [lookup_cons,hx] at h';cases h';simp only [and_eq_true,beq_iff_eq] at hc;exact ⟨k₀,rfl,.inr ⟨hc.1.1,rfl⟩⟩
   rw [if_neg hc] at h';simp only [lookup_cons,hx] at h';cases h';exact ⟨_,rfl,.inl rfl⟩
  | false =>
  simp only [lookup_cons,hx];by_cases hc:(k₀ == NameKind.free && sc.kind == .function && sc.names.lookup n == some .cell)=true
  ·rw [if_pos hc] at h'
   simp only [lookup_cons,hx] at h';exact ih h'
  rw [if_neg hc] at h';simp only [lookup_cons,hx] at h';exact ih h'
structure BlkOk (N:List Str) (sc scope:Scope) (own:List (Str×Nat)):Prop where
 kind:scope.kind = .function
 uniq : ∀ y∈scope.names,scope.names.lookup y.1=some y.2
 ix : ∀ p∈own,N[p.2]? = some p.1
 free : ∀ y∈scope.names,y.2 = .free->sc.names.lookup y.1=some .cell\/sc.names.lookup y.1=some .free
 own : ∀ y∈scope.names,y.2 = .local\/y.2 = .cell->y.1∈own.map (·.1)\/y.1∉N
def wipe (σ:St):List Nat->St
 | []=>σ
 | v::vs=>(wipe σ vs).set v none
theorem cY_ (σ:St) : ∀ vs:List Nat,(wipe σ vs).length=σ.length
 | []=>rfl
 | v::vs=>by unfold wipe;rw [List.length_set,cY_ σ vs]
theorem eu_ {σ:St}{i:Nat}{x:V} : ∀ {vs:List Nat},(wipe σ vs)[i]? = some (some x)->σ[i]? = some (some x)/\i∉vs
 | [],h=>⟨h,by simp⟩
 | v::vs,h=>by
  unfold wipe at h;by_cases hi:v=i
  ·subst hi
   by_cases hv:v<(wipe σ vs).length
   ·rw [List.getElem?_set_self hv] at h;cases h
   rw [List.getElem?_eq_none (by simpa using hv)] at h;cases h
  rw [List.getElem?_set_ne hi] at h;obtain ⟨h1,h2⟩:=eu_ h;exact ⟨h1,by simp only [mem_cons,not_or];exact ⟨fun e=>hi e.symm,h2⟩⟩
noncomputable abbrev Cx.blk (X:Cx) (s:Shared) (H:Hp) (scope:Scope) (zo:Env) (fp:List Addr):Cx:={ X with s_0:=s,H_0:=H,env:=zo,outer:=X.stack,ex:=fp,fn:=fun x=>scope.names.lookup x == some .cell,pn:=[],xe:=fun _ _=>False }
theorem ig_ {scope:Scope}{own:List (Str×Nat)}{fp:List Addr} (I:Inv X zz σ H s) (ok:BlkOk X.N X.env.scope scope own) (hN:X.N.Nodup) (hfp : ∀ b∈fp,FpOk X zz H b/\b<s.heap.objs.size) :
  Inv (X.blk s H scope (compEnvC scope (cellsFrom (s.heap.objs.size+1) scope.names (aS_ X.env.cells scope.names [])) s.heap.objs.size X.env) fp) [] (wipe σ (own.map (·.2))) H { s with heap:=pushCells (s.heap.push { cls := .type "dict",data := .dict #[] }) scope.names }:=by
 have hfree : ∀ y∈scope.names,y.2 = .free->∃ c,X.env.cells.lookup y.1=some c:=fun y hy e=>by
  rcases ok.free y hy e with k | k
  ·exact I.ok.has _ (.inl k)
  exact I.ok.has _ (.inr k)
 generalize hcenv:compEnvC scope (cellsFrom (s.heap.objs.size+1) scope.names (aS_ X.env.cells scope.names [])) s.heap.objs.size X.env=zo;have kp : ∀ b o,s.heap.get? b=some o->(pushCells (s.heap.push { cls := .type "dict",data := .dict #[] }) scope.names).get? b=some o:=fun b o e=>pushCells_keeps _ _ _ _ (get?_push_of_some _ e);have hL:zo.locals=s.heap.objs.size:=by rw [<- hcenv];rfl
 have hcl:zo.cells=cellsFrom (s.heap.objs.size+1) scope.names (aS_ X.env.cells scope.names []):=by rw [<- hcenv];rfl
 have hsc:zo.scope=relS scope X.env.scope:=by rw [<- hcenv];rfl
 rw [<- size_push s.heap { cls := .type "dict",data := .dict #[] }] at hcl;have cm : ∀ {y c},(y,c)∈aS_ X.env.cells scope.names []->X.env.cells.lookup y=some c/\c<s.heap.objs.size:=fun {y c} hm=>by
  rcases cf_ hm with hm | ⟨h1,rfl⟩
  ·cases hm
  obtain ⟨c,hc⟩:=hfree _ h1 rfl;rw [hc];obtain ⟨w,z⟩:=I.cell _ _ hc;exact ⟨rfl,z.lt⟩
 have mem : ∀ {y c},zo.cells.lookup y=some c->(X.env.cells.lookup y=some c/\c<s.heap.objs.size)\/(s.heap.objs.size+1<=c/\nM_ (pushCells (s.heap.push { cls := .type "dict",data := .dict #[] }) scope.names) c none):=fun {y c} e=>by
  rw [hcl] at e;rcases cx_ (PySem.mem_of_lookup e) with hm | ⟨_,h2,h3⟩
  ·exact .inl (cm hm)
  rw [size_push] at h2;exact .inr ⟨h2,h3⟩
 have look : ∀ {y},scope.names.lookup y=some .free->∃ c,zo.cells.lookup y=some c/\X.env.cells.lookup y=some c:=fun {y} hl=>by
  have hy:(y,NameKind.free)∈scope.names:=PySem.mem_of_lookup hl;obtain ⟨c',e'⟩:=dM_ (dB_ (names:=scope.names) (n:=(s.heap.push { cls := .type "dict",data := .dict #[] }).objs.size) (db_ (cells:=X.env.cells) (zx:=[]) hy));rw [<- hcl] at e';refine ⟨c',e',?_⟩;rw [hcl] at e';rcases cx_ (PySem.mem_of_lookup e') with hm | ⟨h1,_,_⟩
  ·exact (cm hm).1
  have:=ok.uniq _ h1;rw [hl] at this;cases this
 have okB:(X.blk s H scope zo fp).Ok:=by
  refine ⟨I.ok.mod,by show zo.scope.kind=_;rw [hsc];exact ok.kind,by show zo.globals=_;rw [<- hcenv];exact I.ok.glob,by show zo.builtins=_;rw [<- hcenv];exact I.ok.blt,by show s.heap.objs.size<=zo.locals;rw [hL];exact Nat.le_refl _,
   fun y z c e1 e2=>?_,fun y hy=>?_,fun y c z e=>?_,I.ok.hd,I.ok.frames,.inl rfl,fun b hb=>⟨?_,fun y c e z=>?_⟩,I.bs,Nat.le_trans I.ok.bsz I.sz,fun b o e hb=>?_,fun b hb z=>?_,I.stack,I.stkFree⟩
  ·have e1:zo.cells.lookup y=some c:=e1
   have e2:zo.cells.lookup z=some c:=e2;rw [hcl] at e1 e2;refine e4_ (fun p hp=>?_) (fun y z c a b=>I.ok.inj y z c (cm a).1 (cm b).1) (PySem.mem_of_lookup e1) (PySem.mem_of_lookup e2);rw [size_push];exact Nat.lt_succ_of_lt (cm (y:=p.1) (c:=p.2) hp).2
  ·show ∃ c,zo.cells.lookup y=some c
   have key : ∀ k,zo.kindOf y=some k->(k = .cell\/k = .free)->∃ c,zo.cells.lookup y=some c:=fun k hk hk'=>by
    unfold Env.kindOf at hk;rw [hsc] at hk;obtain ⟨k',e,r⟩:=c4_ hk;have:k' = .cell\/k' = .free:=by
     rcases r with rfl | ⟨rfl,_⟩
     ·exact hk'
     exact .inr rfl
    rcases this with rfl | rfl
    ·obtain ⟨c,hm⟩:=e5_ (n:=(s.heap.push { cls := .type "dict",data := .dict #[] }).objs.size) (zx:=aS_ X.env.cells scope.names []) (PySem.mem_of_lookup e)
     obtain ⟨c',e'⟩:=dM_ hm;exact ⟨c',by rw [hcl];exact e'⟩
    obtain ⟨c,h1,_⟩:=look e;exact ⟨c,h1⟩
   rcases hy with hy | hy
   ·exact key _ hy (.inl rfl)
   exact key _ hy (.inr rfl)
  ·have z:(scope.names.lookup y == some NameKind.cell)=true:=z
   have z:scope.names.lookup y=some .cell:=by simpa using z
   have e:zo.cells.lookup y=some c:=e;rw [hcl] at e;rcases cx_ (PySem.mem_of_lookup e) with hm | ⟨_,h2,_⟩
   ·rcases cf_ hm with hm | ⟨h1,_⟩
    ·cases hm
    have q:=ok.uniq _ h1;rw [z] at q;cases q
   rw [size_push] at h2;exact le_of_succ_le h2
  ·show b≠zo.locals
   rw [hL];exact Nat.ne_of_lt (hfp b hb).2
  ·have e:zo.cells.lookup y=some c:=e
   rcases mem e with ⟨h1,_⟩ | ⟨h1,_⟩
   ·exact (hfp b hb).1.2.2.2.2.1 y c h1 z
   have h2:s.heap.objs.size+1<=b:=by rw [<- z];exact h1
   exact absurd (Nat.lt_of_lt_of_le (hfp b hb).2 (le_of_succ_le h2)) (Nat.lt_irrefl _)
  ·rcases (hfp b hb).1.2.2.2.1 with z | z
   ·exact I.ok.noex b o e z
   exact absurd (Nat.lt_of_lt_of_le (lt_size e) (Nat.le_trans I.ok.bsz z)) (Nat.lt_irrefl _)
  rcases mem_cons.mp (I.stkSub b z) with z | z
  ·exact (hfp b hb).1.2.1 z
  exact (hfp b hb).1.2.2.1 z
 refine ⟨okB,rfl,I.bare,Un.kept kp,⟨fun _=>none,?_,fun i y av e1 e2 e3=>?_⟩,fun y c e=>?_,?_,fun y c e=>?_,fun p hp=>?_,I.hok.kept kp,by rw [cY_];exact I.len⟩
 ·show Heap.Ns _ zo.locals _
  rw [hL];exact Heap.Ns.keeps (Heap.Ns.new ..) fun b o e=>pushCells_keeps _ _ _ _ e
 ·obtain ⟨e2,hne⟩:=eu_ e2
  have hfr:scope.names.lookup y=some .free/\(zo.kindOf y=some .cell\/zo.kindOf y=some .free):=by
   have key : ∀ k,zo.scope.names.lookup y=some k->k = .local\/k = .cell\/k = .free->scope.names.lookup y=some .free/\(zo.kindOf y=some .cell\/zo.kindOf y=some .free):=fun k hk hk'=>by
    have hk0:=hk;rw [hsc] at hk;obtain ⟨k',e,r⟩:=c4_ hk;have no : ¬ (k' = .local\/k' = .cell):=fun hh=>by
     rcases ok.own _ (PySem.mem_of_lookup e) hh with e' | e'
     ·obtain ⟨p,hp,hpy⟩:=mem_map.mp e'
      have e3:=ok.ix p hp;have:p.1=y:=hpy;rw [this] at e3;exact hne (mem_map.mpr ⟨p,hp,gb_ hN e3 e1⟩)
     exact e' (mem_of_getElem? e1)
    rcases r with rfl | ⟨rfl,rfl⟩
    ·rcases hk' with rfl | rfl | rfl
     ·exact absurd (.inl rfl) no
     ·exact absurd (.inr rfl) no
     exact ⟨e,.inr hk0⟩
    exact ⟨e,.inl hk0⟩
   have e3:Vis zo.scope y:=e3;rcases e3 with e3 | e3 | e3
   ·exact key _ e3 (.inl rfl)
   ·exact key _ e3 (.inr (.inl rfl))
   exact key _ e3 (.inr (.inr rfl))
  obtain ⟨m,hn,hl⟩:=I.loc;have hvis:Vis X.env.scope y:=(ok.free _ (PySem.mem_of_lookup hfr.1) rfl).elim (fun k => .inr (.inl k)) (fun k => .inr (.inr k));obtain ⟨w,r,q⟩:=hl i y av e1 e2 hvis;refine ⟨w,r,.inr ⟨hfr.2,?_⟩⟩;obtain ⟨c,h1,h2⟩:=look hfr.1;rcases q with ⟨k,_⟩ | ⟨_,c',e',z⟩
  ·have k:X.env.scope.names.lookup y=some .local:=k
   rcases ok.free _ (PySem.mem_of_lookup hfr.1) rfl with k' | k' <;> rw [show X.env.scope.names.lookup y=_ from k'] at k <;> cases k
  rw [h2] at e';cases e';exact ⟨c,h1,z.keeps kp⟩
 ·have e:zo.cells.lookup y=some c:=e
  rcases mem e with ⟨h1,_⟩ | ⟨_,z⟩
  ·obtain ⟨w,z⟩:=I.cell y c h1
   exact ⟨w,z.keeps kp⟩
  exact ⟨_,z⟩
 ·show H zo.locals=none
  rw [hL];exact I.hok.fresh (Nat.le_refl _)
 ·have e:zo.cells.lookup y=some c:=e
  rcases mem e with ⟨h1,_⟩ | ⟨h1,_⟩
  ·exact I.freeC y c h1
  exact I.hok.fresh (le_of_succ_le h1)
 exact absurd (show p∈([]:zP)++[] from hp) (by simp)
theorem qg_ {E:zQ}{D:Addr}{xs:List V}{y:V}{v:Value}{Q:zQ} (I:Inv X zz σ H s) (hD:H D=some (.lst xs)) (hz:xs.length<sizeLine) (r:RelV y v)
  (h : ∀ s',Inv X zz σ (upd H D (.lst (xs++[y]))) s'->Q .none s'):wpAny (model X.prog X.w) X.A (call (.builtin "list.append") [.ref D,v]) Q E s:=by
 refine x_01 (I.hok D _ hD) fun hz' zz0=>?_;refine x_21 zz0 fun its n ri e=>?_;have hl:=ri.length;refine append_at (hsz:=by rw [size_toArray];omega) e fun h' sb ho'=>?_;refine h { s with heap:=h' } (I.write (t':=s.toks) (by rw [hD];trivial) (.inl rfl) (fun b u hb q=>(sb.2 b hb).trans q) ⟨_,ho'⟩ ⟨by rw [length_append];exact hz,its++[v],n+1,ri.append (.cons r .nil),?_⟩);rw [ho'];simp
def PTs (X:Cx) (ifs:List Expr) (t:TT):Prop :=
 ∀ (zz:zP) (s:Shared) (σ:St) (H:Hp) (Q:Bool->Hp->Prop),Inv X zz σ H s->t σ H Q ->
  wpAny (model X.prog X.w) X.A (forIn ifs true fun c r=>if r=true then do let ok <- isTrue c X.env (eval c X.env);pure (ForInStep.yield ok) else pure (ForInStep.yield r)) (TP X zz σ Q) X.xe s
def tYes:TT:=fun _ H Q=>Q true H
theorem fY_:PTs X [] tYes:=fun _ _ _ H _ I h=>wpAny_tests_nil ⟨H,I,h⟩
theorem thnF {α:Type}{t:Sem α}{Q Q':α->Shared->Prop}{M:Model}{A:Around}{E:zQ}{s:Shared} (h:wpAny M A t Q (fun _ _=>False) s) (hQ : ∀ a s,Q a s->Q' a s):wpAny M A t Q' E s:=wpAny_mono h hQ fun _ _ z=>False.elim z
theorem hn_ {prog:Program}{w:World}{A:Around}{R:Result->Shared->Prop}{s:Shared}{elt target iter:Expr}{ifs:List Expr}{scope:Scope}{pos:Pos}{it zx:Value}{env:Env} (I:Nat->Shared->Prop)
  (turn : ∀ n s,I n s->wpAny (model prog w) A (pyNext it) (fun r s₁=>match r with
   | none=>R (.ok .next) s₁
   | some v=>wpAny (model prog w) A (letOwnedTupleGo target it v) (fun _ s₁'=>wpAny (model prog w) A (assign target env v) (fun _ s₂ =>
     wpAny (model prog w) A (forIn ifs true fun c r=>if r=true then do let ok <- isTrue c env (eval c env);pure (ForInStep.yield ok) else pure (ForInStep.yield r)) (fun ok s₃ =>
      if ok=true then wpAny (model prog w) A (eval elt env) (fun x s₄ =>
       wpAny (model prog w) A (call (.builtin "list.append") [zx,x]) (fun _ s₅=>∃ m,m<n/\I m s₅) (notedBy (model prog w) A env fun e s'=>R (.error e) s') s₄) (notedBy (model prog w) A env fun e s'=>R (.error e) s') s₃
      else ∃ m,m<n/\I m s₃) (notedBy (model prog w) A env fun e s'=>R (.error e) s') s₂) (notedBy (model prog w) A env fun e s'=>R (.error e) s') s₁') (notedBy (model prog w) A env fun e s'=>R (.error e) s') s₁) (notedBy (model prog w) A env fun e s'=>R (.error e) s') s)
  (n:Nat) (h:I n s) :
  codeAny (model prog w) A (.compLoop (.ListComp elt [⟨target,iter,ifs,0⟩] scope pos) 0 it zx env) R s:=by
 refine codeAny_loop rfl I (fun n s hI=>?_) n h;show wpAny _ A ((compTurn (.ListComp elt [⟨target,iter,ifs,0⟩] scope pos) 0 it zx env).onRaise (fun x=>do noteFrame x env;theTreesLotGoes x)) _ _ s;refine wpAny_noted ?_;rw [compTurn_list];refine wpAny_bind (wpAny_standAt (wpAny_bind (wpAny_mono (turn n s hI) (fun r s₁ h₁=>?_) fun _ _ h'=>h')));cases r with
 | none=>exact wpAny_pure h₁
 | some v =>
 refine wpAny_bind (wpAny_mono h₁ (fun _ s₁' h₁'=>?_) fun _ _ h'=>h');refine wpAny_bind (wpAny_mono h₁' (fun _ s₂ h₂=>wpAny_bind (wpAny_mono h₂ (fun ok s₃ h₃=>?_) fun _ _ h'=>h')) fun _ _ h'=>h');cases ok with
 | false=>exact wpAny_pure ⟨rfl,h₃⟩
 | true =>
 exact wpAny_bind (wpAny_bind (wpAny_mono h₃ (fun x s₄ h₄=>wpAny_bind (wpAny_mono h₄ (fun _ s₅ h₅=>wpAny_pure (wpAny_pure ⟨rfl,h₅⟩)) fun _ _ h'=>h')) fun _ _ h'=>h'))
def tLc (wi:TI) (g:TG) (tt:TT) (te:TE) (vs:List Nat):TE:=fun σ H Q=>wi σ H fun J H1=>∀ D,H1 D=none->∃ W:Nat->Nat->Hp->Prop,(∃ m,W 0 m (upd H1 D (.lst [])))/\∀ i m H,W i m H ->
 (J.stop i H/\Q (.ref D) H)\/(J.go i H/\∃ Nx:Hp->Prop,(∀ H',Nx H'->∃ m',m'<m/\W (i+1) m' H')/\∀ x H',J.yld i H x H'->g x (wipe σ vs) H' fun σ2 H2=>wipe σ2 vs=wipe σ vs/\tt σ2 H2 fun b H3 =>
  if b=true then te σ2 H3 fun y H4=>∃ zx,H4 D=some (.lst zx)/\zx.length<sizeLine/\Nx (upd H4 D (.lst (zx++[y]))) else Nx H3)
theorem oE_ {zz:zP}{s:Shared}{σ:St}{H:Hp}{Q:VK}{elt tg iter:Expr}{ifs:List Expr}{scope:Scope}{own:List (Str×Nat)}{pos pos':Pos}{wi:TI}{g:TG}{tt:TT}{te:TE}{use:Option (Value->Sem Unit)}{Qf:zQ}
  (hc:X.calm=true) (hN:X.N.Nodup) (I:Inv X zz σ H s) (hi:PI X tg iter wi) (ok:BlkOk X.N X.env.scope scope own)
  (hg : ∀ (s:Shared) (H:Hp) (C:Addr) (cl:List (Str×Addr)) (fp:List Addr),PG (X.blk s H scope (compEnvC scope cl C X.env) fp) tg g) (ht : ∀ (s:Shared) (H:Hp) (C:Addr) (cl:List (Str×Addr)) (fp:List Addr),PTs (X.blk s H scope (compEnvC scope cl C X.env) fp) ifs tt)
  (he : ∀ (s:Shared) (H:Hp) (C:Addr) (cl:List (Str×Addr)) (fp:List Addr),PE (X.blk s H scope (compEnvC scope cl C X.env) fp) elt te) (hs : ∀ x,foldedSetIterable iter X.env x=pure x)
  (h:tLc wi g tt te (own.map (·.2)) σ H Q)
  (hRR : ∀ D C s' m H',Inv X zz σ H' s'->Q (.ref D) H'->s'.heap.Ns C m->FpOk X zz H' C->compPost (model X.prog X.w) X.A X.xe use Qf (.ref D) C (.ok .next) s') :
  wpAny (model X.prog X.w) X.A (comprehension (.ListComp elt [⟨tg,iter,ifs,0⟩] scope pos) scope X.env pos' (newList []) false (eval iter X.env) use) Qf X.xe s:=by
 have hfree : ∀ y∈scope.names,y.2 = .free->∃ c,X.env.cells.lookup y.1=some c:=fun y hy e=>by
  rcases ok.free y hy e with k | k
  ·exact I.ok.has _ (.inl k)
  exact I.ok.has _ (.inr k)
 refine wpAny_comprehension_free (use:=use) rfl hs (jT_ hfree) ok.kind (fun y hy e=>by rw [ok.uniq y hy,e])
  (thn (hi zz s σ H _ I h) fun xv s1 hx=>thn hx fun itv s2 h2=>?_)
 refine x_50 h2 fun it fp tn J H2 zy=>x_05 zy fun e I2 T st2 f2 q=>?_;subst e;refine wpAny_newObj_type (hM_ ?_) (by show 0<=sizeLine;decide);generalize hD:s2.heap.objs.size=D;have hDn:H2 D=none:=I2.hok.fresh (Nat.le_of_eq hD);obtain ⟨W,⟨m0,w0⟩,turn⟩:=q D hDn;generalize hs3:({ s2 with heap:=s2.heap.push { cls := .type "list",data := .seq ([]:List Value).toArray } }:Shared)=s3;have I3:Inv X zz σ (upd H2 D (.lst [])) s3:=by
  rw [<- hs3];refine I2.laid (t':=s2.toks) (fun b o e=>get?_push_of_some _ e) (Nat.le_of_eq hD) ⟨zero_le _,[],0,.nil,?_⟩;rw [<- hD];exact get?_push_size _ rfl
 have h3:s3.heap=s2.heap.push { cls := .type "list",data := .seq ([]:List Value).toArray }:=by rw [<- hs3]
 have sz : ∀ b∈fp,b<s2.heap.objs.size:=fun b hb=>by
  obtain ⟨o,e,_⟩:=T.obj _ _ st2 b hb;exact lt_size e
 have f3 : ∀ b∈fp,FpOk X zz (upd H2 D (.lst [])) b/\b<s3.heap.objs.size:=fun b hb=>by
  have hlt:=sz b hb;refine ⟨⟨?_,(f2 b hb).2⟩,by rw [h3,size_push];exact Nat.lt_succ_of_lt hlt⟩;rw [al_ (by rw [<- hD];exact Nat.ne_of_lt hlt)];exact (f2 b hb).1
 have st3:tn 0 s3.heap:=T.keep _ _ _ st2 fun b _ o e=>by rw [h3];exact get?_push_of_some _ e
 have I4:=ig_ I3 ok hN f3;have pg:=hg s3 (upd H2 D (.lst [])) s3.heap.objs.size (cellsFrom (s3.heap.objs.size+1) scope.names (aS_ X.env.cells scope.names [])) fp;have pt:=ht s3 (upd H2 D (.lst [])) s3.heap.objs.size (cellsFrom (s3.heap.objs.size+1) scope.names (aS_ X.env.cells scope.names [])) fp;have pe:=he s3 (upd H2 D (.lst [])) s3.heap.objs.size (cellsFrom (s3.heap.objs.size+1) scope.names (aS_ X.env.cells scope.names [])) fp;show codeAny _ _ (.compStart (.ListComp elt [⟨tg,iter,ifs,0⟩] scope pos) 0 (.ref it) (.ref D) (compEnvC scope (cellsFrom (s3.heap.objs.size+1) scope.names (aS_ X.env.cells scope.names [])) s3.heap.objs.size X.env)) (compPost (model X.prog X.w) X.A X.xe use Qf (.ref D) s3.heap.objs.size) { s3 with heap:=pushCells (s3.heap.push { cls := .type "dict",data := .dict #[] }) scope.names };have nfp : ∀ b∈fp,(upd H2 D (.lst [])) b=none:=fun b hb=>(f3 b hb).1.1;generalize hce:compEnvC scope (cellsFrom (s3.heap.objs.size+1) scope.names (aS_ X.env.cells scope.names [])) s3.heap.objs.size X.env=ce at I4 pg pt pe ⊢;have cL:ce.locals=s3.heap.objs.size:=by subst hce;rfl
 generalize hH3:upd H2 D (.lst [])=H3 at I3 I4 pg pt pe w0 nfp f3;generalize hs4:({ s3 with heap:=pushCells (s3.heap.push { cls := .type "dict",data := .dict #[] }) scope.names }:Shared)=s4 at I4 ⊢;have st4:tn 0 s4.heap:=T.keep _ _ _ st3 fun b _ o e=>by rw [<- hs4];exact pushCells_keeps _ _ _ _ (get?_push_of_some _ e)
 have stat : ∀ {σ':St}{H':Hp}{s':Shared},Inv (X.blk s3 H3 scope ce fp) [] σ' H' s'->(∀ b∈fp,H' b=none)->∀ b∈fp,FpOk (X.blk s3 H3 scope ce fp) [] H' b:=fun {σ' H' s'} I' hn b hb =>
  ⟨hn b hb,(I'.ok.exf b hb).1,I'.ok.exfs b hb,.inl hb,fun x c e=>(I'.ok.exf b hb).2 x c e,fun p hp=>absurd (show p∈([]:zP)++[] from hp) (by simp)⟩
 have loop:codeAny (model X.prog X.w) X.A (.compLoop (.ListComp elt [⟨tg,iter,ifs,0⟩] scope pos) 0 (.ref it) (.ref D) ce) (compPost (model X.prog X.w) X.A X.xe use Qf (.ref D) s3.heap.objs.size) s4:=by
  refine hn_ (fun n s'=>∃ i H',Inv (X.blk s3 H3 scope ce fp) [] (wipe σ (own.map (·.2))) H' s'/\tn i s'.heap/\(∀ b∈fp,H' b=none)/\W i n H') ?_ m0 ⟨0,H3,I4,st4,nfp,w0⟩
  rintro n s5 ⟨i,H5,I5,st5,n5,w5⟩
  rcases turn i n H5 w5 with ⟨stop,qq⟩ | ⟨go,Nx,hNx,step⟩
  ·have td:=T.done (X.blk s3 H3 scope ce fp) rfl rfl rfl hc i [] s5 _ H5 (fun _ _=>False) I5 (stat I5 n5) st5 stop
   refine thnF td fun r s6 ⟨hr,I6⟩=>?_;subst hr;have I7:Inv X zz σ H5 s6:=I3.call' (ch:=fp) I6.os I6.base I6.hok I6.bare fun b hb=>⟨(f3 b hb).1.2.2.2.1,(f3 b hb).1.2.1,(f3 b hb).1.2.2.2.2.1,(f3 b hb).1.2.2.2.2.2⟩;have nC:H5 s3.heap.objs.size=none:=by
    have z:H5 ce.locals=none:=I6.free;rw [cL] at z;exact z
   obtain ⟨m,hn,_⟩:=I6.loc;have hn:s6.heap.Ns ce.locals m:=hn;rw [cL] at hn;exact hRR D s3.heap.objs.size s6 m H5 I7 qq hn (I3.fpOk (Nat.le_refl _) nC)
  have ti:=T.item (X.blk s3 H3 scope ce fp) rfl rfl rfl hc i [] s5 _ H5 (fun _ _=>False) I5 (stat I5 n5) st5 go;refine thnF ti fun r s6 ⟨u,hr,h6⟩=>?_;subst hr;refine thnF h6 fun _ s7 zq=>?_;refine x_24 zq fun x H7 I7 r7 y7 st7 n7=>?_;have I7':=I7.pinned (stat I7 n7) (T.obj _ _ st7);refine thnF (pg _ s7 _ H7 x u _ I7' r7 (step x H7 y7)) fun _ s8 zq=>?_;refine x_22 zq fun σ8 H8 I8 hw8 q8=>?_;refine thnF (pt _ s8 σ8 H8 _ I8 q8) fun b s9 ⟨H9,I9,q9⟩=>?_;have fin : ∀ {s':Shared}{H':Hp},Inv (X.blk s3 H3 scope ce fp) ([]++fq_ fp s7.heap) σ8 H' s'->Nx H'->∃ m,m<n/\∃ i H',Inv (X.blk s3 H3 scope ce fp) [] (wipe σ (own.map (·.2))) H' s'/\tn i s'.heap/\(∀ b∈fp,H' b=none)/\W i m H':=fun {s' H'} I' nx=>by
   obtain ⟨m',hm,w'⟩:=hNx H' nx;have pin' : ∀ b∈fp,∀ o,s7.heap.get? b=some o->s'.heap.get? b=some o/\H' b=none:=fun b hb o e =>
    let z:=I'.pin (b,o) (mem_append_right _ (mem_append_right _ (bX_ hb e)))
    ⟨z.1,z.2.1⟩
   have hl:(wipe σ (own.map (·.2))).length=σ8.length:=by rw [<- hw8,cY_]
   refine ⟨m',hm,i+1,H',(I'.unpinned (zz:=[])).weak hl (fun j v e=>?_),T.keep _ _ _ st7 fun b hb o e=>(pin' b hb o e).1,fun b hb=>?_,w'⟩
   ·rw [<- hw8] at e
    exact (eu_ e).1
   obtain ⟨o,e,_⟩:=T.obj _ _ st7 b hb;exact (pin' b hb o e).2
  cases b with
  | false =>
   simp only [false_eq_true,if_false] at q9 ⊢;exact fin I9 q9
  | true =>
  simp only [if_true] at q9 ⊢;refine thnF (pe _ s9 σ8 H9 _ I9 q9) fun z s10 zq=>?_;refine x_22 zq fun yv H10 I10 r10 zz0=>?_;refine x_12 zz0 fun zx hD10 hz10 nx=>?_;exact qg_ (X:=X.blk s3 H3 scope ce fp) I10 hD10 hz10 r10 fun s11 I11=>fin I11 nx
 exact codeAny_compStart_list loop (T.self X.A 0 _ _ _ st4 loop)
theorem mk_ {elt tg iter:Expr}{ifs:List Expr}{scope:Scope}{own:List (Str×Nat)}{pos:Pos}{wi:TI}{g:TG}{tt:TT}{te:TE} (hc:X.calm=true) (hN:X.N.Nodup) (hi:PI X tg iter wi) (ok:BlkOk X.N X.env.scope scope own)
  (hg : ∀ (s:Shared) (H:Hp) (C:Addr) (cl:List (Str×Addr)) (fp:List Addr),PG (X.blk s H scope (compEnvC scope cl C X.env) fp) tg g) (ht : ∀ (s:Shared) (H:Hp) (C:Addr) (cl:List (Str×Addr)) (fp:List Addr),PTs (X.blk s H scope (compEnvC scope cl C X.env) fp) ifs tt)
  (he : ∀ (s:Shared) (H:Hp) (C:Addr) (cl:List (Str×Addr)) (fp:List Addr),PE (X.blk s H scope (compEnvC scope cl C X.env) fp) elt te) (hs : ∀ x,foldedSetIterable iter X.env x=pure x:=by intro _;rfl) :
  PE X (.ListComp elt [⟨tg,iter,ifs,0⟩] scope pos) (tLc wi g tt te (own.map (·.2))):=by
 intro zz s σ H Q I h;rw [eval_ListComp];refine oE_ hc hN I hi ok hg ht he hs h fun D C s' m H' I' q hn f=>⟨m,hn,fun h'' sb=>?_⟩;obtain ⟨f0,f1,f2,f3,f4,f5⟩:=f;exact ⟨.ref D,H',I'.turned (t':=s'.toks) (fun b o hb e=>(sb.2 b hb).trans e) f0 f1 f3 f4 f5,rfl,q⟩
def blkC (N:List Str) (sc scope:Scope) (own:List (Str×Nat)):Bool :=
 (match scope.kind with | .function=>true | _=>false) && (scope.names.all fun y=>decide (scope.names.lookup y.1=some y.2)) && (own.all fun p=>decide (N[p.2]? = some p.1)) &&
  (scope.names.all fun y=>match y.2 with
   | .free=>(match sc.names.lookup y.1 with | some .cell=>true | some .free=>true | _=>false)
   | .local=>decide (y.1∈own.map (·.1)) || decide (y.1∉N)
   | .cell=>decide (y.1∈own.map (·.1)) || decide (y.1∉N)
   | _=>true)
theorem er_ {N:List Str}{sc scope:Scope}{own:List (Str×Nat)} (h:blkC N sc scope own=true):BlkOk N sc scope own:=by
 unfold blkC at h;simp only [and_eq_true,all_eq_true,decide_eq_true_eq] at h;obtain ⟨⟨⟨h1,h2⟩,h3⟩,h4⟩:=h;refine ⟨?_,h2,h3,fun y hy e=>?_,fun y hy e=>?_⟩
 ·split at h1
  ·assumption
  cases h1
 ·have q:=h4 y hy
  simp only [e] at q;split at q <;> first | exact .inl (by assumption) | exact .inr (by assumption) | cases q
 have q:=h4 y hy;rcases e with e | e <;> (simp only [e,or_eq_true,decide_eq_true_eq] at q;exact q)
section
variable {κ:Type} [DecidableEq κ]
def valV (zw:List (κ×V)) (k:κ):Option V:=(zw.find? fun kv=>decide (kv.1=k)).map (·.2)
noncomputable def putK (zw:List (κ×V)) (k:κ) (v:V):List (κ×V) :=
 if (zw.any fun kv=>decide (kv.1=k))=true then zw.map (fun kv=>if kv.1=k then (kv.1,v) else kv) else zw++[(k,v)]
theorem bd_ {p:κ×V}{r:List (κ×V)}{k:κ} (e:p.1=k):valV (p::r) k=some p.2:=by simp [valV,find?_cons,e]
theorem be_ {p:κ×V}{r:List (κ×V)}{k:κ} (e : ¬ p.1=k):valV (p::r) k=valV r k:=by simp [valV,find?_cons,e]
theorem ef_ (k:κ) : ∀ zw:List (κ×V),(zw.any fun kv=>decide (kv.1=k))=(valV zw k).isSome
 | []=>rfl
 | p::r=>by
  rw [any_cons];by_cases e:p.1=k
  ·simp only [bd_ e,decide_eq_true e,Bool.true_or,Option.isSome_some]
  rw [be_ e,decide_eq_false e,Bool.false_or];exact ef_ k r
theorem in_ (k j:κ) (y:V) : ∀ zw:List (κ×V),valV (zw.map fun kv=>if kv.1=k then (kv.1,y) else kv) j=(valV zw j).map fun x=>if j=k then y else x
 | []=>rfl
 | p::r=>by
  have ih:=in_ k j y r;rw [map_cons];by_cases h:p.1=k
  ·rw [if_pos h]
   by_cases e:p.1=j
   ·rw [bd_ (p:=(p.1,y)) e,bd_ e,map_some,if_pos (e.symm.trans h)]
   rw [be_ (p:=(p.1,y)) e,be_ e,ih]
  rw [if_neg h];by_cases e:p.1=j
  ·rw [bd_ (p:=p) e,bd_ e,map_some,if_neg (fun z=>h (e.trans z))]
  rw [be_ (p:=p) e,be_ e,ih]
theorem gB_ (k j:κ) (y:V) : ∀ zw:List (κ×V),valV zw k=none->valV (zw++[(k,y)]) j=if j=k then some y else valV zw j
 | [],_=>by
  by_cases e:k=j
  ·rw [if_pos e.symm];exact bd_ (p:=(k,y)) e
  rw [if_neg (fun z=>e z.symm)];exact be_ (p:=(k,y)) e
 | p::r,hn=>by
  rw [cons_append];have hk : ¬ p.1=k:=fun z=>by rw [bd_ z] at hn;cases hn
  rw [be_ hk] at hn;have ih:=gB_ k j y r hn;by_cases e:p.1=j
  ·rw [bd_ e,bd_ e,if_neg (fun z=>hk (e.trans z))]
  rw [be_ e,be_ e,ih]
theorem lV_ (zw:List (κ×V)) (k j:κ) (y:V):valV (putK zw k y) j=if j=k then some y else valV zw j:=by
 unfold putK;by_cases a:(zw.any fun kv=>decide (kv.1=k))=true
 ·rw [if_pos a,in_]
  rw [ef_] at a;by_cases e:j=k
  ·obtain ⟨x,hx⟩:=Option.isSome_iff_exists.mp a
   rw [if_pos e,e,hx,map_some,if_pos rfl]
  rw [if_neg e];cases valV zw j with
  | none=>rfl
  | some x=>rw [map_some,if_neg e]
 rw [if_neg a];refine gB_ k j y zw ?_;rw [ef_] at a;cases q:valV zw k with
 | none=>rfl
 | some x=>rw [q] at a;exact (a rfl).elim
theorem eQ_ (zw:List (κ×V)) (k:κ) (v:V):(putK zw k v).length<=zw.length+1:=by
 unfold putK;split
 ·rw [length_map];omega
 rw [length_append,length_cons,length_nil];omega
theorem RelO.isSome_eq {o:Option V}{u:Option Value} (r:RelO o u):o.isSome=u.isSome:=by
 cases o with
 | none=>cases u with
  | none=>rfl
  | some _=>exact (show False from r).elim
 | some _=>cases u with
  | none=>exact (show False from r).elim
  | some _=>rfl
theorem RelO.getD {o:Option V}{u:Option Value}{d:V}{d':Value} (r:RelO o u) (rd:RelV d d'):RelV (o.getD d) (u.getD d'):=by
 cases o with
 | none=>cases u with
  | none=>exact rd
  | some _=>exact (show False from r).elim
 | some _=>cases u with
  | none=>exact (show False from r).elim
  | some _=>exact r
theorem KV.val {zw:List (κ×V)}{vs:List (κ×Value)} (r:KV zw vs) (k:κ):RelO (valV zw k) (valueAt vs k):=by
 unfold KV at r
 induction r with
 | nil=>exact True.intro
 | @cons p q ps qs h t ih =>
 obtain ⟨h1,h2⟩:=h;by_cases e:p.1=k
 ·have e':q.1=k:=h1.symm.trans e
  have b:valueAt (q::qs) k=some q.2:=by simp [valueAt,find?_cons,e']
  rw [bd_ e,b];exact h2
 have e' : ¬ q.1=k:=fun z=>e (h1.trans z);have b:valueAt (q::qs) k=valueAt qs k:=by simp [valueAt,find?_cons,e']
 rw [be_ e,b];exact ih
theorem KV.any {zw:List (κ×V)}{vs:List (κ×Value)} (r:KV zw vs) (k:κ):(zw.any fun kv=>decide (kv.1=k))=vs.any fun kv=>decide (kv.1=k):=by
 unfold KV at r
 induction r with
 | nil=>rfl
 | cons h t ih=>rw [any_cons,any_cons,ih,h.1]
theorem KV.repl {zw:List (κ×V)}{vs:List (κ×Value)} (r:KV zw vs) (k:κ) {y:V}{u:Value} (ry:RelV y u) :
  KV (zw.map fun kv=>if kv.1=k then (kv.1,y) else kv) (vs.map fun kv=>if kv.1=k then (kv.1,u) else kv):=by
 unfold KV at r ⊢
 induction r with
 | nil=>exact .nil
 | @cons p q ps qs h t ih =>
 rw [map_cons,map_cons];refine .cons ?_ ih;obtain ⟨h1,h2⟩:=h;by_cases e:p.1=k
 ·rw [if_pos e,if_pos (h1.symm.trans e)];exact ⟨h1,ry⟩
 rw [if_neg e,if_neg (fun z=>e (h1.trans z))];exact ⟨h1,h2⟩
theorem KV.put {zw:List (κ×V)}{vs:List (κ×Value)} (r:KV zw vs) (k:κ) {y:V}{u:Value} (ry:RelV y u):KV (putK zw k y) (stored vs k u):=by
 unfold putK stored;rw [r.any k];by_cases e:(vs.any fun kv=>decide (kv.1=k))=true
 ·rw [if_pos e,if_pos e];exact r.repl k ry
 rw [if_neg e,if_neg e];exact Paired.snoc r ⟨rfl,ry⟩
theorem KV.length {zw:List (κ×V)}{vs:List (κ×Value)} (r:KV zw vs):zw.length=vs.length:=Paired.length r
end
theorem jw_ {P:Program}{w:World}{k:Key}{u:Value} (r:RelV (kV k) u):(aI_ P w).is k u=true:=by
 cases k with
 | inl i=>obtain ⟨t,e⟩:=(show ∃ t,u=Value.int i t from r);subst e;exact hN_ P w i t
 | inr x=>obtain ⟨t,e⟩:=(show ∃ t,u=Value.str x t from r);subst e;exact eP_ P w x t
theorem ha_ {P:Program}{w:World} : ∀ {ks:List Key}{us:List Value},Vals (ks.map kV) us->ItemsAre (aI_ P w) ks us
 | [],_,r=>by rw [map_nil] at r;cases r;exact .nil
 | k::ks,_,r=>by
  rw [map_cons] at r;cases r with
  | cons h t=>exact .cons (jw_ h) (ha_ t)
abbrev KT (H:Hp):List (List Key×V)->List (List Key×Addr×Value)->Prop:=Paired fun p q=>p.1=q.1/\H q.2.1=some (.tup (p.1.map kV))/\RelV p.2 q.2.2
theorem KT.val {H:Hp}{zw:List (List Key×V)}{xs:List (List Key×Addr×Value)} (r:KT H zw xs) (k:List Key):RelO (valV zw k) ((atKey xs k).map (·.2)):=by
 induction r with
 | nil=>exact True.intro
 | @cons p q ps qs h t ih =>
 obtain ⟨h1,_,h2⟩:=h;by_cases e:p.1=k
 ·have e':q.1=k:=h1.symm.trans e
  have b:atKey (q::qs) k=some q.2:=by simp [atKey,find?_cons,e']
  rw [bd_ e,b];exact h2
 have e' : ¬ q.1=k:=fun z=>e (h1.trans z);have b:atKey (q::qs) k=atKey qs k:=by simp [atKey,find?_cons,e']
 rw [be_ e,b];exact ih
theorem KT.repl {H:Hp}{zw:List (List Key×V)}{xs:List (List Key×Addr×Value)} (r:KT H zw xs) (k:List Key) {y:V}{u:Value} (ry:RelV y u) :
  KT H (zw.map fun kv=>if kv.1=k then (kv.1,y) else kv) (xs.map (putAt k u)):=by
 induction r with
 | nil=>exact .nil
 | @cons p q ps qs h t ih =>
 rw [map_cons,map_cons];refine .cons ?_ ih;obtain ⟨h1,h2,h3⟩:=h;unfold putAt;by_cases e:p.1=k
 ·rw [if_pos e,if_pos (h1.symm.trans e)];exact ⟨h1,h2,ry⟩
 rw [if_neg e,if_neg (fun z=>e (h1.trans z))];exact ⟨h1,h2,h3⟩
theorem KT.put {H:Hp}{zw:List (List Key×V)}{xs:List (List Key×Addr×Value)} (r:KT H zw xs) (k:List Key) {b:Addr}{y:V}{u:Value} (hb:H b=some (.tup (k.map kV))) (ry:RelV y u) :
  KT H (putK zw k y) (storedH xs k b u):=by
 have e:(zw.any fun kv=>decide (kv.1=k))=(atKey xs k).isSome:=by
  rw [ef_,(r.val k).isSome_eq,Option.isSome_map]
 unfold putK storedH;rw [e];by_cases q:(atKey xs k).isSome=true
 ·rw [if_pos q,if_pos q];exact r.repl k ry
 rw [if_neg q,if_neg q];exact Paired.snoc r ⟨rfl,hb,ry⟩
theorem KT.keeps {H H':Hp}{zw:List (List Key×V)}{xs:List (List Key×Addr×Value)} (r:KT H zw xs) (ht : ∀ b ys,H b=some (.tup ys)->H' b=some (.tup ys)):KT H' zw xs :=
 Paired.mapP r fun _ _ z=>⟨z.1,ht _ _ z.2.1,z.2.2⟩
variable {a:Addr}
section
variable {P:Program}{h:Heap}
theorem px_ {u:HO} (ok:HOk P w H h) (e:Rd H a u):aT_ P w H h a u:=e.ok ok
theorem mT_ {zw:List (Key×V)} (ok:HOk P w H h) (e:Rd H a (.dK zw)):zw.length<=sizeLine/\(a == sysModules)=false/\∃ vs,KV zw vs/\h.DictOf (aI_ P w) a vs :=
 show aT_ P w H h a (.dK zw) from px_ ok e
theorem qb_ {zw:List (Key×V)} (ok:HOk P w H h) (e:H a=some (.dK zw)):zw.length<=sizeLine/\(a == sysModules)=false/\∃ vs,KV zw vs/\h.DictOf (aI_ P w) a vs:=mT_ ok (.inl e)
theorem k4_ {ks:List Key} (ok:HOk P w H h) (e:H a=some (.tup (ks.map kV))):(tupleKind (aI_ P w)).is h ks a:=by
 obtain ⟨_,its,r,o,h1,h2,n,h3⟩:=(show aT_ P w H h a (.tup (ks.map kV)) from ok a _ e);exact ⟨o,its.toArray,n,h1,h2,h3,by simpa using ha_ r⟩
theorem oS_ {zw:List (List Key×V)} (ok:HOk P w H h) (e:Rd H a (.dT zw)):zw.length<=sizeLine/\(a == sysModules)=false /\
  ∃ xs,KT H zw xs/\h.DictOfH (tupleKind (aI_ P w)) a xs:=by
 refine x_02 ((show aT_ P w H h a (.dT zw) from px_ ok e)) fun z y zz0=>?_;refine x_11 zz0 fun xs r zz1=>?_;refine x_34 zz1 fun o es ep h1 h2 h3 h4 h5=>?_;refine ⟨z,y,xs,r,o,es,ep,h1,h2,h3,h4,fun x hx=>?_,h5⟩;have all : ∀ {l:List (List Key×V)}{m:List (List Key×Addr×Value)},KT H l m->∀ x∈m,(tupleKind (aI_ P w)).is h x.1 x.2.1:=by
  intro l m q
  induction q with
  | nil=>intro x hx;exact nomatch hx
  | @cons p q ps qs hq t ih =>
  intro x hx;rcases mem_cons.mp hx with e | hx
  ·subst e
   exact k4_ ok (by rw [<- hq.1];exact hq.2.1)
  exact ih x hx
 exact all r x hx
theorem qy_ {zw:List (List Key×V)} (ok:HOk P w H h) (e:H a=some (.dT zw)):zw.length<=sizeLine/\(a == sysModules)=false /\
  ∃ xs,KT H zw xs/\h.DictOfH (tupleKind (aI_ P w)) a xs:=oS_ ok (.inl e)
end
def DGet (H:Hp) (a:Addr) (y:V) (r:Option V):Prop :=
 (∃ zw k,Rd H a (.dK zw)/\y=kV k/\r=valV zw k)\/∃ zw k b,Rd H a (.dT zw)/\y = .ref b/\H b=some (.tup (k.map kV))/\r=valV zw k
def DPut (H:Hp) (a:Addr) (y v:V) (H':Hp):Prop :=
 (∃ zw k,H a=some (.dK zw)/\y=kV k/\zw.length<sizeLine/\H'=upd H a (.dK (putK zw k v))) \/
 ∃ zw k b,H a=some (.dT zw)/\y = .ref b/\H b=some (.tup (k.map kV))/\zw.length<sizeLine/\H'=upd H a (.dT (putK zw k v))
theorem DGet.k {H:Hp}{a:Addr}{zw:List (Key×V)}{k:Key} (e:H a=some (.dK zw)):DGet H a (kV k) (valV zw k) := .inl ⟨zw,k,.inl e,rfl,rfl⟩
theorem DPut.k {H:Hp}{a:Addr}{zw:List (Key×V)}{k:Key}{v:V} (e:H a=some (.dK zw)) (hl:zw.length<sizeLine):DPut H a (kV k) v (upd H a (.dK (putK zw k v))) := .inl ⟨zw,k,e,rfl,hl,rfl⟩
variable {y:V}{u r:Value}
section
variable {v:V}
theorem Inv.big (I:Inv X zz σ H s):sysModules<s.heap.objs.size:=by
 have h:mainGlobals<s.heap.objs.size:=(I.mod.glob.keeps I.bk).lt;exact Nat.lt_trans (by decide) h
theorem lB_ {h':Heap}{t':Nat}{ob:HO} (I:Inv X zz σ H s) (mu:Mut (H a)) (hs:Heap.SameBut a s.heap h') (he : ∃ q,h'.get? a=some q) (new:aT_ X.prog X.w (upd H a ob) h' a ob) :
  Inv X zz σ (upd H a ob) { s with heap:=h',toks:=t' } :=
 I.write (x:=a) (e:=a) mu (.inl rfl) (fun b q hb z=>(hs.2 b hb).trans z) he new
theorem nG_ {P:Program}{w:World}{H':Hp}{h':Heap}{zw:List (Key×V)}{vs:List (Key×Value)} (z:zw.length<=sizeLine) (hd:(a == sysModules)=false) (rel:KV zw vs) (dd:h'.DictOf (aI_ P w) a vs) :
  aT_ P w H' h' a (.dK zw):=⟨z,hd,vs,rel,dd⟩
theorem lC_ {H':Hp}{Q:Unit->Shared->Prop} (hu:A.units+1<cLine) (I:Inv X zz σ H s) (g:DPut H a y v H') (ry:RelV y u) (rv:RelV v r) (h : ∀ s',Inv X zz σ H' s'->Q () s') :
  wpAny (model X.prog X.w) A (setItem (.ref a) u r) Q E s:=by
 rcases g with ⟨zw,k,e,ey,l,eH⟩ | ⟨zw,k,b,e,ey,eb,l,eH⟩
 ·subst ey eH
  obtain ⟨z,hd,vs,rel,dd⟩:=qb_ I.hok e;have hz:vs.length<=sizeLine:=by rw [<- rel.length];exact z
  have hl:(putK zw k v).length<=sizeLine:=by have:=eQ_ zw k v;omega
  refine wpAny_setItem_pairs (hsz:=hz) (jw_ ry) dd fun h' dd' hs=>h _ ?_;have he : ∃ q,h'.get? a=some q:=let ⟨q,_,_,hq,_⟩:=dd';⟨q,hq⟩;exact lB_ I (by rw [e];exact True.intro) hs he (nG_ hl hd (rel.put k rv) dd')
 subst ey eH;cases (show u=Value.ref b from ry);obtain ⟨z,hd,xs,rel,dd⟩:=qy_ I.hok e;have hz:xs.length<=sizeLine:=by rw [<- Paired.length rel];exact z
 have hl:(putK zw k v).length<=sizeLine:=by have:=eQ_ zw k v;omega
 refine wpAny_setItem_heap (hsz:=hz) (tupleKind_room_in1 hu) (k4_ I.hok eb) dd fun h' dd' hs=>h _ ?_;refine x_30 dd' fun q es ep zy=>x_05 zy fun hq h2 h3 h4 _ h5=>?_;refine lB_ I (by rw [e];exact True.intro) hs ⟨q,hq⟩ ⟨hl,hd,_,(rel.put k eb rv).keeps fun c ys ec=>?_,q,es,ep,hq,h2,h3,h4,h5⟩;rw [al_ (a7_ ec e (fun z=>nomatch z))];exact ec
end
def NoSl (i:Expr):Prop:=∀ ov iv,subscripted i false ov iv=operate [ov,iv] (getItem ov iv)
theorem nZ_ {prog:Program}{w:World}{A:Around}{E:zQ}{s:Shared}{env:Env}{value slice:Expr}{pos:Pos}{T id:String}{Q:zQ}
  (hl:typeLookup (.type T) "__getitem__"=pure (some (.builtin id))) (hs:NoSl slice)
  (h:wpAny (model prog w) A (eval value env) (fun o s₁=>wpAny (model prog w) A (eval slice env) (fun i s₂=>s₂.TypeIs o T/\wpAny (model prog w) A (getItem o i) Q E s₂) E s₁) E s) :
  wpAny (model prog w) A (eval (.Subscript value slice pos) env) Q E s:=by
 refine Subscript_ (wpAny_mono h (fun o s₁ h₁=>wpAny_mono h₁ (fun i s₂ h₂=>?_) fun _ _ x=>x) fun _ _ x=>x);obtain ⟨hT,h₂⟩:=h₂;unfold subscriptTail;refine wpAny_bind ?_;rw [getitemInPython_of_ne hT.not_modules];refine wpAny_bind (wpAny_specialOf hT hl ?_);have fin:wpAny (model prog w) A (subscripted slice false o i) (fun r s₃=>wpAny (model prog w) A (letTemporaryGo value o r >>= fun _=>pure r) Q E s₃) E s₂:=by
  rw [hs o i];exact wpAny_operating (wpAny_mono h₂ (fun r s₃ h₃=>wpAny_bind (wpAny_letTemporaryGo (wpAny_pure h₃))) fun _ _ x=>x)
 first
  | exact wpAny_pure (wpAny_bind fin)
  | exact wpAny_bind (wpAny_pure (wpAny_bind fin))
  | exact wpAny_bind fin
def oa_ (td ty tv:TE):TS:=fun D σ H=>tv σ H fun v H1=>td σ H1 fun x H2=>ty σ H2 fun y H3=>∃ a H4,x = .ref a/\DPut H3 a y v H4/\D.nx σ H4
variable {o:Expr}{td ty:TE}
section
variable {i value:Expr}{pos':Pos}{tv:TE}
theorem kD_ (hu:X.A.units+1<cLine) (ho:PE X o td) (hi:PE X i ty) (hv:PE X value tv) (hs:swapsWith value (some (.Subscript o i pos')) pos.line X.env=pure false) :
  PS X (.Assign [.Subscript o i pos'] value pos) (oa_ td ty tv):=by
 intro zz s σ H D I h;refine wpAny_Assign_Subscript (thn (hv zz s σ H _ I h) fun r s1 ⟨v,H1,I1,rv,q1⟩=>thn (ho zz s1 σ H1 _ I1 q1) fun u s2 ⟨x,H2,I2,rx,q2⟩=>thn (hi zz s2 σ H2 _ I2 q2) fun iv s3 zq=>?_) hs;refine x_22 zq fun y H3 I3 ry zz0=>?_;refine x_22 zz0 fun a H4 ex g q3=>?_;subst ex;obtain rfl:u=Value.ref a:=rx;exact lC_ hu I3 g ry rv fun s4 I4=>⟨σ,H4,I4,q3⟩
end
theorem mU_ {P:Program}{w:World}{H:Hp} (h:Heap) (hb:sysModules<h.objs.size):aT_ P w H (h.push { cls := .type "dict",data := .dict #[] }) h.objs.size (.dK []) :=
 ⟨zero_le _,beq_eq_false_iff_ne.mpr (Ne.symm (Nat.ne_of_lt hb)),[],.nil,Heap.DictOf.new h⟩
def kb_:TE:=fun _ H Q=>∀ p,H p=none->Q (.ref p) (upd H p (.dK []))
theorem iH_:PE X (.Dict [] [] pos) kb_:=fun zz s σ H Q I h =>
 wpAny_Dict_empty ⟨.ref s.heap.objs.size,_,I.laid (a:=s.heap.objs.size) (o := .dK []) (t':=s.toks) (fun _ _ q=>get?_push_of_some _ q) (Nat.le_refl _) (mU_ s.heap I.big),rfl,h _ (I.hok.fresh (Nat.le_refl _))⟩
structure M2 (X:Cx) (o:Expr) (m:Str) (zt:Pos) (e f:Expr) (zn:Pos):Prop where
 base:attributeBase o m X.env (eval o X.env)=eval o X.env
 few:((backTo zn (starEach [e,f] X.env)).all (fun x => !x.1) && (backToKw zn (keywordEach [] X.env)).all (fun x=>x.1.isSome)
  && decide (([e,f]:List Expr).length+([]:List Keyword).length+(if ([]:List Keyword).isEmpty then 0 else 1)<30))=true
 line:(zt.endLine == zn.line)=true
 trees:backTo zn (starEach [e,f] X.env)=[(false,eval e X.env),(false,eval f X.env)]
def IsD (H:Hp) (a:Addr):Prop:=(∃ zw,Rd H a (.dK zw))\/∃ zw,Rd H a (.dT zw)
theorem pV_ {X:Cx}{zz:zP}{σ:St}{H:Hp}{s:Shared}{a:Addr} (I:Inv X zz σ H s) (d:IsD H a) :
  s.TypeIs (.ref a) "dict"/\(∀ b,Value.ref a = .ref b->∃ ob,s.heap.get? b=some ob/\ob.dict=none)/\(a == sysModules)=false:=by
 rcases d with ⟨zw,e⟩ | ⟨zw,e⟩
 ·refine x_02 (mT_ I.hok e) fun _ hd zz0=>?_
  refine x_11 zz0 fun vs _ dd=>?_;refine ⟨dd.typeIs,fun b q=>?_,hd⟩;cases q;refine x_32 dd fun ob _ _ h1 h2 _=>?_;exact ⟨ob,h1,h2.2.1⟩
 refine x_02 (oS_ I.hok e) fun _ hd zz0=>?_;refine x_11 zz0 fun xs _ dd=>?_;refine ⟨dd.typeIs,fun b q=>?_,hd⟩;cases q;refine x_32 dd fun ob _ _ h1 h2 _=>?_;exact ⟨ob,h1,h2.2.1⟩
section
variable {d:V}{o:Option V}
theorem qc_ {Q:zQ} (hu:A.units+1<cLine) (I:Inv X zz σ H s) (g:DGet H a y o) (ry:RelV y u) (rd:RelV d r) (h : ∀ w' s',Inv X zz σ H s'->RelV (o.getD d) w'->Q w' s') :
  wpAny (model X.prog X.w) A (call (.builtin "dict.get") [.ref a,u,r]) Q E s:=by
 rcases g with ⟨zw,k,e,ey,l⟩ | ⟨zw,k,b,e,ey,eb,l⟩
 ·subst ey
  refine x_02 (mT_ I.hok e) fun z hd zz0=>?_;refine x_11 zz0 fun vs rel dd=>?_;refine call_meetsIn slot_dict_get dd.typeIs PySem.F.entry_dict_get (PySem.F.args_dict_get_3 _ _ _) (meets_dict_get_default (aI_ X.prog X.w) a (jw_ ry) hd r) ⟨_,dd.mapOf,h _ _ (I.tok _) ?_⟩;rw [l];exact (rel.val k).getD rd
 subst ey;cases (show u=Value.ref b from ry);refine x_02 (oS_ I.hok e) fun z hd zz0=>?_;refine x_11 zz0 fun xs rel dd=>?_;refine call_meetsIn slot_dict_get dd.typeIs PySem.F.entry_dict_get (PySem.F.args_dict_get_3 _ _ _) (meetsH_dict_get_default (tupleKind (aI_ X.prog X.w)) a b hd r) ⟨tupleKind_room_in1 hu,k,xs,k4_ I.hok eb,dd,h _ _ (I.tok _) ?_⟩;rw [l];exact (rel.val k).getD rd
end
def nc_ (td ty tx:TE):TE:=fun σ H Q=>td σ H fun x H1=>∃ a,x = .ref a/\IsD H1 a/\ty σ H1 fun y H2=>tx σ H2 fun z H3=>∃ o,DGet H3 a y o/\Q (o.getD z) H3
variable {zt zn:Pos}
section
variable {f:Expr}{tx:TE}
theorem mn_ (hu:X.A.units+1<cLine) (ho:PE X o td) (he:PE X e ty) (hf:PE X f tx) (m:M2 X o "get" zt e f zn):PE X (.Call (.Attribute o "get" zt) [e,f] [] zn) (nc_ td ty tx):=by
 intro zz s σ H Q I h;refine wpAny_Call_method m.base m.few m.line PySem.F.plainAttrs_dict slot_dict_get PySem.F.type_dict_get (thn (ho zz s σ H _ I h) fun u s1 zq=>?_);refine x_22 zq fun x H1 I1 rx zz0=>?_;refine x_12 zz0 fun a ex d q1=>?_;subst ex;obtain rfl:u=Value.ref a:=rx;obtain ⟨t1,t2,_⟩:=pV_ I1 d;refine ⟨t1,t2,?_⟩;rw [m.trees];refine Calls.callWith_builtin rfl (Calls.evalArgs_plain (Calls.spliced_cons (thn (he zz s1 σ H1 _ I1 q1) fun iv s2 ⟨y,H2,I2,ry,q2⟩ =>
  Calls.spliced_cons (thn (hf zz s2 σ H2 _ I2 q2) fun fv s3 ⟨z,H3,I3,rz,ov,g,q3⟩=>Calls.spliced_nil ?_))))
 exact qc_ hu I3 g ry rz fun w' s4 I4 rw'=>⟨_,H3,I4,rw',q3⟩
end
section
variable {zw:List (Key×V)}
theorem mX_ {Q:zQ} (I:Inv X zz σ H s) (e:Rd H a (.dK zw)) (h : ∀ p s',H p=none->Inv X zz σ (upd H p (.dK zw)) s'->Q (.ref p) s'):wpAny (model X.prog X.w) A (call (.type "dict") [.ref a]) Q E s:=by
 refine x_02 (mT_ I.hok e) fun z hd zz0=>?_;refine x_11 zz0 fun vs rel dd=>?_;refine kt_call_dict hd dd (by rw [<- rel.length];exact z) fun h' dd' hs=>?_;refine h _ _ (I.hok.fresh (Nat.le_refl _)) (I.laid (a:=s.heap.objs.size) (o := .dK zw) (t':=s.toks) (fun b q hq=>?_) (Nat.le_refl _) (nG_ z (beq_eq_false_iff_ne.mpr (Ne.symm (Nat.ne_of_lt I.big))) rel dd'));exact (hs.2 b (Nat.ne_of_lt (lt_size hq))).trans (get?_push_of_some _ hq)
end
theorem cW_:bootBuiltins "reversed"=some (.type "reversed"):=by left
section
variable {h':Heap}
theorem Inv.turnedNew {t':Nat}{ch:List Addr}{T:Addr}{ob:HO} (I:Inv X zz σ H s) (k : ∀ b o,b∉ch->s.heap.get? b=some o->h'.get? b=some o) (hf : ∀ b∈ch,FpOk X zz H b) (hT:s.heap.objs.size<=T)
  (new:aT_ X.prog X.w (upd H T ob) h' T ob):Inv X zz σ (upd H T ob) { s with heap:=h',toks:=t' }:=by
 have hn:H T=none:=I.hok.fresh hT;have nit : ∀ b u,H b=some u->b∉ch:=fun b u e z=>by
  have q:=(hf b z).1;rw [q] at e;cases e
 refine I.step (g':=s.gens) (d':=s.drawn) (ch:=ch) (fun b hb=>⟨(hf b hb).2.2.2.1,(hf b hb).2.1,(hf b hb).2.2.2.2.1,(hf b hb).2.2.2.2.2⟩) (fun b o _ _ hc e _=>k b o hc e) (fun b o _ _ hc e _=>⟨o.slots,k b o hc e⟩)
  (fun b o _ e n=>?_) (fun b o hc e=>⟨o,k b o hc e⟩) (fun b xs e=>?_) (fun b o u e=>?_) (fun b ps e=>⟨#[],?_⟩) (fun m hm=>?_) (fun b u e=>?_) I.bare
 ·rw [al_ (Nat.ne_of_lt (Nat.lt_of_lt_of_le (lt_size e) hT))];exact n
 ·rw [al_ (af_ e hn)];exact e
 ·rw [al_ (af_ e hn)];exact e
 ·rw [al_ (af_ e hn),e];simp
 ·obtain ⟨o,es,ep,ho,r⟩:=hm
  exact ⟨o,es,ep,k _ o (fun z=>(hf _ z).2.1 rfl) ho,r⟩
 by_cases hb:b=T
 ·subst hb
  rw [ad_] at e;cases e;exact new
 rw [al_ hb] at e;refine (I.hok b u e).stay (fun c v hc q=>k c v ?_ q) (fun c q=>by rw [al_ (af_ q hn)];exact q) fun c xs q=>by rw [al_ (af_ q hn)];exact q
 rcases hc with z | z
 ·rw [z];exact nit b u e
 exact nit c _ z
end
theorem iE_ {tg:Expr}{zz:zP}{σ:St}{H:Hp}{s:Shared}{R:It->Hp->Prop}{J:It}{tn:Nat->Heap->Prop}{tk:Nat} (I:Inv X zz σ H s) (o:Obj)
  (T:Turn X.prog X.w X.K tg J [s.heap.objs.size] s.heap.objs.size tn) (st:tn 0 (s.heap.push o)) (q:R J H):PIE X zz σ tg R (.ref s.heap.objs.size) { s with heap:=s.heap.push o,toks:=tk }:=by
 refine ⟨s.heap.objs.size,[s.heap.objs.size],tn,J,H,rfl,I.kept fun b ob e=>get?_push_of_some _ e,T,st,fun b hb=>?_,q⟩;have e:b=s.heap.objs.size:=by simpa using hb
 subst e;exact I.fpOk (Nat.le_refl _) (I.hok.fresh (Nat.le_refl _))
def Itv (K:Frag) (a:Addr) (n:Nat):It :=
 ⟨fun i H=>i<n/\∃ (xs:List V) (x:V),SqL K H a xs/\xs[n - 1 - i]? = some x,fun i H x H'=>H'=H/\∀ xs,SqL K H a xs->xs[n - 1 - i]? = some x,fun i _=>n<=i⟩
theorem lW_ {P:Program}{w:World}{K:Frag}{tg:Expr} (a it:Addr) (n:Nat):Turn P w K tg (Itv K a n) [it] it (fun i h=>i<=n/\h.IsRevIter it a ((n:Int) - 1 - (i:Nat))) where
 mem:=by simp
 obj:=fun i h st b hb=>by
  have e:b=it:=by simpa using hb
  subst e;refine x_01 st fun _ zz0=>?_;refine x_12 zz0 fun o e c d=>?_;exact ⟨o,e,fun v z=>by rw [d] at z;cases z⟩
 keep:=fun i h h' st k=>⟨st.1,st.2.at fun o e=>k it (by simp) o e⟩
 item:=by
  intro X hP hw hK hc i zz s σ H E I hf st hg;subst hP hw hK;refine x_01 hg fun hin zz0=>?_;refine x_21 zz0 fun xs x hq hx=>?_;refine x_12 (I.list hq) fun its rv p hz=>?_;obtain ⟨u,hu,ru⟩:=rv.get hx;obtain ⟨f0,f1,f2,f3,f4,f5⟩:=hf it (by simp);obtain ⟨_,hit⟩:=st;have e1:(n:Int) - 1 - ((i:Nat):Int)=((n - 1 - i:Nat):Int):=by omega
  rw [e1] at hit;refine wpAny_pyNext_rev_item hit p.isList (x:=u) (by simpa using hu) fun h' st' sb=>?_;have e2:((n - 1 - i:Nat):Int) - 1=(n:Int) - 1 - ((i+1:Nat):Int):=by omega
  rw [e2] at st';have I1:Inv X zz σ H { s with heap:=h' }:=I.turned (t':=s.toks) (fun b o hb e=>(sb.2 b hb).trans e) f0 f1 f3 f4 f5;refine x_12 (id st') fun o e c d=>?_;exact ⟨u,rfl,ll_ (s:={ s with heap:=h' }) e c d (by decide) ⟨x,H,I1,ru,⟨rfl,fun ys hy=>by rw [I.list_inj hy hq];exact hx⟩,⟨hin,st'⟩,fun b hb=>(hf b hb).1⟩⟩
 done:=by
  intro X hP hw hK hc i zz s σ H E I hf st hg;subst hP hw hK;obtain ⟨f0,f1,f2,f3,f4,f5⟩:=hf it (by simp);obtain ⟨hin,hit⟩:=st;have hge:n<=i:=hg;have e1:(n:Int) - 1 - ((i:Nat):Int) = -1:=by omega
  rw [e1] at hit;exact wpAny_pyNext_rev_end (I.ok.hd hc) hit fun h' eb=>⟨rfl,I.turned (t':=s.toks) (fun b o hb e=>eb b o hb e) f0 f1 f3 f4 f5⟩
 self:=fun A i s Q E st h=>wpAny_pyIter_revIter st.2 h
def iRev (K:Frag) (ta:TA):TI:=fun σ H R=>ta σ H fun vs H1=>∃ (a:Addr) (xs:List V),vs=[.ref a]/\SqL K H1 a xs/\R (Itv K a xs.length) H1
section
variable {tg:Expr}
theorem b9_ {e:Expr}{ta:TA}{p pos:Pos} (hg:Gl X "reversed") (hm:X.mg "reversed"=none) (ha:PA X [e] ta) (hs:starEach [e] X.env=[(false,eval e X.env)]:=by rfl):PI X tg (.Call (.Name "reversed" p) [e] [] pos) (iRev X.K ta):=by
 intro zz s σ H R I h;refine Call_ (d1_ I hg hm cW_ (PyProof.Rows.callWith_type1 (thn (ha pos zz s σ H _ I h) fun us s1 zq=>?_) hs rfl));refine x_22 zq fun vs H1 I1 r1 q1=>?_;refine x_22 q1 fun a xs e hq q=>?_;subst e;cases r1 with
 | cons r rr =>
 cases rr;cases r;refine x_12 (I1.list hq) fun its rv p' hz=>?_;have hl:=rv.length;have e1:((its.toArray.size:Nat):Int) - 1=(xs.length:Int) - 1 - ((0:Nat):Int):=by simp only [size_toArray];omega
 refine call_reversed_list p'.isList (wpAny_pyIter_revIter (l:=a) (i:=((its.toArray.size:Nat):Int) - 1) ⟨_,get?_push_size _ rfl,rfl,rfl⟩ ?_);refine iE_ (tk:=s1.toks) I1 _ (lW_ a _ xs.length) ⟨zero_le _,?_⟩ q;rw [<- e1];exact ⟨_,get?_push_size _ rfl,rfl,rfl⟩
end
noncomputable def Its (x:Str):It:=⟨fun i _=>i<x.cps.size,fun i H v H'=>H'=H/\∃ c,x.cps[i]? = some c/\v = .str ⟨#[c]⟩,fun i _=>x.cps.size<=i⟩
theorem ip_ {P:Program}{w:World}{K:Frag}{tg:Expr} (it:Addr) (x:Str) (t:Tok) (ty:String) (hty:ty="str_ascii_iterator"\/ty="str_iterator") :
  Turn P w K tg (Its x) [it] it (fun i h=>h.IsStrIter it ty x t i) where
 mem:=by simp
 obj:=fun i h st b hb=>by
  have e:b=it:=by simpa using hb
  subst e;refine x_12 st fun o e c d=>?_;exact ⟨o,e,fun v z=>by rw [d] at z;cases z⟩
 keep:=fun i h h' st k=>let ⟨o,ho,r⟩:=st;⟨o,k it (by simp) o ho,r⟩
 item:=by
  intro X hP hw hK hc i zz s σ H E I hf st hg;subst hP hw hK;obtain ⟨f0,f1,f2,f3,f4,f5⟩:=hf it (by simp);have W:Walks X.prog X.w X.A it [it] [it] x.cps.size (SignAt x) (fun i h=>h.IsStrIter it ty x t i):=by
   rcases hty with e | e
   ·rw [e];exact Walks.strAscii (I.ok.hd hc) it x t
   rw [e];exact Walks.strWide (I.ok.hd hc) it x t
  have hno:["enumerate","zip","dict_itemiterator","dict_reverseitemiterator","odict_iterator","itertools.zip_longest","itertools.pairwise"].contains ty=false:=by
   rcases hty with e | e
   ·rw [e];decide
   rw [e];decide
  refine W.item i s _ _ hg st fun v h' tk hv st' kk=>?_;refine x_21 hv fun c u hcx zr3=>?_;subst zr3;have I1:Inv X zz σ H { s with heap:=h',toks:=tk }:=I.turned (fun b o hb e=>kk b o (by simpa using hb) e) f0 f1 f3 f4 f5;refine x_12 (id st') fun oi e cc dd=>?_;exact ⟨_,rfl,ll_ (s:={ s with heap:=h',toks:=tk }) e cc dd hno ⟨.str ⟨#[c]⟩,H,I1,⟨u,rfl⟩,⟨rfl,c,hcx,rfl⟩,st',fun b hb=>(hf b hb).1⟩⟩
 done:=by
  intro X hP hw hK hc i zz s σ H E I hf st hg;subst hP hw hK;obtain ⟨f0,f1,f2,f3,f4,f5⟩:=hf it (by simp);have hx:x.cps[i]? = none:=Array.getElem?_eq_none hg;rcases hty with e | e
  ·rw [e] at st
   exact wpAny_pyNext_ascii_end (I.ok.hd hc) st hx fun h' eb=>⟨rfl,I.turned (t':=s.toks) (fun b o hb e=>eb b o hb e) f0 f1 f3 f4 f5⟩
  rw [e] at st;exact wpAny_pyNext_wide_end (I.ok.hd hc) st hx fun h' eb=>⟨rfl,I.turned (t':=s.toks) (fun b o hb e=>eb b o hb e) f0 f1 f3 f4 f5⟩
 self:=fun A i s Q E st h=>by
  rcases hty with e | e
  ·rw [e] at st;exact wpAny_pyIter_striter_ascii st h
  rw [e] at st;exact wpAny_pyIter_striter_wide st h
def iStr (te:TE):TI:=fun σ H R=>te σ H fun v H1=>∃ x,v = .str x/\R (Its x) H1
theorem nv_ {X:Cx}{tg e:Expr}{te:TE} (he:PE X e te):PI X tg e (iStr te):=by
 intro zz s σ H R I h;refine thn (he zz s σ H _ I h) fun v s1 zq=>?_;obtain ⟨y,H1,I1,r1,x,ex,q⟩:=zq;subst ex;obtain ⟨t,rfl⟩:=r1;cases ha:x.cps.all (· < 128)
 ·exact wpAny_pyIter_wide ha (iE_ (tk:=s1.toks) I1 _ (ip_ _ x t "str_iterator" (.inr rfl)) ⟨_,get?_push_size _ rfl,rfl,rfl⟩ q)
 exact wpAny_pyIter_ascii ha (iE_ (tk:=s1.toks) I1 _ (ip_ _ x t "str_ascii_iterator" (.inl rfl)) ⟨_,get?_push_size _ rfl,rfl,rfl⟩ q)
theorem cM_ {α β:Type}{G:α->β->Prop}{l₁:List α}{l₂:List β} (h:Paired G l₁ l₂) : ∀ {i:Nat}{a:α},l₁[i]? = some a->∃ b,l₂[i]? = some b/\G a b:=by
 induction h with
 | nil=>intro i a e;simp at e
 | @cons a b l₁ l₂ r t ih =>
 intro i a' e;cases i with
 | zero =>
  simp only [List.getElem?_cons_zero,Option.some.injEq] at e;subst e;exact ⟨b,rfl,r⟩
 | succ j =>
 simp only [List.getElem?_cons_succ] at e ⊢;exact ih e
noncomputable def Ite (K:Frag) (a:Addr):It :=
 ⟨fun i H=>∃ (xs:List V) (x:V),SqL K H a xs/\xs[i]? = some x,fun i H v H'=>∃ T x,v = .ref T/\H T=none/\H'=upd H T (.tup [.int (i:Nat),x])/\∀ xs,SqL K H a xs->xs[i]? = some x,fun i H=>∃ xs:List V,SqL K H a xs/\xs.length<=i⟩
theorem j4_ {P:Program}{w:World}{K:Frag}{elts:List Expr}{kk:Nat}{tpos:Pos} (a e it:Addr) :
  Turn P w K (.Tuple elts kk tpos) (Ite K a) [e,it] e (fun i h=>(∃ old,IsEnum h e it ((i:Nat):Int) old)/\h.IsListIter it a i/\e≠it) where
 mem:=by simp
 obj:=fun i h st b hb=>by
  obtain ⟨⟨old,he⟩,⟨o,ho,hc,hd⟩,_⟩:=st;have e':b=e\/b=it:=by simpa using hb
  rcases e' with z | z
  ·rw [z];exact ⟨_,he,fun v q=>nomatch q⟩
  rw [z];exact ⟨o,ho,fun v q=>by rw [hd] at q;cases q⟩
 keep:=fun i h h' st k=>let ⟨⟨old,he⟩,hi,hne⟩:=st;⟨⟨old,k e (by simp) _ he⟩,hi.at fun o q=>k it (by simp) o q,hne⟩
 item:=by
  intro X hP hw hK hc i zz s σ H E I hf st hg;subst hP hw hK;obtain ⟨⟨old,he⟩,hit,hne⟩:=st;refine x_21 hg fun xs x hq hx=>?_;refine x_12 (I.list hq) fun its rv p hz=>?_;obtain ⟨u,hu,ru⟩:=rv.get hx;have hel:e<s.heap.objs.size:=lt_size he;have hil:it<s.heap.objs.size:=by obtain ⟨_,q,_⟩:=hit;exact lt_size q
  refine wpAny_pyNext_enum_item he hit p.isList (x:=u) (by simpa using hu) hne fun h' ho hit' hT hsz hk=>?_;refine ⟨_,rfl,wpAny_letOwnedTupleGo_enum (s:={ s with heap:=h',toks:=s.toks+1 }) ho fun h'' he' sb=>?_⟩;have hT2:h''.get? s.heap.objs.size=some { cls := .type "tuple",data := .seq #[.int i s.toks,u] }:=(sb.2 _ (ne_of_gt hel)).trans hT;have new:aT_ X.prog X.w (upd H s.heap.objs.size (.tup [.int (i:Nat),x])) h'' s.heap.objs.size (.tup [.int (i:Nat),x]) :=
   ⟨by show 2<=sizeLine;decide,[.int i s.toks,u],.cons ⟨_,rfl⟩ (.cons ru .nil),⟨_,hT2,rfl,_,rfl⟩⟩
  have I1:Inv X zz σ (upd H s.heap.objs.size (.tup [.int (i:Nat),x])) { s with heap:=h'',toks:=s.toks+1 } :=
   I.turnedNew (ch:=[e,it]) (fun b ob hb q=>(sb.2 b (fun z=>hb (by simp [z]))).trans (hk b ob (fun z=>hb (by simp [z])) (fun z=>hb (by simp [z])) q)) hf (Nat.le_refl _) new
  refine ⟨.ref s.heap.objs.size,_,I1,rfl,⟨_,x,rfl,I.hok.fresh (Nat.le_refl _),rfl,fun ys hy=>by rw [I.list_inj hy hq];exact hx⟩,⟨⟨u,?_⟩,hit'.at fun o q=>(sb.2 it (Ne.symm hne)).trans q,hne⟩,fun b hb=>?_⟩
  ·have e1:((i+1:Nat):Int)=(i:Int)+1:=by omega
   rw [e1];exact he'
  have hb':b<s.heap.objs.size:=by
   have e':b=e\/b=it:=by simpa using hb
   rcases e' with z | z
   ·rw [z];exact hel
   rw [z];exact hil
  rw [al_ (Nat.ne_of_lt hb')];exact (hf b hb).1
 done:=by
  intro X hP hw hK hc i zz s σ H E I hf st hg;subst hP hw hK;obtain ⟨⟨old,he⟩,hit,hne⟩:=st;obtain ⟨xs,hq,hx⟩:=hg;refine x_12 (I.list hq) fun its rv p hz=>?_;obtain ⟨f0,f1,f2,f3,f4,f5⟩:=hf it (by simp);have hl:=rv.length;exact wpAny_pyNext_enum_end (I.ok.hd hc) he hit p.isList (by simp;omega) fun h' eb=>⟨rfl,I.turned (t':=s.toks) (fun b o hb q=>eb b o hb q) f0 f1 f3 f4 f5⟩
 self:=fun A i s Q E st h=>let ⟨⟨_,he⟩,_⟩:=st;wpAny_pyIter_enum he h
def pX_ (K:Frag) (ta:TA):TI:=fun σ H R=>ta σ H fun vs H1=>∃ a xs,vs=[.ref a]/\SqL K H1 a xs/\R (Ite K a) H1
theorem oi_ {X:Cx}{e:Expr}{ta:TA}{p pos tpos:Pos}{elts:List Expr}{kk:Nat} (hg:Gl X "enumerate") (hm:X.mg "enumerate"=none) (ha:PA X [e] ta) (hs:starEach [e] X.env=[(false,eval e X.env)]:=by rfl) :
  PI X (.Tuple elts kk tpos) (.Call (.Name "enumerate" p) [e] [] pos) (pX_ X.K ta):=by
 intro zz s σ H R I h;refine Call_ (d1_ I hg hm boot_enumerate (PyProof.Rows.callWith_type1 (thn (ha pos zz s σ H _ I h) fun us s1 zq=>?_) hs rfl));refine x_22 zq fun vs H1 I1 r1 q1=>?_;refine x_22 q1 fun a xs ex hq q=>?_;subst ex;cases r1 with
 | cons r rr =>
 cases rr;cases r;refine x_12 (I1.list hq) fun its rv p' hz=>?_;refine call_enumerate_list p'.isList fun h' he hit hsz hk=>wpAny_pyIter_enum he ?_;have I2:Inv X zz σ H1 { s1 with heap:=h' }:=I1.kept (t':=s1.toks) hk;refine ⟨s1.heap.objs.size+1,[s1.heap.objs.size+1,s1.heap.objs.size],_,_,H1,rfl,I2,j4_ a (s1.heap.objs.size+1) s1.heap.objs.size,⟨⟨.none,he⟩,hit,Nat.succ_ne_self _⟩,fun b hb=>?_,q⟩;have e':b=s1.heap.objs.size+1\/b=s1.heap.objs.size:=by simpa using hb
 have hle:s1.heap.objs.size<=b:=by
  rcases e' with z | z
  ·rw [z];exact le_add_right _ _
  rw [z];exact Nat.le_refl _
 exact I1.fpOk hle (I1.hok.fresh hle)
end L2
namespace TL
open PySem PySem.Builtin PySem.Builtin.Str PySem.StrLaws
noncomputable abbrev tl (x:Str):List Nat:=x.cps.toList
theorem dr_ (x:Str):x.length=(tl x).length:=by simp [tl,Str.length]
theorem ci_ {x y:Str} (h:tl x=tl y):x=y:=Str.ext' (Array.toList_inj.mp h)
theorem cn_ (x y:Str):tl (x++y)=tl x++tl y:=by
 show (x++y).cps.toList=_;rw [Str.cps_append,Array.toList_append]
theorem pc_ (l:List Nat):tl ⟨l.toArray⟩=l:=rfl
theorem pN_ (x:Str):(⟨(tl x).toArray⟩:Str)=x:=ci_ rfl
theorem bZ_ : ∀ {l m:List Str},l.map tl=m.map tl->l=m
 | [],[],_=>rfl
 | [],_::_,h=>by simp at h
 | _::_,[],h=>by simp at h
 | x::l,y::m,h=>by
  rw [map_cons,map_cons] at h;injection h with h1 h2;rw [ci_ h1,bZ_ h2]
theorem hy_ (s:String):tl (ofString s)=s.toList.map Char.toNat:=PyProof.Rows.signs_ofString s
def pre (S l:List Nat):Bool:=l.take S.length == S
noncomputable def spl (S:List Nat):Nat->List Nat->List Nat->List (List Nat)
 | _,zx,[]=>[zx]
 | 0,zx,c::r=>if pre S (c::r)=true then zx::spl S (S.length - 1) [] r else spl S 0 (zx++[c]) r
 | k+1,zx,_::r=>spl S k zx r
def par (S:List Nat):List Nat->List Nat->Option (List Nat×List Nat)
 | _,[]=>none
 | zx,c::r=>if pre S (c::r)=true then some (zx,(c::r).drop S.length) else par S (zx++[c]) r
theorem cZ_ (S:List Nat) (k:Nat) (zx:List Nat):spl S k zx []=[zx]:=by cases k <;> rfl
theorem fS_ {S zx r:List Nat}{c:Nat} (h:pre S (c::r)=true):spl S 0 zx (c::r)=zx::spl S (S.length - 1) [] r:=by
 show (if pre S (c::r)=true then zx::spl S (S.length - 1) [] r else spl S 0 (zx++[c]) r)=_;rw [if_pos h]
theorem ei_ {S zx r:List Nat}{c:Nat} (h:pre S (c::r)=false):spl S 0 zx (c::r)=spl S 0 (zx++[c]) r:=by
 show (if pre S (c::r)=true then zx::spl S (S.length - 1) [] r else spl S 0 (zx++[c]) r)=_;rw [if_neg (by rw [h];exact Bool.false_ne_true)]
theorem eh_ (S:List Nat) : ∀ (k:Nat) (zx l:List Nat),spl S k zx l=spl S 0 zx (l.drop k)
 | 0,_,_=>by rw [drop_zero]
 | k+1,zx,[]=>by rw [List.drop_nil,cZ_,cZ_]
 | k+1,zx,c::r=>by
  show spl S k zx r=spl S 0 zx (r.drop k);exact eh_ S k zx r
theorem on_ {S zx r:List Nat}{c:Nat} (h:pre S (c::r)=true):par S zx (c::r)=some (zx,(c::r).drop S.length):=by
 show (if pre S (c::r)=true then some (zx,(c::r).drop S.length) else par S (zx++[c]) r)=_;rw [if_pos h]
theorem ms_ {S zx r:List Nat}{c:Nat} (h:pre S (c::r)=false):par S zx (c::r)=par S (zx++[c]) r:=by
 show (if pre S (c::r)=true then some (zx,(c::r).drop S.length) else par S (zx++[c]) r)=_;rw [if_neg (by rw [h];exact Bool.false_ne_true)]
theorem kE_ {S:List Nat} (hS:S≠[]):pre S []=false:=by
 cases S with
 | nil=>exact absurd rfl hS
 | cons s S=>rfl
theorem hH_ {s c:Nat} (S r:List Nat) (h:c≠s):pre (s::S) (c::r)=false:=by
 cases hp:pre (s::S) (c::r) with
 | false=>rfl
 | true =>
 have e:(c::r).take (s::S).length=s::S:=eq_of_beq hp;rw [length_cons,take_succ_cons] at e;injection e with e1 e2;exact absurd e1 h
theorem iz_ (S r:List Nat):pre S (S++r)=true:=by
 show ((S++r).take S.length == S)=true;have e:(S++r).take S.length=S:=List.take_left;rw [e] <;> exact beq_self_eq_true S
theorem b1_ {L:List Nat}{a:Nat} (h:a<L.length) : ∃ c,L.drop a=c::L.drop (a+1):=⟨L[a],drop_eq_getElem_cons h⟩
theorem eH_ (S L:List Nat) : ∀ (m a:Nat) (zx:List Nat),a+m<=L.length->(∀ k,a<=k->k<a+m->pre S (L.drop k)=false) ->
  spl S 0 zx (L.drop a)=spl S 0 (zx++(L.drop a).take m) (L.drop (a+m))
 | 0,a,zx,_,_=>by rw [List.take_zero,append_nil,add_zero]
 | m+1,a,zx,h,hn=>by
  have hlt:a<L.length:=by omega
  obtain ⟨c,e⟩:=b1_ hlt;have h0:=hn a (Nat.le_refl _) (by omega);have ih:=eH_ S L m (a+1) (zx++[c]) (by omega) (fun k h1 h2=>hn k (by omega) (by omega));have e2:a+1+m=a+(m+1):=by omega
  rw [e2] at ih;rw [e] at h0;rw [e,ei_ h0,ih,take_succ_cons,append_assoc] <;> rfl
theorem f5_ (S L:List Nat) : ∀ (m a:Nat) (zx:List Nat),a+m<=L.length->(∀ k,a<=k->k<a+m->pre S (L.drop k)=false) ->
  par S zx (L.drop a)=par S (zx++(L.drop a).take m) (L.drop (a+m))
 | 0,a,zx,_,_=>by rw [List.take_zero,append_nil,add_zero]
 | m+1,a,zx,h,hn=>by
  have hlt:a<L.length:=by omega
  obtain ⟨c,e⟩:=b1_ hlt;have h0:=hn a (Nat.le_refl _) (by omega);have ih:=f5_ S L m (a+1) (zx++[c]) (by omega) (fun k h1 h2=>hn k (by omega) (by omega));have e2:a+1+m=a+(m+1):=by omega
  rw [e2] at ih;rw [e] at h0;rw [e,ms_ h0,ih,take_succ_cons,append_assoc] <;> rfl
theorem ep_ (L:List Nat) (a b:Nat):(L.drop a).drop b=L.drop (a+b):=by
 first
  | rw [drop_drop]
  | rw [drop_drop,add_comm]
theorem nf_ {S L:List Nat} (hS:S≠[]) {c:Nat}{zx:List Nat} (h:pre S (L.drop c)=true):spl S 0 zx (L.drop c)=zx::spl S 0 [] (L.drop (c+S.length)):=by
 rw [<- ep_];cases e:L.drop c with
 | nil=>rw [e,kE_ hS] at h;cases h
 | cons d r =>
 rw [e] at h;rw [fS_ h,eh_];cases S with
 | nil=>exact absurd rfl hS
 | cons s S=>rfl
theorem nw_ {S L:List Nat} (hS:S≠[]) {c:Nat}{zx:List Nat} (h:pre S (L.drop c)=true):par S zx (L.drop c)=some (zx,L.drop (c+S.length)):=by
 rw [<- ep_];cases e:L.drop c with
 | nil=>rw [e,kE_ hS] at h;cases h
 | cons d r =>
 rw [e] at h;rw [on_ h]
theorem lM_ {x y:Str} (hy:tl y≠[]) (i:Nat):At x y x.length i↔pre (tl y) ((tl x).drop i)=true:=by
 have hx:=dr_ x;have hl:=dr_ y
 constructor
 ·intro h
  have h2:=h.2;rw [subAt_eq,hl] at h2;exact h2
 intro h;have e:((tl x).drop i).take (tl y).length=tl y:=eq_of_beq h;have e1:=congrArg List.length e;rw [length_take,length_drop] at e1;have e2:0<(tl y).length:=length_pos_iff.mpr hy;refine ⟨by omega,?_⟩;rw [subAt_eq,hl];exact h
theorem my_ {x y:Str} (hy:tl y≠[]) {i:Nat} (h : ¬ At x y x.length i):pre (tl y) ((tl x).drop i)=false:=by
 cases hp:pre (tl y) ((tl x).drop i) with
 | false=>rfl
 | true=>exact absurd ((lM_ hy i).mpr hp) h
theorem len1 {y:Str} (hy:tl y≠[]):1<=y.length:=by
 have e2:0<(tl y).length:=length_pos_iff.mpr hy;rw [dr_ y];exact e2
theorem ez_ (x:Str) (i j:Nat):tl (strSub x i j)=((tl x).drop i).take (j - i):=strSub_toList x i j
theorem di_ (x:Str) (i:Nat):tl (strSub x i x.length)=(tl x).drop i:=by
 rw [ez_,dr_ x];exact take_of_length_le (by rw [length_drop] <;> omega)
theorem gZ_ {x y:Str} (hy:tl y≠[]) : ∀ (cuts:List Nat) (a f:Nat),a<=(tl x).length->ChainG x y x.length a cuts f->(∀ k,f<=k->¬ At x y x.length k) ->
  (partsFrom x y.length a cuts).map tl=spl (tl y) 0 [] ((tl x).drop a)
 | [],a,f,ha,h,hn=>by
  have e:f=a:=h;subst e;show [tl (strSub x f x.length)]=_;have run:=eH_ (tl y) (tl x) ((tl x).length - f) f [] (by omega) (fun k h1 _=>my_ hy (hn k h1));have e2:f+((tl x).length - f)=(tl x).length:=by omega
  rw [e2,drop_length,cZ_,nil_append,take_of_length_le (by rw [length_drop] <;> omega)] at run
  rw [run,di_]
 | c::r,a,f,ha,h,hn=>by
  refine x_03 h fun h1 h2 h3 h4=>?_;have hc:c+y.length<=x.length:=h2.1;have hx:=dr_ x;have hl:=dr_ y;have ih:=gZ_ hy r (c+y.length) f (by omega) h4 hn;show tl (strSub x a c)::(partsFrom x y.length (c+y.length) r).map tl=_;have run:=eH_ (tl y) (tl x) (c - a) a [] (by omega) (fun k k1 k2=>my_ hy (h3 k k1 (by omega)));have e2:a+(c - a)=c:=by omega
  rw [e2,nil_append,nf_ hy ((lM_ hy c).mp h2)] at run;rw [run,ih,ez_,hl]
theorem gF_ (x y:Str) (hy:tl y≠[]) (hk : ¬ Builtin.Str.strKind x<Builtin.Str.strKind y):(Txt.split x y).map tl=spl (tl y) 0 [] (tl x):=by
 obtain ⟨f,g,hn⟩:=occ_tight x y (len1 hy);have key:=gZ_ hy _ 0 f (zero_le _) g hn;rw [drop_zero] at key;have none_case:occurrences x y 0 x.length (x.length+1)=[]->[x].map tl=spl (tl y) 0 [] (tl x):=fun ho=>by
  rw [ho] at key;rw [<- key];show [tl x]=[tl (strSub x 0 x.length)];rw [sub_whole]
 unfold Txt.split;by_cases h1:(decide (x.length<y.length) || decide (Builtin.Str.strKind x<Builtin.Str.strKind y))=true
 ·rw [if_pos h1]
  have hlt:x.length<y.length:=by
   simp only [or_eq_true,decide_eq_true_eq] at h1;rcases h1 with h | h
   ·exact h
   exact absurd h hk
  refine none_case ?_;cases ho:occurrences x y 0 x.length (x.length+1) with
  | nil=>rfl
  | cons c r =>
  rw [ho] at g;have hc:c+y.length<=x.length:=g.2.1.1;omega
 rw [if_neg h1];by_cases h2:(occurrences x y 0 x.length (x.length+1)).isEmpty=true
 ·rw [if_pos h2]
  exact none_case (List.isEmpty_iff.mp h2)
 rw [if_neg h2,partsBetween_eq];exact key
theorem k3_ {x y:Str} (h:y.cps.all (· < 256)=true) : ¬ Builtin.Str.strKind x<Builtin.Str.strKind y:=by
 have e:Builtin.Str.strKind y=1:=by unfold PySem.Builtin.Str.strKind;rw [if_pos h]
 rw [e];unfold PySem.Builtin.Str.strKind;split
 ·omega
 split <;> omega
theorem f3_ (x y:Str) (hy:tl y≠[]) :
  Txt.partition x y=(match par (tl y) [] (tl x) with | some (a,b)=>(⟨a.toArray⟩,y,⟨b.toArray⟩) | none=>(x,Str.empty,Str.empty)):=by
 have hx:=dr_ x;have hl:=dr_ y;rcases PyProof.Rows.partition_whole x y with ⟨e,hn⟩ | ⟨i,e,hi,hn⟩
 ·have run:=f5_ (tl y) (tl x) (tl x).length 0 [] (by omega) (fun k _ _=>my_ hy (hn k))
  rw [drop_zero,zero_add,drop_length] at run;rw [e,run] <;> rfl
 have hb:i+y.length<=x.length:=hi.1;have run:=f5_ (tl y) (tl x) i 0 [] (by omega) (fun k _ k2=>my_ hy (hn k (by omega)));rw [drop_zero,zero_add,nil_append,nw_ hy ((lM_ hy i).mp hi)] at run;rw [e,run];have e1:strSub x 0 i=⟨((tl x).take i).toArray⟩:=ci_ (by rw [ez_,drop_zero,sub_zero]);have e2:strSub x (i+y.length) x.length=⟨((tl x).drop (i+(tl y).length)).toArray⟩:=ci_ (by rw [di_,hl]);rw [e1,e2] <;> rfl
theorem l0_ {S p rest zx:List Nat} (hS:S≠[]) (h : ∀ i,i<p.length->pre S ((p++(S++rest)).drop i)=false) :
  spl S 0 zx (p++(S++rest))=(zx++p)::spl S 0 [] rest:=by
 have run:=eH_ S (p++(S++rest)) p.length 0 zx (by rw [length_append];omega) (fun k _ k2=>h k (by omega));have ed:(p++(S++rest)).drop p.length=S++rest:=drop_left;rw [drop_zero,zero_add,List.take_left] at run;rw [run,nf_ hS (by rw [ed];exact iz_ S rest),<- ep_,ed,drop_left]
theorem l1_ {S p zx:List Nat} (h : ∀ i,i<p.length->pre S (p.drop i)=false):spl S 0 zx p=[zx++p]:=by
 have run:=eH_ S p p.length 0 zx (by omega) (fun k _ k2=>h k (by omega));rw [drop_zero,zero_add,drop_length,cZ_,take_length] at run;exact run
theorem mr_ {S p rest zx:List Nat} (hS:S≠[]) (h : ∀ i,i<p.length->pre S ((p++(S++rest)).drop i)=false) :
  par S zx (p++(S++rest))=some (zx++p,rest):=by
 have run:=f5_ S (p++(S++rest)) p.length 0 zx (by rw [length_append];omega) (fun k _ k2=>h k (by omega));have ed:(p++(S++rest)).drop p.length=S++rest:=drop_left;rw [drop_zero,zero_add,List.take_left] at run;rw [run,nw_ hS (by rw [ed];exact iz_ S rest),<- ep_,ed,drop_left]
theorem hZ_ {s:Nat}{S p q:List Nat} (h:s∉p) : ∀ i,i<p.length->pre (s::S) ((p++q).drop i)=false:=fun i hi=>by
 have hlt:i<(p++q).length:=by rw [length_append];omega
 have e:(p++q).drop i=(p++q)[i]::(p++q).drop (i+1):=drop_eq_getElem_cons hlt;rw [e];refine hH_ _ _ fun z=>h ?_;have e1:(p++q)[i]=p[i]:=List.getElem_append_left hi;rw [<- z,e1];exact List.getElem_mem hi
theorem gG_ {s:Nat}{S p rest zx:List Nat} (h:s∉p):spl (s::S) 0 zx (p++(s::S++rest))=(zx++p)::spl (s::S) 0 [] rest :=
 l0_ (by simp) (hZ_ h)
theorem eI_ {s:Nat}{S p zx:List Nat} (h:s∉p):spl (s::S) 0 zx p=[zx++p]:=l1_ fun i hi=>by
 have z:=hZ_ (S:=S) (q:=[]) h i hi;rw [append_nil] at z;exact z
theorem kQ_ {s:Nat}{S p rest zx:List Nat} (h:s∉p):par (s::S) zx (p++(s::S++rest))=some (zx++p,rest):=mr_ (by simp) (hZ_ h)
def dP_ (S:List Nat):List (List Nat)->List Nat
 | []=>[]
 | [p]=>p
 | p::q::r=>p++(S++dP_ S (q::r))
theorem fQ_ (y:Str) : ∀ parts:List Str,tl (Str.join y parts)=dP_ (tl y) (parts.map tl)
 | []=>rfl
 | [_]=>rfl
 | x::z::r=>by
  show tl (x++y++Str.join y (z::r))=tl x++(tl y++dP_ (tl y) ((z::r).map tl));rw [cn_,cn_,fQ_ y (z::r),append_assoc]
theorem k7_ (y:Str) (parts:List Str):Txt.join y parts=Str.join y parts:=glued_eq_join y parts
theorem f4_ {y:Str}{s:Nat}{S:List Nat} (ey:tl y=s::S) {a b:Str} (h:s∉tl a):Txt.partition (a++y++b) y=(a,y,b):=by
 rw [f3_ _ y (by rw [ey];simp),cn_,cn_,append_assoc,ey,kQ_ h];show ((⟨([]++tl a).toArray⟩:Str),y,(⟨(tl b).toArray⟩:Str))=_;rw [nil_append,pN_,pN_]
end TL
namespace L2
open PySem PySem.Spec PyProof.Rows
theorem gz_ : ∀ l:List (Str×Tok),Vals ((l.map (·.1)).map V.str) (strValues l)
 | [] => .nil
 | p::r => .cons ⟨p.2,rfl⟩ (gz_ r)
theorem co_ : ∀ {ys:List Str}{us:List Value},Vals (ys.map V.str) us->StrsAre us ys
 | [],_,.nil => .nil
 | y::ys,_,.cons r t=>by
  obtain ⟨k,rfl⟩:=r;exact .cons y k (co_ t)
def ek_ (ys:List Str):Hp->VK->Prop:=fun H Q=>∀ p,H p=none->Q (.ref p) (upd H p (.lst (ys.map V.str)))
variable {X:Cx}{s:Shared}
section
variable {zz:zP}{σ:St}{H:Hp}{Q:VK}
theorem eS_ {l:List (Str×Tok)}{ys:List Str}{k:Nat} (I:Inv X zz σ H s) (e:l.map (·.1)=ys) (hz:ys.length<=sizeLine) (h:ek_ ys H Q) :
  EP X zz σ Q (.ref s.heap.objs.size) { s with toks:=k,heap:=s.heap.push { cls := .type "list",data := .seq (strValues l).toArray } }:=by
 have hp:=I.hok.fresh (Nat.le_refl _);refine ⟨.ref s.heap.objs.size,upd H s.heap.objs.size (.lst (ys.map V.str)),I.laid (fun b u q=>get?_push_of_some _ q) (Nat.le_refl _) ⟨by rw [length_map];exact hz,strValues l,_,?_,get?_push_size _ rfl⟩,rfl,h _ hp⟩;rw [<- e];exact gz_ l
theorem fr_ {x y z:Str}{t u v:Tok}{k:Nat} (I:Inv X zz σ H s) (h : ∀ p,H p=none->Q (.ref p) (upd H p (.tup [.str x,.str y,.str z]))) :
  EP X zz σ Q (.ref s.heap.objs.size) { s with toks:=k,heap:=s.heap.push { cls := .type "tuple",data := .seq [Value.str x t,.str y u,.str z v].toArray } }:=by
 have hp:=I.hok.fresh (Nat.le_refl _);exact ⟨.ref s.heap.objs.size,upd H s.heap.objs.size (.tup [.str x,.str y,.str z]),I.laid (fun b u q=>get?_push_of_some _ q) (Nat.le_refl _)
  ⟨by show 3<=sizeLine;decide,[Value.str x t,.str y u,.str z v],.cons ⟨t,rfl⟩ (.cons ⟨u,rfl⟩ (.cons ⟨v,rfl⟩ .nil)),_,get?_push_size _ rfl,rfl,_,rfl⟩,rfl,h _ hp⟩
end
theorem iR_:MtR X "str.split" (fun x xs H Q=>∃ a b,x = .str a/\xs=[.str b]/\(b.length == 0)=false/\a.length+2<=sizeLine/\ek_ (Txt.split a b) H Q):=by
 intro zz s σ H x xs v us Q I rx rs h;obtain ⟨a,b,rfl,rfl,hb,hz,h⟩:=h;obtain ⟨t,rfl⟩:=rx;cases rs with
 | cons r1 rs =>
 cases rs;obtain ⟨u,rfl⟩:=r1;have hl:(Txt.split a b).length<=sizeLine:=Nat.le_trans (PyProof.Rows.split_le a b) hz;have hn:(Builtin.Str.partsBetween a (Builtin.Str.occurrences a b 0 a.length (a.length+1)) b.length).length<=sizeLine:=by
  have e1:=StrLaws.occ_length_le a b 0 a.length (a.length+1);rw [length_partsBetween];omega
 cases h1:(decide (a.length<b.length) || decide (Builtin.Str.strKind a<Builtin.Str.strKind b))
 ·cases hf:(Builtin.Str.occurrences a b 0 a.length (a.length+1)).isEmpty
  ·refine call_meets F.slot_str_split (typeIs_str _ _ _) F.entry_str_split (F.args_str_split_2 _ _) (meets_str_split_sep a b t u h1 hb hf (by omega) hn) ?_
   show EP X zz σ Q (.ref s.heap.objs.size) { s with toks:=_,heap:=s.heap.push { cls := .type "list",data := .seq (strsFrom s.toks (Builtin.Str.partsBetween a (Builtin.Str.occurrences a b 0 a.length (a.length+1)) b.length)).toArray } };rw [strsFrom_eq];exact eS_ (ys:=Txt.split a b) I ((numbered_texts _ _).trans ((if_neg (ne_true_of_eq_false h1)).trans (if_neg (ne_true_of_eq_false hf))).symm) hl h
  refine call_meets F.slot_str_split (typeIs_str _ _ _) F.entry_str_split (F.args_str_split_2 _ _) (meets_str_split_not_found a b t u h1 hb hf) ?_;exact eS_ (l:=[(a,t)]) (ys:=Txt.split a b) (k:=s.toks) I ((if_neg (ne_true_of_eq_false h1)).trans (if_pos hf)).symm hl h
 refine call_meets F.slot_str_split (typeIs_str _ _ _) F.entry_str_split (F.args_str_split_2 _ _) (meets_str_split_cannot_occur a b t u h1) ?_;exact eS_ (l:=[(a,t)]) (ys:=Txt.split a b) (k:=s.toks) I (if_pos h1).symm hl h
theorem g4_:MtR X "str.partition" (fun x xs H Q=>∃ a b,x = .str a/\xs=[.str b]/\(b.length == 0)=false/\a.length<=sizeLine /\
  ∀ p,H p=none->Q (.ref p) (upd H p (.tup [.str (Txt.partition a b).1,.str (Txt.partition a b).2.1,.str (Txt.partition a b).2.2]))):=by
 intro zz s σ H x xs v us Q I rx rs h;obtain ⟨a,b,rfl,rfl,hb,hz,h⟩:=h;obtain ⟨t,rfl⟩:=rx;cases rs with
 | cons r1 rs =>
 cases rs;obtain ⟨u,rfl⟩:=r1;refine call_meets F.slot_str_partition (typeIs_str _ _ _) F.entry_str_partition (F.args_str_partition_2 _ _) (meets_str_partition a b t u hb hz) ?_;unfold Txt.partition at h;revert h;cases Builtin.Str.occurrences a b 0 a.length 1 with
 | nil=>intro h;exact fr_ I h
 | cons i r=>intro h;exact fr_ I h
theorem ox_:MtR X "str.join" (fun x xs H Q=>∃ a p,∃ ys:List Str,x = .str a/\xs=[.ref p]/\(SqL X.K H p (ys.map V.str)\/SqT X.K H p (ys.map V.str)) /\
  (ys.map (·.length)).sum+ys.length * a.length<=16777216/\Q (.str (Txt.join a ys)) H):=by
 intro zz s σ H x xs v us Q I rx rs h;obtain ⟨a,p,ys,rfl,rfl,hp,hz,h⟩:=h;obtain ⟨t,rfl⟩:=rx;cases rs with
 | cons r1 rs =>
 cases rs;cases r1;rcases hp with hp | hp
 ·obtain ⟨its,r,⟨o,n,ho,hc,_,hd⟩,_⟩:=I.list hp
  exact PyProof.Rows.join_list (items:=its.toArray) ⟨o,ho,hc,n,hd⟩ (by rw [List.toList_toArray];exact co_ r) hz fun t' k=>⟨.str _,H,I.tok k,⟨t',rfl⟩,h⟩
 obtain ⟨its,r,ht,_⟩:=I.tuple hp;exact PyProof.Rows.join_tuple (items:=its.toArray) ht (by rw [List.toList_toArray];exact co_ r) hz fun t' k=>⟨.str _,H,I.tok k,⟨t',rfl⟩,h⟩
theorem mt1 {id:String}{g:Str->Str->V} (rule : ∀ (a b:Str) (t u:Tok) (s:Shared) (Q:zQ),(∀ (v:Value) (k:Nat),RelV (g a b) v->Q v { s with toks:=k }) ->
  wpAny (model X.prog X.w) X.A (call (.builtin id) [.str a t,.str b u]) Q X.xe s):MtR X id (fun x xs H Q=>∃ a b,x = .str a/\xs=[.str b]/\Q (g a b) H):=by
 intro zz s σ H x xs v us Q I rx rs h;obtain ⟨a,b,rfl,rfl,h⟩:=h;obtain ⟨t,rfl⟩:=rx;cases rs with
 | cons r1 rs =>
 cases rs;obtain ⟨u,rfl⟩:=r1;exact rule a b t u s _ fun v k r=>⟨g a b,H,I.tok k,r,h⟩
theorem gc_:MtR X "str.startswith" (fun x xs H Q=>∃ a b,x = .str a/\xs=[.str b]/\Q (.bl (Txt.startswith a b)) H) :=
 mt1 (g:=fun a b => .bl (Txt.startswith a b)) fun _ _ _ _ s _ h=>PySem.SC.startswith (h _ s.toks rfl)
theorem byz_:ec_ X (.type "int") (fun xs H Q=>∃ a n,xs=[.str a]/\PySem.intText? a=some n/\a.length<=640/\Q (.int n) H):=by
 intro zz s σ H xs us Q I rs h;obtain ⟨a,n,rfl,hn,hl,h⟩:=h;cases rs with
 | cons r1 rs =>
 cases rs;obtain ⟨t,rfl⟩:=r1;exact PySem.W.KIN.call_text hn hl ⟨.int n,H,I.tok _,⟨_,rfl⟩,h⟩
variable {o e:Expr}{to te:TE}
def tM0 (r:V->List V->Hp->VK->Prop) (to:TE):TE:=fun σ H Q=>to σ H fun x H1=>(∃ a,x = .str a)/\r x [] H1 Q
def tM1 (r:V->List V->Hp->VK->Prop) (to te:TE):TE:=fun σ H Q=>to σ H fun x H1=>(∃ a,x = .str a)/\te σ H1 fun y H2=>r x [y] H2 Q
theorem mj_ {id:String}{name:Str}{zt pos:Pos}{r:V->List V->Hp->VK->Prop} (slot:Slot "str" name id) (ty:typeOf (.builtin id)=pure (.type "method_descriptor")) (rule:MtR X id r) (ho:PE X o to) (he:PE X e te)
  (hs:starEach [e] X.env=[(false,eval e X.env)]:=by rfl) (zj:attributeBase o name X.env (eval o X.env)=eval o X.env:=by rfl) (zl:(zt.endLine == pos.line)=true:=by rfl) :
  PE X (.Call (.Attribute o name zt) [e] [] pos) (tM1 r to te):=by
 intro zz s σ H Q I h;refine PySem.Call_method1 zj hs zl (thn (ho zz s σ H _ I h) fun v s1 zq=>?_);refine x_22 zq fun x H1 I1 r1 q1=>?_;obtain ⟨⟨a,rfl⟩,q1⟩:=q1;obtain ⟨t,rfl⟩:=_root_.id r1;refine ⟨"str",_,F.plainAttrs_str,slot,ty,typeIs_str _ _ _,(fun _ e=>nomatch e),Calls.callWith_builtin rfl (Calls.evalArgs_plain (Calls.spliced_cons ?_))⟩;exact thn (he zz s1 σ H1 _ I1 q1) fun u s2 ⟨y,H2,I2,r2,q2⟩=>Calls.spliced_nil (rule zz s2 σ H2 _ [y] _ [u] Q I2 r1 (.cons r2 .nil) q2)
theorem iG_ {zt pos:Pos} (ho:PE X o to) (he:PE X e te) (hs:starEach [e] X.env=[(false,eval e X.env)]:=by rfl) (zj:attributeBase o "split" X.env (eval o X.env)=eval o X.env:=by rfl) (zl:(zt.endLine == pos.line)=true:=by rfl) :
  PE X (.Call (.Attribute o "split" zt) [e] [] pos) (tM1 (fun x xs H Q=>∃ a b,x = .str a/\xs=[.str b]/\(b.length == 0)=false/\a.length+2<=sizeLine/\ek_ (Txt.split a b) H Q) to te) :=
 mj_ F.slot_str_split F.type_str_split iR_ ho he hs zj zl
theorem gX_ {zt pos:Pos} (ho:PE X o to) (he:PE X e te) (hs:starEach [e] X.env=[(false,eval e X.env)]:=by rfl) (zj:attributeBase o "partition" X.env (eval o X.env)=eval o X.env:=by rfl) (zl:(zt.endLine == pos.line)=true:=by rfl) :
  PE X (.Call (.Attribute o "partition" zt) [e] [] pos) (tM1 (fun x xs H Q=>∃ a b,x = .str a/\xs=[.str b]/\(b.length == 0)=false/\a.length<=sizeLine /\
   ∀ p,H p=none->Q (.ref p) (upd H p (.tup [.str (Txt.partition a b).1,.str (Txt.partition a b).2.1,.str (Txt.partition a b).2.2]))) to te) :=
 mj_ F.slot_str_partition F.type_str_partition g4_ ho he hs zj zl
theorem kM_ {zt pos:Pos} (ho:PE X o to) (he:PE X e te) (hs:starEach [e] X.env=[(false,eval e X.env)]:=by rfl) (zj:attributeBase o "join" X.env (eval o X.env)=eval o X.env:=by rfl) (zl:(zt.endLine == pos.line)=true:=by rfl) :
  PE X (.Call (.Attribute o "join" zt) [e] [] pos) (tM1 (fun x xs H Q=>∃ a p,∃ ys:List Str,x = .str a/\xs=[.ref p]/\(SqL X.K H p (ys.map V.str)\/SqT X.K H p (ys.map V.str)) /\
   (ys.map (·.length)).sum+ys.length * a.length<=16777216/\Q (.str (Txt.join a ys)) H) to te) :=
 mj_ F.slot_str_join F.type_str_join ox_ ho he hs zj zl
theorem jp_:OpR X (compareOp .In) (fun x y H Q=>∃ (c:Nat) (z:Str),x = .str ⟨#[c]⟩/\y = .str z/\Q (.bl (decide (c∈z.cps.toList))) H):=by
 intro zz s σ H x y v u Q I rx ry h;refine x_22 h fun c z zr2 zr3 q=>?_;subst zr2;subst zr3;obtain ⟨t,rfl⟩:=rx;obtain ⟨t',rfl⟩:=ry;exact PyProof.Rows.in_str (aK_ I q (PySem.StrLaws.found_one z c).symm)
theorem f7_:OpR X (compareOp .NotIn) (fun x y H Q=>∃ (c:Nat) (z:Str),x = .str ⟨#[c]⟩/\y = .str z/\Q (.bl (!decide (c∈z.cps.toList))) H):=by
 intro zz s σ H x y v u Q I rx ry h;refine x_22 h fun c z zr2 zr3 q=>?_;subst zr2;subst zr3;obtain ⟨t,rfl⟩:=rx;obtain ⟨t',rfl⟩:=ry;exact PyProof.Rows.notIn_str (aK_ I q (congrArg Bool.not (PySem.StrLaws.found_one z c).symm))
theorem IsPart.raw {v:Value}{o:Option Int} (p:IsPart v o) : ∃ l:Option (Int×Tok),v=partValue l/\l.map (·.1)=o:=by
 cases p with
 | none=>exact ⟨none,rfl,rfl⟩
 | int i t=>exact ⟨some (i,t),rfl,rfl⟩
def lI_ (n d:Nat):Option Int->Int
 | none=>(d:Int)
 | some i=>max 0 (min (if i<0 then i+(n:Int) else i) (n:Int))
theorem i6_ (n d:Nat) (o:Option Int):lI_ n d o=((HT.sIx n d o:Nat):Int):=by
 cases o with
 | none=>rfl
 | some v =>
 show max (0:Int) (min (if v<0 then v+(n:Int) else v) (n:Int))=(((if v<0 then (v+(n:Int)).toNat else min v.toNat n):Nat):Int);by_cases hv:v<0
 ·simp only [if_pos hv]
  omega
 simp only [if_neg hv];omega
theorem kv_ (a b:Option Int) (n:Nat):Builtin.Str.strSliceIndices a b 1 n=sliceRange (lI_ n 0 a) (lI_ n n b) 1:=by
 have h1:((1:Int) > 0)=True:=by simp
 cases a <;> cases b <;> first
  | rfl
  | (simp only [Builtin.Str.strSliceIndices,lI_,h1,if_true];rfl)
  | simp [Builtin.Str.strSliceIndices,lI_]
theorem sidx (a b:Option Int) (n:Nat):Builtin.Str.strSliceIndices a b 1 n=(List.range (HT.sIx n n b - HT.sIx n 0 a)).map (fun k=>HT.sIx n 0 a+k):=by
 rw [kv_,i6_,i6_];generalize HT.sIx n 0 a=p;generalize HT.sIx n n b=q;simp only [sliceRange,show ((1:Int) > 0)=True from by simp,if_true];by_cases hlt:(p:Int)<q
 ·have e3:(((q:Int) - p+1 - 1) / 1).toNat=q - p:=by first | omega | (simp;done) | (simp;omega)
  simp only [hlt,if_true,e3];refine List.map_congr_left fun k _=>?_;omega
 have:q - p=0:=by omega
 simp [hlt,this]
noncomputable def cutS (z:Str) (lo hi:Option Int):Str :=
 ⟨((z.cps.toList.drop (HT.sIx z.length 0 lo)).take (HT.sIx z.length z.length hi - HT.sIx z.length 0 lo)).toArray⟩
theorem dl_ (z:Str) (lo hi:Option Int):PySem.StrLaws.sliceText z lo hi=cutS z lo hi:=by
 have h1:HT.sIx z.length 0 lo<=z.length:=HT.sIx_le _ _ (zero_le _) _;have h2:HT.sIx z.length z.length hi<=z.length:=HT.sIx_le _ _ (Nat.le_refl _) _;have hp:HT.sIx z.length 0 lo<=max (HT.sIx z.length 0 lo) (HT.sIx z.length z.length hi):=Nat.le_max_left _ _;have hq:max (HT.sIx z.length 0 lo) (HT.sIx z.length z.length hi)<=z.length:=Nat.max_le.mpr ⟨h1,h2⟩;have hd:max (HT.sIx z.length 0 lo) (HT.sIx z.length z.length hi) - HT.sIx z.length 0 lo=HT.sIx z.length z.length hi - HT.sIx z.length 0 lo:=by omega
 have e:Builtin.Str.strSliceIndices lo hi 1 z.length =
   Builtin.Str.strSliceIndices (some ((HT.sIx z.length 0 lo:Nat):Int)) (some ((max (HT.sIx z.length 0 lo) (HT.sIx z.length z.length hi):Nat):Int)) 1 z.length:=by
  rw [PySem.StrLaws.strSliceIndices_plain hp hq,hd,sidx]
 have e2:PySem.StrLaws.sliceText z lo hi =
   PySem.StrLaws.sliceText z (some ((HT.sIx z.length 0 lo:Nat):Int)) (some ((max (HT.sIx z.length 0 lo) (HT.sIx z.length z.length hi):Nat):Int)):=by
  unfold PySem.StrLaws.sliceText;rw [e]
 rw [e2,PySem.StrLaws.sliceText_nat z hp hq,hd];rfl
theorem id_ (z:Str) (lo hi:Option Int):(cutS z lo hi).length<=z.length:=by
 show (((z.cps.toList.drop (HT.sIx z.length 0 lo)).take (HT.sIx z.length z.length hi - HT.sIx z.length 0 lo)).toArray).size<=z.cps.size;rw [size_toArray,length_take,length_drop,Array.length_toList];omega
def rSlS:V->Option Int->Option Int->Hp->VK->Prop:=fun x lo hi H Q=>∃ z,x = .str z/\z.length<=sizeLine/\Q (.str (cutS z lo hi)) H
theorem nj_ {X:Cx}:SlR X rSlS:=by
 intro zz s σ H x v vl vu lo hi sl Q I rx hs pl pu h;refine x_12 h fun z zr1 hz q=>?_;subst zr1;obtain ⟨t,rfl⟩:=rx;refine x_12 hs fun os hos hcs hds=>?_;obtain ⟨l,rfl,rfl⟩:=IsPart.raw pl;obtain ⟨u,rfl,rfl⟩:=IsPart.raw pu;refine ⟨"str",_,F.slot_str_getitem.lookup,typeIs_str _ _ _,?_⟩;refine wpAny_getItem_str_slice (l:=l) (u:=u) (st:=none) ⟨os,hos,hcs,hds⟩ rfl ?_;have hl:(PySem.StrLaws.sliceText z (l.map (·.1)) (u.map (·.1))).length<=sizeLine:=by
  rw [dl_];exact Nat.le_trans (id_ z _ _) hz
 rw [<- dl_] at q;unfold PySem.StrLaws.sliceText at q hl;show Made.post (if ((1:Int) == 1 && (Builtin.Str.strSliceIndices (l.map (·.1)) (u.map (·.1)) 1 z.length).length == z.length)=true then Made.val (.str z t)
  else Made.str ⟨((Builtin.Str.strSliceIndices (l.map (·.1)) (u.map (·.1)) 1 z.length).filterMap (z.cps[·]?)).toArray⟩) (EP X zz σ Q) s
 by_cases c:((1:Int) == 1 && (Builtin.Str.strSliceIndices (l.map (·.1)) (u.map (·.1)) 1 z.length).length == z.length)=true
 ·rw [if_pos c] at q ⊢
  exact ⟨.str z,H,I,⟨t,rfl⟩,q⟩
 rw [if_neg c] at q hl ⊢;exact ⟨hl,.str _,H,I.tok _,⟨_,rfl⟩,q⟩
def bA_ (s:Stmt) (j:Nat):Stmt:=match s with
 | .ClassDef _ _ _ body _ _ _ _ _ _ _=>body.getD j (.Pass ⟨0,0,0,0⟩)
 | _ => .Pass ⟨0,0,0,0⟩
def da_ (s:Stmt):Arguments:=match s with
 | .FunctionDef _ a _ _ _ _ _ _ _ _=>a
 | _=>{ posonlyargs:=[],args:=[],vararg:=none,kwonlyargs:=[],kw_defaults:=[],kwarg:=none,defaults:=[] }
noncomputable def bQ_ (s:Stmt):List Stmt:=match s with
 | .FunctionDef _ _ b _ _ _ _ _ _ _=>b
 | _=>[]
def ag_ (s:Stmt):Scope:=match s with
 | .FunctionDef _ _ _ _ _ _ sc _ _ _=>sc
 | _=>{ kind := .function,names:=[],isGenerator:=false,isCoroutine:=false }
abbrev CX0:CXT:=fun _ _ _ _ _ _=>False
abbrev E0:XK:=fun _ _ _=>False
theorem ao_ {X:Cx}:b3_ CX0 X E0:=fun _ _ _ _ _ _ _ h=>h.elim
structure Fun (K:Frag) (x qual:Str) (st:Stmt) (f:Addr) (fd:FuncData):Prop where
 ex : ∃ (oc:Value) (od:Option Addr) (kV doc pm:Value) (an:Option Addr) (cdv ct:Value) (osl:Array (Option Value)),
  fd=fnOf x qual (da_ st) (bQ_ st) (ag_ st) .none kV doc pm an cdv ct/\K.lookup f=some ⟨oc,od,.func fd,osl⟩/\codeIn K cdv qual=true
 kp:keepIn K (.ref f)=true
variable {P:Program}{w:World}{K:Frag}
section
variable {mg:zM}{base:Heap}
theorem Fun.ok {x qual:Str}{st:Stmt}{f:Addr}{fd:FuncData}{N ps:List Str}{k:Nat}{sp:Sp} (F:Fun K x qual st f fd) (S:FnScope N ps (ag_ st))
  (hbody : ∀ (cdv:Value) (A:Around) (outer:List Env) (s:Shared) (H:Hp) (vs:List V) (Q:VK) (E:XK),Room k (A.deeper (envOfC qual (ag_ st) s.heap.objs.size f cdv))->sp vs H Q E ->
   ∃ t,PSs (cxOf CX0 P w K mg base N qual (ag_ st) f cdv A outer s H E).nox (bQ_ st) t/\t { nx:=fun _ H'=>Q .non H',rt:=Q } (start N vs) H) (len : ∀ vs H Q E,sp vs H Q E->vs.length=ps.length:=by intro _ _ _ _ h;repeat first | (cases h;rfl) | (obtain ⟨rfl,_⟩:=h;rfl) | (obtain ⟨_,h⟩:=h)):FnOk P w K mg base CX0 (k+1) f fd ps sp:=by
 refine x_90 F.ex fun oc od kV doc pm an cdv ct osl zy=>x_02 zy fun zr9 lk hcd=>?_;subst zr9;refine p3_ lk hcd S len fun A outer s H vs Q E hr hsp=>?_;obtain ⟨t,h,q⟩:=hbody cdv A outer s H vs Q E hr hsp;exact ⟨t,h.nox,q⟩
theorem Fun.binds {x qual:Str}{st:Stmt}{f:Addr}{fd:FuncData}{ps:List Str} (F:Fun K x qual st f fd)
  (h : ∀ (kV doc pm:Value) (an:Option Addr) (cdv ct:Value) (us:List Value),us.length=ps.length->bindArgs (fnOf x qual (da_ st) (bQ_ st) (ag_ st) .none kV doc pm an cdv ct) ⟨us,[]⟩=pure (ps.zip us)):a8_ K fd ps []:=by
 obtain ⟨oc,od,kV,doc,pm,an,cdv,ct,osl,rfl,lk,hcd⟩:=F.ex;exact .all (h kV doc pm an cdv ct)
theorem nB_ {x qual:Str}{st:Stmt}{f:Addr}{oc:Value}{od an:Option Addr}{osl:Array (Option Value)}{kV doc pm cdv ct:Value} (l:K.lookup f=some ⟨oc,od,.func (fnOf x qual (da_ st) (bQ_ st) (ag_ st) .none kV doc pm an cdv ct),osl⟩)
  (c:codeIn K cdv qual=true) (k:keepIn K (.ref f)=true):Fun K x qual st f (fnOf x qual (da_ st) (bQ_ st) (ag_ st) .none kV doc pm an cdv ct):=⟨⟨oc,od,kV,doc,pm,an,cdv,ct,osl,rfl,l,c⟩,k⟩
end
theorem pv (i:Nat) {x:Str}{pos:Pos} (hN:X.N[i]? = some x:=by rfl) (hv:Vis X.env.scope x:=by first | exact Or.inl rfl | exact Or.inr (Or.inl rfl) | exact Or.inr (Or.inr rfl)) (hd:(x == ("__debug__":Str))=false:=by decide)
  (hcd:(x == ("__classdict__":Str))=false:=by decide):PE X (.Name x pos) (tVar i):=pD_ hN hv hd hcd
theorem iteF {A B:Prop} (h:B):if false=true then A else B:=by
 rw [if_neg Bool.false_ne_true];exact h
theorem iteT {A B:Prop} (h:A):if true=true then A else B:=by
 rw [if_pos rfl];exact h
theorem ite2 {c A B:Prop} [Decidable c] (h1:c->A) (h2 : ¬ c->B):if c then A else B:=by
 by_cases h:c
 ·rw [if_pos h]
  exact h1 h
 rw [if_neg h];exact h2 h
def Same (H H':Hp):Prop:=∀ b o,H b=some o->H' b=some o
theorem Same.refl (H:Hp):Same H H:=fun _ _ h=>h
theorem Same.trans {H H1 H2:Hp} (a:Same H H1) (b:Same H1 H2):Same H H2:=fun c o h=>b c o (a c o h)
theorem Same.seq {K:Frag}{H H':Hp}{a:Addr}{xs:List V} (e:Same H H') (h:SqL K H a xs):SqL K H' a xs:=by
 rcases h with (h | ⟨o,h⟩) | h
 ·exact .inl (.inl (e _ _ h))
 ·exact .inl (.inr ⟨o,e _ _ h⟩)
 exact .inr h
noncomputable abbrev cX_:List Value:=[.type "Exception",.type "BaseException",.type "object"]
structure XCls (K:Frag) (C f:Addr):Prop where
 obj : ∃ nm q N bs sn sub ab col dd k0 k1 k2 k3 k5,K.lookup C=some (excClassObj nm q C N bs cX_ true sn sub ab col dd k0 k1 k2 k3 k5 "Exception.__new__")
 init:PySem.W.findIn K (.ref C) "__init__"=some (some (.ref f))
 fn:isFn K (.ref f)=true
 kp:keepIn K (.ref C)=true
 ga:PySem.W.findIn K (.ref C) "__getattribute__"=some (some (.builtin "BaseException.__getattribute__"))
 gn:PySem.W.findIn K (.ref C) "__getattr__"=some none
 sa:PySem.W.findIn K (.ref C) "__setattr__"=some (some (.builtin "object.__setattr__"))
 hd:hasDictIn K C=true
theorem nO_ {K:Frag}{C f N:Addr}{nm q:Str}{bs:List Value}{sn:List Str}{sub:List Value}{ab:Bool}{col:Option Bool}{dd:Option Addr}{k0 k1 k2 k3 k5:Option Value}
  (l:K.lookup C=some (excClassObj nm q C N bs cX_ true sn sub ab col dd k0 k1 k2 k3 k5 "Exception.__new__")) (i:PySem.W.findIn K (.ref C) "__init__"=some (some (.ref f))) (n:isFn K (.ref f)=true) (k:keepIn K (.ref C)=true)
  (g:PySem.W.findIn K (.ref C) "__getattribute__"=some (some (.builtin "BaseException.__getattribute__"))) (a:PySem.W.findIn K (.ref C) "__getattr__"=some none) (s:PySem.W.findIn K (.ref C) "__setattr__"=some (some (.builtin "object.__setattr__")))
  (d:hasDictIn K C=true):XCls K C f:=⟨⟨nm,q,N,bs,sn,sub,ab,col,dd,k0,k1,k2,k3,k5,l⟩,i,n,k,g,a,s,d⟩
noncomputable abbrev o0_ (C t:Addr):Obj:={ cls := .ref C,data := .fields #[.ref t,.none,.none,.none,.bool false,.none] }
noncomputable def gh_ (h:Heap) (C:Addr) (us:List Value):Heap:=(h.push { cls := .type "tuple",data := .seq us.toArray }).push (o0_ C h.objs.size)
theorem eX_ {h:Heap}{C:Addr}{us:List Value}{b:Addr}{o:Obj} (e:h.get? b=some o):(gh_ h C us).get? b=some o:=get?_push_of_some _ (get?_push_of_some _ e)
theorem iX_ {h:Heap}{C:Addr}{us:List Value}:(gh_ h C us).get? (h.objs.size+1)=some (o0_ C h.objs.size):=by
 unfold gh_
 heap_get
variable {f:Addr}
section
variable {A:Around}{C:Addr}{R:Result->Shared->Prop}
theorem qu_ {us:List Value} (X:K.In s.heap) (c:XCls K C f) (hl:us.length<=sizeLine)
  (go:codeAny (model P w) (A.under (.builtin "type.__call__" ⟨.ref C::us,[]⟩)) (.call (.ref f) ⟨.ref (s.heap.objs.size+1)::us,[]⟩) (PySem.W.InitBack (s.heap.objs.size+1) R) { s with heap:=gh_ s.heap C us }) :
  codeAny (model P w) A (.call (.ref C) ⟨us,[]⟩) R s:=by
 obtain ⟨hp,g,d,t,os⟩:=s;refine x_90 c.obj fun nm q N bs sn sub ab col dd zz0=>?_;refine x_50 zz0 fun k0 k1 k2 k3 k5 lk=>?_;have atC:=X _ _ lk;have B:=PySem.F.excBase_Exception;have n1:=tc_lookup;have n2:=tc_bind (.ref C);have tyC:(⟨hp,g,d,t,os⟩:Shared).TypeIs (.ref C) "type":=⟨_,atC,rfl⟩;refine codeAny_of_tree ?_;show wpAny _ _ (callAny (.ref C) _) _ _ _
 repeat (any_goals (first | assumption | (with_reducible refine wpAny_loadPart_at atC ?_) | wp_step))
 refine And.intro rfl (codeAny_call_builtin_at (Code.quiet_builtin _ (by left)) entry_typeCall (wpAny_check_type_call_sub atC ?_))
 repeat (first | (with_reducible refine wpAny_loadPart_at atC ?_) | (with_reducible refine wpAny_madeBy_exc atC ?_) | wp_step)
 refine codeAny_call_builtin_code (Code.quiet_builtin _ B.quiet) (wpAny_check_new_sub B atC (codeAny_exc_new_sub B atC ?_ hl));show wpAny _ _ _ _ _ ⟨gh_ hp C us,g,d,t,os⟩;have X':K.In (gh_ hp C us):=X.keeps fun b o e=>eX_ e;have atC':=X' _ _ lk;have atE:(gh_ hp C us).get? (hp.objs.size+1)=some (o0_ C hp.objs.size):=iX_;have inC:(Value.ref C::cX_).contains (.ref C)=true:=by simp
 unfold isInstance
 repeat (first | (with_reducible refine wpAny_loadPart_at atE ?_) | ((with_reducible refine wpAny_isSubtype_exc atC' ?_);rw [inC]) | wp_step)
 show wpAny _ _ (typeLookup (.ref C) _) _ _ _;refine (looks_findIn X' c.init).at ?_;refine wpAny_holding (wpAny_bind ((PySem.W.bind_fn X' _ (beq_iff_eq.mp c.fn)).at ?_));refine wpAny_bind (wpAny_call (codeAny_mono go fun r s' z=>?_));rcases r with e | (_ | _ | _ | v)
 ·exact z
 ·exact z.elim
 ·exact z.elim
 ·exact z.elim
 obtain ⟨rfl,z⟩:=z;exact wpAny_pure (wpAny_pure z)
end
section
open PySem.W (InstAt Looks)
section
variable {P:Program}{w:World}{A:Around}{K:Frag}{C f x:Addr}{s:Shared}{ox:Obj}{od:Option Obj}{name:Str}{v:Value}
theorem nd_ {tk:Tok}{R:Result->Shared->Prop} (X:K.In s.heap) (I:InstAt s.heap x ox C od) (c:XCls K C f) (n:ay_ K C name)
  (go : ∀ b,wpAny (model P w) A.in1 (Builtin.ObjectAttr.storeInOwnDict (.ref x) (.ref C) (.str name tk) name v b)
   (fun fin s'=>match fin with | .done f=>R (.ok f) s' | .again c'=>c'.quiet=true/\codeAny (model P w) A c' R s') (fun e s'=>R (.error e) s') s) :
  codeAny (model P w) A (.call (.builtin "object.__setattr__") ⟨[.ref x,.str name tk,v],[]⟩) R s:=by
 have S:=PySem.F.store_Exception;refine x_90 c.obj fun nm q N bs sn sub ab col dd zz0=>?_;refine x_50 zz0 fun k0 k1 k2 k3 k5 lk=>?_;have hcd:clsIn K C=some { name:=nm,bases:=bs,mro := .ref C::cX_,ns:=N,qualname:=q,hasDict:=true,slotNames:=sn,subclasses:=sub,abstract:=ab,collection:=col,hasDel:=false }:=by
  unfold clsIn;rw [lk]
 have isO:Looks (model P w) s.heap (isInstance (.ref x) (.type "object")) true:=I.type.andThen (PySem.W.looks_mroIn X (by unfold mroIn;rw [hcd,Option.bind_some];rfl));have mro:Looks (model P w) s.heap (mroOf (.ref C)) (.ref C::cX_):=(looks_clsIn X hcd).andThen .now;refine codeAny_call_builtin S.slot.plain S.entry (@PySem.W.check_slot (model P w) _ _ s "object.__setattr__" "object" "__setattr__" (.ref x) [.str name tk,v] [] _ S.kind S.split isO (S.args (.ref x) (.str name tk) v) ?_);rw [PySem.W.osa_eq,refuse_eq];refine wpAny_bind (wpAny_bind (I.type.here (wpAny_bind (mro.here ?_))));rw [refuseLoop_ref,S.passes];refine wpAny_pure (wpAny_bind (I.type.here (wpAny_bind ((looks_findIn X n).here (wpAny_bind (wpAny_pure ?_))))));exact go _
end
def XNew (C p:Addr) (d:Option Addr):HO := .ext fun h=>∃ t,h.get? p=some { cls := .ref C,dict:=d,data := .fields #[.ref t,.none,.none,.none,.bool false,.none] }
def XDic (p:Addr) (fs:List (Str×V)):HO := .ext fun h=>fs.length<=1000/\∃ mA,h.Ns1 p mA/\(∀ f,RelO (fs.lookup f) (mA f))/\PySem.Within mA (fs.map (·.1))
theorem io_ {H:Hp}{a b:Addr}{o u:HO} (h:a≠b):upd (upd H a o) b u=upd (upd H b u) a o:=by
 funext c
 unfold upd;by_cases h1:c=a
 ·rw [if_pos h1,if_neg (fun q=>h (h1.symm.trans q)),if_pos h1]
 rw [if_neg h1,if_neg h1]
theorem nN_ {P:Program}{w:World}{H:Hp}{h:Heap}{p:Addr}{fs:List (Str×V)}{mA:zM} (l:fs.length<=1000) (n:h.Ns1 p mA) (r : ∀ f,RelO (fs.lookup f) (mA f)) (k:PySem.Within mA (fs.map (·.1))):aT_ P w H h p (XDic p fs):=by
 obtain ⟨o,es,ep,ho,c⟩:=n;exact ⟨⟨l,mA,⟨o,es,ep,ho,c⟩,r,k⟩,⟨o,ho⟩,fun h1 h2 ⟨l,mA,⟨o,es,ep,ho,c⟩,r⟩ kp=>⟨l,mA,⟨o,es,ep,kp o ho,c⟩,r⟩⟩
theorem o6_ {P:Program}{w:World}{H:Hp}{h:Heap}{C p t:Addr}{d:Option Addr} (e:h.get? p=some { cls := .ref C,dict:=d,data := .fields #[.ref t,.none,.none,.none,.bool false,.none] }):aT_ P w H h p (XNew C p d) :=
 ⟨⟨t,e⟩,⟨_,e⟩,fun h1 h2 ⟨t,e⟩ kp=>⟨t,kp _ e⟩⟩
section
variable {X:Cx}{zz:zP}{σ:St}{H:Hp}{s:Shared}{a C f₀ dx:Addr}{fs:List (Str×V)}{f:Str}{y:V}{u:Value}{A:Around}{E:zQ}{Q:Unit->Shared->Prop}
theorem kz_ (I:Inv X zz σ H s) (e:H a=some (XNew C a none)) (c:XCls X.K C f₀) (n:ay_ X.K C f) (ry:RelV y u)
  (h : ∀ dx s',H dx=none->dx≠a->Inv X zz σ (upd (upd H dx (XDic dx [(f,y)])) a (XNew C a (some dx))) s'->Q () s'):wpAny (model X.prog X.w) A (setAttr (.ref a) f u) Q E s:=by
 obtain ⟨⟨t,ha⟩,_,_⟩:=(show aT_ X.prog X.w H s.heap a (XNew C a none) from I.hok a _ e);have J:InstAt s.heap a _ C none:=⟨ha,rfl,rfl,trivial⟩;obtain ⟨nm,q,N,bs,sn,sub,ab,col,dd,k0,k1,k2,k3,k5,lk⟩:=c.obj;have hcd:clsIn X.K C=some { name:=nm,bases:=bs,mro := .ref C::cX_,ns:=N,qualname:=q,hasDict:=true,slotNames:=sn,subclasses:=sub,abstract:=ab,collection:=col,hasDel:=false }:=by
  unfold clsIn;rw [lk]
 refine PySem.W.set_plain I.kIn J c.sa (nd_ (s:={ s with toks:=s.toks+1 }) I.kIn J c n fun b=>?_);refine wpAny_bind (wpAny_pure (wpAny_bind (wpAny_bind (wpAny_loadPart ha (wpAny_bind (PySem.W.Looks.here (s:={ s with toks:=s.toks+1 }) (looks_clsIn I.kIn hcd) ?_))))));rw [if_neg (by exact Bool.false_ne_true)];dsimp only;rw [if_neg (by exact Bool.false_ne_true)];have hlt:=lt_size ha;have nda:s.heap.objs.size≠a:=ne_of_gt hlt;have ha1:=get?_push_of_some emptyDict ha;have fr:H s.heap.objs.size=none:=I.hok.fresh (Nat.le_refl _);refine wpAny_bind (wpAny_alloc (wpAny_bind (wpAny_update ha1 (wpAny_pure (a:=some s.heap.objs.size) ?_))));have hd2:((s.heap.push emptyDict).update a fun o=>{ cls:=o.cls,dict:=some s.heap.objs.size,data:=o.data,slots:=o.slots }).get? s.heap.objs.size=some emptyDict :=
  (Heap.get?_update_ne _ _ _ _ nda).trans (get?_push_size s.heap rfl)
 have ha2:=get?_update_self (fun o=>{ cls:=o.cls,dict:=some s.heap.objs.size,data:=o.data,slots:=o.slots }) ha1 rfl;have hnd:((s.heap.push emptyDict).update a fun o=>{ cls:=o.cls,dict:=some s.heap.objs.size,data:=o.data,slots:=o.slots }).Ns s.heap.objs.size (fun _=>none):=⟨_,#[],_,hd2,rfl,fun e he=>absurd he (by simp),fun _=>rfl⟩;have I1:=I.laid (a:=s.heap.objs.size) (o:=XDic s.heap.objs.size []) (h':=s.heap.push emptyDict) (t':=s.toks+1) (fun b u q=>get?_push_of_some _ q) (Nat.le_refl _)
  (nN_ (zero_le _) (Heap.Ns1.of_empty ⟨_,#[],_,get?_push_size s.heap rfl,rfl,fun e he=>absurd he (by simp),fun _=>rfl⟩) (fun _=>trivial) fun y hy=>absurd rfl hy)
 have I2:=I1.write (x:=a) (e:=a) (o:=XNew C a (some s.heap.objs.size)) (t':=s.toks+1) (by rw [al_ (Ne.symm nda),e];exact True.intro) (.inl rfl) (fun b u hb q=>(Heap.get?_update_ne _ _ _ _ hb).trans q) ⟨_,ha2⟩ (o6_ ha2);show wpAny _ _ (Builtin.ObjectAttr.storeInDict s.heap.objs.size (.str f s.toks) f u) _ _ _;unfold Builtin.ObjectAttr.storeInDict Builtin.ObjectAttr.newKeyGuard;refine wpAny_bind (wpAny_pure (wpAny_bind (wpAny_nsSet1 (Heap.Ns1.of_empty hnd) fun h' hn' hs=>?_)));refine x_32 (hn'.count (Within.cons f u Within.nil)) fun oD esD epD hoD hdD hcD=>?_;refine wpAny_bind (wpAny_lookBehind hoD (by rw [hdD];exact pastItsLine_dict (Nat.le_trans hcD (by rw [length_cons,length_nil,sizeLine_eq];omega))) ?_);refine wpAny_pure (h s.heap.objs.size _ fr nda ?_);have I3:=I2.write (x:=s.heap.objs.size) (e:=s.heap.objs.size) (o:=XDic s.heap.objs.size [(f,y)]) (t':=s.toks+1+1) (by rw [al_ nda,ad_];exact True.intro) (.inl rfl) (fun b u hb q=>(hs.2 b hb).trans q) ⟨_,hoD⟩
  (nN_ (by show 1<=1000;decide) hn' (fun g=>?_) fun g hg=>?_)
 ·rw [io_ (Ne.symm nda),ew_] at I3
  exact I3
 ·show RelO (([(f,y)]:List (Str×V)).lookup g) (if g=f then some u else none)
  by_cases q:g=f
  ·subst q
   rw [if_pos rfl,List.lookup_cons_self];exact ry
  rw [if_neg q,lookup_cons,beq_eq_false_iff_ne.mpr q];trivial
 by_cases q:g=f
 ·simp [q]
 exact absurd (by show (if g=f then some u else none)=none;rw [if_neg q]) hg
theorem ky_ (I:Inv X zz σ H s) (e:H a=some (XNew C a (some dx))) (ed:H dx=some (XDic dx fs)) (c:XCls X.K C f₀) (n:ay_ X.K C f) (hl:fs.length<1000) (ry:RelV y u)
  (h : ∀ s',Inv X zz σ (upd H dx (XDic dx (putF f y fs))) s'->Q () s'):wpAny (model X.prog X.w) A (setAttr (.ref a) f u) Q E s:=by
 obtain ⟨⟨t,ha⟩,_,_⟩:=(show aT_ X.prog X.w H s.heap a (XNew C a (some dx)) from I.hok a _ e);obtain ⟨⟨l,mA,hns,rel,wi⟩,⟨od,hod⟩,_⟩:=(show aT_ X.prog X.w H s.heap dx (XDic dx fs) from I.hok dx _ ed);have J:InstAt s.heap a _ C (some od):=⟨ha,rfl,rfl,hod⟩;obtain ⟨nm,q,N,bs,sn,sub,ab,col,dd,k0,k1,k2,k3,k5,lk⟩:=c.obj;have hcd:clsIn X.K C=some { name:=nm,bases:=bs,mro := .ref C::cX_,ns:=N,qualname:=q,hasDict:=true,slotNames:=sn,subclasses:=sub,abstract:=ab,collection:=col,hasDel:=false }:=by
  unfold clsIn;rw [lk]
 refine PySem.W.set_plain I.kIn J c.sa (nd_ (s:={ s with toks:=s.toks+1 }) I.kIn J c n fun b=>?_);refine wpAny_bind (wpAny_pure (wpAny_bind (wpAny_bind (wpAny_loadPart ha (wpAny_bind (PySem.W.Looks.here (s:={ s with toks:=s.toks+1 }) (looks_clsIn I.kIn hcd) ?_))))));rw [if_neg (by exact Bool.false_ne_true)];refine wpAny_pure (a:=some dx) ?_;show wpAny _ _ (Builtin.ObjectAttr.storeInDict dx (.str f s.toks) f u) _ _ _;unfold Builtin.ObjectAttr.storeInDict Builtin.ObjectAttr.newKeyGuard;refine wpAny_bind (wpAny_pure (wpAny_bind (wpAny_nsSet1 (s:={ s with toks:=s.toks+1 }) hns fun h' hn' hs=>?_)));refine x_32 (hn'.count (PySem.Within.cons f u wi)) fun oD esD epD hoD hdD hcD=>?_;refine wpAny_bind (wpAny_lookBehind hoD (by rw [hdD];exact pastItsLine_dict (Nat.le_trans hcD (by rw [length_cons,length_map,sizeLine_eq];omega))) ?_);refine wpAny_pure (h _ ?_);refine I.write (x:=dx) (e:=dx) (t':=s.toks+1+1) (by rw [ed];exact True.intro) (.inl rfl) (fun b u hb q=>(hs.2 b hb).trans q) ⟨_,hoD⟩ (nN_ (by have:=cb_ f y fs;omega) hn' (fun g=>?_) fun g hg=>?_)
 ·show RelO ((putF f y fs).lookup g) (if g=f then some u else mA g)
  rw [c5_];by_cases q:g=f
  ·rw [if_pos q,if_pos q]
   exact ry
  rw [if_neg q,if_neg q];exact rel g
 by_cases q:g=f
 ·rw [q]
  exact (ct_ f y fs).1
 refine (ct_ f y fs).2 g (wi g fun z=>hg ?_);show (if g=f then some u else mA g)=none;rw [if_neg q];exact z
end
end
section
open PySem.W (InstAt Looks)
def XGot (C p d:Addr):HO := .ext fun h=>∃ vs sl,h.get? p=some ⟨.ref C,some d,.fields vs,sl⟩
theorem qn_ {P:Program}{w:World}{H:Hp}{h:Heap}{C p d:Addr}{vs:Array Value}{sl:Array (Option Value)} (e:h.get? p=some ⟨.ref C,some d,.fields vs,sl⟩):aT_ P w H h p (XGot C p d) :=
 ⟨⟨vs,sl,e⟩,⟨_,e⟩,fun h1 h2 ⟨vs,sl,e⟩ kp=>⟨vs,sl,kp _ e⟩⟩
section
variable {X:Cx}{zz:zP}{σ:St}{H:Hp}{s:Shared}{a C f₀ dx:Addr}{fs:List (Str×V)}{f:Str}{v:V}{u:Value}{A:Around}{E:zQ}
theorem mJ_ {b:Bool}{Q:zQ} (I:Inv X zz σ H s) (e:H a=some (XGot C a dx)) (ed:H dx=some (XDic dx fs)) (c:XCls X.K C f₀) (n:ay_ X.K C f) (l:fs.lookup f=some v)
  (h : ∀ u s',Inv X zz σ H s'->RelV v u->Q u s'):wpAny (model X.prog X.w) A (getAttr (.ref a) f b) Q E s:=by
 obtain ⟨⟨vs,sl,ha⟩,_,_⟩:=(show aT_ X.prog X.w H s.heap a (XGot C a dx) from I.hok a _ e);obtain ⟨⟨zr,mA,hns,rel,wi⟩,_,_⟩:=(show aT_ X.prog X.w H s.heap dx (XDic dx fs) from I.hok dx _ ed);obtain ⟨od,hod,hlk⟩:=g6_ hns;have J:InstAt s.heap a _ C (some od):=⟨ha,rfl,rfl,hod⟩;obtain ⟨u,hu,ru⟩:=RelO.some_of (v:=v) (o:=mA f) (by rw [<- l];exact rel f);have hf:PySem.W.findObj X.K C (some od) f=some (.value u):=PySem.W.findObj_own c.hd n rfl (by rw [hlk,hu]);have K0:=I.kIn;have I1:=I.tok (s.toks+1);obtain ⟨hp,g,d,t,os⟩:=s;have L0:=J.type (M:=model X.prog X.w);have L1:=looks_findIn (M:=model X.prog X.w) K0 c.ga;have L2:=looks_findIn (M:=model X.prog X.w) K0 c.gn;unfold getAttr getAttrBy;refine wpAny_bind (wpAny_mkText (wpAny_holding (wpAny_bind (L0.at (wpAny_bind (L1.at ?_))))));dsimp only;rw [if_neg (by rw [show (Value.builtin "BaseException.__getattribute__" == Value.builtin "object.__getattribute__")=false by left,Bool.and_false];exact Bool.false_ne_true)];unfold getAttrByItsOwn hookBefore;refine wpAny_bind (L2.at ?_);have hb:callGetattribute (Value.ref a) (Value.str f t) (Value.builtin "BaseException.__getattribute__") b=boundAndCalled (Value.builtin "BaseException.__getattribute__") (.ref a) (.str f t):=by cases b <;> rfl
 rw [hb];refine wpAny_bind (wpAny_attempt (wpAny_holding ?_));unfold boundAndCalled;have G:=PySem.F.attr_Exception;rw [G.ga.bind];refine wpAny_bind (wpAny_pure (wpAny_call ?_));refine x_90 c.obj fun nm q N bs sn sub ab col dd zz0=>?_;refine x_50 zz0 fun k0 k1 k2 k3 k5 lk=>?_;have hcd:clsIn X.K C=some { name:=nm,bases:=bs,mro := .ref C::cX_,ns:=N,qualname:=q,hasDict:=true,slotNames:=sn,subclasses:=sub,abstract:=ab,collection:=col,hasDel:=false }:=by
  unfold clsIn;rw [lk]
 have isB:Looks (model X.prog X.w) hp (isInstance (.ref a) (.type "BaseException")) true:=L0.andThen (PySem.W.looks_mroIn K0 (by unfold mroIn;rw [hcd,Option.bind_some];rfl));refine codeAny_call_builtin G.ga.plain PySem.F.entry_bexc_ga (@PySem.W.check_slot (model X.prog X.w) _ _ ⟨hp,g,d,t+1,os⟩ "BaseException.__getattribute__" "BaseException" "__getattribute__" (.ref a) [.str f t] [] _ (by left) (by left) isB (PySem.F.args_bexc_ga _ _) ?_);have L3:=PySem.W.looks_find (M:=model X.prog X.w) K0 J hf;unfold Builtin.«object.__getattribute__»;refine wpAny_bind (wpAny_pure (wpAny_bind (wpAny_pure (wpAny_bind (L0.at (wpAny_bind (L3.at (wpAny_pure ?_))))))));show wpAny _ _ (handedOut u) _ _ _;rw [PySem.W.handedOut_of (hf_ ru)];exact wpAny_pure (h u _ I1 ru)
end
def nn_ (K:Frag) (ta tv:TE) (f:Str):TS:=fun D σ H=>tv σ H fun y H1=>ta σ H1 fun x H2=>∃ a C f₀,x = .ref a/\H2 a=some (XNew C a none)/\XCls K C f₀/\ay_ K C f /\
 ∀ dx,H2 dx=none->dx≠a->D.nx σ (upd (upd H2 dx (XDic dx [(f,y)])) a (XNew C a (some dx)))
def nm_ (K:Frag) (ta tv:TE) (f:Str):TS:=fun D σ H=>tv σ H fun y H1=>ta σ H1 fun x H2=>∃ a C f₀ dx fs,x = .ref a/\H2 a=some (XNew C a (some dx))/\H2 dx=some (XDic dx fs)/\XCls K C f₀/\ay_ K C f/\fs.length<1000 /\
 D.nx σ (upd H2 dx (XDic dx (putF f y fs)))
def hz_ (K:Frag) (ta:TE) (f:Str):TE:=fun σ H Q=>ta σ H fun x H1=>∃ a C f₀ dx fs v,x = .ref a/\H1 a=some (XGot C a dx)/\H1 dx=some (XDic dx fs)/\XCls K C f₀/\ay_ K C f/\fs.lookup f=some v/\Q v H1
section
variable {X:Cx}{o e value:Expr}{f:Str}{pos pos':Pos}{ta tv:TE}
theorem mh_ (ha:PE X o ta) (hv:PE X value tv) (hs:swapsWith value (some (.Attribute o f pos')) pos.line X.env=pure false):PS X (.Assign [.Attribute o f pos'] value pos) (nn_ X.K ta tv f):=by
 intro zz s σ H D I h;refine plainObj_wpAny_Assign_Attribute (thn (hv zz s σ H _ I h) fun u s1 ⟨y,H1,I1,ry,q⟩=>thn (ha zz s1 σ H1 _ I1 q) fun ov s2 zq=>?_) hs;refine x_22 zq fun x H2 I2 rx zz0=>?_;refine x_34 zz0 fun a C f₀ ex ea c n q2=>?_;subst ex;obtain rfl:ov=Value.ref a:=rx;exact kz_ I2 ea c n ry fun dx s3 h1 h2 I3=>⟨σ,_,I3,q2 dx h1 h2⟩
theorem mg_ (ha:PE X o ta) (hv:PE X value tv) (hs:swapsWith value (some (.Attribute o f pos')) pos.line X.env=pure false):PS X (.Assign [.Attribute o f pos'] value pos) (nm_ X.K ta tv f):=by
 intro zz s σ H D I h;refine plainObj_wpAny_Assign_Attribute (thn (hv zz s σ H _ I h) fun u s1 ⟨y,H1,I1,ry,q⟩=>thn (ha zz s1 σ H1 _ I1 q) fun ov s2 zq=>?_) hs;refine x_22 zq fun x H2 I2 rx zz0=>?_;refine x_50 zz0 fun a C f₀ dx fs zy=>x_06 zy fun ex ea ed c n l q2=>?_;subst ex;obtain rfl:ov=Value.ref a:=rx;exact ky_ I2 ea ed c n l ry fun s3 I3=>⟨σ,_,I3,q2⟩
theorem f0_ (he:PE X e ta) (hb:attributeBase e f X.env (eval e X.env)=eval e X.env):PE X (.Attribute e f pos) (hz_ X.K ta f):=by
 intro zz s σ H Q I h;refine lL_ hb (thn (he zz s σ H _ I h) fun u s1 zq=>?_);refine x_22 zq fun x H1 I1 rx zz0=>?_;refine x_60 zz0 fun a C f₀ dx fs v zy=>x_06 zy fun ex ea ed c n l q=>?_;subst ex;obtain rfl:u=Value.ref a:=rx;exact mJ_ I1 ea ed c n l fun u' s2 I2 ru=>⟨v,H1,I2,ru,q⟩
end
noncomputable def del (H:Hp) (p:Addr):Hp:=fun b=>if b=p then none else H b
theorem eq_ {H:Hp}{p:Addr}:del H p p=none:=by
 unfold del;rw [if_pos rfl]
theorem cw_ {H:Hp}{p b:Addr} (h:b≠p):del H p b=H b:=by
 unfold del;rw [if_neg h]
section
variable {M:Model}{A:Around}{E:zQ}{s:Shared}{env:Env}{K:Frag}{C f:Addr}
theorem py_ {x:Sem Value}{Q:Flow->Shared->Prop} (hh:A.handled=none) (c:XCls K C f)
  (go:wpAny M A x (fun v s₁=>∃ e d t,v = .ref e/\K.In s₁.heap/\s₁.heap.get? e=some { cls := .ref C,dict:=d,data := .fields #[.ref t,.none,.none,.none,.bool false,.none] }/\E (.ref e) s₁) E s) :
  wpAny M A (raiseStmt env (some x) none) Q E s:=by
 obtain ⟨nm,q,N,bs,sn,sub,ab,col,dd,k0,k1,k2,k3,k5,lk⟩:=c.obj;have isB:(Value.ref C::cX_).contains (.type "BaseException")=true:=by rw [List.contains_cons,PySem.F.excBase_Exception.hasBase,Bool.or_true]
 unfold raiseStmt;refine wpAny_bind (wpAny_mono go (fun v s₁ z=>?_) fun _ _ z=>z);refine x_33 z fun e d t zr3 KX atE hE=>?_;subst zr3;have atC:=KX _ _ lk;obtain ⟨hp,g,dr,tk,os⟩:=s₁
 repeat (first | (with_reducible refine wpAny_loadPart_at atE ?_) | (with_reducible refine wpAny_loadPart_at atC ?_) | ((with_reducible refine wpAny_isSubtype_exc atC ?_);rw [isB]) | wp_step)
 exact wpAny_raiseNew_none hh hE
end
def cT_ (C:Addr) (sp:Sp) (t:TA) (E:XK):TS:=fun _ σ H=>t σ H fun vs H1=>vs.length<=sizeLine/\∀ a,H1 a=none ->
 sp (.ref a::vs) (upd H1 a (XNew C a none)) (fun v H2=>v = .non/\∃ dx fs,H2 a=some (XNew C a (some dx))/\H2 dx=some (XDic dx fs)/\E (.ref C) (some dx) (del H2 a)) fun _ _ _=>False
def nL_ (X:Cx) (E:XK):Prop:=∀ (zz:zP) (σ:St) (H:Hp) (s:Shared) (C a dx:Addr) (fs:List (Str×V)),Inv X zz σ H s->X.s_0.heap.objs.size<=a ->
 H a=some (XNew C a (some dx))->H dx=some (XDic dx fs)->E (.ref C) (some dx) (del H a)->X.xe (.ref a) s
theorem Inv.madeX {X:Cx}{zz:zP}{σ:St}{H:Hp}{s:Shared}{C:Addr}{us:List Value} (I:Inv X zz σ H s):Inv X zz σ (upd H (s.heap.objs.size+1) (XNew C (s.heap.objs.size+1) none)) { s with heap:=gh_ s.heap C us } :=
 I.laid (a:=s.heap.objs.size+1) (o:=XNew C (s.heap.objs.size+1) none) (t':=s.toks) (fun b u q=>eX_ q) (le_succ _) (o6_ iX_)
section
variable {X:Cx}{k:Nat}{f C:Addr}{fd:FuncData}{ps:List Str}{sp:Sp}{E:XK}{x:Str}{p pos zn:Pos}{e:Expr}{es:List Expr}{t:TA}
theorem runX {zz:zP}{σ:St}{H:Hp}{s:Shared}{us:List Value}{vs:List V}{Q:Addr->Hp->Prop} (c:XCls X.K C f) (F:FnOk X.prog X.w X.K X.mg X.base CX0 k f fd ps sp) (hr:Room (k+1) X.A) (hb:a8_ X.K fd ps [])
  (I:Inv X zz σ H s) (r:Vals vs us) (hl:vs.length<=sizeLine) (h : ∀ a,H a=none->sp (.ref a::vs) (upd H a (XNew C a none)) (fun v H2=>v = .non/\Q a H2) fun _ _ _=>False) :
  wpAny (model X.prog X.w) X.A (call (.ref C) us) (fun v s'=>∃ a H',v = .ref a/\X.s_0.heap.objs.size<=a/\Inv X zz σ H' s'/\Q a H') X.xe s:=by
 have hq:=h (s.heap.objs.size+1) (I.hok.fresh (le_succ _));have I2:=Inv.madeX (C:=C) (us:=us) I;have r2:Vals (V.ref (s.heap.objs.size+1)::vs) (Value.ref (s.heap.objs.size+1)::us) := .cons rfl r;have hl2:(Value.ref (s.heap.objs.size+1)::us++[]).length=ps.length:=by
  rw [append_nil,<- r2.length];exact F.len _ _ _ _ hq
 have hb2:=hb { s with heap:=gh_ s.heap C us } (Value.ref (s.heap.objs.size+1)::us) I2.kIn hl2;rw [append_nil] at hb2;refine wpAny_call (qu_ (f:=f) I.kIn c (by rw [<- r.length];exact hl) (codeAny_mono (F.run _ X.stack _ _ ⟨Value.ref (s.heap.objs.size+1)::us,[]⟩ (Value.ref (s.heap.objs.size+1)::us) _ _ _ (hr.make C us [])
  (I2.env0.make C us []) hb2 r2 hq) fun r s' hq'=>?_))
 cases r with
 | error e=>exact False.elim hq'
 | ok fl =>
 cases fl with
 | ret u =>
  refine x_23 (I2.after hq') fun v H' I3 rv ev q3=>?_;subst ev;exact ⟨rv,_,H',rfl,Nat.le_trans I.sz (le_succ _),I3,q3⟩
 | next=>exact False.elim hq'
 | brk=>exact False.elim hq'
 | cont=>exact False.elim hq'
theorem bE_ (c:XCls X.K C f) (F:FnOk X.prog X.w X.K X.mg X.base CX0 k f fd ps sp) (hr:Room (k+1) X.A) (hg:Gl X x) (hm:X.mg x=some (.ref C)) (hb:a8_ X.K fd ps []) (hx:nL_ X E) (hc:X.calm=true)
  (ha:PA X (e::es) t) (hdb:(x == ("__debug__":Str))=false:=by decide) (he:starEach (e::es) X.env=(false,eval e X.env)::starEach es X.env:=by rfl) (hpl:(backTo zn (starEach es X.env)).any (·.1)=false:=by rfl) :
  PS X (.Raise (some (.Call (.Name x p) (e::es) [] zn)) none pos) (cT_ C sp t E):=by
 intro zz s σ H D I h;have key:wpAny (model X.prog X.w) X.A (eval (.Call (.Name x p) (e::es) [] zn) X.env) (fun v s₁=>∃ e d t,v = .ref e/\X.K.In s₁.heap/\s₁.heap.get? e=some { cls := .ref C,dict:=d,data := .fields #[.ref t,.none,.none,.none,.bool false,.none] }/\X.xe (.ref e) s₁) X.xe s:=by
  refine wpAny_Call_Name_kw (dO_ I hg hm ?_ hdb);refine callWith_K (h₀:=X.base) I.ok.mod.kin c.kp (thn (ha zn zz s σ H _ I h) fun us s1 ⟨vs,H1,I1,r,hl,q⟩=>⟨I1.kIn,?_⟩) he hpl;refine thn (runX c F hr hb I1 r hl q) fun v s2 zq=>?_;refine x_23 zq fun a H2 ev hs I2 zz0=>?_;refine x_22 zz0 fun dx fs h1 h2 h3=>?_;obtain ⟨⟨t,hat⟩,_,_⟩:=(show aT_ X.prog X.w H2 s2.heap a (XNew C a (some dx)) from I2.hok a _ h1);exact ⟨a,some dx,t,ev,I2.kIn,hat,hx zz σ H2 s2 C a dx fs I2 hs h1 h2 h3⟩
 rw [arm_exec_Raise];exact wpAny_bind (wpAny_standAt (py_ (I.ok.hd hc) c (wpAny_bind (wpAny_mono key (fun v s₁ z=>wpAny_bind (wpAny_standAt (wpAny_pure z))) fun _ _ z=>z))))
end
end
section
open PySem.W (InstAt Looks)
structure Noted (l:List Env) (e:Addr) (old:Option Addr) (fl:Value) (h h':Heap):Prop where
 keep : ∀ b o,b≠e->some b≠old->b∉frs l->h.get? b=some o->h'.get? b=some o
 slot : ∀ b o,b≠e->some b≠old->h.get? b=some o->∃ sl,h'.get? b=some { o with slots:=sl }
 there : ∀ b o,h.get? b=some o->∃ o',h'.get? b=some o'
 exc : ∀ oe vs,h.get? e=some oe->oe.data = .fields vs->∃ vs' T oT ts,h'.get? e=some { oe with data := .fields vs' }/\vs'[1]? = some (.ref T)/\h.objs.size<=T/\T≠e/\h'.get? T=some oT/\oT.data = .fields ts/\ts[3]? = some fl
section
variable {M:Model}{A:Around}{E:zQ}{s:Shared}
theorem g5_ {o:Obj}{vs:Array Value} (d:o.data = .fields vs) (g:Array Value->Array Value):Obj.mapFields g o={ o with data := .fields (g vs) }:=by
 obtain ⟨c,dd,dt,sl⟩:=o;dsimp only at d;subst d;rfl
theorem nE_ {base:Heap}{env:Env}{outer:List Env}{L e:Addr}{oe:Obj}{vs:Array Value}{head:Value}{nx:Bool}{Q:Unit->Shared->Prop}
  (hfr:A.frames=some (env::outer)) (hl:s.heap.FunFrames base (env::outer)) (hf:env.frame=some L) (he:s.heap.get? e=some oe) (hd:oe.data = .fields vs) (hz:1<vs.size)
  (go : ∀ h',Noted (env::outer) e none (rawInt L) s.heap h'->Q () { s with heap:=h' }) :
  wpAny M A (do let a <- frameOf env;let pl <- entryPlaceOf L nx;let b <- EntryCells.newEntry head a .none (rawInt L) .none pl;setField (.ref e) 1 b) Q E s:=by
 have nfr:e∉frs (env::outer):=fun hm=>by
  obtain ⟨_,o,ho,nf⟩:=hl.mem hm;rw [he] at ho;cases ho;exact nf vs hd
 refine wpAny_bind (wpAny_frameOf_fun hfr hl hf fun h₁ so=>wpAny_bind (wpAny_entryPlaceOf fun pl hpl=>?_));unfold EntryCells.newEntry newFields;refine wpAny_bind (wpAny_newObj_type ?_ (hpl.sizeOk5 _ _ _ _ _));have e1:h₁.get? e=some oe:=(so.2.1 e nfr).trans he;have e2:=get?_push_of_some { cls := .type "traceback",dict:=none,data := .fields ([head,.ref L,.none,rawInt L,.none]++(if pl.isEmpty then List.replicate 6 Value.none else pl)).toArray } e1;have nT:h₁.objs.size≠e:=ne_of_gt (lt_size e1);have hfd:=Obj.isFreed_of_fields (Obj.data_mapFields hd (·.setIfInBounds 1 (Value.ref h₁.objs.size)));refine wpAny_setField e2 hd hz (go _ ⟨fun b o hb _ hn q=>?_,fun b o hb _ q=>?_,fun b o q=>?_,fun oe' vs' q1 q2=>?_⟩)
 ·rw [get?_update_other _ _ (Ne.symm hb)]
  exact get?_push_of_some _ ((so.2.1 b hn).trans q)
 ·obtain ⟨sl,z⟩:=so.2.2 b o q
  exact ⟨sl,by rw [get?_update_other _ _ (Ne.symm hb)];exact get?_push_of_some _ z⟩
 ·by_cases hb:b=e
  ·subst hb
   exact ⟨_,get?_update_self _ e2 hfd⟩
  obtain ⟨sl,z⟩:=so.2.2 b o q;exact ⟨_,by rw [get?_update_other _ _ (Ne.symm hb)];exact get?_push_of_some _ z⟩
 rw [he] at q1;cases q1;rw [hd] at q2;cases q2;have atT:((h₁.push { cls := .type "traceback",dict:=none,data := .fields ([head,.ref L,.none,rawInt L,.none]++(if pl.isEmpty then List.replicate 6 Value.none else pl)).toArray }).update e (Obj.mapFields (·.setIfInBounds 1 (Value.ref h₁.objs.size)))).get? h₁.objs.size
   = some { cls := .type "traceback",dict:=none,data := .fields ([head,.ref L,.none,rawInt L,.none]++(if pl.isEmpty then List.replicate 6 Value.none else pl)).toArray }:=by
  rw [get?_update_other _ _ (Ne.symm nT)];exact get?_push_size h₁ rfl
 refine ⟨vs.setIfInBounds 1 (Value.ref h₁.objs.size),h₁.objs.size,_,([head,.ref L,.none,rawInt L,.none]++(if pl.isEmpty then List.replicate 6 Value.none else pl)).toArray,?_,by simp [hz],Nat.le_of_eq so.1.symm,nT,atT,rfl,?_⟩
 ·rw [<- g5_ hd (·.setIfInBounds 1 (Value.ref h₁.objs.size))]
  exact get?_update_self _ e2 hfd
 first | (simp;done) | (rcases hpl with rfl | ⟨_,_,_,_,_,_,_,rfl⟩ <;> simp)
def ql_ (h:Heap) (e:Addr) (vs:Array Value) (old:Option Addr):Prop :=
 (old=none/\vs[1]? = some .none)\/∃ T oT ts,old=some T/\vs[1]? = some (.ref T)/\T≠e/\h.get? T=some oT/\oT.data = .fields ts/\ts[3]? = some .none
theorem pL_ {base:Heap}{env:Env}{outer:List Env}{L e:Addr}{oe:Obj}{vs:Array Value}{old:Option Addr}{Q:Unit->Shared->Prop}
  (hfr:A.frames=some (env::outer)) (hl:s.heap.FunFrames base (env::outer)) (hf:env.frame=some L) (he:s.heap.get? e=some oe) (hd:oe.data = .fields vs) (la:ql_ s.heap e vs old)
  (go : ∀ h',Noted (env::outer) e old (rawInt L) s.heap h'->Q () { s with heap:=h' }):wpAny M A (noteFrame (.ref e) env) Q E s:=by
 unfold noteFrame;simp only [hf];rcases la with ⟨rfl,h1⟩ | ⟨T,oT,ts,rfl,h1,nTe,hT,dT,h3⟩
 ·refine wpAny_bind (wpAny_field he hd h1 ?_)
  rw [if_neg (by decide)];exact nE_ hfr hl hf he hd (Array.getElem?_eq_some_iff.mp h1).1 go
 refine wpAny_bind (wpAny_field he hd h1 ?_);rw [if_pos (show (Value.ref T != Value.none)=true by simp)];refine wpAny_bind (wpAny_field hT dT h3 ?_);rw [if_neg (show ¬ ((Value.none == rawInt L)=true) by simp [rawInt])];refine wpAny_bind (wpAny_setField hT dT (Array.getElem?_eq_some_iff.mp h3).1 ?_);have oth : ∀ b,b≠T->(s.heap.update T (Obj.mapFields (·.setIfInBounds 3 Value.none))).get? b=s.heap.get? b:=fun b hb=>get?_update_other _ _ (Ne.symm hb);have atT:=get?_update_self (Obj.mapFields (·.setIfInBounds 3 Value.none)) hT (Obj.isFreed_of_fields (Obj.data_mapFields dT _));refine nE_ (s:={ s with heap:=s.heap.update T (Obj.mapFields (·.setIfInBounds 3 Value.none)) }) hfr (hl.of_keeps fun b o hb nf=>⟨o,(oth b fun q=>?_).trans hb,rfl⟩) hf ((oth e (Ne.symm nTe)).trans he) hd (Array.getElem?_eq_some_iff.mp h1).1
  fun h' n=>go h' ⟨fun b o hb ho hn q=>n.keep b o hb (by simp) hn ((oth b fun z=>ho (by rw [z])).trans q),fun b o hb ho q=>n.slot b o hb (by simp) ((oth b fun z=>ho (by rw [z])).trans q),fun b o q=>?_,fun oe' vs' q1 q2=>?_⟩
 ·subst q
  rw [hT] at hb;cases hb;exact nf ts dT
 ·by_cases hb:b=T
  ·subst hb
   exact n.there b _ atT
  exact n.there b o ((oth b hb).trans q)
 refine x_40 (n.exc oe' vs' ((oth e (Ne.symm nTe)).trans q1) q2) fun vs2 T2 oT2 ts2 zy=>x_03 zy fun z1 z2 z3 z=>?_;exact ⟨vs2,T2,oT2,ts2,z1,z2,Nat.le_trans (Nat.le_of_eq (Heap.size_after_update ..).symm) z3,z⟩
theorem h2_ {h:Heap}{l:List Env}{e:Addr}{old:Option Addr}{fl:Value}{oe:Obj}{vs:Array Value}{Q:Unit->Shared->Prop} (he:h.get? e=some oe) (hd:oe.data = .fields vs) (n:Noted l e old fl h s.heap)
  (go : ∀ h',Noted l e old .none h h'->Q () { s with heap:=h' }):wpAny M A (setFlight (.ref e) none) Q E s:=by
 obtain ⟨vs',T,oT,ts,z1,z2,z3,z4,z5,z6,z7⟩:=n.exc oe vs he hd;have hz:3<ts.size:=(Array.getElem?_eq_some_iff.mp z7).1;unfold setFlight;refine wpAny_bind (wpAny_field z1 rfl z2 ?_);rw [if_pos (show (Value.ref T != Value.none)=true by simp)];refine wpAny_setField z5 z6 hz (go _ ?_);have oth : ∀ b,b≠T->(s.heap.update T (Obj.mapFields (·.setIfInBounds 3 ((none:Option Addr).elim Value.none fun f=>rawInt f)))).get? b=s.heap.get? b:=fun b hb=>get?_update_other _ _ (Ne.symm hb);have ne : ∀ b o,h.get? b=some o->b≠T:=fun b o q=>Nat.ne_of_lt (Nat.lt_of_lt_of_le (lt_size q) z3);refine ⟨fun b o hb ho hn q=>(oth b (ne b o q)).trans (n.keep b o hb ho hn q),fun b o hb ho q=>?_,fun b o q=>?_,fun oe' vs2 q1 q2=>?_⟩
 ·obtain ⟨sl,z⟩:=n.slot b o hb ho q
  exact ⟨sl,(oth b (ne b o q)).trans z⟩
 ·obtain ⟨o',z⟩:=n.there b o q
  exact ⟨o',(oth b (ne b o q)).trans z⟩
 rw [he] at q1;cases q1;rw [hd] at q2;cases q2;exact ⟨vs',T,_,_,(oth e (Ne.symm z4)).trans z1,z2,z3,z4,get?_update_self _ z5 (Obj.isFreed_of_fields (Obj.data_mapFields z6 _)),Obj.data_mapFields z6 _,by simp [hz]⟩
end
structure Flown (h₀ h:Heap) (H:Hp) (a C d:Addr):Prop where
 new:h₀.objs.size<=a
 free:H a=none
 at_ : ∃ vs sl T oT ts,h.get? a=some ⟨.ref C,some d,.fields vs,sl⟩/\vs[1]? = some (.ref T)/\T≠a/\h₀.objs.size<=T/\H T=none/\h.get? T=some oT/\oT.data = .fields ts/\ts[3]? = some .none
def CX1 (P:Program) (w:World):CXT:=fun outer H s E e s'=>∃ a C d fs H',e = .ref a/\s'.os=s.os/\AllBare s'.gens/\Un (frs outer) [] H H' s.heap s'.heap/\HOk P w H' s'.heap/\Flown s.heap s'.heap H' a C d /\
 H' d=some (XDic d fs)/\E (.ref C) (some d) H'
theorem HOk.noted {P:Program}{w:World}{H:Hp}{h h':Heap}{l:List Env}{a:Addr}{old:Option Addr}{fl:Value} (x:HOk P w H h) (n:Noted l a old fl h h') (ha:H a=none) (ho : ∀ T,old=some T->H T=none) (hl : ∀ b∈frs l,H b=none):HOk P w H h':=fun b o e=>by
 have k : ∀ c u,H c≠none->h.get? c=some u->h'.get? c=some u:=fun c u q z=>n.keep c u (fun r=>q (by rw [r];exact ha)) (fun r=>q (ho c r.symm)) (fun r=>q (hl c r)) z;refine (x b o e).stay (fun c u hc q=>k c u ?_ q) (fun _ q=>q) fun _ _ q=>q;rcases hc with r | r
 ·rw [r,e]
  simp
 rw [r];simp
theorem Un.noted {fs':List Addr}{H₀ H:Hp}{h₀ h h':Heap}{l:List Env}{a:Addr}{old:Option Addr}{fl:Value} (u:Un fs' [] H₀ H h₀ h) (n:Noted l a old fl h h') (ha:h₀.get? a=none) (ho : ∀ T,old=some T->h₀.get? T=none)
  (hl : ∀ b∈frs l,b∈fs'\/h₀.get? b=none):Un fs' [] H₀ H h₀ h':=by
 have na : ∀ b o,h₀.get? b=some o->b≠a:=fun b o q r=>by
  rw [r,ha] at q;cases q
 have no : ∀ b o,h₀.get? b=some o->some b≠old:=fun b o q r=>by
  rw [ho b r.symm] at q;cases q
 refine ⟨fun b o q z hb hx=>n.keep b o (na b o q) (no b o q) (fun r=>?_) (u.keep b o q z hb hx),fun b o q z hb hx=>?_,u.free,fun b o q hx=>?_,u.tups,u.frzs,u.tbls⟩
 ·rcases hl b r with r | r
  ·exact hb r
  rw [q] at r;cases r
 ·obtain ⟨sl,e⟩:=u.slot b o q z hb hx
  obtain ⟨sl',e'⟩:=n.slot b _ (na b o q) (no b o q) e;exact ⟨sl',e'⟩
 obtain ⟨o',e⟩:=u.there b o q hx;exact n.there b o' e
theorem Flown.noted {h₀ h h':Heap}{H:Hp}{P:Program}{w:World}{l:List Env}{a C d:Addr}{old:Option Addr}{vs:Array Value}{sl:Array (Option Value)} (hok:HOk P w H h) (sz:h₀.objs.size<=h.objs.size) (n:Noted l a old .none h h')
  (e:h.get? a=some ⟨.ref C,some d,.fields vs,sl⟩) (ha:h₀.objs.size<=a) (hf:H a=none):Flown h₀ h' H a C d:=by
 obtain ⟨vs',T,oT,ts,z1,z2,z3,z4,z5,z6,z7⟩:=n.exc _ vs e rfl;exact ⟨ha,hf,vs',sl,T,oT,ts,z1,z2,z4,Nat.le_trans sz z3,hok.fresh z3,z5,z6,z7⟩
end
section
open PySem.W (InstAt Looks)
theorem HOk.del {P:Program}{w:World}{H:Hp}{h:Heap}{a:Addr}{φ:Heap->Prop} (x:HOk P w H h) (e:H a=some (.ext φ)):HOk P w (del H a) h:=fun b o q=>by
 have hb:b≠a:=fun r=>by
  rw [r,eq_] at q;cases q
 rw [cw_ hb] at q;refine (x b o q).stay (fun _ _ _ z=>z) (fun c z=>?_) fun c xs z=>?_
 ·rw [cw_ (fun r=>by rw [r,e] at z;cases z)]
  exact z
 rw [cw_ (fun r=>by rw [r,e] at z;cases z)];exact z
theorem Un.del {fs ex:List Addr}{H₀ H:Hp}{h₀ h:Heap}{a:Addr}{φ:Heap->Prop} (u:Un fs ex H₀ H h₀ h) (e:H a=some (.ext φ)):Un fs ex H₀ (del H a) h₀ h:=by
 refine ⟨u.keep,u.slot,fun b o q z hx=>?_,u.there,fun b xs q=>?_,fun b o xs q=>?_,fun b ps q=>?_⟩
 ·by_cases hb:b=a
  ·rw [hb,eq_]
  rw [cw_ hb];exact u.free b o q z hx
 ·have z:=u.tups b xs q
  rw [cw_ (fun r=>by rw [r,e] at z;cases z)];exact z
 ·have z:=u.frzs b o xs q
  rw [cw_ (fun r=>by rw [r,e] at z;cases z)];exact z
 obtain ⟨m,z⟩:=u.tbls b ps q;rw [cw_ (fun r=>by rw [r,e] at z;cases z)];exact ⟨m,z⟩
theorem gj_ {H:Hp}{a b:Addr} (h:H b=none):del H a b=none:=by
 by_cases hb:b=a
 ·rw [hb,eq_]
 rw [cw_ hb];exact h
theorem Inv.del {X:Cx}{zz:zP}{σ:St}{H:Hp}{s:Shared}{a:Addr}{φ:Heap->Prop} (I:Inv X zz σ H s) (e:H a=some (.ext φ)):Inv X zz σ (L2.del H a) s :=
 ⟨I.ok,I.os,I.bare,I.base.del e,I.loc,I.cell,gj_ I.free,fun x c q=>gj_ (I.freeC x c q),fun p hp=>let ⟨h1,h2,h3⟩:=I.pin p hp;⟨h1,gj_ h2,h3⟩,I.hok.del e,I.len⟩
section
variable {P:Program}{w:World}{K:Frag}{mg:zM}{base:Heap}{N:List Str}{qual:Str}{scope:Scope}{f:Addr}{cd:Value}{A:Around}{outer:List Env}{s₀:Shared}{H₀:Hp}{E:XK}
theorem gt_ {zz:zP}{σ:St}{H:Hp}{s:Shared}{a C d:Addr}{vs:Array Value}{sl:Array (Option Value)}{old:Option Addr}{fs:List (Str×V)} (I:Inv (cxOf (CX1 P w) P w K mg base N qual scope f cd A outer s₀ H₀ E) zz σ H s)
  (ha:s₀.heap.objs.size<=a) (hat:s.heap.get? a=some ⟨.ref C,some d,.fields vs,sl⟩) (la:ql_ s.heap a vs old) (ho : ∀ T,old=some T->s₀.heap.objs.size<=T/\H T=none) (hf:H a=none) (hd:H d=some (XDic d fs)) (q:E (.ref C) (some d) H) :
  (cxOf (CX1 P w) P w K mg base N qual scope f cd A outer s₀ H₀ E).xe (.ref a) s:=by
 have b1:Un (frs outer) [] H₀ H s₀.heap s.heap:=I.base;show wpAny _ _ (leaving _ (.ref a)) _ _ s;unfold leaving;refine wpAny_bind (pL_ (s:=s) I.ok.frames I.stack rfl hat rfl la fun h1 n1=>?_);refine h2_ (s:={ s with heap:=h1 }) (h:=s.heap) hat rfl n1 fun h2 n2=>?_;refine ⟨a,C,d,fs,H,rfl,I.os,I.bare,?_,?_,?_,hd,q⟩
 ·refine b1.noted n2 (get?_none_of_le ha) (fun T z=>get?_none_of_le (ho T z).1) fun b hb=>?_
  rcases mem_cons.mp (I.stkSub b hb) with e | hb
  ·refine .inr ?_
   rw [e];exact get?_none_of_le (Nat.le_refl _)
  exact .inl hb
 ·exact I.hok.noted n2 hf (fun T z=>(ho T z).2) fun b hb=>I.stkFree b hb
 exact Flown.noted I.hok I.sz n2 hat ha hf
theorem bl_:nL_ (cxOf (CX1 P w) P w K mg base N qual scope f cd A outer s₀ H₀ E) E:=fun zz σ H s C a dx fs I hs h1 h2 q=>by
 obtain ⟨⟨t,hat⟩,_,_⟩:=(show aT_ P w H s.heap a (XNew C a (some dx)) from I.hok a _ h1);have nd:dx≠a:=fun z=>by
  obtain ⟨_,mA,⟨o,es,ep,ho,hd,_⟩,_⟩:=(show aT_ P w H s.heap dx (XDic dx fs) from I.hok dx _ h2).1;rw [z,hat] at ho;cases ho;cases hd
 exact gt_ (old:=none) (I.del h1) hs hat (.inl ⟨rfl,rfl⟩) (fun T z=>nomatch z) eq_ (by rw [cw_ nd];exact h2) q
theorem aH_:b3_ (CX1 P w) (cxOf (CX1 P w) P w K mg base N qual scope f cd A outer s₀ H₀ E) E:=fun zz σ H s e s' I z=>by
 refine x_50 z fun a C d fs H' zy=>x_07 zy fun zr5 os bare un hok zn10 hd q=>?_;subst zr5;obtain ⟨new,free,vs,sl,T,oT,ts,hat,h1,nT,nT0,fT,hT,dT,h3⟩:=zn10;have I':=I.call' (ch:=[]) os un hok bare (fun b z=>absurd z (by simp));exact gt_ (old:=some T) I' (Nat.le_trans I.sz new) hat (.inr ⟨T,oT,ts,rfl,h1,nT,hT,dT,h3⟩) (fun T' z=>by cases z;exact ⟨Nat.le_trans I.sz nT0,fT⟩) free hd q
theorem iL_:PassesOwn (model P w) (cxOf (CX1 P w) P w K mg base N qual scope f cd A outer s₀ H₀ E).A (cxOf (CX1 P w) P w K mg base N qual scope f cd A outer s₀ H₀ E).env (cxOf (CX1 P w) P w K mg base N qual scope f cd A outer s₀ H₀ E).xe:=PassesOwn.leaving
theorem Fun.okX {x:Str}{st:Stmt}{fd:FuncData}{ps:List Str}{k:Nat}{sp:Sp} (F:Fun K x qual st f fd) (S:FnScope N ps (ag_ st))
  (hbody : ∀ (cdv:Value) (A:Around) (outer:List Env) (s:Shared) (H:Hp) (vs:List V) (Q:VK) (E:XK),Room k (A.deeper (envOfC qual (ag_ st) s.heap.objs.size f cdv))->sp vs H Q E ->
   ∃ t,PSs (cxOf (CX1 P w) P w K mg base N qual (ag_ st) f cdv A outer s H E) (bQ_ st) t/\t { nx:=fun _ H'=>Q .non H',rt:=Q } (start N vs) H) (len : ∀ vs H Q E,sp vs H Q E->vs.length=ps.length:=by intro _ _ _ _ h;repeat first | (cases h;rfl) | (obtain ⟨rfl,_⟩:=h;rfl) | (obtain ⟨_,h⟩:=h)):FnOk P w K mg base (CX1 P w) (k+1) f fd ps sp:=by
 refine x_90 F.ex fun oc od kV doc pm an cdv ct osl zy=>x_02 zy fun zr9 lk hcd=>?_;subst zr9;exact p3_ lk hcd S len fun A outer s H vs Q E hr hsp=>hbody cdv A outer s H vs Q E hr hsp
end
end
section
open PySem.W (InstAt Looks)
abbrev Cx.pinned (X:Cx) (pn:zP) (E:zQ):Cx:={ X with pn:=pn,xe:=E }
abbrev Cx.hand (X:Cx) (a:Addr):Cx:={ X with A:=X.A.mark (some (.ref a)),calm:=false,xe:=fun _ _=>False }
section
variable {X:Cx}{zz:zP}{σ:St}{H:Hp}{s:Shared}{E:zQ}{a:Addr}
theorem Inv.pin_in (I:Inv X zz σ H s):Inv (X.pinned (X.pn++zz) E) [] σ H s :=
 ⟨⟨I.ok.mod,I.ok.kind,I.ok.glob,I.ok.blt,I.ok.above,I.ok.inj,I.ok.has,I.ok.cab,I.ok.hd,I.ok.frames,I.ok.stk,I.ok.exf,I.ok.bs,I.ok.bsz,I.ok.noex,I.ok.exfs,I.ok.funs,I.ok.frf⟩,I.os,I.bare,I.base,I.loc,I.cell,I.free,I.freeC,fun p hp=>I.pin p (by simpa using hp),I.hok,I.len⟩
theorem Inv.pin_out {pins':zP} (I:Inv (X.pinned (X.pn++zz) E) pins' σ H s):Inv X zz σ H s :=
 ⟨⟨I.ok.mod,I.ok.kind,I.ok.glob,I.ok.blt,I.ok.above,I.ok.inj,I.ok.has,I.ok.cab,I.ok.hd,I.ok.frames,I.ok.stk,I.ok.exf,I.ok.bs,I.ok.bsz,I.ok.noex,I.ok.exfs,I.ok.funs,I.ok.frf⟩,I.os,I.bare,I.base,I.loc,I.cell,I.free,I.freeC,fun p hp=>I.pin p (mem_append_left _ hp),I.hok,I.len⟩
theorem Inv.hand_in (I:Inv X zz σ H s) (a:Addr):Inv (X.hand a) zz σ H s :=
 ⟨⟨I.ok.mod,I.ok.kind,I.ok.glob,I.ok.blt,I.ok.above,I.ok.inj,I.ok.has,I.ok.cab,fun z=>Bool.noConfusion z,I.ok.frames,I.ok.stk,I.ok.exf,I.ok.bs,I.ok.bsz,I.ok.noex,I.ok.exfs,I.ok.funs,I.ok.frf⟩,I.os,I.bare,I.base,I.loc,I.cell,I.free,I.freeC,I.pin,I.hok,I.len⟩
theorem Inv.hand_out (ok:X.Ok) (I:Inv (X.hand a) zz σ H s):Inv X zz σ H s:=⟨ok,I.os,I.bare,I.base,I.loc,I.cell,I.free,I.freeC,I.pin,I.hok,I.len⟩
theorem SP.pin_out {D:Ends}{f:Flow} (h:SP (X.pinned (X.pn++zz) E) [] D f s):SP X zz D f s:=by
 cases f with
 | next=>obtain ⟨σ',H',I,q⟩:=h;exact ⟨σ',H',I.pin_out,q⟩
 | brk=>obtain ⟨σ',H',I,q⟩:=h;exact ⟨σ',H',I.pin_out,q⟩
 | cont=>obtain ⟨σ',H',I,q⟩:=h;exact ⟨σ',H',I.pin_out,q⟩
 | ret u=>obtain ⟨v,σ',H',I,r,q⟩:=h;exact ⟨v,σ',H',I.pin_out,r,q⟩
theorem Inv.noted {old:Option Addr}{fl:Value}{h':Heap}{t':Nat} (I:Inv X zz σ H s) (n:Noted X.stack a old fl s.heap h') (ha:H a=none) (ho : ∀ T,old=some T->H T=none)
  (hx : ∀ b,b=a\/some b=old->X.s_0.heap.objs.size<=b/\b≠X.env.locals/\(∀ x c,X.env.cells.lookup x=some c->c≠b)/\∀ p∈X.pn++zz,p.1≠b):Inv X zz σ H { s with heap:=h',toks:=t' }:=by
 have mem : ∀ b,b∈a::old.toList->b=a\/some b=old:=fun b hb=>by
  rcases mem_cons.mp hb with e | e
  ·exact .inl e
  cases old with
  | none=>simp at e
  | some T=>exact .inr (by simpa using e)
 have nch : ∀ b,b∉a::old.toList->b≠a/\some b≠old:=fun b hb=>⟨fun z=>hb (by simp [z]),fun z=>hb (by rw [<- z];simp)⟩;refine I.step (g':=s.gens) (d':=s.drawn) (ch:=a::old.toList) (fun b hb=>let ⟨h1,h2,h3,h4⟩:=hx b (mem b hb);⟨.inr h1,h2,h3,h4⟩) (fun b o hL hb hc q _=>n.keep b o (nch b hc).1 (nch b hc).2 (fun z=>?_) q)
  (fun b o _ _ hc q _=>n.slot b o (nch b hc).1 (nch b hc).2 q) (fun b o _ _ z=>z) (fun b o _ q=>n.there b o q) (fun _ _ z=>z) (fun _ _ _ z=>z) (fun b ps z=>⟨#[],by rw [z];simp⟩) (fun m hm=>?_)
  (I.hok.noted n ha ho fun b hb=>I.stkFree b hb) I.bare
 ·rcases mem_cons.mp (I.stkSub b z) with e | e
  ·exact hL e
  exact hb e
 obtain ⟨o,es,ep,ho',r⟩:=hm;have nl:X.env.locals≠a/\some X.env.locals≠old:=⟨fun z=>(hx _ (.inl z)).2.1 rfl,fun z=>(hx _ (.inr z)).2.1 rfl⟩;obtain ⟨sl,e⟩:=n.slot _ o nl.1 nl.2 ho';exact ⟨_,es,ep,e,r⟩
theorem Inv.unbound {h':Heap}{m':zM}{t':Nat} (I:Inv X zz σ H s) (hn:h'.Ns X.env.locals m') (sb:Heap.SameBut X.env.locals s.heap h'):Inv X zz (List.replicate X.N.length none) H { s with heap:=h',toks:=t' }:=by
 have old : ∀ b o,X.s_0.heap.get? b=some o->h'.get? b=s.heap.get? b:=fun b o q=>sb.2 b (Nat.ne_of_lt (Nat.lt_of_lt_of_le (lt_size q) I.ok.above));refine ⟨I.ok,I.os,I.bare,⟨fun b o q z hb hx=>(old b o q).trans (I.base.keep b o q z hb hx),fun b o q z hb hx=>?_,I.base.free,fun b o q hx=>?_,I.base.tups,I.base.frzs,I.base.tbls⟩,⟨m',hn,fun i x v _ e2 _=>?_⟩,fun x c e=>?_,I.free,I.freeC,fun p hp=>?_,fun b ob e=>?_,by simp⟩
 ·obtain ⟨sl,e⟩:=I.base.slot b o q z hb hx
  exact ⟨sl,(old b o q).trans e⟩
 ·obtain ⟨o',e⟩:=I.base.there b o q hx
  exact ⟨o',(old b o q).trans e⟩
 ·rw [List.getElem?_replicate] at e2
  split at e2 <;> cases e2
 ·obtain ⟨v,z⟩:=I.cell x c e
  exact ⟨v,z.sameBut sb (I.cne x c e)⟩
 ·refine x_03 (I.pin p hp) fun h1 h2 h3 h4=>?_
  exact ⟨(sb.2 p.1 h3).trans h1,h2,h3,h4⟩
 refine (I.hok b ob e).stay (fun c u hc q=>(sb.2 c fun z=>?_).trans q) (fun _ q=>q) fun _ _ q=>q;rcases hc with r | r
 ·rw [<- r,z,I.free] at e
  cases e
 rw [z,I.free] at r;cases r
theorem Inv.track {o:HO} (I:Inv X zz σ H s) (hn:H a=none) (hx:X.s_0.heap.objs.size<=a/\a≠X.env.locals/\(∀ x c,X.env.cells.lookup x=some c->c≠a)/\∀ p∈X.pn++zz,p.1≠a) (ok:aT_ X.prog X.w (upd H a o) s.heap a o):Inv X zz σ (upd H a o) s:=by
 have na : ∀ b u,H b=some u->b≠a:=fun b u q=>af_ q hn;refine ⟨I.ok,I.os,I.bare,⟨I.base.keep,I.base.slot,fun b u q z hb=>?_,I.base.there,fun b xs q=>?_,fun b u xs q=>?_,fun b ps q=>?_⟩,I.loc,I.cell,?_,fun x c e=>?_,fun p hp=>?_,fun b u q=>?_,I.len⟩
 ·rw [al_ (Nat.ne_of_lt (Nat.lt_of_lt_of_le (lt_size q) hx.1))]
  exact I.base.free b u q z hb
 ·have z:=I.base.tups b xs q
  rw [al_ (na _ _ z)];exact z
 ·have z:=I.base.frzs b u xs q
  rw [al_ (na _ _ z)];exact z
 ·obtain ⟨m,z⟩:=I.base.tbls b ps q
  exact ⟨m,by rw [al_ (na _ _ z)];exact z⟩
 ·rw [al_ (Ne.symm hx.2.1)]
  exact I.free
 ·rw [al_ (hx.2.2.1 x c e)]
  exact I.freeC x c e
 ·obtain ⟨h1,h2,h3⟩:=I.pin p hp
  exact ⟨h1,by rw [al_ (hx.2.2.2 p hp)];exact h2,h3⟩
 by_cases hb:b=a
 ·subst hb
  rw [ad_] at q;cases q;exact ok
 rw [al_ hb] at q;exact (I.hok b u q).stay (fun _ _ _ z=>z) (fun c z=>by rw [al_ (na _ _ z)];exact z) fun c xs z=>by rw [al_ (na _ _ z)];exact z
end
def pZ_ (X:Cx) (C:Addr) (i:Nat) (ts:TS) (D:Ends):XK:=fun cls d H=>cls = .ref C/\∀ a dx,d=some dx->H a=none->ts { nx:=fun _ _=>False,rt:=D.rt } ((List.replicate X.N.length none).set i (some (.ref a))) (upd H a (XGot C a dx))
section
variable {X:Cx}{C f:Addr}{i:Nat}{cx nm:Str}{np hpos pos:Pos}{body suite:List Stmt}{b₀:Stmt}{ts:TS}{tb:Ends->TS}
theorem ns_ (c:XCls X.K C f) (hg:Gl X cx) (hm:X.mg cx=some (.ref C)) (hN:X.N.Nodup) (hi:X.N[i]? = some nm) (hk:X.env.scope.names.lookup nm=some .local) (hstk:X.stack=X.env::X.outer) (hfr:X.env.frame=some X.env.locals)
  (hb : ∀ (pn:zP) (E:zQ) (D:Ends),b3_ (CX1 X.prog X.w) (X.pinned pn E) (pZ_ X C i ts D)->PSs (X.pinned pn E) body (tb D)) (hs : ∀ a,PSs (X.hand a) (b₀::suite) ts)
  (hdb:(cx == ("__debug__":Str))=false:=by decide) :
  PS X (.Try body [.ExceptHandler (some (.Name cx np)) (some nm) (b₀::suite) hpos] [] [] pos) (fun D σ H=>tb D D σ H):=by
 intro zz s σ H D I h;refine wpAny_Try_except ?_;refine wpAny_mono (hb (X.pn++zz) (fun e s'=>∃ pins' σ' H₁ s₁,Inv (X.pinned (X.pn++zz) fun _ _=>False) pins' σ' H₁ s₁/\CX1 X.prog X.w X.stack H₁ s₁ (pZ_ X C i ts D) e s') D (fun pins' σ' H₁ s₁ e s' J z=>⟨pins',σ',H₁,s₁,?_,z⟩) [] s σ H D I.pin_in h) (fun fl s₁ q=>?_) fun e s' q=>?_
 ·exact ⟨⟨J.ok.mod,J.ok.kind,J.ok.glob,J.ok.blt,J.ok.above,J.ok.inj,J.ok.has,J.ok.cab,J.ok.hd,J.ok.frames,J.ok.stk,J.ok.exf,J.ok.bs,J.ok.bsz,J.ok.noex,J.ok.exfs,J.ok.funs,J.ok.frf⟩,J.os,J.bare,J.base,J.loc,J.cell,J.free,J.freeC,J.pin,J.hok,J.len⟩
 ·have q':=SP.pin_out q
  cases fl with
  | next=>exact wpAny_execs_nil q'
  | brk=>exact q'
  | cont=>exact q'
  | ret u=>exact q'
 obtain ⟨pins',σ',H₁,s₁,J,a,C',d,fs,H',rfl,os,bare,un,hok,⟨new,free,vs,sl,T,oT,tv,hat,h1,nT,nT0,fT,hT,dT,h3⟩,hd,hC,q⟩:=q;cases hC;have J1:=J.pin_out;have J2:=J1.call' (ch:=[]) os un hok bare (fun b z=>absurd z (by simp));have hx : ∀ b,b=a\/some b=some T->X.s_0.heap.objs.size<=b/\b≠X.env.locals/\(∀ x c,X.env.cells.lookup x=some c->c≠b)/\∀ p∈X.pn++zz,p.1≠b:=fun b hb=>by
  have big:s₁.heap.objs.size<=b:=by
   rcases hb with e | e
   ·rw [e];exact new
   cases e;exact nT0
  refine ⟨Nat.le_trans J1.sz big,ne_of_gt (Nat.lt_of_lt_of_le J1.lt big),fun x c e=>?_,fun p hp=>Nat.ne_of_lt (Nat.lt_of_lt_of_le (lt_size (J1.pin p hp).1) big)⟩;obtain ⟨v,z⟩:=J1.cell x c e;exact Nat.ne_of_lt (Nat.lt_of_lt_of_le z.lt big)
 have stk:=J2.stack;have frm:=J2.ok.frames;rw [hstk] at stk frm;refine pL_ (s:=s') frm stk hfr hat rfl (.inr ⟨T,oT,tv,rfl,h1,nT,hT,dT,h3⟩) fun h2 n2=>?_;refine h2_ (s:={ s' with heap:=h2 }) (h:=s'.heap) hat rfl n2 fun h3 n3=>?_;refine wpAny_handleBy_cons (codeAny_handlers_test ?_) (by intro z;cases z);have n3':Noted X.stack a (some T) Value.none s'.heap h3:=by rw [hstk];exact n3
 have J3:=J2.noted (t':=s'.toks) n3' free (fun T' z=>by cases z;exact fT) hx;refine dO_ (J3.hand_in a) hg hm ?_ hdb;obtain ⟨nm',q',N',bs,sn,sub,ab,col,dd,k0,k1,k2,k3,k5,lk⟩:=c.obj;obtain ⟨vs2,T2,oT2,tv2,z1,z2,z3,z4,z5,z6,z7⟩:=n3.exc _ vs hat rfl;refine wpAny_excMatches_sub_self (J3.kIn _ _ lk) z1 rfl PySem.F.excBase_Exception.hasBase ?_;refine codeAny_handlers_suite_as ?_;refine h2_ (s:={ s' with heap:=h3 }) (h:=s'.heap) hat rfl n3 fun h4 n4=>?_;have n4':Noted X.stack a (some T) Value.none s'.heap h4:=by rw [hstk];exact n4
 have J4:=J2.noted (t':=s'.toks) n4' free (fun T' z=>by cases z;exact fT) hx;obtain ⟨vs4,T4,oT4,tv4,y1,_⟩:=n4.exc _ vs hat rfl;have J5:Inv X zz ((List.replicate X.N.length none)) (upd H' a (XGot C a d)) { s' with heap:=h4 }:=by
  refine Inv.weak (σ:=σ') ?_ (by rw [List.length_replicate];exact J4.len.symm) fun j v e=>?_
  ·exact J4.track free (hx a (.inl rfl)) (qn_ y1)
  rw [List.getElem?_replicate] at e;split at e <;> cases e
 refine eg_ (X:=X) J5 hN hi (.inl hk) (v := .ref a) rfl (fun s5 J6=>?_) (.inr hk);refine wpAny_mono (hs a zz s5 _ _ { nx:=fun _ _=>False,rt:=D.rt } (J6.hand_in a) (q a d rfl free)) (fun fl s6 r=>?_) fun _ _ z=>False.elim z;cases fl with
 | next=>obtain ⟨_,_,_,z⟩:=r;exact z.elim
 | brk=>obtain ⟨_,_,_,z⟩:=r;exact z.elim
 | cont=>obtain ⟨_,_,_,z⟩:=r;exact z.elim
 | ret u =>
 obtain ⟨v,σ7,H7,J7,rv,r⟩:=r;have J8:=J7.hand_out I.ok;obtain ⟨m,hm8,_⟩:=id J8.loc;refine wpAny_nameGoes hk hm8 (by rw [I.ok.kind];rfl) fun h9 m9 hn9 sb=>?_;exact ⟨v,_,H7,J8.unbound hn9 sb,rv,r⟩
end
end
theorem lenS {A:Type}{n:Nat}{l:List A} (h:l.length=n+1) : ∃ a r,l=a::r/\r.length=n:=by
 cases l with
 | nil=>cases h
 | cons a r=>exact ⟨a,r,rfl,Nat.succ.inj h⟩
theorem len0 {A:Type}{l:List A} (h:l.length=0):l=[]:=List.length_eq_zero_iff.mp h
theorem len1 {A:Type}{l:List A} (h:l.length=1) : ∃ a,l=[a]:=by
 obtain ⟨a,r,rfl,q⟩:=lenS h;exact ⟨a,by rw [len0 q]⟩
theorem len2 {A:Type}{l:List A} (h:l.length=2) : ∃ a b,l=[a,b]:=by
 obtain ⟨a,r,rfl,q⟩:=lenS h;obtain ⟨b,rfl⟩:=len1 q;exact ⟨a,b,rfl⟩
theorem len3 {A:Type}{l:List A} (h:l.length=3) : ∃ a b c,l=[a,b,c]:=by
 refine x_21 (lenS h) fun a r zr2 q=>?_;subst zr2;obtain ⟨b,c,rfl⟩:=len2 q;exact ⟨a,b,c,rfl⟩
theorem len4 {A:Type}{l:List A} (h:l.length=4) : ∃ a b c d,l=[a,b,c,d]:=by
 refine x_21 (lenS h) fun a r zr2 q=>?_;subst zr2;refine x_30 (len3 q) fun b c d zr3=>?_;subst zr3;exact ⟨a,b,c,d,rfl⟩
theorem len5 {A:Type}{l:List A} (h:l.length=5) : ∃ a b c d e,l=[a,b,c,d,e]:=by
 refine x_21 (lenS h) fun a r zr2 q=>?_;subst zr2;refine x_40 (len4 q) fun b c d e zr4=>?_;subst zr4;exact ⟨a,b,c,d,e,rfl⟩
theorem nU_ {i:Nat}{σ:L2.St}{H:Hp}{Q:VK}{v:V} (e:σ[i]? = some (some v)) (h:Q v H):tVar i σ H Q:=by
 unfold tVar;rw [e];exact h
variable {CX:CXT}{k:Nat}{E:XK}{x:Str}{p pos:Pos}{es:List Expr}{t:TA}
def eC_ (X:Cx) (CX:CXT) (k i:Nat) (E:XK) (t:TA):TE:=fun σ H Q=>∃ f fd ps sp,σ[i]? = some (some (.ref f))/\FnOk X.prog X.w X.K X.mg X.base CX k f fd ps sp/\a8_ X.K fd ps []/\keepIn X.K (.ref f)=true /\
 t σ H fun vs H1=>sp vs H1 Q E
theorem cJ_ (i:Nat) (hr:Room k X.A) (hx:b3_ CX X E) (ha:PA X (e::es) t) (hN:X.N[i]? = some x:=by rfl)
  (hv:Vis X.env.scope x:=by first | exact Or.inl rfl | exact Or.inr (Or.inl rfl) | exact Or.inr (Or.inr rfl)) (hd:(x == ("__debug__":Str))=false:=by decide) (hcd:(x == ("__classdict__":Str))=false:=by decide)
  (he:starEach (e::es) X.env=(false,eval e X.env)::starEach es X.env:=by rfl) (hpl:(backTo pos (starEach es X.env)).any (·.1)=false:=by rfl) :
  PE X (.Call (.Name x p) (e::es) [] pos) (eC_ X CX k i E t):=by
 intro zz s σ H Q I h;refine x_40 h fun f fd ps sp zy=>x_04 zy fun h1 F hb hk h2=>?_;refine wpAny_Call_Name_kw (thn (pv (X:=X) i hN hv hd hcd zz s σ H (fun v H'=>v = .ref f/\H'=H) I (nU_ h1 ⟨rfl,rfl⟩)) fun u s1 zq=>?_);refine x_23 zq fun v H1 I1 r1 ev eH=>?_;subst ev eH;cases r1;refine callWith_K (h₀:=X.base) I1.ok.mod.kin hk (thn (ha pos zz s1 σ _ _ I1 h2) fun us s2 ⟨vs,H2,I2,r,q⟩=>⟨I2.kIn,?_⟩) he hpl;exact ix_ (dvs:=[]) F hr hb .nil hx I2 r (by rw [append_nil];exact q)
theorem pe_g {x:Str}{v:V}{pos:Pos} (h : ∃ u,X.mg x=some u/\RelV v u) (hg:Gl X x:=by rfl) (hd:(x == ("__debug__":Str))=false:=by decide):PE X (.Name x pos) (tC v):=by
 obtain ⟨u,h1,h2⟩:=h;exact kN_ hg h1 h2 hd
def qm_ (i j:Int):Prop:=0<j/\j.natAbs.log2<9000
theorem iN_:OpR X (binaryOp .FloorDiv) (rI qm_ fun i j => .int (i / j)):=opI fun i j _ _ _ _ _ hc q=>by
 have hj:j≠0:=by have:=hc.1;omega
 refine floordiv_int hj ?_ (.inl (PyProof.noPylong_of_log2 hc.2));rw [Int.fdiv_eq_ediv_of_nonneg _ (Int.le_of_lt hc.1)];exact q
theorem ju_ {n:Nat} (h:n<2 ^ 200):n.log2<9000:=by
 by_cases h0:n=0
 ·subst h0;decide
 exact Nat.lt_trans ((Nat.log2_lt h0).mpr h) (by decide)
theorem jm_:OpR X (binaryOp .Mult) (fun x y H Q=>∃ a n,x = .str a/\y = .int n/\MulOk a n/\Q (.str (Txt.mul a n)) H):=by
 intro zz s σ H x y v u Q I rx ry h;obtain ⟨a,n,rfl,rfl,hm,h⟩:=h;obtain ⟨t1,rfl⟩:=rx;obtain ⟨t2,rfl⟩:=ry;exact SB.mul hm fun t' k=>⟨.str (Txt.mul a n),H,I.tok _,⟨_,rfl⟩,h⟩
def PET (X:Cx) (e:Expr) (t:TE):Prop :=
 ∀ (zz:zP) (s:Shared) (σ:St) (H:Hp) (Q:VK),Inv X zz σ H s->1<=s.toks->t σ H Q->wpAny (model X.prog X.w) X.A (eval e X.env) (EP X zz σ Q) X.xe s
def PEp (X:Cx) (e:Expr) (t:TE):Prop :=
 ∀ (zz:zP) (s:Shared) (σ:St) (H:Hp) (Q:VK),Inv X zz σ H s->t σ H Q->wpAny (model X.prog X.w) X.A (eval e X.env) (fun u s'=>1<=s'.toks/\EP X zz σ Q u s') X.xe s
def PTT (X:Cx) (e:Expr) (t:TT):Prop :=
 ∀ (zz:zP) (s:Shared) (σ:St) (H:Hp) (Q:Bool->Hp->Prop),Inv X zz σ H s->1<=s.toks->t σ H Q->wpAny (model X.prog X.w) X.A (isTrue e X.env (eval e X.env)) (TP X zz σ Q) X.xe s
def PTp (X:Cx) (e:Expr) (t:TT):Prop :=
 ∀ (zz:zP) (s:Shared) (σ:St) (H:Hp) (Q:Bool->Hp->Prop),Inv X zz σ H s->t σ H Q->wpAny (model X.prog X.w) X.A (isTrue e X.env (eval e X.env)) (fun u s'=>1<=s'.toks/\TP X zz σ Q u s') X.xe s
def PSsT (X:Cx) (st:List Stmt) (t:TS):Prop :=
 ∀ (zz:zP) (s:Shared) (σ:St) (H:Hp) (D:Ends),Inv X zz σ H s->1<=s.toks->t D σ H->wpAny (model X.prog X.w) X.A (execs st X.env) (SP X zz D) X.xe s
def PST (X:Cx) (st:Stmt) (t:TS):Prop :=
 ∀ (zz:zP) (s:Shared) (σ:St) (H:Hp) (D:Ends),Inv X zz σ H s->1<=s.toks->t D σ H->wpAny (model X.prog X.w) X.A (exec st X.env) (SP X zz D) X.xe s
def PIT (X:Cx) (tg iter:Expr) (wi:TI):Prop :=
 ∀ (zz:zP) (s:Shared) (σ:St) (H:Hp) (R:It->Hp->Prop),Inv X zz σ H s->1<=s.toks->wi σ H R ->
  wpAny (model X.prog X.w) X.A (eval iter X.env) (fun v s1=>wpAny (model X.prog X.w) X.A (pyIter v) (PIE X zz σ tg R) X.xe s1) X.xe s
structure FnOkT (P:Program) (w:World) (K:Frag) (mg:zM) (base:Heap) (CX:CXT) (k:Nat) (f:Addr) (fd:FuncData) (ps:List Str) (sp:Sp):Prop where
 len : ∀ vs H Q E,sp vs H Q E->vs.length=ps.length
 run : ∀ (A:Around) (outer:List Env) (s:Shared) (H:Hp) (args:Args) (us:List Value) (vs:List V) (Q:VK) (E:XK),1<=s.toks->Room k A->Env0 P w K mg base A outer s H->BindsTo s fd args (ps.zip us)->Vals vs us->sp vs H Q E ->
  codeAny (model P w) A (.call (.ref f) args) (CR CX outer P w H s Q E) s
section
variable {zt:Pos}{a b c:Expr}{ta tb:TE}{tA tB':TT}{st:Stmt}{rest:List Stmt}{tS u:TS}{fd:FuncData}{ps:List Str}{sp:Sp}
theorem og_ {op:CmpOp}{r:R2} (ho:OpR X (compareOp op) r) (ha:PE X a ta) (hb:PEp X b tb) (hm:behindInMarks op b=false):PTp X (.Compare a [op] [b] pos) (lZ_ (tOp r ta tb)):=by
 intro zz s σ H Q I h;refine wpAny_isTrue_Compare1 (thn (ha zz s σ H _ I h) fun v s1 ⟨x,H1,I1,r1,q1⟩=>thn (hb zz s1 σ H1 _ I1 q1) fun u s2 ⟨tk,y,H2,I2,r2,q2⟩ =>
  thn (wpAny_toks_of tk (ho zz s2 σ H2 x y v u _ I2 r1 r2 q2) |> fun z=>wpAny_mono z (fun _ _ q=>q) fun _ _ q=>q.2) fun c s3 ⟨tk3,z,H3,I3,r3,q3⟩=>?_) hm
 obtain ⟨k,e,q3⟩:=k9_ q3;subst e;cases r3;exact wpAny_truthy_bool ⟨tk3,H3,I3,q3⟩
theorem ol_ (hg:Gl X "len") (hm:X.mg "len"=none) (ha:PE X a ta) (hs:starEach [a] X.env=[(false,eval a X.env)]:=by rfl) :
  PEp X (.Call (.Name "len" p) [a] [] pos) (fun σ H Q=>ta σ H fun x H1=>∃ q ys,x = .ref q/\SqL X.K H1 q ys/\Q (.int ys.length) H1):=by
 intro zz s σ H Q I h;refine wpAny_Call_Name_kw (d1_ I hg hm PySem.boot_len ?_);have he:starEach (a::[]) X.env=(false,eval a X.env)::starEach [] X.env:=by rw [hs];rfl
 refine PyProof.Rows.callWith_builtin1 (thn (aa_ ha ac_ he pos zz s σ H (fun vs H1=>∃ x,vs=[x]/\∃ q ys,x = .ref q/\SqL X.K H1 q ys/\Q (.int ys.length) H1) I ?_) fun us s1 ⟨vs,H1,I1,r1,x,ex,q,ys,exq,hq,qq⟩=>?_) he rfl
 ·have h':ta σ H fun x H1=>∃ q ys,x=V.ref q/\SqL X.K H1 q ys/\Q (.int ys.length) H1:=h
  show ta σ H fun x H1=>∃ x_1,[x]=[x_1]/\_;have e:(fun (x:V) (H1:Hp)=>∃ x_1,[x]=[x_1]/\∃ q ys,x_1=V.ref q/\SqL X.K H1 q ys/\Q (.int ys.length) H1)=fun x H1=>∃ q ys,x=V.ref q/\SqL X.K H1 q ys/\Q (.int ys.length) H1:=by
   funext x H1
   exact propext ⟨fun ⟨y,e,z⟩=>by cases e;exact z,fun z=>⟨x,rfl,z⟩⟩
  rw [e];exact h'
 subst ex exq;obtain ⟨u,rfl,rx⟩:=gA_ r1;cases rx;have hn:=dq_;refine x_12 (I1.list hq) fun its r' pl hz=>?_;have zr:=r'.length;exact Calls.call_len_list pl.isList (by simp only [size_toArray] <;> omega) ⟨by show 1<=_ ;simp;try omega,.int ys.length,H1,I1.tok _,⟨_,by rw [size_toArray,zr]⟩,qq⟩
theorem pw_orP (ha:PTp X a tA) (hb : ∀ whole (zz:zP) (s:Shared) (σ:St) (H:Hp) (Q:Bool->Hp->Prop),Inv X zz σ H s->1<=s.toks->tB' σ H Q->wpAny (model X.prog X.w) X.A (isTrue (.BoolOp .Or [b] pos) X.env whole) (TP X zz σ Q) X.xe s):PT X (.BoolOp .Or [a,b] pos) (tOr tA tB'):=by
 intro zz s σ H Q I h;refine isTrue_or (thn (ha zz s σ H _ I h) fun c s1 ⟨tk,H1,I1,q1⟩=>?_);cases c with
 | true=>exact ⟨H1,I1,q1⟩
 | false=>exact hb _ zz s1 σ H1 Q I1 tk q1
theorem pw_or1T (ha:PTT X a tA) : ∀ whole (zz:zP) (s:Shared) (σ:St) (H:Hp) (Q:Bool->Hp->Prop),Inv X zz σ H s->1<=s.toks->tA σ H Q->wpAny (model X.prog X.w) X.A (isTrue (.BoolOp .Or [a] pos) X.env whole) (TP X zz σ Q) X.xe s:=by
 intro wh zz s σ H Q I tk h;refine isTrue_or (thn (ha zz s σ H Q I tk h) fun c s1 e=>?_);cases c with
 | false=>exact isTrue_or_nil e
 | true=>exact e
theorem od_ (ha:PTT X a tA):PTT X (.UnaryOp .Not a pos) (tNot tA):=by
 intro zz s σ H Q I tk h;exact isTrue_not (ha zz s σ H (fun c H1=>Q (!c) H1) I tk h)
theorem oc_ {e:Expr}{t:TE} (h:PET X e t) (he : ∀ whole,isTrue e X.env whole=(do let v <- whole;standAt e.pos;holding [v] (truthy v)):=by intro _;rfl):PTT X e (tB t):=by
 intro zz s σ H Q I tk hw;refine isTrue_plain (thn (h zz s σ H _ I tk hw) fun v s1 zq=>?_) (he _);obtain ⟨x,H1,I1,r1,q1⟩:=zq;obtain ⟨d,rfl,q⟩:=q1;cases r1;exact wpAny_truthy_bool ⟨H1,I1,q⟩
theorem ob_ {zz:zP}{σ:St}{H:Hp}{s:Shared}{Q:VK}{us:List Value}{vs:List V} (F:FnOkT X.prog X.w X.K X.mg X.base CX k f fd ps sp) (hr:Room k X.A) (hb:a8_ X.K fd ps []) (hx:b3_ CX X E)
  (I:Inv X zz σ H s) (tk:1<=s.toks) (r:Vals vs us) (h:sp vs H Q E):wpAny (model X.prog X.w) X.A (call (.ref f) us) (EP X zz σ Q) X.xe s:=by
 have hl:(us++[]).length=ps.length:=by rw [append_nil,<- r.length];exact F.len _ _ _ _ h
 have hb2:=hb s us I.kIn hl;rw [append_nil] at hb2;refine wpAny_call (codeAny_mono (F.run X.A X.stack s H ⟨us,[]⟩ us vs Q E tk hr I.env0 hb2 r h) fun r s' hq=>?_);cases r with
 | error e=>exact hx zz σ H s e s' I hq
 | ok fl =>
 cases fl with
 | ret u=>exact I.after hq
 | next=>exact False.elim hq
 | brk=>exact False.elim hq
 | cont=>exact False.elim hq
theorem mo_ (F:FnOkT X.prog X.w X.K X.mg X.base CX k f fd ps sp) (hr:Room k X.A) (hg:Gl X x) (hm:X.mg x=some (.ref f)) (hk:keepIn X.K (.ref f)=true) (hb:a8_ X.K fd ps []) (hx:b3_ CX X E)
  (ha:PA X (e::es) t) (hdb:(x == ("__debug__":Str))=false:=by decide) (he:starEach (e::es) X.env=(false,eval e X.env)::starEach es X.env:=by rfl) (hpl:(backTo pos (starEach es X.env)).any (·.1)=false:=by rfl) :
  PET X (.Call (.Name x p) (e::es) [] pos) (jf_ sp [] E t):=by
 intro zz s σ H Q I tk h;refine wpAny_Call_Name_kw (dO_ I hg hm ?_ hdb);refine callWith_K (h₀:=X.base) I.ok.mod.kin hk (wpAny_mono (wpAny_toks_of tk (ha pos zz s σ H _ I h)) (fun us s1 ⟨tk1,vs,H1,I1,r,q⟩=>⟨I1.kIn,?_⟩) fun _ _ z=>z.2) he hpl;have q':sp (vs++[]) H1 Q E:=q;rw [append_nil] at q';exact ob_ F hr hb hx I1 tk1 r q'
theorem kC_ (h1:PST X st tS) (h2:PSs X rest u):PSsT X (st::rest) (tSeq tS u):=by
 intro zz s σ H D I tk h;refine wpAny_execs_cons (thn (h1 zz s σ H { D with nx:=u D } I tk h) fun f s1 q=>?_);cases f with
 | next =>
  refine x_21 q fun σ' H' I' q=>?_;exact h2 zz s1 σ' H' D I' q
 | ret v=>exact q
 | brk=>exact q
 | cont=>exact q
theorem mi_ {tg l:Expr}{tl:TE} (hl:PET X l tl):PIT X tg l (mG_ X.K tl):=by
 intro zz s σ H R I tk h;refine thn (hl zz s σ H _ I tk h) fun v s1 zq=>?_;obtain ⟨x,H1,I1,r1,q1⟩:=zq;obtain ⟨a,e,⟨xs,hq⟩,q⟩:=q1;subst e;cases r1;refine x_12 (I1.list hq) fun its rv p hz=>?_;refine wpAny_pyIter_list p.isList ?_;refine ⟨s1.heap.objs.size,[s1.heap.objs.size],_,_,H1,rfl,I1.kept (t':=s1.toks) fun b o e=>get?_push_of_some _ e,gC_ a _,⟨_,get?_push_size _ rfl,rfl,rfl⟩,fun b hb=>?_,q⟩;have e:b=s1.heap.objs.size:=by simpa using hb
 subst e;exact I1.fpOk (Nat.le_refl _) (I1.hok.fresh (Nat.le_refl _))
theorem pE_ {id:String}{name:Str}{r:V->List V->Hp->VK->Prop} (slot:Slot "str" name id) (ty:typeOf (.builtin id)=pure (.type "method_descriptor")) (rule:MtR X id r) (ho:PET X o to) (he:PE X e te)
  (hs:starEach [e] X.env=[(false,eval e X.env)]:=by rfl) (zj:attributeBase o name X.env (eval o X.env)=eval o X.env:=by rfl) (zl:(zt.endLine == pos.line)=true:=by rfl) :
  PET X (.Call (.Attribute o name zt) [e] [] pos) (tM1 r to te):=by
 intro zz s σ H Q I tk h;refine PySem.Call_method1 zj hs zl (thn (ho zz s σ H _ I tk h) fun v s1 zq=>?_);refine x_22 zq fun x H1 I1 r1 q1=>?_;obtain ⟨⟨a,rfl⟩,q1⟩:=q1;obtain ⟨t,rfl⟩:=_root_.id r1;refine ⟨"str",_,F.plainAttrs_str,slot,ty,typeIs_str _ _ _,(fun _ e=>nomatch e),Calls.callWith_builtin rfl (Calls.evalArgs_plain (Calls.spliced_cons ?_))⟩;exact thn (he zz s1 σ H1 _ I1 q1) fun u s2 ⟨y,H2,I2,r2,q2⟩=>Calls.spliced_nil (rule zz s2 σ H2 _ [y] _ [u] Q I2 r1 (.cons r2 .nil) q2)
theorem hJ_ {y z:Str}{j1 j2:Nat}{p1 p2:Pos} (ho:PE X (.Name x p) to) (hyz:(y == z)=false:=by decide) (hz:z.length<=14:=by decide)
  (hs:starEach [.Constant (.str y) j1 p1,.Constant (.str z) j2 p2] X.env=[(false,eval (.Constant (.str y) j1 p1) X.env),(false,eval (.Constant (.str z) j2 p2) X.env)]:=by rfl)
  (zj:attributeBase (.Name x p) "replace" X.env (eval (.Name x p) X.env)=eval (.Name x p) X.env:=by rfl) (zl:(zt.endLine == pos.line)=true:=by rfl) :
  PET X (.Call (.Attribute (.Name x p) "replace" zt) [.Constant (.str y) j1 p1,.Constant (.str z) j2 p2] [] pos) (fun σ H Q=>to σ H fun v H1=>∃ a,v = .str a/\a.length<=1048576/\Q (.str (Txt.replace a y z)) H1):=by
 intro zz s σ H Q I tk h;refine PySem.Call_method2 zj hs zl (wpAny_mono (wpAny_toks_of tk (ho zz s σ H _ I h)) (fun v s1 ⟨tk1,x,H1,I1,r1,q1⟩=>?_) fun _ _ z=>z.2);obtain ⟨a,rfl,ha,q1⟩:=q1;obtain ⟨t,rfl⟩:=_root_.id r1;refine ⟨"str",_,F.plainAttrs_str,F.slot_str_replace,F.type_str_replace,typeIs_str _ _ _,(fun _ e=>nomatch e),Calls.callWith_builtin rfl (Calls.evalArgs_plain (Calls.spliced_cons ?_))⟩;refine Calls.Constant_str (Calls.spliced_cons (Calls.Constant_str (Calls.spliced_nil ?_)));refine SC.replaceW ?_ ?_ ?_ hyz ha hz fun t' k=>⟨.str (Txt.replace a y z),H1,((I1.tok _).tok _).tok _,⟨_,rfl⟩,q1⟩
 ·exact ne_of_gt tk1
 ·exact Nat.succ_ne_zero _
 exact Nat.ne_of_lt (lt_succ_self _)
theorem oh_ {tg iter:Expr}{body:List Stmt}{wi:TI}{g:TG}{tb:TS} (hp:PassesOwn (model X.prog X.w) X.A X.env X.xe) (hc:X.calm=true) (hi:PIT X tg iter wi) (hg:PG X tg g) (hb:PSs X body tb)
  (hs : ∀ x,foldedSetIterable iter X.env x=pure x:=by intro _;rfl):PST X (.For tg iter body [] pos) (tFor wi g tb):=by
 intro zz s σ H D I tk h;refine wpAny_For (thn (hi zz s σ H _ I tk h) fun v s1 h1=>thn h1 fun itv s2 h2=>?_) hs;refine x_50 h2 fun it fp tn J H2 zy=>x_05 zy fun e I2 T st2 f2 zz0=>?_;refine x_11 zz0 fun W zn11 turn=>?_;obtain ⟨m0,w0⟩:=zn11;subst e;have stat : ∀ {H':Hp},(∀ b∈fp,H' b=none)->∀ b∈fp,FpOk X zz H' b:=fun hn b hb=>⟨hn b hb,(f2 b hb).2⟩;refine codeAny_forLoop_any (fun n s'=>∃ i σ' H',Inv X zz σ' H' s'/\tn i s'.heap/\(∀ b∈fp,H' b=none)/\W i n σ' H') ?_ m0 ⟨0,σ,H2,I2,st2,fun b hb=>(f2 b hb).1,w0⟩
 rintro n s3 ⟨i,σ3,H3,I3,st3,fr3,w3⟩
 rcases turn i n σ3 H3 w3 with ⟨stop,qn⟩ | ⟨go,N,hN,step⟩
 ·refine wpAny_passesOwn hp (thn (T.done X rfl rfl rfl hc i zz s3 σ3 H3 X.xe I3 (stat fr3) st3 stop) fun r s4 ⟨hr,I4⟩=>?_)
  subst hr;exact wpAny_execs_nil ⟨σ3,H3,I4,qn⟩
 refine wpAny_passesOwn hp (thn (T.item X rfl rfl rfl hc i zz s3 σ3 H3 X.xe I3 (stat fr3) st3 go) fun r s4 ⟨u,hr,h4⟩=>?_);subst hr;refine wpAny_passesOwn hp (thn h4 fun _ s5 zq=>?_);refine x_24 zq fun x H5 I5 r5 y5 st5 fr5=>?_;have I5':=I5.pinned (stat fr5) (T.obj _ _ st5);refine wpAny_passesOwn hp (thn (hg _ s5 σ3 H5 x u _ I5' r5 (step x H5 y5)) fun _ s6 ⟨σ6,H6,I6,q6⟩=>?_);refine wpAny_passesOwn hp (thn (hb _ s6 σ6 H6 _ I6 q6) fun f s7 q7=>?_);have again : ∀ {σ7:St}{H7:Hp},Inv X (zz++fq_ fp s5.heap) σ7 H7 s7->N σ7 H7->∃ m,m<n/\∃ i σ' H',Inv X zz σ' H' s7/\tn i s7.heap/\(∀ b∈fp,H' b=none)/\W i m σ' H':=fun {σ7 H7} I7 n7=>by
  obtain ⟨m',hm,w7⟩:=hN σ7 H7 n7;refine ⟨m',hm,i+1,σ7,H7,I7.unpinned,T.keep _ _ _ st5 fun b hb o e=>(I7.pin (b,o) (mem_append_right _ (mem_append_right _ (bX_ hb e)))).1,fun b hb=>?_,w7⟩;obtain ⟨o,e,d⟩:=T.obj _ _ st5 b hb;exact (I7.pin (b,o) (mem_append_right _ (mem_append_right _ (bX_ hb e)))).2.1
 cases f with
 | next=>obtain ⟨σ7,H7,I7,n7⟩:=q7;exact again I7 n7
 | cont=>obtain ⟨σ7,H7,I7,n7⟩:=q7;exact again I7 n7
 | brk=>obtain ⟨σ7,H7,I7,q7⟩:=q7;exact ⟨σ7,H7,I7.unpinned,q7⟩
 | ret v=>obtain ⟨x7,σ7,H7,I7,r7,q7⟩:=q7;exact ⟨x7,σ7,H7,I7.unpinned,r7,q7⟩
theorem PSsT.nox {st:List Stmt}{t:TS} (h:PSsT X.nox st t):PSsT X st t:=fun zz s σ H D I tk hw =>
 wpAny_mono (h zz s σ H D (I.wish _) tk hw) (fun _ _ q=>q.unwish) fun _ _ q=>q.elim
end
theorem p2_ {CX:CXT}{P:Program}{w:World}{K:Frag}{mg:zM}{base:Heap}{k:Nat}{f:Addr}{name qual:Str}{params:Arguments}{body:List Stmt}{scope:Scope}{dV kV doc pm cdv ct oc:Value}{an od:Option Addr}
  {osl:Array (Option Value)}{N ps:List Str}{sp:Sp} (lk:K.lookup f=some ⟨oc,od,.func (fnOf name qual params body scope dV kV doc pm an cdv ct),osl⟩) (hcd:codeIn K cdv qual=true) (S:FnScope N ps scope)
  (len : ∀ vs H Q E,sp vs H Q E->vs.length=ps.length)
  (hbody : ∀ (A:Around) (outer:List Env) (s:Shared) (H:Hp) (vs:List V) (Q:VK) (E:XK),Room k (A.deeper (envOfC qual scope s.heap.objs.size f cdv))->sp vs H Q E ->
   ∃ t,PSsT (cxOf CX P w K mg base N qual scope f cdv A outer s H E) body t/\t { nx:=fun _ H'=>Q .non H',rt:=Q } (start N vs) H) :
  FnOkT P w K mg base CX (k+1) f (fnOf name qual params body scope dV kV doc pm an cdv ct) ps sp:=by
 refine ⟨len,fun A outer s H args us vs Q E tk hr e0 hb r hsp=>?_⟩;have hl:=len _ _ _ _ hsp;have KX:K.In s.heap:=e0.mod.kin.keeps fun b o e=>(e0.bs b o e).1;have lim:s.heap.NoLimit:=e0.mod.nolimit.keeps fun b o e=>(e0.bs b o e).1;have hkind : ∀ y∈ps.zip us,scope.names.lookup y.1=some .local\/(scope.names.lookup y.1=some .cell/\((cellsFrom (s.heap.objs.size+1) scope.names []).lookup y.1).isSome=true):=fun ⟨n,v⟩ hy=>by
  rcases S.par n (of_mem_zip hy).1 with q | q
  ·exact .inl q
  exact .inr ⟨q,PySem.W.cellsFrom_some _ _ _ (.inl q)⟩
 refine codeAny_call_function hr.depth (KX _ _ lk) rfl S.co S.gen rfl (PySem.W.codeRec_of KX hcd) (hb _ _ _ _ ?_);refine wpAny_with_toks tk ?_;refine wpAny_newFunctionEnv_cells S.kind hkind fun env he s1 x=>?_;subst he;intro tk1;refine ⟨lim.keeps x.toInCall.keep,codeAny_func ?_⟩;obtain ⟨t,ht,hq⟩:=hbody A outer s H vs Q E (hr.deeper _) hsp;have I:Inv (cxOf CX P w K mg base N qual scope f cdv A outer s H E) [] (start N vs) H s1:=hb_ S hr.hd e0 hl r x;refine wpAny_mono (ht [] s1 (start N vs) H _ I tk1 hq) (fun fl s' hs=>?_) fun e s' hs=>hs;have fin : ∀ {σ':St}{H':Hp}{v:V}{u:Value},Inv (cxOf CX P w K mg base N qual scope f cdv A outer s H E) [] σ' H' s'->RelV v u->Q v H'->CE outer P w H s Q u s' :=
  fun {σ' H' v u} J rv q=>⟨v,H',J.os,J.bare,J.base,J.hok,rv,q⟩
 cases fl with
 | ret u =>
  refine x_32 hs fun v σ' H' J rv q=>?_;exact fin J rv q
 | next =>
  refine x_21 hs fun σ' H' J q=>?_;exact fin (v:=V.non) (u:=Value.none) J rfl q
 | brk =>
  refine x_21 hs fun _ _ _ q=>?_;exact False.elim q
 | cont =>
 refine x_21 hs fun _ _ _ q=>?_;exact False.elim q
theorem Fun.okT {P:Program}{w:World}{K:Frag}{mg:zM}{base:Heap}{x qual:Str}{st:Stmt}{f:Addr}{fd:FuncData}{N ps:List Str}{k:Nat}{sp:Sp} (F:Fun K x qual st f fd) (S:FnScope N ps (ag_ st)) (len : ∀ vs H Q E,sp vs H Q E->vs.length=ps.length)
  (hbody : ∀ (cdv:Value) (A:Around) (outer:List Env) (s:Shared) (H:Hp) (vs:List V) (Q:VK) (E:XK),Room k (A.deeper (envOfC qual (ag_ st) s.heap.objs.size f cdv))->sp vs H Q E ->
   ∃ t,PSsT (cxOf CX0 P w K mg base N qual (ag_ st) f cdv A outer s H E).nox (bQ_ st) t/\t { nx:=fun _ H'=>Q .non H',rt:=Q } (start N vs) H):FnOkT P w K mg base CX0 (k+1) f fd ps sp:=by
 refine x_90 F.ex fun oc od kV doc pm an cdv ct osl zy=>x_02 zy fun zr9 lk hcd=>?_;subst zr9;refine p2_ lk hcd S len fun A outer s H vs Q E hr hsp=>?_;obtain ⟨t,h,q⟩:=hbody cdv A outer s H vs Q E hr hsp;exact ⟨t,h.nox,q⟩
open PySem PySem.Spec PyProof.Rows TL
structure FG (K:Frag) (mg:zM) (x:Str) (st:Stmt) (ps:List Str) (f:Addr) (fd:FuncData):Prop where
 mg:mg x=some (.ref f)
 fn:Fun K x x st f fd
 b:a8_ K fd ps []
theorem Room.m {j k:Nat}{A:Around} (r:Room k A) (h:j<=k:=by decide):Room j A:=r.mono h
theorem pla:PlainAttrs "list":=PySem.F.plainAttrs_list
theorem sla:Slot "list" "append" "list.append":=PySem.F.slot_list_append
theorem tla:typeOf (.builtin "list.append")=pure (.type "method_descriptor"):=PySem.F.type_list_append
theorem slp:Slot "list" "pop" "list.pop":=PySem.F.slot_list_pop
theorem tlp:typeOf (.builtin "list.pop")=pure (.type "method_descriptor"):=PySem.F.type_list_pop
theorem aC_ {X:Cx}{CX:CXT}{k:Nat}{E:XK}{x:Str}{p pos:Pos}{e:Expr}{es:List Expr}{t:TA}{f:Addr}{fd:FuncData}{ps:List Str}{sp:Sp}{st:Stmt} (F:FG X.K X.mg x st ps f fd) (G:FnOk X.prog X.w X.K X.mg X.base CX k f fd ps sp) (hr:Room k X.A) (hx:b3_ CX X E) (ha:PA X (e::es) t)
  (hg:Gl X x:=by rfl) (hdb:(x == ("__debug__":Str))=false:=by decide) (he:starEach (e::es) X.env=(false,eval e X.env)::starEach es X.env:=by rfl) (hpl:(backTo pos (starEach es X.env)).any (·.1)=false:=by rfl):PE X (.Call (.Name x p) (e::es) [] pos) (jf_ sp [] E t):=dJ_ G hr hg F.mg F.fn.kp F.b .nil hx ha hdb he hpl
theorem aw_ {X:Cx}{pos pos':Pos} (i:Nat) {x:Str}{e:Expr}{te:TE} (hN:X.N.Nodup) (he:PE X e te) (hi:X.N[i]? = some x:=by rfl) (hx:Loc X.env.scope x:=by exact Or.inl rfl) (hs:swapsWith e (some (.Name x pos')) pos.line X.env=pure false:=by rfl) (hf:X.fn x=true\/X.env.scope.names.lookup x=some .local:=by first | exact .inl rfl | exact .inr rfl | assumption):PS X (.Assign [.Name x pos'] e pos) (tAsg te (dS_ i)):=gU_ hN hi hx he hs hf
theorem pg_q {X:Cx}{pos:Pos} (i:Nat) {x:Str} (hN:X.N.Nodup) (hi:X.N[i]? = some x:=by rfl) (hx:Loc X.env.scope x:=by exact Or.inl rfl) (hf:X.fn x=true\/X.env.scope.names.lookup x=some .local:=by first | exact .inl rfl | exact .inr rfl | assumption):PG X (.Name x pos) (dS_ i):=kJ_ hN hi hx hf
theorem e6_:bootBuiltins "ord"=some (.builtin "ord"):=by left
theorem ho_:bootBuiltins "all"=some (.builtin "all"):=by left
theorem lK_:bootBuiltins "max"=some (.builtin "max"):=by left
theorem cz_:bootBuiltins "int"=some (.type "int"):=by left
theorem cy_:bootBuiltins "str"=some (.type "str"):=by left
def bs (t:List Nat):List V:=t.map fun (n:Nat)=>V.int (n:Int)
def S (l:List Nat):Str:=⟨l.toArray⟩
theorem tl_S (l:List Nat):tl (S l)=l:=rfl
theorem aZ_ (l:List Nat):(S l).length=l.length:=by rw [dr_,tl_S]
theorem b2_ (t:List Nat):(bs t).length=t.length:=by unfold bs;rw [length_map]
theorem d4_ {t:List Nat}{i c:Nat} (h:t[i]? = some c):(bs t)[i]? = some (V.int (c:Int)):=by unfold bs;rw [getElem?_map,h];rfl
theorem oZ_ (t:List Nat) (i:Nat):(bs t).drop i=bs (t.drop i):=by unfold bs;rw [List.map_drop]
theorem oY_ (t:List Nat) (i:Nat):(bs t).take i=bs (t.take i):=by unfold bs;rw [List.map_take]
def spB (b:Nat->Bool):Sp:=fun vs H Q _=>∃ n:Nat,vs=[.int (n:Int)]/\Q (.bl (b n)) H
def lQ_ (P:Program) (w:World) (K:Frag) (mg:zM) (base:Heap) (k:Nat) (f:Addr) (b:Nat->Bool):Prop :=
 ∃ fd ps,FnOk P w K mg base CX0 k f fd ps (spB b)/\a8_ K fd ps []/\keepIn K (.ref f)=true
theorem Same.upd {H:Hp}{a:Addr}{o:HO} (h:H a=none):Same H (L2.upd H a o):=fun b u e=>by rw [al_ (af_ e h)];exact e
theorem cc_ {b:Bool}{A B:Prop} (h1:b=true->A) (h2:b=false->B):if b=true then A else B:=by
 cases b with
 | true=>exact iteT (h1 rfl)
 | false=>exact iteF (h2 rfl)
theorem pO_ {J:It}{g:TG}{tt:TT}{te:TE}{vs:List Nat}{σ:St}{H1:Hp}{D:Addr}{Qd:Hp->Prop} (xs:List V) (f:V->V) (hD:H1 D=none) (hn:xs.length<=sizeLine)
  (hgo : ∀ i x H,Same H1 H->xs[i]? = some x->J.go i H/\∀ y H',J.yld i H y H'->H'=H/\y=x) (hst : ∀ H,Same H1 H->J.stop xs.length H)
  (hs : ∀ x H zx (Nx:Hp->Prop),x∈xs->Same H1 H->H D=some (.lst zx)->zx.length<sizeLine->(∀ H',Same H H'->Nx (upd H' D (.lst (zx++[f x])))) ->
   g x (wipe σ vs) H fun σ2 H2=>wipe σ2 vs=wipe σ vs/\tt σ2 H2 fun b H3=>if b=true then te σ2 H3 fun y H4=>∃ zx,H4 D=some (.lst zx)/\zx.length<sizeLine/\Nx (upd H4 D (.lst (zx++[y]))) else Nx H3)
  (hd : ∀ H,Same H1 H->H D=some (.lst (xs.map f))->Qd H) :
  ∃ W:Nat->Nat->Hp->Prop,(∃ m,W 0 m (upd H1 D (.lst [])))/\∀ i m H,W i m H ->
   (J.stop i H/\Qd H)\/(J.go i H/\∃ Nx:Hp->Prop,(∀ H',Nx H'->∃ m',m'<m/\W (i+1) m' H')/\∀ x H',J.yld i H x H'->g x (wipe σ vs) H' fun σ2 H2=>wipe σ2 vs=wipe σ vs/\tt σ2 H2 fun b H3 =>
    if b=true then te σ2 H3 fun y H4=>∃ zx,H4 D=some (.lst zx)/\zx.length<sizeLine/\Nx (upd H4 D (.lst (zx++[y]))) else Nx H3):=by
 refine ⟨fun i m H=>m=xs.length - i/\i<=xs.length/\Same H1 H/\H D=some (.lst ((xs.take i).map f)),⟨_,rfl,zero_le _,Same.upd hD,ad_⟩,?_⟩
 rintro i m H ⟨rfl,hi,sm,hd1⟩
 by_cases hlt:i<xs.length
 ·have hx:xs[i]? = some xs[i]:=getElem?_eq_getElem hlt
  obtain ⟨go,yl⟩:=hgo i xs[i] H sm hx;refine .inr ⟨go,fun H'=>Same H1 H'/\H' D=some (.lst ((xs.take (i+1)).map f)),fun H' z=>⟨_,by omega,rfl,hlt,z.1,z.2⟩,fun y H' q=>?_⟩;obtain ⟨rfl,rfl⟩:=yl y H' q;refine hs _ H' _ _ (List.getElem_mem hlt) sm hd1 (by rw [length_map,length_take];omega) fun H2 s2=>⟨fun b o e=>?_,?_⟩
  ·rw [al_ (af_ e hD)]
   exact s2 _ _ (sm _ _ e)
  rw [ad_,take_succ,hx,map_append];rfl
 have e:i=xs.length:=by omega
 subst e;rw [take_length] at hd1;exact .inl ⟨hst H sm,hd H sm hd1⟩
theorem lm_ {K:Frag}{a:Addr}{xs:List V}{H1:Hp} (h:SqL K H1 a xs):(∀ i x H,Same H1 H->xs[i]? = some x->(Itl K a).go i H/\∀ y H',(Itl K a).yld i H y H'->H'=H/\y=x)/\∀ H,Same H1 H->(Itl K a).stop xs.length H :=
 ⟨fun i x H sm e=>⟨⟨xs,x,sm.seq h,e⟩,fun y H' ⟨e1,e2⟩=>⟨e1,Option.some.inj ((e2 xs (by subst e1;exact sm.seq h)).symm.trans e)⟩⟩,fun H sm=>⟨xs,sm.seq h,Nat.le_refl _⟩⟩
theorem nz_ {x:Str}{H1:Hp}:(∀ i y H,Same H1 H->((tl x).map fun c=>V.str ⟨#[c]⟩)[i]? = some y->(Its x).go i H/\∀ z H',(Its x).yld i H z H'->H'=H/\z=y)/\∀ H,Same H1 H->(Its x).stop ((tl x).map fun c=>V.str ⟨#[c]⟩).length H:=by
 refine ⟨fun i y H sm e=>?_,fun H sm=>?_⟩
 ·rw [getElem?_map] at e
  cases q:(tl x)[i]? with
  | none=>rw [q] at e;cases e
  | some c =>
  rw [q] at e;cases e;have q':x.cps[i]? = some c:=by rw [<- Array.getElem?_toList];exact q
  refine ⟨?_,?_⟩
  ·show i<x.cps.size
   exact (Array.getElem?_eq_some_iff.mp q').1
  rintro z H' ⟨e1,c',e2,e3⟩
  rw [q'] at e2;cases e2;exact ⟨e1,e3⟩
 show x.cps.size<=_;simp
theorem cx_K {CX:CXT}{P:Program}{w:World}{K:Frag}{mg:zM}{base:Heap}{N:List Str}{qual:Str}{scope:Scope}{f:Addr}{cd:Value}{A:Around}{outer:List Env}{s:Shared}{H:Hp}{E:XK}:(cxOf CX P w K mg base N qual scope f cd A outer s H E).K=K:=rfl
theorem cx_P {CX:CXT}{P:Program}{w:World}{K:Frag}{mg:zM}{base:Heap}{N:List Str}{qual:Str}{scope:Scope}{f:Addr}{cd:Value}{A:Around}{outer:List Env}{s:Shared}{H:Hp}{E:XK}:(cxOf CX P w K mg base N qual scope f cd A outer s H E).prog=P:=rfl
theorem cx_w {CX:CXT}{P:Program}{w:World}{K:Frag}{mg:zM}{base:Heap}{N:List Str}{qual:Str}{scope:Scope}{f:Addr}{cd:Value}{A:Around}{outer:List Env}{s:Shared}{H:Hp}{E:XK}:(cxOf CX P w K mg base N qual scope f cd A outer s H E).w=w:=rfl
theorem qz_ {CX:CXT}{P:Program}{w:World}{K:Frag}{mg:zM}{base:Heap}{N:List Str}{qual:Str}{scope:Scope}{f:Addr}{cd:Value}{A:Around}{outer:List Env}{s:Shared}{H:Hp}{E:XK}:(cxOf CX P w K mg base N qual scope f cd A outer s H E).mg=mg:=rfl
theorem oU_ {CX:CXT}{P:Program}{w:World}{K:Frag}{mg:zM}{base:Heap}{N:List Str}{qual:Str}{scope:Scope}{f:Addr}{cd:Value}{A:Around}{outer:List Env}{s:Shared}{H:Hp}{E:XK}:(cxOf CX P w K mg base N qual scope f cd A outer s H E).base=base:=rfl
theorem cx_N {CX:CXT}{P:Program}{w:World}{K:Frag}{mg:zM}{base:Heap}{N:List Str}{qual:Str}{scope:Scope}{f:Addr}{cd:Value}{A:Around}{outer:List Env}{s:Shared}{H:Hp}{E:XK}:(cxOf CX P w K mg base N qual scope f cd A outer s H E).N=N:=rfl
theorem aF_ (s:String):ofString s=S (Vaunid.txt s):=ci_ (by rw [hy_,tl_S];rfl)
theorem cl_ {l m:List Nat}:(S l=S m)=(l=m):=propext ⟨fun e=>by have:=congrArg tl e;exact this,fun e=>by rw [e]⟩
theorem S_eq (l:List Nat) (s:String):(S l=ofString s)=(l=Vaunid.txt s):=by rw [aF_,cl_]
theorem os_ (c:Nat):(⟨#[c]⟩:Str).length=1:=rfl
theorem ot_ (c:Nat):(⟨#[c]⟩:Str).cps.getD 0 0=c:=rfl
theorem ff_ (l:List Nat):(S l).cps.toList=l:=rfl
theorem hY_ (n c:Nat):decide ((n:Int)=(c:Int))=(n == c):=by
 rw [Bool.eq_iff_iff];simp;omega
theorem iq_ {wi:TI}{g:TG}{tt:TT}{te:TE}{vs:List Nat}{σ:St}{H H1:Hp}{Q:VK} (J:It) (xs:List V) (f:V->V) (hw : ∀ R:It->Hp->Prop,R J H1->wi σ H R) (hn:xs.length<=sizeLine)
  (hgo:(∀ i x H,Same H1 H->xs[i]? = some x->J.go i H/\∀ y H',J.yld i H y H'->H'=H/\y=x)/\∀ H,Same H1 H->J.stop xs.length H)
  (hs : ∀ x H D zx (Nx:Hp->Prop),x∈xs->Same H1 H->H D=some (.lst zx)->zx.length<sizeLine->(∀ H',Same H H'->Nx (upd H' D (.lst (zx++[f x])))) ->
   g x (wipe σ vs) H fun σ2 H2=>wipe σ2 vs=wipe σ vs/\tt σ2 H2 fun b H3=>if b=true then te σ2 H3 fun y H4=>∃ zx,H4 D=some (.lst zx)/\zx.length<sizeLine/\Nx (upd H4 D (.lst (zx++[y]))) else Nx H3)
  (hd : ∀ D H,H1 D=none->Same H1 H->H D=some (.lst (xs.map f))->Q (.ref D) H):tLc wi g tt te vs σ H Q :=
 hw _ fun D hD=>pO_ xs f hD hn hgo.1 hgo.2 (fun x H zx Nx h1 h2 h3 h4 h5=>hs x H D zx Nx h1 h2 h3 h4 h5) fun H s e=>hd D H hD s e
theorem b5_ {c:TT}{tb:TS}{D:Ends}{σ:St}{H:Hp} (Pv:Nat->St->Hp->Prop) (m0:Nat) (h0:Pv m0 σ H)
  (hs : ∀ m σ H,Pv m σ H->c σ H fun b H1=>if b=true then ∃ N:St->Hp->Prop,(∀ σ' H',N σ' H'->∃ m',m'<m/\Pv m' σ' H')/\tb { D with nx:=N,ct:=N,bk:=D.nx } σ H1 else D.nx σ H1):m9_ c tb D σ H :=
 ⟨Pv,⟨m0,h0⟩,hs⟩
end L2
namespace M
open PySem PySem.Spec PyProof.Rows L2 TL
open Vaunid (isSmall isDigit inWord)
def av_ (l:List Nat):Bool := !l.isEmpty && (decide (l.length<=12) && (isSmall (l.headD 0) && l.all inWord))
noncomputable def bh_ (b:List Nat):Bool:=let d:=if b.head? = some 45 then b.tail else b;!d.isEmpty && (decide (d.length<=2) && d.all isDigit)
noncomputable def atz_ (f:List Nat):Bool:=f == [49] || (if f.contains 94=true then av_ (f.takeWhile (· != 94)) && bh_ ((f.dropWhile (· != 94)).drop 1) else av_ f)
def sep (c:Nat):Bool:=c == 46 || c == 47
def nsep (c:Nat):Bool := !sep c
def cut (p:Nat->Bool):List Nat->List Nat->List (List Nat)
 | zx,[]=>[zx]
 | zx,c::r=>if p c=true then zx::cut p [] r else cut p (zx++[c]) r
def bN_ (c:Nat):Nat:=if c=47 then 46 else c
theorem kh_ (S:List Nat) : ∀ (k:Nat) (zx l:List Nat),spl S k zx l≠[]
 | k,zx,[]=>by rw [cZ_];simp
 | 0,zx,c::r=>by
  cases h:pre S (c::r) with
  | true=>rw [fS_ h];simp
  | false=>rw [ei_ h];exact kh_ S 0 _ r
 | k+1,zx,c::r=>by
  rw [eh_];show spl S 0 zx (r.drop k)≠[];rw [<- eh_];exact kh_ S k zx r
theorem fZ_ (s c:Nat) (r:List Nat):pre [s] (c::r)=(c == s):=by
 unfold pre;show ([c] == [s])=_;simp
theorem jx_ (S p:List Nat) {q:List (List Nat)} (h:q≠[]):dP_ S (p::q)=p++(S++dP_ S q):=by
 cases q with
 | nil=>exact absurd rfl h
 | cons a r=>rfl
theorem cu_ : ∀ (l zx:List Nat),dP_ [46] (spl [47] 0 zx l)=zx++l.map bN_
 | [],zx=>by rw [cZ_];simp [dP_]
 | c::r,zx=>by
  by_cases h:c=47
  ·subst h
   rw [fS_ (by rw [fZ_];rfl),jx_ _ _ (kh_ _ _ _ _)];show zx++([46]++dP_ [46] (spl [47] 0 [] r))=_;rw [cu_ r []];rfl
  rw [ei_ (by rw [fZ_];simpa using h),cu_ r,append_assoc];show zx++(c::r.map bN_)=zx++(bN_ c::r.map bN_);rw [show bN_ c=c from if_neg h]
theorem fs_ (x:Str) : ¬ Builtin.Str.strKind x<Builtin.Str.strKind (ofString "/"):=k3_ (by left)
theorem mC_ (x:Str) : ¬ Builtin.Str.strKind x<Builtin.Str.strKind (ofString "."):=k3_ (by left)
theorem eF_ (l:List Nat):(Txt.split (S l) (ofString "/")).map tl=spl [47] 0 [] l:=gF_ (S l) (ofString "/") (by left) (fs_ _)
theorem eG_ (l:List Nat):(Txt.split (S l) (ofString ".")).map tl=spl [46] 0 [] l:=gF_ (S l) (ofString ".") (by left) (mC_ _)
theorem eN_ (l:List Nat):Txt.replace (S l) (ofString "/") (ofString ".")=S (l.map bN_):=by
 cases l with
 | nil=>left
 | cons c r =>
 have e:Txt.replace (S (c::r)) (ofString "/") (ofString ".")=Str.join (ofString ".") (Txt.split (S (c::r)) (ofString "/")):=by
  unfold Txt.replace Txt.split;have h1:(decide ((S (c::r)).length<(ofString "/").length) || decide (Builtin.Str.strKind (S (c::r))<Builtin.Str.strKind (ofString "/")))=false:=by
   rw [decide_eq_false (fs_ _),aZ_,decide_eq_false]
   ·rfl
   rw [length_cons,show (ofString "/").length=1 by left];omega
  have h2:((ofString "/").length == 0 && (ofString ".").length == 0)=false:=by left
  rw [h1,h2,Bool.or_false];cases hc:(Builtin.Str.occurrences (S (c::r)) (ofString "/") 0 (S (c::r)).length ((S (c::r)).length+1)).isEmpty with
  | true=>rfl
  | false =>
  simp only [false_eq_true,if_false];exact StrLaws.glued_eq_join _ _
 refine ci_ ?_;rw [e,fQ_,eF_];show dP_ [46] _=_;rw [cu_];rfl
theorem hB_ : ∀ (l zx:List Nat),spl [46] 0 zx (l.map bN_)=cut sep zx l
 | [],zx=>by rw [map_nil,cZ_];rfl
 | c::r,zx=>by
  rw [map_cons];show _=if sep c=true then zx::cut sep [] r else cut sep (zx++[c]) r;by_cases h:sep c=true
  ·have hu:bN_ c=46:=by
    unfold sep at h;unfold bN_;rcases or_eq_true_iff.mp h with q | q
    ·rw [eq_of_beq q];rfl
    rw [eq_of_beq q];rfl
   rw [if_pos h,hu,fS_ (by rw [fZ_];rfl)];exact congrArg (zx :: ·) (hB_ r [])
  have h2 : ¬ c=46/\¬ c=47:=by
   unfold sep at h;simpa using h
  rw [if_neg h,show bN_ c=c from if_neg h2.2,ei_ (by rw [fZ_];simpa using h2.1)];exact hB_ r _
theorem lD_ : ∀ (l zx:List Nat),cut sep zx l=(zx++l.takeWhile nsep)::(match l.dropWhile nsep with | []=>[] | _::r=>cut sep [] r)
 | [],zx=>by simp [cut]
 | c::r,zx=>by
  show (if sep c=true then zx::cut sep [] r else cut sep (zx++[c]) r)=_;by_cases h:sep c=true
  ·have h2:nsep c=false:=by unfold nsep;rw [h];rfl
   rw [if_pos h,takeWhile_cons,dropWhile_cons,h2];simp
  have h2:nsep c=true:=by unfold nsep;simpa using h
  rw [if_neg h,lD_ r,takeWhile_cons,dropWhile_cons,h2];simp
theorem eV_ {c:Nat} (h:inWord c=true):nsep c=true:=by
 unfold nsep sep;by_cases h1:c=46
 ·subst h1;revert h;decide
 by_cases h2:c=47
 ·subst h2;revert h;decide
 simp [h1,h2]
theorem jO_ {c:Nat} (h:isDigit c=true):nsep c=true:=eV_ (by unfold inWord;rw [h];simp)
theorem he_ {c:Nat} (h:inWord c=true):c≠94:=by
 intro e;subst e;revert h;decide
theorem dX_ {p:Nat->Bool} (l:List Nat) : ∀ x∈l.takeWhile p,p x=true:=fun x hx=>by
 induction l with
 | nil=>simp at hx
 | cons c r ih =>
 rw [takeWhile_cons] at hx;split at hx
 ·rcases mem_cons.mp hx with e | e
  ·subst e;assumption
  exact ih e
 simp at hx
theorem e1_ {p:Nat->Bool} : ∀ (l:List Nat) {e:Nat}{s:List Nat},l.dropWhile p=e::s->p e=false
 | [],e,s,h=>by simp at h
 | c::r,e,s,h=>by
  rw [dropWhile_cons] at h;split at h
  ·exact e1_ r h
  cases h;rename_i q;simpa using q
def goes (K:List Nat->Bool) (o:Option (List Nat)):Bool:=match o with
 | none=>false
 | some []=>true
 | some (c::r)=>sep c && K r
def after (K:List Nat->Bool) (l:List Nat):Bool:=match l with
 | []=>true
 | _::r=>K r
theorem c9_ (K:List Nat->Bool) (s:List Nat) :
  goes K (if (s.takeWhile isDigit).length=1\/(s.takeWhile isDigit).length=2 then some (s.dropWhile isDigit) else none) =
   ((!(s.takeWhile nsep).isEmpty && (decide ((s.takeWhile nsep).length<=2) && (s.takeWhile nsep).all isDigit)) && after K (s.dropWhile nsep)):=by
 have hs:s=s.takeWhile isDigit++s.dropWhile isDigit:=takeWhile_append_dropWhile.symm;have hd:=dX_ (p:=isDigit) s;generalize hdd:s.takeWhile isDigit=d at hs hd;generalize hrr:s.dropWhile isDigit=rest at hs;have hn : ∀ x∈d,nsep x=true:=fun x hx=>jO_ (hd x hx);have e1:s.takeWhile nsep=d++rest.takeWhile nsep:=by rw [hs,takeWhile_append_of_pos hn]
 have e2:s.dropWhile nsep=rest.dropWhile nsep:=by rw [hs,List.dropWhile_append_of_pos hn]
 rw [e1,e2];have hall:d.all isDigit=true:=all_eq_true.mpr hd;have small:(!d.isEmpty && decide (d.length<=2))=decide (d.length=1\/d.length=2):=by
  match d with
  | []=>rfl
  | [_]=>rfl
  | [_,_]=>rfl
  | _::_::_::r=>simp
 cases rest with
 | nil =>
  rw [List.takeWhile_nil,List.dropWhile_nil,append_nil,hall,Bool.and_true,small];by_cases q:d.length=1\/d.length=2
  ·rw [if_pos q,decide_eq_true q];rfl
  rw [if_neg q,decide_eq_false q];rfl
 | cons e r =>
 have he:isDigit e=false:=e1_ s hrr;by_cases hs2:sep e=true
 ·have hn2:nsep e=false:=by unfold nsep;rw [hs2];rfl
  rw [takeWhile_cons,dropWhile_cons,hn2];simp only [false_eq_true,if_false,append_nil];rw [hall,Bool.and_true,small];by_cases q:d.length=1\/d.length=2
  ·rw [if_pos q,decide_eq_true q]
   show (sep e && K r)=_;rw [hs2];rfl
  rw [if_neg q,decide_eq_false q];rfl
 have hn2:nsep e=true:=by unfold nsep;simpa using hs2
 have ha:(d++(e::r).takeWhile nsep).all isDigit=false:=by
  rw [takeWhile_cons,hn2,List.all_append];simp [he]
 rw [ha];simp only [Bool.and_false,Bool.false_and];by_cases q:d.length=1\/d.length=2
 ·rw [if_pos q]
  show (sep e && K r)=false;simp [hs2]
 rw [if_neg q];rfl
theorem jj_ (K:List Nat->Bool) (s:List Nat):goes K (powerText s)=(bh_ (s.takeWhile nsep) && after K (s.dropWhile nsep)):=by
 match s with
 | []=>exact c9_ K []
 | c::r =>
  by_cases h:c=45
  ·subst h
   have e:=c9_ K r;have e1:(45::r).takeWhile nsep=45::r.takeWhile nsep:=rfl;have e2:(45::r).dropWhile nsep=r.dropWhile nsep:=rfl;rw [e1,e2];exact e
  have e:=c9_ K (c::r);have e3:powerText (c::r)=if ((c::r).takeWhile isDigit).length=1\/((c::r).takeWhile isDigit).length=2 then some ((c::r).dropWhile isDigit) else none:=by
   unfold powerText;dsimp only;split
   ·rename_i q;cases q;exact absurd rfl h
   rfl
  rw [e3,e];have e4:bh_ ((c::r).takeWhile nsep)=(!((c::r).takeWhile nsep).isEmpty && (decide (((c::r).takeWhile nsep).length<=2) && ((c::r).takeWhile nsep).all isDigit)):=by
   unfold bh_;have hh : ¬ ((c::r).takeWhile nsep).head? = some 45:=by
    rw [takeWhile_cons];split
    ·simpa using h
    simp
   simp only [if_neg hh]
  rw [e4]
theorem bT_ {c:Nat} (h:isSmall c=true):inWord c=true:=by unfold inWord;rw [h];rfl
theorem eM_ {l:List Nat}{e:Nat} (h:e∈l) (he:inWord e=false):av_ l=false:=by
 unfold av_;have:l.all inWord=false:=List.all_eq_false.mpr ⟨e,h,by rw [he];simp⟩;rw [this];simp
theorem cG_ {c:Nat}{r:List Nat} (h:isSmall c=false):av_ (c::r)=false:=by
 unfold av_;rw [headD_cons,h];simp
theorem h5_ (K:List Nat->Bool) (t:List Nat):goes K (factorText t)=(atz_ (t.takeWhile nsep) && after K (t.dropWhile nsep)):=by
 match t with
 | []=>rfl
 | c::r =>
  unfold factorText;dsimp only;by_cases h49:c=49
  ·subst h49
   simp only [if_true];have e1:(49::r).takeWhile nsep=49::r.takeWhile nsep:=rfl;have e2:(49::r).dropWhile nsep=r.dropWhile nsep:=rfl;rw [e1,e2];cases r with
   | nil=>rfl
   | cons d r2 =>
   by_cases hs:sep d=true
   ·have hn:nsep d=false:=by unfold nsep;rw [hs];rfl
    rw [takeWhile_cons,dropWhile_cons,hn];show (sep d && K r2)=(atz_ [49] && K r2);rw [hs];rfl
   have hn:nsep d=true:=by unfold nsep;simpa using hs
   have hf:atz_ (49::(d::r2).takeWhile nsep)=false:=by
    unfold atz_;rw [takeWhile_cons,hn];simp only [if_true];have h1:((49::d::r2.takeWhile nsep) == [49])=false:=by simp
    rw [h1,Bool.false_or];split
    ·have:(49::d::r2.takeWhile nsep).takeWhile (· != 94)=49::(d::r2.takeWhile nsep).takeWhile (· != 94):=rfl
     rw [this,cG_ (by decide)];rfl
    exact cG_ (by decide)
   rw [hf];show (sep d && K r2)=_;simp [hs]
  rw [if_neg h49];cases hsm:isSmall c with
  | false =>
   simp only [if_true];show false=_;by_cases hs:sep c=true
   ·have hn:nsep c=false:=by unfold nsep;rw [hs];rfl
    rw [takeWhile_cons,hn];rfl
   have hn:nsep c=true:=by unfold nsep;simpa using hs
   have hf:atz_ ((c::r).takeWhile nsep)=false:=by
    rw [takeWhile_cons,hn];simp only [if_true];unfold atz_;have h1:((c::r.takeWhile nsep) == [49])=false:=by simp [h49]
    rw [h1,Bool.false_or];split
    ·rw [takeWhile_cons]
     split
     ·rw [cG_ hsm];rfl
     rfl
    exact cG_ hsm
   rw [hf];rfl
  | true =>
  simp only [Bool.true_eq_false,if_false];have hs:c::r=(c::r).takeWhile inWord++(c::r).dropWhile inWord:=takeWhile_append_dropWhile.symm;have hw:(c::r).takeWhile inWord=c::r.takeWhile inWord:=by rw [takeWhile_cons,bT_ hsm];rfl
  have hd:=dX_ (p:=inWord) (c::r);have hrest:=fun {e s}=>e1_ (p:=inWord) (c::r) (e:=e) (s:=s);generalize hww:(c::r).takeWhile inWord=ww at hs hd hw;generalize (c::r).dropWhile inWord=rest at hs hrest;have hn : ∀ x∈ww,nsep x=true:=fun x hx=>eV_ (hd x hx);have e1:(c::r).takeWhile nsep=ww++rest.takeWhile nsep:=by rw [hs,takeWhile_append_of_pos hn]
  have e2:(c::r).dropWhile nsep=rest.dropWhile nsep:=by rw [hs,List.dropWhile_append_of_pos hn]
  have hall:ww.all inWord=true:=all_eq_true.mpr hd;have h94 : ∀ x∈ww,(x != 94)=true:=fun x hx=>by simpa using he_ (hd x hx)
  have hshort:av_ ww=decide (ww.length<=12):=by
   unfold av_;rw [hall,hw,headD_cons,hsm];simp
  have hno:ww.contains 94=false:=by
   cases q:ww.contains 94 with
   | false=>rfl
   | true=>exact absurd rfl (he_ (hd 94 (List.contains_iff_mem.mp q)))
  have h1 : ∀ x,((ww++x) == [49])=false:=fun x=>by
   rw [hw];simp [h49]
  have hfw:atz_ ww=decide (ww.length<=12):=by
   unfold atz_;have:=h1 [];rw [append_nil] at this;rw [this,Bool.false_or,hno];simp [hshort]
  rw [e1,e2];cases rest with
  | nil =>
   rw [List.takeWhile_nil,List.dropWhile_nil,append_nil,hfw];by_cases q:12<ww.length
   ·rw [if_pos (show MOSTSIGNS<ww.length from q),decide_eq_false (by omega)];rfl
   rw [if_neg (show ¬ MOSTSIGNS<ww.length from q),decide_eq_true (by omega)];rfl
  | cons e s =>
  have he:inWord e=false:=hrest rfl;by_cases hs2:sep e=true
  ·have hn2:nsep e=false:=by unfold nsep;rw [hs2];rfl
   have ne94:e≠94:=by intro z;subst z;revert hs2;decide
   rw [takeWhile_cons,dropWhile_cons,hn2];simp only [false_eq_true,if_false,append_nil];rw [hfw];by_cases q:12<ww.length
   ·rw [if_pos (show MOSTSIGNS<ww.length from q),decide_eq_false (by omega)];rfl
   rw [if_neg (show ¬ MOSTSIGNS<ww.length from q),decide_eq_true (by omega)];split
   ·rename_i z;cases z;exact absurd rfl ne94
   show (sep e && K s)=_;rw [hs2];rfl
  have hn2:nsep e=true:=by unfold nsep;simpa using hs2
  rw [takeWhile_cons,dropWhile_cons,hn2];simp only [if_true];by_cases h94e:e=94
  ·subst h94e
   have hf:atz_ (ww++94::s.takeWhile nsep)=(decide (ww.length<=12) && bh_ (s.takeWhile nsep)):=by
    unfold atz_;rw [h1,Bool.false_or,if_pos (by simp),takeWhile_append_of_pos h94,List.dropWhile_append_of_pos h94];simp [hshort]
   rw [hf];by_cases q:12<ww.length
   ·rw [if_pos (show MOSTSIGNS<ww.length from q),decide_eq_false (by omega)];rfl
   rw [if_neg (show ¬ MOSTSIGNS<ww.length from q),decide_eq_true (by omega)];simp only [Bool.true_and];exact jj_ K s
  have hf:atz_ (ww++e::s.takeWhile nsep)=false:=by
   unfold atz_;rw [h1,Bool.false_or];split
   ·have hne:(e != 94)=true:=by simpa using h94e
    rw [takeWhile_append_of_pos h94,takeWhile_cons,hne];rw [eM_ (e:=e) (by simp) he];rfl
   exact eM_ (e:=e) (by simp) he
  rw [hf];by_cases q:12<ww.length
  ·rw [if_pos (show MOSTSIGNS<ww.length from q)];rfl
  rw [if_neg (show ¬ MOSTSIGNS<ww.length from q)];split
  ·rename_i z;cases z;exact absurd rfl h94e
  show (sep e && K s)=_;simp [hs2]
theorem bY_ : ∀ (n:Nat) (t:List Nat),t.length<n->measureText n t=(cut sep [] t).all atz_
 | 0,t,h=>by omega
 | n+1,t,h=>by
  have e:measureText (n+1) t=goes (measureText n) (factorText t):=by
   show (match factorText t with | none=>false | some []=>true | some (c::r)=>(c == 46 || c == 47) && measureText n r)=_
   cases factorText t with
   | none=>rfl
   | some l=>cases l <;> rfl
  rw [e,h5_,lD_,nil_append,all_cons];have hl:t.length=(t.takeWhile nsep).length+(t.dropWhile nsep).length:=by rw [<- length_append,takeWhile_append_dropWhile]
  cases q:t.dropWhile nsep with
  | nil=>rfl
  | cons c r =>
  rw [q,length_cons] at hl;show (_ && measureText n r)=_;rw [bY_ n r (by omega)]
theorem ib_ (p:Nat->Bool) : ∀ (l zx:List Nat),∀ f∈cut p zx l,f.length<=zx.length+l.length
 | [],zx,f,h=>by
  rw [mem_singleton.mp h];omega
 | c::r,zx,f,h=>by
  have h':f∈(if p c=true then zx::cut p [] r else cut p (zx++[c]) r):=h;rw [length_cons];split at h'
  ·rcases mem_cons.mp h' with e | e
   ·rw [e];omega
   have:=ib_ p r [] f e;rw [length_nil] at this;omega
  have:=ib_ p r _ f h';rw [length_append,length_singleton] at this;omega
theorem lY_ {p:List Nat->Bool}{l:List (List Nat)}{i:Nat}{x:List Nat} (h:l[i]? = some x):(l.take (i+1)).all p=((l.take i).all p && p x):=by
 rw [take_succ,h,List.all_append];simp
theorem qi_ {p:List Nat->Bool}{l:List (List Nat)}{i:Nat}{x:List Nat} (h:l[i]? = some x) (hx:p x=false):l.all p=false:=List.all_eq_false.mpr ⟨x,mem_of_getElem? h,by rw [hx];simp⟩
theorem qx_ (l:List Nat):NumText.digitsVal l=digitsValue l:=by
 unfold NumText.digitsVal digitsValue;have e:(fun (zx c:Nat)=>zx * 10+(c - 48))=fun n c=>10 * n+(c - 48):=by
  funext x y
  rw [mul_comm]
 rw [e]
theorem fG_ {l:List Nat} (h : ∀ c∈l,isDigit c=true):NumText.AllDigits l:=fun c hc=>by
 have:=h c hc;unfold isDigit at this;simpa using this
theorem lu_ : ∀ (l:List Nat) (n:Nat),(∀ c∈l,isDigit c=true)->l.foldl (fun n c=>10 * n+(c - 48)) n<(n+1) * 10 ^ l.length
 | [],n,_=>by simp
 | c::r,n,h=>by
  have hc:=fG_ h c (mem_cons_self ..);have ih:=lu_ r (10 * n+(c - 48)) fun x hx=>h x (mem_cons_of_mem _ hx);rw [foldl_cons,length_cons,Nat.pow_succ];refine Nat.lt_of_lt_of_le ih ?_;rw [mul_comm (10 ^ r.length) 10,<- Nat.mul_assoc];exact Nat.mul_le_mul_right _ (by omega)
theorem qw_ {l:List Nat} (h : ∀ c∈l,isDigit c=true):digitsValue l<10 ^ l.length:=by
 have:=lu_ l 0 h;rw [zero_add,Nat.one_mul] at this;exact this
theorem fp_ {a b:Nat} (h:a<=b):10 ^ a<=10 ^ b:=Nat.pow_le_pow_right (by decide) h
theorem p9_ {l:List Nat}{k:Nat} (h : ∀ c∈l,isDigit c=true) (hk:l.length<=k):digitsValue l<10 ^ k:=Nat.lt_of_lt_of_le (qw_ h) (fp_ hk)
theorem hc_ {l:List Nat} (h : ∀ c∈l,isDigit c=true) (h1:l≠[]) (h2:l.length<=4300):intText? (S l)=some ((digitsValue l:Nat):Int):=by
 have e:=PySem.intText_digits (x:=S l) (fG_ h) h1 (by rw [aZ_];exact h2);rw [show (S l).cps.toList=l from rfl,qx_] at e;exact e
theorem mR_ (n:Nat) : ∀ k,(List.replicate n 48).foldl (fun n c=>10 * n+(c - 48)) k=k * 10 ^ n:=by
 induction n with
 | zero=>intro k;simp
 | succ n ih =>
 intro k;rw [replicate_succ,foldl_cons,ih,Nat.pow_succ];show (10 * k+0) * 10 ^ n=k * (10 ^ n * 10);rw [add_zero,mul_comm 10 k,Nat.mul_assoc,mul_comm 10]
theorem p8_ (n:Nat):digitsValue (49::List.replicate n 48)=10 ^ n:=by
 unfold digitsValue;rw [foldl_cons,mR_];show (10 * 0+1) * 10 ^ n=_;simp
theorem fC_ (x:Array Nat) : ∀ (n:Nat) (zx:Array Nat),(List.replicate n x).foldl (· ++ ·) zx=zx++((List.replicate n x.toList).flatten).toArray
 | 0,zx=>by simp
 | n+1,zx=>by
  rw [replicate_succ,foldl_cons,fC_ x n,replicate_succ,List.flatten_cons];apply Array.ext';simp
theorem hj_ (n c:Nat):(List.replicate n [c]).flatten=List.replicate n c:=by
 induction n with
 | zero=>rfl
 | succ n ih=>rw [replicate_succ,List.flatten_cons,ih];rfl
theorem kX_ (n:Nat):Txt.mul (ofString "0") (n:Int)=S (List.replicate n 48):=by
 unfold Txt.mul;by_cases h:(n:Int)<1
 ·have:n=0:=by omega
  subst this;rw [if_pos h];rfl
 rw [if_neg h];have e0:((ofString "0").length == 0)=false:=by left
 rw [e0,Bool.or_false];by_cases h1:((n:Int) == 1)=true
 ·have:n=1:=by have:=eq_of_beq h1;omega
  subst this;rw [if_pos h1]
  left
 rw [if_neg h1];refine ci_ ?_;rw [Int.toNat_natCast];show (List.foldl (fun x1 x2=>x1++x2) #[] (List.replicate n (ofString "0").cps)).toList=List.replicate n 48;rw [fC_];rw [show (ofString "0").cps.toList=[48] by left,hj_];simp
noncomputable def frac (a:List Nat) (c:Nat) (b:List Nat):Option (Nat×Nat) :=
 let top:=if c=46 then digitsValue (a++b) else digitsValue a
 let low:=if c=47 then digitsValue b else if c=46 then 10 ^ b.length else 1
 let g:=Nat.gcd top low
 let good:=decide (a.length<=MOSTSIGNS) && (decide (b.length<=MOSTSIGNS) && (low != 0 && (fits (top / g) && fits (low / g))))
 if good=true then some (top / g,low / g) else none
def iT_ (o u:Nat):Option (Nat×Nat):=if u=0 then none else if 10 ^ 12<=o / Nat.gcd o u\/10 ^ 12<=u / Nat.gcd o u then none else some (o / Nat.gcd o u,u / Nat.gcd o u)
theorem c7_ {a b:List Nat}{c:Nat} (ha:a.length<=12) (hb:b.length<=12) :
  frac a c b=iT_ (if c=46 then digitsValue (a++b) else digitsValue a) (if c=47 then digitsValue b else if c=46 then 10 ^ b.length else 1):=by
 unfold frac iT_;dsimp only;generalize (if c=46 then digitsValue (a++b) else digitsValue a)=o;generalize (if c=47 then digitsValue b else if c=46 then 10 ^ b.length else 1)=u;rw [decide_eq_true (show a.length<=MOSTSIGNS from ha),decide_eq_true (show b.length<=MOSTSIGNS from hb)];unfold fits;by_cases h0:u=0
 ·subst h0
  simp
 rw [if_neg h0];by_cases h1:10 ^ 12<=o / o.gcd u\/10 ^ 12<=u / o.gcd u
 ·rw [if_pos h1,if_neg]
  simp only [Bool.true_and,and_eq_true,bne_iff_ne,decide_eq_true_eq];omega
 rw [if_neg h1,if_pos];simp only [Bool.true_and,and_eq_true,bne_iff_ne,decide_eq_true_eq];omega
theorem e0_ {a b:List Nat}{c:Nat} (h:12<a.length\/12<b.length):frac a c b=none:=by
 unfold frac;dsimp only;rw [if_neg];simp only [and_eq_true,decide_eq_true_eq];have:MOSTSIGNS=12:=rfl;omega
noncomputable def afs (o u:Int) (m:Str):List (Str×V):=[("over",.int o),("under",.int u),("measure",.str m)]
def aW_ (C:Addr) (H:Hp) (a:Addr) (o u:Int) (m:List Nat):Prop:=∃ dx,H a=some (.ins C dx (afs o u (S m)))
theorem aW_.same {C:Addr}{H H':Hp}{a:Addr}{o u:Int}{m:List Nat} (h:aW_ C H a o u m) (s:Same H H'):aW_ C H' a o u m:=let ⟨dx,e⟩:=h;⟨dx,s _ _ e⟩
def bw_ (C:Addr) (names:List Str):Sp:=fun vs H Q _=>∃ (p dx:Addr) (args:List V),vs = .ref p::args/\args.length=names.length/\H p=some (.ins C dx [])/\Q .non (upd H p (.ins C dx (names.zip args)))
theorem aL_ {H:Hp}{x dx:Addr}{o1 o2:HO} (h1:H x=none) (h2:H dx=none):Same H (upd (upd H dx o1) x o2):=fun b o e=>by rw [al_ (af_ e h1),al_ (af_ e h2)];exact e
def fb_ (C:Addr) (H:Hp) (Q:VK) (r:Option (Nat×Nat)):Prop:=match r with
 | none=>∀ H',Same H H'->Q .non H'
 | some (x,y)=>∀ (p:Addr) (H':Hp),Same H H'->aW_ C H' p (x:Int) (y:Int) []->Q (.ref p) H'
theorem fb_.mono {C:Addr}{H H1:Hp}{Q:VK}{r:Option (Nat×Nat)} (h:fb_ C H Q r) (s:Same H H1):fb_ C H1 Q r:=by
 cases r with
 | none=>exact fun H' s'=>h H' (s.trans s')
 | some p=>exact fun a H' s' q=>h a H' (s.trans s') q
end M
namespace L2
open PySem PySem.Spec PyProof.Rows TL
theorem pe_r {X:Cx}{x:Str}{a:Addr}{pos:Pos} (h:X.mg x=some (.ref a)) (hg:Gl X x:=by rfl) (hd:(x == ("__debug__":Str))=false:=by decide):PE X (.Name x pos) (tC (.ref a)):=kN_ hg h rfl hd
theorem few0 {n:Nat} (h:n<1000:=by decide):n<1000:=h
theorem few {f:Str}{v:V}{fs:List (Str×V)}{n:Nat} (h:fs.length<=n):(putF f v fs).length<=n+1:=Nat.le_trans (cb_ f v fs) (Nat.add_le_add_right h 1)
theorem few1 {f1:Str}{v1:V}:(putF f1 v1 []).length<1000:=Nat.lt_of_le_of_lt (few (n:=0) (Nat.le_refl _)) (by decide)
theorem few2 {f1 f2:Str}{v1 v2:V}:(putF f2 v2 (putF f1 v1 [])).length<1000:=Nat.lt_of_le_of_lt (few (few (n:=0) (Nat.le_refl _))) (by decide)
theorem few3 {f1 f2 f3:Str}{v1 v2 v3:V}:(putF f3 v3 (putF f2 v2 (putF f1 v1 []))).length<1000:=Nat.lt_of_le_of_lt (few (few (few (n:=0) (Nat.le_refl _)))) (by decide)
theorem few4 {f1 f2 f3 f4:Str}{v1 v2 v3 v4:V}:(putF f4 v4 (putF f3 v3 (putF f2 v2 (putF f1 v1 [])))).length<1000:=Nat.lt_of_le_of_lt (few (few (few (few (n:=0) (Nat.le_refl _))))) (by decide)
theorem oI_ (x:Int) (l:List Int):inV (.int x) (l.map V.int)=l.contains x:=by
 unfold inV
 induction l with
 | nil=>rfl
 | cons a r ih =>
 rw [map_cons,any_cons,ih,List.contains_cons];congr 1;show (a == x)=(x == a);exact Bool.beq_comm
theorem oH_ (x:Str) (l:List Str):inV (.str x) (l.map V.str)=l.any (· == x):=by
 unfold inV;rw [any_map];rfl
theorem flat_strs (l:List Str):(l.map V.str).all fe_=true:=by
 rw [all_map];exact all_eq_true.mpr fun _ _=>rfl
end L2
namespace M
open PySem PySem.Spec PyProof.Rows L2 TL
open Vaunid (isSmall isDigit inWord)
theorem bB_ (p:Nat->Bool) : ∀ l:List Nat,l.dropWhile p=l.drop (l.takeWhile p).length
 | []=>rfl
 | c::r=>by
  rw [dropWhile_cons,takeWhile_cons];split
  ·rw [bB_ p r,length_cons,drop_succ_cons]
  rfl
theorem d6_ (p:Nat->Bool) (l:List Nat):(l.takeWhile p).length<=l.length:=List.Sublist.length_le (List.takeWhile_sublist p)
theorem dV_ {t:List Nat}{i c:Nat} (h:t[i]? = some c):t.drop i=c::t.drop (i+1):=by
 obtain ⟨h1,h2⟩:=List.getElem?_eq_some_iff.mp h;rw [drop_eq_getElem_cons h1,h2]
theorem do_ (s:List Nat):(numberText s).1=(match s.drop (s.takeWhile isDigit).length with
  | c::d::r=>if (c=47\/c=46)/\isDigit d=true then (s.takeWhile isDigit).length+(1+((d::r).takeWhile isDigit).length) else (s.takeWhile isDigit).length
  | _=>(s.takeWhile isDigit).length):=by
 unfold numberText;dsimp only;rw [bB_];generalize (s.takeWhile isDigit).length=n;generalize s.drop n=l
 match l with
 | []=>rfl
 | [c]=>rfl
 | c::d::r =>
  unfold secondRow;dsimp only;by_cases h:(c=47\/c=46)/\isDigit d=true
  ·simp only [if_pos h]
   rw [if_neg (by omega)]
  simp only [if_neg h,if_true,add_zero]
theorem kT_ {t:List Nat}{p:Nat} (h : ¬ p+((t.drop p).takeWhile isDigit).length+1<t.length):(numberText (t.drop p)).1=((t.drop p).takeWhile isDigit).length:=by
 rw [do_,drop_drop];have hl:(t.drop (p+((t.drop p).takeWhile isDigit).length)).length<=1:=by rw [length_drop];omega
 generalize t.drop (p+((t.drop p).takeWhile isDigit).length)=l at hl
 match l,hl with
 | [],_=>rfl
 | [c],_=>rfl
 | _::_::_,hl=>simp at hl
theorem mv_ {t:List Nat}{p c d:Nat} (h1:t[p+((t.drop p).takeWhile isDigit).length]? = some c) (h2:t[p+((t.drop p).takeWhile isDigit).length+1]? = some d) :
  (numberText (t.drop p)).1=if (c=47\/c=46)/\isDigit d=true then ((t.drop p).takeWhile isDigit).length+(1+((t.drop (p+((t.drop p).takeWhile isDigit).length+1)).takeWhile isDigit).length) else ((t.drop p).takeWhile isDigit).length:=by
 rw [do_,drop_drop,dV_ h1,dV_ h2]
theorem oJ_ (c:Nat):inV (.int (c:Int)) [V.int 46,V.int 47]=decide (c=46\/c=47):=by
 have e:=oI_ (c:Int) [46,47];rw [show [V.int 46,V.int 47]=[46,47].map V.int from rfl,e];rw [Bool.eq_iff_iff];simp;omega
theorem ks_ {a b:List Nat} (h : ∀ x∈a,isDigit x=true) (h2 : ∀ x∈b,isDigit x=true):Txt.split (S (a++47::b)) (ofString "/")=[S a,S b]:=by
 refine bZ_ ?_;rw [eF_];have na:47∉a:=fun m=>by have:=h _ m;revert this;decide
 have nb:47∉b:=fun m=>by have:=h2 _ m;revert this;decide
 have e:=gG_ (s:=47) (S:=[]) (rest:=b) (zx:=[]) na;rw [eI_ nb] at e;exact e
theorem oT_ {a b:List Nat} (h : ∀ x∈a,isDigit x=true) (h2 : ∀ x∈b,isDigit x=true):Txt.split (S (a++46::b)) (ofString ".")=[S a,S b]:=by
 refine bZ_ ?_;rw [eG_];have na:46∉a:=fun m=>by have:=h _ m;revert this;decide
 have nb:46∉b:=fun m=>by have:=h2 _ m;revert this;decide
 have e:=gG_ (s:=46) (S:=[]) (rest:=b) (zx:=[]) na;rw [eI_ nb] at e;exact e
theorem mS_ {a:List Nat} (h : ∀ x∈a,isDigit x=true):Txt.split (S a) (ofString ".")=[S a]:=by
 refine bZ_ ?_;rw [eG_];have na:46∉a:=fun m=>by have:=h _ m;revert this;decide
 rw [eI_ na];rfl
theorem ge_ {K:Frag}{x0 x1 x3:Option V}{H:Hp}{p:Addr}{ys:List Str}{R:VK} (hp:H p=some (.lst (ys.map V.str))) (hy : ∀ y∈ys,y.length<=sizeLine) (hl:ys.length<=sizeLine)
  (k : ∀ (D:Addr) (H':Hp),Same H H'->H' D=some (.lst ((ys.map fun y=>(y.length:Int)).map V.int))->R (.ref D) H') :
  tLc (mG_ K (tVar 2)) (dS_ 3) tYes (tCB (fun xs H Q=>∃ z,xs=[V.str z]/\z.length<=sizeLine/\Q (V.int ↑z.length) H) (eB_ (tVar 3) tNil)) [3] [x0,x1,some (.ref p),x3] H R:=by
 refine iq_ (Itl K p) (ys.map V.str) (fun v=>match v with | .str z=>V.int z.length | _ => .non) (H1:=H) (fun R h=>?_) (by rw [length_map];exact hl) (lm_ (SqL.of hp)) (fun x H' D zx Nx hx sm hD hacc nx=>?_) fun D H' hD sm e=>?_
 ·exact ⟨p,rfl,⟨_,SqL.of hp⟩,h⟩
 ·obtain ⟨d,hd,rfl⟩:=mem_map.mp hx
  refine ⟨rfl,?_⟩;unfold tYes;simp only [if_true];exact ⟨d,rfl,hy d hd,zx,hD,hacc,nx H' (Same.refl _)⟩
 refine k D H' sm ?_;rw [e,map_map,map_map];rfl
theorem kr_:ofString "/"=(⟨#[47]⟩:Str):=by left
theorem gr_ (a b:List Nat):S a++S b=S (a++b):=ci_ (by rw [cn_];rfl)
theorem pM_ (n:Nat) (h:n<=12):MulOk (ofString "0") (n:Int):=by
 have key : ∀ m:Fin 13,MulOk (ofString "0") (m.1:Int):=by
  unfold MulOk
  left
 exact key ⟨n,by omega⟩
theorem or_:ofString "1"=S [49]:=by left
theorem oq_ (n:Nat) (h:n<=12):intText? (ofString "1"++Txt.mul (ofString "0") (n:Int))=some ((10 ^ n:Nat):Int)/\(ofString "1"++Txt.mul (ofString "0") (n:Int)).length<=640/\(ofString "1").length+(Txt.mul (ofString "0") (n:Int)).length<=sizeLine:=by
 rw [kX_,or_,gr_,aZ_,aZ_,aZ_];have e:=hc_ (l:=[49]++List.replicate n 48) (fun c hc=>by
  rcases mem_append.mp hc with q | q
  ·rw [mem_singleton.mp q];decide
  rw [(List.mem_replicate.mp q).2];decide) (by simp) (by simp;omega)
 refine ⟨?_,by simp;omega,?_⟩
 ·rw [e]
  congr 2;exact p8_ n
 rw [List.length_replicate];exact Nat.le_trans (show 1+n<=13 by omega) (by decide)
theorem mY_ (l:List Nat) (k:Nat):cutS (S l) (some (k:Int)) none=S (l.drop k):=by
 refine ci_ ?_;unfold cutS;rw [pc_,tl_S,HT.sIx_nat,HT.sIx_none,ff_,aZ_];by_cases h:k<=l.length
 ·rw [Nat.min_eq_left h]
  exact take_of_length_le (by rw [length_drop];omega)
 rw [Nat.min_eq_right (by omega),drop_eq_nil_of_le (Nat.le_refl _),drop_eq_nil_of_le (by omega)];simp
theorem qd_ (l:List Nat) (k:Nat):cutS (S l) none (some (k:Int))=S (l.take k):=by
 refine ci_ ?_;unfold cutS;rw [pc_,tl_S,HT.sIx_nat,HT.sIx_none,ff_,aZ_,drop_zero,sub_zero];rw [Nat.min_def];split
 ·rfl
 rw [take_length,take_of_length_le (by omega)]
theorem dA_ (t:List Nat) (i j:Nat) (hi:i<=t.length):cutV (bs t) (some (i:Int)) (some (j:Int))=bs ((t.drop i).take (j - i)):=by
 unfold cutV;rw [HT.sIx_nat,HT.sIx_nat,b2_,Nat.min_eq_left hi,oZ_,oY_];by_cases h:j<=t.length
 ·rw [Nat.min_eq_left h]
 rw [Nat.min_eq_right (by omega),take_of_length_le (by rw [length_drop];exact Nat.le_refl _),take_of_length_le (l:=t.drop i) (by rw [length_drop];omega)]
theorem gE_ (l:List Nat):Txt.startswith (S l) (ofString "-")=decide (l.head? = some 45):=by
 match l with
 | []=>left
 | c::r =>
  unfold Txt.startswith
  have e1:(ofString "-").length=1:=by left
  rw [aZ_,e1,length_cons,decide_eq_true (by omega),Bool.true_and];have e2:Builtin.Str.subAt (S (c::r)) (ofString "-") 0=decide (c=45):=by
   rw [StrLaws.subAt_eq,e1,ff_,show (ofString "-").cps.toList=[45] by left];show ([c] == [45])=_;rw [Bool.eq_iff_iff];simp
  rw [e2];simp
theorem lJ_ {b:Nat->Bool}{x0 x2:Option V}{H:Hp}{l:List Nat}{R:VK} (hl:l.length<=sizeLine) (k : ∀ (D:Addr) (H':Hp),Same H H'->H' D=some (.lst ((l.map b).map V.bl))->R (.ref D) H') :
  tLc (iStr (tVar 1)) (dS_ 2) tYes (jf_ (spB b) [] E0 (eB_ (tCB (fun xs H Q=>∃ x,xs=[V.str x]/\x.length=1/\Q (V.int ↑(x.cps.getD 0 0)) H) (eB_ (tVar 2) tNil)) tNil)) [2] [x0,some (.str (S l)),x2] H R:=by
 refine iq_ (Its (S l)) (l.map fun d=>V.str ⟨#[d]⟩) (fun v=>match v with | .str x=>V.bl (b (x.cps.getD 0 0)) | _ => .non) (H1:=H) (fun R h=>?_) (by rw [length_map];exact hl) (nz_ (x:=S l)) (fun x H' D zx Nx hx sm hD hacc nx=>?_) fun D H' hD sm e=>?_
 ·exact ⟨_,rfl,h⟩
 ·obtain ⟨d,hd,rfl⟩:=mem_map.mp hx
  refine ⟨rfl,?_⟩;unfold tYes;simp only [if_true];exact ⟨_,rfl,rfl,d,rfl,zx,hD,hacc,nx H' (Same.refl _)⟩
 refine k D H' sm ?_;rw [e,map_map,map_map];rfl
theorem oK_:ofString "^"=(⟨#[94]⟩:Str):=by left
theorem mq_ {l:List Nat} (h:94∈l):Txt.partition (S l) (ofString "^")=(S (l.takeWhile (· != 94)),ofString "^",S ((l.dropWhile (· != 94)).drop 1)):=by
 have hl:l=l.takeWhile (· != 94)++l.dropWhile (· != 94):=takeWhile_append_dropWhile.symm;have hn:94∉l.takeWhile (· != 94):=fun m=>by have:=dX_ _ _ m;simp at this
 cases q:l.dropWhile (· != 94) with
 | nil =>
  rw [q,append_nil] at hl;rw [hl] at h;exact absurd h hn
 | cons e s =>
 have he:e=94:=by have:=e1_ _ q;simpa using this
 subst he;rw [q] at hl;have e:=f4_ (y:=ofString "^") (s:=94) (S:=[]) (by left) (a:=S (l.takeWhile (· != 94))) (b:=S s) hn;have e2:S (l.takeWhile (· != 94))++ofString "^"++S s=S l:=by
  rw [show ofString "^"=S [94] by left,gr_,gr_,append_assoc];exact congrArg S hl.symm
 rw [e2] at e;rw [e];rfl
end M
namespace L2
open PySem PySem.Spec PyProof.Rows TL
def lS_ (g:TG) (tb:TS) (D:Ends) (σ:St) (J:It) (H1:Hp):Prop:=∃ W:Nat->Nat->St->Hp->Prop,(∃ m,W 0 m σ H1)/\∀ i m σ H,W i m σ H ->
 (J.stop i H/\D.nx σ H)\/(J.go i H/\∃ N:St->Hp->Prop,(∀ σ' H',N σ' H'->∃ m',m'<m/\W (i+1) m' σ' H')/\∀ x H',J.yld i H x H'->g x σ H' fun σ2 H2=>tb { D with nx:=N,ct:=N,bk:=D.nx } σ2 H2)
theorem a5_ {wi:TI}{g:TG}{tb:TS}{D:Ends}{σ:St}{H:Hp} (h:wi σ H (lS_ g tb D σ)):tFor wi g tb D σ H:=h
theorem fz_ {K:Frag}{a:Addr}{g:TG}{tb:TS}{D:Ends}{σ:St}{H1:Hp} (xs:List V) (Pv:Nat->St->Hp->Prop) (h0:Pv 0 σ H1) (hl : ∀ i σ H,i<=xs.length->Pv i σ H->SqL K H a xs)
  (hs : ∀ i x σ H,xs[i]? = some x->Pv i σ H->g x σ H fun σ2 H2=>tb { D with nx:=Pv (i+1),ct:=Pv (i+1),bk:=D.nx } σ2 H2) (hd : ∀ σ H,Pv xs.length σ H->D.nx σ H):lS_ g tb D σ (Itl K a) H1 :=
 mO_ Pv h0 hl hs hd
end L2
namespace M
open PySem PySem.Spec PyProof.Rows L2 TL
open Vaunid (isSmall isDigit inWord inComment)
def sgn (c:Nat):Nat:=if (32<=c/\c<=126)/\c≠37 then c else 63
theorem nl_ (c:Nat):sgn c=c\/(sgn c=63/\¬ ((32<=c/\c<=126)/\c≠37)):=by
 unfold sgn;by_cases h:(32<=c/\c<=126)/\c≠37
 ·rw [if_pos h];exact .inl rfl
 rw [if_neg h];exact .inr ⟨rfl,h⟩
theorem ej_ {q:Nat->Bool} (h63:q 63=false) (hq : ∀ c,q c=true->(32<=c/\c<=126)/\c≠37) (c:Nat):q (sgn c)=q c:=by
 rcases nl_ c with e | ⟨e,h⟩
 ·rw [e]
 rw [e,h63];cases r:q c with
 | false=>rfl
 | true=>exact absurd (hq c r) h
theorem gN_ {c:Nat} (h:isSmall c=true):97<=c/\c<=122:=by unfold isSmall at h;simpa using h
theorem dz_ {c:Nat} (h:isDigit c=true):48<=c/\c<=57:=by unfold isDigit at h;simpa using h
theorem fM_ {c:Nat} (h:inWord c=true):(97<=c/\c<=122)\/(48<=c/\c<=57)\/c=95:=by
 unfold inWord at h;rcases or_eq_true_iff.mp h with q | q
 ·exact .inl (gN_ q)
 rcases or_eq_true_iff.mp q with q | q
 ·exact .inr (.inl (dz_ q))
 exact .inr (.inr (eq_of_beq q))
theorem kw_ (c:Nat):isSmall (sgn c)=isSmall c:=ej_ (by decide) (fun c h=>by have:=gN_ h;omega) c
theorem gT_ (c:Nat):isDigit (sgn c)=isDigit c:=ej_ (by decide) (fun c h=>by have:=dz_ h;omega) c
theorem l8_ (c:Nat):inWord (sgn c)=inWord c:=ej_ (by decide) (fun c h=>by have:=fM_ h;omega) c
theorem dG_ (d:Nat) (h:(32<=d/\d<=126)/\d≠37/\d≠63) (c:Nat):(sgn c == d)=(c == d):=ej_ (q:=fun c=>c == d) (by simp;omega) (fun c e=>by have:=eq_of_beq e;omega) c
theorem n5_ (c:Nat):sep (sgn c)=sep c:=by unfold sep;rw [dG_ 46 (by decide),dG_ 47 (by decide)]
theorem kx_ {c:Nat} (h:(32<=c/\c<=126)/\c≠37):sgn c=c:=if_pos h
theorem dN_ {l:List Nat} (h : ∀ c∈l,(32<=c/\c<=126)/\c≠37):l.map sgn=l:=by
 induction l with
 | nil=>rfl
 | cons c r ih=>rw [map_cons,kx_ (h c (mem_cons_self ..)),ih fun x hx=>h x (mem_cons_of_mem _ hx)]
theorem mz_ {l:List Nat} (h : ∀ c∈l,inWord c=true):l.map sgn=l:=dN_ fun c hc=>by have:=fM_ (h c hc);omega
theorem ik_ {q:Nat->Bool} (h : ∀ c,q (sgn c)=q c) (l:List Nat):(l.map sgn).all q=l.all q:=by
 rw [all_map];congr 1
 funext c
 exact h c
theorem m8_ {q:Nat->Bool} (h : ∀ c,q (sgn c)=q c) : ∀ l:List Nat,(l.map sgn).takeWhile q=(l.takeWhile q).map sgn
 | []=>rfl
 | c::r=>by
  rw [map_cons,takeWhile_cons,takeWhile_cons,h c];split
  ·rw [m8_ h r,map_cons]
  rfl
theorem nF_ {q:Nat->Bool} (h : ∀ c,q (sgn c)=q c) : ∀ l:List Nat,(l.map sgn).dropWhile q=(l.dropWhile q).map sgn
 | []=>rfl
 | c::r=>by
  rw [map_cons,dropWhile_cons,dropWhile_cons,h c];split
  ·exact nF_ h r
  rfl
theorem gR_ (l:List Nat):av_ (l.map sgn)=av_ l:=by
 unfold av_;rw [ik_ l8_,length_map];cases l with
 | nil=>rfl
 | cons c r =>
 rw [map_cons,headD_cons,headD_cons,kw_];rfl
theorem kF_ (l:List Nat):bh_ (l.map sgn)=bh_ l:=by
 unfold bh_;have e:((l.map sgn).head? = some 45)=(l.head? = some 45):=by
  cases l with
  | nil=>rfl
  | cons c r =>
  have:=dG_ 45 (by decide) c;rw [map_cons,List.head?_cons,List.head?_cons];rw [Bool.eq_iff_iff] at this;simpa using this
 simp only [e];split
 ·cases l with
  | nil=>rfl
  | cons c r =>
   rw [map_cons,List.tail_cons,List.tail_cons,ik_ gT_,length_map];cases r <;> rfl
 rw [ik_ gT_,length_map];simp
theorem jL_ (l:List Nat):atz_ (l.map sgn)=atz_ l:=by
 unfold atz_;have n94 : ∀ c,(sgn c != 94)=(c != 94):=fun c=>by unfold bne;rw [dG_ 94 (by decide)]
 have e1:(l.map sgn == [49])=(l == [49]):=by
  match l with
  | []=>rfl
  | [c] =>
   have:=dG_ 49 (by decide) c;show ([sgn c] == [49])=([c] == [49]);rw [Bool.eq_iff_iff] at this ⊢;simpa using this
  | c::d::r=>simp
 have e2:(l.map sgn).contains 94=l.contains 94:=by
  rw [List.contains_eq_any_beq,List.contains_eq_any_beq,any_map];congr 1
  funext c
  show (94 == sgn c)=(94 == c);rw [Bool.beq_comm,dG_ 94 (by decide),Bool.beq_comm]
 rw [e1,e2,m8_ n94,nF_ n94,<- List.map_drop,gR_,gR_,kF_]
theorem h9_ : ∀ (l zx:List Nat),cut sep (zx.map sgn) (l.map sgn)=(cut sep zx l).map (List.map sgn)
 | [],zx=>rfl
 | c::r,zx=>by
  show (if sep (sgn c)=true then zx.map sgn::cut sep [] (r.map sgn) else cut sep (zx.map sgn++[sgn c]) (r.map sgn))=(if sep c=true then zx::cut sep [] r else cut sep (zx++[c]) r).map (List.map sgn);rw [n5_];split
  ·rw [map_cons]
   exact congrArg _ (h9_ r [])
  have:=h9_ r (zx++[c]);rw [map_append] at this;exact this
theorem hP_ (l:List Nat):measureText ((l.map sgn).length+1) (l.map sgn)=measureText (l.length+1) l:=by
 rw [bY_ _ _ (by omega),bY_ _ _ (by omega)];have e:=h9_ l [];rw [map_nil] at e;rw [e,all_map];congr 1
 funext f
 exact jL_ f
def mch (c:Nat):Bool:=inWord c || (c == 94 || (c == 45 || (c == 46 || c == 47)))
theorem kZ_ {c:Nat} (h:mch c=true):(32<=c/\c<=126)/\c≠37:=by
 unfold mch at h;rcases or_eq_true_iff.mp h with q | q
 ·have:=fM_ q;omega
 simp at q;omega
theorem fH_ {c:Nat} (h:isDigit c=true):inWord c=true:=by unfold inWord;rw [h];simp
theorem fO_ {c:Nat} (h:inWord c=true):mch c=true:=by unfold mch;rw [h];rfl
theorem gS_ {l:List Nat} (h:av_ l=true) : ∀ c∈l,mch c=true:=fun c hc=>by
 unfold av_ at h;simp only [and_eq_true] at h;exact fO_ (all_eq_true.mp h.2.2.2 c hc)
theorem kG_ {l:List Nat} (h:bh_ l=true) : ∀ c∈l,mch c=true:=fun c hc=>by
 unfold bh_ at h;by_cases q:l.head? = some 45
 ·simp only [if_pos q,and_eq_true] at h
  cases l with
  | nil=>cases q
  | cons d r =>
  cases q;rcases mem_cons.mp hc with e | e
  ·subst e;rfl
  exact fO_ (fH_ (all_eq_true.mp h.2.2 c e))
 simp only [if_neg q,and_eq_true] at h;exact fO_ (fH_ (all_eq_true.mp h.2.2 c hc))
theorem fD_ {l:List Nat} (h:atz_ l=true) : ∀ c∈l,mch c=true:=fun c hc=>by
 unfold atz_ at h;rcases or_eq_true_iff.mp h with q | q
 ·rw [eq_of_beq q] at hc
  rw [mem_singleton.mp hc];rfl
 by_cases r:l.contains 94=true
 ·rw [if_pos r,and_eq_true] at q
  have hl:l=l.takeWhile (· != 94)++l.dropWhile (· != 94):=takeWhile_append_dropWhile.symm;rw [hl] at hc;rcases mem_append.mp hc with e | e
  ·exact gS_ q.1 c e
  cases z:l.dropWhile (· != 94) with
  | nil=>rw [z] at e;simp at e
  | cons d s =>
  have hd:d=94:=by have:=e1_ _ z;simpa using this
  rw [z] at e q;rcases mem_cons.mp e with e | e
  ·rw [e,hd];rfl
  exact kG_ q.2 c e
 rw [if_neg r] at q;exact gS_ q c hc
theorem ia_ : ∀ (l zx:List Nat),(cut sep zx l).all atz_=true->∀ c∈zx++l,mch c=true
 | [],zx,h,c,hc=>by
  have h':atz_ zx=true:=by
   have:=h;simpa [cut] using this
  rw [append_nil] at hc;exact fD_ h' c hc
 | d::r,zx,h,c,hc=>by
  have h':(if sep d=true then zx::cut sep [] r else cut sep (zx++[d]) r).all atz_=true:=h;by_cases q:sep d=true
  ·rw [if_pos q,all_cons,and_eq_true] at h'
   rcases mem_append.mp hc with e | e
   ·exact fD_ h'.1 c e
   rcases mem_cons.mp e with e | e
   ·subst e
    unfold sep at q;unfold mch;rw [q];simp
   exact ia_ r [] h'.2 c (by simpa using e)
  rw [if_neg q] at h';exact ia_ r (zx++[d]) h' c (by simpa using hc)
theorem hR_ {m:List Nat} (h:measureText (m.length+1) m=true):m.map sgn=m:=by
 rw [bY_ _ _ (by omega)] at h;exact dN_ fun c hc=>kZ_ (ia_ m [] h c (by simpa using hc))
theorem jr_ {m:List Nat} (h:measureText (m.length+1) m=true):m≠[]:=by
 intro e;subst e;revert h;decide
theorem ga_ (s:List Nat):(numberText s).2.2=s.drop (numberText s).1/\(numberText s).1<=s.length:=by
 have hs:(s.takeWhile isDigit).length<=s.length:=d6_ _ _;rw [do_];unfold numberText;dsimp only;rw [bB_];have hd : ∀ l,s.drop (s.takeWhile isDigit).length=l->s.length=(s.takeWhile isDigit).length+l.length:=fun l e=>by rw [<- e,length_drop];omega
 cases q:s.drop (s.takeWhile isDigit).length with
 | nil=>exact ⟨q.symm,hs⟩
 | cons c l =>
 have:=hd _ q;cases l with
 | nil=>exact ⟨q.symm,hs⟩
 | cons d r =>
 unfold secondRow;dsimp only;rw [length_cons,length_cons] at this;by_cases h:(c=47\/c=46)/\isDigit d=true
 ·simp only [if_pos h]
  have tl2:=d6_ isDigit (d::r);rw [length_cons] at tl2;have key:(s.takeWhile isDigit).length+(1+((d::r).takeWhile isDigit).length)<=s.length:=by omega
  refine ⟨?_,key⟩;rw [bB_,<- add_assoc,<- drop_drop,<- drop_drop,q];rfl
 simp only [if_neg h];exact ⟨q.symm,hs⟩
theorem kU_ {s:List Nat}{c:Nat}{r:List Nat} (e:s=c::r) (h:isDigit c=true):1<=(numberText s).1:=by
 rw [do_];have:1<=(s.takeWhile isDigit).length:=by
  rw [e,takeWhile_cons,h];simp
 split
 ·split
  ·exact Nat.le_trans this (le_add_right _ _)
  exact this
 exact this
theorem ex_ (p:Nat->Bool) : ∀ s:List Nat,s.take (s.takeWhile p).length=s.takeWhile p
 | []=>rfl
 | c::r=>by
  rw [takeWhile_cons];split
  ·rw [length_cons,take_succ_cons,ex_ p r]
  rfl
theorem j9_ (s:List Nat) (n k:Nat):s.take (n+k)=s.take n++(s.drop n).take k:=List.take_add
theorem kS_ (s:List Nat) : ∃ (b:List Nat) (c:Nat),s.take (numberText s).1=s.takeWhile isDigit++(if c=0 then [] else c::b) /\
  ((c=0/\b=[])\/((c=46\/c=47)/\b≠[]/\∀ x∈b,isDigit x=true))/\(numberText s).2.1=frac (s.takeWhile isDigit) c b/\(s.takeWhile isDigit).length+b.length<=s.length:=by
 have hs:(s.takeWhile isDigit).length<=s.length:=d6_ _ _;have ht:=ex_ isDigit s;have hd : ∀ l,s.drop (s.takeWhile isDigit).length=l->s.length=(s.takeWhile isDigit).length+l.length:=fun l e=>by rw [<- e,length_drop];omega
 rw [do_];have plain:secondRow (s.dropWhile isDigit)=(0,[],s.dropWhile isDigit)->s.take (s.takeWhile isDigit).length=s.takeWhile isDigit++(if 0=0 then [] else 0::[])/\(numberText s).2.1=frac (s.takeWhile isDigit) 0 []:=fun e=>by
  refine ⟨by rw [ht];simp,?_⟩;unfold numberText;dsimp only;rw [e];rfl
 cases q:s.drop (s.takeWhile isDigit).length with
 | nil =>
  obtain ⟨p1,p2⟩:=plain (by rw [bB_,q];rfl);exact ⟨[],0,p1,.inl ⟨rfl,rfl⟩,p2,hs⟩
 | cons c l =>
 have:=hd _ q;cases l with
 | nil =>
  obtain ⟨p1,p2⟩:=plain (by rw [bB_,q];rfl);exact ⟨[],0,p1,.inl ⟨rfl,rfl⟩,p2,hs⟩
 | cons d r =>
 dsimp only;rw [length_cons,length_cons] at this;by_cases h:(c=47\/c=46)/\isDigit d=true
 ·rw [if_pos h]
  have tl2:=d6_ isDigit (d::r);rw [length_cons] at tl2;have hc0:c≠0:=by omega
  refine ⟨(d::r).takeWhile isDigit,c,?_,.inr ⟨by omega,?_,fun x hx=>dX_ _ x hx⟩,?_,by omega⟩
  ·rw [j9_,ht,q,if_neg hc0,add_comm 1,take_succ_cons,ex_]
  ·rw [takeWhile_cons,h.2]
   simp
  have e:secondRow (s.dropWhile isDigit)=(c,(d::r).takeWhile isDigit,(d::r).dropWhile isDigit):=by
   rw [bB_,q];unfold secondRow;dsimp only;rw [if_pos h]
  unfold numberText;dsimp only;rw [e];rfl
 rw [if_neg h];obtain ⟨p1,p2⟩:=plain (by
  rw [bB_,q];unfold secondRow;dsimp only;rw [if_neg h])
 exact ⟨[],0,p1,.inl ⟨rfl,rfl⟩,p2,hs⟩
structure TokFact (p:Nat) (s:List Nat) (k:Vaunid.Token) (r:List Nat):Prop where
 start:k.start=p
 lt:p<k.halt_
 le:k.halt_<=p+s.length
 rest:r=s.drop (k.halt_ - p)
theorem jY_ {p:Nat}{s r:List Nat}{k:Vaunid.Token}{c:Nat}{s':List Nat} (e:s=c::s') (hc:isSmall c=true) (h:wordToken p s = .ok (k,r)):TokFact p s k r:=by
 unfold wordToken at h;dsimp only at h;split at h
 ·cases h
 cases h;have h1:1<=(s.takeWhile inWord).length:=by
  rw [e,takeWhile_cons,bT_ hc];simp
 exact ⟨rfl,Nat.lt_add_of_pos_right h1,Nat.add_le_add_left (d6_ _ _) _,by rw [add_sub_cancel_left,bB_]⟩
theorem iO_ {p:Nat}{s r:List Nat}{k:Vaunid.Token}{neg:Bool}{c:Nat}{s':List Nat} (e:(if neg=true then s.drop 1 else s)=c::s') (hc:isDigit c=true) (h:numberToken neg p s = .ok (k,r)):TokFact p s k r:=by
 unfold numberToken at h;dsimp only at h;have hpos:=kU_ e hc;obtain ⟨hrest,hle⟩:=ga_ (if neg=true then s.drop 1 else s);generalize hx:numberText (if neg=true then s.drop 1 else s)=x at h hpos hrest hle;obtain ⟨n,o,rest⟩:=x;dsimp only at h hpos hrest hle;have hn:n+(if neg=true then 1 else 0)<=s.length:=by
  cases neg with
  | false=>simpa using hle
  | true =>
  simp only [if_true] at e hle ⊢;rw [length_drop] at hle;have:s≠[]:=by intro z;subst z;simp at e
  have:1<=s.length:=length_pos_iff.mpr this;omega
 have hr:rest=s.drop (n+(if neg=true then 1 else 0)):=by
  rw [hrest];cases neg with
  | false=>rfl
  | true =>
  simp only [if_true];rw [drop_drop,add_comm]
 generalize hm:n+(if neg=true then 1 else 0)=sz at h hn hr;have hsz:1<=sz:=by omega
 cases o with
 | none=>cases h
 | some tl =>
 obtain ⟨top,low⟩:=tl;dsimp only at h;split at h
 ·rename_i r2
  split at h
  ·cases h
  rename_i hne;cases h;have hl:s.length=sz+(r2.length+1):=by
   have:=congrArg List.length hr;rw [length_cons,length_drop] at this;omega
  have hm2:(r2.takeWhile fun c=>c != 93).length<r2.length:=by
   have h1:=d6_ (fun c=>c != 93) r2;have h2:(r2.takeWhile fun c=>c != 93).length≠r2.length:=fun z=>hne (.inl z);omega
  refine ⟨rfl,?_,?_,?_⟩
  ·show p<p+sz+_+2
   omega
  ·show p+sz+_+2<=_
   omega
  show r2.drop _=s.drop (p+sz+_+2 - p);have e1:p+sz+(r2.takeWhile fun c=>c != 93).length+2 - p=sz+(1+((r2.takeWhile fun c=>c != 93).length+1)):=by omega
  have e2:s.drop (sz+(1+((r2.takeWhile fun c=>c != 93).length+1)))=((s.drop sz).drop 1).drop ((r2.takeWhile fun c=>c != 93).length+1):=by
   rw [drop_drop,drop_drop,<- add_assoc]
  rw [e1,e2,<- hr];rfl
 cases h;exact ⟨rfl,Nat.lt_add_of_pos_right hsz,Nat.add_le_add_left hn _,by rw [add_sub_cancel_left];exact hr⟩
theorem kt_ {p:Nat}{s r:List Nat}{k:Vaunid.Token}{L:List (List Nat)} (hL : ∀ x∈L,x≠[]) (h:signToken L p s = .ok (k,r)):TokFact p s k r:=by
 unfold signToken at h;split at h
 ·rename_i x hx
  cases h;have hm:=List.mem_of_find?_eq_some hx;have hp:=List.find?_some hx;have hpos:1<=x.length:=length_pos_iff.mpr (hL x hm);have hpre:x <+: s:=List.isPrefixOf_iff_prefix.mp hp;exact ⟨rfl,Nat.lt_add_of_pos_right hpos,Nat.add_le_add_left hpre.length_le _,by rw [add_sub_cancel_left]⟩
 cases h
theorem bS_ {core:Bool}{p:Nat}{s r:List Nat}{k:Vaunid.Token} (h:token core p s = .ok (k,r)):TokFact p s k r:=by
 unfold token at h;cases s with
 | nil=>cases h
 | cons c s' =>
 dsimp only at h;split at h
 ·exact jY_ rfl (by assumption) h
 split at h
 ·exact iO_ (neg:=false) rfl (by assumption) h
 split at h
 ·rename_i hc
  obtain ⟨_,hm⟩:=hc;unfold minusDigit at hm;split at hm
  ·rename_i z
   cases z;exact iO_ (neg:=true) rfl hm h
  cases hm
 refine kt_ (fun x hx=>?_) h;cases core with
 | true =>
  intro e;subst e;revert hx
  left
 | false =>
 intro e;subst e;revert hx
 left
noncomputable def gap (core:Bool):Nat->Nat->List Nat->Res (Nat×List Nat)
 | _,p,[] => .ok (p,[])
 | 0,p,s => .ok (p,s)
 | n+1,p,c::r =>
  if c=32\/(core=false/\c=10) then gap core n (p+1) r
  else if core=false/\c=123 then
   (match r.dropWhile inComment with
   | []=>fault 2 p
   | 125::s=>gap core n (p+(r.takeWhile inComment).length+2) s
   | _=>fault 1 (p+1+(r.takeWhile inComment).length))
  else .ok (p,c::r)
theorem ls_ (q:Nat->Bool) (l:List Nat):(l.dropWhile q).length<=l.length:=by rw [bB_,length_drop];omega
theorem iY_ (core:Bool) : ∀ (n m p:Nat) (s:List Nat),s.length<n->s.length<m->gap core n p s=gap core m p s
 | n,m,p,[],_,_=>by cases n <;> cases m <;> rfl
 | 0,_,_,_::_,h,_=>by simp at h
 | _,0,_,_::_,_,h=>by simp at h
 | n+1,m+1,p,c::r,h1,h2=>by
  rw [length_cons] at h1 h2;unfold gap;split
  ·exact iY_ core n m _ r (by omega) (by omega)
  split
  ·have hl:=ls_ inComment r
   cases q:r.dropWhile inComment with
   | nil=>rfl
   | cons d s =>
   rw [q,length_cons] at hl;by_cases hd:d=125
   ·subst hd
    exact iY_ core n m _ s (by omega) (by omega)
   split
   ·rename_i z;cases z
   ·rename_i z;cases z;exact absurd rfl hd
   rfl
  rfl
noncomputable def gapT (core:Bool) (p:Nat) (s:List Nat):Res (Nat×List Nat):=gap core (s.length+1) p s
theorem fy_ {core:Bool}{p c:Nat}{r:List Nat} (h:c=32\/(core=false/\c=10)):gapT core p (c::r)=gapT core (p+1) r:=by
 unfold gapT;rw [length_cons]
 conv=>lhs;unfold gap
 rw [if_pos h]
theorem jE_ {core:Bool}{p c:Nat}{r:List Nat} (h : ¬ (c=32\/(core=false/\c=10))) (h2 : ¬ (core=false/\c=123)):gapT core p (c::r) = .ok (p,c::r):=by
 unfold gapT;rw [length_cons];unfold gap;rw [if_neg h,if_neg h2]
theorem bH_ (core:Bool) : ∀ (n m p:Nat) (s:List Nat),s.length<n->s.length<m->tokens core n p s=tokens core m p s
 | n,m,p,[],_,_=>by cases n <;> cases m <;> rfl
 | 0,_,_,_::_,h,_=>by simp at h
 | _,0,_,_::_,_,h=>by simp at h
 | n+1,m+1,p,c::r,h1,h2=>by
  rw [length_cons] at h1 h2;unfold tokens;split
  ·exact bH_ core n m _ r (by omega) (by omega)
  split
  ·have hl:=ls_ inComment r
   cases q:r.dropWhile inComment with
   | nil=>rfl
   | cons d s =>
   rw [q,length_cons] at hl;by_cases hd:d=125
   ·subst hd
    exact bH_ core n m _ s (by omega) (by omega)
   split
   ·rename_i z;cases z
   ·rename_i z;cases z;exact absurd rfl hd
   rfl
  cases q:token core p (c::r) with
  | error e=>rfl
  | ok x =>
  obtain ⟨k,s⟩:=x;have hf:=bS_ q;have hs:s.length<=r.length:=by
   have h3:=hf.lt;rw [hf.rest,length_drop,length_cons];omega
  dsimp only;rw [bH_ core n m k.halt_ s (by omega) (by omega)]
def d7_ (core:Bool) (p:Nat) (s:List Nat):Res (List Vaunid.Token):=tokens core (s.length+1) p s
noncomputable def aN_ (core:Bool) (x:Nat×List Nat):Res (List Vaunid.Token):=match x.2 with
 | [] => .ok []
 | c::r=>match token core x.1 (c::r) with
  | .error e => .error e
  | .ok (k,s)=>match d7_ core k.halt_ s with
   | .error e => .error e
   | .ok l => .ok (k::l)
theorem ey_ (core:Bool) : ∀ (n p:Nat) (s:List Nat),s.length<n->d7_ core p s=(match gap core n p s with | .error e => .error e | .ok x=>aN_ core x)
 | n,p,[],_=>by cases n <;> rfl
 | 0,p,_::_,h=>by simp at h
 | n+1,p,c::r,h=>by
  rw [length_cons] at h;unfold d7_ gap;rw [length_cons]
  conv=>lhs;unfold tokens
  split
  ·exact ey_ core n (p+1) r (by omega)
  split
  ·have hl:=ls_ inComment r
   cases q:r.dropWhile inComment with
   | nil=>rfl
   | cons d s =>
   rw [q,length_cons] at hl;by_cases hd:d=125
   ·subst hd
    show tokens core (r.length+1) _ s=_;rw [bH_ core (r.length+1) (s.length+1) _ s (by omega) (by omega)];exact ey_ core n _ s (by omega)
   have e2:(match d::s with
     | []=>(fault 2 p:Res (Nat×List Nat))
     | 125::s=>gap core n (p+(List.takeWhile inComment r).length+2) s
     | x=>fault 1 (p+1+(List.takeWhile inComment r).length))=fault 1 (p+1+(List.takeWhile inComment r).length):=by
    split
    ·rename_i z;cases z
    ·rename_i z;cases z;exact absurd rfl hd
    rfl
   refine Eq.trans ?_ (congrArg (fun (o:Res (Nat×List Nat))=>(match o with | .error e => .error e | .ok x=>aN_ core x:Res (List Vaunid.Token))) e2).symm
   split
   ·rename_i z;cases z
   ·rename_i z;cases z;exact absurd rfl hd
   rfl
  show _=aN_ core (p,c::r);unfold aN_;dsimp only;cases q:token core p (c::r) with
  | error e=>rfl
  | ok x =>
  obtain ⟨k,s⟩:=x;have hf:=bS_ q;have hs:s.length<=r.length:=by
   have h3:=hf.lt;rw [hf.rest,length_drop,length_cons];omega
  dsimp only;unfold d7_;rw [bH_ core (r.length+1) (s.length+1) _ s (by omega) (by omega)];rfl
theorem dD_ (core:Bool) (p:Nat) (s:List Nat):d7_ core p s=(match gapT core p s with | .error e => .error e | .ok x=>aN_ core x):=ey_ core _ p s (lt_succ_self _)
theorem eo_ (core:Bool) : ∀ (n p:Nat) (s:List Nat) (x:Nat×List Nat),gap core n p s = .ok x->p<=x.1/\x.1<=p+s.length/\x.2=s.drop (x.1 - p)
 | n,p,[],x,h=>by
  have:x=(p,[]):=by
   cases n <;> (cases h;rfl)
  subst this;simp
 | 0,p,c::r,x,h=>by
  cases h;simp
 | n+1,p,c::r,x,h=>by
  unfold gap at h;split at h
  ·obtain ⟨h1,h2,h3⟩:=eo_ core n (p+1) r x h
   rw [length_cons];refine ⟨by omega,by omega,?_⟩;rw [h3,show x.1 - p=(x.1 - (p+1))+1 by omega,drop_succ_cons]
  split at h
  ·have hl:=bB_ inComment r
   have hl2:=d6_ inComment r;cases q:r.dropWhile inComment with
   | nil=>rw [q] at h;cases h
   | cons d s =>
   rw [q] at h hl;by_cases hd:d=125
   ·subst hd
    obtain ⟨h1,h2,h3⟩:=eo_ core n _ s x h;have hs:r.length=(r.takeWhile inComment).length+(s.length+1):=by
     have:=congrArg List.length hl;rw [length_cons,length_drop] at this;omega
    rw [length_cons];refine ⟨by omega,by omega,?_⟩;have e:x.1 - p=(x.1 - (p+(r.takeWhile inComment).length+2))+1+(r.takeWhile inComment).length+1:=by omega
    have e2:r.drop (x.1 - (p+(r.takeWhile inComment).length+2)+1+(r.takeWhile inComment).length)=(r.drop (r.takeWhile inComment).length).drop (x.1 - (p+(r.takeWhile inComment).length+2)+1):=by rw [drop_drop,add_comm]
    rw [h3,e,drop_succ_cons,e2,<- hl,drop_succ_cons]
   split at h
   ·rename_i z;cases z
   ·rename_i z;cases z;exact absurd rfl hd
   cases h
  cases h;simp
theorem jD_ : ∀ (s:List Nat) (p:Nat),gapT false p s=gapT false (p+(s.takeWhile fun c=>c == 32 || c == 10).length) (s.drop (s.takeWhile fun c=>c == 32 || c == 10).length)
 | [],p=>rfl
 | c::r,p=>by
  rw [takeWhile_cons];cases h:(c == 32 || c == 10) with
  | false=>rfl
  | true =>
  simp only [if_true];rw [length_cons,drop_succ_cons,fy_ (by simpa using h),jD_ r (p+1)];congr 1;omega
theorem fx_ : ∀ (s:List Nat) (p:Nat),gapT true p s = .ok (p+(s.takeWhile fun c=>c == 32).length,s.drop (s.takeWhile fun c=>c == 32).length)
 | [],p=>rfl
 | c::r,p=>by
  rw [takeWhile_cons];cases h:(c == 32) with
  | false=>exact jE_ (by simpa using h) (by simp)
  | true =>
  simp only [if_true];rw [length_cons,drop_succ_cons,fy_ (by simpa using h),fx_ r (p+1)];congr 2;omega
theorem lw_ {t:List Nat}{p:Nat}{s:List Nat} (h:t.drop p=s) (k:Nat):t.drop (p+k)=s.drop k:=by rw [<- h,drop_drop]
theorem i2_ {t:List Nat}{p:Nat}{s:List Nat} (h:t.drop p=s) (hp:p<=t.length):t.length=p+s.length:=by rw [<- h,length_drop];omega
theorem cN_ {t:List Nat}{p c:Nat}{r:List Nat} (h:t.drop p=c::r):p<t.length:=by
 have:=congrArg List.length h;rw [length_drop,length_cons] at this;omega
theorem gi_ {n:Nat} (t:List Nat) : ∀ (L:List (List Nat)),(∀ x∈L,x.length=n)->L.find? (fun s=>s.isPrefixOf t)=if t.take n∈L then some (t.take n) else none
 | [],_=>by simp
 | x::r,h=>by
  have hx:=h x (mem_cons_self ..);have ih:=gi_ t r fun y hy=>h y (mem_cons_of_mem _ hy);rw [find?_cons];by_cases hp:x.isPrefixOf t=true
  ·rw [hp]
   have e:x=t.take n:=by rw [<- hx];exact (List.prefix_iff_eq_take.mp (List.isPrefixOf_iff_prefix.mp hp))
   dsimp only;rw [<- e,if_pos (mem_cons_self ..)]
  have hp':x.isPrefixOf t=false:=Bool.eq_false_iff.mpr hp;rw [hp'];dsimp only;rw [ih];have ne:t.take n≠x:=fun e=>hp (List.isPrefixOf_iff_prefix.mpr (e ▸ List.take_prefix n t));by_cases hm:t.take n∈r
  ·rw [if_pos hm,if_pos (mem_cons_of_mem _ hm)]
  rw [if_neg hm,if_neg];intro z;rcases mem_cons.mp z with q | q
  ·exact ne q
  exact hm q
structure GoodSigns (L:List (List Nat)):Prop where
 parts : ∃ L2 L1,L=L2++L1/\(∀ x∈L2,x.length=2)/\∀ x∈L1,x.length=1
 plain : ∀ x∈L,∀ c∈x,((32<=c/\c<=126)/\c≠37)/\c≠63
theorem lk_:GoodSigns coreSigns:=⟨⟨[],coreSigns,rfl,by decide,by left⟩,by left⟩
theorem oy_ {L:List (List Nat)} (g:GoodSigns L) (l:List Nat):l.map sgn∈L↔l∈L:=by
 constructor
 ·intro h
  have e:l.map sgn=l:=dN_ fun c hc=>by
   have:=g.plain _ h (sgn c) (mem_map.mpr ⟨c,hc,rfl⟩);rcases nl_ c with q | ⟨q,_⟩
   ·rw [q] at this;exact this.1
   rw [q] at this;exact absurd rfl this.2
  rwa [e] at h
 intro h;rw [dN_ fun c hc=>(g.plain _ h c hc).1];exact h
noncomputable def ku_ (L:List (List Nat)) (t:List Nat):Option (List Nat):=if t.take 2∈L then some (t.take 2) else if t.take 1∈L then some (t.take 1) else none
theorem jK_ {L:List (List Nat)} (g:GoodSigns L) (t:List Nat):L.find? (fun s=>s.isPrefixOf t)=ku_ L t:=by
 obtain ⟨L2,L1,rfl,h2,h1⟩:=g.parts;rw [List.find?_append,gi_ t L2 h2,gi_ t L1 h1];unfold ku_;by_cases m2:t.take 2∈L2
 ·rw [if_pos m2,if_pos (mem_append_left _ m2)]
  rfl
 rw [if_neg m2];by_cases m1:t.take 1∈L1
 ·rw [if_pos m1]
  by_cases m:t.take 2∈L2++L1
  ·have m':t.take 2∈L1:=(mem_append.mp m).resolve_left m2
   have e:=h1 _ m';have e3:t.take 1=t.take 2:=by
    rw [length_take] at e;have:t.length<=1:=by omega
    rw [take_of_length_le this,take_of_length_le (by omega)]
   rw [if_pos m,e3];rfl
  rw [if_neg m,if_pos (mem_append_right _ m1)];rfl
 rw [if_neg m1];have n1 : ¬ t.take 1∈L2++L1:=fun z=>by
  rcases mem_append.mp z with q | q
  ·have:=h2 _ q
   rw [length_take] at this;omega
  exact m1 q
 by_cases m:t.take 2∈L2++L1
 ·have m':t.take 2∈L1:=(mem_append.mp m).resolve_left m2
  have e:=h1 _ m';have e3:t.take 1=t.take 2:=by
   rw [length_take] at e;have:t.length<=1:=by omega
   rw [take_of_length_le this,take_of_length_le (by omega)]
  rw [<- e3] at m';exact absurd m' m1
 rw [if_neg m,if_neg n1];rfl
noncomputable def h4_ (k p:Int):List (Str×V):=[("kind",.int k),("place",.int p)]
def ExF (C:Addr) (E:XK) (H:Hp) (k p:Int):Prop:=∀ (dx:Addr) (H':Hp),Same H H'->H' dx=some (XDic dx (h4_ k p))->E (.ref C) (some dx) H'
theorem ExF.mono {C:Addr}{E:XK}{H H1:Hp}{k p:Int} (h:ExF C E H k p) (s:Same H H1):ExF C E H1 k p:=fun dx H' s' e=>h dx H' (s.trans s') e
def RES {A:Type} (C:Addr) (H:Hp) (Q:VK) (E:XK) (r:Res A) (post:A->V->Hp->Prop):Prop:=match r with
 | .ok a=>∀ (v:V) (H':Hp),Same H H'->post a v H'->Q v H'
 | .error e=>ExF C E H (e.kind:Int) (e.place:Int)
def eK_ (C:Addr):Sp:=fun vs H Q _=>∃ (p:Addr) (k q:V),vs=[.ref p,k,q]/\H p=some (XNew C p none)/\∀ dx,H dx=none->dx≠p->Q .non (upd (upd H dx (XDic dx [("kind",k),("place",q)])) p (XNew C p (some dx)))
theorem bt_ {C:Addr}{E:XK}{H:Hp}{k p:Int}{E':XK} (h:ExF C E H k p) : ∀ a,H a=none->eK_ C [.ref a,.int k,.int p] (upd H a (XNew C a none))
  (fun v H2=>v = .non/\∃ dx,H2 a=some (XNew C a (some dx))/\∃ fs,H2 dx=some (XDic dx fs)/\E (.ref C) (some dx) (del H2 a)) E':=fun a ha=>by
 refine ⟨a,_,_,rfl,ad_,fun dx hdx hne=>⟨rfl,dx,ad_,_,by rw [al_ hne];exact ad_,?_⟩⟩;have hdx':H dx=none:=by rw [al_ hne] at hdx;exact hdx
 refine h dx _ (fun b o e=>?_) ?_
 ·have nb:b≠a:=af_ e ha
  rw [cw_ nb,al_ nb,al_ (af_ e hdx'),al_ nb];exact e
 rw [cw_ hne,al_ hne];exact ad_
noncomputable def d8_ (g:Int) (k:Str) (b e:Int) (c:V):List (Str×V):=[("group",.int g),("kind",.str k),("begin",.int b),("end",.int e),("content",c)]
noncomputable def kindOf:Vaunid.Tok->List Nat
 | .word w=>if isTaken w=true then w else Vaunid.txt "name"
 | .num _ d=>if d.isSome=true then Vaunid.txt "digit" else Vaunid.txt "number"
 | .sign s=>s
def hu_ (Ca:Addr) (H:Hp) (c:V):Vaunid.Tok->Prop
 | .word w=>c = .str (S w)
 | .num v _=>∃ a,c = .ref a/\aW_ Ca H a v.top (v.low:Int) (v.measure.getD [])
 | .sign s=>c = .str (S s)
def cS_ (Ca Ct:Addr) (H:Hp) (a:Addr) (k:Vaunid.Token):Prop:=∃ dx c,H a=some (.ins Ct dx (d8_ (Vaunid.sortOf k.tok) (S (kindOf k.tok)) (k.start:Int) (k.halt_:Int) c))/\hu_ Ca H c k.tok
theorem hu_.same {Ca:Addr}{H H':Hp}{c:V}{k:Vaunid.Tok} (h:hu_ Ca H c k) (s:Same H H'):hu_ Ca H' c k:=by
 cases k with
 | word w=>exact h
 | num v d=>obtain ⟨a,e,q⟩:=h;exact ⟨a,e,q.same s⟩
 | sign x=>exact h
theorem cS_.same {Ca Ct:Addr}{H H':Hp}{a:Addr}{k:Vaunid.Token} (h:cS_ Ca Ct H a k) (s:Same H H'):cS_ Ca Ct H' a k:=by
 obtain ⟨dx,c,e,q⟩:=h;exact ⟨dx,c,s _ _ e,q.same s⟩
theorem je_:[V.str "fn",V.str "let",V.str "rec",V.str "if",V.str "cons",V.str "case",V.str "pair",V.str "fst",V.str "snd",V.str "fold",V.str "root",V.str "floor",V.str "rest",V.str "true",V.str "false",V.str "nil",V.str "truth",V.str "num",V.str "list",V.str "base",V.str "unit",V.str "def",V.str "fun",V.str "in",V.str "then",V.str "else",V.str "match",V.str "with",V.str "and",V.str "or",V.str "not"]=(Vaunid.taken.map S).map V.str:=by left
theorem lE_:[V.str "(",V.str ")",V.str "+",V.str "-",V.str "*",V.str "/",V.str "^",V.str "<",V.str "="]=(Vaunid.coreSigns.map S).map V.str:=by left
theorem in_S (l:List Nat) (L:List (List Nat)):inV (.str (S l)) ((L.map S).map V.str)=decide (l∈L):=by
 rw [oH_,any_map,Bool.eq_iff_iff];simp only [any_eq_true,decide_eq_true_eq,Function.comp_def,beq_iff_eq,cl_]
 constructor
 ·rintro ⟨x,hx,rfl⟩;exact hx
 intro h;exact ⟨l,h,rfl⟩
theorem j8_ (w:List Nat):isTaken w=decide (w∈Vaunid.taken):=by
 unfold isTaken;rw [Bool.eq_iff_iff];simp only [any_eq_true,decide_eq_true_eq,beq_iff_eq]
 constructor
 ·rintro ⟨x,hx,rfl⟩;exact hx
 intro h;exact ⟨w,h,rfl⟩
end M
namespace L2
theorem n8_ {a b:Int}:scal (.int a) (.int b)=true:=rfl
theorem n7_ {a b:PySem.Str}:scal (.str a) (.str b)=true:=rfl
theorem n9_ {a b:Bool}:scal (.bl a) (.bl b)=true:=rfl
theorem fu_ {c:TT}{t u:TS}{D:Ends}{σ:St}{H:Hp} (h : ∀ A B:Hp->Prop,(∀ H1,t D σ H1->A H1)->(∀ H1,u D σ H1->B H1)->c σ H fun b H1=>if b=true then A H1 else B H1):tIfS c t u D σ H:=h _ _ (fun _ z=>z) (fun _ z=>z)
theorem bI_ {t u:TS}{D:Ends}{σ:St}{H:Hp} (R:St->Hp->Prop) (ht : ∀ X:St->Hp->Prop,(∀ σ' H',R σ' H'->X σ' H')->t { D with nx:=X } σ H) (hc : ∀ σ' H',R σ' H'->u D σ' H'):tSeq t u D σ H:=ht _ hc
end L2
namespace M
open PySem PySem.Spec PyProof.Rows L2 TL
def eb_ (H H':Hp):Prop:=∀ a C dx fs,H a=some (.ins C dx fs)->H' a=some (.ins C dx fs)
theorem Same.insts {H H':Hp} (s:Same H H'):eb_ H H':=fun a C dx fs e=>s _ _ e
theorem eb_.trans {H H1 H2:Hp} (s:eb_ H H1) (r:eb_ H1 H2):eb_ H H2:=fun a C dx fs e=>r _ _ _ _ (s _ _ _ _ e)
theorem eb_.lst {H:Hp}{b:Addr}{xs:List V}{o:HO} (h:H b=some (.lst xs)):eb_ H (upd H b o):=fun a C dx fs e=>by rw [al_ (a7_ e h (by intro z;cases z))];exact e
theorem aW_.sameI {C:Addr}{H H':Hp}{a:Addr}{o u:Int}{m:List Nat} (h:aW_ C H a o u m) (s:eb_ H H'):aW_ C H' a o u m:=let ⟨dx,e⟩:=h;⟨dx,s _ _ _ _ e⟩
theorem cS_.sameI {Ca Ct:Addr}{H H':Hp}{a:Addr}{k:Vaunid.Token} (h:cS_ Ca Ct H a k) (s:eb_ H H'):cS_ Ca Ct H' a k:=by
 obtain ⟨dx,c,e,q⟩:=h;refine ⟨dx,c,s _ _ _ _ e,?_⟩;cases hk:k.tok with
 | word w=>rw [hk] at q;exact q
 | num v d=>rw [hk] at q;obtain ⟨a,e,q⟩:=q;exact ⟨a,e,q.sameI s⟩
 | sign x=>rw [hk] at q;exact q
abbrev cj_ (Ca Ct:Addr) (H:Hp) (as:List Addr) (l:List Vaunid.Token):Prop:=Paired (fun a k=>cS_ Ca Ct H a k) as l
theorem cj_.sameI {Ca Ct:Addr}{H H':Hp}{as:List Addr}{l:List Vaunid.Token} (h:cj_ Ca Ct H as l) (s:eb_ H H'):cj_ Ca Ct H' as l:=Paired.mapP h fun a k z=>z.sameI s
theorem cj_.snoc {Ca Ct:Addr}{H:Hp} : ∀ {as:List Addr}{l:List Vaunid.Token}{a:Addr}{k:Vaunid.Token},cj_ Ca Ct H as l->cS_ Ca Ct H a k->cj_ Ca Ct H (as++[a]) (l++[k])
 | _,_,_,_,.nil,q => .cons q .nil
 | _,_,_,_,.cons r t,q => .cons r (cj_.snoc t q)
noncomputable def preR {A:Type} (l:List A) (r:Res (List A)):Res (List A):=match r with
 | .error e => .error e
 | .ok m => .ok (l++m)
abbrev Toks:=List Vaunid.Token
def bC_ (hl:Nat) (d:Nat) (ts:Toks):Res Core:=coreTerm hl (2 * ts.length+1) d ts
theorem lU_ {hl:Nat}{w:Vaunid.Tok}{ts r:Toks} (h:want hl w ts = .ok r):r.length+1=ts.length:=by
 unfold want at h;split at h
 ·split at h
  ·cases h;rfl
  cases h
 cases h
theorem dW_ {hl:Nat}{ts r:Toks}{x:List Nat} (h:wantName hl ts = .ok (x,r)):r.length+1=ts.length:=by
 unfold wantName at h;split at h
 ·split at h
  ·cases h;rfl
  cases h
 ·cases h
 cases h
theorem dh_ {hl:Nat}{ts r:Toks}{x:Int} (h:wantDigit hl ts = .ok (x,r)):r.length+1=ts.length:=by
 unfold wantDigit at h;split at h
 ·cases h;rfl
 ·cases h
 cases h
inductive Kind where
 | name | part | power
 deriving DecidableEq
inductive Fm where
 | fn | rec_ | let_ | if_ | app | pair | fst | snd | cons | case | fold | plus | minus | times | over | less | equal | floor | rest | root | pow
 deriving DecidableEq
noncomputable def Fm.word:Fm->String
 | .fn=>"fn" | .rec_=>"rec" | .let_=>"let" | .if_=>"if" | .app=>"apply" | .pair=>"pair" | .fst=>"fst" | .snd=>"snd" | .cons=>"cons" | .case=>"case" | .fold=>"fold"
 | .plus=>"+" | .minus=>"-" | .times=>"*" | .over=>"/" | .less=>"<" | .equal=>"=" | .floor=>"floor" | .rest=>"rest" | .root=>"root" | .pow=>"^"
noncomputable def Fm.kinds:Fm->List Kind
 | .fn=>[.name,.part] | .rec_=>[.name,.name,.part] | .let_=>[.name,.part,.part] | .if_=>[.part,.part,.part] | .app=>[.part,.part] | .pair=>[.part,.part] | .fst=>[.part] | .snd=>[.part] | .cons=>[.part,.part]
 | .case=>[.part,.part,.name,.name,.part] | .fold=>[.part,.part,.part] | .plus=>[.part,.part] | .minus=>[.part,.part] | .times=>[.part,.part] | .over=>[.part,.part] | .less=>[.part,.part] | .equal=>[.part,.part]
 | .floor=>[.part,.part] | .rest=>[.part,.part] | .root=>[.part] | .pow=>[.part,.power]
inductive Item where
 | w (x:List Nat)
 | n (m:Int)
 | p (t:Term) (l:List Nat)
noncomputable def Fm.mk:Fm->List Item->Term
 | .fn,[.w x,.p a _] => .fn x a
 | .rec_,[.w f,.w x,.p a _] => .rec_ f x a
 | .let_,[.w x,.p a _,.p b _] => .let_ x a b
 | .if_,[.p a _,.p b _,.p c _] => .three .cond a b c
 | .app,[.p a _,.p b _] => .two .app a b
 | .pair,[.p a _,.p b _] => .two .pair a b
 | .fst,[.p a _] => .one .fst a
 | .snd,[.p a _] => .one .snd a
 | .cons,[.p a _,.p b _] => .two .cons a b
 | .case,[.p l _,.p a _,.w h,.w t,.p b _] => .case l a h t b
 | .fold,[.p a _,.p b _,.p c _] => .three .fold a b c
 | .plus,[.p a _,.p b _] => .two .plus a b
 | .minus,[.p a _,.p b _] => .two .minus a b
 | .times,[.p a _,.p b _] => .two .times a b
 | .over,[.p a _,.p b _] => .two .over a b
 | .less,[.p a _,.p b _] => .two .less a b
 | .equal,[.p a _,.p b _] => .two .equal a b
 | .floor,[.p a _,.p b _] => .two .floor a b
 | .rest,[.p a _,.p b _] => .two .rest a b
 | .root,[.p a _] => .one .root a
 | .pow,[.p a _,.n m] => .one (.pow m) a
 | _,_ => .leaf .nil
def bu_:List Item->List Nat
 | []=>[]
 | .p _ l::r=>l++bu_ r
 | _::r=>bu_ r
noncomputable def ar_ (hl:Nat) (term:Toks->Res Core):List Kind->Toks->Res (List Item×Toks)
 | [],ts => .ok ([],ts)
 | .name::ks,ts=>match wantName hl ts with
  | .error e => .error e
  | .ok (x,r)=>match ar_ hl term ks r with
   | .error e => .error e
   | .ok (is,q) => .ok (.w x::is,q)
 | .part::ks,ts=>match term ts with
  | .error e => .error e
  | .ok (a,pa,r)=>match ar_ hl term ks r with
   | .error e => .error e
   | .ok (is,q) => .ok (.p a pa::is,q)
 | .power::ks,ts=>match wantDigit hl ts with
  | .error e => .error e
  | .ok (m,r)=>match ar_ hl term ks r with
   | .error e => .error e
   | .ok (is,q) => .ok (.n m::is,q)
open Vaunid (word sign)
noncomputable def bp_:Vaunid.Two->Fm
 | .app => .app | .pair => .pair | .cons => .cons | .plus => .plus | .minus => .minus | .times => .times | .over => .over | .less => .less | .equal => .equal | .floor => .floor | .rest => .rest
noncomputable def dL_:Vaunid.One->Fm
 | .fst => .fst | .snd => .snd | .root => .root | .pow _ => .pow
noncomputable def fm3 (a:Option Vaunid.One) (b:Option Vaunid.Two) (c:Option Vaunid.Three):Option Fm:=match a,b,c with
 | some o,_,_=>some (dL_ o)
 | _,some o,_=>some (bp_ o)
 | _,_,some o=>some (match o with | .cond => .if_ | .fold => .fold)
 | _,_,_=>none
noncomputable def fmOf (k:Vaunid.Tok):Option Fm :=
 if k=word "fn" then some .fn else if k=word "rec" then some .rec_ else if k=word "let" then some .let_ else if k=word "case" then some .case else if k=sign "^" then some .pow
 else fm3 (formOne k) (formTwo k) (formThree k)
noncomputable def gl_ (hl p:Nat) (f:Fm) (x:Res (List Item×Toks)):Res Core:=match x with
 | .error e => .error e
 | .ok (is,r)=>match want hl (sign ")") r with
  | .error e => .error e
  | .ok q => .ok (f.mk is,p::bu_ is,q)
noncomputable def an_ (ts:Toks):Fm×Toks:=match ts with
 | []=>(.app,[])
 | k::r=>match fmOf k.tok with
  | some f=>(f,r)
  | none=>(.app,k::r)
noncomputable def cv_ (hl:Nat) (term:Toks->Res Core) (p:Nat) (ts:Toks):Res Core:=gl_ hl p (an_ ts).1 (ar_ hl term (an_ ts).1.kinds (an_ ts).2)
noncomputable def cps (hl:Nat) (T:Toks->Res Core):List Kind->Toks->(List Item->Toks->Res Core)->Res Core
 | [],ts,k=>k [] ts
 | .name::ks,ts,k=>(wantName hl ts).bind fun y=>cps hl T ks y.2 fun is q=>k (.w y.1::is) q
 | .part::ks,ts,k=>(T ts).bind fun y=>cps hl T ks y.2.2 fun is q=>k (.p y.1 y.2.1::is) q
 | .power::ks,ts,k=>(wantDigit hl ts).bind fun y=>cps hl T ks y.2 fun is q=>k (.n y.1::is) q
theorem i3_ (hl:Nat) (T:Toks->Res Core) : ∀ (ks:List Kind) (ts:Toks) (k:List Item->Toks->Res Core),cps hl T ks ts k=(ar_ hl T ks ts).bind fun y=>k y.1 y.2
 | [],_,_=>rfl
 | .name::ks,ts,k=>by
  unfold cps ar_;cases wantName hl ts with
  | error e=>rfl
  | ok y =>
  refine (i3_ hl T ks y.2 _).trans ?_;show _=Except.bind (match ar_ hl T ks y.2 with | .error e => .error e | .ok (is,q) => .ok (Item.w y.1::is,q)) _
  cases ar_ hl T ks y.2 <;> rfl
 | .part::ks,ts,k=>by
  unfold cps ar_;cases T ts with
  | error e=>rfl
  | ok y =>
  refine (i3_ hl T ks y.2.2 _).trans ?_;show _=Except.bind (match ar_ hl T ks y.2.2 with | .error e => .error e | .ok (is,q) => .ok (Item.p y.1 y.2.1::is,q)) _
  cases ar_ hl T ks y.2.2 <;> rfl
 | .power::ks,ts,k=>by
  unfold cps ar_;cases wantDigit hl ts with
  | error e=>rfl
  | ok y =>
  refine (i3_ hl T ks y.2 _).trans ?_;show _=Except.bind (match ar_ hl T ks y.2 with | .error e => .error e | .ok (is,q) => .ok (Item.n y.1::is,q)) _
  cases ar_ hl T ks y.2 <;> rfl
def pl2 (l:List Nat):List (List Nat)->List Nat
 | []=>l
 | m::r=>l++pl2 m r
def pls:List Item->List (List Nat)
 | []=>[]
 | .p _ l::r=>l::pls r
 | _::r=>pls r
def pl1 (is:List Item):List Nat:=match pls is with
 | []=>[]
 | l::r=>pl2 l r
theorem nu_ : ∀ (r:List (List Nat)) (l:List Nat),pl2 l r=l++r.flatten
 | [],l=>(append_nil l).symm
 | m::r,l=>congrArg (l ++ ·) (nu_ r m)
theorem iB_ : ∀ is:List Item,(pls is).flatten=bu_ is
 | []=>rfl
 | .p _ l::r=>congrArg (l ++ ·) (iB_ r)
 | .w _::r=>iB_ r
 | .n _::r=>iB_ r
theorem pA_ (is:List Item):pl1 is=bu_ is:=by
 rw [<- iB_];unfold pl1;cases pls is with
 | nil=>rfl
 | cons l r=>exact nu_ r l
theorem i5_ (hl p:Nat) (f:Fm) (T:Toks->Res Core) (ks:List Kind) (ts:Toks):cps hl T ks ts (fun is r=>(want hl (sign ")") r).bind fun q => .ok (f.mk is,p::pl1 is,q))=gl_ hl p f (ar_ hl T ks ts):=by
 rw [i3_];cases ar_ hl T ks ts with
 | error e=>rfl
 | ok y =>
 show (want hl (sign ")") y.2).bind (fun q => .ok (f.mk y.1,p::pl1 y.1,q))=match want hl (sign ")") y.2 with | .error e => .error e | .ok q => .ok (f.mk y.1,p::bu_ y.1,q)
 rw [pA_];cases want hl (sign ")") y.2 <;> rfl
theorem beg (hl p:Nat) (T:Toks->Res Core) (k:Vaunid.Token) (r:Toks) {f:Fm} (h:fmOf k.tok=some f):cps hl T f.kinds r (fun is r=>(want hl (sign ")") r).bind fun q => .ok (f.mk is,p::pl1 is,q))=cv_ hl T p (k::r):=by
 rw [i5_];unfold cv_ an_;dsimp only;rw [h]
theorem dw_ (hl n d p:Nat) (k:Vaunid.Token) (r:Toks):coreForm hl (n+1) d p (k::r)=cv_ hl (coreTerm hl n d) p (k::r):=by
 unfold coreForm;dsimp only;generalize coreTerm hl n d=T;by_cases g0:k.tok=word "fn"
 ·rw [if_pos g0];exact beg hl p T k r (f := .fn) (by rw [g0];left)
 rw [if_neg g0];by_cases g1:k.tok=word "rec"
 ·rw [if_pos g1];exact beg hl p T k r (f := .rec_) (by rw [g1];left)
 rw [if_neg g1];by_cases g2:k.tok=word "let"
 ·rw [if_pos g2];exact beg hl p T k r (f := .let_) (by rw [g2];left)
 rw [if_neg g2];by_cases g3:k.tok=word "case"
 ·rw [if_pos g3];exact beg hl p T k r (f := .case) (by rw [g3];left)
 rw [if_neg g3];by_cases g4:k.tok=sign "^"
 ·rw [if_pos g4];exact beg hl p T k r (f := .pow) (by rw [g4];left)
 rw [if_neg g4];have q:fmOf k.tok=fm3 (formOne k.tok) (formTwo k.tok) (formThree k.tok):=by unfold fmOf;rw [if_neg g0,if_neg g1,if_neg g2,if_neg g3,if_neg g4]
 cases e1:formOne k.tok with
 | some o =>
  rw [e1] at q;cases o with
  | pow n =>
   unfold formOne at e1
   repeat' split at e1
   all_goals cases e1
  | _=>exact beg hl p T k r q
 | none =>
 rw [e1] at q;cases e2:formTwo k.tok with
 | some o =>
  rw [e2] at q;cases o <;> exact beg hl p T k r q
 | none =>
 rw [e2] at q;cases e3:formThree k.tok with
 | some o =>
  rw [e3] at q;cases o <;> exact beg hl p T k r q
 | none =>
 rw [e3] at q;have q:fmOf k.tok=none:=q;unfold cv_ an_;dsimp only;rw [q];exact i5_ hl p .app T [.part,.part] (k::r)
def lP_ (T:Toks->Res Core):Prop:=∀ r a pa q,T r = .ok (a,pa,q)->q.length<r.length
theorem dk_ {hl:Nat}{T:Toks->Res Core} (hT:lP_ T) : ∀ (ks:List Kind) (ts:Toks) (is:List Item) (q:Toks),ar_ hl T ks ts = .ok (is,q)->q.length<=ts.length
 | [],ts,is,q,h=>by
  cases h;exact Nat.le_refl _
 | .name::ks,ts,is,q,h=>by
  unfold ar_ at h;cases h1:wantName hl ts with
  | error e=>rw [h1] at h;cases h
  | ok v =>
  obtain ⟨x,r⟩:=v;rw [h1] at h;dsimp only at h;cases h2:ar_ hl T ks r with
  | error e=>rw [h2] at h;cases h
  | ok v =>
  obtain ⟨is2,q2⟩:=v;rw [h2] at h;cases h;have:=dk_ hT ks r is2 q h2;have:=dW_ h1;omega
 | .part::ks,ts,is,q,h=>by
  unfold ar_ at h;cases h1:T ts with
  | error e=>rw [h1] at h;cases h
  | ok v =>
  obtain ⟨a,pa,r⟩:=v;rw [h1] at h;dsimp only at h;cases h2:ar_ hl T ks r with
  | error e=>rw [h2] at h;cases h
  | ok v =>
  obtain ⟨is2,q2⟩:=v;rw [h2] at h;cases h;have:=dk_ hT ks r is2 q h2;have:=hT _ _ _ _ h1;omega
 | .power::ks,ts,is,q,h=>by
  unfold ar_ at h;cases h1:wantDigit hl ts with
  | error e=>rw [h1] at h;cases h
  | ok v =>
  obtain ⟨x,r⟩:=v;rw [h1] at h;dsimp only at h;cases h2:ar_ hl T ks r with
  | error e=>rw [h2] at h;cases h
  | ok v =>
  obtain ⟨is2,q2⟩:=v;rw [h2] at h;cases h;have:=dk_ hT ks r is2 q h2;have:=dh_ h1;omega
theorem e8_ (ts:Toks):(an_ ts).2.length<=ts.length:=by
 unfold an_;cases ts with
 | nil=>exact Nat.le_refl _
 | cons k r =>
 dsimp only;split
 ·exact le_succ _
 exact Nat.le_refl _
theorem mN_ {hl p:Nat}{T:Toks->Res Core} (hT:lP_ T) {ts q:Toks}{a:Term}{pa:List Nat} (h:cv_ hl T p ts = .ok (a,pa,q)):q.length<ts.length:=by
 unfold cv_ gl_ at h;cases h1:ar_ hl T (an_ ts).1.kinds (an_ ts).2 with
 | error e=>rw [h1] at h;cases h
 | ok v =>
 obtain ⟨is,r⟩:=v;rw [h1] at h;dsimp only at h;cases h2:want hl (sign ")") r with
 | error e=>rw [h2] at h;cases h
 | ok q2 =>
 rw [h2] at h;cases h;have:=dk_ hT _ _ _ _ h1;have:=lU_ h2;have:=e8_ ts;omega
theorem mM_ (hl n d p:Nat) : ∃ e,coreForm hl n d p [] = .error e:=by
 cases n with
 | zero=>exact ⟨_,rfl⟩
 | succ n =>
 unfold coreForm;dsimp only;split
 ·exact ⟨_,rfl⟩
 exact ⟨_,rfl⟩
theorem fR_ (hl:Nat) : ∀ (n d:Nat),lP_ (coreTerm hl n d)
 | 0,d,r,a,pa,q,h=>by cases h
 | 1,d,r,a,pa,q,h=>by
  unfold coreTerm at h;split at h
  ·cases h
  cases r with
  | nil=>cases h
  | cons k r =>
  dsimp only at h;split at h
  ·cases h
  split at h
  ·cases h;exact lt_succ_self _
  cases h
 | n+2,d,r,a,pa,q,h=>by
  unfold coreTerm at h;split at h
  ·cases h
  cases r with
  | nil=>cases h
  | cons k r =>
  dsimp only at h;split at h
  ·cases r with
   | nil =>
    obtain ⟨e,he⟩:=mM_ hl (n+1) (d - 1) k.start;rw [he] at h;cases h
   | cons k2 r2 =>
    rw [dw_] at h;have:=mN_ (fR_ hl n (d - 1)) h;rw [length_cons];omega
  split at h
  ·cases h;exact lt_succ_self _
  cases h
theorem b7_ {hl:Nat}{T T':Toks->Res Core} (hT:lP_ T) (L:Nat) (hE : ∀ r,r.length<=L->T r=T' r) : ∀ (ks:List Kind) (ts:Toks),ts.length<=L->ar_ hl T ks ts=ar_ hl T' ks ts
 | [],ts,_=>rfl
 | .name::ks,ts,h=>by
  unfold ar_;cases h1:wantName hl ts with
  | error e=>rfl
  | ok v =>
  obtain ⟨x,r⟩:=v;have:=dW_ h1;dsimp only;rw [b7_ hT L hE ks r (by omega)]
 | .part::ks,ts,h=>by
  unfold ar_;rw [<- hE ts h];cases h1:T ts with
  | error e=>rfl
  | ok v =>
  obtain ⟨a,pa,r⟩:=v;have:=hT _ _ _ _ h1;dsimp only;rw [b7_ hT L hE ks r (by omega)]
 | .power::ks,ts,h=>by
  unfold ar_;cases h1:wantDigit hl ts with
  | error e=>rfl
  | ok v =>
  obtain ⟨x,r⟩:=v;have:=dh_ h1;dsimp only;rw [b7_ hT L hE ks r (by omega)]
theorem fB_ {hl p:Nat}{T T':Toks->Res Core} (hT:lP_ T) {ts:Toks} (hE : ∀ r,r.length<=ts.length->T r=T' r):cv_ hl T p ts=cv_ hl T' p ts:=by
 unfold cv_;rw [b7_ hT ts.length hE _ _ (e8_ ts)]
theorem eA_ (hl:Nat) : ∀ (L:Nat) (ts:Toks) (n m d:Nat),ts.length<=L->2 * ts.length+1<=n->2 * ts.length+1<=m->coreTerm hl n d ts=coreTerm hl m d ts
 | L,[],0,_,_,_,h,_=>by omega
 | L,[],_+1,0,_,_,_,h=>by omega
 | L,[],n+1,m+1,d,_,_,_=>by
  unfold coreTerm;rfl
 | 0,k::r,_,_,_,h,_,_=>by simp at h
 | L+1,k::r,n,m,d,h,hn,hm=>by
  rw [length_cons] at h hn hm;obtain ⟨n,rfl⟩ : ∃ n',n=n'+2:=⟨n - 2,by omega⟩;obtain ⟨m,rfl⟩ : ∃ m',m=m'+2:=⟨m - 2,by omega⟩;unfold coreTerm;split
  ·rfl
  dsimp only;split
  ·cases r with
   | nil =>
    unfold coreForm;rfl
   | cons k2 r2 =>
    rw [dw_,dw_];rw [length_cons] at h hn hm;exact fB_ (fR_ hl n (d - 1)) fun r' hr'=>eA_ hl L r' n m (d - 1) (by rw [length_cons] at hr';omega) (by rw [length_cons] at hr';omega) (by rw [length_cons] at hr';omega)
  rfl
theorem jQ_ (hl:Nat) (ts:Toks):bC_ hl 0 ts=fault 8 (Vaunid.placeOf hl ts):=by
 unfold bC_ coreTerm;rfl
theorem lF_ (hl d:Nat):bC_ hl (d+1) []=fault 6 hl:=rfl
theorem jR_ {hl d:Nat}{k:Vaunid.Token}{r:Toks} (h : ¬ k.tok=sign "("):bC_ hl (d+1) (k::r)=(match Vaunid.leafOf k.tok with | some l => .ok (.leaf l,[k.start],r) | none=>fault 6 k.start):=by
 unfold bC_ coreTerm;rw [if_neg (by omega)];dsimp only;rw [if_neg h] <;> rfl
theorem jS_ {hl d:Nat}{k:Vaunid.Token}{r:Toks} (h:k.tok=sign "("):bC_ hl (d+1) (k::r)=cv_ hl (bC_ hl d) k.start r:=by
 unfold bC_;rw [length_cons,show 2 * (r.length+1)+1=2 * r.length+2+1 by omega];unfold coreTerm;rw [if_neg (by omega)];dsimp only;rw [if_pos h,Nat.add_sub_cancel];cases r with
 | nil =>
  unfold coreForm;dsimp only;by_cases h0:d=0
  ·subst h0;rfl
  obtain ⟨d,rfl⟩ : ∃ d',d=d'+1:=⟨d - 1,by omega⟩;rfl
 | cons k2 r2 =>
 rw [show 2 * (k2::r2).length+2=2 * (k2::r2).length+1+1 from rfl,dw_];refine fB_ (fR_ hl _ d) fun r' hr'=>?_;exact eA_ hl _ r' _ _ d (Nat.le_refl _) (by omega) (Nat.le_refl _)
theorem hG_ (t:List Nat):readCore t=(match allTokens true t with
  | .error e => .error e
  | .ok ts=>match bC_ t.length 40 ts with
   | .error e => .error e
   | .ok (a,places,r)=>match r with
    | k::_=>fault 6 k.start
    | []=>if 300<places.length then fault 9 (places.getD 300 0) else .ok a):=by
 unfold readCore;cases h1:allTokens true t with
 | error e=>rfl
 | ok ts =>
 show (coreTerm t.length (2 * ts.length+2) 40 ts >>= _)=_;rw [eA_ t.length ts.length ts (2 * ts.length+2) (2 * ts.length+1) 40 (Nat.le_refl _) (by omega) (Nat.le_refl _)];show (bC_ t.length 40 ts >>= _)=(match bC_ t.length 40 ts with
  | .error e => .error e
  | .ok (a,places,r)=>match r with
   | k::_=>fault 6 k.start
   | []=>if 300<places.length then fault 9 (places.getD 300 0) else .ok a)
 cases h2:bC_ t.length 40 ts with
 | error e=>rfl
 | ok v =>
 obtain ⟨a,places,r⟩:=v;cases r with
 | nil=>rfl
 | cons k r=>rfl
end M
end Internal
open Internal
namespace PySem
namespace F
theorem g0_:Manifest.owners.lookup (String.ofList ['d', 'e', 's', 'r', 'e', 'v', 'e', 'r'].reverse)=some Manifest.sig_reversed:=by kernel_rfl
theorem slot_rvd_next:Slot "reversed" "__next__" "reversed.__next__" :=
 .of (owner:="reversed") (n:="__next__") (by rw [typeLookup_type,builtinLookup_eq_fast];kernel_rfl) (by left) (by left) (by left)
  (by first | exact .inl (by left) | exact .inr (by left)) (by rw [isSubtype_type];kernel_rfl)
theorem entry_rvd_next:entryFor table "reversed.__next__"=some Builtin.«reversed.__next__» := entryFor_of_tree (by kernel_rfl)
theorem args_rvd_next_1 (a:Value):argsOk "reversed.__next__" ⟨[a],[]⟩:=by
 unfold argsOk;rw [signature?_of (id:="reversed.__next__") (n:=['_', '_', 't', 'x', 'e', 'n', '_', '_']) (o:=['d', 'e', 's', 'r', 'e', 'v', 'e', 'r']) (by kernel_rfl) g0_];kernel_rfl
theorem slot_rvd_iter:Slot "reversed" "__iter__" "reversed.__iter__" :=
 .of (owner:="reversed") (n:="__iter__") (by rw [typeLookup_type,builtinLookup_eq_fast];kernel_rfl) (by left) (by left) (by left)
  (by first | exact .inl (by left) | exact .inr (by left)) (by rw [isSubtype_type];kernel_rfl)
theorem args_rvd_iter_1 (a:Value):argsOk "reversed.__iter__" ⟨[a],[]⟩:=by
 unfold argsOk;rw [signature?_of (id:="reversed.__iter__") (n:=['_', '_', 'r', 'e', 't', 'i', '_', '_']) (o:=['d', 'e', 's', 'r', 'e', 'v', 'e', 'r']) (by kernel_rfl) g0_];kernel_rfl
theorem entry_rvd_iter:entryFor table "reversed.__iter__"=some Builtin.«dict_keyiterator.__iter__» :=
 entryFor_alias (id':="dict_keyiterator.__iter__") (by kernel_rfl) (by first | rfl | left | (unfold String.splitOn;simp +decide [String.splitOnAux])) (by left) (by kernel_rfl)
theorem fT_:Slot "reversed" "__init__" "object.__init__" :=
 .of (owner:="object") (n:="__init__") (by rw [typeLookup_type,builtinLookup_eq_fast];kernel_rfl) (by left) (by left) (by left)
  (by first | exact .inl (by left) | exact .inr (by left)) (by rw [isSubtype_type];kernel_rfl)
theorem called_rvd:TypeCalled "reversed" "reversed.__new__" "object.__init__" :=
 ⟨by left,by left,⟨_,_,mro_reversed⟩,made_reversed,by left,sub_reversed_self,fT_⟩
theorem tuple_no_rev:typeLookup (.type "tuple") "__reversed__"=pure none:=am_miss_of_fast (by first | left | rfl)
end F
open PyProof.Rows
def no_ (l:Addr) (i:Int):Obj:={ cls := .type "reversed",data := .fields #[.ref l,rawInt i] }
def Heap.IsRvd (h:Heap) (a l:Addr) (i:Int):Prop:=∃ o,h.get? a=some o/\o.cls = .type "reversed"/\o.data = .fields #[.ref l,rawInt i]
section
variable {prog:Program}{w:World}{A:Around}{E:zQ}{s:Shared}
theorem Heap.IsRvd.typeIs {a l:Addr}{i:Int} (x:s.heap.IsRvd a l i):s.TypeIs (.ref a) "reversed":=let ⟨o,ho,hc,_⟩:=x;⟨o,ho,hc⟩
theorem Heap.IsRvd.at {h h':Heap}{a l:Addr}{i:Int} (x:h.IsRvd a l i) (e : ∀ o,h.get? a=some o->h'.get? a=some o):h'.IsRvd a l i:=let ⟨o,ho,r⟩:=x;⟨o,e _ ho,r⟩
theorem fc_:isSubtype (.type "tuple") (.type "dict")=pure false:=by rw [isSubtype_type];kernel_rfl
theorem c3_ (t:Addr) (items:Array Value) :
  Meets (Builtin.«reversed.__new__» ⟨[.type "reversed",.ref t],[]⟩) (fun _ R s=>IsTup s.heap t items/\((items.size:Int)<2 ^ 63)/\∀ k,R (.ok (.ret (.ref s.heap.objs.size))) { s with heap:=s.heap.push (no_ t ((items.size:Int) - 1)),toks:=k }) :=
 .of_wp fun prog w A R s h=>by
  obtain ⟨ht,hz,h⟩:=h;have hT:=ht.typeIs;unfold Builtin.«reversed.__new__»;refine wpAny_bind (wpAny_of_eq (newClass_reversed _) ?_)
  try dsimp only
  refine wpAny_bind (wpAny_of_eq (a:=()) (by first | rfl | kernel_rfl) ?_);refine wpAny_bind (wpAny_of_eq (a:=()) (by first | rfl | kernel_rfl) ?_)
  try dsimp only
  refine wpAny_bind (wpAny_specialOf hT F.tuple_no_rev ?_)
  try dsimp only
  refine wpAny_bind ?_;show wpAny _ _ (isInstance (.ref t) (.type "dict") >>= _) _ _ _;refine wpAny_bind (wpAny_isInstance (T:="tuple") (b:=false) hT fc_ ?_);show wpAny _ _ (specialOf (.ref t) "__getitem__" >>= _) _ _ _;refine wpAny_bind (wpAny_specialOf hT slot_tuple_getitem.lookup ?_);refine wpAny_of_eq (a:=true) rfl ?_;rw [if_neg (by decide)];refine wpAny_bind (len_tuple ht hz ?_);refine wpAny_bind (wpAny_of_eq (a:=some ((items.size:Nat):Int)) rfl ?_);dsimp only;refine wpAny_bind ?_;show wpAny _ _ (newObj (.type "reversed") (.fields #[Value.ref t,rawInt ((items.size:Int) - 1)])) _ _ _;exact wpAny_newObj_type (wpAny_pure ⟨_,rfl,h _⟩)
theorem dd_ {t:Addr}{items:Array Value}{Q:zQ} (ht:IsTup s.heap t items) (hz:(items.size:Int)<2 ^ 63)
  (h : ∀ k,Q (.ref s.heap.objs.size) { s with heap:=s.heap.push (no_ t ((items.size:Int) - 1)),toks:=k }):wpAny (model prog w) A (call (.type "reversed") [.ref t]) Q E s :=
 callType_new F.called_rvd (by decide) (F.typeCall_reversed_1 _) (F.newCall_reversed_1 _) (fun obj=>F.args_object_init_2 obj _) F.entry_reversed_new (c3_ t items) ⟨ht,hz,fun k=>⟨⟨_,get?_push_size _ rfl,rfl⟩,h k⟩⟩
theorem cg_ {it l:Addr}{i:Int}{Q:zQ} (hit:s.heap.IsRvd it l i) (h:Q (.ref it) s):wpAny (model prog w) A (pyIter (.ref it)) Q E s:=by
 refine wpAny_pyIter_slot hit.typeIs F.slot_rvd_iter (wpAny_call_entry F.slot_rvd_iter hit.typeIs F.entry_rvd_iter ?_ (F.args_rvd_iter_1 _));show wpAny _ _ (ret (.ref it)) _ _ s;exact wpAny_pure ⟨_,rfl,"reversed",_,hit.typeIs,F.slot_rvd_next.lookup,h⟩
theorem cm_ {it l:Addr}{i:Nat}{items:Array Value}{x:Value}{Q:Option Value->Shared->Prop} (hit:s.heap.IsRvd it l (i:Int)) (hl:IsTup s.heap l items) (hne:l≠it) (hz:(items.size:Int)<2 ^ 63) (hx:items[i]? = some x)
  (hQ : ∀ h' k,h'.IsRvd it l ((i:Int) - 1)->Heap.SameBut it s.heap h'->Q (some x) { s with heap:=h',toks:=k }):wpAny (model prog w) A (pyNext (.ref it)) Q E s:=by
 obtain ⟨o,ho,hc,hd⟩:=id hit;have hlt:i<items.size:=(Array.getElem?_eq_some_iff.mp hx).1;unfold pyNext;refine wpAny_bind (wpAny_attempt (wpAny_callSpecial?_slot (name:=ofString "__next__") hit.typeIs F.slot_rvd_next
  (wpAny_call_entry F.slot_rvd_next hit.typeIs F.entry_rvd_next ?_ (F.args_rvd_next_1 _))))
 unfold Builtin.«reversed.__next__»;refine wpAny_bind (wpAny_of_eq (a:=(Value.ref it,[])) rfl ?_)
 try dsimp only
 refine wpAny_bind (wpAny_field ho hd (x := .ref l) rfl ?_);refine wpAny_bind (wpAny_field ho hd (x:=rawInt (i:Int)) rfl ?_);show wpAny _ _ (if (i:Int)<0 then _ else _) _ _ s;rw [if_neg (by omega)];refine wpAny_bind (wpAny_specialOf hl.typeIs slot_tuple_getitem.lookup ?_);rw [if_neg (by decide)];refine wpAny_bind (wpAny_mkInt ?_);refine wpAny_bind (wpAny_attempt (getItem_tuple (j:=i) (x:=x) hl (by omega) (by omega) (by unfold seqIndex?;simp;omega) hx ?_));refine wpAny_bind (wpAny_field (s:={ s with toks:=s.toks+1 }) ho hd (x:=rawInt (i:Int)) rfl ?_);refine wpAny_bind (wpAny_setField (s:={ s with toks:=s.toks+1 }) ho hd (by simp) ?_);refine wpAny_pure ⟨x,rfl,wpAny_pure (hQ _ _ ?_ (Heap.SameBut.update ..))⟩;exact ⟨_,get?_update_self _ ho (Obj.isFreed_of_fields (Obj.data_mapFields hd _)),(Obj.cls_mapFields ..).trans hc,by
  rw [Obj.data_mapFields hd];simp⟩
theorem cP_ {it l:Addr}{Q:Option Value->Shared->Prop} (hh:A.handled=none) (hit:s.heap.IsRvd it l (-1))
  (hQ : ∀ h',Heap.ExtBut it s.heap h'->Q none { s with heap:=h' }):wpAny (model prog w) A (pyNext (.ref it)) Q E s:=by
 obtain ⟨o,ho,hc,hd⟩:=id hit;unfold pyNext;refine wpAny_bind (wpAny_attempt (wpAny_callSpecial?_slot (name:=ofString "__next__") hit.typeIs F.slot_rvd_next
  (wpAny_call_entry F.slot_rvd_next hit.typeIs F.entry_rvd_next ?_ (F.args_rvd_next_1 _))))
 unfold Builtin.«reversed.__next__»;refine wpAny_bind (wpAny_of_eq (a:=(Value.ref it,[])) rfl ?_)
 try dsimp only
 refine wpAny_bind (wpAny_field ho hd (x := .ref l) rfl ?_);refine wpAny_bind (wpAny_field ho hd (x:=rawInt (-1)) rfl ?_);show wpAny _ _ (if (-1:Int)<0 then _ else _) _ _ s;rw [if_pos (by decide)];refine wpAny_bind (wpAny_rule ?_);refine wpAny_bind ?_;show wpAny _ _ (setField (.ref it) 1 (rawInt (-1)) >>= _) _ _ _;refine wpAny_bind (wpAny_setField ho hd (by simp) ?_);have ho2:=get?_update_self (Obj.mapFields (·.setIfInBounds 1 (rawInt (-1)))) ho (Obj.isFreed_of_fields (Obj.data_mapFields hd _));have hd2:(Obj.mapFields (·.setIfInBounds 1 (rawInt (-1))) o).data = .fields #[Value.ref l,rawInt (-1)]:=by rw [Obj.data_mapFields hd];simp
 have sb2:Heap.SameBut it s.heap (s.heap.update it (Obj.mapFields (·.setIfInBounds 1 (rawInt (-1))))):=Heap.SameBut.update ..;generalize s.heap.update it (Obj.mapFields (·.setIfInBounds 1 (rawInt (-1))))=h2 at ho2 sb2 ⊢;refine wpAny_setField (s:={ s with heap:=h2 }) ho2 hd2 (by simp) ?_;have sb3:Heap.SameBut it h2 (h2.update it (Obj.mapFields (·.setIfInBounds 0 .none))):=Heap.SameBut.update ..;show wpAny _ _ (Builtin.SmallTypes.stopIteration >>= _) _ _ { s with heap:=h2.update it (Obj.mapFields (·.setIfInBounds 0 .none)) };generalize h2.update it (Obj.mapFields (·.setIfInBounds 0 .none))=h3 at sb3 ⊢;refine wpAny_bind ?_;show wpAny _ _ (newExc (.type "StopIteration") [] >>= _) _ _ _;refine wpAny_bind ?_;simp only [newExc,newTuple];refine wpAny_bind (wpAny_newObj_type ?_ (by size_fits));refine wpAny_bind (m:=firstArgMember _ _) (wpAny_of_eq (a:=Value.none) (by first | rfl | (simp only [firstArgMember];rfl)) ?_);refine wpAny_newObj_type ?_ (by size_fits);simp only [raiseNew];refine wpAny_bind (wpAny_handled ?_)
 first | rw [show A.in1.handled=none from hh] | rw [hh]
 refine wpAny_bind (wpAny_pure (wpAny_throw ?_));refine wpAny_bind (wpAny_isInstance (T:="StopIteration") (b:=true) ⟨_,get?_push_size _ rfl,rfl⟩ isSubtype_stop ?_);exact wpAny_pure (hQ _ ((((sb2.trans sb3).extBut).push _).push _))
end
end PySem
namespace Internal
namespace L2
open PySem PySem.Spec PyProof.Rows TL
def Itw (K:Frag) (a:Addr) (n:Nat):It :=
 ⟨fun i H=>i<n/\∃ (xs:List V) (x:V),SqT K H a xs/\xs.length=n/\xs[n - 1 - i]? = some x,fun i H x H'=>H'=H/\∀ xs,SqT K H a xs->xs[n - 1 - i]? = some x,fun i _=>n<=i⟩
theorem j3_ {P:Program}{w:World}{K:Frag}{tg:Expr} (a it:Addr) (n:Nat):Turn P w K tg (Itw K a n) [it] it (fun i h=>i<=n/\h.IsRvd it a ((n:Int) - 1 - (i:Nat))) where
 mem:=by simp
 obj:=fun i h st b hb=>by
  have e:b=it:=by simpa using hb
  subst e;refine x_01 st fun _ zz0=>?_;refine x_12 zz0 fun o e c d=>?_;exact ⟨o,e,fun v z=>by rw [d] at z;cases z⟩
 keep:=fun i h h' st k=>⟨st.1,st.2.at fun o e=>k it (by simp) o e⟩
 item:=by
  intro X hP hw hK hc i zz s σ H E I hf st hg;subst hP hw hK;refine x_01 hg fun hin zz0=>?_;refine x_22 zz0 fun xs x hq hxl hx=>?_;refine x_12 (I.tuple hq) fun its rv p hz=>?_;obtain ⟨u,hu,ru⟩:=rv.get hx;obtain ⟨f0,f1,f2,f3,f4,f5⟩:=hf it (by simp);obtain ⟨_,hit⟩:=st;have e1:(n:Int) - 1 - ((i:Nat):Int)=((n - 1 - i:Nat):Int):=by omega
  rw [e1] at hit;have hl:=rv.length;have hn:=dq_;have nla:a≠it:=fun z=>by
   obtain ⟨o,e,c,d⟩:=hit;obtain ⟨ob,e2,c2,nn,d2⟩:=p;rw [z,e] at e2;cases e2;rw [d] at d2;cases d2
  refine cm_ hit p nla (by rw [size_toArray];omega) (x:=u) (by simpa using hu) fun h' k st' sb=>?_;have e2:((n - 1 - i:Nat):Int) - 1=(n:Int) - 1 - ((i+1:Nat):Int):=by omega
  rw [e2] at st';have I1:Inv X zz σ H { s with heap:=h',toks:=k }:=I.turned (t':=k) (fun b o hb e=>(sb.2 b hb).trans e) f0 f1 f3 f4 f5;refine x_12 (id st') fun o e c d=>?_;exact ⟨u,rfl,ll_ (s:={ s with heap:=h',toks:=k }) e c d (by decide) ⟨x,H,I1,ru,⟨rfl,fun ys hy=>by rw [I.tuple_inj hy hq];exact hx⟩,⟨hin,st'⟩,fun b hb=>(hf b hb).1⟩⟩
 done:=by
  intro X hP hw hK hc i zz s σ H E I hf st hg;subst hP hw hK;obtain ⟨f0,f1,f2,f3,f4,f5⟩:=hf it (by simp);obtain ⟨hin,hit⟩:=st;have hge:n<=i:=hg;have e1:(n:Int) - 1 - ((i:Nat):Int) = -1:=by omega
  rw [e1] at hit;exact cP_ (I.ok.hd hc) hit fun h' eb=>⟨rfl,I.turned (t':=s.toks) (fun b o hb e=>eb b o hb e) f0 f1 f3 f4 f5⟩
 self:=fun A i s Q E st h=>cg_ st.2 h
def pW_ (K:Frag) (ta:TA):TI:=fun σ H R=>ta σ H fun vs H1=>∃ (a:Addr) (xs:List V),vs=[.ref a]/\SqT K H1 a xs/\R (Itw K a xs.length) H1
theorem gW_ {X:Cx}{tg:Expr}{e:Expr}{ta:TA}{p pos:Pos} (hg:Gl X "reversed") (hm:X.mg "reversed"=none) (ha:PA X [e] ta) (hs:starEach [e] X.env=[(false,eval e X.env)]:=by rfl):PI X tg (.Call (.Name "reversed" p) [e] [] pos) (pW_ X.K ta):=by
 intro zz s σ H R I h;refine Call_ (d1_ I hg hm cW_ (PyProof.Rows.callWith_type1 (thn (ha pos zz s σ H _ I h) fun us s1 zq=>?_) hs rfl));refine x_22 zq fun vs H1 I1 r1 q1=>?_;refine x_22 q1 fun a xs e hq q=>?_;subst e;cases r1 with
 | cons r rr =>
 cases rr;cases r;refine x_12 (I1.tuple hq) fun its rv p' hz=>?_;have hl:=rv.length;have hn:=dq_;have e1:((its.toArray.size:Nat):Int) - 1=(xs.length:Int) - 1 - ((0:Nat):Int):=by simp only [size_toArray];omega
 refine dd_ p' (by rw [size_toArray];omega) fun k=>cg_ (l:=a) (i:=((its.toArray.size:Nat):Int) - 1) ⟨_,get?_push_size _ rfl,rfl,rfl⟩ ?_;refine iE_ (tk:=k) I1 _ (j3_ a _ xs.length) ⟨zero_le _,?_⟩ q;rw [<- e1];exact ⟨_,get?_push_size _ rfl,rfl,rfl⟩
theorem dv_ {K:Frag}{a:Addr}{g:TG}{tb:TS}{D:Ends}{σ:St}{H1:Hp} (xs:List V) (Pv:Nat->St->Hp->Prop) (h0:Pv 0 σ H1) (hl : ∀ i σ H,i<=xs.length->Pv i σ H->SqL K H a xs)
  (hs : ∀ i x σ H,xs.reverse[i]? = some x->Pv i σ H->g x σ H fun σ2 H2=>tb { D with nx:=Pv (i+1),ct:=Pv (i+1),bk:=D.nx } σ2 H2) (hd : ∀ σ H,Pv xs.length σ H->D.nx σ H):lS_ g tb D σ (Itv K a xs.length) H1:=by
 refine ⟨fun i m σ H=>m=xs.length - i/\i<=xs.length/\Pv i σ H,⟨xs.length,by simp,zero_le _,h0⟩,?_⟩
 rintro i m σ H ⟨rfl,hi,p⟩
 have q:=hl i σ H hi p;by_cases hlt:i<xs.length
 ·have hx:xs[xs.length - 1 - i]? = some xs[xs.length - 1 - i]:=getElem?_eq_getElem (by omega)
  refine .inr ⟨⟨hlt,xs,_,q,hx⟩,Pv (i+1),fun σ' H' p'=>⟨xs.length - (i+1),by omega,rfl,hlt,p'⟩,fun x H' y=>?_⟩;obtain ⟨e,y⟩:=y;subst e;refine hs i x σ _ ?_ p;rw [getElem?_reverse hlt];exact y xs q
 have e:i=xs.length:=by omega
 subst e;exact .inl ⟨Nat.le_refl _,hd σ H p⟩
theorem jG_ {K:Frag}{a:Addr}{g:TG}{tb:TS}{D:Ends}{σ:St}{H1:Hp} (xs:List V) (Pv:Nat->St->Hp->Prop) (h0:Pv 0 σ H1) (hl : ∀ i σ H,i<=xs.length->Pv i σ H->SqT K H a xs)
  (hs : ∀ i x σ H,xs.reverse[i]? = some x->Pv i σ H->g x σ H fun σ2 H2=>tb { D with nx:=Pv (i+1),ct:=Pv (i+1),bk:=D.nx } σ2 H2) (hd : ∀ σ H,Pv xs.length σ H->D.nx σ H):lS_ g tb D σ (Itw K a xs.length) H1:=by
 refine ⟨fun i m σ H=>m=xs.length - i/\i<=xs.length/\Pv i σ H,⟨xs.length,by simp,zero_le _,h0⟩,?_⟩
 rintro i m σ H ⟨rfl,hi,p⟩
 have q:=hl i σ H hi p;by_cases hlt:i<xs.length
 ·have hx:xs[xs.length - 1 - i]? = some xs[xs.length - 1 - i]:=getElem?_eq_getElem (by omega)
  refine .inr ⟨⟨hlt,xs,_,q,rfl,hx⟩,Pv (i+1),fun σ' H' p'=>⟨xs.length - (i+1),by omega,rfl,hlt,p'⟩,fun x H' y=>?_⟩;obtain ⟨e,y⟩:=y;subst e;refine hs i x σ _ ?_ p;rw [getElem?_reverse hlt];exact y xs q
 have e:i=xs.length:=by omega
 subst e;exact .inl ⟨Nat.le_refl _,hd σ H p⟩
theorem jH_ {K:Frag}{a:Addr}{g:TG}{tb:TS}{D:Ends}{σ:St}{H1:Hp} (xs:List V) (Pv:Nat->St->Hp->Prop) (h0:Pv 0 σ H1) (hl : ∀ i σ H,i<=xs.length->Pv i σ H->SqL K H a xs)
  (hs : ∀ i x σ H (T:Addr),xs[i]? = some x->Pv i σ H->H T=none->g (.ref T) σ (upd H T (.tup [.int (i:Nat),x])) fun σ2 H2=>tb { D with nx:=Pv (i+1),ct:=Pv (i+1),bk:=D.nx } σ2 H2) (hd : ∀ σ H,Pv xs.length σ H->D.nx σ H):lS_ g tb D σ (Ite K a) H1:=by
 refine ⟨fun i m σ H=>m=xs.length - i/\i<=xs.length/\Pv i σ H,⟨xs.length,by simp,zero_le _,h0⟩,?_⟩
 rintro i m σ H ⟨rfl,hi,p⟩
 have q:=hl i σ H hi p;by_cases hlt:i<xs.length
 ·have hx:xs[i]? = some xs[i]:=getElem?_eq_getElem hlt
  refine .inr ⟨⟨xs,_,q,hx⟩,Pv (i+1),fun σ' H' p'=>⟨xs.length - (i+1),by omega,rfl,hlt,p'⟩,fun v H' y=>?_⟩;refine x_23 y fun T x zr2 hT zr4 hy=>?_;subst zr2;subst zr4;exact hs i x σ H T (hy xs q) p hT
 have e:i=xs.length:=by omega
 subst e;exact .inl ⟨⟨xs,q,Nat.le_refl _⟩,hd σ H p⟩
def im_ (w:World) (p:Str×V) (e:DictEntry):Prop:=e.hash=PyData.keyHash w.params p.1/\(∃ t,e.key = .str p.1 t)/\RelV p.2 e.val
structure MDict (w:World) (K:Frag) (a:Addr) (tab:List (Str×V)):Prop where
 ex : ∃ (es:Array DictEntry) (ep:Nat),K.lookup a=some { cls := .type "dict",data := .dict es ep }/\Paired (im_ w) tab es.toList
 nd:(tab.map (·.1)).Nodup
 ns:(a == sysModules)=false
def tkv (tab:List (Str×V)):List (Key×V):=tab.map fun p=>(Sum.inr p.1,p.2)
def ch_ (tab:List (Str×V)) (x:Str):Option V:=(tab.find? fun p=>decide (p.1=x)).map (·.2)
theorem fP_ (x:Str) : ∀ tab:List (Str×V),valV (tkv tab) (Sum.inr x)=ch_ tab x
 | []=>rfl
 | p::r=>by
  have ih:=fP_ x r;show valV ((Sum.inr p.1,p.2)::tkv r) _=_;unfold ch_;by_cases h:p.1=x
  ·rw [bd_ (by rw [h]),find?_cons]
   simp [h]
  rw [be_ (fun e=>h (Sum.inr.inj e)),find?_cons,decide_eq_false h];exact ih
theorem fE_ {P:Program}{w:World} : ∀ {tab:List (Str×V)}{es:List DictEntry},Paired (im_ w) tab es->∃ vs:List (Key×Value),KV (tkv tab) vs/\Pairs (aI_ P w) es vs/\(∀ e∈es,∃ k,(aI_ P w).is k e.key=true/\e.hash=(aI_ P w).hash k)/\vs.map (·.1)=(tkv tab).map (·.1)
 | _,_,.nil=>⟨[],.nil,.nil,fun e he=>by simp at he,rfl⟩
 | p::tab,e::es,.cons ⟨h1,⟨t,h2⟩,h3⟩ r=>by
  refine x_13 (fE_ (P:=P) r) fun vs k1 k2 k3 k4=>?_;have hk:(aI_ P w).is (Sum.inr p.1) e.key=true:=by rw [h2];exact eP_ P w p.1 t
  refine ⟨(Sum.inr p.1,e.val)::vs,.cons ⟨rfl,h3⟩ k1,.cons hk rfl k2,fun e' he'=>?_,?_⟩
  ·rcases mem_cons.mp he' with z | z
   ·subst z
    exact ⟨Sum.inr p.1,hk,h1⟩
   exact k3 e' z
  show Sum.inr p.1::vs.map (·.1)=Sum.inr p.1::(tkv tab).map (·.1);rw [k4]
theorem g2_ : ∀ {l:List Str},l.Nodup->(l.map fun x=>(Sum.inr x:Key)).Nodup
 | [],_ => .nil
 | x::r,h=>by
  obtain ⟨h1,h2⟩:=nodup_cons.mp h;refine nodup_cons.mpr ⟨fun m=>?_,g2_ h2⟩;obtain ⟨y,hy,e⟩:=mem_map.mp m;exact h1 (Sum.inr.inj e ▸ hy)
theorem MDict.dictOf {P:Program}{w:World}{K:Frag}{a:Addr}{tab:List (Str×V)} (m:MDict w K a tab) {h:Heap} (X:K.In h) : ∃ vs:List (Key×Value),KV (tkv tab) vs/\h.DictOf (aI_ P w) a vs:=by
 refine x_21 m.ex fun es ep lk pr=>?_;refine x_13 (fE_ (P:=P) pr) fun vs k1 k2 k3 k4=>?_;refine ⟨vs,k1,_,es,ep,X _ _ lk,⟨rfl,rfl,rfl⟩,rfl,fun e he=>k3 e (Array.mem_toList_iff.mpr he),k2,?_⟩;rw [k4];unfold tkv;rw [map_map];have:=m.nd;have e:((·.1) ∘ fun (p:Str×V)=>((Sum.inr p.1:Key),p.2))=(fun x=>(Sum.inr x:Key)) ∘ (·.1):=rfl;rw [e,<- map_map];exact g2_ this
section
variable {X:Cx}{o i e f:Expr}{pos zt zn:Pos}{td ty tx:TE}
def nb_ (w:World) (K:Frag) (td ty:TE):TE:=fun σ H Q=>td σ H fun x H1=>ty σ H1 fun y H2=>∃ a tab z v,x = .ref a/\y = .str z/\MDict w K a tab/\ch_ tab z=some v/\Q v H2
def nX_ (w:World) (K:Frag) (ty td:TE):TE:=fun σ H Q=>ty σ H fun y H1=>td σ H1 fun x H2=>∃ a tab z,x = .ref a/\y = .str z/\MDict w K a tab/\Q (.bl (ch_ tab z).isSome) H2
def kc_ (w:World) (K:Frag) (td ty tx:TE):TE:=fun σ H Q=>td σ H fun x H1=>∃ a tab,x = .ref a/\MDict w K a tab/\ty σ H1 fun y H2=>tx σ H2 fun d H3=>∃ z,y = .str z/\Q ((ch_ tab z).getD d) H3
theorem mm_ (ho:PE X o td) (hi:PE X i ty) (hs:NoSl i:=by intro _ _;rfl):PE X (.Subscript o i pos) (nb_ X.w X.K td ty):=by
 intro zz s σ H Q I h;refine nZ_ PySem.F.slot_dict_getitem.lookup hs (thn (ho zz s σ H _ I h) fun u s1 ⟨x,H1,I1,rx,q1⟩=>thn (hi zz s1 σ H1 _ I1 q1) fun iv s2 zq=>?_);refine x_22 zq fun y H2 I2 ry zz0=>?_;refine x_40 zz0 fun a tab z v zy=>x_04 zy fun ex ey md hv q2=>?_;subst ex ey;obtain rfl:u=Value.ref a:=rx;obtain ⟨vs,rel,dd⟩:=md.dictOf (P:=X.prog) I2.kIn;refine ⟨dd.typeIs,?_⟩;obtain ⟨w',hw,rw'⟩:=RelO.some_of (v:=v) (o:=valueAt vs (Sum.inr z)) (by rw [<- hv,<- fP_];exact rel.val _);exact wpAny_getItem_of (jw_ (k:=Sum.inr z) ry) dd.mapOf hw ⟨v,H2,I2.tok _,rw',q2⟩
theorem om_ (hi:PE X i ty) (ho:PE X o td):PC X .In i o (nX_ X.w X.K ty td):=by
 intro zz s σ H Q I h;refine thn (hi zz s σ H _ I h) fun iv s1 ⟨y,H1,I1,ry,q1⟩=>thn (ho zz s1 σ H1 _ I1 q1) fun u s2 zq=>?_;refine x_22 zq fun x H2 I2 rx zz0=>?_;refine x_33 zz0 fun a tab z ex ey md q2=>?_;subst ex ey;obtain rfl:u=Value.ref a:=rx;obtain ⟨vs,rel,dd⟩:=md.dictOf (P:=X.prog) I2.kIn;refine wpAny_in_of (jw_ (k:=Sum.inr z) ry) md.ns dd.mapOf ?_;rw [<- (rel.val (Sum.inr z)).isSome_eq,fP_];exact ⟨.bl (ch_ tab z).isSome,H2,I2.tok _,rfl,q2⟩
theorem oe_ (hi:PE X i ty) (ho:PE X o td) (h1:behindInMarks .In o=false:=by rfl):PT X (.Compare i [.In] [o] pos) (tB (nX_ X.w X.K ty td)):=nr_ (om_ hi ho) h1
theorem kO_ (ho:PE X o td) (he:PE X e ty) (hf:PE X f tx) (m:M2 X o "get" zt e f zn):PE X (.Call (.Attribute o "get" zt) [e,f] [] zn) (kc_ X.w X.K td ty tx):=by
 intro zz s σ H Q I h;refine wpAny_Call_method m.base m.few m.line PySem.F.plainAttrs_dict slot_dict_get PySem.F.type_dict_get (thn (ho zz s σ H _ I h) fun u s1 zq=>?_);refine x_22 zq fun x H1 I1 rx zz0=>?_;refine x_22 zz0 fun a tab ex md q1=>?_;subst ex;obtain rfl:u=Value.ref a:=rx;obtain ⟨vs,rel,dd⟩:=md.dictOf (P:=X.prog) I1.kIn;refine ⟨dd.typeIs,fun b q=>?_,?_⟩
 ·cases q
  refine x_32 dd fun ob _ _ h1 h2 _=>?_;exact ⟨ob,h1,h2.2.1⟩
 rw [m.trees];refine Calls.callWith_builtin rfl (Calls.evalArgs_plain (Calls.spliced_cons (thn (he zz s1 σ H1 _ I1 q1) fun iv s2 ⟨y,H2,I2,ry,q2⟩=>Calls.spliced_cons (thn (hf zz s2 σ H2 _ I2 q2) fun fv s3 ⟨d,H3,I3,rd,z,ey,q3⟩=>Calls.spliced_nil ?_))));subst ey;obtain ⟨vs,rel,dd⟩:=md.dictOf (P:=X.prog) I3.kIn;refine call_meetsIn slot_dict_get dd.typeIs PySem.F.entry_dict_get (PySem.F.args_dict_get_3 _ _ _) (meets_dict_get_default (aI_ X.prog X.w) a (jw_ (k:=Sum.inr z) ry) md.ns fv) ⟨_,dd.mapOf,⟨_,H3,I3.tok _,?_,q3⟩⟩;rw [<- fP_];exact (rel.val (Sum.inr z)).getD rd
end
end L2
namespace M
open PySem PySem.Spec PyProof.Rows L2 TL
inductive Tr where
 | mk (form:List Nat) (words:List (List Nat)) (b e:Nat) (parts:List Tr)
noncomputable def Tr.form:Tr->List Nat
 | .mk f _ _ _ _=>f
noncomputable def Tr.words:Tr->List (List Nat)
 | .mk _ w _ _ _=>w
noncomputable def Tr.b:Tr->Nat
 | .mk _ _ b _ _=>b
noncomputable def Tr.e:Tr->Nat
 | .mk _ _ _ e _=>e
noncomputable def Tr.parts:Tr->List Tr
 | .mk _ _ _ _ p=>p
noncomputable def a4_ (f:Str) (w p:Addr) (b e:Int):List (Str×V):=[("form",.str f),("words",.ref w),("parts",.ref p),("begin",.int b),("end",.int e)]
mutual
inductive TreeAt (Cn:Addr) (H:Hp):Addr->Tr->List Addr->Prop
 | mk {a dx w p:Addr}{f:List Nat}{ws:List (List Nat)}{b e:Nat}{as:List Addr}{ps:List Tr}{F:List Addr} :
   H a=some (.ins Cn dx (a4_ (S f) w p (b:Int) (e:Int)))->H w=some (.lst ((ws.map S).map V.str))->H p=some (.lst (as.map V.ref))->TreesAt Cn H as ps F->TreeAt Cn H a (.mk f ws b e ps) (a::w::p::F)
inductive TreesAt (Cn:Addr) (H:Hp):List Addr->List Tr->List Addr->Prop
 | nil:TreesAt Cn H [] [] []
 | cons {a:Addr}{t:Tr}{F G:List Addr}{as:List Addr}{ts:List Tr}:TreeAt Cn H a t F->TreesAt Cn H as ts G->TreesAt Cn H (a::as) (t::ts) (F++G)
end
theorem gD_ {Cn:Addr}{H H':Hp}:(∀ {a:Addr}{t:Tr}{F:List Addr},TreeAt Cn H a t F->(∀ b∈F,∀ o,H b=some o->H' b=some o)->TreeAt Cn H' a t F)/\∀ {as:List Addr}{ts:List Tr}{F:List Addr},TreesAt Cn H as ts F->(∀ b∈F,∀ o,H b=some o->H' b=some o)->TreesAt Cn H' as ts F:=by
 refine ⟨fun h=>TreeAt.rec (motive_1:=fun a t F _=>(∀ b∈F,∀ o,H b=some o->H' b=some o)->TreeAt Cn H' a t F) (motive_2:=fun as ts F _=>(∀ b∈F,∀ o,H b=some o->H' b=some o)->TreesAt Cn H' as ts F) ?_ ?_ ?_ h,fun h=>TreesAt.rec (motive_1:=fun a t F _=>(∀ b∈F,∀ o,H b=some o->H' b=some o)->TreeAt Cn H' a t F) (motive_2:=fun as ts F _=>(∀ b∈F,∀ o,H b=some o->H' b=some o)->TreesAt Cn H' as ts F) ?_ ?_ ?_ h⟩
 all_goals first
  | exact fun h1 h2 h3 _ ih k => .mk (k _ (by simp) _ h1) (k _ (by simp) _ h2) (k _ (by simp) _ h3) (ih fun b hb=>k b (by simp [hb]))
  | exact fun _ => .nil
  | exact fun _ _ i1 i2 k => .cons (i1 fun b hb=>k b (mem_append_left _ hb)) (i2 fun b hb=>k b (mem_append_right _ hb))
theorem TreeAt.keep {Cn:Addr}{H H':Hp}{a:Addr}{t:Tr}{F:List Addr} (h:TreeAt Cn H a t F) (k : ∀ b∈F,∀ o,H b=some o->H' b=some o):TreeAt Cn H' a t F:=gD_.1 h k
theorem TreesAt.keep {Cn:Addr}{H H':Hp}{as:List Addr}{ts:List Tr}{F:List Addr} (h:TreesAt Cn H as ts F) (k : ∀ b∈F,∀ o,H b=some o->H' b=some o):TreesAt Cn H' as ts F:=gD_.2 h k
theorem j6_ {Cn:Addr}{H:Hp}:(∀ {a:Addr}{t:Tr}{F:List Addr},TreeAt Cn H a t F->∀ b∈F,∃ o,H b=some o)/\∀ {as:List Addr}{ts:List Tr}{F:List Addr},TreesAt Cn H as ts F->∀ b∈F,∃ o,H b=some o:=by
 refine ⟨fun h=>TreeAt.rec (motive_1:=fun _ _ F _=>∀ b∈F,∃ o,H b=some o) (motive_2:=fun _ _ F _=>∀ b∈F,∃ o,H b=some o) ?_ ?_ ?_ h,fun h=>TreesAt.rec (motive_1:=fun _ _ F _=>∀ b∈F,∃ o,H b=some o) (motive_2:=fun _ _ F _=>∀ b∈F,∃ o,H b=some o) ?_ ?_ ?_ h⟩
 all_goals first
  | exact fun h1 h2 h3 _ ih b hb=>(by simp only [mem_cons] at hb;rcases hb with rfl | rfl | rfl | hb;exact ⟨_,h1⟩;exact ⟨_,h2⟩;exact ⟨_,h3⟩;exact ih b hb)
  | exact fun _ _ i1 i2 b hb=>(mem_append.mp hb).elim (i1 b) (i2 b)
  | exact fun _ hb=>absurd hb (not_mem_nil)
theorem TreesAt.here {Cn:Addr}{H:Hp}{as:List Addr}{ts:List Tr}{F:List Addr} (h:TreesAt Cn H as ts F) : ∀ b∈F,∃ o,H b=some o:=j6_.2 h
theorem TreeAt.same {Cn:Addr}{H H':Hp}{a:Addr}{t:Tr}{F:List Addr} (h:TreeAt Cn H a t F) (s:Same H H'):TreeAt Cn H' a t F:=h.keep fun b _ o e=>s b o e
theorem TreesAt.snoc {Cn:Addr}{H:Hp}{as:List Addr}{ts:List Tr}{F:List Addr}{a:Addr}{t:Tr}{G:List Addr} (h:TreesAt Cn H as ts F) (q:TreeAt Cn H a t G):TreesAt Cn H (as++[a]) (ts++[t]) (F++G):=by
 refine TreesAt.rec (motive_1:=fun _ _ _ _=>True) (motive_2:=fun as ts F _=>TreesAt Cn H (as++[a]) (ts++[t]) (F++G)) (fun _ _ _ _ _=>trivial) ?_ (fun h1 _ _ ih=>?_) h
 ·have:=TreesAt.cons q .nil
  rw [append_nil] at this;exact this
 have:=TreesAt.cons h1 ih;rw [<- append_assoc] at this;exact this
theorem TreesAt.length {Cn:Addr}{H:Hp}{as:List Addr}{ts:List Tr}{F:List Addr} (h:TreesAt Cn H as ts F):as.length=ts.length :=
 TreesAt.rec (motive_1:=fun _ _ _ _=>True) (motive_2:=fun as ts _ _=>as.length=ts.length) (fun _ _ _ _ _=>trivial) rfl (fun _ _ _ ih=>congrArg (· + 1) ih) h
noncomputable def bv_:Leaf->String
 | .name _=>"name"
 | .num _=>"number"
 | .truth b=>if b=true then "true" else "false"
 | .nil=>"nil"
def dt_:Leaf->List (List Nat)
 | .name x=>[x]
 | .num v=>[shownLit v]
 | _=>[]
noncomputable def bb_:Term->List Nat
 | .leaf l=>Vaunid.txt (bv_ l)
 | .one o _=>Vaunid.txt (dL_ o).word
 | .two o _ _=>Vaunid.txt (bp_ o).word
 | .three o _ _ _=>Vaunid.txt (match o with | .cond=>Fm.if_.word | .fold=>Fm.fold.word)
 | .fn _ _=>Vaunid.txt Fm.fn.word
 | .rec_ _ _ _=>Vaunid.txt Fm.rec_.word
 | .let_ _ _ _=>Vaunid.txt Fm.let_.word
 | .case _ _ _ _ _=>Vaunid.txt Fm.case.word
noncomputable def az_:Term->List (List Nat)
 | .leaf l=>dt_ l
 | .one (.pow n) _=>[decimalInt n]
 | .fn x _=>[x]
 | .rec_ f x _=>[f,x]
 | .let_ x _ _=>[x]
 | .case _ _ h t _=>[h,t]
 | _=>[]
noncomputable def aV_:Term->List Term
 | .leaf _=>[]
 | .one _ a=>[a]
 | .two _ a b=>[a,b]
 | .three _ a b c=>[a,b,c]
 | .fn _ a=>[a]
 | .rec_ _ _ a=>[a]
 | .let_ _ a b=>[a,b]
 | .case l a _ _ b=>[l,a,b]
mutual
inductive Rep:Term->Tr->Prop
 | mk {t:Term}{b e:Nat}{ps:List Tr}:Reps (aV_ t) ps->Rep t (.mk (bb_ t) (az_ t) b e ps)
inductive Reps:List Term->List Tr->Prop
 | nil:Reps [] []
 | cons {t:Term}{r:Tr}{ts:List Term}{rs:List Tr}:Rep t r->Reps ts rs->Reps (t::ts) (r::rs)
end
mutual
noncomputable def cB_:Tr->List Nat
 | .mk _ _ b _ ps=>b::cA_ ps
noncomputable def cA_:List Tr->List Nat
 | []=>[]
 | t::r=>cB_ t++cA_ r
end
noncomputable def il_:List Fm:=[.fn,.rec_,.let_,.if_,.app,.pair,.fst,.snd,.cons,.case,.fold,.plus,.minus,.times,.over,.less,.equal,.floor,.rest,.root,.pow]
noncomputable def Fm.kt:Fm->List String
 | .fn=>["name","body"] | .rec_=>["name","name","body"] | .let_=>["name","part","body"] | .if_=>["part","part","part"] | .app=>["part","part"] | .pair=>["part","part"] | .fst=>["part"] | .snd=>["part"] | .cons=>["part","part"]
 | .case=>["part","part","name","name","body"] | .fold=>["part","part","part"] | .plus=>["part","part"] | .minus=>["part","part"] | .times=>["part","part"] | .over=>["part","part"] | .less=>["part","part"] | .equal=>["part","part"]
 | .floor=>["part","part"] | .rest=>["part","part"] | .root=>["part"] | .pow=>["part","power"]
noncomputable def bn_ (ad:Fm->Addr):List (Str×V):=[("fn",.ref (ad .fn)),("rec",.ref (ad .rec_)),("let",.ref (ad .let_)),("if",.ref (ad .if_)),("apply",.ref (ad .app)),("pair",.ref (ad .pair)),("fst",.ref (ad .fst)),("snd",.ref (ad .snd)),("cons",.ref (ad .cons)),("case",.ref (ad .case)),("fold",.ref (ad .fold)),
 ("+",.ref (ad .plus)),("-",.ref (ad .minus)),("*",.ref (ad .times)),("/",.ref (ad .over)),("<",.ref (ad .less)),("=",.ref (ad .equal)),("floor",.ref (ad .floor)),("rest",.ref (ad .rest)),("root",.ref (ad .root)),("^",.ref (ad .pow))]
theorem mL_ {ad:Fm->Addr}:((bn_ ad).map (·.1)).Nodup:=by
 have e:(bn_ ad).map (·.1)=il_.map fun f=>ofString f.word:=rfl;rw [e]
 left
theorem hh_ (ad:Fm->Addr) (f:Fm):ch_ (bn_ ad) (ofString f.word)=some (.ref (ad f)):=by
 cases f <;> rfl
noncomputable def d2_ (x:List Nat):Bool:=il_.any fun f=>Vaunid.txt f.word == x
theorem i0_ {A:Type} (p:A->Bool) : ∀ l:List A,(l.find? p).isSome=l.any p
 | []=>rfl
 | x::r=>by
  rw [find?_cons,any_cons,<- i0_ p r];cases p x <;> rfl
theorem fA_ (ad:Fm->Addr) (x:List Nat):(ch_ (bn_ ad) (S x)).isSome=d2_ x:=by
 unfold ch_ d2_;rw [Option.isSome_map,i0_];have e2:(bn_ ad).any (fun p=>decide (p.1=S x))=((bn_ ad).map (·.1)).any fun s=>decide (s=S x):=by rw [any_map];rfl
 rw [e2,show (bn_ ad).map (·.1)=il_.map fun f=>ofString f.word from rfl,any_map];congr 1
 funext f
 show decide (ofString f.word=S x)=_;rw [aF_,Bool.eq_iff_iff];simp only [decide_eq_true_eq,beq_iff_eq,cl_]
open Vaunid (Token txt word sign)
inductive SK where
 | n | p (body:Bool) | pw
 deriving DecidableEq
noncomputable def SK.w:SK->String
 | .n=>"name" | .p false=>"part" | .p true=>"body" | .pw=>"power"
def SK.k:SK->Kind
 | .n => .name | .p _ => .part | .pw => .power
noncomputable def Fm.sk:Fm->List SK
 | .fn=>[.n,.p true] | .rec_=>[.n,.n,.p true] | .let_=>[.n,.p false,.p true] | .if_=>[.p false,.p false,.p false] | .app=>[.p false,.p false] | .pair=>[.p false,.p false] | .fst=>[.p false] | .snd=>[.p false] | .cons=>[.p false,.p false]
 | .case=>[.p false,.p false,.n,.n,.p true] | .fold=>[.p false,.p false,.p false] | .plus=>[.p false,.p false] | .minus=>[.p false,.p false] | .times=>[.p false,.p false] | .over=>[.p false,.p false] | .less=>[.p false,.p false] | .equal=>[.p false,.p false]
 | .floor=>[.p false,.p false] | .rest=>[.p false,.p false] | .root=>[.p false] | .pow=>[.p false,.pw]
theorem n4_ (f:Fm):f.sk.map SK.w=f.kt:=by cases f <;> rfl
theorem l7_ (f:Fm):f.sk.map SK.k=f.kinds:=by cases f <;> rfl
structure PF where
 form:List Nat
 ws:List (List Nat)
 b:Nat
 ts:List Tr
 ks:List SK
 c:String
 d:Nat
structure MS where
 fs:List PF
 l:Toks
 res:List Tr
noncomputable def sent (hl:Nat):Token:={ tok := .sign (txt "end"),start:=hl,halt_:=hl }
noncomputable def g7_ (t:Token) (x:Leaf):Tr := .mk (txt (bv_ x)) (dt_ x) t.start t.halt_ []
noncomputable def fh_:Vaunid.Tok->List Nat
 | .word w=>w
 | _=>[]
def h3_:Vaunid.Tok->List Nat
 | .num v _=>shownLit v
 | _=>[]
noncomputable def PF.done (pf:PF) (e:Nat):Tr := .mk pf.form pf.ws pf.b e pf.ts
noncomputable def dY_ (b d:Nat) (l:Toks):PF:={ form:=txt (an_ l).1.word,ws:=[],b:=b,ts:=[],ks:=(an_ l).1.sk,c:=")",d:=d }
noncomputable def b8_:MS->Option (Res MS)
 | ⟨pf::fs,t::l,res⟩=>match pf.ks with
  | []=>some (if kindOf t.tok=txt pf.c then (match fs with
    | [] => .ok ⟨[],l,[pf.done t.halt_]⟩
    | g::fs => .ok ⟨{ g with ts:=g.ts++[pf.done t.halt_] }::fs,l,res⟩) else fault 6 t.start)
  | .p _::ks =>
   if pf.d=40 then some (fault 8 t.start)
   else if kindOf t.tok=txt "(" then (if l.isEmpty=true then none else some (.ok ⟨dY_ t.start (pf.d+1) l::{ pf with ks:=ks }::fs,(an_ l).2,res⟩))
   else match Vaunid.leafOf t.tok with
    | some x=>some (.ok ⟨{ pf with ks:=ks,ts:=pf.ts++[g7_ t x] }::fs,l,res⟩)
    | none=>some (fault 6 t.start)
  | .n::ks=>some (if kindOf t.tok=txt "name" then .ok ⟨{ pf with ks:=ks,ws:=pf.ws++[fh_ t.tok] }::fs,l,res⟩ else fault 6 t.start)
  | .pw::ks=>some (if kindOf t.tok=txt "digit" then .ok ⟨{ pf with ks:=ks,ws:=pf.ws++[h3_ t.tok] }::fs,l,res⟩ else fault 6 t.start)
 | _=>none
inductive Run:MS->Res Tr->Nat->Prop
 | done {l:Toks}{tr:Tr}:Run ⟨[],l,[tr]⟩ (.ok tr) 0
 | bad {s:MS}{e:Vaunid.Fault}:b8_ s=some (.error e)->Run s (.error e) 1
 | go {s s':MS}{R:Res Tr}{n:Nat}:b8_ s=some (.ok s')->Run s' R n->Run s R (n+1)
def Goes (s s':MS):Prop:=∀ R n,Run s' R n->∃ m,Run s R m
theorem Goes.refl (s:MS):Goes s s:=fun R n h=>⟨n,h⟩
theorem Goes.trans {a b c:MS} (h:Goes a b) (g:Goes b c):Goes a c:=fun R n r=>let ⟨m,q⟩:=g R n r;h R m q
theorem Goes.one {s s':MS} (h:b8_ s=some (.ok s')):Goes s s':=fun R n r=>⟨n+1,.go h r⟩
def Dl (c:Nat):Prop:=c≠32/\c≠41
def NoD (w:List Nat):Prop:=∀ c∈w,Dl c
def aU_:Vaunid.Tok->Prop
 | .word w=>Vaunid.isWord w=true/\w.length<=12
 | .num v d=>(∀ m,v.measure=some m->m≠[]/\m.length<=10000)/\v.top.natAbs<10 ^ 12/\v.low<10 ^ 12/\(∀ n,d=some n->v=⟨n,1,none⟩)/\∀ m,v.measure=some m->NoD m
 | .sign s=>s∈coreSigns\/s=txt "end"
theorem du_ {k:Vaunid.Tok} (g:aU_ k):kindOf k=txt "name"↔∃ w,k = .word w/\isName w=true:=by
 cases k with
 | word w =>
  simp only [kindOf];by_cases h:isTaken w=true
  ·rw [if_pos h]
   constructor
   ·intro e
    subst e;exact absurd h (by left)
   rintro ⟨w',e,q⟩
   cases e;unfold isName at q;rw [h] at q;simp at q
  rw [if_neg h];refine ⟨fun _=>⟨w,rfl,?_⟩,fun _=>rfl⟩;unfold isName;rw [g.1,Bool.eq_false_iff.mpr h];simp only [MOSTSIGNS,Bool.not_false,Bool.and_true,Bool.true_and];exact decide_eq_true g.2
 | num v d =>
  constructor
  ·intro e
   simp only [kindOf] at e;split at e
   ·exact absurd e (by left)
   exact absurd e (by left)
  rintro ⟨w,e,_⟩;cases e
 | sign s =>
 constructor
 ·intro e
  have e:s=txt "name":=e;subst e;rcases g with q | q
  ·exact absurd q (by left)
  exact absurd q (by left)
 rintro ⟨w,e,_⟩;cases e
theorem dR_ {k:Vaunid.Tok} (g:aU_ k):kindOf k=txt "digit"↔∃ v n,k = .num v (some n):=by
 cases k with
 | word w =>
  simp only [kindOf]
  constructor
  ·intro e
   split at e
   ·rename_i h
    subst e;exact absurd h (by left)
   exact absurd e (by left)
  rintro ⟨v,n,e⟩;cases e
 | num v d =>
  simp only [kindOf];cases d with
  | none=>exact ⟨fun e=>absurd e (by left),fun ⟨_,_,e⟩=>by cases e⟩
  | some n=>exact ⟨fun _=>⟨v,n,rfl⟩,fun _=>rfl⟩
 | sign s =>
 constructor
 ·intro e
  have e:s=txt "digit":=e;subst e;rcases g with q | q
  ·exact absurd q (by left)
  exact absurd q (by left)
 rintro ⟨v,n,e⟩;cases e
theorem eY_ {k:Vaunid.Tok} (g:aU_ k) {x:String} (h:isTaken (txt x)=false) (h1 : ¬ txt "name"=txt x) (h2 : ¬ txt "digit"=txt x) (h3 : ¬ txt "number"=txt x):kindOf k=txt x↔k=sign x:=by
 cases k with
 | word w =>
  simp only [kindOf]
  constructor
  ·intro e
   split at e
   ·rename_i q
    subst e;rw [h] at q;cases q
   exact absurd e h1
  intro e;cases e
 | num v d =>
  simp only [kindOf]
  constructor
  ·intro e
   split at e
   ·exact absurd e h2
   exact absurd e h3
  intro e;cases e
 | sign s=>exact ⟨fun e=>by show Vaunid.Tok.sign s=Vaunid.Tok.sign _;rw [show s=txt x from e],fun e=>by cases e;rfl⟩
theorem eZ_ {k:Vaunid.Tok} (g:aU_ k):kindOf k=txt "("↔k=sign "(":=eY_ g (by left) (by left) (by left) (by left)
theorem jC_ {k:Vaunid.Tok} (g:aU_ k):kindOf k=txt ")"↔k=sign ")":=eY_ g (by left) (by left) (by left) (by left)
theorem mI_ {k:Vaunid.Tok} (g:aU_ k):kindOf k=txt "end"↔k=sign "end":=eY_ g (by left) (by left) (by left) (by left)
noncomputable def Fm.tok:Fm->Vaunid.Tok
 | .plus=>sign "+" | .minus=>sign "-" | .times=>sign "*" | .over=>sign "/" | .less=>sign "<" | .equal=>sign "=" | .pow=>sign "^"
 | f=>Vaunid.word f.word
theorem aX_ {α:Type} (F:α->Fm) {k t:Vaunid.Tok}{a o:α}{r:Option α} (h:(if k=t then some a else r)=some o) (e:t=(F a).tok) (n:r=some o->k=(F o).tok):k=(F o).tok:=by
 by_cases q:k=t
 ·rw [if_pos q] at h;cases h;exact q.trans e
 rw [if_neg q] at h;exact n h
theorem oQ_ {k:Vaunid.Tok}{f:Fm} (h:fmOf k=some f):k=f.tok:=by
 unfold fmOf at h;refine aX_ id h rfl fun h=>aX_ id h rfl fun h=>aX_ id h rfl fun h=>aX_ id h rfl fun h=>aX_ id h rfl fun h=>?_;cases e1:formOne k with
 | some o =>
  rw [e1] at h;cases h;revert e1;exact fun h=>aX_ dL_ h rfl fun h=>aX_ dL_ h rfl fun h=>aX_ dL_ h rfl fun h=>by cases h
 | none =>
 rw [e1] at h;cases e2:formTwo k with
 | some o =>
  rw [e2] at h;cases h;revert e2;exact fun h=>aX_ bp_ h rfl fun h=>aX_ bp_ h rfl fun h=>aX_ bp_ h rfl fun h=>aX_ bp_ h rfl fun h=>aX_ bp_ h rfl fun h=>aX_ bp_ h rfl fun h=>aX_ bp_ h rfl fun h=>aX_ bp_ h rfl fun h=>aX_ bp_ h rfl fun h=>aX_ bp_ h rfl fun h=>by cases h
 | none =>
 rw [e2] at h;cases e3:formThree k with
 | some o =>
  rw [e3] at h;cases h;revert e3;exact fun h=>aX_ (fun o=>match o with | .cond => .if_ | .fold => .fold) h rfl fun h=>aX_ (fun o=>match o with | .cond => .if_ | .fold => .fold) h rfl fun h=>by cases h
 | none=>rw [e3] at h;cases h
theorem lp_ {k:Vaunid.Tok}{f:Fm} (h:fmOf k=some f):kindOf k=txt f.word:=by
 have e:=oQ_ h;rw [e];rw [e] at h;cases f <;> first | (left) | exact absurd h (by left)
theorem jy_ (x:List Nat):d2_ x=true↔∃ f∈il_,txt f.word=x:=by
 unfold d2_;rw [any_eq_true];simp only [beq_iff_eq]
theorem jI_ : ∀ f∈il_,isTaken (txt f.word)=true->fmOf (word f.word)=some f:=by
 intro f hf;cases f <;> first | (intro _;left) | (intro h;exact absurd h (by left))
theorem dU_ : ∀ f∈il_,¬ txt f.word=txt "name"/\¬ txt f.word=txt "digit"/\¬ txt f.word=txt "number":=by
 intro f hf;cases f <;> left
theorem jJ_ : ∀ f∈il_,(txt f.word∈coreSigns\/txt f.word=txt "end")->fmOf (sign f.word)=some f:=by
 intro f hf;cases f <;> first | (intro _;left) | (intro h;exact absurd h (by left))
theorem lj_ {k:Vaunid.Tok} (g:aU_ k):d2_ (kindOf k)=(fmOf k).isSome:=by
 rw [Bool.eq_iff_iff,jy_]
 constructor
 ·rintro ⟨f,hf,e⟩
  cases k with
  | word w =>
   simp only [kindOf] at e;split at e
   ·rename_i q
    rw [<- e] at q;have:=jI_ f hf q;have e2:Vaunid.Tok.word w=word f.word:=by show _=Vaunid.Tok.word _;rw [e]
    rw [e2,this];rfl
   exact absurd e (dU_ f hf).1
  | num v d =>
   simp only [kindOf] at e;split at e
   ·exact absurd e (dU_ f hf).2.1
   exact absurd e (dU_ f hf).2.2
  | sign s =>
  have e:txt f.word=s:=e;have g:s∈coreSigns\/s=txt "end":=g;rw [<- e] at g;have:=jJ_ f hf g;have e2:Vaunid.Tok.sign s=sign f.word:=by show _=Vaunid.Tok.sign _;rw [e]
  rw [e2,this];rfl
 intro h;cases q:fmOf k with
 | none=>rw [q] at h;cases h
 | some f=>exact ⟨f,by cases f <;> decide,(lp_ q).symm⟩
mutual
noncomputable def h6_:Tr->Nat
 | .mk _ _ _ _ ps=>1+h7_ ps
noncomputable def h7_:List Tr->Nat
 | []=>0
 | t::r=>max (h6_ t) (h7_ r)
end
def iK_:List Item->List Term
 | []=>[]
 | .p t _::r=>t::iK_ r
 | _::r=>iK_ r
noncomputable def et_:List Item->List (List Nat)
 | []=>[]
 | .w x::r=>x::et_ r
 | .n m::r=>decimalInt m::et_ r
 | .p _ _::r=>et_ r
inductive ItemsOk:List Kind->List Item->Prop
 | nil:ItemsOk [] []
 | name {x:List Nat}{ks:List Kind}{is:List Item}:ItemsOk ks is->ItemsOk (.name::ks) (.w x::is)
 | part {t:Term}{l:List Nat}{ks:List Kind}{is:List Item}:ItemsOk ks is->ItemsOk (.part::ks) (.p t l::is)
 | power {m:Int}{ks:List Kind}{is:List Item}:ItemsOk ks is->ItemsOk (.power::ks) (.n m::is)
theorem jA_ {ks:List Kind}{is:List Item} (h:ItemsOk (.name::ks) is) : ∃ x r,is = .w x::r/\ItemsOk ks r:=by
 cases h with
 | name h=>exact ⟨_,_,rfl,h⟩
theorem a1_ {ks:List Kind}{is:List Item} (h:ItemsOk (.part::ks) is) : ∃ t l r,is = .p t l::r/\ItemsOk ks r:=by
 cases h with
 | part h=>exact ⟨_,_,_,rfl,h⟩
theorem qv_ {ks:List Kind}{is:List Item} (h:ItemsOk (.power::ks) is) : ∃ m r,is = .n m::r/\ItemsOk ks r:=by
 cases h with
 | power h=>exact ⟨_,_,rfl,h⟩
theorem bP_ {is:List Item} (h:ItemsOk [] is):is=[]:=by
 cases h;rfl
theorem mE_ (f:Fm) (is:List Item) (h:ItemsOk f.kinds is):bb_ (f.mk is)=txt f.word/\az_ (f.mk is)=et_ is/\aV_ (f.mk is)=iK_ is:=by
 cases f with
 | fn=>obtain ⟨x0,i0,rfl,g0⟩:=jA_ h;obtain ⟨t1,l1,i1,rfl,g1⟩:=a1_ g0;cases bP_ g1;exact ⟨rfl,rfl,rfl⟩
 | rec_=>obtain ⟨x0,i0,rfl,g0⟩:=jA_ h;obtain ⟨x1,i1,rfl,g1⟩:=jA_ g0;obtain ⟨t2,l2,i2,rfl,g2⟩:=a1_ g1;cases bP_ g2;exact ⟨rfl,rfl,rfl⟩
 | let_=>obtain ⟨x0,i0,rfl,g0⟩:=jA_ h;obtain ⟨t1,l1,i1,rfl,g1⟩:=a1_ g0;obtain ⟨t2,l2,i2,rfl,g2⟩:=a1_ g1;cases bP_ g2;exact ⟨rfl,rfl,rfl⟩
 | if_=>obtain ⟨t0,l0,i0,rfl,g0⟩:=a1_ h;obtain ⟨t1,l1,i1,rfl,g1⟩:=a1_ g0;obtain ⟨t2,l2,i2,rfl,g2⟩:=a1_ g1;cases bP_ g2;exact ⟨rfl,rfl,rfl⟩
 | app=>obtain ⟨t0,l0,i0,rfl,g0⟩:=a1_ h;obtain ⟨t1,l1,i1,rfl,g1⟩:=a1_ g0;cases bP_ g1;exact ⟨rfl,rfl,rfl⟩
 | pair=>obtain ⟨t0,l0,i0,rfl,g0⟩:=a1_ h;obtain ⟨t1,l1,i1,rfl,g1⟩:=a1_ g0;cases bP_ g1;exact ⟨rfl,rfl,rfl⟩
 | fst=>obtain ⟨t0,l0,i0,rfl,g0⟩:=a1_ h;cases bP_ g0;exact ⟨rfl,rfl,rfl⟩
 | snd=>obtain ⟨t0,l0,i0,rfl,g0⟩:=a1_ h;cases bP_ g0;exact ⟨rfl,rfl,rfl⟩
 | cons=>obtain ⟨t0,l0,i0,rfl,g0⟩:=a1_ h;obtain ⟨t1,l1,i1,rfl,g1⟩:=a1_ g0;cases bP_ g1;exact ⟨rfl,rfl,rfl⟩
 | case=>obtain ⟨t0,l0,i0,rfl,g0⟩:=a1_ h;obtain ⟨t1,l1,i1,rfl,g1⟩:=a1_ g0;obtain ⟨x2,i2,rfl,g2⟩:=jA_ g1;obtain ⟨x3,i3,rfl,g3⟩:=jA_ g2;obtain ⟨t4,l4,i4,rfl,g4⟩:=a1_ g3;cases bP_ g4;exact ⟨rfl,rfl,rfl⟩
 | fold=>obtain ⟨t0,l0,i0,rfl,g0⟩:=a1_ h;obtain ⟨t1,l1,i1,rfl,g1⟩:=a1_ g0;obtain ⟨t2,l2,i2,rfl,g2⟩:=a1_ g1;cases bP_ g2;exact ⟨rfl,rfl,rfl⟩
 | plus=>obtain ⟨t0,l0,i0,rfl,g0⟩:=a1_ h;obtain ⟨t1,l1,i1,rfl,g1⟩:=a1_ g0;cases bP_ g1;exact ⟨rfl,rfl,rfl⟩
 | minus=>obtain ⟨t0,l0,i0,rfl,g0⟩:=a1_ h;obtain ⟨t1,l1,i1,rfl,g1⟩:=a1_ g0;cases bP_ g1;exact ⟨rfl,rfl,rfl⟩
 | times=>obtain ⟨t0,l0,i0,rfl,g0⟩:=a1_ h;obtain ⟨t1,l1,i1,rfl,g1⟩:=a1_ g0;cases bP_ g1;exact ⟨rfl,rfl,rfl⟩
 | over=>obtain ⟨t0,l0,i0,rfl,g0⟩:=a1_ h;obtain ⟨t1,l1,i1,rfl,g1⟩:=a1_ g0;cases bP_ g1;exact ⟨rfl,rfl,rfl⟩
 | less=>obtain ⟨t0,l0,i0,rfl,g0⟩:=a1_ h;obtain ⟨t1,l1,i1,rfl,g1⟩:=a1_ g0;cases bP_ g1;exact ⟨rfl,rfl,rfl⟩
 | equal=>obtain ⟨t0,l0,i0,rfl,g0⟩:=a1_ h;obtain ⟨t1,l1,i1,rfl,g1⟩:=a1_ g0;cases bP_ g1;exact ⟨rfl,rfl,rfl⟩
 | floor=>obtain ⟨t0,l0,i0,rfl,g0⟩:=a1_ h;obtain ⟨t1,l1,i1,rfl,g1⟩:=a1_ g0;cases bP_ g1;exact ⟨rfl,rfl,rfl⟩
 | rest=>obtain ⟨t0,l0,i0,rfl,g0⟩:=a1_ h;obtain ⟨t1,l1,i1,rfl,g1⟩:=a1_ g0;cases bP_ g1;exact ⟨rfl,rfl,rfl⟩
 | root=>obtain ⟨t0,l0,i0,rfl,g0⟩:=a1_ h;cases bP_ g0;exact ⟨rfl,rfl,rfl⟩
 | pow=>obtain ⟨t0,l0,i0,rfl,g0⟩:=a1_ h;obtain ⟨m,i1,rfl,g1⟩:=qv_ g0;cases bP_ g1;exact ⟨rfl,rfl,rfl⟩
theorem hE_ (n:Int):shownLit ⟨n,1,none⟩=decimalInt n:=by
 unfold shownLit;simp
theorem hv_ {hl:Nat}{t:Token}{l:Toks} (g:aU_ t.tok):wantName hl (t::l)=if kindOf t.tok=txt "name" then .ok (fh_ t.tok,l) else fault 6 t.start:=by
 have q:=du_ g;obtain ⟨k,s,h⟩:=t;cases k with
 | word w =>
  by_cases e:kindOf (.word w)=txt "name"
  ·obtain ⟨w',e1,e2⟩:=q.mp e
   cases e1;rw [if_pos e];show (if isName w=true then _ else _)=_;rw [if_pos e2];rfl
  have : ¬ isName w=true:=fun z=>e (q.mpr ⟨w,rfl,z⟩);rw [if_neg e];show (if isName w=true then _ else _)=_;rw [if_neg this]
 | num v d =>
  rw [if_neg fun e=>by obtain ⟨_,z,_⟩:=q.mp e;cases z];rfl
 | sign x =>
 rw [if_neg fun e=>by obtain ⟨_,z,_⟩:=q.mp e;cases z];rfl
theorem gx_ {hl:Nat}{t:Token}{l:Toks} (g:aU_ t.tok) (e:kindOf t.tok=txt "digit") : ∃ n,wantDigit hl (t::l) = .ok (n,l)/\h3_ t.tok=decimalInt n:=by
 obtain ⟨v,n,z⟩:=(dR_ g).mp e;obtain ⟨k,s,h⟩:=t;dsimp only at z g;subst z;have:=g.2.2.2.1 n rfl;subst this;exact ⟨n,rfl,hE_ n⟩
theorem gy_ {hl:Nat}{t:Token}{l:Toks} (g:aU_ t.tok) (e : ¬ kindOf t.tok=txt "digit"):wantDigit hl (t::l)=fault 6 t.start:=by
 have q:=dR_ g;obtain ⟨k,s,h⟩:=t;cases k with
 | word w=>rfl
 | num v d =>
  cases d with
  | none=>rfl
  | some n=>exact absurd (q.mpr ⟨v,n,rfl⟩) e
 | sign x=>rfl
theorem nQ_ {hl:Nat}{x:String}{t:Token}{l:Toks} (h:kindOf t.tok=txt x↔t.tok=sign x):want hl (sign x) (t::l)=if kindOf t.tok=txt x then .ok l else fault 6 t.start:=by
 show (if t.tok=sign x then _ else _)=_;by_cases e:t.tok=sign x
 ·rw [if_pos e,if_pos (h.mpr e)]
 rw [if_neg e,if_neg fun z=>e (h.mp z)]
theorem li_ (hl:Nat):aU_ (sent hl).tok := .inr rfl
def bj_ (l:Toks):Prop:=∀ k∈l,aU_ k.tok
theorem bj_.suf {p r:Toks} (h:bj_ (p++r)):bj_ r:=fun k hk=>h k (mem_append_right _ hk)
theorem bj_.sent {l:Toks} (h:bj_ l) (hl:Nat):bj_ (l++[sent hl]):=fun k hk=>by
 rcases mem_append.mp hk with q | q
 ·exact h k q
 rw [mem_singleton.mp q];exact li_ hl
def nK_ (hl d:Nat) (ts:Toks):Prop:=∀ (form:List Nat) (ws:List (List Nat)) (b:Nat) (tr:List Tr) (bb:Bool) (ks:List SK) (c:String) (fs:List PF) (res:List Tr),match bC_ hl d ts with
 | .error e=>∃ n,Run ⟨⟨form,ws,b,tr,.p bb::ks,c,40 - d⟩::fs,ts++[sent hl],res⟩ (.error e) n
 | .ok (a,pl,r)=>∃ t,Rep a t/\cB_ t=pl/\h6_ t<=d/\pl.length+r.length<=ts.length/\(∃ pre,ts=pre++r) /\
  Goes ⟨⟨form,ws,b,tr,.p bb::ks,c,40 - d⟩::fs,ts++[sent hl],res⟩ ⟨⟨form,ws,b,tr++[t],ks,c,40 - d⟩::fs,r++[sent hl],res⟩
def o4_ (hl d:Nat) (sks:List SK) (ts:Toks):Prop:=∀ (form:List Nat) (ws:List (List Nat)) (b:Nat) (tr:List Tr) (c:String) (fs:List PF) (res:List Tr),match ar_ hl (bC_ hl d) (sks.map SK.k) ts with
 | .error e=>∃ n,Run ⟨⟨form,ws,b,tr,sks,c,40 - d⟩::fs,ts++[sent hl],res⟩ (.error e) n
 | .ok (is,r)=>∃ trs,Reps (iK_ is) trs/\cA_ trs=bu_ is/\h7_ trs<=d/\(bu_ is).length+r.length<=ts.length/\(∃ pre,ts=pre++r)/\ItemsOk (sks.map SK.k) is /\
  Goes ⟨⟨form,ws,b,tr,sks,c,40 - d⟩::fs,ts++[sent hl],res⟩ ⟨⟨form,ws++et_ is,b,tr++trs,[],c,40 - d⟩::fs,r++[sent hl],res⟩
theorem dj_ {hl d N:Nat} (IH : ∀ ts,ts.length<=N->bj_ ts->nK_ hl d ts) : ∀ (sks:List SK) (ts:Toks),ts.length<=N->bj_ ts->o4_ hl d sks ts
 | [],ts,hN,hg=>fun form ws b tr c fs res=>by
  refine ⟨[],.nil,rfl,zero_le _,by show 0+_<=_;omega,⟨[],rfl⟩,.nil,?_⟩;show Goes _ ⟨⟨form,ws++[],b,tr++[],[],c,40 - d⟩::fs,ts++[sent hl],res⟩;rw [append_nil,append_nil];exact Goes.refl _
 | .n::sks,[],hN,hg=>fun form ws b tr c fs res=>⟨1,.bad rfl⟩
 | .n::sks,t::l,hN,hg=>fun form ws b tr c fs res=>by
  have gt:=hg t (mem_cons_self ..);have gl:bj_ l:=fun k hk=>hg k (mem_cons_of_mem _ hk);rw [length_cons] at hN;have ih:=dj_ IH sks l (by omega) gl;show match ar_ hl (bC_ hl d) (.name::sks.map SK.k) (t::l) with | .error e=>_ | .ok (is,r)=>_
  unfold ar_;rw [hv_ gt];by_cases e:kindOf t.tok=txt "name"
  ·rw [if_pos e]
   dsimp only;have g1:Goes ⟨⟨form,ws,b,tr,.n::sks,c,40 - d⟩::fs,(t::l)++[sent hl],res⟩ ⟨⟨form,ws++[fh_ t.tok],b,tr,sks,c,40 - d⟩::fs,l++[sent hl],res⟩:=Goes.one (by
    show some (if kindOf t.tok=txt "name" then _ else _)=_;rw [if_pos e];rfl)
   have ih:=ih form (ws++[fh_ t.tok]) b tr c fs res;cases h2:ar_ hl (bC_ hl d) (sks.map SK.k) l with
   | error e2 =>
    rw [h2] at ih;obtain ⟨n,hn⟩:=ih;exact g1 _ _ hn
   | ok v =>
   obtain ⟨is,r⟩:=v;rw [h2] at ih;refine x_10 ih fun trs zy=>x_06 zy fun i1 i2 i3 i4 zn5 i6 i7=>?_;obtain ⟨pre,i5⟩:=zn5;refine ⟨trs,i1,i2,i3,Nat.le_trans i4 (le_succ _),⟨t::pre,by rw [i5];rfl⟩,.name i6,g1.trans ?_⟩;rw [append_assoc] at i7;exact i7
  rw [if_neg e];exact ⟨1,.bad (by
   show some (if kindOf t.tok=txt "name" then _ else _)=_;rw [if_neg e];rfl)⟩
 | .pw::sks,[],hN,hg=>fun form ws b tr c fs res=>⟨1,.bad rfl⟩
 | .pw::sks,t::l,hN,hg=>fun form ws b tr c fs res=>by
  have gt:=hg t (mem_cons_self ..);have gl:bj_ l:=fun k hk=>hg k (mem_cons_of_mem _ hk);rw [length_cons] at hN;have ih:=dj_ IH sks l (by omega) gl;show match ar_ hl (bC_ hl d) (.power::sks.map SK.k) (t::l) with | .error e=>_ | .ok (is,r)=>_
  unfold ar_;by_cases e:kindOf t.tok=txt "digit"
  ·obtain ⟨m,e1,e2⟩:=gx_ (hl:=hl) (l:=l) gt e
   rw [e1];dsimp only;have g1:Goes ⟨⟨form,ws,b,tr,.pw::sks,c,40 - d⟩::fs,(t::l)++[sent hl],res⟩ ⟨⟨form,ws++[h3_ t.tok],b,tr,sks,c,40 - d⟩::fs,l++[sent hl],res⟩:=Goes.one (by
    show some (if kindOf t.tok=txt "digit" then _ else _)=_;rw [if_pos e];rfl)
   have ih:=ih form (ws++[h3_ t.tok]) b tr c fs res;cases h2:ar_ hl (bC_ hl d) (sks.map SK.k) l with
   | error e2 =>
    rw [h2] at ih;obtain ⟨n,hn⟩:=ih;exact g1 _ _ hn
   | ok v =>
   obtain ⟨is,r⟩:=v;rw [h2] at ih;refine x_10 ih fun trs zy=>x_06 zy fun i1 i2 i3 i4 zn5 i6 i7=>?_;obtain ⟨pre,i5⟩:=zn5;refine ⟨trs,i1,i2,i3,Nat.le_trans i4 (le_succ _),⟨t::pre,by rw [i5];rfl⟩,.power i6,g1.trans ?_⟩;rw [append_assoc,e2] at i7;rw [e2];exact i7
  rw [gy_ gt e];exact ⟨1,.bad (by
   show some (if kindOf t.tok=txt "digit" then _ else _)=_;rw [if_neg e];rfl)⟩
 | .p bb::sks,ts,hN,hg=>fun form ws b tr c fs res=>by
  have it:=IH ts hN hg form ws b tr bb sks c fs res;show match ar_ hl (bC_ hl d) (.part::sks.map SK.k) ts with | .error e=>_ | .ok (is,r)=>_
  unfold ar_;cases h1:bC_ hl d ts with
  | error e=>rw [h1] at it;exact it
  | ok v =>
  obtain ⟨a,pl,r⟩:=v;rw [h1] at it;refine x_10 it fun t zy=>x_05 zy fun t1 t2 t3 t4 zn5 t6=>?_;obtain ⟨pre,t5⟩:=zn5;dsimp only;have hr:r.length<=N:=by omega
  have gr:bj_ r:=by rw [t5] at hg;exact hg.suf
  have ih:=dj_ IH sks r hr gr form ws b (tr++[t]) c fs res;cases h2:ar_ hl (bC_ hl d) (sks.map SK.k) r with
  | error e2 =>
   rw [h2] at ih;obtain ⟨n,hn⟩:=ih;exact t6 _ _ hn
  | ok v =>
  obtain ⟨is,r2⟩:=v;rw [h2] at ih;refine x_10 ih fun trs zy=>x_06 zy fun i1 i2 i3 i4 zn5 i6 i7=>?_;obtain ⟨pre2,i5⟩:=zn5;refine ⟨t::trs,.cons t1 i1,?_,Nat.max_le.mpr ⟨t3,i3⟩,?_,⟨pre++pre2,by rw [t5,i5,append_assoc]⟩,.part i6,t6.trans ?_⟩
  ·show cB_ t++cA_ trs=pl++bu_ is
   rw [t2,i2]
  ·show (pl++bu_ is).length+_<=_
   rw [length_append];omega
  rw [append_assoc] at i7;exact i7
theorem eT_ (hl:Nat):kindOf (sent hl).tok=txt "end":=rfl
theorem fL_ (hl:Nat) (r:Toks):an_ (r++[sent hl])=((an_ r).1,(an_ r).2++[sent hl]):=by
 cases r with
 | nil=>rfl
 | cons k r =>
 show an_ (k::(r++[sent hl]))=_;unfold an_;dsimp only;cases fmOf k.tok <;> rfl
theorem e7_ (r:Toks) : ∃ pre,r=pre++(an_ r).2:=by
 cases r with
 | nil=>exact ⟨[],rfl⟩
 | cons k r =>
 unfold an_;dsimp only;cases fmOf k.tok with
 | none=>exact ⟨[],rfl⟩
 | some f=>exact ⟨[k],rfl⟩
theorem lg_ (hl:Nat) (ts:Toks) : ∃ t l,ts++[sent hl]=t::l/\t.start=Vaunid.placeOf hl ts:=by
 cases ts with
 | nil=>exact ⟨_,_,rfl,rfl⟩
 | cons k r=>exact ⟨_,_,rfl,rfl⟩
theorem ir_ (hl:Nat) : ∀ (N:Nat) (ts:Toks) (d:Nat),ts.length<=N->d<=40->bj_ ts->nK_ hl d ts
 | N,ts,0,hN,hd,hg=>fun form ws b tr bb ks c fs res=>by
  rw [jQ_];refine x_21 (lg_ hl ts) fun t l e1 e2=>?_;exact ⟨1,.bad (by rw [e1,<- e2];rfl)⟩
 | N,[],d+1,hN,hd,hg=>fun form ws b tr bb ks c fs res=>by
  rw [lF_];refine ⟨1,.bad ?_⟩;show (if 40 - (d+1)=40 then _ else if kindOf (sent hl).tok=txt "(" then _ else some (fault 6 hl))=_;rw [if_neg (by omega),if_neg (by rw [eT_];left)];rfl
 | 0,k::r,d+1,hN,hd,hg=>by simp at hN
 | N+1,k::r,d+1,hN,hd,hg=>fun form ws b tr bb ks c fs res=>by
  have gk:=hg k (mem_cons_self ..);have gr:bj_ r:=fun k hk=>hg k (mem_cons_of_mem _ hk);rw [length_cons] at hN;by_cases hp:k.tok=sign "("
  ·rw [jS_ hp]
   obtain ⟨pre,epre⟩:=e7_ r;have gb:bj_ (an_ r).2:=by rw [epre] at gr;exact gr.suf
   have lb:=e8_ r;have st:=dj_ (fun ts h g=>ir_ hl N ts d h (by omega) g) (an_ r).1.sk (an_ r).2 (by omega) gb (txt (an_ r).1.word) [] k.start [] ")" (⟨form,ws,b,tr,ks,c,40 - (d+1)⟩::fs) res;have g1:Goes ⟨⟨form,ws,b,tr,.p bb::ks,c,40 - (d+1)⟩::fs,k::r++[sent hl],res⟩ ⟨⟨txt (an_ r).1.word,[],k.start,[],(an_ r).1.sk,")",40 - d⟩::⟨form,ws,b,tr,ks,c,40 - (d+1)⟩::fs,(an_ r).2++[sent hl],res⟩:=Goes.one (by
    show (if 40 - (d+1)=40 then _ else if kindOf k.tok=txt "(" then (if (r++[sent hl]).isEmpty=true then none else some (Except.ok ⟨dY_ k.start (40 - (d+1)+1) (r++[sent hl])::_::fs,(an_ (r++[sent hl])).2,res⟩:Res MS)) else _)=_;rw [if_neg (by omega),if_pos ((eZ_ gk).mpr hp),if_neg (by cases r <;> simp),fL_,show 40 - (d+1)+1=40 - d by omega]
    unfold dY_;rw [fL_])
   unfold cv_;rw [l7_] at st;cases h1:ar_ hl (bC_ hl d) (an_ r).1.kinds (an_ r).2 with
   | error e =>
    rw [h1] at st;obtain ⟨n,hn⟩:=st;exact g1 _ _ hn
   | ok v =>
   obtain ⟨is,q⟩:=v;rw [h1] at st;refine x_10 st fun trs zy=>x_06 zy fun i1 i2 i3 i4 zn5 i6 i7=>?_;obtain ⟨pre2,i5⟩:=zn5;rw [nil_append,nil_append] at i7;have g2:=g1.trans i7;have gq:bj_ q:=by rw [i5] at gb;exact gb.suf
   obtain ⟨m1,m2,m3⟩:=mE_ _ _ i6;unfold gl_;dsimp only;cases q with
   | nil =>
    obtain ⟨m,hm⟩:=g2 (.error ⟨6,hl⟩) 1 (.bad (by
     show some (if kindOf (sent hl).tok=txt ")" then _ else fault 6 hl)=_;rw [if_neg (by rw [eT_];left)];rfl))
    exact ⟨m,hm⟩
   | cons x q =>
   have gx:=gq x (mem_cons_self ..);rw [nQ_ (jC_ gx)];by_cases hx:kindOf x.tok=txt ")"
   ·rw [if_pos hx]
    dsimp only;have g3:=g2.trans (Goes.one (s':=⟨⟨form,ws,b,tr++[.mk (txt (an_ r).1.word) (et_ is) k.start x.halt_ trs],ks,c,40 - (d+1)⟩::fs,q++[sent hl],res⟩) (by
     show some (if kindOf x.tok=txt ")" then _ else _)=_;rw [if_pos hx];rfl))
    refine ⟨.mk (txt (an_ r).1.word) (et_ is) k.start x.halt_ trs,?_,?_,?_,?_,?_,g3⟩
    ·rw [<- m1,<- m2]
     rw [<- m3] at i1;exact .mk i1
    ·show k.start::cA_ trs=_
     rw [i2]
    ·show 1+h7_ trs<=d+1
     omega
    ·rw [length_cons] at i4 ⊢
     rw [length_cons];omega
    exact ⟨k::(pre++(pre2++[x])),by
     rw [cons_append,append_assoc,append_assoc];show _=k::(pre++(pre2++x::q));rw [<- i5,<- epre]⟩
   rw [if_neg hx];obtain ⟨m,hm⟩:=g2 (.error ⟨6,x.start⟩) 1 (.bad (by
    show some (if kindOf x.tok=txt ")" then _ else fault 6 x.start)=_;rw [if_neg hx];rfl))
   exact ⟨m,hm⟩
  rw [jR_ hp];cases h1:Vaunid.leafOf k.tok with
  | none =>
   refine ⟨1,.bad ?_⟩;show (if 40 - (d+1)=40 then _ else if kindOf k.tok=txt "(" then _ else match Vaunid.leafOf k.tok with | some x=>_ | none=>some (fault 6 k.start))=_
   rw [if_neg (by omega),if_neg (fun z=>hp ((eZ_ gk).mp z)),h1];rfl
  | some x =>
  refine ⟨g7_ k x,?_,rfl,?_,?_,⟨[k],rfl⟩,Goes.one ?_⟩
  ·exact Rep.mk (t := .leaf x) .nil
  ·show 1+0<=d+1
   omega
  ·show 1+r.length<=r.length+1
   omega
  show (if 40 - (d+1)=40 then _ else if kindOf k.tok=txt "(" then _ else match Vaunid.leafOf k.tok with | some x=>_ | none=>some (fault 6 k.start))=_
  rw [if_neg (by omega),if_neg (fun z=>hp ((eZ_ gk).mp z)),h1];rfl
noncomputable def fk_ (hl:Nat) (ts:Toks):MS:=⟨[⟨txt "whole",[],0,[],[.p false],"end",0⟩],ts++[sent hl],[]⟩
theorem jZ_ (hl:Nat) (ts:Toks) (hg:bj_ ts) (h0 : ∀ k∈ts,¬ k.tok=sign "end"):match bC_ hl 40 ts with
  | .error e=>∃ n,Run (fk_ hl ts) (.error e) n
  | .ok (a,pl,r)=>match r with
   | k::_=>∃ n,Run (fk_ hl ts) (.error ⟨6,k.start⟩) n
   | []=>∃ t n e,Rep a t/\cB_ t=pl/\h6_ t<=40/\pl.length<=ts.length/\Run (fk_ hl ts) (.ok (.mk (txt "whole") [] 0 e [t])) n:=by
 have h:=ir_ hl ts.length ts 40 (Nat.le_refl _) (Nat.le_refl _) hg (txt "whole") [] 0 [] false [] "end" [] [];cases h1:bC_ hl 40 ts with
 | error e=>rw [h1] at h;exact h
 | ok v =>
 obtain ⟨a,pl,r⟩:=v;rw [h1] at h;refine x_10 h fun t zy=>x_05 zy fun t1 t2 t3 t4 zn5 t6=>?_;obtain ⟨pre,t5⟩:=zn5;cases r with
 | nil =>
  obtain ⟨m,hm⟩:=t6 (.ok (.mk (txt "whole") [] 0 hl [t])) 1 (.go (s':=⟨[],[],[.mk (txt "whole") [] 0 hl [t]]⟩) (by
   show some (if kindOf (sent hl).tok=txt "end" then _ else _)=_;rw [if_pos (eT_ hl)];rfl) .done)
  exact ⟨t,m,hl,t1,t2,t3,by have:([]:Toks).length=0:=rfl;omega,hm⟩
 | cons k q =>
 have gk:aU_ k.tok:=hg k (by rw [t5];exact mem_append_right _ (mem_cons_self ..));have hk : ¬ kindOf k.tok=txt "end":=fun z=>h0 k (by rw [t5];exact mem_append_right _ (mem_cons_self ..)) ((mI_ gk).mp z);obtain ⟨m,hm⟩:=t6 (.error ⟨6,k.start⟩) 1 (.bad (by
  show some (if kindOf k.tok=txt "end" then _ else fault 6 k.start)=_;rw [if_neg hk];rfl))
 exact ⟨m,hm⟩
open Vaunid (Token txt word sign isDigit isSmall inWord)
theorem mw_ {s:List Nat}{c:Nat}{r:List Nat} (e:s=c::r) (hc:isDigit c=true) {o u:Nat} (h:(numberText s).2.1=some (o,u)):o<10 ^ 12/\u<10 ^ 12/\((numberText s).1=1->u=1):=by
 have key : ∀ (b:Bool) (T L o u:Nat),(if b=true then some (T / T.gcd L,L / T.gcd L) else none)=some (o,u)->b=true/\T / T.gcd L=o/\L / T.gcd L=u:=by
  intro b T L o u h;cases b with
  | true=>rw [if_pos rfl] at h;cases h;exact ⟨rfl,rfl,rfl⟩
  | false=>cases h
 unfold numberText at h ⊢;dsimp only at h ⊢;obtain ⟨hg,e1,e2⟩:=key _ _ _ _ _ h;rw [e1,e2] at hg;simp only [and_eq_true,decide_eq_true_eq,fits] at hg;refine ⟨hg.2.2.2.1,hg.2.2.2.2,fun h1=>?_⟩;have ha:1<=(s.takeWhile isDigit).length:=by
  rw [e,takeWhile_cons,hc];exact Nat.succ_le_succ (zero_le _)
 by_cases hx:(secondRow (s.dropWhile isDigit)).1=0
 ·rw [hx] at e2
  simp at e2;exact e2.symm
 rw [if_neg hx] at h1;omega
theorem all0 {α:Type}{P:α->Prop} : ∀ x∈([]:List α),P x:=fun _ m=>absurd m not_mem_nil
theorem allc {α:Type}{P:α->Prop}{i:α}{l:List α} (h:P i) (t : ∀ x∈l,P x) : ∀ x∈i::l,P x:=forall_mem_cons.mpr ⟨h,t⟩
theorem eW_ {c:Nat} (h:Vaunid.inWord c=true):Dl c/\c≠40:=by
 unfold Vaunid.inWord Vaunid.isSmall Vaunid.isDigit at h;simp only [or_eq_true,and_eq_true,decide_eq_true_eq,beq_iff_eq] at h;exact ⟨⟨by omega,by omega⟩,by omega⟩
theorem NoD.app {v w:List Nat} (a:NoD v) (b:NoD w):NoD (v++w):=fun c m=>(mem_append.mp m).elim (a c) (b c)
theorem NoD.cons {c:Nat}{w:List Nat} (a:Dl c) (b:NoD w):NoD (c::w):=allc a b
def Ahd (t s:List Nat):Prop:=∃ p,t=p++s/\NoD p
theorem mW_ (c:Nat) (h:Vaunid.isDigit c=true):Dl c:=by
 unfold Vaunid.isDigit at h;rw [and_eq_true,decide_eq_true_eq,decide_eq_true_eq] at h;exact ⟨by omega,by omega⟩
theorem Ahd.tw {p:Nat->Bool} (hp : ∀ c,p c=true->Dl c) (t:List Nat):Ahd t (t.dropWhile p):=⟨_,takeWhile_append_dropWhile.symm,fun c m=>hp c (dX_ t c m)⟩
theorem Ahd.trans {a b c:List Nat} (h:Ahd a b) (g:Ahd b c):Ahd a c:=by
 obtain ⟨p,e1,n1⟩:=h;obtain ⟨q,e2,n2⟩:=g;exact ⟨p++q,by rw [e1,e2,append_assoc],n1.app n2⟩
theorem Ahd.one {c:Nat} (h:Dl c) (s:List Nat):Ahd (c::s) s:=⟨[c],rfl,NoD.cons h all0⟩
theorem kH_ {t s:List Nat} (h:powerText t=some s):Ahd t s:=by
 unfold powerText at h;have key : ∀ u:List Nat,(if (u.takeWhile Vaunid.isDigit).length=1\/(u.takeWhile Vaunid.isDigit).length=2 then some (u.dropWhile Vaunid.isDigit) else none)=some s->Ahd u s:=fun u h=>by
  split at h
  ·injection h with h
   subst h;exact Ahd.tw mW_ _
  cases h
 dsimp only at h;split at h
 ·exact (Ahd.one ⟨by decide,by decide⟩ _).trans (key _ h)
 exact key _ h
theorem jM_ {t s:List Nat} (h:factorText t=some s):Ahd t s:=by
 unfold factorText at h;cases t with
 | nil=>cases h
 | cons c r =>
 dsimp only at h;split at h
 ·rename_i e
  injection h with h;subst h;exact .one (by rw [e];exact ⟨by decide,by decide⟩) _
 split at h
 ·cases h
 split at h
 ·cases h
 have a:=Ahd.tw (fun c h=>(eW_ h).1) (c::r);split at h
 ·rename_i s' e
  rw [e] at a;exact a.trans ((Ahd.one ⟨by decide,by decide⟩ _).trans (kH_ h))
 injection h with h;subst h;exact a
theorem hQ_ : ∀ (n:Nat) (t:List Nat),measureText n t=true->NoD t:=by
 intro n
 induction n with
 | zero=>intro t h;cases h
 | succ n ih =>
 intro t h;unfold measureText at h;cases q:factorText t with
 | none=>rw [q] at h;cases h
 | some s =>
 obtain ⟨p,e,np⟩:=jM_ q;rw [q] at h;rw [e];refine np.app ?_;cases s with
 | nil=>exact all0
 | cons c r =>
 have h:((c == 46 || c == 47) && measureText n r)=true:=h;rw [and_eq_true,or_eq_true,beq_iff_eq,beq_iff_eq] at h;exact NoD.cons ⟨by omega,by omega⟩ (ih r h.2)
theorem jB_ {p:Nat}{s r:List Nat}{k:Token} (hl:s.length<=10000) (h:token true p s = .ok (k,r)):aU_ k.tok/\¬ k.tok=sign "end":=by
 unfold token at h;cases s with
 | nil=>cases h
 | cons c s =>
 dsimp only at h;split at h
 ·rename_i hc
  unfold wordToken at h;dsimp only at h;split at h
  ·cases h
  rename_i hn;cases h;refine ⟨⟨?_,by simp only [MOSTSIGNS] at hn;omega⟩,by intro z;cases z⟩;rw [takeWhile_cons,bT_ hc];show (isSmall c && (s.takeWhile inWord).all inWord)=true;rw [hc];exact all_eq_true.mpr (dX_ _)
 have num : ∀ neg:Bool,(∃ c' s',(if neg=true then (c::s).drop 1 else c::s)=c'::s'/\isDigit c'=true)->numberToken neg p (c::s) = .ok (k,r)->aU_ k.tok/\¬ k.tok=sign "end":=by
  rintro neg ⟨c',s',e1,e2⟩ h
  unfold numberToken at h;dsimp only at h;cases h1:(numberText (if neg=true then (c::s).drop 1 else c::s)).2.1 with
  | none=>rw [h1] at h;cases h
  | some v =>
  obtain ⟨o,u⟩:=v;rw [h1] at h;dsimp only at h;obtain ⟨b1,b2,b3⟩:=mw_ e1 e2 h1;have bt:(if neg=true then -(o:Int) else (o:Int)).natAbs<10 ^ 12:=by
   split
   ·rw [Int.natAbs_neg];exact b1
   exact b1
  have nr:=ga_ (if neg=true then (c::s).drop 1 else c::s);split at h
  ·rename_i r' hr
   split at h
   ·cases h
   rename_i hm;cases h;have hm2:measureText ((r'.takeWhile fun c=>c != 93).length+1) (r'.takeWhile fun c=>c != 93)=true:=Bool.of_not_eq_false fun q=>hm (.inr q);refine ⟨⟨fun m e=>?_,bt,b2,fun n e=>(by cases e),fun m e=>(by cases e;exact hQ_ _ _ hm2)⟩,by intro z;cases z⟩;cases e;refine ⟨jr_ hm2,?_⟩;have l1:=d6_ (fun c=>c != 93) r';have l2:r'.length+1=((if neg=true then (c::s).drop 1 else c::s).drop (numberText (if neg=true then (c::s).drop 1 else c::s)).1).length:=by rw [<- nr.1,hr];rfl
   rw [length_drop] at l2;have l3:(if neg=true then (c::s).drop 1 else c::s).length<=(c::s).length:=by
    split
    ·rw [length_drop];omega
    exact Nat.le_refl _
   omega
  cases h;refine ⟨⟨fun m e=>(by cases e),bt,b2,fun n e=>?_,fun m e=>(by cases e)⟩,by intro z;cases z⟩;by_cases h1:(numberText (if neg=true then (c::s).drop 1 else c::s)).1=1
  ·rw [if_pos h1] at e
   cases e;rw [b3 h1]
  rw [if_neg h1] at e;cases e
 split at h
 ·rename_i hd
  exact num false ⟨c,s,rfl,hd⟩ h
 split at h
 ·rename_i hm
  refine num true ?_ h;obtain ⟨_,hm⟩:=hm;unfold minusDigit at hm;split at hm
  ·rename_i d s' e
   cases e;exact ⟨d,s',rfl,hm⟩
  cases hm
 unfold signToken at h;rw [if_pos rfl] at h;cases h1:Vaunid.coreSigns.find? (fun x=>x.isPrefixOf (c::s)) with
 | none=>rw [h1] at h;cases h
 | some x =>
 rw [h1] at h;cases h;have hm:=List.mem_of_find?_eq_some h1;refine ⟨.inl hm,fun z=>?_⟩;have z:Vaunid.Tok.sign x=Vaunid.Tok.sign _:=z;injection z with z;rw [z] at hm;exact absurd hm (by left)
theorem c6_ : ∀ (n p:Nat) (s:List Nat) (l:List Token),s.length<=10000->tokens true n p s = .ok l->∀ k∈l,aU_ k.tok/\¬ k.tok=sign "end"
 | n,p,[],l,hl,h=>by
  have:l=[]:=by cases n <;> (cases h;rfl)
  subst this;simp
 | 0,p,c::r,l,hl,h=>by
  cases h;simp
 | n+1,p,c::r,l,hl,h=>by
  unfold tokens at h;have hl':r.length+1<=10000:=hl;split at h
  ·exact c6_ n _ r l (by omega) h
  split at h
  ·rename_i hz
   cases hz.1
  cases q:token true p (c::r) with
  | error e=>rw [q] at h;cases h
  | ok x =>
  obtain ⟨k,s⟩:=x;rw [q] at h;dsimp only at h;have tf:=bS_ q;have hs:s.length<=r.length:=by
   have h3:=tf.lt;rw [tf.rest,length_drop,length_cons];omega
  cases q2:tokens true n k.halt_ s with
  | error e=>rw [q2] at h;cases h
  | ok l2 =>
  rw [q2] at h;cases h;have:=c6_ n _ s l2 (by omega) q2;intro y hy;rcases mem_cons.mp hy with e | e
  ·rw [e];exact jB_ hl q
  exact this y e
noncomputable def hF_ (la:Addr) (i:Int):List (Str×V):=[("ahead",.ref la),("index",.int i)]
noncomputable def fj_ (k:Str) (o:Addr) (d:Int):List (Str×V):=[("kind",.str k),("owner",.ref o),("depth",.int d)]
def ai_ (xs:List Addr) (H H':Hp):Prop:=∀ a o,a∉xs->H a=some o->H' a=some o
theorem ai_.of {xs:List Addr}{H H':Hp} (s:Same H H'):ai_ xs H H':=fun a o _ e=>s a o e
theorem ai_.trans {xs:List Addr}{H H1 H2:Hp} (s:ai_ xs H H1) (r:ai_ xs H1 H2):ai_ xs H H2:=fun a o n e=>r a o n (s a o n e)
theorem ai_.more {xs ys:List Addr}{H H':Hp} (s:ai_ xs H H') (h : ∀ a∈xs,a∈ys):ai_ ys H H':=fun a o n e=>s a o (fun m=>n (h a m)) e
theorem ai_.upd {xs:List Addr}{H:Hp}{a:Addr}{o:HO} (h:a∈xs):ai_ xs H (L2.upd H a o):=fun b u n e=>by rw [al_ (fun (z:b=a)=>n (z ▸ h))];exact e
theorem ai_.base {xs:List Addr}{H0 H H':Hp} (s:ai_ xs H H') (b:Same H0 H) (h : ∀ a∈xs,H0 a=none):Same H0 H':=fun a o e=>s a o (fun m=>by rw [h a m] at e;cases e) (b a o e)
structure Imm (H H':Hp):Prop where
 tok : ∀ a C dx g k b e c,H a=some (.ins C dx (d8_ g k b e c))->H' a=some (.ins C dx (d8_ g k b e c))
 amt : ∀ a C dx o u m,H a=some (.ins C dx (afs o u m))->H' a=some (.ins C dx (afs o u m))
theorem nT_ {g:Int}{k:Str}{b e:Int}{c:V}{la:Addr}{i:Int}:d8_ g k b e c≠hF_ la i:=fun h=>by
 have:=congrArg (List.map Prod.fst) h;have q:([("group":Str),"kind","begin","end","content"]:List Str)=[("ahead":Str),"index"]:=this;exact absurd q (by left)
theorem lX_ {g:Int}{k:Str}{b e:Int}{c:V}{f:Str}{w p:Addr}{b' e':Int}:d8_ g k b e c≠a4_ f w p b' e':=fun h=>by
 have:=congrArg (List.map Prod.fst) h;have q:([("group":Str),"kind","begin","end","content"]:List Str)=[("form":Str),"words","parts","begin","end"]:=this;exact absurd q (by left)
theorem o2_ {o u:Int}{m:Str}{la:Addr}{i:Int}:afs o u m≠hF_ la i:=fun h=>by
 have:=congrArg (List.map Prod.fst) h;have q:([("over":Str),"under","measure"]:List Str)=[("ahead":Str),"index"]:=this;exact absurd q (by left)
theorem m4_ {o u:Int}{m:Str}{f:Str}{w p:Addr}{b' e':Int}:afs o u m≠a4_ f w p b' e':=fun h=>by
 have:=congrArg (List.map Prod.fst) h;have q:([("over":Str),"under","measure"]:List Str)=[("form":Str),"words","parts","begin","end"]:=this;exact absurd q (by left)
inductive NT (H:Hp) (x:Addr):Prop
 | lst {l:List V}:H x=some (.lst l)->NT H x
 | row {C dx la:Addr}{i:Int}:H x=some (.ins C dx (hF_ la i))->NT H x
 | node {C dx:Addr}{f:Str}{w p:Addr}{b e:Int}:H x=some (.ins C dx (a4_ f w p b e))->NT H x
theorem NT.tok {H:Hp}{x C dx:Addr}{g:Int}{k:Str}{b e:Int}{c:V} (h:NT H x) (q:H x=some (.ins C dx (d8_ g k b e c))):False:=by
 rcases h with h | h | h
 ·rw [h] at q;cases q
 ·rw [h] at q;injection q with q;injection q with _ _ q;exact nT_ q.symm
 rw [h] at q;injection q with q;injection q with _ _ q;exact lX_ q.symm
theorem NT.amt {H:Hp}{x C dx:Addr}{o u:Int}{m:Str} (h:NT H x) (q:H x=some (.ins C dx (afs o u m))):False:=by
 rcases h with h | h | h
 ·rw [h] at q;cases q
 ·rw [h] at q;injection q with q;injection q with _ _ q;exact o2_ q.symm
 rw [h] at q;injection q with q;injection q with _ _ q;exact m4_ q.symm
theorem Imm.of {xs:List Addr}{H H':Hp} (s:ai_ xs H H') (h : ∀ x∈xs,NT H x):Imm H H' :=
 ⟨fun a C dx g k b e c q=>s a _ (fun m=>(h a m).tok q) q,fun a C dx o u m q=>s a _ (fun n=>(h a n).amt q) q⟩
def qA_ (Ca:Addr) (H:Hp) (c:V):Vaunid.Tok->Prop
 | .sign _=>True
 | k=>hu_ Ca H c k
def TokB (Ca Ct:Addr) (H:Hp) (a:Addr) (k:Token):Prop:=∃ dx c,H a=some (.ins Ct dx (d8_ (Vaunid.sortOf k.tok) (S (kindOf k.tok)) (k.start:Int) (k.halt_:Int) c))/\qA_ Ca H c k.tok
theorem cS_.b {Ca Ct:Addr}{H:Hp}{a:Addr}{k:Token} (h:cS_ Ca Ct H a k):TokB Ca Ct H a k:=by
 obtain ⟨dx,c,e,q⟩:=h;refine ⟨dx,c,e,?_⟩;cases hk:k.tok with
 | word w=>rw [hk] at q;exact q
 | num v d=>rw [hk] at q;exact q
 | sign x=>trivial
theorem TokB.imm {Ca Ct:Addr}{H H':Hp}{a:Addr}{k:Token} (h:TokB Ca Ct H a k) (s:Imm H H'):TokB Ca Ct H' a k:=by
 obtain ⟨dx,c,e,q⟩:=h;refine ⟨dx,c,s.tok _ _ _ _ _ _ _ _ e,?_⟩;cases hk:k.tok with
 | word w=>rw [hk] at q;exact q
 | num v d=>rw [hk] at q;obtain ⟨b,e1,dx',e2⟩:=q;exact ⟨b,e1,dx',s.amt _ _ _ _ _ _ e2⟩
 | sign x=>trivial
def bk_ (Ca Ct Cr:Addr) (H:Hp) (row la:Addr) (l:Toks):Prop:=∃ (dx:Addr) (as:List Addr) (i:Nat),H row=some (.ins Cr dx (hF_ la (i:Int)))/\H la=some (.lst (as.map V.ref))/\Paired (fun a k=>TokB Ca Ct H a k) (as.drop i) l
theorem bk_.keep {Ca Ct Cr:Addr}{H H':Hp}{row la:Addr}{l:Toks} (h:bk_ Ca Ct Cr H row la l) {xs:List Addr} (s:ai_ xs H H') (nt : ∀ x∈xs,NT H x) (n1:row∉xs) (n2:la∉xs):bk_ Ca Ct Cr H' row la l:=by
 obtain ⟨dx,as,i,h1,h2,h3⟩:=h;exact ⟨dx,as,i,s _ _ n1 h1,s _ _ n2 h2,Paired.mapP h3 fun a k z=>z.imm (Imm.of s nt)⟩
theorem bk_.same {Ca Ct Cr:Addr}{H H':Hp}{row la:Addr}{l:Toks} (h:bk_ Ca Ct Cr H row la l) (s:Same H H'):bk_ Ca Ct Cr H' row la l:=h.keep (xs:=[]) (ai_.of s) (by simp) (by simp) (by simp)
theorem bk_.nt {Ca Ct Cr:Addr}{H:Hp}{row la:Addr}{l:Toks} (h:bk_ Ca Ct Cr H row la l):NT H row:=let ⟨_,_,_,h1,_,_⟩:=h;.row h1
def dg_ (Cs:Addr) (H:Hp) (ss:List Addr) (ks:List String) (o:Addr) (d:Nat):Prop:=Paired (fun s k=>∃ dx,H s=some (.ins Cs dx (fj_ (ofString k) o (d:Int)))) ss ks
def Kp (xs:List Addr) (H H':Hp):Prop:=∀ a∈xs,∀ o,H a=some o->H' a=some o
theorem Kp.sub {xs ys:List Addr}{H H':Hp} (k:Kp xs H H') (h : ∀ a∈ys,a∈xs):Kp ys H H':=fun a m=>k a (h a m)
theorem Kp.of {xs ys:List Addr}{H H':Hp} (s:ai_ ys H H') (d : ∀ a∈xs,a∉ys):Kp xs H H':=fun a m o e=>s a o (d a m) e
theorem hL_ {A B:Type}{R S:A->B->Prop}{l:List A}{m:List B} (h:Paired R l m) (k : ∀ a∈l,∀ b,R a b->S a b):Paired S l m:=by
 induction h with
 | nil=>exact .nil
 | cons h t ih=>exact .cons (k _ (mem_cons_self ..) _ h) (ih fun a m=>k a (mem_cons_of_mem _ m))
theorem dg_.keep {Cs:Addr}{H H':Hp}{ss:List Addr}{ks:List String}{o:Addr}{d:Nat} (h:dg_ Cs H ss ks o d) (k:Kp ss H H'):dg_ Cs H' ss ks o d:=hL_ h fun a m b ⟨dx,e⟩=>⟨dx,k a m _ e⟩
theorem dg_.here {Cs:Addr}{H:Hp}{o:Addr}{d:Nat}{ss:List Addr}{ks:List String} (h:dg_ Cs H ss ks o d) : ∀ a∈ss,∃ u,H a=some u:=by
 unfold dg_ at h
 induction h with
 | nil=>intro a m;cases m
 | cons h t ih =>
 obtain ⟨dx,e⟩:=h;intro a m;rcases mem_cons.mp m with q | q
 ·exact ⟨_,q ▸ e⟩
 exact ih a q
structure FrAt (Cn Cs:Addr) (H:Hp) (n:Addr) (pf:PF) (next ss:List Addr) (dx wl pl:Addr) (as F:List Addr) (e:Nat):Prop where
 node:H n=some (.ins Cn dx (a4_ (S pf.form) wl pl (pf.b:Int) (e:Int)))
 words:H wl=some (.lst ((pf.ws.map S).map V.str))
 parts:H pl=some (.lst ((as++next).map V.ref))
 trees:TreesAt Cn H as pf.ts F
 steps:dg_ Cs H ss (pf.ks.map SK.w++[pf.c]) n pf.d
theorem FrAt.keep {Cn Cs:Addr}{H H':Hp}{n:Addr}{pf:PF}{next ss:List Addr}{dx wl pl:Addr}{as F:List Addr}{e:Nat} (h:FrAt Cn Cs H n pf next ss dx wl pl as F e) (k:Kp ((n::wl::pl::F)++ss) H H'):FrAt Cn Cs H' n pf next ss dx wl pl as F e :=
 ⟨k n (by simp) _ h.node,k wl (by simp) _ h.words,k pl (by simp) _ h.parts,h.trees.keep fun b m o q=>k b (by simp [m]) o q,h.steps.keep fun a m o q=>k a (by simp [m]) o q⟩
theorem FrAt.here {Cn Cs:Addr}{H:Hp}{n:Addr}{pf:PF}{next ss:List Addr}{dx wl pl:Addr}{as F:List Addr}{e:Nat} (h:FrAt Cn Cs H n pf next ss dx wl pl as F e) : ∀ a∈(n::wl::pl::F)++ss,∃ u,H a=some u:=fun a m=>by
 rcases mem_append.mp m with m | m
 ·rcases mem_cons.mp m with q | m
  ·exact ⟨_,q ▸ h.node⟩
  rcases mem_cons.mp m with q | m
  ·exact ⟨_,q ▸ h.words⟩
  rcases mem_cons.mp m with q | m
  ·exact ⟨_,q ▸ h.parts⟩
  exact h.trees.here a m
 exact h.steps.here a m
inductive Stk (Cn Cs:Addr) (H:Hp) (wh:Addr):List PF->List Addr->List Addr->List Addr->Prop
 | bot {pf:PF}{next ss:List Addr}{dx wl pl:Addr}{as F:List Addr}{e:Nat}:FrAt Cn Cs H wh pf next ss dx wl pl as F e->Stk Cn Cs H wh [pf] next ss (wh::wl::pl::F)
 | cons {n:Addr}{pf g:PF}{r:List PF}{next ss ss2 zu:List Addr}{dx wl pl:Addr}{as F:List Addr}{e:Nat}:FrAt Cn Cs H n pf next ss dx wl pl as F e->Stk Cn Cs H wh (g::r) [n] ss2 zu->Stk Cn Cs H wh (pf::g::r) next (ss++ss2) ((n::wl::pl::F)++zu)
theorem Stk.keep {Cn Cs:Addr}{H H':Hp}{wh:Addr}{fs:List PF}{next ss own:List Addr} (h:Stk Cn Cs H wh fs next ss own) (k:Kp (own++ss) H H'):Stk Cn Cs H' wh fs next ss own:=by
 induction h with
 | bot h=>exact .bot (h.keep k)
 | cons h t ih=>exact .cons (h.keep (k.sub fun a m=>by simp at m ⊢;rcases m with m | m | m | m | m <;> simp [m])) (ih (k.sub fun a m=>by simp at m ⊢;rcases m with m | m <;> simp [m]))
theorem Stk.here {Cn Cs:Addr}{H:Hp}{wh:Addr}{fs:List PF}{next ss own:List Addr} (h:Stk Cn Cs H wh fs next ss own) : ∀ a∈own++ss,∃ u,H a=some u:=by
 induction h with
 | bot h=>exact h.here
 | cons h t ih =>
 intro a m;rw [mem_append,mem_append,mem_append] at m;rcases m with (m | m) | (m | m)
 ·exact h.here a (mem_append_left _ m)
 ·exact ih a (mem_append_left _ m)
 ·exact h.here a (mem_append_right _ m)
 exact ih a (mem_append_right _ m)
def cnt (pf:PF):Nat:=pf.ts.length+pf.ws.length+pf.ks.length
def LvB:List PF->Prop
 | []=>True
 | pf::r=>cnt pf<=4/\(pf.c=")"\/pf.c="end")/\pf.d=r.length/\pf.d<=40/\LvB r
def Lv:List PF->Prop
 | []=>True
 | pf::r=>cnt pf<=5/\(pf.c=")"\/pf.c="end")/\pf.d=r.length/\pf.d<=40/\LvB r
theorem nk_ (f:Fm):f.sk.length<=5:=by cases f <;> decide
theorem dg_.length {Cs:Addr}{H:Hp}{ss:List Addr}{ks:List String}{o:Addr}{d:Nat} (h:dg_ Cs H ss ks o d):ss.length=ks.length:=Paired.length h
theorem Stk.len {Cn Cs:Addr}{H:Hp}{wh:Addr}{fs:List PF}{next ss own:List Addr} (h:Stk Cn Cs H wh fs next ss own) (k:LvB fs):ss.length<=6 * fs.length:=by
 induction h with
 | bot h =>
  have:=h.steps.length;rw [length_append,length_map] at this;have h1:=k.1;unfold cnt at h1;simp at this ⊢;omega
 | cons h t ih =>
 have:=h.steps.length;rw [length_append,length_map] at this;have h1:=k.1;unfold cnt at h1;have:=ih k.2.2.2.2;simp at *;omega
theorem oA_ {s s':MS} (h:Lv s.fs) (e:b8_ s=some (.ok s')):Lv s'.fs:=by
 obtain ⟨fs,l,res⟩:=s;cases fs with
 | nil=>cases e
 | cons pf fs =>
 cases l with
 | nil=>cases e
 | cons t l =>
 obtain ⟨form,ws,b,ts,ks,c,d⟩:=pf;obtain ⟨h1,hc,h2,h3,h4⟩:=h;simp only [cnt] at h1;cases ks with
 | nil =>
  simp only [b8_] at e;split at e
  ·cases fs with
   | nil=>cases e;trivial
   | cons g r =>
    cases e;obtain ⟨g1,gc,g2,g3,g4⟩:=h4;refine ⟨?_,gc,g2,g3,g4⟩;simp only [cnt,length_append,length_singleton] at g1 ⊢;omega
  cases e
 | cons k ks =>
 rw [length_cons] at h1;cases k with
 | n =>
  simp only [b8_] at e;split at e
  ·cases e
   refine ⟨?_,hc,h2,h3,h4⟩;simp only [cnt,length_append,length_singleton];omega
  cases e
 | pw =>
  simp only [b8_] at e;split at e
  ·cases e
   refine ⟨?_,hc,h2,h3,h4⟩;simp only [cnt,length_append,length_singleton];omega
  cases e
 | p bb =>
 simp only [b8_] at e;split at e
 ·cases e
 rename_i hd;split at e
 ·split at e
  ·cases e
  cases e;have:=nk_ (an_ l).1;refine ⟨?_,.inl rfl,?_,?_,⟨?_,hc,h2,h3,h4⟩⟩
  ·simp only [cnt,dY_,length_nil]
   omega
  ·simp only [dY_,length_cons]
   simp only at h2;omega
  ·simp only [dY_]
   simp only at h3;omega
  simp only [cnt];omega
 split at e
 ·cases e
  refine ⟨?_,hc,h2,h3,h4⟩;simp only [cnt,length_append,length_singleton];omega
 cases e
theorem nS_ (a b:String):Vaunid.txt (a++b)=Vaunid.txt a++Vaunid.txt b:=by
 unfold Vaunid.txt;rw [String.toList_append,map_append]
theorem j2_ (n:Nat):Vaunid.txt (Nat.repr n)=decimal n:=by
 unfold Vaunid.txt decimal Nat.repr;rw [String.toList_ofList]
theorem nR_ (z:Int):Vaunid.txt (toString z)=decimalInt z:=by
 unfold decimalInt;cases z with
 | ofNat m =>
  rw [if_neg (show ¬ (Int.ofNat m<0) from Int.not_lt.mpr (Int.natCast_nonneg m))];exact j2_ m
 | negSucc m =>
 rw [if_pos (by omega)];show Vaunid.txt ("-"++Nat.repr (m+1))=_;rw [nS_,j2_];rfl
theorem str_int (z:Int):ofString (toString z)=S (decimalInt z):=by rw [aF_,nR_]
theorem eL_ {z:Int} (h:z.natAbs<10 ^ 12):z.natAbs.log2<1920:=by
 by_cases h0:z.natAbs=0
 ·rw [h0];decide
 exact Nat.lt_trans ((Nat.log2_lt h0).mpr (Nat.lt_trans h (show 10 ^ 12<2 ^ 40 by decide))) (by decide)
theorem ce_ {n:Nat} (h:n<10 ^ 12):(decimal n).length<=12:=by
 unfold decimal;rw [length_map];exact (Nat.length_toDigits_le_iff (by decide) (by decide)).mpr h
theorem cV_ {z:Int} (h:z.natAbs<10 ^ 12):(decimalInt z).length<=13:=by
 unfold decimalInt;have:=ce_ h;split
 ·rw [length_cons];omega
 omega
theorem bR_ (n:Nat):decimalInt (n:Int)=decimal n:=by
 unfold decimalInt;rw [if_neg (by omega)];rfl
def gs_ (v:Lit):Prop:=(∀ m,v.measure=some m->m≠[]/\m.length<=10000)/\v.top.natAbs<10 ^ 12/\v.low<10 ^ 12
theorem gP_:ofString "/"=S [47]:=by left
theorem mt_:ofString "["=S [91]:=by left
theorem lH_:ofString "]"=S [93]:=by left
theorem lr_:ofString ""=S []:=by left
theorem gQ_ (v:Lit) (g:gs_ v):shownLit v=(decimalInt v.top++(if v.low=1 then [] else 47::decimal v.low))++(if v.measure.getD []=[] then [] else 91::(v.measure.getD []++[93])):=by
 unfold shownLit;rw [append_assoc];congr 2;cases h:v.measure with
 | none=>rfl
 | some m =>
 show 91::(m++[93])=if m=[] then [] else 91::(m++[93]);rw [if_neg (g.1 m h).1]
theorem bs_ {C:Addr}{names:List Str}{vs:List V}{H:Hp}{E:XK}{R:Addr->Hp->Prop} (hl:vs.length=names.length) (k : ∀ x dx H1,H x=none->Same H H1->H1 x=some (.ins C dx (names.zip vs))->R x H1) :
  ∀ x dx,H x=none->H dx=none->dx≠x->bw_ C names (.ref x::vs) (upd (upd H dx (.own x)) x (.ins C dx [])) (fun v H2=>v = .non/\R x H2) E:=fun x dx hx hdx hne=>by
 refine ⟨x,dx,vs,rfl,hl,ad_,rfl,?_⟩;rw [ew_];exact k x dx _ hx (aL_ hx hdx) ad_
theorem none_of {H H1:Hp}{a:Addr} (s:Same H H1) (h:H1 a=none):H a=none:=by
 cases q:H a with
 | none=>rfl
 | some o=>rw [s _ _ q] at h;cases h
theorem em_ {xs:List Addr}{H H1:Hp}{a:Addr} (s:ai_ xs H H1) (n:a∉xs) (h:H1 a=none):H a=none:=by
 cases q:H a with
 | none=>rfl
 | some o=>rw [s _ _ n q] at h;cases h
theorem nin {a b:Addr} (h:a≠b):a∉[b]:=fun m=>h (mem_singleton.mp m)
theorem aM_ {A B:Type}{R:A->B->Prop}{l:List A}{m:List B}{a:A}{b:B} (h:Paired R l m) (r:R a b):Paired R (l++[a]) (m++[b]):=by
 induction h with
 | nil=>exact .cons r .nil
 | cons h t ih=>exact .cons h ih
structure BI (Ca Ct Cr Cn Cs:Addr) (H:Hp) (row la todo:Addr) (xs:List V) (r:Toks) (n dx wl pl:Addr) (f:Str) (b:Int) (d:Nat) (H':Hp) (ss:List Addr) (ks:List String):Prop where
 sx:ai_ [row,todo] H H'
 row:bk_ Ca Ct Cr H' row la r
 todo:H' todo=some (.lst (xs++ss.reverse.map V.ref))
 steps:dg_ Cs H' ss ks n d
 node:H' n=some (.ins Cn dx (a4_ f wl pl b b))
 words:H' wl=some (.lst [])
 parts:H' pl=some (.lst [])
 nd:(n::wl::pl::ss).Nodup
 fr : ∀ a∈n::wl::pl::ss,H a=none
theorem BI.add {Ca Ct Cr Cn Cs:Addr}{H:Hp}{row la todo:Addr}{xs:List V}{r:Toks}{n dx wl pl:Addr}{f:Str}{b:Int}{d:Nat}{H' H2:Hp}{ss:List Addr}{ks:List String} (h:BI Ca Ct Cr Cn Cs H row la todo xs r n dx wl pl f b d H' ss ks) (ht:H todo=some (.lst xs)) (nla:la≠todo) {s dxs:Addr}{k:String}
  (hs:H' s=none) (sm:Same H' H2) (e:H2 s=some (.ins Cs dxs (fj_ (ofString k) n (d:Int)))):BI Ca Ct Cr Cn Cs H row la todo xs r n dx wl pl f b d (upd H2 todo (.lst (xs++ss.reverse.map V.ref++[.ref s]))) (s::ss) (k::ks):=by
 have ht2:=sm _ _ h.todo;have sx2:ai_ [todo] H' (upd H2 todo (.lst (xs++ss.reverse.map V.ref++[.ref s]))):=(ai_.of sm).trans (ai_.upd (mem_singleton.mpr rfl));have fr : ∀ a∈n::wl::pl::ss,a∉[todo]:=fun a ha m=>by
  rw [mem_singleton.mp m] at ha;have:=h.fr _ ha;rw [ht] at this;cases this
 have ns:s≠todo:=fun z=>by rw [z,h.todo] at hs;cases hs
 have nt : ∀ x∈[todo],NT H' x:=fun x hx=>by rw [mem_singleton.mp hx];exact .lst h.todo
 have nrow:row≠todo:=fun z=>by
  obtain ⟨_,_,_,q,_,_⟩:=h.row;rw [z,h.todo] at q;cases q
 have nr : ∀ a,H' a=none->a≠row:=fun a ha z=>by
  obtain ⟨_,_,_,q,_,_⟩:=h.row;rw [z,q] at ha;cases ha
 refine ⟨h.sx.trans (sx2.more (by simp)),h.row.keep sx2 nt (nin nrow) (nin nla),?_,?_,sx2 _ _ (fr n (by simp)) h.node,sx2 _ _ (fr wl (by simp)) h.words,sx2 _ _ (fr pl (by simp)) h.parts,?_,?_⟩
 ·rw [ad_,reverse_cons,map_append,<- append_assoc]
  rfl
 ·refine .cons ⟨dxs,by rw [al_ ns];exact e⟩ (h.steps.keep (Kp.of sx2 fun a ha=>fr a (by simp [ha])))
 ·have n1 : ∀ a∈n::wl::pl::ss,a≠s:=fun a ha z=>by
   have q : ∃ o,H' a=some o:=by
    simp at ha;rcases ha with rfl | rfl | rfl | ha
    ·exact ⟨_,h.node⟩
    ·exact ⟨_,h.words⟩
    ·exact ⟨_,h.parts⟩
    exact h.steps.here a ha
   obtain ⟨o,q⟩:=q;rw [z,hs] at q;cases q
  have nd:=h.nd;simp only [nodup_cons,mem_cons,not_or] at nd ⊢;have m1:=n1 n (by simp);have m2:=n1 wl (by simp);have m3:=n1 pl (by simp);exact ⟨⟨nd.1.1,nd.1.2.1,m1,nd.1.2.2⟩,⟨nd.2.1.1,m2,nd.2.1.2⟩,⟨m3,nd.2.2.1⟩,⟨fun z=>n1 s (by simp [z]) rfl,nd.2.2.2⟩⟩
 intro a ha;rw [mem_cons,mem_cons,mem_cons,mem_cons] at ha;rcases ha with q | q | q | q | q
 ·exact h.fr a (by simp [q])
 ·exact h.fr a (by simp [q])
 ·exact h.fr a (by simp [q])
 ·rw [q]
  exact em_ h.sx (by simp [nr s hs,ns]) hs
 exact h.fr a (by simp [q])
def ed_ (Cn Cs:Addr) (H:Hp) (wh n:Addr) (fs:List PF) (ss own:List Addr):Prop:=match fs with
 | []=>n=wh/\ss=[]/\own=[]
 | g::r=>Stk Cn Cs H wh (g::r) [n] ss own
theorem ed_.keep {Cn Cs:Addr}{H H':Hp}{wh n:Addr}{fs:List PF}{ss own:List Addr} (h:ed_ Cn Cs H wh n fs ss own) (k:Kp (own++ss) H H'):ed_ Cn Cs H' wh n fs ss own:=by
 cases fs with
 | nil=>exact h
 | cons g r=>exact Stk.keep h k
theorem Stk.top {Cn Cs:Addr}{H:Hp}{wh:Addr}{pf:PF}{fs:List PF}{next ss own:List Addr} (h:Stk Cn Cs H wh (pf::fs) next ss own) : ∃ n ss1 ss2 zu dx wl pl as F e,FrAt Cn Cs H n pf next ss1 dx wl pl as F e/\ed_ Cn Cs H wh n fs ss2 zu/\ss=ss1++ss2/\own=(n::wl::pl::F)++zu:=by
 cases h with
 | bot h=>exact ⟨_,_,[],[],_,_,_,_,_,_,h,⟨rfl,rfl,rfl⟩,by simp,by simp⟩
 | cons h t=>exact ⟨_,_,_,_,_,_,_,_,_,_,h,t,rfl,rfl⟩
theorem Stk.mk {Cn Cs:Addr}{H:Hp}{wh n:Addr}{pf:PF}{fs:List PF}{next ss1 ss2 zu:List Addr}{dx wl pl:Addr}{as F:List Addr}{e:Nat} (h:FrAt Cn Cs H n pf next ss1 dx wl pl as F e) (b:ed_ Cn Cs H wh n fs ss2 zu):Stk Cn Cs H wh (pf::fs) next (ss1++ss2) ((n::wl::pl::F)++zu):=by
 cases fs with
 | nil =>
  obtain ⟨rfl,rfl,rfl⟩:=b;rw [append_nil,append_nil];exact .bot h
 | cons g r=>exact .cons h b
structure AtM (Ca Ct Cr Cn Cs:Addr) (H0 H:Hp) (row la todo wh:Addr) (s:MS):Prop where
 same:Same H0 H
 rowAt:bk_ Ca Ct Cr H row la s.l
 goods:bj_ s.l
 lv:Lv s.fs
 frames:(s.fs≠[]/\∃ ss own,Stk Cn Cs H wh s.fs [] ss own/\H todo=some (.lst (ss.reverse.map V.ref))/\(row::todo::la::(own++ss)).Nodup/\∀ a∈row::todo::own,H0 a=none)\/(s.fs=[]/\H todo=some (.lst [])/\∃ tr F,s.res=[tr]/\TreeAt Cn H wh tr F)
structure Dj (row todo la n wl pl:Addr) (rest:List Addr):Prop where
 out : ∀ a∈rest,a∉[row,todo,n,wl,pl]
 rt:row≠todo
 rla:row≠la
 tla:todo≠la
 ra:row∉[n,wl,pl]
 ta:todo∉[n,wl,pl]
 laa:la∉[n,wl,pl]
 nw:n≠wl
 np:n≠pl
 wp:wl≠pl
 nd:rest.Nodup
theorem mV_ {row todo la n wl pl:Addr}{F zu ss:List Addr} (h:(row::todo::la::(((n::wl::pl::F)++zu)++ss)).Nodup):Dj row todo la n wl pl (F++(zu++ss)):=by
 simp only [cons_append,append_assoc,nodup_cons,mem_cons,not_or] at h;obtain ⟨⟨a1,a2,a3,a4,a5,a6⟩,⟨b1,b2,b3,b4,b5⟩,⟨c1,c2,c3,c4⟩,⟨d1,d2,d3⟩,⟨e1,e2⟩,f1,g⟩:=h;refine ⟨fun a ha m=>?_,a1,a2,b1,by simp [a3,a4,a5],by simp [b2,b3,b4],by simp [c1,c2,c3],d1,d2,e1,g⟩;simp only [mem_cons,not_mem_nil,or_false] at m;rcases m with rfl | rfl | rfl | rfl | rfl
 ·exact a6 ha
 ·exact b5 ha
 ·exact d3 ha
 ·exact e2 ha
 exact f1 ha
theorem kW_ {X Y Z:List Addr} (hX:X.Nodup) (hY:Y.Nodup) (h : ∀ a∈Y,a∉X) (p:Z.Perm (Y++X)):Z.Nodup :=
 p.nodup_iff.mpr (List.nodup_append.mpr ⟨hY,hX,fun a ha b hb e=>h a ha (e ▸ hb)⟩)
section
variable {Ca Ct Cr Cn Cs:Addr}{H0 H H':Hp}{row la todo wh n dx wl pl st:Addr}{pf pf':PF}{fs:List PF}{l:Toks}{res:List Tr}{as F zu ss1 ss2:List Addr}{e e':Nat}
theorem ed_.len {fs:List PF}{ss own:List Addr} (h:ed_ Cn Cs H wh n fs ss own) (k:LvB fs):ss.length<=6 * fs.length:=by
 cases fs with
 | nil =>
  obtain ⟨_,rfl,_⟩:=h;exact zero_le _
 | cons g r=>exact Stk.len h k
theorem iW_ {r:Toks} (hrow:bk_ Ca Ct Cr H row la r) {xs:List V} (hto:H todo=some (.lst xs)) {next:List Addr} (hf:FrAt Cn Cs H n pf next ss1 dx wl pl as F e) (hb:ed_ Cn Cs H wh n fs ss2 zu) : ∀ a∈row::todo::la::(((n::wl::pl::F)++zu)++(ss1++ss2)),∃ o,H a=some o:=fun a ha=>by
 obtain ⟨_,_,_,q1,q2,_⟩:=hrow;rw [mem_cons,mem_cons,mem_cons] at ha;rcases ha with rfl | rfl | rfl | ha
 ·exact ⟨_,q1⟩
 ·exact ⟨_,hto⟩
 ·exact ⟨_,q2⟩
 exact (Stk.mk hf hb).here a ha
theorem ii_ (sm0:Same H0 H) (hto:H todo=some (.lst ((ss1++ss2).reverse.map V.ref))) {r:Toks} (hrow0:bk_ Ca Ct Cr H row la r) {next:List Addr} (hf:FrAt Cn Cs H n pf next (st::ss1) dx wl pl as F e) (hb:ed_ Cn Cs H wh n fs ss2 zu)
  (hnd:(row::todo::la::(((n::wl::pl::F)++zu)++(st::ss1++ss2))).Nodup) (hfr : ∀ a∈row::todo::((n::wl::pl::F)++zu),H0 a=none)
  (sx:ai_ [row,n,wl,pl] H H') (hrow:bk_ Ca Ct Cr H' row la l) (gl:bj_ l) (lv:Lv (pf'::fs)) {as' G:List Addr} (node:H' n=some (.ins Cn dx (a4_ (S pf'.form) wl pl (pf'.b:Int) (e':Int)))) (words:H' wl=some (.lst ((pf'.ws.map S).map V.str)))
  (parts:H' pl=some (.lst (as'.map V.ref))) (trees:TreesAt Cn H' as' pf'.ts (F++G)) (hG:G.Nodup) (fG : ∀ a∈G,H a=none) (steps:dg_ Cs H ss1 (pf'.ks.map SK.w++[pf'.c]) n pf'.d):AtM Ca Ct Cr Cn Cs H0 H' row la todo wh ⟨pf'::fs,l,res⟩:=by
 have dj:=mV_ hnd;have sx5:ai_ [row,todo,n,wl,pl] H H':=sx.more (by simp);have keep : ∀ a,a∈F++(zu++(st::ss1++ss2))->∀ o,H a=some o->H' a=some o:=fun a ha o q=>sx5 a o (dj.out a ha) q;have hh:=iW_ hrow0 hto hf hb;refine ⟨sx.base sm0 (fun a ha=>hfr a (by simp at ha ⊢;rcases ha with h | h | h | h <;> simp [h])),hrow,gl,lv,.inl ⟨by simp,ss1++ss2,(n::wl::pl::(F++G))++zu,Stk.mk (e:=e') (next:=[]) (as:=as') ⟨node,words,by rw [append_nil];exact parts,trees,steps.keep fun a ha=>keep a (by simp [ha])⟩ (hb.keep fun a ha=>keep a ?_),?_,?_,?_⟩⟩
 ·simp at ha ⊢
  rcases ha with h | h <;> simp [h]
 ·exact sx _ _ (by have:=dj.ta;have:=dj.rt;simp at *;exact ⟨Ne.symm dj.rt,this.1,this.2.1,this.2.2⟩) hto
 ·refine kW_ (X:=row::todo::la::(((n::wl::pl::F)++zu)++(ss1++ss2))) (Y:=G) ?_ hG (fun a ha m=>?_) ?_
  ·refine hnd.sublist ?_
   simp only [cons_append,append_assoc];refine List.Sublist.cons_cons _ (List.Sublist.cons_cons _ (List.Sublist.cons_cons _ (List.Sublist.cons_cons _ (List.Sublist.cons_cons _ (List.Sublist.cons_cons _ (List.Sublist.append_left (List.Sublist.append_left (sublist_cons_self ..) _) _))))))
  ·obtain ⟨o,q⟩:=hh a (by simp at m ⊢;rcases m with h | h | h | h | h | h | h | h | h | h <;> simp [h])
   rw [fG a ha] at q;cases q
  refine List.perm_iff_count.mpr fun a=>?_;simp only [cons_append,append_assoc,List.count_cons,List.count_append];omega
 intro a ha;rw [mem_cons,mem_cons,mem_append,mem_cons,mem_cons,mem_cons,mem_append] at ha;rcases ha with h | h | (h | h | h | h | h) | h
 ·exact hfr a (by simp [h])
 ·exact hfr a (by simp [h])
 ·exact hfr a (by simp [h])
 ·exact hfr a (by simp [h])
 ·exact hfr a (by simp [h])
 ·exact hfr a (by simp [h])
 ·exact none_of sm0 (fG a h)
 exact hfr a (by simp [h])
theorem m2_ (sm0:Same H0 H) (hto:H todo=some (.lst ((ss1++ss2).reverse.map V.ref))) {r:Toks} (hrow0:bk_ Ca Ct Cr H row la r) (hf:FrAt Cn Cs H n pf [] (st::ss1) dx wl pl as F e) (hb:ed_ Cn Cs H wh n fs ss2 zu)
  (hnd:(row::todo::la::(((n::wl::pl::F)++zu)++(st::ss1++ss2))).Nodup) (hfr : ∀ a∈row::todo::((n::wl::pl::F)++zu),H0 a=none) {pn:PF} (lv:Lv (pn::pf'::fs))
  {n' dx' wl' pl':Addr}{ss':List Addr} (sx:ai_ [row,todo,pl] H H') (hrow:bk_ Ca Ct Cr H' row la l) (gl:bj_ l) (hto':H' todo=some (.lst ((ss1++ss2).reverse.map V.ref++ss'.reverse.map V.ref))) (steps':dg_ Cs H' ss' (pn.ks.map SK.w++[pn.c]) n' pn.d) (parts:H' pl=some (.lst (as.map V.ref++[.ref n'])))
  (node':H' n'=some (.ins Cn dx' (a4_ (S pn.form) wl' pl' (pn.b:Int) (e':Int)))) (words':H' wl'=some (.lst [])) (parts':H' pl'=some (.lst [])) (w0:pn.ws=[]) (t0:pn.ts=[]) (nd':(n'::wl'::pl'::ss').Nodup) (fr' : ∀ a∈n'::wl'::pl'::ss',H a=none)
  (f1:pf'.form=pf.form) (f2:pf'.ws=pf.ws) (f3:pf'.b=pf.b) (f4:pf'.ts=pf.ts) (steps:dg_ Cs H ss1 (pf'.ks.map SK.w++[pf'.c]) n pf'.d):AtM Ca Ct Cr Cn Cs H0 H' row la todo wh ⟨pn::pf'::fs,l,res⟩:=by
 have dj:=mV_ hnd;have sx5:ai_ [row,todo,n,wl,pl] H H':=sx.more (by simp);have keep : ∀ a,a∈F++(zu++(st::ss1++ss2))->∀ o,H a=some o->H' a=some o:=fun a ha o q=>sx5 a o (dj.out a ha) q;have hh:=iW_ hrow0 hto hf hb;have nn:n∉[row,todo,pl]:=by
  have h1:=dj.ra;have h2:=dj.ta;simp at h1 h2 ⊢;exact ⟨Ne.symm h1.1,Ne.symm h2.1,dj.np⟩
 have nw:wl∉[row,todo,pl]:=by
  have h1:=dj.ra;have h2:=dj.ta;simp at h1 h2 ⊢;exact ⟨Ne.symm h1.2.1,Ne.symm h2.2.1,dj.wp⟩
 have par:FrAt Cn Cs H' n pf' [n'] ss1 dx wl pl as F e:=⟨by rw [f1,f3];exact sx _ _ nn hf.node,by rw [f2];exact sx _ _ nw hf.words,by rw [map_append];exact parts,by rw [f4];exact hf.trees.keep fun a ha=>keep a (by simp [ha]),steps.keep fun a ha=>keep a (by simp [ha])⟩;have top:FrAt Cn Cs H' n' pn [] ss' dx' wl' pl' [] [] e':=⟨node',by rw [w0];exact words',parts',by rw [t0];exact .nil,steps'⟩;have bel:ed_ Cn Cs H' wh n fs ss2 zu:=hb.keep fun a ha=>keep a (by simp at ha ⊢;rcases ha with h | h <;> simp [h])
 refine ⟨sx.base sm0 (fun a ha=>hfr a (by simp at ha ⊢;rcases ha with h | h | h <;> simp [h])),hrow,gl,lv,.inl ⟨by simp,ss'++(ss1++ss2),(n'::wl'::pl'::[])++((n::wl::pl::F)++zu),.cons top (Stk.mk par bel),?_,?_,?_⟩⟩
 ·rw [hto']
  simp only [reverse_append,map_append,append_assoc]
 ·refine kW_ (X:=row::todo::la::(((n::wl::pl::F)++zu)++(ss1++ss2))) (Y:=n'::wl'::pl'::ss') ?_ nd' (fun a ha m=>?_) ?_
  ·refine hnd.sublist ?_
   simp only [cons_append,append_assoc];refine List.Sublist.cons_cons _ (List.Sublist.cons_cons _ (List.Sublist.cons_cons _ (List.Sublist.cons_cons _ (List.Sublist.cons_cons _ (List.Sublist.cons_cons _ (List.Sublist.append_left (List.Sublist.append_left (sublist_cons_self ..) _) _))))))
  ·obtain ⟨o,q⟩:=hh a (by simp at m ⊢;rcases m with h | h | h | h | h | h | h | h | h | h <;> simp [h])
   rw [fr' a ha] at q;cases q
  refine List.perm_iff_count.mpr fun a=>?_;simp only [cons_append,nil_append,append_assoc,List.count_cons,List.count_append];omega
 intro a ha;rw [mem_cons,mem_cons,mem_append,mem_cons,mem_cons,mem_cons] at ha;rcases ha with h | h | (h | h | h | h) | h
 ·exact hfr a (by simp [h])
 ·exact hfr a (by simp [h])
 ·exact none_of sm0 (fr' a (by simp [h]))
 ·exact none_of sm0 (fr' a (by simp [h]))
 ·exact none_of sm0 (fr' a (by simp [h]))
 ·simp at h
 exact hfr a (by simp only [mem_cons,mem_append] at h ⊢;exact .inr (.inr h))
theorem lN_ (sm0:Same H0 H) (hto:H todo=some (.lst (ss2.reverse.map V.ref))) {r:Toks} (hrow0:bk_ Ca Ct Cr H row la r) (hf:FrAt Cn Cs H n pf [] [st] dx wl pl as F e) (hb:ed_ Cn Cs H wh n fs ss2 zu)
  (hnd:(row::todo::la::(((n::wl::pl::F)++zu)++([st]++ss2))).Nodup) (hfr : ∀ a∈row::todo::((n::wl::pl::F)++zu),H0 a=none)
  (sx:ai_ [row,n] H H') (hrow:bk_ Ca Ct Cr H' row la l) (gl:bj_ l) (node:H' n=some (.ins Cn dx (a4_ (S pf.form) wl pl (pf.b:Int) (e':Int)))) :
  match fs with
  | []=>AtM Ca Ct Cr Cn Cs H0 H' row la todo wh ⟨[],l,[pf.done e']⟩
  | g::fs=>Lv ({ g with ts:=g.ts++[pf.done e'] }::fs)->AtM Ca Ct Cr Cn Cs H0 H' row la todo wh ⟨{ g with ts:=g.ts++[pf.done e'] }::fs,l,res⟩:=by
 have dj:=mV_ hnd;have sx5:ai_ [row,todo,n,wl,pl] H H':=sx.more (by simp);have keep : ∀ a,a∈F++(zu++([st]++ss2))->∀ o,H a=some o->H' a=some o:=fun a ha o q=>sx5 a o (dj.out a ha) q;have base:Same H0 H':=sx.base sm0 (fun a ha=>hfr a (by simp at ha ⊢;rcases ha with h | h <;> simp [h]))
 have ra:=dj.ra;have ta:=dj.ta;simp at ra ta;have nw:wl∉[row,n]:=by simp;exact ⟨Ne.symm ra.2.1,Ne.symm dj.nw⟩
 have np:pl∉[row,n]:=by simp;exact ⟨Ne.symm ra.2.2,Ne.symm dj.np⟩
 have tt:todo∉[row,n]:=by simp;exact ⟨Ne.symm dj.rt,ta.1⟩
 have tree:TreeAt Cn H' n (pf.done e') (n::wl::pl::F):=by
  refine .mk (as:=as) node (sx _ _ nw hf.words) ?_ (hf.trees.keep fun a ha=>keep a (by simp [ha]));rw [sx _ _ np hf.parts,append_nil]
 cases fs with
 | nil =>
  obtain ⟨rfl,rfl,rfl⟩:=hb;exact ⟨base,hrow,gl,trivial,.inr ⟨rfl,sx _ _ tt hto,_,_,rfl,tree⟩⟩
 | cons g fs =>
 intro lv;have hb':Stk Cn Cs H' wh (g::fs) [n] ss2 zu:=Stk.keep hb fun a ha=>keep a (by simp at ha ⊢;rcases ha with h | h <;> simp [h])
 refine x_90 hb'.top fun n2 s1 s2 own3 dx2 wl2 pl2 as2 F2 zz0=>?_;refine x_13 zz0 fun e2 hf2 hb2 zr12 zr13=>?_;subst zr12;subst zr13;have par:FrAt Cn Cs H' n2 { g with ts:=g.ts++[pf.done e'] } [] s1 dx2 wl2 pl2 (as2++[n]) (F2++(n::wl::pl::F)) e2:=⟨hf2.node,hf2.words,by rw [append_nil];exact hf2.parts,hf2.trees.snoc tree,hf2.steps⟩;refine ⟨base,hrow,gl,lv,.inl ⟨by simp,s1++s2,(n2::wl2::pl2::(F2++(n::wl::pl::F)))++own3,Stk.mk par hb2,sx _ _ tt hto,?_,?_⟩⟩
 ·refine kW_ (X:=row::todo::la::(((n::wl::pl::F)++((n2::wl2::pl2::F2)++own3))++(s1++s2))) (Y:=[]) ?_ .nil (fun a ha=>by simp at ha) ?_
  ·refine hnd.sublist ?_
   simp only [cons_append,append_assoc,nil_append];refine List.Sublist.cons_cons _ (List.Sublist.cons_cons _ (List.Sublist.cons_cons _ (List.Sublist.cons_cons _ (List.Sublist.cons_cons _ (List.Sublist.cons_cons _ (List.Sublist.append_left (List.Sublist.cons_cons _ (List.Sublist.cons_cons _ (List.Sublist.cons_cons _ (List.Sublist.append_left (List.Sublist.append_left (sublist_cons_self ..) _) _)))) _))))))
  refine List.perm_iff_count.mpr fun a=>?_;simp only [cons_append,nil_append,append_assoc,List.count_cons,List.count_append];omega
 intro a ha;refine hfr a ?_;simp only [mem_cons,mem_append] at ha ⊢;rcases ha with h | h | (h | h | h | h | h | h | h | h) | h <;> simp [h]
end
mutual
noncomputable def bc_ (d:Nat):Tr->List (Nat×Tr)
 | .mk f ws b e ps=>(d,.mk f ws b e ps)::cR_ (d+1) ps
noncomputable def cR_ (d:Nat):List Tr->List (Nat×Tr)
 | []=>[]
 | t::r=>bc_ d t++cR_ d r
end
mutual
theorem de_ (d:Nat) : ∀ t:Tr,(bc_ d t).map (fun p=>p.2.b)=cB_ t
 | .mk f ws b e ps=>by
  show b::(cR_ (d+1) ps).map (fun p=>p.2.b)=b::cA_ ps;rw [d5_ (d+1) ps]
theorem d5_ (d:Nat) : ∀ ts:List Tr,(cR_ d ts).map (fun p=>p.2.b)=cA_ ts
 | []=>rfl
 | t::r=>by
  show (bc_ d t++cR_ d r).map (fun p=>p.2.b)=cB_ t++cA_ r;rw [map_append,de_ d t,d5_ d r]
end
mutual
theorem hm_ (d:Nat) : ∀ (t:Tr) (p:Nat×Tr),p∈bc_ d t->p.1+1<=d+h6_ t
 | .mk f ws b e ps,p,h=>by
  have h:p∈(d,Tr.mk f ws b e ps)::cR_ (d+1) ps:=h;show p.1+1<=d+(1+h7_ ps);rcases mem_cons.mp h with q | q
  ·rw [q]
   show d+1<=_;omega
  have:=fI_ (d+1) ps p q;omega
theorem fI_ (d:Nat) : ∀ (ts:List Tr) (p:Nat×Tr),p∈cR_ d ts->p.1+1<=d+h7_ ts
 | [],p,h=>by
  have h:p∈([]:List (Nat×Tr)):=h;simp at h
 | t::r,p,h=>by
  have h:p∈bc_ d t++cR_ d r:=h;show p.1+1<=d+max (h6_ t) (h7_ r);rcases mem_append.mp h with q | q
  ·have:=hm_ d t p q
   omega
  have:=fI_ d r p q;omega
end
theorem mQ_ (d:Nat) (t:Tr):1<=(bc_ d t).length:=by
 cases t with
 | mk f ws b e ps =>
 show 1<=(_::_:List (Nat×Tr)).length;rw [length_cons];omega
noncomputable def limT:Nat->List (Nat×Tr)->Option (Nat×Nat)
 | _,[]=>none
 | i,p::r=>if 40<p.1 then some (8,p.2.b) else if i=300 then some (9,p.2.b) else limT (i+1) r
theorem k1_ : ∀ (l:List (Nat×Tr)) (i:Nat),i<=300->(∀ p∈l,p.1<=40)->limT i l=if 300<i+l.length then some (9,(l.map (fun p=>p.2.b)).getD (300 - i) 0) else none
 | [],i,hi,h=>by
  rw [if_neg (by simp;omega)];rfl
 | p::r,i,hi,h=>by
  unfold limT;have hp:=h p (mem_cons_self ..);rw [if_neg (by omega)];by_cases e:i=300
  ·subst e
   rw [if_pos rfl,if_pos (by rw [length_cons];omega)];rfl
  rw [if_neg e,k1_ r (i+1) (by omega) fun q hq=>h q (mem_cons_of_mem _ hq),length_cons];by_cases h3:300<i+1+r.length
  ·rw [if_pos h3,if_pos (by omega),map_cons,show 300 - i=300 - (i+1)+1 by omega]
   rfl
  rw [if_neg h3,if_neg (by omega)]
def b4_ (Cn:Addr) (H H':Hp) (it:Addr) (p:Nat×Tr):Prop:=∃ a F,H' it=some (.tup [.ref a,.int (p.1:Int)])/\TreeAt Cn H a p.2 F
noncomputable def dy_ (sl:List (Nat×Tr)):List (Nat×Tr):=sl.reverse.flatMap fun p=>bc_ p.1 p.2
theorem cO_ (sl:List (Nat×Tr)) (p:Nat×Tr):dy_ (sl++[p])=bc_ p.1 p.2++dy_ sl:=by
 unfold dy_;rw [reverse_append];rfl
theorem hk_ (d:Nat) : ∀ ps:List Tr,cR_ d ps=ps.flatMap fun t=>bc_ d t
 | []=>rfl
 | t::r=>by
  show bc_ d t++cR_ d r=_;rw [hk_ d r];rfl
theorem c8_ (sl:List (Nat×Tr)) (d:Nat) (ps:List Tr):dy_ (sl++(ps.reverse.map fun t=>(d,t)))=cR_ d ps++dy_ sl:=by
 unfold dy_;rw [reverse_append,flatMap_append,<- map_reverse,reverse_reverse,flatMap_map,hk_]
theorem lq_ : ∀ sl:List (Nat×Tr),sl.length<=(dy_ sl).length:=by
 intro sl;unfold dy_;rw [<- length_reverse];generalize sl.reverse=m
 induction m with
 | nil=>exact zero_le _
 | cons p r ih =>
 rw [List.flatMap_cons,length_append,length_cons];have:=mQ_ p.1 p.2;omega
theorem TreesAt.get {Cn:Addr}{H:Hp}{as:List Addr}{ts:List Tr}{F:List Addr} (h:TreesAt Cn H as ts F) {i:Nat}{a:Addr} (e:as[i]? = some a) : ∃ t G,ts[i]? = some t/\TreeAt Cn H a t G :=
 TreesAt.rec (motive_1:=fun _ _ _ _=>True) (motive_2:=fun as ts _ _=>∀ (i:Nat) (a:Addr),as[i]? = some a->∃ t G,ts[i]? = some t/\TreeAt Cn H a t G) (fun _ _ _ _ _=>trivial) (fun i a h=>by simp at h) (fun h1 _ _ ih i a h=>by
  cases i with
  | zero=>cases h;exact ⟨_,_,rfl,h1⟩
  | succ i=>exact ih i a h) h i a e
theorem c2_ {A B:Type}{R:A->B->Prop}{l:List A}{m:List B} (h:Paired R l m) (hn:l≠[]) : ∃ l' a m' b,l=l'++[a]/\m=m'++[b]/\Paired R l' m'/\R a b:=by
 induction h with
 | nil=>exact absurd rfl hn
 | @cons a b l m r t ih =>
 cases t with
 | nil=>exact ⟨[],a,[],b,rfl,rfl,.nil,r⟩
 | cons r2 t2 =>
 obtain ⟨l',a',m',b',e1,e2,p,q⟩:=ih (by simp);exact ⟨a::l',a',b::m',b',by rw [e1];rfl,by rw [e2];rfl,.cons r p,q⟩
end M
namespace L2
open PySem PySem.Spec PyProof.Rows TL
def bG_ (K:Frag) (b:Addr) (ys:List Str):Prop:=∃ (its:Array Value) (n:Nat) (sl:Array (Option Value)),K.lookup b=some ⟨.type "tuple",none,.seq its n,sl⟩/\Vals (ys.map V.str) its.toList
end L2
namespace M
open PySem PySem.Spec PyProof.Rows L2 TL
def m6_ (w:World) (K:Frag) (a:Addr):Prop:=∃ ad:Fm->Addr,MDict w K a (bn_ ad)/\(∀ f H,SqT K H (ad f) ((f.kt.map fun s=>ofString s).map V.str))/\∀ f,bG_ K (ad f) (f.kt.map fun s=>ofString s)
theorem hl_ (d:Nat) (t:Term):depths d t=d::(aV_ t).flatMap (depths (d+1)):=by
 cases t <;> simp [depths,aV_]
theorem jh_ {x:Term}{tr:Tr} (h:Rep x tr) : ∀ d,(bc_ d tr).map (·.1)=depths d x :=
 Rep.rec (motive_1:=fun x tr _=>∀ d,(bc_ d tr).map (·.1)=depths d x) (motive_2:=fun xs ts _=>∀ d,(cR_ d ts).map (·.1)=xs.flatMap (depths d)) (fun _ ih d=>by
  rw [hl_];show d::(cR_ (d+1) _).map (·.1)=_;rw [ih (d+1)]) (fun _=>rfl) (fun _ _ i1 i2 d=>by
  show (bc_ d _++cR_ d _).map (·.1)=_;rw [map_append,i1 d,i2 d];rfl) h
end M
namespace L2
open PySem PySem.Spec PyProof.Rows TL
def na_ (K:Frag) (te:TE):TE:=fun σ H Q=>te σ H fun x H1=>∃ t b,TyOf K H1 x t/\kitOne K t (.type "str")=some b/\Q (.bl b) H1
theorem ea_:bootBuiltins "isinstance"=some (.builtin "isinstance"):=by left
section
variable {X:Cx}{e:Expr}{te:TE}{p1 p2 pos:Pos}
theorem ml_ (he:PE X e te) (hg:Gl X "isinstance") (hm:X.mg "isinstance"=none) (hg2:Gl X "str") (hm2:X.mg "str"=none)
  (hs:starEach [e,.Name "str" p2] X.env=[(false,eval e X.env),(false,eval (.Name "str" p2) X.env)]:=by rfl) (hpl:(backTo pos (starEach [.Name "str" p2] X.env)).any (·.1)=false:=by rfl)
  (hs2:starEach [.Name "str" p2] X.env=[(false,eval (.Name "str" p2) X.env)]:=by rfl) (hs1:starEach [e,.Name "str" p2] X.env=(false,eval e X.env)::starEach [.Name "str" p2] X.env:=by rfl):PE X (.Call (.Name "isinstance" p1) [e,.Name "str" p2] [] pos) (na_ X.K te):=by
 intro zz s σ H Q I h;refine wpAny_Call_Name_kw (d1_ I hg hm ea_ ?_ (by decide) (by decide));refine PyProof.Rows.callWith_builtin1 ?_ hs1 hpl;rw [hs];show wpAny _ _ (spliced ((false,eval e X.env)::[(false,eval (.Name "str" p2) X.env)])) _ _ s;refine Calls.spliced_cons (thn (he zz s σ H _ I h) fun u s1 ⟨x,H1,I1,r1,t,b,ty,ke,q1⟩=>Calls.spliced_cons ?_);refine d1_ I1 hg2 hm2 cy_ (Calls.spliced_nil ?_) (by decide) (by decide);exact k8_ I1 r1 ty ke fun tk=>⟨.bl b,H1,I1.tok tk,rfl,q1⟩
end
end L2
namespace M
open PySem PySem.Spec PyProof.Rows L2 TL
open Vaunid (Token txt word sign)
structure NotStr (K:Frag) (C:Addr):Prop where
 ha:PySem.W.findIn K (.ref C) "__class__"=some (some (.builtin "object.__class__"))
 hn:PySem.W.specialIn K (.builtin "object.__class__") "__get__"=some (some (.builtin "getset_descriptor.__get__"))
 htk:PySem.W.takesIn K (.builtin "object.__class__")=some true
 hm:mroIn K C (.type "object")=some true
 ks:kitOne K (.ref C) (.type "str")=some false
abbrev Pc (A:Type):=Sum (List Nat) A
inductive Fits {A:Type}:List SK->List (List Nat)->List A->Prop
 | nil {ws:List (List Nat)}{ts:List A}:Fits [] ws ts
 | part {b:Bool}{ks:List SK}{ws:List (List Nat)}{t:A}{ts:List A}:Fits ks ws ts->Fits (.p b::ks) ws (t::ts)
 | name {ks:List SK}{w:List Nat}{ws:List (List Nat)}{ts:List A}:Fits ks ws ts->Fits (.n::ks) (w::ws) ts
 | pow {ks:List SK}{w:List Nat}{ws:List (List Nat)}{ts:List A}:Fits ks ws ts->Fits (.pw::ks) (w::ws) ts
noncomputable def d9_ {A:Type}:List SK->List (List Nat)->List A->List (SK×Pc A)
 | .p b::ks,ws,t::ts=>(.p b,.inr t)::d9_ ks ws ts
 | .n::ks,w::ws,ts=>(.n,.inl w)::d9_ ks ws ts
 | .pw::ks,w::ws,ts=>(.pw,.inl w)::d9_ ks ws ts
 | _,_,_=>[]
noncomputable def fmX:Term->Option Fm
 | .leaf _=>none
 | .one o _=>some (dL_ o)
 | .two o _ _=>some (bp_ o)
 | .three o _ _ _=>some (match o with | .cond => .if_ | .fold => .fold)
 | .fn _ _=>some .fn
 | .rec_ _ _ _=>some .rec_
 | .let_ _ _ _=>some .let_
 | .case _ _ _ _ _=>some .case
noncomputable def skX (x:Term):List SK:=match fmX x with
 | none=>[]
 | some f=>f.sk
noncomputable def aP_ (x:Term):List (SK×Pc Term):=match fmX x with
 | none=>[]
 | some f=>d9_ f.sk (az_ x) (aV_ x)
theorem dx_ {x:Term}{f:Fm} (h:fmX x=some f):bb_ x=txt f.word:=by
 cases x with
 | leaf l=>cases h
 | one o a=>cases h;rfl
 | two o a b=>cases h;rfl
 | three o a b c=>cases o <;> (cases h;rfl)
 | fn=>cases h;rfl
 | rec_=>cases h;rfl
 | let_=>cases h;rfl
 | case=>cases h;rfl
theorem p4_ {x:Term}{f:Fm} (h:fmX x=some f):Fits f.sk (az_ x) (aV_ x):=by
 cases x with
 | leaf l=>cases h
 | one o a =>
  cases h;cases o with
  | pow n=>exact .part (.pow .nil)
  | _=>exact .part .nil
 | two o a b =>
  cases h;cases o <;> exact .part (.part .nil)
 | three o a b c=>cases o <;> (cases h;exact .part (.part (.part .nil)))
 | fn=>cases h;exact .name (.part .nil)
 | rec_=>cases h;exact .name (.name (.part .nil))
 | let_=>cases h;exact .name (.part (.part .nil))
 | case=>cases h;exact .part (.part (.name (.name (.part .nil))))
theorem oR_ (x:Term):Fits (skX x) (az_ x) (aV_ x):=by
 unfold skX;cases h:fmX x with
 | none=>exact .nil
 | some f=>exact p4_ h
theorem e3_ (x:Term):aP_ x=d9_ (skX x) (az_ x) (aV_ x):=by
 unfold skX aP_;cases h:fmX x with
 | none=>rfl
 | some f=>rfl
theorem hS_ (l:Leaf):d2_ (txt (bv_ l))=false:=by
 cases l with
 | truth b=>cases b <;> left
 | nil=>left
 | name x =>
  show d2_ (txt "name")=false
  left
 | num v =>
 show d2_ (txt "number")=false
 left
noncomputable def bi_ {A:Type} (zx:List (Pc A)) (c:Pc A):List (Pc A):=(if 1<zx.length then zx++[.inl [32]] else zx)++[c]
noncomputable def pcs0 {A:Type} (f:Fm):List (Pc A):=if f = .app then [.inl [40]] else [.inl [40],.inl (txt f.word)]
noncomputable def pcsX (x:Term):List (Pc Term):=match fmX x with
 | none=>[.inl (match x with | .leaf l=>shownLeaf l | _=>[])]
 | some f=>((aP_ x).map (·.2)).foldl bi_ (pcs0 f)++[.inl [41]]
noncomputable def pcT {A:Type} (tx:A->List Nat):Pc A->List Nat
 | .inl w=>w
 | .inr a=>tx a
noncomputable def pcsT {A:Type} (tx:A->List Nat) (l:List (Pc A)):List Nat:=l.flatMap (pcT tx)
noncomputable def jn:List (List Nat)->List Nat
 | []=>[]
 | [x]=>x
 | x::y::l=>x++32::jn (y::l)
theorem hV_ (l:List (List Nat)) : ∀ x,jn (x::l)=x++l.flatMap fun y=>32::y:=by
 induction l with
 | nil=>exact fun x=>(append_nil x).symm
 | cons y l ih=>exact fun x=>congrArg (fun z=>x++32::z) (ih y)
noncomputable def hdT (f:Fm):List Nat:=if f = .app then [] else txt f.word++[32]
noncomputable def txX (x:Term):List (List Nat):=(aP_ x).map fun c=>pcT coreText c.2
theorem ie_ {x:Term}{f:Fm} (h:fmX x=some f):coreText x=40::((hdT f++jn (txX x))++[41])/\∃ c l,aP_ x=c::l:=by
 have br : ∀ {u v t:List Nat}{p:Prop},u=v->p->40::((u++t)++[41])=40::((v++t)++[41])/\p:=fun e h=>⟨by rw [e],h⟩;cases x <;> cases h
 case' one o a=>cases o
 case' two o a b=>cases o
 case' three o a b c=>cases o
 all_goals
  refine br ?_ ⟨_,_,rfl⟩
  first | left | exact (by left:txt "^ "=hdT .pow)
theorem lo_ {A:Type} (tx:A->List Nat) (l:List (Pc A)) : ∀ zx:List (Pc A),1<zx.length->pcsT tx (l.foldl bi_ zx)=pcsT tx zx++l.flatMap fun c=>32::pcT tx c:=by
 induction l with
 | nil=>intro zx _;exact (append_nil _).symm
 | cons c l ih =>
 intro zx h;have e:bi_ zx c=zx++[.inl [32],c]:=by unfold bi_;rw [if_pos h,append_assoc];rfl
 show pcsT tx (l.foldl bi_ (bi_ zx c))=_;rw [ih _ (by rw [e,length_append];omega),e];simp [pcsT,pcT]
theorem kP_ (x:Term):coreText x=pcsT coreText (pcsX x):=by
 cases h:fmX x with
 | none =>
  cases x with
  | leaf l=>exact (append_nil _).symm
  | _=>cases h
 | some f =>
 obtain ⟨q,c,l,e⟩:=ie_ h;rw [q];unfold pcsX txX;rw [h,e];rw [map_cons,hV_];have k : ∀ zx:List (Pc Term),1<zx.length->pcsT coreText ((l.map (·.2)).foldl bi_ zx++[.inl [41]])=pcsT coreText zx++((l.map fun c=>pcT coreText c.2).flatMap (fun y=>32::y)++[41]):=fun zx ha=>by
  unfold pcsT;rw [flatMap_append];have:=lo_ coreText (l.map (·.2)) zx ha;unfold pcsT at this;rw [this,append_assoc,flatMap_map,flatMap_map];rfl
 show _=pcsT coreText ((l.map (·.2)).foldl bi_ (bi_ (pcs0 f) c.2)++[.inl [41]]);by_cases hf:f = .app
 ·rw [hf,k _ (by simp [bi_,pcs0])]
  simp [hdT,pcsT,pcT,bi_,pcs0]
 have:bi_ (pcs0 f) c.2=[.inl [40],.inl (txt f.word),.inl [32],c.2]:=by unfold bi_ pcs0;rw [if_neg hf];rfl
 rw [this,k _ (by simp),hdT,if_neg hf];simp [pcsT,pcT]
noncomputable def szX:Term->Nat
 | .leaf _=>1
 | .one _ a=>1+szX a
 | .two _ a b=>1+szX a+szX b
 | .three _ a b c=>1+szX a+szX b+szX c
 | .fn _ a=>1+szX a
 | .rec_ _ _ a=>1+szX a
 | .let_ _ a b=>1+szX a+szX b
 | .case l a _ _ b=>1+szX l+szX a+szX b
theorem ke_ (x:Term) : ∀ d:Nat,(depths d x).length=szX x:=by
 have ad : ∀ {m n k:Nat},m=n->m+1+k=1+n+k:=fun h=>by rw [h,add_comm 1]
 have key : ∀ {l m:List Nat}{n k:Nat},l.length=n->m.length=k->(l++m).length=n+k:=fun h q=>by rw [length_append,h,q]
 induction x with
 | leaf l=>exact fun d=>rfl
 | one o a ih=>exact fun d=>ad (k:=0) (ih _)
 | fn x a ih=>exact fun d=>ad (k:=0) (ih _)
 | rec_ f x a ih=>exact fun d=>ad (k:=0) (ih _)
 | two o a b i j=>exact fun d=>(congrArg (· + 1) (key (i _) (j _))).trans (by show _=1+szX a+szX b;omega)
 | let_ x a b i j=>exact fun d=>(congrArg (· + 1) (key (i _) (j _))).trans (by show _=1+szX a+szX b;omega)
 | three o a b c i j k=>exact fun d=>(congrArg (· + 1) (key (i _) (key (j _) (k _)))).trans (by show _=1+szX a+szX b+szX c;omega)
 | case l a y t b i j k=>exact fun d=>(congrArg (· + 1) (key (i _) (key (j _) (k _)))).trans (by show _=1+szX l+szX a+szX b;omega)
theorem np_ {x:Term}{tr:Tr} (h:Rep x tr) (d:Nat):(bc_ d tr).length=szX x:=by
 rw [<- ke_ x d,<- jh_ h d,length_map]
def pcC {A:Type} (c:A->Nat):Pc A->Nat
 | .inl _=>1
 | .inr a=>c a
def pcsC {A:Type} (c:A->Nat) (l:List (Pc A)):Nat:=(l.map (pcC c)).sum
theorem mP_ {A:Type} (g:Pc A->Nat) (l:List (Pc A)) : ∀ zx:List (Pc A),((l.foldl bi_ zx).map g).sum<=(zx.map g).sum+(l.map fun c=>g (.inl [32])+g c).sum:=by
 induction l with
 | nil=>exact fun _=>Nat.le_refl _
 | cons c l ih =>
 intro zx;have h:=ih (bi_ zx c);have q:((bi_ zx c).map g).sum<=(zx.map g).sum+(g (.inl [32])+g c):=by
  unfold bi_;split <;> simp <;> omega
 rw [foldl_cons,map_cons,sum_cons];omega
theorem m1_ {A:Type} (g:Pc A->Nat) (ks:List SK) : ∀ (ws:List (List Nat)) (ts:List A),((d9_ ks ws ts).map fun c=>g c.2).sum<=(ws.map fun w=>g (.inl w)).sum+(ts.map fun t=>g (.inr t)).sum:=by
 induction ks with
 | nil=>exact fun _ _=>zero_le _
 | cons k ks ih =>
 intro ws ts;cases k with
 | p b=>cases ts with
  | nil=>exact zero_le _
  | cons t ts =>
   have:=ih ws ts;show (((.p b,.inr t)::d9_ ks ws ts).map fun c=>g c.2).sum<=_;rw [map_cons,sum_cons,map_cons,sum_cons];dsimp only;omega
 | _=>cases ws with
  | nil=>exact zero_le _
  | cons w ws =>
   have:=ih ws ts;show (((_,.inl w)::d9_ ks ws ts).map fun c=>g c.2).sum<=_;rw [map_cons,sum_cons,map_cons,sum_cons];dsimp only;omega
theorem pj_ {A:Type}{g:A->Nat}{m:Nat}{l:List A} (q : ∀ x∈l,g x<=m):(l.map g).sum<=m * l.length:=by
 induction l with
 | nil=>exact zero_le _
 | cons x l ih=>exact Nat.le_trans (Nat.add_le_add (q x (mem_cons_self ..)) (ih fun y m=>q y (mem_cons_of_mem _ m))) (Nat.le_of_eq (add_comm ..))
theorem pi_ {k c:Nat}{g:Term->Nat}{l:List Term} (q : ∀ x∈l,g x<=k * szX x+c):(l.map g).sum<=k * (l.map szX).sum+c * l.length:=by
 induction l with
 | nil=>exact zero_le _
 | cons x l ih =>
 have h:=ih fun y m=>q y (mem_cons_of_mem _ m);have:=q x (mem_cons_self ..);rw [map_cons,sum_cons,map_cons,sum_cons,length_cons,Nat.mul_add,Nat.mul_succ];omega
theorem is_ (x:Term):szX x=1+((aV_ x).map szX).sum:=by
 cases x <;> simp [szX,aV_,add_assoc]
theorem few (x:Term):(az_ x).length<=2/\(aV_ x).length<=3:=by
 cases x
 case' leaf l=>cases l
 case' one o a=>cases o
 all_goals exact ⟨le_of_ble_eq_true rfl,le_of_ble_eq_true rfl⟩
theorem go_ {g:Pc Term->Nat}{m k c:Nat}{x:Term} (hw : ∀ w∈az_ x,g (.inl w)<=m) (hp : ∀ y∈aV_ x,g (.inr y)<=k * szX y+c):((aP_ x).map fun c=>g c.2).sum+k<=m * 2+c * 3+k * szX x:=by
 have h:=m1_ g (skX x) (az_ x) (aV_ x);rw [<- e3_] at h;obtain ⟨e1,e2⟩:=few x;have h1:=Nat.le_trans (pj_ hw) (Nat.mul_le_mul_left m e1);have h2:=pi_ hp;have h3:=Nat.mul_le_mul_left c e2;rw [is_ x,Nat.mul_add];omega
theorem i4_ (o:Vaunid.Two) (a b:Term):aP_ (.two o a b)=[(.p false,.inr a),(.p false,.inr b)]:=by cases o <;> rfl
theorem fJ_ (o:Vaunid.Three) (a b c:Term):aP_ (.three o a b c)=[(.p false,.inr a),(.p false,.inr b),(.p false,.inr c)]:=by cases o <;> rfl
theorem gd_ {A:Type}{c:SK×Pc A} (ks:List SK) : ∀ (ws:List (List Nat)) (ts:List A),c∈d9_ ks ws ts->(∃ b t,c=(.p b,.inr t)/\t∈ts)\/∃ k w,c=(k,.inl w)/\∀ b,k ≠ .p b:=by
 induction ks with
 | nil=>intro ws ts h;cases h
 | cons s ks ih =>
 intro ws ts h;cases s with
 | p b=>cases ts with
  | nil=>cases h
  | cons u ts =>
   rcases mem_cons.mp h with e | h
   ·exact .inl ⟨_,_,e,mem_cons_self ..⟩
   exact (ih ws ts h).imp (fun ⟨b,t,e,m⟩=>⟨b,t,e,mem_cons_of_mem _ m⟩) id
 | _=>cases ws with
  | nil=>cases h
  | cons u ws =>
   rcases mem_cons.mp h with e | h
   ·exact .inr ⟨_,_,e,fun _ z=>by cases z⟩
   exact ih ws ts h
theorem oW_ {x:Term}{b:Bool}{t:Term} (h:(SK.p b,Sum.inr t)∈aP_ x):szX t+1<=szX x:=by
 rw [e3_] at h;rcases gd_ _ _ _ h with ⟨b,u,e,m⟩ | ⟨k,w,e,_⟩
 ·cases e
  have key : ∀ l:List Term,t∈l->szX t<=(l.map szX).sum:=fun l=>by
   induction l with
   | nil=>intro m;cases m
   | cons a l ih =>
   intro m;rw [map_cons,sum_cons];rcases mem_cons.mp m with rfl | m
   ·omega
   have:=ih m;omega
  have:=key _ m;rw [is_ x];omega
 cases e
theorem gk_ (x:Term):(aP_ x).length<=5:=by
 have h:=go_ (g:=fun _=>1) (m:=1) (k:=0) (c:=1) (x:=x) (fun _ _=>Nat.le_refl _) fun _ _=>by omega
 have e : ∀ l:List (SK×Pc Term),(l.map fun _=>1).sum=l.length:=fun l=>by
  induction l with
  | nil=>rfl
  | cons c l ih=>rw [map_cons,sum_cons,ih,length_cons,add_comm]
 rw [e] at h;omega
theorem qf_ (x:Term):1+pcsC (fun y=>14 * szX y) (pcsX x)<=14 * szX x:=by
 cases h:fmX x with
 | none =>
  cases x with
  | leaf l=>show 1+(1+0)<=14 * 1;omega
  | _=>cases h
 | some f =>
 have q:=go_ (g:=fun c=>1+pcC (fun y=>14 * szX y) c) (m:=2) (k:=14) (c:=1) (x:=x) (fun _ _=>Nat.le_refl 2) fun y _=>(by show 1+14 * szX y<=_;omega);have r:=mP_ (pcC fun y:Term=>14 * szX y) ((aP_ x).map (·.2)) (pcs0 f);have z:((pcs0 f).map (pcC fun y:Term=>14 * szX y)).sum<=2:=by
  unfold pcs0;split <;> simp [pcC]
 unfold pcsX pcsC;rw [h,map_append,List.sum_append];rw [map_map] at r;show 1+(_+(1+0))<=_;have r:_<=_+(List.map (fun c=>1+pcC (fun y=>14 * szX y) c.2) (aP_ x)).sum:=r;omega
theorem bK_ {n c:Nat} (h:c∈decimal n):48<=c/\c<=57:=by
 unfold decimal at h;obtain ⟨d,m,rfl⟩:=mem_map.mp h;have q:=Nat.isDigit_of_mem_toDigits (by decide) (by decide) m;unfold Char.isDigit at q;rw [and_eq_true,decide_eq_true_eq,decide_eq_true_eq] at q;exact ⟨q.1,q.2⟩
def Fg (c:Nat):Prop:=c=45\/(48<=c/\c<=57)
theorem p5_ {c:Nat} (h:Fg c):Dl c:=⟨by unfold Fg at h;omega,by unfold Fg at h;omega⟩
theorem lc_ (z:Int) : ∀ c∈decimalInt z,Fg c:=fun c h=>by
 unfold decimalInt at h;split at h
 ·exact (mem_cons.mp h).elim .inl fun m => .inr (bK_ m)
 exact .inr (bK_ h)
theorem hX_ (z:Int):NoD (decimalInt z):=fun c m=>p5_ (lc_ z c m)
theorem bW_ {x:List Nat} (h:isName x=true):(∃ c r,x=c::r/\Vaunid.isSmall c=true)/\(∀ c∈x,Vaunid.inWord c=true)/\x.length<=12/\isTaken x=false:=by
 unfold isName at h;rw [and_eq_true,and_eq_true,Bool.not_eq_true',decide_eq_true_eq] at h;obtain ⟨h1,h2,h3⟩:=h;cases x with
 | nil=>cases h1
 | cons c r =>
 have h1:(Vaunid.isSmall c && r.all Vaunid.inWord)=true:=h1;rw [and_eq_true,all_eq_true] at h1;exact ⟨⟨c,r,rfl,h1.1⟩,allc (bT_ h1.1) h1.2,h2,h3⟩
def GW (f w:List Nat):Prop:=w.length<=10100/\NoD w/\(f=txt "name"->isName w=true)
theorem ca_ {w:List Nat} (h:isName w=true) (f:List Nat):GW f w:=by
 obtain ⟨_,h1,h2,_⟩:=bW_ h;exact ⟨by omega,fun c m=>(eW_ (h1 c m)).1,fun _=>h⟩
theorem nC_ {k:Vaunid.Tok} (g:aU_ k) {f:List Nat} (hf:f≠txt "name"):GW f (h3_ k):=by
 cases k with
 | num v d =>
  obtain ⟨h1,h2,h3,_,h5⟩:=g;have q1:=cV_ h2;have q2:=ce_ h3;show GW f (shownLit v);rw [gQ_ v ⟨h1,h2,h3⟩];have q3:(v.measure.getD []).length<=10000/\NoD (v.measure.getD []):=by
   cases e:v.measure with
   | none=>exact ⟨zero_le _,all0⟩
   | some m=>exact ⟨(h1 m e).2,h5 m e⟩
  have q4:(if v.low=1 then [] else 47::decimal v.low).length<=13/\NoD (if v.low=1 then [] else 47::decimal v.low):=by
   split
   ·exact ⟨zero_le _,all0⟩
   exact ⟨by rw [length_cons];omega,.cons ⟨by decide,by decide⟩ fun c m=>p5_ (.inr (bK_ m))⟩
  have q5:(if v.measure.getD []=[] then [] else 91::(v.measure.getD []++[93])).length<=10002/\NoD (if v.measure.getD []=[] then [] else 91::(v.measure.getD []++[93])):=by
   split
   ·exact ⟨zero_le _,all0⟩
   exact ⟨by simp only [length_cons,length_append,length_nil];omega,.cons ⟨by decide,by decide⟩ (q3.2.app (.cons ⟨by decide,by decide⟩ all0))⟩
  exact ⟨by simp only [length_append];omega,((hX_ _).app q4.2).app q5.2,fun e=>absurd e hf⟩
 | _=>exact ⟨zero_le _,all0,fun e=>absurd e hf⟩
def GL (l:Leaf):Prop:=∀ w∈dt_ l,GW (txt (bv_ l)) w
theorem oC_ {k:Vaunid.Tok} (g:aU_ k) {l:Leaf} (h:Vaunid.leafOf k=some l):GL l:=by
 unfold Vaunid.leafOf at h;split at h
 ·cases h;exact allc (nC_ g (show txt "number"≠_ by left)) all0
 ·split at h
  ·cases h;exact all0
  split at h
  ·cases h;exact all0
  split at h
  ·cases h;exact all0
  split at h
  ·rename_i q;cases h;exact allc (ca_ q _) all0
  cases h
 cases h
inductive GT:Term->Prop
 | mk {x:Term}:(∀ w∈az_ x,GW (bb_ x) w)->(∀ y∈aV_ x,GT y)->GT x
inductive GR:Tr->Prop
 | mk {f:List Nat}{ws:List (List Nat)}{b e:Nat}{ps:List Tr}:(∀ w∈ws,GW f w)->(∀ t∈ps,GR t)->GR (.mk f ws b e ps)
theorem mb_ {x:Term}{tr:Tr} (h:Rep x tr):GR tr->GT x :=
 Rep.rec (motive_1:=fun x tr _=>GR tr->GT x) (motive_2:=fun xs ts _=>(∀ t∈ts,GR t)->∀ y∈xs,GT y) (fun _ ih g=>by
  cases g with
  | mk h1 h2=>exact .mk h1 (ih h2)) (fun _=>all0) (fun _ _ i1 i2 g=>allc (i1 (g _ (mem_cons_self ..))) (i2 fun t q=>g t (mem_cons_of_mem _ q))) h
theorem pY_ (f:Fm):(hdT f).length<=6:=by cases f <;> left
theorem pU_ (l:List (List Nat)):(jn l).length<=(l.map fun t=>t.length+1).sum:=by
 cases l with
 | nil=>exact Nat.le_refl _
 | cons x l =>
 rw [hV_,length_append,List.length_flatMap];exact Nat.add_le_add (le_succ _) (Nat.le_refl _)
theorem mZ_ {x:Term} (h:GT x):(coreText x).length<=20400 * szX x:=by
 induction h with
 | @mk x hw hp ih =>
 cases e:fmX x with
 | none =>
  cases x with
  | leaf l =>
   show (shownLeaf l).length<=20400 * 1;cases l with
   | name x=>have:=(hw x (mem_cons_self ..)).1;show x.length<=_;omega
   | num v=>have:=(hw _ (mem_cons_self ..)).1;show (shownLit v).length<=_;omega
   | truth b=>cases b <;> decide
   | nil=>decide
  | _=>cases e
 | some f =>
 have q:=go_ (g:=fun c=>(pcT coreText c).length+1) (m:=10101) (k:=20400) (c:=1) (fun w m=>Nat.succ_le_succ (hw w m).1) fun y m=>Nat.succ_le_succ (ih y m);have r:=pU_ (txX x);have z:=pY_ f;rw [(ie_ e).1,length_cons,length_append,length_append,length_singleton];unfold txX at r ⊢;rw [map_map] at r;have r:_<=(List.map (fun c=>(pcT coreText c.2).length+1) (aP_ x)).sum:=r;omega
structure FB (pf:PF):Prop where
 f:pf.form≠txt "name"
 w : ∀ w∈pf.ws,GW pf.form w
 t : ∀ t∈pf.ts,GR t
structure MB (s:MS):Prop where
 fs : ∀ pf∈s.fs,FB pf
 l:bj_ s.l
 res : ∀ t∈s.res,GR t
theorem ih_ {l:Toks} (h:bj_ l):bj_ (an_ l).2:=by
 obtain ⟨pre,e⟩:=e7_ l;rw [e] at h;exact h.suf
theorem snoc {α:Type}{P:α->Prop}{l:List α}{a:α} (h : ∀ x∈l,P x) (q:P a) : ∀ x∈l++[a],P x:=List.forall_mem_append.mpr ⟨h,allc q all0⟩
theorem jX_ (f:Fm):txt f.word≠txt "name":=by cases f <;> left
theorem MB.step {s s':MS} (h:MB s) (e:b8_ s=some (.ok s')):MB s':=by
 obtain ⟨fs,l,res⟩:=s;obtain ⟨h1,h2,h3⟩:=h;cases fs with
 | nil=>cases e
 | cons pf fs =>
 cases l with
 | nil=>cases e
 | cons t l =>
 have g:=h2 t (mem_cons_self ..);have hl:bj_ l:=fun k hk=>h2 k (mem_cons_of_mem _ hk);obtain ⟨⟨f1,f2,f3⟩,hfs⟩:=forall_mem_cons.mp h1;simp only [b8_] at e;split at e
 ·split at e
  ·cases fs with
   | nil =>
    cases e;exact ⟨all0,hl,allc (.mk f2 f3) all0⟩
   | cons q fs =>
    cases e;obtain ⟨⟨q1,q2,q3⟩,hfs⟩:=forall_mem_cons.mp hfs;exact ⟨allc ⟨q1,q2,snoc q3 (.mk f2 f3)⟩ hfs,hl,h3⟩
  cases e
 ·split at e
  ·cases e
  split at e
  ·split at e
   ·cases e
   cases e;exact ⟨allc ⟨jX_ _,all0,all0⟩ (allc ⟨f1,f2,f3⟩ hfs),ih_ hl,h3⟩
  split at e
  ·rename_i x hx
   cases e;exact ⟨allc ⟨f1,f2,snoc f3 (.mk (oC_ g hx) all0)⟩ hfs,hl,h3⟩
  cases e
 ·split at e
  ·rename_i hk
   cases e;obtain ⟨w,e1,e2⟩:=(du_ g).mp hk;exact ⟨allc ⟨f1,snoc f2 (by rw [e1];exact ca_ e2 _),f3⟩ hfs,hl,h3⟩
  cases e
 split at e
 ·cases e
  exact ⟨allc ⟨f1,snoc f2 (nC_ g f1),f3⟩ hfs,hl,h3⟩
 cases e
theorem kA_ {s:MS}{R:Res Tr}{n:Nat} (h:Run s R n):MB s->∀ tr,R = .ok tr->GR tr:=by
 induction h with
 | done=>intro h tr e;cases e;exact h.res _ (mem_cons_self ..)
 | bad _=>intro _ _ e;cases e
 | go h1 _ ih=>exact fun h=>ih (h.step h1)
end M
namespace L2
open PySem PySem.Spec PyProof.Rows TL
section
variable {X:Cx}
def pz_ (K:Frag):R2:=fun x y H Q=>∃ a b xs ys,x = .ref a/\y = .ref b/\SqT K H a xs/\SqT K H b ys/\xs.length+ys.length<=sizeLine/\∀ p H',Same H H'->SqT K H' p (xs++ys)->Q (.ref p) H'
theorem oo_:OpR X (binaryOp .Add) (pz_ X.K):=by
 intro zz s σ H x y v u Q I rx ry h;refine x_40 h fun a b xs ys zy=>x_05 zy fun zr4 zr5 ha hb hz q=>?_;subst zr4;subst zr5;by_cases hx:xs=[]
 ·subst hx
  cases rx;cases ry;refine x_12 (I.tuple ha) fun its r1 p1 _=>?_;refine x_12 (I.tuple hb) fun zp r2 p2 _=>?_;have e1:its=[]:=r1.nil_iff.mpr rfl;subst e1;refine x_12 (id p1) fun zn0 ho hc zz0=>?_;refine x_10 zz0 fun n hd=>?_;obtain ⟨cls,dd,data,sl⟩:=zn0;refine x_12 (id p2) fun zn0 ho2 hc2 zz0=>?_;refine x_10 zz0 fun n2 hd2=>?_;obtain ⟨cls2,dd2,data2,sl2⟩:=zn0;simp only at hc hd hc2 hd2;subst hc hd hc2 hd2;exact concat_meets ⟨_,ho,rfl⟩ ⟨_,ho2,rfl⟩ noFill_tuple_add seq_tuple_add PySem.F.slot_tuple_add PySem.F.entry_tuple_add (PySem.F.args_tuple_add_2 _ _)
   (tuple_addW0 a b #[] zp.toArray n n2 dd dd2 sl sl2 rfl) ⟨ho,ho2,⟨.ref b,H,I,rfl,q b H (Same.refl _) hb⟩⟩
 refine op_ zz s σ H _ _ v u Q I rx ry ⟨a,b,xs,ys,rfl,rfl,ha,hb,hx,hz,fun e=>?_,fun e p hp=>?_⟩
 ·subst e
  rw [append_nil] at q;exact q a H (Same.refl _) ha
 exact q p _ (Same.upd hp) (SqT.of ad_)
theorem jU_ (hcalm:X.calm=true):ec_ X (.type "list") (fun xs H Q=>∃ a zw,xs=[.ref a]/\H a=some (.dK zw)/\∀ l,H l=none->Q (.ref l) (upd H l (.lst (zw.map fun p=>kV p.1)))):=by
 intro zz s σ H xs us Q I r h;refine x_22 h fun a zw zr2 ha q=>?_;subst zr2;obtain ⟨u,rfl,rx⟩:=gA_ r;cases rx;refine x_02 (qb_ I.hok ha) fun z hd zz0=>?_;refine x_11 zz0 fun vs rel dd=>?_;obtain ⟨ep,dat⟩:=dd.dictAt;have zr:zw.length=vs.length:=Paired.length rel;refine PySem.W.kdl_call (PySem.W.kdl_dict (knd:=aI_ X.prog X.w) (ep:=ep) hd) (I.ok.hd hcalm) dat (by rw [<- zr];exact z) fun h' tk zx c hk hS hacc=>?_;refine ⟨.ref s.heap.objs.size,_,I.laid (t':=tk) hk (Nat.le_refl _) (show aT_ X.prog X.w _ h' _ (.lst (zw.map fun p=>kV p.1)) from ⟨by rw [length_map];exact z,zx.toList,c,?_,by rw [Array.toArray_toList];exact hS⟩),rfl,q _ (I.hok.fresh (Nat.le_refl _))⟩;have key : ∀ (l:List (Key×V)) (m:List (Key×Value)) (ws:List Value),KV l m->ws.length=m.length->(∀ (i:Nat) (v:Value),ws[i]? = some v->∃ (k:Key) (x:Value),m[i]? = some (k,x)/\(aI_ X.prog X.w).is k v=true)->Vals (l.map fun p=>kV p.1) ws:=by
  intro l
  induction l with
  | nil =>
   intro m ws h1 h2 h3;cases h1;cases ws with
   | nil=>exact .nil
   | cons _ _=>cases h2
  | cons p l ih =>
  intro m ws h1 h2 h3;cases h1 with
  | @cons _ q0 _ m r t =>
  cases ws with
  | nil=>cases h2
  | cons v ws =>
  refine x_21 (h3 0 v rfl) fun k x e1 e2=>?_;have e3:q0=(k,x):=by injection e1
  subst e3;refine .cons ?_ (ih m ws t (by simpa using h2) fun i v hv=>h3 (i+1) v hv);obtain ⟨k0,v0⟩:=p;have e4:k0=k:=r.1;subst e4;show RelV (kV k0) v;rcases aR_ (show hU_ k0 v=true from e2) with ⟨i,t,rfl,rfl⟩ | ⟨y,t,rfl,rfl⟩
  ·exact ⟨t,rfl⟩
  exact ⟨t,rfl⟩
 refine key zw vs zx.toList rel (by rw [Array.length_toList];exact hacc.1) fun i v hv=>?_;exact hacc.2 i v (by rw [<- Array.getElem?_toList];exact hv)
end
theorem Room.u1 {k:Nat}{A:Around} (r:Room k A):A.units+1<cLine:=by
 have:=r.un;omega
theorem jW_:bootBuiltins "list"=some (.type "list"):=by left
theorem ifz_:bootBuiltins "tuple"=some (.type "tuple"):=by left
theorem boot_dict1:bootBuiltins "dict"=some (.type "dict"):=by left
end L2
namespace M
open PySem PySem.Spec PyProof.Rows L2 TL
open Vaunid (Token txt word sign freeIn once)
def insO (got:List (List Nat)) (z:List Nat):List (List Nat):=if z∈got then got else got++[z]
def b0_ (got l:List (List Nat)):List (List Nat):=l.foldl insO got
theorem df_ (l:List (List Nat)) (x:List Nat):(l.any fun y=>y == x)=decide (x∈l):=by
 rw [Bool.eq_iff_iff];simp
theorem f8_ : ∀ (l g g':List (List Nat)),(∀ y,y∈g↔y∈g')->b0_ g l=g++once g' l
 | [],g,g',_=>by
  show g=g++[];rw [append_nil]
 | x::r,g,g',h=>by
  show b0_ (insO g x) r=_;unfold once insO;rw [df_];by_cases hx:x∈g
  ·rw [if_pos hx,if_pos (by rw [decide_eq_true ((h x).mp hx)]),f8_ r g g' h]
  rw [if_neg hx,if_neg (by rw [decide_eq_false fun z=>hx ((h x).mpr z)];simp),f8_ r (g++[x]) (x::g') (fun y=>by simp [h y];exact or_comm)];simp
theorem ln_ (x:Term):Vaunid.free x=b0_ [] (freeIn [] x):=(f8_ (freeIn [] x) [] [] fun _=>Iff.rfl).symm
theorem au_ : ∀ (x:Term) (b b':List (List Nat)),(∀ y,y∈b↔y∈b')->freeIn b x=freeIn b' x
 | .leaf (.name y),b,b',h=>by
  unfold freeIn;rw [df_,df_,decide_eq_decide.mpr (h y)]
 | .leaf (.num _),b,b',h=>rfl
 | .leaf (.truth _),b,b',h=>rfl
 | .leaf .nil,b,b',h=>rfl
 | .one _ a,b,b',h=>au_ a b b' h
 | .two _ a c,b,b',h=>by unfold freeIn;rw [au_ a b b' h,au_ c b b' h]
 | .three _ a c d,b,b',h=>by unfold freeIn;rw [au_ a b b' h,au_ c b b' h,au_ d b b' h]
 | .fn x a,b,b',h=>by unfold freeIn;rw [au_ a (x::b) (x::b') fun y=>by simp [h y]]
 | .rec_ f x a,b,b',h=>by unfold freeIn;rw [au_ a (x::f::b) (x::f::b') fun y=>by simp [h y]]
 | .let_ x a c,b,b',h=>by unfold freeIn;rw [au_ a b b' h,au_ c (x::b) (x::b') fun y=>by simp [h y]]
 | .case l a hh t c,b,b',h=>by unfold freeIn;rw [au_ l b b' h,au_ a b b' h,au_ c (t::hh::b) (t::hh::b') fun y=>by simp [h y]]
abbrev FI:=Term×List (List Nat)
noncomputable def fiOf (b ws:List (List Nat)):SK×Pc Term->Option FI
 | (.p false,.inr t)=>some (t,b)
 | (.p true,.inr t)=>some (t,b++ws)
 | _=>none
noncomputable def fis (b:List (List Nat)) (x:Term):List FI:=(aP_ x).filterMap (fiOf b (az_ x))
def h0_ (l:List FI):List (List Nat):=l.flatMap fun i=>freeIn i.2 i.1
theorem h1_ (x:Term) (b:List (List Nat)) (h : ∀ y,¬ x = .leaf (.name y)):freeIn b x=h0_ (fis b x):=by
 have c1 : ∀ (x:List Nat) (a:Term),freeIn (x::b) a=freeIn (b++[x]) a:=fun x a=>au_ _ _ _ fun y=>by simp [or_comm]
 have c2 : ∀ (f x:List Nat) (a:Term),freeIn (x::f::b) a=freeIn (b++[f,x]) a:=fun f x a=>au_ _ _ _ fun y=>by simp;constructor <;> (rintro (h | h | h) <;> simp [h])
 cases x with
 | leaf l =>
  cases l with
  | name y=>exact absurd rfl (h y)
  | _=>rfl
 | one o a=>cases o <;> exact (append_nil (freeIn b a)).symm
 | two o a c =>
  unfold fis;rw [i4_];show _=freeIn b a++(freeIn b c++[]);rw [append_nil];rfl
 | three o a c d =>
  unfold fis;rw [fJ_];show _=freeIn b a++(freeIn b c++(freeIn b d++[]));rw [append_nil];rfl
 | fn x a=>exact (c1 x a).trans (append_nil _).symm
 | rec_ f x a=>exact (c2 f x a).trans (append_nil _).symm
 | let_ x a c =>
  show freeIn b a++freeIn (x::b) c=freeIn b a++(freeIn (b++[x]) c++[]);rw [append_nil,c1]
 | case l a hh t c =>
 show freeIn b l++(freeIn b a++freeIn (t::hh::b) c)=freeIn b l++(freeIn b a++(freeIn (b++[hh,t]) c++[]));rw [append_nil,c2]
noncomputable def szF (l:List FI):Nat:=(l.map fun i=>szX i.1).sum
theorem ph_ (x:Term):1<=szX x:=by cases x <;> simp only [szX] <;> omega
theorem nY_ (x:Term) (b:List (List Nat)):szF (fis b x)+1=szX x:=by
 unfold fis;cases x with
 | leaf l=>rfl
 | one o a=>cases o <;> exact add_comm ..
 | two o a c=>rw [i4_];show szX a+(szX c+0)+1=1+szX a+szX c;omega
 | three o a c d=>rw [fJ_];show szX a+(szX c+(szX d+0))+1=1+szX a+szX c+szX d;omega
 | fn x a=>exact add_comm ..
 | rec_ f x a=>exact add_comm ..
 | let_ x a c=>show szX a+(szX c+0)+1=1+szX a+szX c;omega
 | case l a hh t c=>show szX l+(szX a+(szX c+0))+1=1+szX l+szX a+szX c;omega
theorem eD_ (l m:List FI):szF (l++m)=szF l+szF m:=by
 unfold szF;rw [map_append,List.sum_append]
theorem hA_ : ∀ l:List FI,szF l.reverse=szF l
 | []=>rfl
 | x::r=>by
  rw [reverse_cons,eD_,hA_ r];unfold szF;simp;omega
theorem kf_ : ∀ l:List FI,l.length<=szF l
 | []=>Nat.le_refl _
 | x::r=>by
  have ih:=kf_ r;have hx:=ph_ x.1;unfold szF at ih ⊢;rw [map_cons,sum_cons,length_cons];omega
theorem gu_ {x:Term}:(az_ x).length<=2:=(few x).1
def dk (got:List (List Nat)):List (Key×V):=got.map fun n=>(Sum.inr (S n),V.bl true)
theorem qa_ (got:List (List Nat)) (z:List Nat):putK (dk got) (Sum.inr (S z)) (V.bl true)=dk (insO got z):=by
 unfold putK insO;have e:((dk got).any fun kv=>decide (kv.1=Sum.inr (S z)))=decide (z∈got):=by
  unfold dk;rw [any_map,Bool.eq_iff_iff];simp only [any_eq_true,Function.comp_def,decide_eq_true_eq,Sum.inr.injEq,cl_]
  constructor
  ·rintro ⟨y,hy,rfl⟩;exact hy
  exact fun h=>⟨z,h,rfl⟩
 rw [e];by_cases h:z∈got
 ·rw [if_pos (decide_eq_true h),if_pos h]
  unfold dk;rw [map_map];refine List.map_congr_left fun y hy=>?_;show (if (Sum.inr (S y):Key)=Sum.inr (S z) then ((Sum.inr (S y):Key),V.bl true) else (Sum.inr (S y),V.bl true))=_;split <;> rfl
 rw [if_neg (by rw [decide_eq_false h];simp),if_neg h];unfold dk;rw [map_append];rfl
theorem ld_ (got:List (List Nat)) (z:List Nat):(insO got z).length<=got.length+1:=by
 unfold insO;split
 ·omega
 simp
def Mut (H:Hp) (x:Addr):Prop:=(∃ l,H x=some (.lst l))\/∃ l,H x=some (.dK l)
theorem SqT.keepX {K:Frag}{H H':Hp}{xs:List Addr}{a:Addr}{vs:List V} (h:SqT K H a vs) (s:ai_ xs H H') (n : ∀ x∈xs,Mut H x):SqT K H' a vs:=by
 have key : ∀ o,H a=some o->(∀ l,o ≠ .lst l)->(∀ l,o ≠ .dK l)->H' a=some o:=fun o e n1 n2=>s _ _ (fun m=>by
  rcases n a m with ⟨l,q⟩ | ⟨l,q⟩
  ·rw [q] at e;injection e with e;exact n1 l e.symm
  rw [q] at e;injection e with e;exact n2 l e.symm) e
 rcases h with h | h
 ·rcases h with h | ⟨o,h⟩
  ·exact .inl (.inl (key _ h (by intro l z;cases z) (by intro l z;cases z)))
  exact .inl (.inr ⟨o,key _ h (by intro l z;cases z) (by intro l z;cases z)⟩)
 exact .inr h
open Vaunid (txt renamed bindings vName vNames)
abbrev RE:=List (List Nat×List Nat)
noncomputable def goF (env:RE):List (SK×Pc Term)->RE->List (List Nat)->List (List Nat)->List Term->List (List Nat)×List Term×List (List Nat)
 | [],_,new,ws,ts=>(ws,ts,new)
 | (.n,.inl x)::r,wi,new,ws,ts=>goF env r ((x,new.headD [])::wi) (new.drop 1) (ws++[new.headD []]) ts
 | (_,.inl x)::r,wi,new,ws,ts=>goF env r wi new (ws++[x]) ts
 | (.p false,.inr t)::r,wi,new,ws,ts=>goF env r wi (renamed env new t).2 ws (ts++[(renamed env new t).1])
 | (_,.inr t)::r,wi,new,ws,ts=>goF env r wi (renamed wi new t).2 ws (ts++[(renamed wi new t).1])
theorem mc_ (env:RE) (new:List (List Nat)) {x:Term}{f:Fm} (h:fmX x=some f):bb_ (renamed env new x).1=bb_ x/\goF env (aP_ x) env new [] []=(az_ (renamed env new x).1,aV_ (renamed env new x).1,(renamed env new x).2):=by
 cases x with
 | leaf l=>cases h
 | one o a=>cases o <;> exact ⟨rfl,rfl⟩
 | two o a b=>cases o <;> exact ⟨rfl,rfl⟩
 | three o a b c=>cases o <;> exact ⟨rfl,rfl⟩
 | fn=>exact ⟨rfl,rfl⟩
 | rec_ y z a =>
  refine ⟨rfl,?_⟩;show goF env [(.p true,.inr a)] _ ((new.drop 1).drop 1) _ _=_;rw [drop_drop];rfl
 | let_=>exact ⟨rfl,rfl⟩
 | case l a y z b =>
 refine ⟨rfl,?_⟩;show goF env [(.p true,.inr b)] _ (((renamed env (renamed env new l).2 a).2.drop 1).drop 1) _ _=_;rw [drop_drop];rfl
theorem c1_ (x:Term) : ∀ (env:RE) (new:List (List Nat)),(renamed env new x).2=new.drop (bindings x):=by
 induction x with
 | leaf l=>intro env new;cases l <;> rfl
 | one o a ih=>exact ih
 | two o a b ia ib =>
  intro env new;show (renamed env (renamed env new a).2 b).2=new.drop (bindings a+bindings b);rw [ib,ia,drop_drop]
 | three o a b c ia ib ic =>
  intro env new;show (renamed env (renamed env (renamed env new a).2 b).2 c).2=new.drop (bindings a+bindings b+bindings c);rw [ic,ib,ia,drop_drop,drop_drop,add_assoc]
 | fn x a ia =>
  intro env new;show (renamed _ (new.drop 1) a).2=new.drop (1+bindings a);rw [ia,drop_drop]
 | rec_ f x a ia =>
  intro env new;show (renamed _ (new.drop 2) a).2=new.drop (2+bindings a);rw [ia,drop_drop]
 | let_ x a b ia ib =>
  intro env new;show (renamed _ (renamed env (new.drop 1) a).2 b).2=new.drop (1+bindings a+bindings b);rw [ib,ia,drop_drop,drop_drop,add_assoc]
 | case l a h t b il ia ib =>
 intro env new;show (renamed _ ((renamed env (renamed env new l).2 a).2.drop 2) b).2=new.drop (2+bindings l+bindings a+bindings b);rw [ib,ia,il,drop_drop,drop_drop,drop_drop];congr 1;omega
def ck_:List (SK×Pc Term)->Nat
 | []=>0
 | (.n,.inl _)::r=>1+ck_ r
 | (_,.inl _)::r=>ck_ r
 | (_,.inr t)::r=>bindings t+ck_ r
theorem kV_ (x:Term):ck_ (aP_ x)=bindings x:=by
 cases x with
 | leaf l=>cases l <;> rfl
 | one o a=>cases o <;> (show bindings a+0=bindings a;omega)
 | two o a b=>cases o <;> (show bindings a+(bindings b+0)=bindings a+bindings b;omega)
 | three o a b c=>cases o <;> (show bindings a+(bindings b+(bindings c+0))=bindings a+bindings b+bindings c;omega)
 | fn _ a=>show 1+(bindings a+0)=1+bindings a;omega
 | rec_ _ _ a=>show 1+(1+(bindings a+0))=2+bindings a;omega
 | let_ _ a b=>show 1+(bindings a+(bindings b+0))=1+bindings a+bindings b;omega
 | case l a _ _ b=>show bindings l+(bindings a+(1+(1+(bindings b+0))))=2+bindings l+bindings a+bindings b;omega
inductive Fr (away:List (List Nat)) (B:Nat):Nat->List (List Nat)->Prop
 | nil {i:Nat}:Fr away B i []
 | skip {i:Nat}{l:List (List Nat)}:vName i∈away->i<B->Fr away B (i+1) l->Fr away B i l
 | take {i:Nat}{l:List (List Nat)} : ¬ vName i∈away->i<B->Fr away B (i+1) l->Fr away B i (vName i::l)
theorem oN_ (away:List (List Nat)) : ∀ (n i k:Nat),Fr away (i+n) i (vNames away n i k)
 | 0,_,_ => .nil
 | n+1,i,k=>by
  unfold vNames;have ih:=fun k=>oN_ away n (i+1) k;rw [show i+1+n=i+(n+1) by omega] at ih;by_cases h:k=0
  ·rw [if_pos h];exact .nil
  rw [if_neg h,df_];by_cases q:vName i∈away
  ·rw [decide_eq_true q,if_pos rfl];exact .skip q (by omega) (ih k)
  rw [decide_eq_false q,if_neg (by simp)];exact .take q (by omega) (ih (k - 1))
theorem oO_ {away:List (List Nat)}{B i:Nat}{l':List (List Nat)} (h:Fr away B i l') : ∀ {v:List Nat}{l:List (List Nat)},l'=v::l->∃ j,i<=j/\j<B/\(∀ m,i<=m->m<j->vName m∈away)/\¬ vName j∈away/\v=vName j/\Fr away B (j+1) l:=by
 induction h with
 | nil=>intro v l e;cases e
 | @skip i l' h1 h2 _ ih =>
  intro v l e;refine x_13 (ih e) fun j q1 q2 q3 q4=>?_;refine ⟨j,by omega,q2,fun m a b=>?_,q4⟩;by_cases z:m=i
  ·rw [z];exact h1
  exact q3 m (by omega) b
 | @take i l' h1 h2 h3 ih =>
 intro v l e;cases e;exact ⟨i,Nat.le_refl _,h2,fun m a b=>absurd a (by omega),h1,rfl,h3⟩
def qt_ (l:List Nat):Nat:=l.foldl (fun a c=>10 * a+(c - 48)) 0
theorem ly_ : ∀ i<2000,qt_ (decimal i)=i:=by left
theorem j1_ {i j:Nat} (hi:i<2000) (hj:j<2000) (h:vName i=vName j):i=j:=by
 unfold vName at h;injection h with _ h;rw [<- ly_ i hi,h,ly_ j hj]
theorem cD_ (away:List (List Nat)) : ∀ (n i k:Nat) (aw:List (List Nat)),i+n<=2000->(∀ j,i<=j->j<2000->vName j∈away->vName j∈aw)->aw.length+k<=n->(vNames away n i k).length=k
 | 0,i,k,aw,_,_,h=>by
  have:k=0:=by omega
  rw [this];rfl
 | n+1,i,k,aw,h0,h1,h=>by
  unfold vNames;by_cases hk:k=0
  ·rw [if_pos hk,hk];rfl
  rw [if_neg hk,df_];by_cases q:vName i∈away
  ·rw [decide_eq_true q,if_pos rfl]
   have hm:=h1 i (Nat.le_refl _) (by omega) q;have hl:=List.length_erase_of_mem hm;have hp:0<aw.length:=List.length_pos_of_mem hm;refine cD_ away n (i+1) k (aw.erase (vName i)) (by omega) (fun j a b c=>?_) (by omega);refine (List.mem_erase_of_ne fun z=>?_).mpr (h1 j (by omega) b c);have:=j1_ b (by omega) z;omega
  rw [decide_eq_false q,if_neg (by simp),length_cons,cD_ away n (i+1) (k - 1) aw (by omega) (fun j a b c=>h1 j (by omega) b c) (by omega)];omega
theorem pg_ (x:Term) : ∀ (env:RE) (new:List (List Nat)),szX (renamed env new x).1=szX x:=by
 induction x with
 | leaf l=>intro env new;cases l <;> rfl
 | one o a ih=>exact fun env new=>congrArg (1 + ·) (ih env new)
 | two o a b ia ib =>
  intro env new;show 1+szX (renamed env new a).1+szX (renamed env _ b).1=1+szX a+szX b;rw [ia,ib]
 | three o a b c ia ib ic =>
  intro env new;show 1+szX (renamed env new a).1+szX (renamed env _ b).1+szX (renamed env _ c).1=1+szX a+szX b+szX c;rw [ia,ib,ic]
 | fn x a ih=>exact fun env new=>congrArg (1 + ·) (ih _ _)
 | rec_ f x a ih=>exact fun env new=>congrArg (1 + ·) (ih _ _)
 | let_ x a b ia ib =>
  intro env new;show 1+szX (renamed env _ a).1+szX (renamed _ _ b).1=1+szX a+szX b;rw [ia,ib]
 | case l a h t b il ia ib =>
 intro env new;show 1+szX (renamed env new l).1+szX (renamed env _ a).1+szX (renamed _ _ b).1=1+szX l+szX a+szX b;rw [il,ia,ib]
def NE (env:RE):Prop:=∀ p∈env,isName p.2=true
def NW (l:List (List Nat)):Prop:=∀ w∈l,isName w=true
theorem NE.cons {x v:List Nat}{env:RE} (h:isName v=true) (e:NE env):NE ((x,v)::env):=allc h e
theorem NW.head {l:List (List Nat)} (h:NW l) (n:0<l.length):isName (l.headD [])=true:=by
 cases l with
 | nil=>cases n
 | cons v r=>exact h v (mem_cons_self ..)
theorem NW.drop {l:List (List Nat)} (h:NW l) (k:Nat):NW (l.drop k):=fun w m=>h w (List.mem_of_mem_drop m)
theorem GT.inv {x:Term} (h:GT x):(∀ w∈az_ x,GW (bb_ x) w)/\∀ y∈aV_ x,GT y:=by
 cases h with
 | mk h1 h2=>exact ⟨h1,h2⟩
theorem GT.p {x a:Term}{l:List Term} (h:GT x) (e:aV_ x=a::l):GT a/\∀ y∈l,GT y:=forall_mem_cons.mp (e ▸ h.inv.2)
theorem p0_ (x:Term) : ∀ (env:RE) (new:List (List Nat)),NE env->NW new->bindings x<=new.length->GT x->GT (renamed env new x).1:=by
 have nd : ∀ {l:List (List Nat)}{k m:Nat},k+m<=l.length->m<=(l.drop k).length:=fun {l k m} h=>by rw [length_drop];omega
 induction x with
 | leaf l =>
  intro env new he hn _ h;cases l with
  | name y =>
   refine .mk (allc (ca_ (?_:isName (((env.find? fun p=>p.1 == y).map fun p=>p.2).getD y)=true) _) all0) all0;cases q:env.find? fun p=>p.1 == y with
   | none=>exact (h.inv.1 y (mem_cons_self ..)).2.2 rfl
   | some p=>exact he p (List.mem_of_find?_eq_some q)
  | _=>exact h
 | one o a ih =>
  intro env new he hn hb h;have q:=allc (ih env new he hn hb (h.p rfl).1) all0;cases o <;> exact .mk h.inv.1 q
 | two o a b ia ib =>
  intro env new he hn hb h;have hb:bindings a+bindings b<=new.length:=hb;obtain ⟨h1,h2⟩:=h.p rfl;refine .mk all0 (allc (ia env new he hn (by omega) h1) (allc ?_ all0));rw [c1_];exact ib env _ he (hn.drop _) (nd hb) (h2 b (mem_cons_self ..))
 | three o a b c ia ib ic =>
  intro env new he hn hb h;have hb:bindings a+bindings b+bindings c<=new.length:=hb;obtain ⟨h1,h2⟩:=h.p rfl;obtain ⟨h2,h3⟩:=forall_mem_cons.mp h2;refine .mk all0 (allc (ia env new he hn (by omega) h1) ?_);rw [c1_,c1_];exact allc (ib env _ he (hn.drop _) (nd (by omega)) h2) (allc (ic env _ he ((hn.drop _).drop _) (nd (nd (by omega))) (h3 c (mem_cons_self ..))) all0)
 | fn y a ia =>
  intro env new he hn hb h;have hb:1+bindings a<=new.length:=hb;have n1:=hn.head (by omega);exact .mk (allc (ca_ n1 _) all0) (allc (ia _ _ (he.cons n1) (hn.drop 1) (nd hb) (h.p rfl).1) all0)
 | rec_ f y a ia =>
  intro env new he hn hb h;have hb:2+bindings a<=new.length:=hb;have n1:=hn.head (by omega);have n2:=(hn.drop 1).head (nd (by omega));exact .mk (allc (ca_ n1 _) (allc (ca_ n2 _) all0)) (allc (ia _ _ ((he.cons n1).cons n2) (hn.drop 2) (nd hb) (h.p rfl).1) all0)
 | let_ y a b ia ib =>
  intro env new he hn hb h;have hb:1+bindings a+bindings b<=new.length:=hb;have n1:=hn.head (by omega);obtain ⟨h1,h2⟩:=h.p rfl;refine .mk (allc (ca_ n1 _) all0) (allc (ia _ _ he (hn.drop 1) (nd (by omega)) h1) (allc ?_ all0));rw [c1_];exact ib _ _ (he.cons n1) ((hn.drop 1).drop _) (nd (nd (by omega))) (h2 b (mem_cons_self ..))
 | case l a y z b il ia ib =>
 intro env new he hn hb h;have hb:2+bindings l+bindings a+bindings b<=new.length:=hb;obtain ⟨h1,h2⟩:=h.p rfl;obtain ⟨h2,h3⟩:=forall_mem_cons.mp h2;have e:(renamed env (renamed env new l).2 a).2=(new.drop (bindings l)).drop (bindings a):=by rw [c1_,c1_]
 have hd:NW (renamed env (renamed env new l).2 a).2:=e ▸ (hn.drop _).drop _;have hq:2+bindings b<=(renamed env (renamed env new l).2 a).2.length:=e ▸ nd (nd (by omega));have n1:=hd.head (by omega);have n2:=(hd.drop 1).head (nd (by omega));refine .mk (allc (ca_ n1 _) (allc (ca_ n2 _) all0)) (allc (il _ _ he hn (by omega) h1) (allc ?_ (allc (ib _ _ ((he.cons n1).cons n2) (hd.drop 2) (nd hq) (h3 b (mem_cons_self ..))) all0)));rw [c1_];exact ia _ _ he (hn.drop _) (nd (by omega)) h2
theorem i8_ (x:Term):bindings x<=2 * szX x:=by
 induction x with
 | leaf l=>exact zero_le _
 | _=>simp only [bindings,szX];omega
theorem jc_ (i:Nat) (h:i<2000):isName (vName i)=true:=by
 unfold isName vName;have h1:(decimal i).length<=4:=by
  unfold decimal;rw [length_map];exact (Nat.length_toDigits_le_iff (by decide) (by decide)).mpr (by omega)
 have h2:isTaken (118::decimal i)=false:=by
  have q : ∀ t∈Vaunid.taken,t.headD 0≠118:=by left
  refine List.any_eq_false.mpr fun t m e=>q t m ?_;rw [beq_iff_eq.mp e];rfl
 have h3:Vaunid.isWord (118::decimal i)=true:=by
  show (Vaunid.isSmall 118 && (decimal i).all Vaunid.inWord)=true;refine Bool.and_eq_true_iff.mpr ⟨rfl,all_eq_true.mpr fun c m=>?_⟩;have d:=bK_ m;unfold Vaunid.inWord Vaunid.isDigit;rw [decide_eq_true d.1,decide_eq_true d.2];cases Vaunid.isSmall c <;> rfl
 rw [h2,h3,decide_eq_true (show (118::decimal i).length<=MOSTSIGNS by rw [length_cons];unfold MOSTSIGNS;omega)];rfl
theorem Fr.nw {away:List (List Nat)}{B i:Nat}{l:List (List Nat)} (hB:B<=2000) (h:Fr away B i l):NW l:=by
 induction h with
 | nil=>exact all0
 | skip _ _ _ ih=>exact ih
 | take _ q _ ih=>exact allc (jc_ _ (by omega)) ih
section
variable {X:Cx}
theorem jV_:ec_ X (.type "dict") (fun xs H Q=>∃ a zw,xs=[.ref a]/\H a=some (.dK zw)/\∀ l,H l=none->Q (.ref l) (upd H l (.dK zw))):=by
 intro zz s σ H xs us Q I r h;refine x_22 h fun a zw zr2 ha q=>?_;subst zr2;obtain ⟨u,rfl,rx⟩:=gA_ r;cases rx;exact mX_ I (.inl ha) fun p s' hp I'=>⟨.ref p,_,I',rfl,q p hp⟩
theorem boot_dict1:bootBuiltins "dict"=some (.type "dict"):=by left
end
open Vaunid (Token txt word sign renamed bindings vName vNames)
theorem c0_ (p:Nat->Prop) (v:List Nat) : ∀ (w r s:List Nat),(∀ c∈v,p c)->(∀ c∈w,p c)->(∀ c x,r=c::x->¬ p c)->(∀ c x,s=c::x->¬ p c)->v++r=w++s->v=w/\r=s:=by
 induction v with
 | nil =>
  intro w r s _ hw hr _ h;cases w with
  | nil=>exact ⟨rfl,h⟩
  | cons c w=>exact absurd (hw c (mem_cons_self ..)) (hr c _ h)
 | cons c v ih =>
 intro w r s hv hw hr hs h;cases w with
 | nil=>exact absurd (hv c (mem_cons_self ..)) (hs c _ h.symm)
 | cons d w =>
 injection h with h1 h2;obtain ⟨e1,e2⟩:=ih w r s (fun x m=>hv x (mem_cons_of_mem _ m)) (fun x m=>hw x (mem_cons_of_mem _ m)) hr hs h2;exact ⟨by rw [h1,e1],e2⟩
def En (r:List Nat):Prop:=∀ c x,r=c::x->¬ Dl c
theorem en32 (r:List Nat):En (32::r):=fun c x h=>by
 injection h with h1 h2;rw [<- h1];exact fun q=>q.1 rfl
theorem en41 (r:List Nat):En (41::r):=fun c x h=>by
 injection h with h1 h2;rw [<- h1];exact fun q=>q.2 rfl
theorem nH_ (n:Nat):decimal n≠[]:=fun h=>Nat.toDigits_ne_nil (List.map_eq_nil_iff.mp h)
theorem h8_ {m n:Nat} (h:decimal m=decimal n):m=n:=by
 have q:Nat.toDigits 10 m=Nat.toDigits 10 n:=(List.map_inj_right fun x y e=>Char.toNat_inj.mp e).mp h;rw [<- Nat.ofDigitChars_ten_toDigits (n:=m),q,Nat.ofDigitChars_ten_toDigits]
theorem mF_ (z:Int) : ∃ c r,decimalInt z=c::r/\Fg c/\(c=45->r≠[]):=by
 unfold decimalInt;split
 ·exact ⟨_,_,rfl,.inl rfl,fun _=>nH_ _⟩
 cases h:decimal z.natAbs with
 | nil=>exact absurd h (nH_ _)
 | cons c r =>
 have q:=bK_ (n:=z.natAbs) (c:=c) (by rw [h];exact mem_cons_self ..);exact ⟨_,_,rfl,.inr q,fun e=>by omega⟩
theorem lb_ {y z:Int} (h:decimalInt y=decimalInt z):y=z:=by
 unfold decimalInt at h;have no : ∀ {m n:Nat},decimal m=45::decimal n->False:=fun {m n} e=>by
  have:=bK_ (n:=m) (c:=45) (by rw [e];exact mem_cons_self ..);omega
 split at h <;> split at h
 ·injection h with _ h
  have:=h8_ h;omega
 ·exact (no h.symm).elim
 ·exact (no h).elim
 have:=h8_ h;omega
theorem cd_ {x:List Nat} (g:GL (.name x)):isName x=true:=(g x (mem_cons_self ..)).2.2 rfl
theorem gf_ {l:Leaf} (g:GL l):NoD (shownLeaf l):=by
 cases l with
 | name x=>exact (g x (mem_cons_self ..)).2.1
 | num v=>exact (g _ (mem_cons_self ..)).2.1
 | truth b=>cases b <;> (unfold NoD Dl;left)
 | nil=>unfold NoD Dl;left
theorem en_ (v:Lit) : ∃ c r,shownLit v=c::r/\Fg c/\(c=45->r≠[]):=by
 refine x_22 (mF_ v.top) fun c r e h q=>?_;unfold shownLit;rw [e];exact ⟨c,_,rfl,h,fun z=>by
  intro k;exact q z (List.append_eq_nil_iff.mp k).1⟩
theorem oD_ {l:Leaf} (g:GL l) : ∃ c r,shownLeaf l=c::r/\c≠40:=by
 cases l with
 | name x =>
  obtain ⟨⟨c,r,e,h⟩,_⟩:=bW_ (cd_ g);exact ⟨c,r,e,(eW_ (bT_ h)).2⟩
 | num v =>
  refine x_22 (en_ v) fun c r e h _=>?_;exact ⟨c,r,e,by unfold Fg at h;omega⟩
 | truth b=>cases b <;> exact ⟨_,_,rfl,by decide⟩
 | nil=>exact ⟨_,_,rfl,by decide⟩
theorem oB_ {v w:Lit} (h:shownLit v=shownLit w):v=w:=by
 unfold shownLit at h;have tl : ∀ (u:Lit),∀ c x,(if u.low=1 then [] else 47::decimal u.low)++(match u.measure with | none=>[] | some m=>91::(m++[93]))=c::x->¬ Fg c:=fun u c x e=>by
  split at e
  ·cases q:u.measure with
   | none=>rw [q] at e;cases e
   | some m =>
    rw [q] at e;injection e with e1 e2;unfold Fg;omega
  injection e with e1 e2;unfold Fg;omega
 obtain ⟨h1,h2⟩:=c0_ Fg _ _ _ _ (lc_ _) (lc_ _) (tl v) (tl w) h;have ml : ∀ (u:Lit),∀ c x,(match u.measure with | none=>[] | some m=>91::(m++[93]))=c::x->¬ (c=47\/Fg c):=fun u c x e=>by
  cases q:u.measure with
  | none=>rw [q] at e;cases e
  | some m =>
  rw [q] at e;injection e with e1 e2;unfold Fg;omega
 have ll : ∀ (u:Lit),∀ c∈(if u.low=1 then [] else 47::decimal u.low),c=47\/Fg c:=fun u c m=>by
  split at m
  ·cases m
  exact (mem_cons.mp m).elim .inl fun q => .inr (.inr (bK_ q))
 obtain ⟨h3,h4⟩:=c0_ (fun c=>c=47\/Fg c) _ _ _ _ (ll v) (ll w) (ml v) (ml w) h2;obtain ⟨vt,vl,vm⟩:=v;obtain ⟨wt,wl,wm⟩:=w;have e1:vt=wt:=lb_ h1;have e2:vl=wl:=by
  have h3:(if vl=1 then [] else 47::decimal vl)=(if wl=1 then [] else 47::decimal wl):=h3;split at h3 <;> split at h3
  ·omega
  ·cases h3
  ·cases h3
  injection h3 with _ h3;exact h8_ h3
 have e3:vm=wm:=by
  cases vm with
  | none=>cases wm with
   | none=>rfl
   | some m=>cases h4
  | some m=>cases wm with
   | none=>cases h4
   | some m' =>
    injection h4 with _ h4;rw [(List.append_left_inj [93]).mp h4]
 rw [e1,e2,e3]
theorem jq_ {x:List Nat}{c:Nat}{r:List Nat} (h:isName x=true) (e:x=c::r) : ¬ Fg c:=by
 obtain ⟨⟨d,q,e',hs⟩,_⟩:=bW_ h;rw [e'] at e;injection e with e1 e2;unfold Vaunid.isSmall at hs;rw [and_eq_true,decide_eq_true_eq,decide_eq_true_eq] at hs;unfold Fg;omega
theorem iQ_ {x:List Nat}{v:Lit} (h:isName x=true) (e:x=shownLit v):False:=by
 obtain ⟨c,r,e1,hf,_⟩:=en_ v;exact jq_ h (e.trans e1) hf
theorem bV_ {x:List Nat} (h:isName x=true) {w:String} (t:isTaken (txt w)=true) (e:x=txt w):False:=by
 have:=(bW_ h).2.2.2;rw [e,t] at this;cases this
noncomputable def ownW:List String:=["true","false","nil"]
theorem pH_ : ∀ l:Leaf,(∃ x,l = .name x)\/(∃ v,l = .num v)\/∃ w∈ownW,shownLeaf l=txt w
 | .name x => .inl ⟨x,rfl⟩
 | .num v => .inr (.inl ⟨v,rfl⟩)
 | .truth true => .inr (.inr ⟨"true",by decide,rfl⟩)
 | .truth false => .inr (.inr ⟨"false",by decide,rfl⟩)
 | .nil => .inr (.inr ⟨"nil",by decide,rfl⟩)
theorem f6_ {v:Lit}{w:String} (m:w∈ownW) (e:shownLit v=txt w):False:=by
 obtain ⟨c,r,e1,hf,_⟩:=en_ v;have q : ∀ w∈ownW,¬ (((txt w).head?.getD 0=45)\/(48<=(txt w).head?.getD 0/\(txt w).head?.getD 0<=57)):=by left
 rw [e] at e1;have q:=q w m;rw [e1] at q;exact q hf
theorem mB_ {l k:Leaf} (gl:GL l) (gk:GL k) (h:shownLeaf l=shownLeaf k):l=k:=by
 cases l with
 | name x =>
  cases k with
  | name y=>exact congrArg _ h
  | num v=>exact (iQ_ (cd_ gl) h).elim
  | truth b=>cases b <;> exact (bV_ (cd_ gl) (by left) h).elim
  | nil=>exact (bV_ (cd_ gl) (by left) h).elim
 | num v =>
  cases k with
  | name y=>exact (iQ_ (cd_ gk) h.symm).elim
  | num w=>exact congrArg _ (oB_ h)
  | truth b=>cases b <;> exact (f6_ (by decide) h).elim
  | nil=>exact (f6_ (by decide) h).elim
 | truth b =>
  cases k with
  | name y=>cases b <;> exact (bV_ (cd_ gk) (by left) h.symm).elim
  | num w=>cases b <;> exact (f6_ (by decide) h.symm).elim
  | truth c=>revert h;cases b <;> cases c <;> left
  | nil=>revert h;cases b <;> left
 | nil =>
 cases k with
 | name y=>exact (bV_ (cd_ gk) (by left) h.symm).elim
 | num w=>exact (f6_ (by decide) h.symm).elim
 | truth b=>revert h;cases b <;> left
 | nil=>rfl
noncomputable def itX:Term->List Item
 | .leaf _=>[]
 | .one (.pow n) a=>[.p a [],.n n]
 | .one _ a=>[.p a []]
 | .two _ a b=>[.p a [],.p b []]
 | .three _ a b c=>[.p a [],.p b [],.p c []]
 | .fn x a=>[.w x,.p a []]
 | .rec_ f x a=>[.w f,.w x,.p a []]
 | .let_ x a b=>[.w x,.p a [],.p b []]
 | .case l a h t b=>[.p l [],.p a [],.w h,.w t,.p b []]
def GI (P:Term->Prop):Item->Prop
 | .w x=>NoD x
 | .n _=>True
 | .p a l=>P a/\l=[]
noncomputable def Item.kd:Item->Kind
 | .w _ => .name
 | .n _ => .power
 | .p _ _ => .part
noncomputable def itT:Item->List Nat
 | .w x=>x
 | .n m=>decimalInt m
 | .p a _=>coreText a
noncomputable def itsT (l:List Item):List Nat:=l.flatMap fun i=>32::itT i
theorem nA_ {t:Term}{P:Term->Prop} (hw : ∀ w∈az_ t,GW (bb_ t) w) (hp : ∀ y∈aV_ t,P y) : ∀ i∈itX t,GI P i:=by
 have w0 : ∀ {x l},az_ t=x::l->NoD x:=fun e=>(hw _ (by rw [e];exact mem_cons_self ..)).2.1;have w1 : ∀ {x y l},az_ t=x::y::l->NoD y:=fun e=>(hw _ (by rw [e];exact mem_cons_of_mem _ (mem_cons_self ..))).2.1;have p : ∀ {a l},aV_ t=a::l->P a/\∀ y∈l,P y:=fun e=>forall_mem_cons.mp (e ▸ hp);have c : ∀ {a l},(∀ y∈a::l,P y)->P a/\∀ y∈l,P y:=forall_mem_cons.mp;cases t with
 | leaf l=>exact all0
 | one o a =>
  cases o with
  | pow n=>exact allc ⟨(p rfl).1,rfl⟩ (allc trivial all0)
  | _=>exact allc ⟨(p rfl).1,rfl⟩ all0
 | two o a b=>exact allc ⟨(p rfl).1,rfl⟩ (allc ⟨(c (p rfl).2).1,rfl⟩ all0)
 | three o a b c'=>exact allc ⟨(p rfl).1,rfl⟩ (allc ⟨(c (p rfl).2).1,rfl⟩ (allc ⟨(c (c (p rfl).2).2).1,rfl⟩ all0))
 | fn x a=>exact allc (w0 rfl) (allc ⟨(p rfl).1,rfl⟩ all0)
 | rec_ f x a=>exact allc (w0 rfl) (allc (w1 rfl) (allc ⟨(p rfl).1,rfl⟩ all0))
 | let_ x a b=>exact allc (w0 rfl) (allc ⟨(p rfl).1,rfl⟩ (allc ⟨(c (p rfl).2).1,rfl⟩ all0))
 | case l a h t b=>exact allc ⟨(p rfl).1,rfl⟩ (allc ⟨(c (p rfl).2).1,rfl⟩ (allc (w0 rfl) (allc (w1 rfl) (allc ⟨(c (c (p rfl).2).2).1,rfl⟩ all0))))
theorem eU_ {t:Term}{f:Fm} (h:fmX t=some f):(itX t).map Item.kd=f.kinds/\f.mk (itX t)=t/\(itX t).map itT=txX t:=by
 cases t <;> cases h
 case' one o a=>cases o
 case' two o a b=>cases o
 case' three o a b c=>cases o
 all_goals exact ⟨rfl,rfl,rfl⟩
theorem ja_ {t:Term} (h:fmX t=some .app) : ∃ a b,t = .two .app a b:=by
 cases t with
 | two o a b=>cases o with
  | app=>exact ⟨a,b,rfl⟩
  | _=>cases h
 | one o a=>cases o <;> cases h
 | three o a b c=>cases o <;> cases h
 | _=>cases h
theorem hi_ {t:Term}{f:Fm} (h:fmX t=some f) (na:f ≠ .app):coreText t=40::(txt f.word++(itsT (itX t)++[41])):=by
 have e:=(eU_ h).2.2;refine x_01 (ie_ h) fun q1 zz0=>?_;refine x_20 zz0 fun c l q=>?_;have q:txX t=pcT coreText c.2::l.map fun c=>pcT coreText c.2:=by unfold txX;rw [q];rfl
 unfold itsT;rw [q1,<- flatMap_map,e,q,hV_,hdT,if_neg na];simp
theorem i9_ (a b:Term):coreText (.two .app a b)=40::(coreText a++(32::(coreText b++[41]))):=by
 show 40::(([]++(coreText a++(32::coreText b)))++[41])=_;simp
theorem dT_ {t:Term}{f:Fm} (h:fmX t=some f) (na:f ≠ .app) (r:List Nat):coreText t++r=40::(txt f.word++(itsT (itX t)++41::r)):=by
 rw [hi_ h na,cons_append,append_assoc,append_assoc];rfl
theorem e9_ (a b:Term) (r:List Nat):coreText (.two .app a b)++r=40::(coreText a++(32::(coreText b++41::r))):=by
 rw [i9_,cons_append,append_assoc,cons_append,append_assoc];rfl
noncomputable def allF:List Fm:=[.fn,.rec_,.let_,.if_,.pair,.fst,.snd,.cons,.case,.fold,.plus,.minus,.times,.over,.less,.equal,.floor,.rest,.root,.pow]
theorem dQ_ {f:Fm} (h:f ≠ .app):f∈allF:=by cases f <;> first | exact absurd rfl h | decide
theorem lT_ : ∀ f∈allF,∀ g∈allF,txt f.word=txt g.word->f=g:=by left
theorem fN_ {f:Fm} (h:f ≠ .app):NoD (txt f.word):=by
 have : ∀ f∈allF,∀ c∈txt f.word,c≠32/\c≠41:=by left
 exact this f (dQ_ h)
theorem fg_ : ∀ f∈allF,(txt f.word).head?≠some 40/\(isTaken (txt f.word)=true\/((txt f.word).tail=[]/\Vaunid.isSmall ((txt f.word).headD 0)=false))/\(((txt f.word).headD 0=45\/48<=(txt f.word).headD 0/\(txt f.word).headD 0<=57)->txt f.word=[45])/\∀ w∈ownW,¬ txt w=txt f.word:=by left
theorem nP_ : ∀ f∈allF,txt f.word≠[]:=by left
theorem k2_ {l:Leaf} (g:GL l) {f:Fm} (h:f ≠ .app) (e:shownLeaf l=txt f.word):False:=by
 obtain ⟨_,h2,h3,h4⟩:=fg_ f (dQ_ h);rcases pH_ l with ⟨x,rfl⟩ | ⟨v,rfl⟩ | ⟨w,m,ew⟩
 ·have e:x=txt f.word:=e
  rcases h2 with h2 | ⟨_,h2⟩
  ·exact bV_ (cd_ g) h2 e
  obtain ⟨⟨c,r,ex,hs⟩,_⟩:=bW_ (cd_ g);rw [<- e,ex] at h2;rw [show (c::r).headD 0=c from rfl,hs] at h2;cases h2
 ·obtain ⟨c,r,ev,hf,q⟩:=en_ v
  have e:shownLit v=txt f.word:=e;rw [<- e,ev] at h3;have h3:=h3 hf;injection h3 with h5 h6;exact q h5 h6
 exact h4 w m (ew.symm.trans e)
theorem ne_ {x:Term}{k:Fm} (hf:fmX x=some k) : ∃ q,coreText x=40::q:=by
 by_cases hk:k = .app
 ·obtain ⟨b,c,rfl⟩:=ja_ (hk ▸ hf)
  exact ⟨_,i9_ b c⟩
 exact ⟨_,hi_ hf hk⟩
theorem lh_ {a:Term} (g:GT a) {f:Fm} (h:f ≠ .app) {x y:List Nat} (ex:En x) (ey:En y) (e:coreText a++x=txt f.word++y):False:=by
 cases hf:fmX a with
 | none =>
  cases a with
  | leaf l=>exact k2_ g.inv.1 h (c0_ Dl _ _ _ _ (gf_ g.inv.1) (fN_ h) ex ey e).1
  | _=>cases hf
 | some k =>
 obtain ⟨r,q⟩:=ne_ hf;rw [q] at e;have z:=(fg_ f (dQ_ h)).1;cases hw:txt f.word with
 | nil=>exact absurd hw (nP_ f (dQ_ h))
 | cons c w =>
 rw [hw] at e z;injection e with e1 e2;exact z (by rw [<- e1];rfl)
def qj_ (a:Term):Prop:=∀ (u:Term) (r s:List Nat),GT u->En r->En s->coreText a++r=coreText u++s->a=u/\r=s
theorem cU_ (l:List Item) (r:List Nat):En (itsT l++41::r):=by
 cases l with
 | nil=>exact en41 r
 | cons i l=>exact en32 _
theorem oG_ (L:List Item) : ∀ (M:List Item) (r s:List Nat),L.map Item.kd=M.map Item.kd->(∀ i∈L,GI qj_ i)->(∀ i∈M,GI GT i)->itsT L++41::r=itsT M++41::s->L=M/\r=s:=by
 induction L with
 | nil =>
  intro M r s hk _ _ h;cases M with
  | nil=>injection h with _ h;exact ⟨rfl,h⟩
  | cons=>cases hk
 | cons i L ih =>
 intro M r s hk gL gM h;cases M with
 | nil=>cases hk
 | cons j M =>
 injection hk with hk1 hk2;have h:32::(itT i++itsT L)++41::r=32::(itT j++itsT M)++41::s:=h;rw [cons_append,cons_append,append_assoc,append_assoc] at h;injection h with _ h;obtain ⟨gi,gL⟩:=forall_mem_cons.mp gL;obtain ⟨gj,gM⟩:=forall_mem_cons.mp gM;have key:i=j/\itsT L++41::r=itsT M++41::s:=by
  cases i with
  | w x=>cases j with
   | w y =>
    obtain ⟨e1,e2⟩:=c0_ Dl _ _ _ _ gi gj (cU_ _ _) (cU_ _ _) h;exact ⟨congrArg _ e1,e2⟩
   | _=>cases hk1
  | n x=>cases j with
   | n y =>
    obtain ⟨e1,e2⟩:=c0_ Dl _ _ _ _ (hX_ x) (hX_ y) (cU_ _ _) (cU_ _ _) h;exact ⟨congrArg _ (lb_ e1),e2⟩
   | _=>cases hk1
  | p a l=>cases j with
   | p b k =>
    obtain ⟨e1,e2⟩:=gi.1 b _ _ gj.1 (cU_ _ _) (cU_ _ _) h;exact ⟨by rw [e1,gi.2,gj.2],e2⟩
   | _=>cases hk1
 obtain ⟨e1,e2⟩:=ih M r s hk2 gL gM key.2;exact ⟨by rw [key.1,e1],e2⟩
theorem jP_ {t:Term} (h:GT t):qj_ t:=by
 induction h with
 | @mk t hw hp ih =>
 intro u r s gu hr hs h;have nl : ∀ (l:Leaf) (x:Term) (k:Fm) (y z:List Nat),GL l->fmX x=some k->shownLeaf l++y=coreText x++z->False:=fun l x k y z gl hf e=>by
  obtain ⟨q,eq⟩:=ne_ hf;obtain ⟨c,w,el,h40⟩:=oD_ gl;rw [eq,el] at e;injection e with e1 _;exact h40 e1
 have leafy : ∀ x:Term,fmX x=none->∃ l,x = .leaf l:=fun x hx=>by
  cases x with
  | leaf l=>exact ⟨l,rfl⟩
  | _=>cases hx
 cases ft:fmX t with
 | none =>
  obtain ⟨l,rfl⟩:=leafy t ft;cases fu:fmX u with
  | none =>
   obtain ⟨k,rfl⟩:=leafy u fu;obtain ⟨e1,e2⟩:=c0_ Dl _ _ _ _ (gf_ hw) (gf_ gu.inv.1) hr hs h;exact ⟨by rw [mB_ hw gu.inv.1 e1],e2⟩
  | some k=>exact (nl l u k _ _ hw fu h).elim
 | some f =>
 cases fu:fmX u with
 | none =>
  obtain ⟨l,rfl⟩:=leafy u fu;exact (nl l t f _ _ gu.inv.1 ft h.symm).elim
 | some k =>
 by_cases hf:f = .app
 ·obtain ⟨a,b,rfl⟩:=ja_ (hf ▸ ft)
  rw [e9_] at h;by_cases hk:k = .app
  ·obtain ⟨c,d,rfl⟩:=ja_ (hk ▸ fu)
   rw [e9_] at h;injection h with _ h;obtain ⟨e1,e2⟩:=ih a (mem_cons_self ..) c _ _ (gu.p rfl).1 (en32 _) (en32 _) h;injection e2 with _ e2;obtain ⟨e3,e4⟩:=ih b (mem_cons_of_mem _ (mem_cons_self ..)) d _ _ ((gu.p rfl).2 d (mem_cons_self ..)) (en41 _) (en41 _) e2;injection e4 with _ e4;exact ⟨by rw [e1,e3],e4⟩
  rw [dT_ fu hk] at h;injection h with _ h;exact (lh_ (hp a (mem_cons_self ..)) hk (en32 _) (cU_ _ _) h).elim
 rw [dT_ ft hf] at h;by_cases hk:k = .app
 ·obtain ⟨c,d,rfl⟩:=ja_ (hk ▸ fu)
  rw [e9_] at h;injection h with _ h;exact (lh_ (gu.p rfl).1 hf (en32 _) (cU_ _ _) h.symm).elim
 rw [dT_ fu hk] at h;injection h with _ h;obtain ⟨e1,e2⟩:=c0_ Dl _ _ _ _ (fN_ hf) (fN_ hk) (cU_ _ _) (cU_ _ _) h;have efk:=lT_ f (dQ_ hf) k (dQ_ hk) e1;subst efk;obtain ⟨e3,e4⟩:=oG_ _ _ r s ((eU_ ft).1.trans (eU_ fu).1.symm) (nA_ hw ih) (nA_ gu.inv.1 gu.inv.2) e2;exact ⟨by rw [<- (eU_ ft).2.1,e3,(eU_ fu).2.1],e4⟩
theorem m0_ {t u:Term} (gt:GT t) (gu:GT u) (h:coreText t=coreText u):t=u:=by
 refine (jP_ gt u [] [] gu ?_ ?_ (by rw [h])).1 <;> (intro c x e;cases e)
end M
section
set_option maxHeartbeats 2000000
namespace L2
open PySem PySem.Spec PyProof.Rows
open PySem.W (WData Codec OpenSpec Well WellAll ReadsW ReadsAllW)
mutual
inductive Dw (K:Frag) (H:Hp):V->WData->Prop
 | non:Dw K H .non .none
 | bl (b:Bool):Dw K H (.bl b) (.bool b)
 | int (i:Int):Dw K H (.int i) (.int i)
 | str (x:Str):Dw K H (.str x) (.str x)
 | byt (b:Array UInt8):Dw K H (.byt b) (.bytes b.toList)
 | lst {a:Addr}{xs:List V}{ds:List WData}:SqL K H a xs->DwAll K H xs ds->Dw K H (.ref a) (.list ds)
 | tup {a:Addr}{xs:List V}{ds:List WData}:SqT K H a xs->DwAll K H xs ds->Dw K H (.ref a) (.tuple ds)
inductive DwAll (K:Frag) (H:Hp):List V->List WData->Prop
 | nil:DwAll K H [] []
 | cons {v:V}{vs:List V}{d:WData}{ds:List WData}:Dw K H v d->DwAll K H vs ds->DwAll K H (v::vs) (d::ds)
end
theorem lt_ {K:Frag}{H:Hp} : ∀ ns:List Int,DwAll K H (ns.map V.int) (ns.map WData.int)
 | [] => .nil
 | n::r => .cons (.int n) (lt_ r)
theorem hW_ {K:Frag}{H:Hp} : ∀ (ns:List Int) (xs:List V),DwAll K H xs (ns.map WData.int)->xs=ns.map V.int
 | [],xs,h=>by
  cases h;rfl
 | n::r,xs,h=>by
  cases h with
  | cons h1 h2 =>
  cases h1;rw [hW_ r _ h2] <;> rfl
section
variable {P:Program}{w:World}{K:Frag}{H:Hp}{h:Heap}{R:PySem.W.WRecords}{cl:Str->Option Addr}
theorem pl_ {a:Addr}{xs:List V} (hok:HOk P w H h) (KX:K.In h) (q:SqL K H a xs) : ∃ (its:List Value) (o:Obj) (n:Nat),Vals xs its/\h.get? a=some o/\o.cls = .type "list"/\o.data = .seq its.toArray n:=by
 rcases q with q | ⟨o,its,n,e,hc,_,hd,_,hv⟩
 ·refine x_01 ((show aT_ P w H h a (.lst xs) from q.ok hok)) fun _ zz0=>?_
  refine x_21 zz0 fun its n hv e=>?_;exact ⟨its,_,n,hv,e,rfl,rfl⟩
 exact ⟨its.toList,o,n,hv,KX _ _ e,hc,by simp [hd]⟩
theorem pk_ {a:Addr}{xs:List V} (hok:HOk P w H h) (KX:K.In h) (q:SqT K H a xs) : ∃ (its:List Value) (o:Obj) (n:Nat),Vals xs its/\h.get? a=some o/\o.cls = .type "tuple"/\o.data = .seq its.toArray n:=by
 rcases q with q | ⟨o,its,n,e,hc,hd,_,hv⟩
 ·obtain ⟨_,its,hv,o,e,hc,n,hd⟩:=(show aT_ P w H h a (.tup xs) from q.ok hok)
  exact ⟨its,o,n,hv,e,hc,hd⟩
 exact ⟨its.toList,o,n,hv,KX _ _ e,hc,by simp [hd]⟩
mutual
theorem Dw.reads (hok:HOk P w H h) (KX:K.In h) : ∀ (d:WData) (v:V) (u:Value),Dw K H v d->RelV v u->∃ as,ReadsW R cl h u d as
 | .none,_,_,x,r=>by
  cases x;cases r;exact ⟨_,ReadsW.none⟩
 | .bool b,_,_,x,r=>by
  cases x;cases r;exact ⟨_,ReadsW.bool b⟩
 | .int i,_,_,x,r=>by
  cases x;obtain ⟨t,rfl⟩:=r;exact ⟨_,ReadsW.int i t⟩
 | .str s,_,_,x,r=>by
  cases x;obtain ⟨t,rfl⟩:=r;exact ⟨_,ReadsW.str s t⟩
 | .bytes b,_,_,x,r=>by
  cases x;obtain ⟨t,rfl⟩:=r;exact ⟨_,ReadsW.bytes _ t⟩
 | .list ds,_,_,x,r=>by
  cases x with
  | lst hs ha =>
  cases r;obtain ⟨its,o,n,rv,ho,hc,hd⟩:=pl_ hok KX hs;obtain ⟨as,hr⟩:=Dw.readsAll hok KX ds _ its ha rv;exact ⟨_,ReadsW.list ho hc hd hr⟩
 | .tuple ds,_,_,x,r=>by
  cases x with
  | tup hs ha =>
  cases r;obtain ⟨its,o,n,rv,ho,hc,hd⟩:=pk_ hok KX hs;obtain ⟨as,hr⟩:=Dw.readsAll hok KX ds _ its ha rv;exact ⟨_,ReadsW.tuple ho hc hd hr⟩
 | .float _,_,_,x,_=>by cases x
 | .dict _,_,_,x,_=>by cases x
 | .bytearray _,_,_,x,_=>by cases x
 | .set _,_,_,x,_=>by cases x
 | .frozenset _,_,_,x,_=>by cases x
 | .obj _ _,_,_,x,_=>by cases x
theorem Dw.readsAll (hok:HOk P w H h) (KX:K.In h) : ∀ (ds:List WData) (vs:List V) (us:List Value),DwAll K H vs ds->Vals vs us->∃ as,ReadsAllW R cl h us ds as
 | [],_,_,x,r=>by
  cases x;cases r;exact ⟨_,ReadsAllW.nil⟩
 | d::ds,_,_,x,r=>by
  cases x with
  | cons h1 h2 =>
  cases r with
  | cons r1 r2 =>
  obtain ⟨as,q1⟩:=Dw.reads hok KX d _ _ h1 r1;obtain ⟨bs,q2⟩:=Dw.readsAll hok KX ds _ _ h2 r2;exact ⟨_,ReadsAllW.cons q1 q2⟩
end
end
mutual
def plW:WData->Bool
 | .none=>true
 | .bool _=>true
 | .int _=>true
 | .str _=>true
 | .bytes _=>true
 | .list xs=>plWs xs
 | .tuple xs=>plWs xs
 | _=>false
def plWs:List WData->Bool
 | []=>true
 | x::r=>plW x && plWs r
end
theorem iD_ {α:Type}{f:α->WData} (h : ∀ a,plW (f a)=true) : ∀ l:List α,plWs (l.map f)=true
 | []=>rfl
 | x::r=>by
  show (plW (f x) && plWs (r.map f))=true;rw [h x,iD_ h r] <;> rfl
theorem d0_ : ∀ (c:Codec) (a:c.denote),plW (c.enc a)=true
 | .unit,_=>rfl
 | .bool,_=>rfl
 | .int _ _,_=>rfl
 | .nat _ _,_=>rfl
 | .u8,_=>rfl
 | .bytes _ _,_=>rfl
 | .text _ _ _ _,_=>rfl
 | .list _ _ c,a=>iD_ (fun x=>d0_ c x) a
 | .pair c d,a=>by
  show (plW (c.enc a.1) && (plW (d.enc a.2) && true))=true;rw [d0_ c a.1,d0_ d a.2] <;> rfl
 | .triple c d e,a=>by
  show (plW (c.enc a.1) && (plW (d.enc a.2.1) && (plW (e.enc a.2.2) && true)))=true;rw [d0_ c a.1,d0_ d a.2.1,d0_ e a.2.2] <;> rfl
 | .option c,none=>rfl
 | .option c,some x=>d0_ c x
theorem gV_ : ∀ (cs:List Codec) (a:Codec.denoteAll cs),plWs (Codec.encAll cs a)=true
 | [],_=>rfl
 | c::cs,a=>by
  show (plW (c.enc a.1) && plWs (Codec.encAll cs a.2))=true;rw [d0_ c a.1,gV_ cs a.2] <;> rfl
theorem dC_ : ∀ {xs:List WData}{d:WData},d∈xs->d.weight<=WData.weightAll xs
 | [],d,h=>absurd h (by simp)
 | x::r,d,h=>by
  show d.weight<=x.weight+1+WData.weightAll r;rcases mem_cons.mp h with e | m
  ·rw [e]
   omega
  have z:=dC_ m;omega
noncomputable def toV:Value->V
 | .none => .non
 | .bool b => .bl b
 | .int i _ => .int i
 | .str x _ => .str x
 | .bytes b _ => .byt b
 | .ref a => .ref a
 | _ => .non
def OkU (A:List Addr):Value->Prop
 | .none=>True
 | .bool _=>True
 | .int _ _=>True
 | .str _ _=>True
 | .bytes _ _=>True
 | .ref a=>a∈A
 | _=>False
theorem OkU.mono {A B:List Addr} (h : ∀ a∈A,a∈B) : ∀ {u:Value},OkU A u->OkU B u:=fun {u} x=>by
 cases u with
 | ref a=>exact h a x
 | none=>trivial
 | bool b=>trivial
 | int i t=>trivial
 | str s t=>trivial
 | bytes b t=>trivial
 | _=>exact False.elim x
theorem md_ {A:List Addr}{u:Value} (x:OkU A u):RelV (toV u) u:=by
 cases u with
 | ref a=>rfl
 | none=>rfl
 | bool b=>rfl
 | int i t=>exact ⟨t,rfl⟩
 | str s t=>exact ⟨t,rfl⟩
 | bytes b t=>exact ⟨t,rfl⟩
 | _=>exact False.elim x
theorem cC_ {A:List Addr} : ∀ {vs:List Value},(∀ u∈vs,OkU A u)->Vals (vs.map toV) vs
 | [],_ => .nil
 | u::r,h => .cons (md_ (h u (mem_cons_self ..))) (cC_ fun x hx=>h x (mem_cons_of_mem _ hx))
def ee_ (h:Heap) (A:List Addr) (a:Addr):Prop:=∃ vs:List Value,vs.length<=sizeLine/\(∀ u∈vs,OkU A u) /\
 (h.get? a=some { cls := .type "list",data := .seq vs.toArray }\/h.get? a=some { cls := .type "tuple",data := .seq vs.toArray })
theorem ee_.mono {h:Heap}{A B:List Addr}{a:Addr} (k : ∀ a∈A,a∈B) (x:ee_ h A a):ee_ h B a:=by
 obtain ⟨vs,h1,h2,h3⟩:=x;exact ⟨vs,h1,fun u hu=>(h2 u hu).mono k,h3⟩
theorem b6_ {P:Params}{h:Heap} : ∀ {vs:List Value}{ds:List WData},WellAll P h vs ds->vs.length=ds.length
 | _,_,.nil=>rfl
 | _,_,.cons _ b=>by
  show _+1=_+1;rw [b6_ b]
theorem gv_ {P:Params}{h:Heap}{v:Value}{ds:List WData} (x:Well P h v (.list ds)) : ∃ (a:Addr) (vs:List Value),v = .ref a/\h.get? a=some { cls := .type "list",data := .seq vs.toArray }/\WellAll P h vs ds:=by
 cases x with
 | list ho hall=>exact ⟨_,_,rfl,ho,hall⟩
theorem fi_ {P:Params}{h:Heap}{v:Value}{ds:List WData} (x:Well P h v (.tuple ds)) : ∃ (a:Addr) (vs:List Value),v = .ref a/\h.get? a=some { cls := .type "tuple",data := .seq vs.toArray }/\WellAll P h vs ds:=by
 cases x with
 | tuple ho hall=>exact ⟨_,_,rfl,ho,hall⟩
theorem gw_ {P:Params}{h:Heap}{us:List Value}{d:WData}{ds:List WData} (x:WellAll P h us (d::ds)) : ∃ (v:Value) (vs:List Value),us=v::vs/\Well P h v d/\WellAll P h vs ds:=by
 cases x with
 | cons a b=>exact ⟨_,_,rfl,a,b⟩
theorem k0_ {n:Nat} (h:n<=1048576):n<=sizeLine:=Nat.le_trans h (by decide)
section
variable {P:Params}{h:Heap}
mutual
theorem m3_ : ∀ (d:WData) (v:Value),Well P h v d->plW d=true->d.weight<=1048576->∃ A:List Addr,OkU A v/\∀ a∈A,ee_ h A a
 | .none,_,x,_,_=>by
  cases x;exact ⟨[],trivial,fun a m=>absurd m (by simp)⟩
 | .bool b,_,x,_,_=>by
  cases x;exact ⟨[],trivial,fun a m=>absurd m (by simp)⟩
 | .int i,_,x,_,_=>by
  cases x;exact ⟨[],trivial,fun a m=>absurd m (by simp)⟩
 | .str s,_,x,_,_=>by
  cases x;exact ⟨[],trivial,fun a m=>absurd m (by simp)⟩
 | .bytes b,_,x,_,_=>by
  cases x;exact ⟨[],trivial,fun a m=>absurd m (by simp)⟩
 | .list ds,_,x,p,z=>by
  refine x_22 (gv_ x) fun a vs zr2 ho hall=>?_;subst zr2;have z2:WData.weightAll ds<=1048576:=z;obtain ⟨A,h1,h2⟩:=es_ ds _ hall p fun d hd=>Nat.le_trans (dC_ hd) z2;have k : ∀ b∈A,b∈a::A:=fun b hb=>mem_cons_of_mem _ hb;refine ⟨a::A,mem_cons_self ..,fun b hb=>?_⟩;rcases mem_cons.mp hb with e | m
  ·rw [e]
   exact ⟨vs,k0_ (by rw [b6_ hall];exact Nat.le_trans (PySem.W.length_le_weightAllW ds) z2),fun u hu=>(h1 u hu).mono k,.inl ho⟩
  exact (h2 b m).mono k
 | .tuple ds,_,x,p,z=>by
  refine x_22 (fi_ x) fun a vs zr2 ho hall=>?_;subst zr2;have z2:WData.weightAll ds<=1048576:=z;obtain ⟨A,h1,h2⟩:=es_ ds _ hall p fun d hd=>Nat.le_trans (dC_ hd) z2;have k : ∀ b∈A,b∈a::A:=fun b hb=>mem_cons_of_mem _ hb;refine ⟨a::A,mem_cons_self ..,fun b hb=>?_⟩;rcases mem_cons.mp hb with e | m
  ·rw [e]
   exact ⟨vs,k0_ (by rw [b6_ hall];exact Nat.le_trans (PySem.W.length_le_weightAllW ds) z2),fun u hu=>(h1 u hu).mono k,.inr ho⟩
  exact (h2 b m).mono k
 | .float _,_,_,p,_=>Bool.noConfusion (show false=true from p)
 | .dict _,_,_,p,_=>Bool.noConfusion (show false=true from p)
 | .bytearray _,_,_,p,_=>Bool.noConfusion (show false=true from p)
 | .set _,_,_,p,_=>Bool.noConfusion (show false=true from p)
 | .frozenset _,_,_,p,_=>Bool.noConfusion (show false=true from p)
 | .obj _ _,_,_,p,_=>Bool.noConfusion (show false=true from p)
theorem es_ : ∀ (ds:List WData) (vs:List Value),WellAll P h vs ds->plWs ds=true->(∀ d∈ds,d.weight<=1048576)->∃ A:List Addr,(∀ u∈vs,OkU A u)/\∀ a∈A,ee_ h A a
 | [],_,x,_,_=>by
  cases x;exact ⟨[],fun u m=>absurd m (by simp),fun a m=>absurd m (by simp)⟩
 | d::ds,_,x,p,z=>by
  refine x_22 (gw_ x) fun v vs zr2 x1 x2=>?_;subst zr2;have q:plW d=true/\plWs ds=true:=Bool.and_eq_true_iff.mp p;obtain ⟨A,a1,a2⟩:=m3_ d v x1 q.1 (z d (mem_cons_self ..));obtain ⟨B,b1,b2⟩:=es_ ds vs x2 q.2 fun e he=>z e (mem_cons_of_mem _ he);have kA : ∀ b∈A,b∈A++B:=fun b hb=>mem_append.mpr (.inl hb);have kB : ∀ b∈B,b∈A++B:=fun b hb=>mem_append.mpr (.inr hb);refine ⟨A++B,fun u hu=>?_,fun b hb=>?_⟩
  ·rcases mem_cons.mp hu with e | m
   ·rw [e]
    exact a1.mono kA
   exact (b1 u m).mono kB
  rcases mem_append.mp hb with m | m
  ·exact (a2 b m).mono kA
  exact (b2 b m).mono kB
end
end
noncomputable def hoOf (o:Obj):Option HO:=match o.data with
 | .seq vs _=>if (o.cls == Value.type "list")=true then some (.frz o (.lst (vs.toList.map toV))) else some (.frz o (.tup (vs.toList.map toV)))
 | _=>none
noncomputable def argH (K:Frag) (h:Heap) (A:List Addr):Hp:=fun b=>if b∈A then (if (K.lookup b).isNone=true then (h.get? b).bind hoOf else none) else none
def lR_ (H:Hp):Prop:=∀ b,H b=none\/∃ o u,H b=some (.frz o u)
theorem iV_ (vs:List Value):hoOf { cls := .type "list",data := .seq vs.toArray }=some (.frz { cls := .type "list",data := .seq vs.toArray } (.lst (vs.map toV))):=by
 show (if (Value.type "list" == Value.type "list")=true then some (HO.frz { cls := .type "list",data := .seq vs.toArray } (.lst (vs.toArray.toList.map toV))) else some (HO.frz { cls := .type "list",data := .seq vs.toArray } (.tup (vs.toArray.toList.map toV))))=_;rw [if_pos (beq_self_eq_true _)]
theorem iU_ (vs:List Value):hoOf { cls := .type "tuple",data := .seq vs.toArray }=some (.frz { cls := .type "tuple",data := .seq vs.toArray } (.tup (vs.map toV))):=by
 show (if (Value.type "tuple" == Value.type "list")=true then some (HO.frz { cls := .type "tuple",data := .seq vs.toArray } (.lst (vs.toArray.toList.map toV))) else some (HO.frz { cls := .type "tuple",data := .seq vs.toArray } (.tup (vs.toArray.toList.map toV))))=_;rw [if_neg (by decide)]
section
variable {P:Program}{w:World}{K:Frag}{h:Heap}{A:List Addr}
theorem gq_ {b:Addr}{o:Obj} (hb:b∈A) (hk:K.lookup b=none) (e:h.get? b=some o):argH K h A b=hoOf o:=by
 unfold argH;rw [if_pos hb,hk,if_pos (show (none:Option Obj).isNone=true from rfl),e] <;> rfl
theorem ow_ {b:Addr}{u:HO} (q:argH K h A b=some u):b∈A/\K.lookup b=none:=by
 unfold argH at q;by_cases hb:b∈A
 ·rw [if_pos hb] at q
  cases hk:K.lookup b with
  | none=>exact ⟨hb,rfl⟩
  | some o =>
  rw [hk,if_neg (by simp)] at q;cases q
 rw [if_neg hb] at q;cases q
theorem gp_ (ar : ∀ a∈A,ee_ h A a) {b:Addr}{u:HO} (q:argH K h A b=some u):K.lookup b=none/\∃ vs:List Value,vs.length<=sizeLine/\(∀ u∈vs,OkU A u) /\
  ((h.get? b=some { cls := .type "list",data := .seq vs.toArray }/\u = .frz { cls := .type "list",data := .seq vs.toArray } (.lst (vs.map toV))) \/
   (h.get? b=some { cls := .type "tuple",data := .seq vs.toArray }/\u = .frz { cls := .type "tuple",data := .seq vs.toArray } (.tup (vs.map toV)))):=by
 obtain ⟨hb,hk⟩:=ow_ q;refine x_12 (ar b hb) fun vs h1 h2 h3=>?_;refine ⟨hk,vs,h1,h2,?_⟩;rcases h3 with e | e
 ·rw [gq_ hb hk e,iV_] at q
  exact .inl ⟨e,(Option.some.inj q).symm⟩
 rw [gq_ hb hk e,iU_] at q;exact .inr ⟨e,(Option.some.inj q).symm⟩
theorem lO_ (ar : ∀ a∈A,ee_ h A a):lR_ (argH K h A):=fun b=>by
 cases q:argH K h A b with
 | none=>exact .inl rfl
 | some u =>
 refine x_01 (gp_ ar q) fun _ zz0=>?_;refine x_12 zz0 fun vs _ _ zn4=>?_;obtain ⟨_,e⟩ | ⟨_,e⟩:=zn4
 ·exact .inr ⟨_,_,by rw [e]⟩
 exact .inr ⟨_,_,by rw [e]⟩
theorem o1_ (ar : ∀ a∈A,ee_ h A a):HOk P w (argH K h A) h:=fun b u q=>by
 obtain ⟨_,vs,h1,h2,⟨e,rfl⟩ | ⟨e,rfl⟩⟩:=gp_ ar q
 ·exact ⟨e,by rw [length_map];exact h1,vs,_,cC_ h2,e⟩
 exact ⟨e,by rw [length_map];exact h1,vs,cC_ h2,_,e,rfl,_,rfl⟩
theorem fW_ {c c':Value}{vs us:List Value} (e:(some { cls:=c,data := .seq vs.toArray }:Option Obj)=some { cls:=c',data := .seq us.toArray }):c=c'/\vs=us:=by
 have e1:=Option.some.inj e;have e2:c=c':=congrArg Obj.cls e1;have e3:Data.seq vs.toArray=Data.seq us.toArray:=congrArg Obj.data e1;injection e3 with e4;refine ⟨e2,?_⟩;have e5:=congrArg Array.toList e4;simpa using e5
theorem argL (KX:K.In h) (ar : ∀ a∈A,ee_ h A a) {a:Addr}{vs:List Value} (ha:a∈A) (e:h.get? a=some { cls := .type "list",data := .seq vs.toArray }):(∀ u∈vs,OkU A u)/\SqL K (argH K h A) a (vs.map toV):=by
 refine x_12 (ar a ha) fun us h1 h2 h3=>?_;have hu:us=vs:=by
  rcases h3 with q | q
  ·rw [e] at q
   exact (fW_ q).2.symm
  rw [e] at q;exact absurd (Value.type.inj (fW_ q).1) (by decide)
 subst hu;refine ⟨h2,?_⟩;cases hk:K.lookup a with
 | none=>exact .inl (.inr ⟨_,by rw [gq_ ha hk e,iV_]⟩)
 | some o =>
 have e2:=KX a o hk;rw [e] at e2;obtain rfl:=Option.some.inj e2;exact .inr ⟨_,us.toArray,_,hk,rfl,rfl,rfl,by rw [size_toArray];exact h1,by simpa using cC_ h2⟩
theorem argT (KX:K.In h) (ar : ∀ a∈A,ee_ h A a) {a:Addr}{vs:List Value} (ha:a∈A) (e:h.get? a=some { cls := .type "tuple",data := .seq vs.toArray }):(∀ u∈vs,OkU A u)/\SqT K (argH K h A) a (vs.map toV):=by
 refine x_12 (ar a ha) fun us h1 h2 h3=>?_;have hu:us=vs:=by
  rcases h3 with q | q
  ·rw [e] at q
   exact absurd (Value.type.inj (fW_ q).1) (by decide)
  rw [e] at q;exact (fW_ q).2.symm
 subst hu;refine ⟨h2,?_⟩;cases hk:K.lookup a with
 | none=>exact .inl (.inr ⟨_,by rw [gq_ ha hk e,iU_]⟩)
 | some o =>
 have e2:=KX a o hk;rw [e] at e2;obtain rfl:=Option.some.inj e2;exact .inr ⟨_,us.toArray,_,hk,rfl,rfl,by rw [size_toArray];exact h1,by simpa using cC_ h2⟩
mutual
theorem p7_ {Pm:Params} (KX:K.In h) (ar : ∀ a∈A,ee_ h A a) : ∀ (d:WData) (v:Value),Well Pm h v d->plW d=true->OkU A v->Dw K (argH K h A) (toV v) d
 | .none,_,x,_,_=>by
  cases x;exact .non
 | .bool b,_,x,_,_=>by
  cases x;exact .bl b
 | .int i,_,x,_,_=>by
  cases x;exact .int i
 | .str s,_,x,_,_=>by
  cases x;exact .str s
 | .bytes b,_,x,_,_=>by
  cases x;have z:=Dw.byt (K:=K) (H:=argH K h A) b.toArray;exact z
 | .list ds,_,x,p,hu=>by
  obtain ⟨a,vs,rfl,ho,hall⟩:=gv_ x;obtain ⟨h2,hs⟩:=argL KX ar hu ho;exact .lst hs (i1_ KX ar ds _ hall p h2)
 | .tuple ds,_,x,p,hu=>by
  obtain ⟨a,vs,rfl,ho,hall⟩:=fi_ x;obtain ⟨h2,hs⟩:=argT KX ar hu ho;exact .tup hs (i1_ KX ar ds _ hall p h2)
 | .float _,_,_,p,_=>Bool.noConfusion (show false=true from p)
 | .dict _,_,_,p,_=>Bool.noConfusion (show false=true from p)
 | .bytearray _,_,_,p,_=>Bool.noConfusion (show false=true from p)
 | .set _,_,_,p,_=>Bool.noConfusion (show false=true from p)
 | .frozenset _,_,_,p,_=>Bool.noConfusion (show false=true from p)
 | .obj _ _,_,_,p,_=>Bool.noConfusion (show false=true from p)
theorem i1_ {Pm:Params} (KX:K.In h) (ar : ∀ a∈A,ee_ h A a) : ∀ (ds:List WData) (vs:List Value),WellAll Pm h vs ds->plWs ds=true->(∀ u∈vs,OkU A u)->DwAll K (argH K h A) (vs.map toV) ds
 | [],_,x,_,_=>by
  cases x;exact .nil
 | d::ds,_,x,p,hu=>by
  obtain ⟨v,vs,rfl,x1,x2⟩:=gw_ x;have q:plW d=true/\plWs ds=true:=Bool.and_eq_true_iff.mp p;exact .cons (p7_ KX ar d v x1 q.1 (hu _ (mem_cons_self ..))) (i1_ KX ar ds vs x2 q.2 fun u m=>hu u (mem_cons_of_mem _ m))
end
end
theorem ki_ {P:Program}{w:World}{K:Frag}{mg mb:zM}{CX:CXT}{k:Nat}{fa:Addr}{fd:FuncData}{ps:List Str}{sp:Sp}{s₁:Shared}{vals:List Value}{ds:List WData}{R:PySem.W.WRecords}{cl:Str->Option Addr}{d0:WData}
  (KX:K.In s₁.heap) (hns:s₁.heap.Ns mainGlobals mg) (hb:s₁.heap.Ns builtinsNs mb) (hbb : ∀ x:Str,x≠"__name__"->mb x=bootBuiltins x) (hlim:s₁.heap.NoLimit) (hg:s₁.gens = #[])
  (hwl:WellAll w.params s₁.heap vals ds) (hpl:plWs ds=true) (hwt : ∀ d∈ds,d.weight<=1048576) (hr:Room k callerA)
  (F : ∀ base:Heap,K.In base->base.Ns mainGlobals mg->FnOk P w K mg base CX k fa fd ps sp) (hbind : ∀ (s:Shared) (us:List Value),us.length=ps.length->BindsTo s fd ⟨us,[]⟩ (ps.zip us)) (zr:ds.length=ps.length)
  (hsp : ∀ (H:Hp) (xs:List V),lR_ H->DwAll K H xs ds->sp xs H (fun v H'=>Dw K H' v d0) fun _ _ _=>False)
  (hCX : ∀ H e s',CX [] H s₁ (fun _ _ _=>False) e s'->False) :
  codeAny (model P w) callerA (.call (.ref fa) ⟨vals,[]⟩) (fun r s'=>∃ u as,r = .ok (.ret u)/\ReadsW R cl s'.heap u d0 as/\OldK s₁.heap s'.heap/\s'.os=s₁.os/\AllBare s'.gens) s₁:=by
 obtain ⟨A,ho,ar⟩:=es_ ds vals hwl hpl hwt;have hO:lR_ (argH K s₁.heap A):=lO_ ar;have hok:HOk P w (argH K s₁.heap A) s₁.heap:=o1_ ar;have hS:=i1_ KX ar ds vals hwl hpl ho;have hV:=cC_ ho;have hK : ∀ b u,argH K s₁.heap A b=some u->K.lookup b=none:=fun b u q=>(gp_ ar q).1;have noA : ∀ {b:Addr}{o:Obj}{es:Array DictEntry}{ep:Nat},s₁.heap.get? b=some o->o.data = .dict es ep->argH K s₁.heap A b=none:=fun {b o es ep} e d=>by
  cases q:argH K s₁.heap A b with
  | none=>rfl
  | some u =>
  obtain ⟨_,vs,_,_,⟨e2,_⟩ | ⟨e2,_⟩⟩:=gp_ ar q
  ·rw [e2] at e
   cases e;have d':Data.seq vs.toArray _=Data.dict es ep:=d;cases d'
  rw [e2] at e;cases e;have d':Data.seq vs.toArray _=Data.dict es ep:=d;cases d'
 generalize argH K s₁.heap A=H at hO hok hS hK noA;have base_of : ∀ {b:Addr}{o:Obj},s₁.heap.get? b=some o->H b=none->(hidT s₁.heap H).get? b=some o:=fun e n=>mH_ e n;have nsK : ∀ {b:Addr}{m:zM},s₁.heap.Ns b m->(hidT s₁.heap H).Ns b m:=fun {b m} ⟨o,es,ep,e,d,r⟩=>⟨o,es,ep,base_of e (noA e d),d,r⟩;have nK : ∀ b o,K.lookup b=some o->H b=none:=fun b o e=>by
  cases q:H b with
  | none=>rfl
  | some u =>
  rw [hK b u q] at e;cases e
 have hKb:K.In (hidT s₁.heap H):=fun b o e=>base_of (KX b o e) (nK b o e);have hM:Mod K mg (hidT s₁.heap H):=⟨hKb,nsK hns,⟨mb,nsK hb,hbb⟩,let ⟨mc,h1,h2⟩:=hlim;⟨mc,nsK h1,h2⟩⟩;have e0:Env0 P w K mg (hidT s₁.heap H) callerA [] s₁ H:=⟨rfl,hM,fun b o e=>ov_ e,Nat.le_of_eq (lf_ _ _),trivial,fun b hb=>absurd (show b∈([]:List Addr) from hb) (by simp),hok,.of_eq hg⟩;have hl:vals.length=ps.length:=by rw [b6_ hwl];exact zr
 refine codeAny_mono ((F _ hKb (nsK hns)).run callerA [] s₁ H ⟨vals,[]⟩ vals (vals.map toV) _ _ hr e0 (hbind s₁ vals hl) hV (hsp H _ hO hS)) fun r s' x=>?_;cases r with
 | error e=>exact (hCX H e s' x).elim
 | ok fl =>
 cases fl with
 | next=>exact False.elim x
 | brk=>exact False.elim x
 | cont=>exact False.elim x
 | ret u =>
 refine x_20 x fun v H' zy=>x_05 zy fun os bare un hok' r' q=>?_;have kept : ∀ b o,s₁.heap.get? b=some o->s'.heap.get? b=some o:=fun b o e=>by
  cases q2:H b with
  | none=>exact un.keep b o e q2 (by intro z;exact absurd (show b∈([]:List Addr) from z) (by simp)) (by simp)
  | some u2 =>
  rcases hO b with z | ⟨ob,u3,z⟩
  ·rw [q2] at z
   cases z
  have z2:=un.frzs b ob _ z;obtain ⟨e1,_⟩:=hok b _ z;obtain ⟨e2,_⟩:=hok' b _ z2;rw [e] at e1;cases e1;exact e2
 have KX':K.In s'.heap:=fun b o e=>kept b o (KX b o e);obtain ⟨as,hrd⟩:=Dw.reads (R:=R) (cl:=cl) hok' KX' d0 v u q r';exact ⟨u,as,rfl,hrd,OldK.of_keep kept,os,bare⟩
theorem fd_ {ds:List WData} (h:WData.layableAll ds=true) : ∀ d∈ds,d.weight<=1048576:=fun d hd =>
 (PySem.W.layableW_iff.mp (all_eq_true.mp h d hd)).2.2
theorem fF_ : ∀ (cs:List Codec) (a:Codec.denoteAll cs),(Codec.encAll cs a).length=cs.length
 | [],_=>rfl
 | c::cs,a=>by
  show (Codec.encAll cs a.2).length+1=cs.length+1;rw [fF_ cs a.2]
theorem j0_ {r:OpenSpec}{k:Nat}{q:Program}{loose:List Str}{XP:(zM)->Heap->Prop}{YP:World->Heap->Prop}{d:DefRec}{K:Params->Frag}{CX:World->CXT}{ps:List Str}{sp:World->Sp}
  (hwell:r.wellSaid=true) (hdf:d.params.defaults=[]) (zr:r.args.length=ps.length) (hr:Room k callerA)
  (hY : ∀ (w:World) (h:Heap),YP w h->(K w.params).In h)
  (F : ∀ (w:World) (mg:zM) (fa:Addr) (h:Heap),YP w h->(K w.params).In h->h.Ns mainGlobals mg->mg d.name=some (.ref fa) ->
   ∃ fd:FuncData,(∀ (s:Shared) (us:List Value),us.length=ps.length->BindsTo s fd ⟨us,[]⟩ (ps.zip us)) /\
    ∀ base:Heap,(K w.params).In base->base.Ns mainGlobals mg->FnOk r.prog w (K w.params) mg base (CX w) k fa fd ps (sp w))
  (hsp : ∀ (w:World) (H:Hp) (xs:List V) (a:Codec.denoteAll r.args),lR_ H->Codec.withinAll r.args a=true->Codec.app r.args r.asked a=true->DwAll (K w.params) H xs (Codec.encAll r.args a) ->
   sp w xs H (fun v H'=>Dw (K w.params) H' v (r.ret.enc (Codec.app r.args r.f a))) fun _ _ _=>False)
  (hCX : ∀ (w:World) (H:Hp) (s:Shared) (e:Value) (s':Shared),CX w [] H s (fun _ _ _=>False) e s'->False) :
  PySem.W.WalkOS q loose XP YP r d [] (fun f vs=>PySem.call f vs):=by
 intro w s_0 s₁ mg mb G Y fa o pm cd doc dV kV ho hd hcd hD hmg hg args vals as hpre hlay hrd hwl hlo;obtain ⟨a,e1,e2⟩:=PySem.W.os_pre_some hpre;obtain ⟨e3,hwi⟩:=Codec.encAll_of_decAll r.args args a e1;subst e3;have KX:=hY w _ Y;obtain ⟨fd,hb,hF⟩:=F w mg fa _ Y KX G.T.g hmg;refine PySem.W.enter_call (codeAny_mono (ki_ (R:=[]) (cl:=classAt s_0.heap) (d0:=r.ret.enc (Codec.app r.args r.f a)) KX G.T.g G.T.b G.T.builtins G.T.nolimit hg hwl (gV_ _ _) (fd_ hlay) hr hF hb (by rw [fF_];exact zr)
  (fun H xs hO hS=>hsp w H xs a hO hwi e2 hS) fun H e s'=>hCX w H s₁ e s') fun r' s' hq=>?_)
 obtain ⟨u,as',rfl,h1,h2,h3,h4⟩:=hq;exact ⟨.inl ⟨u,_,as',rfl,fun _=>rfl,h1,(OpenSpec.post_iff hwell hwi _ _).mpr rfl,fun z=>Bool.noConfusion (show false=true from z)⟩,h2,h3,h4⟩
theorem jb_ {r:OpenSpec}{k:Nat}{q:Program}{loose:List Str}{XP:(zM)->Heap->Prop}{YP:World->Heap->Prop}{d:DefRec}{K:Params->Frag}{CX:CXT}{ps:List Str}{sp:Frag->Sp}
  (hwell:r.wellSaid=true) (hdf:d.params.defaults=[]) (zr:r.args.length=ps.length) (hr:Room k callerA)
  (hY : ∀ (w:World) (h:Heap),YP w h->(K w.params).In h)
  (F : ∀ (w:World) (mg:zM) (fa:Addr) (h:Heap),YP w h->(K w.params).In h->h.Ns mainGlobals mg->mg d.name=some (.ref fa) ->
   ∃ fd:FuncData,(∀ (s:Shared) (us:List Value),us.length=ps.length->BindsTo s fd ⟨us,[]⟩ (ps.zip us)) /\
    ∀ base:Heap,(K w.params).In base->base.Ns mainGlobals mg->FnOk r.prog w (K w.params) mg base CX k fa fd ps (sp (K w.params)))
  (hsp : ∀ (K:Frag) (H:Hp) (xs:List V) (a:Codec.denoteAll r.args),lR_ H->Codec.withinAll r.args a=true->Codec.app r.args r.asked a=true->DwAll K H xs (Codec.encAll r.args a) ->
   sp K xs H (fun v H'=>Dw K H' v (r.ret.enc (Codec.app r.args r.f a))) fun _ _ _=>False)
  (hCX : ∀ (H:Hp) (s:Shared) (e:Value) (s':Shared),CX [] H s (fun _ _ _=>False) e s'->False) :
  PySem.W.WalkOS q loose XP YP r d [] (fun f vs=>PySem.call f vs) :=
 j0_ (K:=K) (CX:=fun _=>CX) (sp:=fun w=>sp (K w.params)) hwell hdf zr hr hY F (fun w H xs a h1 h2 h3 h4=>hsp (K w.params) H xs a h1 h2 h3 h4) fun _ H s e s'=>hCX H s e s'
end L2
end
set_option maxHeartbeats 2000000
namespace M
open PySem PySem.Spec PyProof.Rows L2 TL
set_option hygiene false
local macro_rules
 | `(tactic| simp! [$l,*]) => `(tactic| ((try dsimp only [tRet,qo_,nW_,kd_,tC,tVar,tOp,tUn,rI0,rI,rU,lZ_,isB,tB,tIfS,tIf,tAnd,tOr,tNot,pf_,tOrV,qp_,tAsg,tCB,eB_,tNil,jf_,pe_,tAug,ipI,tSl,pd_,ka_,tM0,tM1,rEq,rNe,tIsN,qq_,rIxS,rIxL,rIxT,rAll,rMax,rSum,rSlL,rSlS,rIn,tLst,tTup,iStr,mG_,iTup,tYes,if_true,if_false,ite_true,ite_false,dS_,cx_K,cx_P,cx_w,qz_,oU_,cx_N,wipe,L2.start,map_cons,map_nil,cons_append,nil_append,List.getElem?_cons_zero,List.getElem?_cons_succ,List.set_cons_zero,List.set_cons_succ,$(⟨l.elemsAndSeps⟩),*]);(try simp only [n8_,n7_,n9_,map_cons,map_nil,length_cons,length_nil,List.replicate,cons_append,nil_append,append_nil,List.getElem?_cons_zero,List.getElem?_cons_succ,List.set_cons_zero,List.set_cons_succ,Nat.reduceSub,Nat.reduceAdd,add_zero,zero_add,Option.some.injEq,V.int.injEq,V.bl.injEq,V.str.injEq,V.ref.injEq,List.cons.injEq,and_true,true_and,exists_eq_left,exists_eq_left',exists_and_left,exists_eq,exists_eq',reduceCtorEq,false_and,false_eq_true,if_true,if_false,ite_true,ite_false,decide_eq_true_eq,os_,ot_,S_eq,aZ_,and_assoc,natCast_inj,ad_,ew_,HO.ins.injEq,List.zip_cons_cons,List.zip_nil_left,List.zip_nil_right,$l,*])))
set_option hygiene true
def top (i:Nat):Stmt:=PySem.Challenge.pw_measuretext_s10_alike.main.body.getD i (.Pass ⟨0,0,0,0⟩)
abbrev s_G:Stmt:=top 10
theorem sc_G:FnScope ["term","found","todo","item","part"] ["term"] (ag_ s_G):=by right
abbrev s_ac:Stmt:=top 11
theorem sc_ac:FnScope ["term","number","item"] ["term"] (ag_ s_ac):=by right
abbrev s_ad:Stmt:=top 12
theorem sc_ad:FnScope ["term"] ["term"] (ag_ s_ad):=by right
abbrev s_H:Stmt:=top 13
theorem sc_H:FnScope ["whole","pieces_of","shown","todo","item","piece"] ["whole","pieces_of"] (ag_ s_H):=by right
abbrev s_I:Stmt:=top 14
theorem sc_I:FnScope ["node","pieces","content"] ["node"] (ag_ s_I):=by right
abbrev s_u:Stmt:=top 15
theorem sc_u:FnScope ["node","found","words","kind"] ["node"] (ag_ s_u):=by right
abbrev s_z:Stmt:=top 17
theorem sc_z:FnScope ["term","found","todo","item","node","bound","content"] ["term"] (ag_ s_z):=by right
abbrev s_ae:Stmt:=top 20
theorem sc_ae:FnScope ["term"] ["term"] (ag_ s_ae):=by right
abbrev s_B:Stmt:=top 21
theorem sc_B:FnScope ["term","away","fresh","whole","todo","item","name"] ["term","away"] (ag_ s_B):=by right
abbrev s_C:Stmt:=top 22
theorem sc_C:FnScope ["todo","item","node","copied","within","content","renamed"] ["todo","item"] (ag_ s_C):=by right
abbrev s_ak:Stmt:=top 23
theorem sc_ak:FnScope ["node","renamed"] ["node","renamed"] (ag_ s_ak):=by right
abbrev s_J:Stmt:=top 35
theorem sc_J:FnScope ["byte"] ["byte"] (ag_ s_J):=by right
abbrev s_m:Stmt:=top 36
theorem sc_m:FnScope ["byte"] ["byte"] (ag_ s_m):=by right
abbrev s_D:Stmt:=top 37
theorem sc_D:FnScope ["byte"] ["byte"] (ag_ s_D):=by right
abbrev s_K:Stmt:=top 38
theorem sc_K:FnScope ["text","sign"] ["text"] (ag_ s_K):=by right
abbrev s_R:Stmt:=top 39
theorem sc_R:FnScope ["byte"] ["byte"] (ag_ s_R):=by right
abbrev s_S:Stmt:=top 40
theorem sc_S:FnScope ["byte"] ["byte"] (ag_ s_S):=by right
abbrev s_o:Stmt:=top 41
theorem sc_o:FnScope ["text","place","belongs"] ["text","place","belongs"] (ag_ s_o):=by right
abbrev s_al:Stmt:=top 42
theorem sc_al:FnScope ["byte"] ["byte"] (ag_ s_al):=by right
abbrev s_r:Stmt:=top 43
theorem sc_r:FnScope ["some_bytes","byte"] ["some_bytes"] (ag_ s_r):=by right
abbrev s_af:Stmt:=top 49
theorem sc_af:FnScope ["text","begin","end"] ["text","begin"] (ag_ s_af):=by right
abbrev s_L:Stmt:=top 50
theorem sc_L:FnScope ["spelling","divided","rows","row"] ["spelling"] (ag_ s_L):=by right
abbrev s_v:Stmt:=top 51
theorem sc_v:FnScope ["over","under","divisor"] ["over","under"] (ag_ s_v):=by right
abbrev s_T:Stmt:=top 52
theorem sc_T:FnScope ["first","second","remainder"] ["first","second"] (ag_ s_T):=by right
abbrev s_U:Stmt:=top 53
theorem sc_U:FnScope ["measure","factor"] ["measure"] (ag_ s_U):=by right
abbrev s_V:Stmt:=top 54
theorem sc_V:FnScope ["factor","halves"] ["factor"] (ag_ s_V):=by right
abbrev s_W:Stmt:=top 55
theorem sc_W:FnScope ["power","digits","sign"] ["power"] (ag_ s_W):=by right
abbrev s_am:Stmt:=top 56
theorem sc_am:FnScope ["amount","measure"] ["amount","measure"] (ag_ s_am):=by right
abbrev s_an:Stmt:=top 57
theorem sc_an:FnScope ["amount"] ["amount"] (ag_ s_an):=by right
abbrev s_E:Stmt:=top 58
theorem sc_E:FnScope ["amount","shown"] ["amount"] (ag_ s_E):=by right
abbrev s_ao:Stmt:=top 66
theorem sc_ao:FnScope ["text"] ["text"] (ag_ s_ao):=by right
abbrev s_M:Stmt:=top 67
theorem sc_M:FnScope ["text","gap_end","token_at","found","place","token"] ["text","gap_end","token_at"] (ag_ s_M):=by right
abbrev s_X:Stmt:=top 68
theorem sc_X:FnScope ["text","place"] ["text","place"] (ag_ s_X):=by right
abbrev s_N:Stmt:=top 69
theorem sc_N:FnScope ["text","begin","digits"] ["text","begin"] (ag_ s_N):=by right
abbrev s_Y:Stmt:=top 70
theorem sc_Y:FnScope ["text","begin","end","word","kind"] ["text","begin"] (ag_ s_Y):=by right
abbrev s_w:Stmt:=top 71
theorem sc_w:FnScope ["text","begin","digits","end","amount","measure","kind"] ["text","begin","digits"] (ag_ s_w):=by right
abbrev s_ag:Stmt:=top 72
theorem sc_ag:FnScope ["text","begin","end","measure"] ["text","begin"] (ag_ s_ag):=by right
abbrev s_ah:Stmt:=top 73
theorem sc_ah:FnScope ["text","begin","signs","sign"] ["text","begin","signs"] (ag_ s_ah):=by right
abbrev s_p:Stmt:=top 76
theorem sc_p:FnScope ["text","row","whole","todo","term"] ["text"] (ag_ s_p):=by right
abbrev s_aj:Stmt:=top 77
theorem sc_aj:FnScope ["row","todo","step","owner"] ["row","todo","step"] (ag_ s_aj):=by right
abbrev s_Z:Stmt:=top 78
theorem sc_Z:FnScope ["row","todo","step","node","kind"] ["row","todo","step"] (ag_ s_Z):=by right
abbrev s_aa:Stmt:=top 79
theorem sc_aa:FnScope ["row","begin","form"] ["row"] (ag_ s_aa):=by right
abbrev s_ap:Stmt:=top 80
theorem sc_ap:FnScope ["token"] ["token"] (ag_ s_ap):=by right
abbrev s_j:Stmt:=top 85
theorem sc_j:FnScope ["first","second"] ["first","second"] (ag_ s_j):=by right
abbrev s_aq:Stmt:=top 86
theorem sc_aq:FnScope ["first","second"] ["first","second"] (ag_ s_aq):=by right
abbrev s_O:Stmt:=top 87
theorem sc_O:FnScope ["first","second","answering","term","fault","other"] ["first","second","answering"] (ag_ s_O):=by right
abbrev s_ai:Stmt:=top 88
theorem sc_ai:FnScope ["term","other"] ["term","other"] (ag_ s_ai):=by right
abbrev s_n:Stmt:=bA_ (top 1) 0
theorem sc_n:FnScope ["self","kind","place"] ["self","kind","place"] (ag_ s_n):=by right
abbrev s_s:Stmt:=bA_ (top 9) 0
theorem sc_s:FnScope ["self","form","words","parts","begin","end"] ["self","form","words","parts","begin","end"] (ag_ s_s):=by right
abbrev s_P:Stmt:=bA_ (top 18) 0
theorem sc_P:FnScope ["self","away"] ["self","away"] (ag_ s_P):=by right
abbrev s_t:Stmt:=bA_ (top 18) 1
theorem sc_t:FnScope ["self","name"] ["self"] (ag_ s_t):=by right
abbrev s_F:Stmt:=bA_ (top 19) 0
theorem sc_F:FnScope ["self","kind","content","owner","renamed"] ["self","kind","content","owner","renamed"] (ag_ s_F):=by right
abbrev s_A:Stmt:=bA_ (top 48) 0
theorem sc_A:FnScope ["self","over","under","measure"] ["self","over","under","measure"] (ag_ s_A):=by right
abbrev s_x:Stmt:=bA_ (top 64) 0
theorem sc_x:FnScope ["self","group","kind","begin","end","content"] ["self","group","kind","begin","end","content"] (ag_ s_x):=by right
abbrev s_Q:Stmt:=bA_ (top 65) 0
theorem sc_Q:FnScope ["self","found","length"] ["self","found","length"] (ag_ s_Q):=by right
abbrev s_k:Stmt:=bA_ (top 65) 1
theorem sc_k:FnScope ["self"] ["self"] (ag_ s_k):=by right
abbrev s_l:Stmt:=bA_ (top 65) 2
theorem sc_l:FnScope ["self","token"] ["self"] (ag_ s_l):=by right
abbrev s_q:Stmt:=bA_ (top 65) 3
theorem sc_q:FnScope ["self","kind"] ["self","kind"] (ag_ s_q):=by right
abbrev s_y:Stmt:=bA_ (top 75) 0
theorem sc_y:FnScope ["self","kind","owner","depth"] ["self","kind","owner","depth"] (ag_ s_y):=by right
set_option genInjectivity false in
set_option genSizeOfSpec false in
set_option genSizeOf false in
structure TA where
 (a_at a_ar a_ab a_b a_au a_av a_as C_c f_n C_a f_s C_i f_P f_t C_h f_F C_e f_A C_d f_x C_f f_Q f_k f_l f_q C_g f_y f_G f_ac f_ad f_H f_I f_u f_z f_ae f_B f_C f_ak f_J f_m f_D f_K f_R f_S f_o f_al f_r f_af f_L f_v f_T f_U f_V f_W f_am f_an f_E f_ao f_M f_X f_N f_Y f_w f_ag f_ah f_p f_aj f_Z f_aa f_ap f_j f_aq f_O f_ai:Addr)
 (d_n d_s d_P d_t d_F d_A d_x d_Q d_k d_l d_q d_y d_G d_ac d_ad d_H d_I d_u d_z d_ae d_B d_C d_ak d_J d_m d_D d_K d_R d_S d_o d_al d_r d_af d_L d_v d_T d_U d_V d_W d_am d_an d_E d_ao d_M d_X d_N d_Y d_w d_ag d_ah d_p d_aj d_Z d_aa d_ap d_j d_aq d_O d_ai:FuncData)
structure TX (w:World) (K:Frag) (mg:zM) (J:TA):Prop where
 g_aI : ∃ u,mg "MOST_DEPTH"=some u/\RelV (.int 40) u
 g_aV : ∃ u,mg "MOST_NODES"=some u/\RelV (.int 300) u
 g_at:mg "SPELLED_FORMS"=some (.ref J.a_at)
 t_at : ∀ H,SqT K H J.a_at [V.str "name",V.str "number"]
 g_ar:mg "PLAIN_FORMS"=some (.ref J.a_ar)
 t_ar : ∀ H,SqT K H J.a_ar [V.str "true",V.str "false",V.str "nil"]
 g_ab:mg "PART_KINDS"=some (.ref J.a_ab)
 t_ab : ∀ H,SqT K H J.a_ab [V.str "part",V.str "body"]
 g_b:mg "FORMS"=some (.ref J.a_b)
 t_b:m6_ w K J.a_b
 g_aW : ∃ u,mg "BLANK"=some u/\RelV (.int 32) u
 g_aX : ∃ u,mg "MEASURE_BEGIN"=some u/\RelV (.int 91) u
 g_aY : ∃ u,mg "MEASURE_END"=some u/\RelV (.int 93) u
 g_aZ : ∃ u,mg "MINUS"=some u/\RelV (.int 45) u
 g_au:mg "FRACTION_SIGNS"=some (.ref J.a_au)
 t_au : ∀ H,SqT K H J.a_au [V.int 46,V.int 47]
 g_aJ : ∃ u,mg "FIRST_PRINTED"=some u/\RelV (.int 32) u
 g_a0 : ∃ u,mg "LAST_PRINTED"=some u/\RelV (.int 126) u
 g_aK : ∃ u,mg "MOST_SIGNS"=some u/\RelV (.int 12) u
 g_a1 : ∃ u,mg "PRINTED"=some u/\RelV (.str " !\"#$?&'()*+,-./0123456789:;<=>?@ABCDEFGHIJKLMNOPQRSTUVWXYZ[\\]^_`abcdefghijklmnopqrstuvwxyz{|}~") u
 g_av:mg "TAKEN_WORDS"=some (.ref J.a_av)
 t_av : ∀ H,SqT K H J.a_av [V.str "fn",V.str "let",V.str "rec",V.str "if",V.str "cons",V.str "case",V.str "pair",V.str "fst",V.str "snd",V.str "fold",V.str "root",V.str "floor",V.str "rest",V.str "true",V.str "false",V.str "nil",V.str "truth",V.str "num",V.str "list",V.str "base",V.str "unit",V.str "def",V.str "fun",V.str "in",V.str "then",V.str "else",V.str "match",V.str "with",V.str "and",V.str "or",V.str "not"]
 g_a2 : ∃ u,mg "MOST_DIGITS"=some u/\RelV (.int 12) u
 g_aL : ∃ u,mg "FIRST_TOO_GREAT"=some u/\RelV (.int 1000000000000) u
 g_a3 : ∃ u,mg "MOST_POWER_DIGITS"=some u/\RelV (.int 2) u
 g_a4 : ∃ u,mg "WORD_GROUP"=some u/\RelV (.int 0) u
 g_a5 : ∃ u,mg "NUMBER_GROUP"=some u/\RelV (.int 1) u
 g_aM : ∃ u,mg "SIGN_GROUP"=some u/\RelV (.int 2) u
 g_as:mg "CORE_SIGNS"=some (.ref J.a_as)
 t_as : ∀ H,SqT K H J.a_as [V.str "(",V.str ")",V.str "+",V.str "-",V.str "*",V.str "/",V.str "^",V.str "<",V.str "="]
 g_aN : ∃ u,mg "MOST_BYTES"=some u/\RelV (.int 2000) u
 g_a6 : ∃ u,mg "TEXT_TOO_LONG"=some u/\RelV (.int (-1)) u
 g_a7 : ∃ u,mg "IN_SECOND_TEXT"=some u/\RelV (.int 20) u
 b_all:mg "all"=none
 b_dict:mg "dict"=none
 b_enumerate:mg "enumerate"=none
 b_int:mg "int"=none
 b_isinstance:mg "isinstance"=none
 b_len:mg "len"=none
 b_list:mg "list"=none
 b_max:mg "max"=none
 b_ord:mg "ord"=none
 b_reversed:mg "reversed"=none
 b_str:mg "str"=none
 b_tuple:mg "tuple"=none
 G_c:mg "Fault"=some (.ref J.C_c)
 F_n:Fun K "__init__" "Fault.__init__" s_n J.f_n J.d_n
 b_n:a8_ K J.d_n ["self","kind","place"] []
 X_c:XCls K J.C_c J.f_n
 n_a8:ay_ K J.C_c "kind"
 n_a9:ay_ K J.C_c "place"
 G_a:mg "Node"=some (.ref J.C_a)
 F_s:Fun K "__init__" "Node.__init__" s_s J.f_s J.d_s
 b_s:a8_ K J.d_s ["self","form","words","parts","begin","end"] []
 cl_a:Cls K J.C_a
 M_a:Mk K J.C_a J.f_s
 ns_a:NotStr K J.C_a
 n_ax:ay_ K J.C_a "form"
 n_aw:ay_ K J.C_a "words"
 n_aA:ay_ K J.C_a "parts"
 n_aE:ay_ K J.C_a "begin"
 n_aO:ay_ K J.C_a "end"
 G_i:mg "FreshNames"=some (.ref J.C_i)
 F_P:Fun K "__init__" "FreshNames.__init__" s_P J.f_P J.d_P
 b_P:a8_ K J.d_P ["self","away"] []
 F_t:Fun K "take" "FreshNames.take" s_t J.f_t J.d_t
 b_t:a8_ K J.d_t ["self"] []
 m_t:Meth K J.C_i "take" J.f_t
 cl_i:Cls K J.C_i
 M_i:Mk K J.C_i J.f_P
 n_bc:ay_ K J.C_i "away"
 n_aF:ay_ K J.C_i "tried"
 G_h:mg "Uncopied"=some (.ref J.C_h)
 F_F:Fun K "__init__" "Uncopied.__init__" s_F J.f_F J.d_F
 b_F:a8_ K J.d_F ["self","kind","content","owner","renamed"] []
 cl_h:Cls K J.C_h
 M_h:Mk K J.C_h J.f_F
 n_aB:ay_ K J.C_h "kind"
 n_aP:ay_ K J.C_h "content"
 n_aQ:ay_ K J.C_h "owner"
 n_aG:ay_ K J.C_h "renamed"
 G_e:mg "Amount"=some (.ref J.C_e)
 F_A:Fun K "__init__" "Amount.__init__" s_A J.f_A J.d_A
 b_A:a8_ K J.d_A ["self","over","under","measure"] []
 cl_e:Cls K J.C_e
 M_e:Mk K J.C_e J.f_A
 n_aR:ay_ K J.C_e "over"
 n_aH:ay_ K J.C_e "under"
 n_aS:ay_ K J.C_e "measure"
 G_d:mg "Token"=some (.ref J.C_d)
 F_x:Fun K "__init__" "Token.__init__" s_x J.f_x J.d_x
 b_x:a8_ K J.d_x ["self","group","kind","begin","end","content"] []
 cl_d:Cls K J.C_d
 M_d:Mk K J.C_d J.f_x
 n_be:ay_ K J.C_d "group"
 n_ay:ay_ K J.C_d "kind"
 n_aC:ay_ K J.C_d "begin"
 n_aT:ay_ K J.C_d "end"
 n_aD:ay_ K J.C_d "content"
 G_f:mg "Row"=some (.ref J.C_f)
 F_Q:Fun K "__init__" "Row.__init__" s_Q J.f_Q J.d_Q
 b_Q:a8_ K J.d_Q ["self","found","length"] []
 F_k:Fun K "upcoming" "Row.upcoming" s_k J.f_k J.d_k
 b_k:a8_ K J.d_k ["self"] []
 m_k:Meth K J.C_f "upcoming" J.f_k
 F_l:Fun K "take" "Row.take" s_l J.f_l J.d_l
 b_l:a8_ K J.d_l ["self"] []
 m_l:Meth K J.C_f "take" J.f_l
 F_q:Fun K "take_kind" "Row.take_kind" s_q J.f_q J.d_q
 b_q:a8_ K J.d_q ["self","kind"] []
 m_q:Meth K J.C_f "take_kind" J.f_q
 cl_f:Cls K J.C_f
 M_f:Mk K J.C_f J.f_Q
 n_bd:ay_ K J.C_f "ahead"
 n_ba:ay_ K J.C_f "index"
 G_g:mg "Step"=some (.ref J.C_g)
 F_y:Fun K "__init__" "Step.__init__" s_y J.f_y J.d_y
 b_y:a8_ K J.d_y ["self","kind","owner","depth"] []
 cl_g:Cls K J.C_g
 M_g:Mk K J.C_g J.f_y
 n_az:ay_ K J.C_g "kind"
 n_bb:ay_ K J.C_g "owner"
 n_aU:ay_ K J.C_g "depth"
 F_G:FG K mg "numbered" s_G ["term"] J.f_G J.d_G
 F_ac:FG K mg "check_limits" s_ac ["term"] J.f_ac J.d_ac
 F_ad:FG K mg "core_text" s_ad ["term"] J.f_ad J.d_ad
 F_H:FG K mg "unfolded" s_H ["whole","pieces_of"] J.f_H J.d_H
 F_I:FG K mg "core_pieces" s_I ["node"] J.f_I J.d_I
 F_u:FG K mg "contents" s_u ["node"] J.f_u J.d_u
 F_z:FG K mg "free_names" s_z ["term"] J.f_z J.d_z
 F_ae:FG K mg "plain_form" s_ae ["term"] J.f_ae J.d_ae
 F_B:FG K mg "plain_form_away" s_B ["term","away"] J.f_B J.d_B
 F_C:FG K mg "copy_node" s_C ["todo","item"] J.f_C J.d_C
 F_ak:FG K mg "leaf_words" s_ak ["node","renamed"] J.f_ak J.d_ak
 F_J:FG K mg "is_letter" s_J ["byte"] J.f_J J.d_J
 F_m:FG K mg "is_digit" s_m ["byte"] J.f_m J.d_m
 F_D:FG K mg "is_in_word" s_D ["byte"] J.f_D J.d_D
 F_K:FG K mg "is_short_word" s_K ["text"] J.f_K J.d_K
 F_R:FG K mg "is_blank" s_R ["byte"] J.f_R J.d_R
 F_S:FG K mg "is_before_measure_end" s_S ["byte"] J.f_S J.d_S
 F_o:FG K mg "run_end" s_o ["text","place","belongs"] J.f_o J.d_o
 F_al:FG K mg "sign_of" s_al ["byte"] J.f_al J.d_al
 F_r:FG K mg "signs_of" s_r ["some_bytes"] J.f_r J.d_r
 F_af:FG K mg "number_end" s_af ["text","begin"] J.f_af J.d_af
 F_L:FG K mg "fraction_of" s_L ["spelling"] J.f_L J.d_L
 F_v:FG K mg "lowest" s_v ["over","under"] J.f_v J.d_v
 F_T:FG K mg "common_divisor" s_T ["first","second"] J.f_T J.d_T
 F_U:FG K mg "is_measure" s_U ["measure"] J.f_U J.d_U
 F_V:FG K mg "is_factor" s_V ["factor"] J.f_V J.d_V
 F_W:FG K mg "is_power" s_W ["power"] J.f_W J.d_W
 F_am:FG K mg "measured" s_am ["amount","measure"] J.f_am J.d_am
 F_an:FG K mg "negated" s_an ["amount"] J.f_an J.d_an
 F_E:FG K mg "amount_text" s_E ["amount"] J.f_E J.d_E
 F_ao:FG K mg "core_tokens" s_ao ["text"] J.f_ao J.d_ao
 F_M:FG K mg "tokens_between" s_M ["text","gap_end","token_at"] J.f_M J.d_M
 F_X:FG K mg "core_gap_end" s_X ["text","place"] J.f_X J.d_X
 F_N:FG K mg "core_token" s_N ["text","begin"] J.f_N J.d_N
 F_Y:FG K mg "word_token" s_Y ["text","begin"] J.f_Y J.d_Y
 F_w:FG K mg "number_token" s_w ["text","begin","digits"] J.f_w J.d_w
 F_ag:FG K mg "measure_at" s_ag ["text","begin"] J.f_ag J.d_ag
 F_ah:FG K mg "sign_token" s_ah ["text","begin","signs"] J.f_ah J.d_ah
 F_p:FG K mg "core_term" s_p ["text"] J.f_p J.d_p
 F_aj:FG K mg "go_on" s_aj ["row","todo","step"] J.f_aj J.d_aj
 F_Z:FG K mg "begin_term" s_Z ["row","todo","step"] J.f_Z J.d_Z
 F_aa:FG K mg "bracket_begin" s_aa ["row"] J.f_aa J.d_aa
 F_ap:FG K mg "leaf" s_ap ["token"] J.f_ap J.d_ap
 F_j:FG K mg "alike" s_j ["first","second"] J.f_j J.d_j
 F_aq:FG K mg "is_either_too_long" s_aq ["first","second"] J.f_aq J.d_aq
 F_O:FG K mg "both_answered" s_O ["first","second","answering"] J.f_O J.d_O
 F_ai:FG K mg "alike_answer" s_ai ["term","other"] J.f_ai J.d_ai
section
variable {P:Program}{w:World}{K:Frag}{mg:zM}{base:Heap}{J:TA}
theorem ds_ {C:Addr}{names:List Str}{vs:List V}{H:Hp}{Q:VK}{E:XK} (h:bw_ C names vs H Q E):vs.length=names.length+1:=by
 obtain ⟨p,dx,args,rfl,hl,_⟩:=h;rw [length_cons,hl]
theorem ok_J (T:TX w K mg J):FnOk P w K mg base CX0 1 J.f_J J.d_J ["byte"] (spB Vaunid.isSmall):=by
 refine T.F_J.fn.ok sc_J fun _ _ _ _ H _ Q E hr h=>?_;obtain ⟨n,rfl,k⟩:=h;refine ⟨_,(ae_ (am_ (iI_ jo_ jo_ aj_ (pv 0) aj_))),?_⟩;simp! [tSeq];have e:Vaunid.isSmall n=(decide ((97:Int)<=n) && decide ((n:Int)<=122)):=by unfold Vaunid.isSmall;congr 1 <;> exact decide_eq_decide.mpr (by omega)
 rw [e] at k;split <;> rename_i q <;> simpa [q] using k
theorem ok_m (T:TX w K mg J):FnOk P w K mg base CX0 1 J.f_m J.d_m ["byte"] (spB Vaunid.isDigit):=by
 refine T.F_m.fn.ok sc_m fun _ _ _ _ H _ Q E hr h=>?_;obtain ⟨n,rfl,k⟩:=h;refine ⟨_,(ae_ (am_ (iI_ jo_ jo_ aj_ (pv 0) aj_))),?_⟩;simp! [tSeq];have e:Vaunid.isDigit n=(decide ((48:Int)<=n) && decide ((n:Int)<=57)):=by unfold Vaunid.isDigit;congr 1 <;> exact decide_eq_decide.mpr (by omega)
 rw [e] at k;split <;> rename_i q <;> simpa [q] using k
theorem ok_D (T:TX w K mg J):FnOk P w K mg base CX0 2 J.f_D J.d_D ["byte"] (spB Vaunid.inWord):=by
 refine T.F_D.fn.ok sc_D fun _ _ _ _ H _ Q E hr h=>?_;obtain ⟨n,rfl,k⟩:=h;refine ⟨_,(ae_ (am_ (ok_ (aC_ T.F_J (ok_J T) hr.m ao_ (aa_ (pv 0) ac_)) (ok_ (aC_ T.F_m (ok_m T) hr.m ao_ (aa_ (pv 0) ac_)) (kK_ (dI_ br_ (pv 0) aj_ (as_ _))))))),?_⟩;simp! [tSeq,spB,natCast_inj];have e:decide ((n:Int)=95)=(n == 95):=hY_ n 95;unfold Vaunid.inWord at k;rw [e];cases h1:Vaunid.isSmall n <;> cases h2:Vaunid.isDigit n <;> rw [h1,h2] at k <;> simpa using k
def n0_:Sp:=fun vs H Q _=>∃ l:List Nat,vs=[.str (S l)]/\l.length<=sizeLine/\∀ H',Same H H'->Q (.bl (av_ l)) H'
theorem ok_K (T:TX w K mg J):FnOk P w K mg base CX0 3 J.f_K J.d_K ["text"] n0_:=by
 refine T.F_K.fn.ok sc_K fun _ _ _ _ H _ Q E hr h=>?_;obtain ⟨l,rfl,hl,k⟩:=h;refine ⟨_,(ab_ (aG_ (PW.pt (pw_or (ak_ br_ (pv 0) aq_ (as_ _)) (pw_or (ak_ g1_ (aA_ a0_ rfl T.b_len PySem.boot_len (aa_ (pv 0) ac_)) (pe_g T.g_aK) (as_ _)) (pw_or1 (nq_ (cq_ (aC_ T.F_J (ok_J T) hr.m ao_ (aa_ (aA_ gn_ rfl T.b_ord e6_ (aa_ (aQ_ nx_ (pv 0) aj_ (fun _ _=>rfl)) ac_)) ac_)))))))) (ae_ (am_ jk_)) ap_)
  (ae_ (am_ (aA_ (nJ_ rfl) rfl T.b_all ho_ (aa_ (mk_ rfl sc_K.nd (nv_ (pv 0)) (er_ (own:=[("sign",1)]) (by kernel_rfl)) (fun _ _ _ _ _=>pg_q 1 sc_K.nd) (fun _ _ _ _ _=>fY_) (fun _ _ _ _ _=>(aC_ T.F_D (ok_D T) hr.m ao_ (aa_ (aA_ gn_ rfl T.b_ord e6_ (aa_ (pv 1) ac_)) ac_)))) ac_))))),?_⟩
 simp! [tSeq,spB,natCast_inj];have k0:=k H (Same.refl H)
 match l,hl,k,k0 with
 | [],hl,k,k0 =>
  exact ite2 (fun _=>k0) fun z=>absurd rfl z
 | c::r,hl,k,k0 =>
  rw [if_neg (by intro z;cases z)];refine ⟨hl,ite2 (fun h=>?_) fun h=>⟨hl,c,bo_ (j:=0) rfl,ite2 (fun h2=>?_) fun h2=>?_⟩⟩
  ·have e:av_ (c::r)=false:=by
    unfold av_;rw [decide_eq_false (by omega)];simp
   rw [e] at k0;exact k0
  ·have e:av_ (c::r)=false:=by
    have h3:Vaunid.isSmall c=false:=by simpa using h2
    unfold av_;rw [headD_cons,h3];simp
   rw [e] at k0;exact k0
  have h3:Vaunid.isSmall c=true:=by simpa using h2
  refine iq_ (Its (S (c::r))) ((c::r).map fun d=>V.str ⟨#[d]⟩) (fun v=>match v with | .str x=>V.bl (Vaunid.inWord (x.cps.getD 0 0)) | _ => .non) (H1:=H) (fun R h=>?_) (by rw [length_map];exact hl) (nz_ (x:=S (c::r))) (fun x H' D zx Nx hx sm hD hacc nx=>?_) fun D H' hD sm e=>?_
  ·simp! [tSeq]
   exact h
  ·obtain ⟨d,hd,rfl⟩:=mem_map.mp hx
   simp! [tSeq,spB,natCast_inj];exact ⟨zx,hD,hacc,nx H' (Same.refl _)⟩
  simp! [tSeq];refine ⟨(c::r).map Vaunid.inWord,SqL.of ?_,?_⟩
  ·rw [e,map_map,map_map]
   rfl
  have e2:av_ (c::r)=((c::r).map Vaunid.inWord).all id:=by
   unfold av_;rw [headD_cons,h3,decide_eq_true (by omega),all_map];rfl
  rw [<- e2];exact k H' sm
theorem ok_R (T:TX w K mg J):FnOk P w K mg base CX0 1 J.f_R J.d_R ["byte"] (spB fun c=>c == 32):=by
 refine T.F_R.fn.ok sc_R fun _ _ _ _ H _ Q E hr h=>?_;obtain ⟨n,rfl,k⟩:=h;refine ⟨_,(ae_ (am_ (dI_ br_ (pv 0) (pe_g T.g_aW) (as_ _)))),?_⟩;simp! [tSeq];have e:decide ((n:Int)=32)=(n == 32):=hY_ n 32;rw [e];exact k
theorem ok_S (T:TX w K mg J):FnOk P w K mg base CX0 1 J.f_S J.d_S ["byte"] (spB fun c=>c != 93):=by
 refine T.F_S.fn.ok sc_S fun _ _ _ _ H _ Q E hr h=>?_;obtain ⟨n,rfl,k⟩:=h;refine ⟨_,(ae_ (am_ (dI_ jl_ (pv 0) (pe_g T.g_aY) (as_ _)))),?_⟩;simp! [tSeq];have e:decide ((n:Int)=93)=(n == 93):=hY_ n 93;rw [e];exact k
def kj_ (P:Program) (w:World) (K:Frag) (mg:zM) (base:Heap):Sp:=fun vs H Q _=>∃ (a f:Addr) (t:List Nat) (p:Nat) (b:Nat->Bool),vs=[.ref a,.int (p:Int),.ref f]/\SqL K H a (bs t)/\lQ_ P w K mg base 2 f b /\
 Q (.int ((p+((t.drop p).takeWhile b).length:Nat):Int)) H
theorem ok_o (T:TX w K mg J):FnOk P w K mg base CX0 3 J.f_o J.d_o ["text","place","belongs"] (kj_ P w K mg base):=by
 refine T.F_o.fn.ok sc_o fun _ _ _ _ H _ Q E hr h=>?_;obtain ⟨a,f,t,p,b,rfl,ht,⟨fd,ps,F,hb,hk⟩,k⟩:=h;refine ⟨_,(ab_ (bD_ PassesOwn.never (PW.pt (pw_and (ak_ jn_ (pv 1) (aA_ aD_ rfl T.b_len PySem.boot_len (aa_ (pv 0) ac_)) (as_ _)) (pw_and1 (cq_ (cJ_ (CX:=CX0) (k:=2) 2 hr.m ao_ (aa_ (aQ_ aJ_ (pv 0) (pv 1) (fun _ _=>rfl)) ac_)))))) (ae_ (nt_ (i:=1) sc_o.nd rfl (Or.inl rfl) aj_ ny_)))
  (ae_ (am_ (pv 1)))),?_⟩
 simp! [tSeq];obtain ⟨Pv,hPv⟩ : ∃ Pv:Nat->L2.St->Hp->Prop,Pv=fun m σ H'=>H'=H/\∃ j,m=t.length - (p+j)/\σ=[some (.ref a),some (.int ((p+j:Nat):Int)),some (.ref f)]/\((t.drop p).takeWhile b).length=j+((t.drop (p+j)).takeWhile b).length:=⟨_,rfl⟩;refine b5_ Pv _ (by rw [hPv];exact ⟨rfl,0,rfl,rfl,by simp⟩) fun m σ H' hp=>?_;rw [hPv] at hp;obtain ⟨rfl,j,rfl,rfl,hj⟩:=hp;simp! [tSeq,eC_];refine ⟨bs t,.inl ht,ite2 (fun h=>?_) fun h=>?_⟩
 ·rw [b2_] at h
  have hlt:p+j<t.length:=by omega
  refine ⟨fd,ps,spB b,F,hb,hk,bs t,ht,_,bo_ (d4_ (getElem?_eq_getElem hlt)),?_⟩;simp! [tSeq,spB,natCast_inj];have hd:t.drop (p+j)=t[p+j]::t.drop (p+j+1):=drop_eq_getElem_cons hlt;rw [hd,takeWhile_cons] at hj;refine cc_ (fun q=>⟨_,fun _ _ z=>z,t.length - (p+(j+1)),by omega,?_⟩) fun q=>?_
  ·rw [hPv]
   refine ⟨rfl,j+1,rfl,?_,?_⟩
   ·have e:((p+j:Nat):Int)+1=((p+(j+1):Nat):Int):=by omega
    rw [e]
   rw [q,if_pos rfl,length_cons] at hj;rw [hj,show p+(j+1)=p+j+1 by omega];omega
  rw [q,if_neg (by simp)] at hj;have e:p+(List.takeWhile b (List.drop p t)).length=p+j:=by rw [hj];rfl
  rw [e] at k;exact k
 rw [b2_] at h;have hd:t.drop (p+j)=[]:=drop_eq_nil_of_le (by omega);rw [hd] at hj;have e:p+(List.takeWhile b (List.drop p t)).length=p+j:=by rw [hj];rfl
 rw [e] at k;exact k
def ng_:Sp:=fun vs H Q _=>∃ n:Nat,vs=[.int (n:Int)]/\Q (.str ⟨#[sgn n]⟩) H
theorem ji_ (n:Nat) (h1:32<=n) (h2:n<=126):(tl (ofString " !\"#$?&'()*+,-./0123456789:;<=>?@ABCDEFGHIJKLMNOPQRSTUVWXYZ[\\]^_`abcdefghijklmnopqrstuvwxyz{|}~"))[n - 32]? = some (sgn n):=by
 have key : ∀ m:Fin 95,(tl (ofString " !\"#$?&'()*+,-./0123456789:;<=>?@ABCDEFGHIJKLMNOPQRSTUVWXYZ[\\]^_`abcdefghijklmnopqrstuvwxyz{|}~"))[m.1]? = some (sgn (m.1+32)):=by left
 have e:=key ⟨n - 32,by omega⟩;rw [show n=n - 32+32 by omega];simpa using e
theorem ok_al (T:TX w K mg J):FnOk P w K mg base CX0 1 J.f_al J.d_al ["byte"] ng_:=by
 refine T.F_al.fn.ok sc_al fun _ _ _ _ H _ Q E hr h=>?_;obtain ⟨n,rfl,k⟩:=h;refine ⟨_,(ab_ (aG_ (mf_ jo_ jo_ (pe_g T.g_aJ) (pv 0) (pe_g T.g_a0)) (ae_ (am_ (aQ_ nx_ (pe_g T.g_a1) (a9_ iM_ (pv 0) (pe_g T.g_aJ)) (fun _ _=>rfl)))) ap_)
  (ae_ (am_ aq_))),?_⟩
 simp! [tSeq];refine ite2 (fun h1=>ite2 (fun h2=>?_) fun h2=>?_) fun h1=>?_
 ·refine ⟨by left,sgn n,?_,k⟩
  have e:(n:Int) - 32=((n - 32:Nat):Int):=by omega
  rw [e];exact bo_ (ji_ n (by omega) (by omega))
 ·have e:sgn n=63:=by unfold sgn;rw [if_neg (by omega)]
  rw [e] at k;exact k
 have e:sgn n=63:=by unfold sgn;rw [if_neg (by omega)]
 rw [e] at k;exact k
def eJ_ (K:Frag):Sp:=fun vs H Q _=>∃ (a:Addr) (t:List Nat),vs=[.ref a]/\SqL K H a (bs t)/\t.length<=1000000/\∀ H',Same H H'->Q (.str (S (t.map sgn))) H'
theorem g8_ : ∀ l:List Nat,dP_ [] (l.map fun c=>[c])=l
 | []=>rfl
 | [c]=>rfl
 | c::d::r=>by
  have ih:=g8_ (d::r);show c::([]++dP_ [] ((d::r).map fun c=>[c]))=_;rw [ih];rfl
theorem it_ : ∀ l:List Nat,((l.map fun c=>(⟨#[c]⟩:Str)).map (·.length)).sum=l.length
 | []=>rfl
 | c::r=>by
  have ih:=it_ r;simp only [map_cons,sum_cons,length_cons,ih];show 1+r.length=r.length+1;omega
theorem ok_r (T:TX w K mg J):FnOk P w K mg base CX0 2 J.f_r J.d_r ["some_bytes"] (eJ_ K):=by
 refine T.F_r.fn.ok sc_r fun _ _ _ _ H _ Q E hr h=>?_;obtain ⟨a,t,rfl,ht,hl,k⟩:=h;refine ⟨_,(ae_ (am_ (kM_ aq_ (mk_ rfl sc_r.nd (hI_ (pv 0)) (er_ (own:=[("byte",1)]) (by kernel_rfl)) (fun _ _ _ _ _=>pg_q 1 sc_r.nd) (fun _ _ _ _ _=>fY_) (fun _ _ _ _ _=>(aC_ T.F_al (ok_al T) hr.m ao_ (aa_ (pv 1) ac_))))))),?_⟩;simp! [tSeq];refine iq_ (Itl K a) (bs t) (fun v=>match v with | .int n=>V.str ⟨#[sgn n.toNat]⟩ | _ => .non) (H1:=H) (fun R h=>?_) (by rw [b2_];exact Nat.le_trans hl (by decide)) (lm_ ht) (fun x H' D zx Nx hx sm hD hacc nx=>?_) fun D H' hD sm e=>?_
 ·simp! [tSeq]
  exact ⟨⟨_,ht⟩,h⟩
 ·obtain ⟨d,hd,rfl⟩:=mem_map.mp hx
  simp! [tSeq,ng_,natCast_inj];exact ⟨zx,hD,hacc,nx H' (Same.refl _)⟩
 simp! [tSeq];refine ⟨t.map fun c=>⟨#[sgn c]⟩,.inl (SqL.of ?_),?_,?_⟩
 ·rw [e]
  unfold bs;rw [map_map,map_map];rfl
 ·have e1:(t.map fun c=>(⟨#[sgn c]⟩:Str))=(t.map sgn).map fun c=>(⟨#[c]⟩:Str):=by rw [map_map];rfl
  rw [e1,it_,length_map,length_map];show t.length+t.length * 0<=16777216;omega
 have e1:Txt.join (ofString "") (t.map fun c=>(⟨#[sgn c]⟩:Str))=S (t.map sgn):=by
  refine ci_ ?_;rw [k7_,fQ_,map_map];have e2:(t.map (tl ∘ fun c=>(⟨#[sgn c]⟩:Str)))=(t.map sgn).map fun c=>[c]:=by rw [map_map];rfl
  rw [e2];exact g8_ _
 rw [e1];exact k H' sm
theorem ok_e (T:TX w K mg J):FnOk P w K mg base CX0 1 J.f_A J.d_A ["self","over","under","measure"] (bw_ J.C_e ["over","under","measure"]):=by
 refine T.F_A.ok sc_A (fun _ _ _ _ H _ Q E hr h=>?_) fun _ _ _ _ h=>ds_ h;obtain ⟨p,dx,args,rfl,hl,hp,k⟩:=h;obtain ⟨a,b,c,rfl⟩:=len3 hl;refine ⟨_,(ab_ (a2_ (pv 0) (pv 1) rfl)
  (ab_ (a2_ (pv 0) (pv 2) rfl)
  (ae_ (a2_ (pv 0) (pv 3) rfl)))),?_⟩
 simp! [tSeq,sFld];refine ⟨_,_,_,hp,T.cl_e,T.n_aR,(by decide),T.cl_e,T.n_aH,few1,T.cl_e,T.n_aS,few2,?_⟩;exact k
def iv_ (K:Frag):Sp:=fun vs H Q _=>∃ (a:Addr) (t:List Nat) (p:Nat),vs=[.ref a,.int (p:Int)]/\SqL K H a (bs t)/\p<=t.length/\∀ H',Same H H'->Q (.int ((p+(numberText (t.drop p)).1:Nat):Int)) H'
theorem ok_af (T:TX w K mg J):FnOk P w K mg base CX0 4 J.f_af J.d_af ["text","begin"] (iv_ K):=by
 have PD:lQ_ P w K mg base 2 J.f_m Vaunid.isDigit:=⟨_,_,(ok_m T).mono (by decide),T.F_m.b,T.F_m.fn.kp⟩;refine T.F_af.fn.ok sc_af fun _ _ _ _ H _ Q E hr h=>?_;obtain ⟨a,t,p,rfl,ht,hp,k⟩:=h;refine ⟨_,(ab_ (aw_ 2 sc_af.nd (aC_ T.F_o (ok_o T) hr.m ao_ (aa_ (pv 0) (aa_ (pv 1) (aa_ (pe_r T.F_m.mg) ac_)))))
  (ab_ (aG_ (PW.pt (pw_and (ak_ jn_ (a9_ bU_ (pv 2) aj_) (aA_ aD_ rfl T.b_len PySem.boot_len (aa_ (pv 0) ac_)) (as_ _)) (pw_and (ak_ bm_ (aQ_ aJ_ (pv 0) (pv 2) (fun _ _=>rfl)) (pe_r T.g_au) rfl) (pw_and1 (cq_ (aC_ T.F_m (ok_m T) hr.m ao_ (aa_ (aQ_ aJ_ (pv 0) (a9_ bU_ (pv 2) aj_) (fun _ _=>rfl)) ac_))))))) (ae_ (aw_ 2 sc_af.nd (aC_ T.F_o (ok_o T) hr.m ao_ (aa_ (pv 0) (aa_ (a9_ bU_ (pv 2) aj_) (aa_ (pe_r T.F_m.mg) ac_)))))) ap_)
  (ae_ (am_ (pv 2))))),?_⟩
 simp! [tSeq,kj_];refine ⟨t,ht,Vaunid.isDigit,PD,bs t,.inl ht,?_⟩;rw [b2_];have k0:=k H (Same.refl H);refine ite2 (fun h=>?_) fun h=>?_
 ·have hlt:p+((t.drop p).takeWhile Vaunid.isDigit).length+1<t.length:=by omega
  have h1:t[p+((t.drop p).takeWhile Vaunid.isDigit).length]? = some _:=getElem?_eq_getElem (by omega);have h2:t[p+((t.drop p).takeWhile Vaunid.isDigit).length+1]? = some _:=getElem?_eq_getElem hlt;refine ⟨bs t,ht,_,bo_ (d4_ h1),_,.inr (T.t_au H),rfl,rfl,?_⟩;rw [oJ_];have nl:=mv_ h1 h2;refine ite2 (fun q=>⟨bs t,ht,_,bo_ (d4_ h2),?_⟩) fun q=>?_
  ·simp! [tSeq,spB]
   have q':=of_decide_eq_true q;refine cc_ (fun r=>?_) fun r=>?_
   ·rw [if_pos ⟨q'.symm,r⟩] at nl
    refine ⟨_,_,_,rfl,rfl,ht,_,PD,?_⟩;rw [nl,<- add_assoc,<- add_assoc] at k0;exact k0
   rw [if_neg (by rw [r];simp)] at nl;rw [nl] at k0;exact k0
  rw [if_neg (fun z=>q (decide_eq_true z.1.symm))] at nl;rw [nl] at k0;exact k0
 rw [kT_ (by omega)] at k0;exact k0
def pr_:Sp:=fun vs H Q _=>∃ o u:Nat,vs=[.int (o:Int),.int (u:Int)]/\Q (.int (Nat.gcd o u:Int)) H
theorem ok_T (T:TX w K mg J):FnOk P w K mg base CX0 1 J.f_T J.d_T ["first","second"] pr_:=by
 refine T.F_T.fn.ok sc_T fun _ _ _ _ H _ Q E hr h=>?_;obtain ⟨o,u,rfl,k⟩:=h;refine ⟨_,(ab_ (bD_ PassesOwn.never (ak_ jl_ (pv 1) aj_ (as_ _)) (ab_ (aw_ 2 sc_T.nd (a9_ pI_ (pv 0) (pv 1)))
  (ab_ (aw_ 0 sc_T.nd (pv 1))
  (ae_ (aw_ 1 sc_T.nd (pv 2))))))
  (ae_ (am_ (pv 0)))),?_⟩
 simp! [tSeq];obtain ⟨Pv,hPv⟩ : ∃ Pv:Nat->L2.St->Hp->Prop,Pv=fun m σ H'=>H'=H/\∃ (x y:Nat) (z:Option V),m=y/\σ=[some (.int (x:Int)),some (.int (y:Int)),z]/\Nat.gcd x y=Nat.gcd o u:=⟨_,rfl⟩;refine b5_ Pv _ (by rw [hPv];exact ⟨rfl,o,u,none,rfl,rfl,rfl⟩) fun m σ H' hp=>?_;rw [hPv] at hp;obtain ⟨rfl,x,y,z,rfl,rfl,hg⟩:=hp;simp! [tSeq];refine ite2 (fun h=>⟨_,fun _ _ q=>q,?_,x % m,?_,?_⟩) fun h=>?_
 ·simp at h
  omega
 ·have:m≠0:=by
   intro e;subst e;simp at h
  exact Nat.mod_lt _ (Nat.pos_of_ne_zero this)
 ·rw [hPv]
  refine ⟨rfl,m,x % m,_,rfl,by rw [<- Int.natCast_emod],?_⟩;rw [<- hg,Nat.gcd_comm x m,Nat.gcd_rec m x,Nat.gcd_comm]
 have e:m=0:=by simp at h;omega
 subst e;rw [Nat.gcd_zero_right] at hg;rw [hg];exact k
def l4_ (C:Addr):Sp:=fun vs H Q _=>∃ o u:Nat,vs=[.int (o:Int),.int (u:Int)]/\u<2 ^ 200/\fb_ C H Q (M.iT_ o u)
theorem ok_v (T:TX w K mg J):FnOk P w K mg base CX0 3 J.f_v J.d_v ["over","under"] (l4_ J.C_e):=by
 refine T.F_v.fn.ok sc_v fun _ _ _ _ H _ Q E hr h=>?_;obtain ⟨o,u,rfl,hu,k⟩:=h;refine ⟨_,(ab_ (aG_ (ak_ br_ (pv 1) aj_ (as_ _)) (ae_ (am_ kL_)) ap_)
  (ab_ (aw_ 2 sc_v.nd (aC_ T.F_T (ok_T T) hr.m ao_ (aa_ (pv 0) (aa_ (pv 1) ac_))))
  (ab_ (aw_ 0 sc_v.nd (a9_ iN_ (pv 0) (pv 2)))
  (ab_ (aw_ 1 sc_v.nd (a9_ iN_ (pv 1) (pv 2)))
  (ab_ (aG_ (PW.pt (pw_or (ak_ pJ_ (pv 0) (pe_g T.g_aL) (as_ _)) (pw_or1 (ak_ pJ_ (pv 1) (pe_g T.g_aL) (as_ _))))) (ae_ (am_ kL_)) ap_)
  (ae_ (am_ (aO_ T.M_e (ok_e T) hr.m rfl T.G_e T.b_A .nil ao_ (aa_ (pv 0) (aa_ (pv 1) (aa_ aq_ ac_))))))))))),?_⟩
 simp! [tSeq,pr_,bz_,bw_];unfold M.iT_ at k;refine ite2 (fun h=>?_) fun h=>?_
 ·rw [if_pos (by omega)] at k
  exact k H (Same.refl H)
 have hu0:u≠0:=by omega
 have hg:0<o.gcd u:=Nat.gcd_pos_of_pos_right _ (Nat.pos_of_ne_zero hu0);have hg2:o.gcd u<=u:=Nat.gcd_le_right _ (Nat.pos_of_ne_zero hu0);have cd : ∀ i:Int,qm_ i ((o.gcd u:Nat):Int):=fun i=>⟨by omega,ju_ (by rw [Int.natAbs_natCast];omega)⟩;rw [if_neg hu0] at k;refine ⟨cd _,cd _,?_⟩;rw [<- Int.natCast_ediv,<- Int.natCast_ediv];refine ite2 (fun h1=>?_) fun h1=>ite2 (fun h2=>?_) fun h2=>?_
 ·rw [if_pos (.inl (by omega))] at k
  exact k H (Same.refl H)
 ·rw [if_pos (.inr (by omega))] at k
  exact k H (Same.refl H)
 rw [if_neg (by omega)] at k;intro x dx hx hdx hne;exact k x _ (aL_ hx hdx) ⟨dx,ad_⟩
def pt_ (C:Addr):Sp:=fun vs H Q _=>∃ (a b:List Nat) (c:Nat),vs=[.str (S (a++(if c=0 then [] else c::b)))]/\(∀ x∈a,Vaunid.isDigit x=true)/\a≠[]/\a.length+b.length<=100000 /\
 ((c=0/\b=[])\/((c=46\/c=47)/\b≠[]/\∀ x∈b,Vaunid.isDigit x=true))/\fb_ C H Q (frac a c b)
theorem ok_L (T:TX w K mg J):FnOk P w K mg base CX0 4 J.f_L J.d_L ["spelling"] (pt_ J.C_e):=by
 refine T.F_L.fn.ok sc_L fun _ _ _ _ H _ Q E hr h=>?_;obtain ⟨a,b,c,rfl,ha,hne,hl,hc,k⟩:=h;refine ⟨_,(ab_ (aw_ 1 sc_L.nd (dI_ jp_ aq_ (pv 0) rfl))
  (ab_ (aw_ 2 sc_L.nd (cI_ (cq_ (pv 1)) (iG_ (pv 0) aq_) (iG_ (pv 0) aq_)))
  (ab_ (aG_ (ak_ g1_ (aA_ (qe_ rfl) rfl T.b_max lK_ (aa_ (mk_ rfl sc_L.nd (hI_ (pv 2)) (er_ (own:=[("row",3)]) (by kernel_rfl)) (fun _ _ _ _ _=>pg_q 3 sc_L.nd) (fun _ _ _ _ _=>fY_) (fun _ _ _ _ _=>(aA_ a0_ rfl T.b_len PySem.boot_len (aa_ (pv 3) ac_)))) ac_)) (pe_g T.g_a2) (as_ _)) (ae_ (am_ kL_)) ap_)
  (ab_ (aG_ (cq_ (pv 1)) (ae_ (am_ (aC_ T.F_v (ok_v T) hr.m ao_ (aa_ (a3_ byz_ rfl T.b_int cz_ (aa_ (aQ_ aJ_ (pv 2) aj_ (fun _ _=>rfl)) ac_)) (aa_ (a3_ byz_ rfl T.b_int cz_ (aa_ (aQ_ aJ_ (pv 2) aj_ (fun _ _=>rfl)) ac_)) ac_))))) ap_)
  (ab_ (aG_ (ak_ br_ (aA_ aD_ rfl T.b_len PySem.boot_len (aa_ (pv 2) ac_)) aj_ (as_ _)) (ae_ (am_ (aC_ T.F_v (ok_v T) hr.m ao_ (aa_ (a3_ byz_ rfl T.b_int cz_ (aa_ (a9_ a6_ (aQ_ aJ_ (pv 2) aj_ (fun _ _=>rfl)) (aQ_ aJ_ (pv 2) aj_ (fun _ _=>rfl))) ac_)) (aa_ (a3_ byz_ rfl T.b_int cz_ (aa_ (a9_ a6_ aq_ (a9_ jm_ aq_ (aA_ a0_ rfl T.b_len PySem.boot_len (aa_ (aQ_ aJ_ (pv 2) aj_ (fun _ _=>rfl)) ac_)))) ac_)) ac_))))) ap_)
  (ae_ (am_ (aC_ T.F_v (ok_v T) hr.m ao_ (aa_ (a3_ byz_ rfl T.b_int cz_ (aa_ (aQ_ aJ_ (pv 2) aj_ (fun _ _=>rfl)) ac_)) (aa_ aj_ ac_)))))))))),?_⟩
 simp! [tSeq];refine ⟨47,kr_,?_⟩;have big : ∀ n:Nat,n<=100001->n+2<=sizeLine:=fun n h=>Nat.le_trans (Nat.add_le_add_right h 2) (by decide);have big2 : ∀ n:Nat,n<=100001->n<=sizeLine:=fun n h=>Nat.le_trans (le_add_right n 2) (big n h);have p12:(10:Nat) ^ 12<2 ^ 200:=by decide
 have n47:47∉a:=fun m=>by have:=ha _ m;revert this;decide
 have dotne:((ofString ".").length == 0)=false:=by left
 have slane:((ofString "/").length == 0)=false:=by left
 rcases hc with ⟨rfl,rfl⟩ | ⟨rfl | rfl,hb,hbd⟩
 ·simp only [if_true,append_nil]
  rw [if_neg (by rw [ff_];exact n47)];refine ⟨dotne,big _ (by simp at hl;omega),?_⟩;rw [mS_ ha];intro p hp;refine ge_ ad_ (by intro y hy;rw [mem_singleton.mp hy,aZ_];exact big2 _ (by simp at hl;omega)) (by show 1<=sizeLine;decide) fun D H' sm e=>?_;have hpp:H' p=some (.lst [.str (S a)]):=sm _ _ ad_;have sm2:Same H H':=(Same.upd hp).trans sm;simp! [tSeq];refine ⟨[((S a).length:Int)],SqL.of e,by simp,fun m hm hmax=>?_⟩;rw [mem_singleton.mp hm,aZ_];refine ite2 (fun h=>?_) fun h=>?_
  ·rw [e0_ (.inl (by omega))] at k
   exact k _ sm2
  rw [if_neg (by rw [ff_];exact n47)];refine ⟨_,.inl (SqL.of hpp),?_⟩;rw [if_neg (by simp)];refine ⟨_,SqL.of hpp,_,rfl,_,rfl,_,hc_ ha hne (by omega),by rw [aZ_];omega,?_⟩;rw [c7_ (by omega) (by decide)] at k;exact ⟨_,1,rfl,by decide,k.mono sm2⟩
 ·have e0:(a++if 46=0 then [] else 46::b)=a++46::b:=rfl
  rw [e0];have n47b:47∉a++46::b:=fun m=>by
   rcases mem_append.mp m with q | q
   ·exact n47 q
   rcases mem_cons.mp q with q | q
   ·cases q
   have:=hbd _ q;revert this;decide
  have zr:(a++46::b).length<=100001:=by rw [length_append,length_cons];omega
  rw [if_neg (by rw [ff_];exact n47b)];refine ⟨dotne,big _ zr,?_⟩;rw [oT_ ha hbd];intro p hp;refine ge_ ad_ (by intro y hy;exact (mem_cons.mp hy).elim (fun q=>by rw [q,aZ_];exact big2 _ (by omega)) fun q=>by rw [mem_singleton.mp q,aZ_];exact big2 _ (by omega)) (by show 2<=sizeLine;decide) fun D H' sm e=>?_;have hpp:H' p=some (.lst [.str (S a),.str (S b)]):=sm _ _ ad_;have sm2:Same H H':=(Same.upd hp).trans sm;simp! [tSeq];refine ⟨[((S a).length:Int),((S b).length:Int)],SqL.of e,by simp,fun m hm hmax=>?_⟩;have m1:=hmax ((S a).length:Int) (by simp);have m2:=hmax ((S b).length:Int) (by simp);rw [aZ_] at m1 m2;have m3:m=(a.length:Int)\/m=(b.length:Int):=by
   rcases mem_cons.mp hm with q | q
   ·rw [q,aZ_];exact .inl rfl
   rw [mem_singleton.mp q,aZ_];exact .inr rfl
  refine ite2 (fun h=>?_) fun h=>?_
  ·rw [e0_ (by omega)] at k
   exact k _ sm2
  rw [if_neg (by rw [ff_];exact n47b)];refine ⟨_,.inl (SqL.of hpp),?_⟩;rw [if_pos (by simp)];have hl24:(a++b).length<=24:=by rw [length_append];omega
  have hab : ∀ x∈a++b,Vaunid.isDigit x=true:=fun x hx=>(mem_append.mp hx).elim (ha x) (hbd x);obtain ⟨t1,t2,t3⟩:=oq_ b.length (by omega);refine ⟨_,SqL.of hpp,_,rfl,_,SqL.of hpp,_,rfl,_,rfl,_,rfl,?_⟩;rw [gr_,aZ_,aZ_,aZ_];refine ⟨big2 _ (by omega),_,hc_ hab (by simp [hne]) (by omega),by omega,_,SqL.of hpp,_,rfl,_,rfl,?_⟩;rw [aZ_];refine ⟨big2 _ (by omega),pM_ _ (by omega),t3,_,t1,t2,?_⟩;rw [c7_ (by omega) (by omega)] at k;exact ⟨_,10 ^ b.length,rfl,Nat.lt_of_le_of_lt (fp_ (by omega)) p12,k.mono sm2⟩
 have e0:(a++if 47=0 then [] else 47::b)=a++47::b:=rfl;rw [e0];have i47:47∈a++47::b:=by simp
 have zr:(a++47::b).length<=100001:=by rw [length_append,length_cons];omega
 rw [if_pos (by rw [ff_];exact i47)];refine ⟨slane,big _ zr,?_⟩;rw [ks_ ha hbd];intro p hp;refine ge_ ad_ (by intro y hy;exact (mem_cons.mp hy).elim (fun q=>by rw [q,aZ_];exact big2 _ (by omega)) fun q=>by rw [mem_singleton.mp q,aZ_];exact big2 _ (by omega)) (by show 2<=sizeLine;decide) fun D H' sm e=>?_;have hpp:H' p=some (.lst [.str (S a),.str (S b)]):=sm _ _ ad_;have sm2:Same H H':=(Same.upd hp).trans sm;simp! [tSeq];refine ⟨[((S a).length:Int),((S b).length:Int)],SqL.of e,by simp,fun m hm hmax=>?_⟩;have m1:=hmax ((S a).length:Int) (by simp);have m2:=hmax ((S b).length:Int) (by simp);rw [aZ_] at m1 m2;have m3:m=(a.length:Int)\/m=(b.length:Int):=by
  rcases mem_cons.mp hm with q | q
  ·rw [q,aZ_];exact .inl rfl
  rw [mem_singleton.mp q,aZ_];exact .inr rfl
 refine ite2 (fun h=>?_) fun h=>?_
 ·rw [e0_ (by omega)] at k
  exact k _ sm2
 rw [if_pos (by rw [ff_];exact i47)];refine ⟨_,SqL.of hpp,_,rfl,_,rfl,_,hc_ ha hne (by omega),by rw [aZ_];omega,_,SqL.of hpp,_,rfl,_,rfl,_,hc_ hbd hb (by omega),by rw [aZ_];omega,?_⟩;rw [c7_ (by omega) (by omega)] at k;exact ⟨_,_,rfl,Nat.lt_trans (p9_ hbd (by omega)) p12,k.mono sm2⟩
def n1_:Sp:=fun vs H Q _=>∃ l:List Nat,vs=[.str (S l)]/\l.length<=sizeLine/\∀ H',Same H H'->Q (.bl (bh_ l)) H'
theorem ok_W (T:TX w K mg J):FnOk P w K mg base CX0 2 J.f_W J.d_W ["power"] n1_:=by
 refine T.F_W.fn.ok sc_W fun _ _ _ _ H _ Q E hr h=>?_;obtain ⟨l,rfl,hl,k⟩:=h;refine ⟨_,(ab_ (aw_ 1 sc_W.nd (cI_ (cq_ (mj_ F.slot_str_startswith F.type_str_startswith gc_ (pv 0) aq_)) (cH_ nj_ (pv 0) (bO_ aj_) kI_) (pv 0)))
  (ab_ (aG_ (PW.pt (pw_or (ak_ br_ (pv 1) aq_ (as_ _)) (pw_or1 (ak_ g1_ (aA_ a0_ rfl T.b_len PySem.boot_len (aa_ (pv 1) ac_)) (pe_g T.g_a3) (as_ _))))) (ae_ (am_ jk_)) ap_)
  (ae_ (am_ (aA_ (nJ_ rfl) rfl T.b_all ho_ (aa_ (mk_ rfl sc_W.nd (nv_ (pv 1)) (er_ (own:=[("sign",2)]) (by kernel_rfl)) (fun _ _ _ _ _=>pg_q 2 sc_W.nd) (fun _ _ _ _ _=>fY_) (fun _ _ _ _ _=>(aC_ T.F_m (ok_m T) hr.m ao_ (aa_ (aA_ gn_ rfl T.b_ord e6_ (aa_ (pv 2) ac_)) ac_)))) ac_)))))),?_⟩
 simp! [tSeq];have k0:=k H (Same.refl H);have part : ∀ d:List Nat,bh_ l=(!d.isEmpty && (decide (d.length<=2) && d.all Vaunid.isDigit))->d.length<=sizeLine->(if S d=ofString "" then Q (V.bl false) H else (S d).length<=sizeLine/\if 2<((S d).length:Int) then Q (V.bl false) H else
   tLc (iStr (tVar 1)) (dS_ 2) tYes (jf_ (spB Vaunid.isDigit) [] E0 (eB_ (tCB (fun xs H Q=>∃ x,xs=[V.str x]/\x.length=1/\Q (V.int ↑(x.cps.getD 0 0)) H) (eB_ (tVar 2) tNil)) tNil)) [2] [some (V.str (S l)),some (V.str (S d)),none] H fun x H1 =>
    ∃ a,x=V.ref a/\∃ x,SqL K H1 a (List.map V.bl x)/\Q (V.bl (x.all id)) H1):=fun d hd hdl=>by
  rw [hd] at k0 k;rw [aZ_];refine ite2 (fun z=>?_) fun z=>⟨hdl,ite2 (fun z2=>?_) fun z2=>?_⟩
  ·have e:d=[]:=by rw [S_eq] at z;exact z
   subst e;exact k0
  ·rw [decide_eq_false (by omega)] at k0
   simpa using k0
  refine lJ_ hdl fun D H' sm e=>⟨D,rfl,d.map Vaunid.isDigit,SqL.of e,?_⟩;have k1:=k H' sm;have e2:(!d.isEmpty && (decide (d.length<=2) && d.all Vaunid.isDigit))=(d.map Vaunid.isDigit).all id:=by
   rw [decide_eq_true (by omega),all_map];cases d with
   | nil=>exact absurd (by rw [S_eq];rfl) z
   | cons c r=>rfl
  rw [e2] at k1;exact k1
 have ec:cutS (S l) (some 1) none=S (l.drop 1):=mY_ l 1;rw [gE_,ec];refine ite2 (fun h=>?_) fun h=>?_
 ·have hh:=of_decide_eq_true h
  refine ⟨hl,part (l.drop 1) ?_ (by rw [length_drop];omega)⟩;unfold bh_;rw [if_pos hh];cases l with
  | nil=>cases hh
  | cons c r=>rfl
 have hh : ¬ l.head? = some 45:=fun z=>h (decide_eq_true z);have:=part l (by unfold bh_;rw [if_neg hh]) hl;simp only [S_eq,aZ_] at this;exact this
def l6_:Sp:=fun vs H Q _=>∃ l:List Nat,vs=[.str (S l)]/\l.length<=sizeLine/\∀ H',Same H H'->Q (.bl (atz_ l)) H'
theorem ok_V (T:TX w K mg J):FnOk P w K mg base CX0 4 J.f_V J.d_V ["factor"] l6_:=by
 refine T.F_V.fn.ok sc_V fun _ _ _ _ H _ Q E hr h=>?_;obtain ⟨l,rfl,hl,k⟩:=h;refine ⟨_,(ab_ (aG_ (ak_ br_ (pv 0) aq_ (as_ _)) (ae_ (am_ jk_)) ap_)
  (ab_ (aG_ (ak_ f7_ aq_ (pv 0) rfl) (ae_ (am_ (aC_ T.F_K (ok_K T) hr.m ao_ (aa_ (pv 0) ac_)))) ap_)
  (ab_ (aw_ 1 sc_V.nd (gX_ (pv 0) aq_))
  (ae_ (am_ (pF_ (aC_ T.F_K (ok_K T) hr.m ao_ (aa_ (aQ_ bx_ (pv 1) aj_ (fun _ _=>rfl)) ac_)) (kK_ (aC_ T.F_W (ok_W T) hr.m ao_ (aa_ (aQ_ bx_ (pv 1) aj_ (fun _ _=>rfl)) ac_))))))))),?_⟩
 simp! [tSeq];have k0:=k H (Same.refl H);refine ite2 (fun h=>?_) fun h=>⟨94,oK_,?_⟩
 ·have e:atz_ l=true:=by rw [h];left
  rw [e] at k0;exact k0
 have h1:(l == [49])=false:=by
  cases q:l == [49] with
  | false=>rfl
  | true=>exact absurd ((eq_of_beq q).trans (by left)) h
 rw [ff_];have hc:l.contains 94=decide (94∈l):=by rw [Bool.eq_iff_iff];simp
 refine ite2 (fun q=>?_) fun q=>?_
 ·have q' : ¬ 94∈l:=by simpa using q
  have e:atz_ l=av_ l:=by
   unfold atz_;rw [h1,hc,decide_eq_false q'];rfl
  refine ⟨l,rfl,hl,?_⟩;rw [e] at k;exact k
 have q':94∈l:=by simpa using q
 have e:atz_ l=(av_ (l.takeWhile (· != 94)) && bh_ ((l.dropWhile (· != 94)).drop 1)):=by
  unfold atz_;rw [h1,hc,decide_eq_true q'];rfl
 rw [e] at k;refine ⟨by left,hl,fun p hp=>⟨_,SqT.of ad_,_,rfl,?_⟩⟩;rw [mq_ q'];refine ⟨_,rfl,Nat.le_trans (d6_ _ _) hl,fun H' sm=>⟨_,rfl,?_⟩⟩;have sm2:Same H H':=(Same.upd hp).trans sm;refine cc_ (fun r=>?_) fun r=>?_
 ·refine ⟨_,SqT.of (sm _ _ ad_),_,rfl,_,rfl,?_,fun H2 s2=>?_⟩
  ·rw [length_drop,bB_,length_drop]
   omega
  have:=k H2 (sm2.trans s2);rw [r] at this;exact this
 have:=k H' sm2;rw [r] at this;exact this
def km_:Sp:=fun vs H Q _=>∃ l:List Nat,vs=[.str (S l)]/\l.length<=1000000/\∀ H',Same H H'->Q (.bl (measureText (l.length+1) l)) H'
theorem ok_U (T:TX w K mg J):FnOkT P w K mg base CX0 5 J.f_U J.d_U ["measure"] km_:=by
 refine T.F_U.fn.okT sc_U (fun _ _ _ _ h=>?_) (fun _ _ _ _ H _ Q E hr h=>?_)
 ·obtain ⟨n,rfl,_⟩:=h
  rfl
 obtain ⟨l,rfl,hl,k⟩:=h;refine ⟨_,(kC_ (oh_ PassesOwn.never rfl (mi_ (pE_ PySem.F.slot_str_split PySem.F.type_str_split iR_ (hJ_ (pv 0)) aq_)) (kJ_ (i:=1) (sc_U).nd rfl (Or.inl rfl)) (ae_ (aG_ (nq_ (cq_ (dJ_ (ok_V T) (hr.mono (by decide)) rfl T.F_V.mg T.F_V.fn.kp T.F_V.b .nil ao_ (aa_ (pv 1) ac_)))) (ae_ (am_ jk_)) ap_)))
  (ae_ (am_ jk_))),?_⟩
 have ea:(Txt.split (Txt.replace (S l) (ofString "/") (ofString ".")) (ofString ".")).map tl=cut sep [] l:=by rw [eN_,eG_,hB_]
 have ea2:Txt.split (Txt.replace (S l) (ofString "/") (ofString ".")) (ofString ".")=(cut sep [] l).map S:=by
  refine bZ_ ?_;rw [ea,map_map];exact (List.map_id _).symm
 refine a5_ ?_;simp! [tSeq,ek_];rw [ea2];have me:=bY_ (l.length+1) l (by omega);rw [me] at k;have sz:(1000000:Nat)+2<=sizeLine:=by decide
 refine ⟨by omega,by left,by rw [eN_,aZ_,length_map];omega,fun p hp=>⟨⟨_,SqL.of ad_⟩,?_⟩⟩;refine fz_ (((cut sep [] l).map S).map V.str) (fun i σ H'=>Same (upd H p (HO.lst (List.map V.str (List.map S (cut sep [] l))))) H'/\(∃ z,σ=[some (.str (S l)),z])/\((cut sep [] l).take i).all atz_=true) ⟨Same.refl _,⟨_,rfl⟩,rfl⟩ (fun i σ H' _ hp=>SqL.of (hp.1 _ _ ad_)) (fun i x σ H' hx hp=>?_) fun σ H' hp=>?_
 ·obtain ⟨sm,⟨z,rfl⟩,hall⟩:=hp
  rw [getElem?_map,getElem?_map] at hx;cases q:(cut sep [] l)[i]? with
  | none=>rw [q] at hx;cases hx
  | some f =>
  rw [q] at hx;cases hx;simp! [tSeq];have hf:=ib_ sep l [] f (mem_of_getElem? q);rw [length_nil] at hf;refine ⟨f,rfl,by omega,fun H2 s2=>⟨_,rfl,?_⟩⟩;have sm2:Same H H2:=((Same.upd hp).trans sm).trans s2;cases r:atz_ f with
  | false =>
   have k1:=k H2 sm2;rw [qi_ q r] at k1;exact iteT k1
  | true =>
  refine iteF ⟨sm.trans s2,?_⟩;rw [lY_ q,hall,r];rfl
 obtain ⟨sm,⟨z,rfl⟩,hall⟩:=hp;rw [length_map,length_map,take_length] at hall;have k1:=k H' ((Same.upd hp).trans sm);rw [hall] at k1;exact k1
def fm_ (C:Addr):Sp:=fun vs H Q _=>∃ (a:Addr) (o u:Int) (m l:List Nat),vs=[.ref a,.str (S l)]/\aW_ C H a o u m/\∀ (b:Addr) (H':Hp),Same H H'->aW_ C H' b o u l->Q (.ref b) H'
theorem ok_am (T:TX w K mg J):FnOk P w K mg base CX0 3 J.f_am J.d_am ["amount","measure"] (fm_ J.C_e):=by
 refine T.F_am.fn.ok sc_am fun _ _ _ _ H _ Q E hr h=>?_;obtain ⟨a,o,u,m,l,rfl,⟨dx,ha⟩,k⟩:=h;refine ⟨_,(ae_ (am_ (aO_ T.M_e (ok_e T) hr.m rfl T.G_e T.b_A .nil ao_ (aa_ (ah_ (pv 0) rfl) (aa_ (ah_ (pv 0) rfl) (aa_ (pv 1) ac_)))))),?_⟩;simp! [tSeq,tFld,bz_,bw_,ha];refine ⟨T.cl_e,T.n_aR,_,rfl,T.cl_e,T.n_aH,_,rfl,fun x dx hx hdx hne=>?_⟩;exact k x _ (aL_ hx hdx) ⟨dx,ad_⟩
def gL_ (C:Addr):Sp:=fun vs H Q _=>∃ (a:Addr) (o u:Int) (m:List Nat),vs=[.ref a]/\aW_ C H a o u m/\∀ (b:Addr) (H':Hp),Same H H'->aW_ C H' b (-o) u m->Q (.ref b) H'
theorem ok_an (T:TX w K mg J):FnOk P w K mg base CX0 3 J.f_an J.d_an ["amount"] (gL_ J.C_e):=by
 refine T.F_an.fn.ok sc_an fun _ _ _ _ H _ Q E hr h=>?_;obtain ⟨a,o,u,m,rfl,⟨dx,ha⟩,k⟩:=h;refine ⟨_,(ae_ (am_ (aO_ T.M_e (ok_e T) hr.m rfl T.G_e T.b_A .nil ao_ (aa_ (qs_ o8_ (ah_ (pv 0) rfl)) (aa_ (ah_ (pv 0) rfl) (aa_ (ah_ (pv 0) rfl) ac_)))))),?_⟩;simp! [tSeq,tFld,bz_,bw_,ha];refine ⟨T.cl_e,T.n_aR,_,rfl,_,rfl,T.cl_e,T.n_aH,_,rfl,T.cl_e,T.n_aS,_,rfl,fun x dx hx hdx hne=>?_⟩;exact k x _ (aL_ hx hdx) ⟨dx,ad_⟩
theorem ok_c (T:TX w K mg J):FnOk P w K mg base CX0 1 J.f_n J.d_n ["self","kind","place"] (eK_ J.C_c):=by
 refine T.F_n.ok sc_n fun _ _ _ _ H _ Q E hr h=>?_;obtain ⟨p,k,q,rfl,hp,kk⟩:=h;refine ⟨_,(ab_ (mh_ (pv 0) (pv 1) rfl)
  (ae_ (mg_ (pv 0) (pv 2) rfl))),?_⟩
 simp! [tSeq,nn_,nm_];refine ⟨_,hp,_,T.X_c,T.n_a8,fun dx hdx hne=>⟨_,_,_,rfl,_,(by rw [al_ hne];exact ad_),T.X_c,T.n_a9,(by show 1<1000;decide),?_⟩⟩;have e:upd (upd (upd H dx (XDic dx [(ofString "kind",k)])) p (XNew J.C_c p (some dx))) dx (XDic dx (putF (ofString "place") q [(ofString "kind",k)]))=upd (upd H dx (XDic dx [("kind",k),("place",q)])) p (XNew J.C_c p (some dx)):=by
  rw [io_ (fun z=>hne z.symm),ew_];rfl
 rw [e];exact kk dx hdx hne
theorem ok_d (T:TX w K mg J):FnOk P w K mg base CX0 1 J.f_x J.d_x ["self","group","kind","begin","end","content"] (bw_ J.C_d ["group","kind","begin","end","content"]):=by
 refine T.F_x.ok sc_x (fun _ _ _ _ H _ Q E hr h=>?_) fun _ _ _ _ h=>ds_ h;obtain ⟨p,dx,args,rfl,hl,hp,k⟩:=h;obtain ⟨a,b,c,d,e,rfl⟩:=len5 hl;refine ⟨_,(ab_ (a2_ (pv 0) (pv 1) rfl)
  (ab_ (a2_ (pv 0) (pv 2) rfl)
  (ab_ (a2_ (pv 0) (pv 3) rfl)
  (ab_ (a2_ (pv 0) (pv 4) rfl)
  (ae_ (a2_ (pv 0) (pv 5) rfl)))))),?_⟩
 simp! [tSeq,sFld];refine ⟨_,_,_,hp,T.cl_d,T.n_be,few0,T.cl_d,T.n_ay,few1,T.cl_d,T.n_aC,few2,T.cl_d,T.n_aT,few3,T.cl_d,T.n_aD,few4,?_⟩;exact k
def ps_ (core:Bool) (C:Addr) (K:Frag):Sp:=fun vs H Q E=>∃ (a:Addr) (t:List Nat) (p:Nat),vs=[.ref a,.int (p:Int)]/\SqL K H a (bs t)/\p<=t.length/\RES C H Q E (gapT core p (t.drop p)) (fun x v _=>v = .int (x.1:Int))
inductive IWord (Ca Ct C:Addr) (K:Frag) (H:Hp) (Q:VK) (E:XK):List V->Prop
 | mk (a:Addr) (t:List Nat) (p:Nat):SqL K H a (bs t)->p<=t.length->t.length<=10000->RES C H Q E (wordToken p (t.drop p)) (fun x v H'=>∃ b,v = .ref b/\cS_ Ca Ct H' b x.1)->IWord Ca Ct C K H Q E [.ref a,.int (p:Int)]
def pm_ (Ca Ct C:Addr) (K:Frag):Sp:=fun vs H Q E=>IWord Ca Ct C K H Q E vs
theorem ok_Y (T:TX w K mg J):FnOk P w K mg base (CX1 P w) 4 J.f_Y J.d_Y ["text","begin"] (pm_ J.C_e J.C_d J.C_c K):=by
 have PD:lQ_ P w K mg base 2 J.f_D Vaunid.inWord:=⟨_,_,(ok_D T),T.F_D.b,T.F_D.fn.kp⟩;refine T.F_Y.fn.okX sc_Y fun _ _ _ _ H _ Q E hr h=>?_;obtain ⟨a,t,p,ht,hp,hl,k⟩:=h;refine ⟨_,(ab_ (aw_ 2 sc_Y.nd (aC_ T.F_o (ok_o T) hr.m ao_ (aa_ (pv 0) (aa_ (pv 1) (aa_ (pe_r T.F_D.mg) ac_)))))
  (ab_ (aG_ (ak_ g1_ (a9_ iM_ (pv 2) (pv 1)) (pe_g T.g_aK) (as_ _)) (ae_ (bE_ T.X_c (ok_c T) hr.m rfl T.G_c T.b_n bl_ rfl (aa_ aj_ (aa_ (pv 1) ac_)))) ap_)
  (ab_ (aw_ 3 sc_Y.nd (aC_ T.F_r (ok_r T) hr.m ao_ (aa_ (cH_ fV_ (pv 0) (bO_ (pv 1)) (bO_ (pv 2))) ac_)))
  (ab_ (aw_ 4 sc_Y.nd (cI_ (ak_ bm_ (pv 3) (pe_r T.g_av) rfl) (pv 3) aq_))
  (ae_ (am_ (aO_ T.M_d (ok_d T) hr.m rfl T.G_d T.b_x .nil ao_ (aa_ (pe_g T.g_a4) (aa_ (pv 4) (aa_ (pv 1) (aa_ (pv 2) (aa_ (pv 3) ac_)))))))))))),?_⟩
 simp! [tSeq,kj_,cT_,eJ_];refine ⟨t,ht,_,PD,?_⟩;unfold wordToken at k;dsimp only at k;have hw:=dX_ (p:=Vaunid.inWord) (t.drop p);have htk:=ex_ Vaunid.inWord (t.drop p);have hle:=d6_ Vaunid.inWord (t.drop p);rw [length_drop] at hle;generalize (t.drop p).takeWhile Vaunid.inWord=wd at k hw htk hle ⊢;refine ite2 (fun h=>?_) fun h=>⟨bs t,ht,fun q hq=>?_⟩
 ·rw [if_pos (show MOSTSIGNS<wd.length by show 12<_;omega)] at k
  exact ⟨by decide,bt_ k⟩
 rw [if_neg (show ¬ MOSTSIGNS<wd.length by show ¬ 12<_;omega)] at k;rw [dA_ t p _ hp,add_sub_cancel_left,htk];refine ⟨wd,SqL.of ad_,by omega,fun H' sm=>⟨_,.inr (T.t_av H'),rfl,rfl,?_⟩⟩;rw [je_,mz_ hw,in_S,<- j8_];have sm2:Same H H':=(Same.upd hq).trans sm;refine cc_ (fun r=>?_) fun r=>?_
 ·simp! [tSeq,bz_,bw_]
  intro x dx hx hdx hne;refine k _ _ (sm2.trans (aL_ hx hdx)) ⟨x,rfl,dx,.str (S wd),?_,rfl⟩;rw [ad_];have hk:kindOf (.word wd)=wd:=if_pos r;show _=some (HO.ins J.C_d dx (d8_ 0 (S (kindOf (.word wd))) _ _ _));rw [hk];rfl
 simp! [tSeq,bz_,bw_];intro x dx hx hdx hne;refine k _ _ (sm2.trans (aL_ hx hdx)) ⟨x,rfl,dx,.str (S wd),?_,rfl⟩;rw [ad_];have hk:kindOf (.word wd)=Vaunid.txt "name":=if_neg (by rw [r];simp);show _=some (HO.ins J.C_d dx (d8_ 0 (S (kindOf (.word wd))) _ _ _));rw [hk,<- aF_];rfl
def hC_ (C:Addr) (K:Frag):Sp:=fun vs H Q E=>∃ (a:Addr) (t:List Nat) (p:Nat) (r:List Nat),vs=[.ref a,.int (p:Int)]/\SqL K H a (bs t)/\t.drop p=91::r/\t.length<=10000 /\
 RES C H Q E (if (r.takeWhile fun c=>c != 93).length=r.length\/measureText ((r.takeWhile fun c=>c != 93).length+1) (r.takeWhile fun c=>c != 93)=false then fault 5 p else (.ok (r.takeWhile fun c=>c != 93):Res (List Nat))) (fun m v _=>v = .str (S m))
theorem ok_ag (T:TX w K mg J):FnOk P w K mg base (CX1 P w) 6 J.f_ag J.d_ag ["text","begin"] (hC_ J.C_c K):=by
 have PD:lQ_ P w K mg base 2 J.f_S (fun c=>c != 93):=⟨_,_,(ok_S T).mono (by decide),T.F_S.b,T.F_S.fn.kp⟩;refine T.F_ag.fn.okX sc_ag fun _ _ _ _ H _ Q E hr h=>?_;obtain ⟨a,t,p,r,rfl,ht,hd,hl,k⟩:=h;refine ⟨_,(ab_ (gU_ (i:=2) (sc_ag).nd rfl (Or.inl rfl) (dJ_ (ok_o T) (hr.mono (by decide)) rfl T.F_o.mg T.F_o.fn.kp T.F_o.b .nil ao_ (aa_ (pv 0) (aa_ (pv 1) (aa_ (pe_r T.F_S.mg) ac_)))))
  (ab_ (gU_ (i:=3) (sc_ag).nd rfl (Or.inl rfl) (dJ_ (ok_r T) (hr.mono (by decide)) rfl T.F_r.mg T.F_r.fn.kp T.F_r.b .nil ao_ (aa_ (cH_ fV_ (pv 0) (bO_ (a9_ bU_ (pv 1) aj_)) (bO_ (pv 2))) ac_)))
  (ab_ (aG_ (pw_orP (og_ br_ (pv 2) (ol_ rfl T.b_len (pv 0)) (as_ _)) (pw_or1T (od_ (oc_ (mo_ (ok_U T) (hr.mono (by decide)) rfl T.F_U.mg T.F_U.fn.kp T.F_U.b ao_ (aa_ (pv 3) ac_))))))
    (ae_ (bE_ T.X_c (ok_c T) (hr.mono (by decide)) rfl T.G_c T.b_n bl_ rfl (aa_ aj_ (aa_ (pv 1) ac_)))) ap_)
  (ae_ (am_ (pv 3)))))),?_⟩
 simp! [tSeq,kj_,cT_,eJ_];refine ⟨t,ht,_,PD,bs t,ht,fun q hq=>?_⟩;have e1:((t.drop p).takeWhile fun c=>c != 93)=91::r.takeWhile fun c=>c != 93:=by rw [hd];rfl
 have hp:=cN_ hd;have zr:=i2_ hd (Nat.le_of_lt hp);rw [length_cons] at zr;have hm:=hP_ (r.takeWhile fun c=>c != 93);have hmm:=hR_ (m:=r.takeWhile fun c=>c != 93);have htk:=ex_ (fun c=>c != 93) r;have hle:=d6_ (fun c=>c != 93) r;rw [e1,length_cons];generalize (r.takeWhile fun c=>c != 93)=m at k hm hmm htk hle ⊢;have ec:cutV (bs t) (some ((p:Int)+1)) (some ((p+(m.length+1):Nat):Int))=bs m:=by
  have:=dA_ t (p+1) (p+(m.length+1)) (by omega);rw [show ((p:Int)+1)=((p+1:Nat):Int) by omega,this,show p+(m.length+1) - (p+1)=m.length by omega,lw_ hd];show bs (r.take m.length)=_;rw [htk]
 rw [ec];refine ⟨m,SqL.of ad_,by omega,fun H' sm=>?_⟩;have sm2:Same H H':=(Same.upd hq).trans sm;refine ⟨bs t,sm2.seq ht,?_⟩;rw [b2_];refine ite2 (fun h=>?_) fun h=>?_
 ·rw [if_pos (.inl (by omega))] at k
  exact ⟨by decide,bt_ (ExF.mono k sm2)⟩
 refine ⟨m.map sgn,rfl,by rw [length_map];omega,fun H2 s2=>⟨_,rfl,?_⟩⟩;rw [hm];cases q2:measureText (m.length+1) m with
 | false =>
  rw [if_pos (.inr q2)] at k;exact iteT ⟨by decide,bt_ (ExF.mono k (sm2.trans s2))⟩
 | true =>
 rw [if_neg (fun z=>z.elim (by omega) (by rw [q2];simp))] at k;refine iteF ?_;rw [hmm q2];exact k _ H2 (sm2.trans s2) rfl
inductive ISignTok (Ca Ct C:Addr) (K:Frag) (H:Hp) (Q:VK) (E:XK):List V->Prop
 | mk (a b:Addr) (t:List Nat) (p:Nat) (L:List (List Nat)):SqL K H a (bs t)->p<t.length->t.length<=10000->GoodSigns L->(∀ H,SqT K H b ((L.map S).map V.str))->RES C H Q E (signToken L p (t.drop p)) (fun x v H'=>∃ b,v = .ref b/\cS_ Ca Ct H' b x.1)->ISignTok Ca Ct C K H Q E [.ref a,.int (p:Int),.ref b]
def gJ_ (Ca Ct C:Addr) (K:Frag):Sp:=fun vs H Q E=>ISignTok Ca Ct C K H Q E vs
theorem ok_ah (T:TX w K mg J):FnOk P w K mg base (CX1 P w) 3 J.f_ah J.d_ah ["text","begin","signs"] (gJ_ J.C_e J.C_d J.C_c K):=by
 refine T.F_ah.fn.okX sc_ah fun _ _ _ _ H _ Q E hr h=>?_;obtain ⟨a,b,t,p,L,ht,hp,hl,hL,hb,k⟩:=h;refine ⟨_,(ab_ (aw_ 3 sc_ah.nd (aC_ T.F_r (ok_r T) hr.m ao_ (aa_ (cH_ fV_ (pv 0) (bO_ (pv 1)) (bO_ (a9_ bU_ (pv 1) aj_))) ac_)))
  (ab_ (aG_ (ak_ cr_ (pv 3) (pv 2) rfl) (ae_ (aw_ 3 sc_ah.nd (cH_ nj_ (pv 3) kI_ (bO_ aj_)))) ap_)
  (ab_ (aG_ (ak_ cr_ (pv 3) (pv 2) rfl) (ae_ (bE_ T.X_c (ok_c T) hr.m rfl T.G_c T.b_n bl_ rfl (aa_ aj_ (aa_ (pv 1) ac_)))) ap_)
  (ae_ (am_ (aO_ T.M_d (ok_d T) hr.m rfl T.G_d T.b_x .nil ao_ (aa_ (pe_g T.g_aM) (aa_ (pv 3) (aa_ (pv 1) (aa_ (a9_ bU_ (pv 1) (aA_ a0_ rfl T.b_len PySem.boot_len (aa_ (pv 3) ac_))) (aa_ (pv 3) ac_))))))))))),?_⟩
 simp! [tSeq,cT_,eJ_];refine ⟨bs t,ht,fun q hq=>?_⟩;have ec:cutV (bs t) (some (p:Int)) (some ((p:Int)+2))=bs ((t.drop p).take 2):=by
  have:=dA_ t p (p+2) (by omega);rw [show ((p:Int)+2)=((p+2:Nat):Int) by omega,this,add_sub_cancel_left]
 rw [ec];refine ⟨(t.drop p).take 2,SqL.of ad_,by rw [length_take];omega,fun H' sm=>?_⟩;have sm2:Same H H':=(Same.upd hq).trans sm;unfold signToken at k;rw [jK_ hL] at k;unfold ku_ at k;have et:((t.drop p).take 2).take 1=(t.drop p).take 1:=by rw [List.take_take];rfl
 have ec2:cutS (S (((t.drop p).take 2).map sgn)) none (some 1)=S (((t.drop p).take 1).map sgn):=by
  have:=qd_ (((t.drop p).take 2).map sgn) 1;rw [<- List.map_take,et] at this;exact this
 have l2:(((t.drop p).take 2).map sgn).length<=sizeLine:=by
  rw [length_map,length_take];exact Nat.le_trans (Nat.min_le_left _ _) (by decide)
 rw [ec2];have plain : ∀ {x},x∈L->x.map sgn=x:=fun hx=>dN_ fun c hc=>(hL.plain _ hx c hc).1;generalize (t.drop p).take 2=s2 at k l2 ⊢;generalize (t.drop p).take 1=s1 at k ⊢;have inL : ∀ l:List Nat,inV (.str (S (l.map sgn))) ((L.map S).map V.str)=decide (l∈L):=fun l=>by
  rw [in_S,decide_eq_decide];exact oy_ hL l
 refine ⟨_,.inr (hb H'),rfl,flat_strs _,?_⟩;rw [inL];by_cases m2:s2∈L
 ·rw [if_pos m2] at k
  rw [decide_eq_true m2];refine iteF ⟨_,.inr (hb H'),rfl,flat_strs _,?_⟩;rw [inL,decide_eq_true m2];refine iteF ?_;rw [plain m2];simp! [tSeq,bz_,bw_,a0_];refine ⟨by rw [<- plain m2];exact l2,fun x dx hx hdx hne=>?_⟩;refine k _ _ (sm2.trans (aL_ hx hdx)) ⟨x,rfl,dx,.str (S s2),?_,rfl⟩;rw [ad_];rfl
 rw [if_neg m2] at k;rw [decide_eq_false m2];refine iteT ⟨l2,_,.inr (hb H'),rfl,flat_strs _,?_⟩;rw [inL];by_cases m1:s1∈L
 ·rw [if_pos m1] at k
  rw [decide_eq_true m1];refine iteF ?_;rw [plain m1];simp! [tSeq,bz_,bw_,a0_];refine ⟨?_,fun x dx hx hdx hne=>?_⟩
  ·have:s1.length=1\/s1.length=2:=by
    obtain ⟨L2,L1,rfl,h2,h1⟩:=hL.parts;rcases mem_append.mp m1 with z | z
    ·exact .inr (h2 _ z)
    exact .inl (h1 _ z)
   exact Nat.le_trans (show s1.length<=2 by omega) (by decide)
  refine k _ _ (sm2.trans (aL_ hx hdx)) ⟨x,rfl,dx,.str (S s1),?_,rfl⟩;rw [ad_];rfl
 rw [if_neg m1] at k;rw [decide_eq_false m1];exact iteT ⟨by decide,bt_ (ExF.mono k sm2)⟩
inductive INumTok (Ca Ct C:Addr) (K:Frag) (H:Hp) (Q:VK) (E:XK):List V->Prop
 | mk (a:Addr) (t:List Nat) (p d c:Nat) (r:List Nat) (neg:Bool):SqL K H a (bs t)->t.length<=10000->d=p+(if neg=true then 1 else 0)->t.drop d=c::r->Vaunid.isDigit c=true->RES C H Q E (numberToken neg p (t.drop p)) (fun x v H'=>∃ b,v = .ref b/\cS_ Ca Ct H' b x.1)->INumTok Ca Ct C K H Q E [.ref a,.int (p:Int),.int (d:Int)]
def l3_ (Ca Ct C:Addr) (K:Frag):Sp:=fun vs H Q E=>INumTok Ca Ct C K H Q E vs
theorem ok_w (T:TX w K mg J):FnOk P w K mg base (CX1 P w) 7 J.f_w J.d_w ["text","begin","digits"] (l3_ J.C_e J.C_d J.C_c K):=by
 refine T.F_w.fn.okX sc_w fun _ _ _ _ H _ Q E hr h=>?_;obtain ⟨a,t,p,d,c,r,neg,ht,hl,hd,hdr,hc,k⟩:=h;refine ⟨_,(ab_ (aw_ 3 sc_w.nd (aC_ T.F_af (ok_af T) hr.m ao_ (aa_ (pv 0) (aa_ (pv 2) ac_))))
  (ab_ (aw_ 4 sc_w.nd (aC_ T.F_L (ok_L T) hr.m ao_ (aa_ (aC_ T.F_r (ok_r T) hr.m ao_ (aa_ (cH_ fV_ (pv 0) (bO_ (pv 2)) (bO_ (pv 3))) ac_)) ac_)))
  (ab_ (aG_ (nr_ (pG_ (pv 4))) (ae_ (bE_ T.X_c (ok_c T) hr.m rfl T.G_c T.b_n bl_ rfl (aa_ aj_ (aa_ (pv 1) ac_)))) ap_)
  (ab_ (aG_ (PW.pt (pw_and (ak_ jn_ (pv 3) (aA_ aD_ rfl T.b_len PySem.boot_len (aa_ (pv 0) ac_)) (as_ _)) (pw_and1 (ak_ br_ (aQ_ aJ_ (pv 0) (pv 3) (fun _ _=>rfl)) (pe_g T.g_aX) (as_ _))))) (ab_ (aw_ 5 sc_w.nd (aC_ T.F_ag (ok_ag T) hr.m aH_ (aa_ (pv 0) (aa_ (pv 3) ac_))))
  (ab_ (aw_ 4 sc_w.nd (aC_ T.F_am (ok_am T) hr.m ao_ (aa_ (pv 4) (aa_ (pv 5) ac_))))
  (ae_ (aw_ 3 sc_w.nd (a9_ bU_ (a9_ bU_ (pv 3) (aA_ a0_ rfl T.b_len PySem.boot_len (aa_ (pv 5) ac_))) aj_))))) ap_)
  (ab_ (aG_ (ak_ jn_ (pv 1) (pv 2) (as_ _)) (ae_ (aw_ 4 sc_w.nd (aC_ T.F_an (ok_an T) hr.m ao_ (aa_ (pv 4) ac_)))) ap_)
  (ab_ (aw_ 6 sc_w.nd (cI_ (ak_ br_ (a9_ iM_ (pv 3) (pv 2)) aj_ (as_ _)) aq_ aq_))
  (ae_ (am_ (aO_ T.M_d (ok_d T) hr.m rfl T.G_d T.b_x .nil ao_ (aa_ (pe_g T.g_a5) (aa_ (pv 6) (aa_ (pv 1) (aa_ (pv 3) (aa_ (pv 4) ac_)))))))))))))),?_⟩
 have es:(if neg=true then (t.drop p).drop 1 else t.drop p)=t.drop d:=by
  cases neg with
  | false=>rw [hd];rfl
  | true=>rw [hd,if_pos rfl,drop_drop];rfl
 unfold numberToken at k;dsimp only at k;rw [es] at k;obtain ⟨hrest,hsz⟩:=ga_ (t.drop d);have hpos:=kU_ hdr hc;obtain ⟨b2,c2,sp1,sp2,sp3,sp4⟩:=kS_ (t.drop d);have hdlt:=cN_ hdr;generalize hx:numberText (t.drop d)=x at k hrest hsz hpos sp1 sp3;obtain ⟨n,o,rest⟩:=x;dsimp only at k hrest hsz hpos sp1 sp3;rw [length_drop] at hsz sp4;refine bI_ (fun σ' H'=>Same H H'/\σ'=[some (.ref a),some (.int (p:Int)),some (.int (d:Int)),some (.int ((d+n:Nat):Int)),none,none,none]) (fun X hX=>?_) ?_
 ·simp! [tSeq,iv_]
  refine ⟨t,ht,by omega,fun H' sm=>?_⟩;rw [hx];exact hX _ _ ⟨sm,rfl⟩
 rintro σ' H1 ⟨sm1,rfl⟩
 have ht1:=sm1.seq ht;refine bI_ (fun σ' H'=>Same H H'/\∃ am,σ'=[some (.ref a),some (.int (p:Int)),some (.int (d:Int)),some (.int ((d+n:Nat):Int)),some am,none,none]/\(match o with | none=>am = .non | some (tp,lw)=>∃ b,am = .ref b/\aW_ J.C_e H' b (tp:Int) (lw:Int) [])) (fun X hX=>?_) ?_
 ·simp! [tSeq,eJ_]
  refine ⟨bs t,ht1,fun q hq=>?_⟩;rw [dA_ t d (d+n) (by omega),add_sub_cancel_left];refine ⟨_,SqL.of ad_,by rw [length_take];omega,fun H2 s2=>?_⟩;have sm2:Same H H2:=sm1.trans ((Same.upd hq).trans s2);rw [sp1];have hall:=dX_ (p:=Vaunid.isDigit) (t.drop d);have hpl:((t.drop d).takeWhile Vaunid.isDigit++(if c2=0 then [] else c2::b2)).map sgn=(t.drop d).takeWhile Vaunid.isDigit++(if c2=0 then [] else c2::b2):=dN_ fun y hy=>by
   rcases mem_append.mp hy with z | z
   ·have:=dz_ (hall y z);omega
   rcases sp2 with ⟨rfl,rfl⟩ | ⟨h46,_,hbd⟩
   ·simp at z
   rw [if_neg (by omega)] at z;rcases mem_cons.mp z with z | z
   ·omega
   have:=dz_ (hbd y z);omega
  rw [hpl];refine ⟨_,b2,c2,rfl,hall,?_,by omega,sp2,?_⟩
  ·rw [hdr,takeWhile_cons,hc]
   simp
  rw [<- sp3];cases o with
  | none=>exact fun H3 s3=>hX _ _ ⟨sm2.trans s3,.non,rfl,rfl⟩
  | some tp=>exact fun b H3 s3 hb=>hX _ _ ⟨sm2.trans s3,.ref b,rfl,b,rfl,hb⟩
 rintro σ' H2 ⟨sm2,am,rfl,ham⟩
 have ht2:=sm2.seq ht;cases o with
 | none =>
  subst ham;simp! [tSeq,cT_];exact ⟨by decide,bt_ (ExF.mono k sm2)⟩
 | some tl =>
 obtain ⟨tp,lw⟩:=tl;obtain ⟨b,rfl,hb⟩:=ham;dsimp only at k;refine bI_ (fun σ' H'=>H'=H2/\σ'=[some (.ref a),some (.int (p:Int)),some (.int (d:Int)),some (.int ((d+n:Nat):Int)),some (.ref b),none,none]) (fun X hX=>?_) ?_
 ·simp! [tSeq,cT_]
  exact hX _ _ ⟨rfl,rfl⟩
 rintro σ' H2' ⟨rfl,rfl⟩
 have hrest':rest=t.drop (d+n):=by rw [hrest,drop_drop]
 have hpd:p+(n+if neg=true then 1 else 0)=d+n:=by omega
 rw [hpd] at k;refine bI_ (fun σ' H'=>Same H H'/\∃ (am:Addr) (m:Option (List Nat)) (e:Nat) (dg:Option Int) (mz:Option V),σ'=[some (.ref a),some (.int (p:Int)),some (.int (d:Int)),some (.int (e:Int)),some (.ref am),mz,none]/\aW_ J.C_e H' am (tp:Int) (lw:Int) (m.getD [])/\(dg.isSome=decide (e=d+1))/\d<e /\
   (∀ v H',Same H H'->(∃ b,v = .ref b/\cS_ J.C_e J.C_d H' b { tok := .num { top:=if neg=true then -(tp:Int) else (tp:Int),low:=lw,measure:=m } dg,start:=p,halt_:=e })->Q v H')) (fun X hX=>?_) ?_
 ·simp! [tSeq]
  refine ⟨bs t,.inl ht2,?_⟩;rw [b2_];have nomeas:(∀ r2,rest≠91::r2)->X [some (.ref a),some (.int (p:Int)),some (.int (d:Int)),some (.int ((d+n:Nat):Int)),some (.ref b),none,none] H2':=fun hno=>by
   refine hX _ _ ⟨sm2,b,none,d+n,(if n=1 then some (if neg=true then -(tp:Int) else (tp:Int)) else none),none,rfl,hb,?_,by omega,?_⟩
   ·by_cases h1:n=1
    ·subst h1
     simp
    rw [if_neg h1,decide_eq_false (by omega)];rfl
   split at k
   ·exact absurd rfl (hno _)
   exact fun v H' s' q=>k v H' s' q
  refine ite2 (fun hlt=>?_) fun hlt=>nomeas fun r2 z=>?_
  ·have hlt':d+n<t.length:=by omega
   have hg1:t[d+n]? = some t[d+n]:=getElem?_eq_getElem hlt';have hd1:=dV_ hg1;generalize t[d+n]=c3 at hg1 hd1;refine ⟨bs t,ht2,_,bo_ (d4_ hg1),rfl,ite2 (fun h=>?_) fun h=>nomeas fun r2 z=>?_⟩
   ·have hc3:c3=91:=by injection h with h;omega
    subst hc3;rw [<- hrest'] at hd1;rw [hd1] at k;change RES J.C_c H Q E (if _\/_ then _ else _) _ at k;refine ⟨a,t,d+n,_,rfl,ht2,by rw [<- hrest'];exact hd1,hl,?_⟩;generalize t.drop (d+n+1)=r2 at k hd1 ⊢;by_cases hbad:(r2.takeWhile fun c=>c != 93).length=r2.length\/measureText ((r2.takeWhile fun c=>c != 93).length+1) (r2.takeWhile fun c=>c != 93)=false
    ·rw [if_pos hbad] at k ⊢
     exact ExF.mono k sm2
    rw [if_neg hbad] at k ⊢
    rintro v H3 s3 rfl
    simp! [tSeq,fm_];refine ⟨_,_,_,_,rfl,hb.same s3,fun b3 H4 s4 hb4=>⟨?_,?_⟩⟩
    ·have h1:=d6_ (fun c=>c != 93) r2
     have h2:=cN_ (hrest'.symm.trans hd1);have h3:=i2_ (hrest'.symm.trans hd1) (Nat.le_of_lt h2);rw [length_cons] at h3;exact Nat.le_trans (show _<=10000 by omega) (by decide)
    refine hX _ _ ⟨sm2.trans (s3.trans s4),b3,some (r2.takeWhile fun c=>c != 93),d+n+(r2.takeWhile fun c=>c != 93).length+2,none,_,rfl,hb4,?_,by omega,?_⟩
    ·rw [decide_eq_false (by omega)]
     rfl
    exact fun v H' s' q=>k v H' s' q
   rw [hrest',hd1] at z;cases z;exact h rfl
  rw [hrest'] at z;exact absurd (cN_ z) (by omega)
 rintro σ' H3 ⟨sm3,am,m,e,dg,mz,rfl,ham,hdg,hde,k⟩
 refine bI_ (fun σ' H'=>Same H H'/\∃ (am:Addr) (mz:Option V),σ'=[some (.ref a),some (.int (p:Int)),some (.int (d:Int)),some (.int (e:Int)),some (.ref am),mz,none]/\aW_ J.C_e H' am (if neg=true then -(tp:Int) else (tp:Int)) (lw:Int) (m.getD [])) (fun X hX=>?_) ?_
 ·simp! [tSeq,gL_]
  refine ite2 (fun h=>?_) fun h=>?_
  ·have hn:neg=true:=by
    cases neg with
    | true=>rfl
    | false=>simp at hd;omega
   rw [if_pos hn] at hX;exact ⟨_,_,_,ham,fun b4 H4 s4 hb4=>hX _ _ ⟨sm3.trans s4,_,_,rfl,hb4⟩⟩
  have hn:neg=false:=by
   cases neg with
   | false=>rfl
   | true=>simp at hd;omega
  rw [if_neg (by rw [hn];simp)] at hX;exact hX _ _ ⟨sm3,_,_,rfl,ham⟩
 rintro σ' H4 ⟨sm4,am,mz,rfl,ham⟩
 simp! [tSeq,bz_,bw_];refine ite2 (fun h=>?_) fun h=>?_
 ·intro x dx hx hdx hne
  refine k _ _ (sm4.trans (aL_ hx hdx)) ⟨x,rfl,dx,.ref am,?_,am,rfl,ham.same (aL_ hx hdx)⟩;rw [ad_];have hk:kindOf (.num { top:=if neg=true then -(tp:Int) else (tp:Int),low:=lw,measure:=m } dg)=Vaunid.txt "digit":=if_pos (by rw [hdg];exact decide_eq_true (by omega));show _=some (HO.ins J.C_d dx (d8_ 1 (S (kindOf (.num _ dg))) _ _ _));rw [hk,<- aF_];rfl
 intro x dx hx hdx hne;refine k _ _ (sm4.trans (aL_ hx hdx)) ⟨x,rfl,dx,.ref am,?_,am,rfl,ham.same (aL_ hx hdx)⟩;rw [ad_];have hk:kindOf (.num { top:=if neg=true then -(tp:Int) else (tp:Int),low:=lw,measure:=m } dg)=Vaunid.txt "number":=if_neg (by rw [hdg,decide_eq_true_eq];omega);show _=some (HO.ins J.C_d dx (d8_ 1 (S (kindOf (.num _ dg))) _ _ _));rw [hk,<- aF_];rfl
def po_ (core:Bool) (Ca Ct C:Addr) (K:Frag):Sp:=fun vs H Q E=>∃ (a:Addr) (t:List Nat) (p:Nat),vs=[.ref a,.int (p:Int)]/\SqL K H a (bs t)/\p<t.length/\t.length<=10000 /\
 RES C H Q E (token core p (t.drop p)) (fun x v H'=>∃ b,v = .ref b/\cS_ Ca Ct H' b x.1)
theorem ok_X (T:TX w K mg J):FnOk P w K mg base (CX1 P w) 5 J.f_X J.d_X ["text","place"] (ps_ true J.C_c K):=by
 have PD:lQ_ P w K mg base 2 J.f_R (fun c=>c == 32):=⟨_,_,(ok_R T).mono (by decide),T.F_R.b,T.F_R.fn.kp⟩;refine T.F_X.fn.okX sc_X fun _ _ _ _ H _ Q E hr h=>?_;obtain ⟨a,t,p,rfl,ht,hp,k⟩:=h;refine ⟨_,(ae_ (am_ (aC_ T.F_o (ok_o T) hr.m ao_ (aa_ (pv 0) (aa_ (pv 1) (aa_ (pe_r T.F_R.mg) ac_)))))),?_⟩;simp! [tSeq,kj_];refine ⟨t,ht,_,PD,?_⟩;rw [fx_] at k;exact k _ H (Same.refl H) rfl
theorem hO_ {t:List Nat}{p c:Nat} (hd:t.drop p=c::t.drop (p+1)):(minusDigit (t.drop p)=true)↔(c=45/\∃ d r,t.drop (p+1)=d::r/\Vaunid.isDigit d=true):=by
 rw [hd];unfold minusDigit
 constructor
 ·intro h
  split at h
  ·rename_i d r e
   injection e with e1 e2;exact ⟨e1,d,r,e2,h⟩
  cases h
 rintro ⟨rfl,d,r,e,h⟩
 rw [e];exact h
theorem ok_N (T:TX w K mg J):FnOk P w K mg base (CX1 P w) 8 J.f_N J.d_N ["text","begin"] (po_ true J.C_e J.C_d J.C_c K):=by
 refine T.F_N.fn.okX sc_N fun _ _ _ _ H _ Q E hr h=>?_;obtain ⟨a,t,p,rfl,ht,hp,hl,k⟩:=h;refine ⟨_,(ab_ (aG_ (cq_ (aC_ T.F_J (ok_J T) hr.m ao_ (aa_ (aQ_ aJ_ (pv 0) (pv 1) (fun _ _=>rfl)) ac_))) (ae_ (am_ (aC_ T.F_Y (ok_Y T) hr.m aH_ (aa_ (pv 0) (aa_ (pv 1) ac_))))) ap_)
  (ab_ (aw_ 2 sc_N.nd (cI_ (ak_ br_ (aQ_ aJ_ (pv 0) (pv 1) (fun _ _=>rfl)) (pe_g T.g_aZ) (as_ _)) (a9_ bU_ (pv 1) aj_) (pv 1)))
  (ab_ (aG_ (PW.pt (pw_and (ak_ jn_ (pv 2) (aA_ aD_ rfl T.b_len PySem.boot_len (aa_ (pv 0) ac_)) (as_ _)) (pw_and1 (cq_ (aC_ T.F_m (ok_m T) hr.m ao_ (aa_ (aQ_ aJ_ (pv 0) (pv 2) (fun _ _=>rfl)) ac_)))))) (ae_ (am_ (aC_ T.F_w (ok_w T) hr.m aH_ (aa_ (pv 0) (aa_ (pv 1) (aa_ (pv 2) ac_)))))) ap_)
  (ae_ (am_ (aC_ T.F_ah (ok_ah T) hr.m aH_ (aa_ (pv 0) (aa_ (pv 1) (aa_ (pe_r T.g_as) ac_))))))))),?_⟩
 simp! [tSeq];have hg1:t[p]? = some t[p]:=getElem?_eq_getElem hp;have hd1:=dV_ hg1;generalize t[p]=c at hg1 hd1;have md:=hO_ hd1;rw [hd1] at k;unfold token at k;dsimp only at k;rw [<- hd1] at k;refine ⟨bs t,ht,_,bo_ (d4_ hg1),?_⟩;simp! [tSeq,spB];refine cc_ (fun h=>?_) fun h=>⟨bs t,ht,_,bo_ (d4_ hg1),?_⟩
 ·rw [if_pos h] at k
  exact ⟨a,t,p,ht,Nat.le_of_lt hp,hl,k⟩
 rw [if_neg (by rw [h];simp)] at k;have signs : ¬ Vaunid.isDigit c=true->¬ minusDigit (t.drop p)=true->gJ_ J.C_e J.C_d J.C_c K [.ref a,.int (p:Int),.ref J.a_as] H Q E:=fun h2 h3=>by
  rw [if_neg h2,if_neg (fun z=>h3 z.2)] at k;refine ⟨a,_,t,p,coreSigns,ht,hp,hl,lk_,fun H'=>?_,k⟩;rw [<- lE_];exact T.t_as H'
 simp! [tSeq,spB];refine ite2 (fun h45=>?_) fun h45=>?_
 ·have e45:c=45:=by omega
  subst e45;refine ⟨bs t,.inl ht,?_⟩;rw [b2_];refine ite2 (fun h2=>?_) fun h2=>?_
  ·have h2':p+1<t.length:=by omega
   have hg2:t[p+1]? = some t[p+1]:=getElem?_eq_getElem h2';have hd2:=dV_ hg2;generalize t[p+1]=d at hg2 hd2;refine ⟨bs t,ht,_,bo_ (d4_ hg2),?_⟩;simp! [tSeq,spB];refine cc_ (fun h3=>?_) fun h3=>?_
   ·rw [if_neg (by decide),if_pos ⟨rfl,md.mpr ⟨rfl,d,_,hd2,h3⟩⟩] at k
    exact ⟨a,t,p,p+1,d,_,true,ht,hl,rfl,hd2,h3,k⟩
   exact signs (by decide) (fun z=>by
    obtain ⟨_,d',r',e1,e2⟩:=md.mp z;rw [hd2] at e1;cases e1;rw [h3] at e2;cases e2)
  exact signs (by decide) (fun z=>by
   obtain ⟨_,d',r',e1,e2⟩:=md.mp z;rw [drop_eq_nil_of_le (by omega)] at e1;cases e1)
 have e45 : ¬ c=45:=by omega
 refine ⟨bs t,.inl ht,?_⟩;rw [b2_];refine ite2 (fun h2=>?_) fun h2=>?_
 ·refine ⟨bs t,ht,_,bo_ (d4_ hg1),?_⟩
  simp! [tSeq,spB];refine cc_ (fun h3=>?_) fun h3=>?_
  ·rw [if_pos h3] at k
   exact ⟨a,t,p,p,c,_,false,ht,hl,rfl,hd1,h3,k⟩
  exact signs (by rw [h3];simp) (fun z=>e45 (md.mp z).1)
 omega
def GapF (P:Program) (w:World) (K:Frag) (mg:zM) (base:Heap) (k:Nat) (C f:Addr) (core:Bool):Prop:=∃ fd ps,FnOk P w K mg base (CX1 P w) k f fd ps (ps_ core C K)/\a8_ K fd ps []/\keepIn K (.ref f)=true
def TokF (P:Program) (w:World) (K:Frag) (mg:zM) (base:Heap) (k:Nat) (Ca Ct C f:Addr) (core:Bool):Prop:=∃ fd ps,FnOk P w K mg base (CX1 P w) k f fd ps (po_ core Ca Ct C K)/\a8_ K fd ps []/\keepIn K (.ref f)=true
def iA_ (Ca Ct:Addr) (l:List Vaunid.Token) (v:V) (H:Hp):Prop:=∃ (b:Addr) (as:List Addr),v = .ref b/\H b=some (.lst (as.map V.ref))/\cj_ Ca Ct H as l
def kq_ (P:Program) (w:World) (K:Frag) (mg:zM) (base:Heap) (Ca Ct C:Addr):Sp:=fun vs H Q E=>∃ (a f g:Addr) (t:List Nat) (core:Bool),vs=[.ref a,.ref f,.ref g]/\SqL K H a (bs t)/\t.length<=10000/\GapF P w K mg base 8 C f core/\TokF P w K mg base 8 Ca Ct C g core /\
 RES C H Q E (d7_ core 0 t) (iA_ Ca Ct)
theorem ok_M (T:TX w K mg J):FnOk P w K mg base (CX1 P w) 9 J.f_M J.d_M ["text","gap_end","token_at"] (kq_ P w K mg base J.C_e J.C_d J.C_c):=by
 refine T.F_M.fn.okX sc_M fun _ _ _ _ H _ Q E hr h=>?_;obtain ⟨a,f,g,t,core,rfl,ht,hl,⟨fd1,ps1,F1,b1,k1⟩,⟨fd2,ps2,F2,b2,k2⟩,k⟩:=h;refine ⟨_,(ab_ (aw_ 3 sc_M.nd (aE_ ac_))
  (ab_ (aw_ 4 sc_M.nd (cJ_ (CX:=CX1 P w) (k:=8) 1 hr.m aH_ (aa_ (pv 0) (aa_ aj_ ac_))))
  (ab_ (bD_ iL_ (ak_ jn_ (pv 4) (aA_ aD_ rfl T.b_len PySem.boot_len (aa_ (pv 0) ac_)) (as_ _)) (ab_ (aw_ 5 sc_M.nd (cJ_ (CX:=CX1 P w) (k:=8) 2 hr.m aH_ (aa_ (pv 0) (aa_ (pv 4) ac_))))
  (ab_ (aB_ (bL_ pla sla tla ax_ (pv 3) (aa_ (pv 5) ac_)))
  (ae_ (aw_ 4 sc_M.nd (cJ_ (CX:=CX1 P w) (k:=8) 1 hr.m aH_ (aa_ (pv 0) (aa_ (ah_ (pv 5) rfl) ac_))))))))
  (ae_ (am_ (pv 3)))))),?_⟩
 simp! [tSeq,eC_];refine ⟨zero_le _,fun b hb=>⟨fd1,ps1,_,F1,b1,k1,a,t,0,rfl,(Same.upd hb).seq ht,zero_le _,?_⟩⟩;rw [drop_zero];cases q0:gapT core 0 t with
 | error e =>
  rw [dD_,q0] at k;exact ExF.mono k (Same.upd hb)
 | ok x =>
 obtain ⟨g1,g2,g3⟩:=eo_ core _ _ _ _ q0;rw [sub_zero] at g3;rw [zero_add] at g2
 rintro v H1 s1 rfl
 have hk0:d7_ core 0 t=preR [] (aN_ core (x.1,t.drop x.1)):=by
  rw [dD_,q0];show aN_ core x=_;rw [<- g3];show aN_ core (x.1,x.2)=_;cases aN_ core (x.1,x.2) <;> rfl
 obtain ⟨Pv,hPv⟩ : ∃ Pv:Nat->L2.St->Hp->Prop,Pv=fun m σ H'=>Same H H'/\∃ (q:Nat) (as:List Addr) (l:List Vaunid.Token) (z:Option V),m=t.length - q/\q<=t.length/\as.length<=q/\σ=[some (.ref a),some (.ref f),some (.ref g),some (.ref b),some (.int (q:Int)),z] /\
  H' b=some (.lst (as.map V.ref))/\cj_ J.C_e J.C_d H' as l/\d7_ core 0 t=preR l (aN_ core (q,t.drop q)):=⟨_,rfl⟩
 refine b5_ Pv _ (by rw [hPv];exact ⟨(Same.upd hb).trans s1,x.1,[],[],none,rfl,g2,zero_le _,rfl,s1 _ _ ad_,.nil,hk0⟩) fun m σ H' hp=>?_;rw [hPv] at hp;obtain ⟨sm,q,as,l,z,rfl,hq,hal,rfl,hbl,hto,hk⟩:=hp;have ht':=sm.seq ht;simp! [tSeq,eC_];refine ⟨bs t,.inl ht',?_⟩;rw [b2_];refine ite2 (fun hlt=>?_) fun hlt=>?_
 ·have hlt':q<t.length:=by omega
  have hg1:t[q]? = some t[q]:=getElem?_eq_getElem hlt';have hd1:=dV_ hg1;generalize t[q]=c at hg1 hd1;refine ⟨_,fun _ _ z=>z,fd2,ps2,_,F2,b2,k2,a,t,q,rfl,ht',hlt',hl,?_⟩;cases qt:token core q (t.drop q) with
  | error e =>
   have e1:d7_ core 0 t = .error e:=by
    rw [hk];unfold aN_;rw [hd1] at qt;rw [hd1];dsimp only;rw [qt];rfl
   rw [e1] at k;exact ExF.mono k sm
  | ok y =>
  obtain ⟨kt,rest⟩:=y;have tf:=bS_ qt;have hhl:kt.halt_<=t.length:=by have:=tf.le;rw [length_drop] at this;omega
  have hqh:q<kt.halt_:=tf.lt;have hrest:rest=t.drop kt.halt_:=by rw [tf.rest,drop_drop];congr 1;omega
  rintro v H2 s2 ⟨bt,rfl,htk⟩
  have hk2:d7_ core 0 t=preR l (match gapT core kt.halt_ (t.drop kt.halt_) with | .error e => .error e | .ok y=>preR [kt] (aN_ core y)):=by
   rw [hk];congr 1;have e2:aN_ core (q,t.drop q)=(match d7_ core kt.halt_ rest with | .error e => .error e | .ok l => .ok (kt::l)):=by
    unfold aN_;rw [hd1] at qt ⊢;dsimp only;rw [qt] <;> rfl
   rw [e2,hrest,dD_];cases gapT core kt.halt_ (t.drop kt.halt_) with
   | error e=>rfl
   | ok y =>
   show (match aN_ core y with | .error e => .error e | .ok l => .ok (kt::l))=preR [kt] (aN_ core y)
   cases aN_ core y <;> rfl
  simp! [tSeq,tBM,aY_,tFld,eC_];have hbl2:=s2 _ _ hbl;obtain ⟨dt,ct,hins,hcont⟩:=htk;have nbt:bt≠b:=a7_ hins hbl2 (by intro z;cases z);have sI:eb_ H2 (upd H2 b (.lst (as.map V.ref++[.ref bt]))):=eb_.lst hbl2;have sH:Same H (upd H2 b (.lst (as.map V.ref++[.ref bt]))):=fun c o e=>by
   rw [al_ (af_ e hb)];exact s2 _ _ (sm _ _ e)
  refine ⟨.inl ⟨rfl,_,SqL.of hbl2⟩,_,hbl2,?_,?_⟩
  ·rw [length_map]
   exact Nat.lt_of_le_of_lt (show as.length<=10000 by omega) (by decide)
  refine ⟨fd1,ps1,_,F1,b1,k1,J.C_d,dt,_,by rw [al_ nbt];exact hins,T.cl_d,T.n_aT,_,rfl,a,t,kt.halt_,rfl,sH.seq ht,hhl,?_⟩;cases qg:gapT core kt.halt_ (t.drop kt.halt_) with
  | error e =>
   rw [qg] at hk2;rw [hk2] at k;exact ExF.mono k sH
  | ok y =>
  obtain ⟨g1,g2,g3⟩:=eo_ core _ _ _ _ qg;rw [length_drop] at g2
  rintro v H3 s3 rfl
  refine ⟨t.length - y.1,by omega,?_⟩;rw [hPv];refine ⟨sH.trans s3,y.1,as++[bt],l++[kt],_,rfl,by omega,by rw [length_append,length_singleton];omega,rfl,?_,?_,?_⟩
  ·rw [map_append]
   exact s3 _ _ ad_
  ·exact cj_.snoc (cj_.sameI hto ((Same.insts s2).trans (sI.trans (Same.insts s3)))) (cS_.sameI ⟨dt,ct,hins,hcont⟩ (sI.trans (Same.insts s3)))
  rw [hk2,qg];dsimp only;have e3:y=(y.1,t.drop y.1):=by
   have:y.2=t.drop y.1:=by rw [g3,drop_drop];congr 1;omega
   rw [<- this]
  rw [<- e3];cases aN_ core y with
  | error e=>rfl
  | ok l2 =>
  show Except.ok _=Except.ok _;rw [append_assoc]
 have e0:t.drop q=[]:=drop_eq_nil_of_le (by omega);rw [e0] at hk;have e1:d7_ core 0 t = .ok l:=by
  rw [hk];show Except.ok (l++[])=_;rw [append_nil]
 rw [e1] at k;exact k _ H' sm ⟨b,as,rfl,hbl,hto⟩
def gK_ (core:Bool) (Ca Ct C:Addr) (K:Frag):Sp:=fun vs H Q E=>∃ (a:Addr) (t:List Nat),vs=[.ref a]/\SqL K H a (bs t)/\t.length<=10000/\RES C H Q E (allTokens core t) (iA_ Ca Ct)
theorem ok_ao (T:TX w K mg J):FnOk P w K mg base (CX1 P w) 10 J.f_ao J.d_ao ["text"] (gK_ true J.C_e J.C_d J.C_c K):=by
 have GF:GapF P w K mg base 8 J.C_c J.f_X true:=⟨_,_,(ok_X T).mono (by decide),T.F_X.b,T.F_X.fn.kp⟩;have TF:TokF P w K mg base 8 J.C_e J.C_d J.C_c J.f_N true:=⟨_,_,ok_N T,T.F_N.b,T.F_N.fn.kp⟩;refine T.F_ao.fn.okX sc_ao fun _ _ _ _ H _ Q E hr h=>?_;obtain ⟨a,t,rfl,ht,hl,k⟩:=h;refine ⟨_,(ae_ (am_ (aC_ T.F_M (ok_M T) hr.m aH_ (aa_ (pv 0) (aa_ (pe_r T.F_X.mg) (aa_ (pe_r T.F_N.mg) ac_)))))),?_⟩;simp! [tSeq];exact ⟨a,_,_,t,true,rfl,ht,hl,GF,TF,k⟩
def gM_ (Ca:Addr):Sp:=fun vs H Q _=>∃ (a:Addr) (v:Lit),vs=[.ref a]/\aW_ Ca H a v.top (v.low:Int) (v.measure.getD [])/\gs_ v/\Q (.str (S (shownLit v))) H
theorem ok_E (T:TX w K mg J):FnOk P w K mg base CX0 1 J.f_E J.d_E ["amount"] (gM_ J.C_e):=by
 refine T.F_E.fn.ok sc_E fun _ _ _ _ H _ Q E hr h=>?_;obtain ⟨a,v,rfl,⟨dx,ha⟩,g,k⟩:=h;refine ⟨_,(ab_ (aw_ 1 sc_E.nd (a3_ bM_ rfl T.b_str cy_ (aa_ (ah_ (pv 0) rfl) ac_)))
  (ab_ (aG_ (ak_ jl_ (ah_ (pv 0) rfl) aj_ (as_ _)) (ae_ (aw_ 1 sc_E.nd (a9_ a6_ (a9_ a6_ (pv 1) aq_) (a3_ bM_ rfl T.b_str cy_ (aa_ (ah_ (pv 0) rfl) ac_))))) ap_)
  (ab_ (aG_ (ak_ jl_ (ah_ (pv 0) rfl) aq_ (as_ _)) (ae_ (aw_ 1 sc_E.nd (a9_ a6_ (a9_ a6_ (a9_ a6_ (pv 1) aq_) (ah_ (pv 0) rfl)) aq_))) ap_)
  (ae_ (am_ (pv 1)))))),?_⟩
 have big : ∀ n:Nat,n<=20000->n<=sizeLine:=fun n h=>Nat.le_trans h (by decide);have d1:=cV_ g.2.1;have d2:=ce_ g.2.2;have lm:(v.measure.getD []).length<=10000:=by
  cases h:v.measure with
  | none=>exact zero_le _
  | some m=>exact (g.1 m h).2
 rw [gQ_ v g] at k;simp! [tSeq,tFld,ha];refine ⟨T.cl_e,T.n_aR,_,rfl,_,rfl,eL_ g.2.1,?_⟩;refine ⟨T.cl_e,T.n_aH,_,rfl,rfl,?_⟩;rw [str_int];generalize hm:v.measure.getD []=m at *;have tail : ∀ l:List Nat,l.length<=1000->Q (.str (S (l++(if m=[] then [] else 91::(m++[93]))))) H->Cls K J.C_e/\ay_ K J.C_e (ofString "measure")/\∃ x,List.lookup (ofString "measure") (afs v.top (↑v.low) (S m))=some x/\scal x (V.str (ofString ""))=true /\
   if (!decide (x=V.str (ofString "")))=true then (S l).length+(ofString "[").length<=sizeLine/\Cls K J.C_e/\ay_ K J.C_e (ofString "measure")/\∃ x,List.lookup (ofString "measure") (afs v.top (↑v.low) (S m))=some x/\∃ x_1,x=V.str x_1 /\
    (S l++ofString "[").length+x_1.length<=sizeLine/\(S l++ofString "["++x_1).length+(ofString "]").length<=sizeLine/\Q (V.str (S l++ofString "["++x_1++ofString "]")) H
   else Q (V.str (S l)) H:=fun l hl q=>by
  refine ⟨T.cl_e,T.n_aS,_,rfl,rfl,?_⟩;simp only [mt_,lH_,lr_,V.str.injEq,cl_,gr_,aZ_,length_append,length_singleton];by_cases hm0:m=[]
  ·rw [if_pos hm0,append_nil] at q
   rw [decide_eq_true hm0];exact q
  rw [if_neg hm0] at q;rw [decide_eq_false hm0];refine ⟨big _ (by omega),T.cl_e,T.n_aS,_,rfl,S m,rfl,big _ (by rw [aZ_];omega),?_⟩;simp only [gr_,aZ_,length_append,length_singleton,append_assoc,List.singleton_append];exact ⟨big _ (by simp only [length_cons];omega),q⟩
 by_cases h1:v.low=1
 ·rw [if_pos h1,append_nil] at k
  rw [if_neg (by simp [h1])];exact tail _ (by omega) k
 rw [if_neg h1] at k;rw [if_pos (by simp;omega)];refine ⟨by rw [aZ_,gP_,aZ_];exact big _ (by simp;omega),T.cl_e,T.n_aH,_,rfl,_,rfl,eL_ (by rw [Int.natAbs_natCast];exact g.2.2),?_⟩;rw [str_int,gP_,gr_,gr_,bR_,append_assoc];refine ⟨by simp only [aZ_,length_append,length_singleton];exact big _ (by omega),?_⟩;exact tail _ (by simp;omega) k
theorem ok_a (T:TX w K mg J):FnOk P w K mg base CX0 1 J.f_s J.d_s ["self","form","words","parts","begin","end"] (bw_ J.C_a ["form","words","parts","begin","end"]):=by
 refine T.F_s.ok sc_s (fun _ _ _ _ H _ Q E hr h=>?_) fun _ _ _ _ h=>ds_ h;obtain ⟨p,dx,args,rfl,hl,hp,k⟩:=h;obtain ⟨a,b,c,d,e,rfl⟩:=len5 hl;refine ⟨_,(ab_ (a2_ (pv 0) (pv 1) rfl)
  (ab_ (a2_ (pv 0) (pv 2) rfl)
  (ab_ (a2_ (pv 0) (pv 3) rfl)
  (ab_ (a2_ (pv 0) (pv 4) rfl)
  (ae_ (a2_ (pv 0) (pv 5) rfl)))))),?_⟩
 simp! [tSeq,sFld];refine ⟨_,_,_,hp,T.cl_a,T.n_ax,few0,T.cl_a,T.n_aw,few1,T.cl_a,T.n_aA,few2,T.cl_a,T.n_aE,few3,T.cl_a,T.n_aO,few4,?_⟩;exact k
theorem ok_g (T:TX w K mg J):FnOk P w K mg base CX0 1 J.f_y J.d_y ["self","kind","owner","depth"] (bw_ J.C_g ["kind","owner","depth"]):=by
 refine T.F_y.ok sc_y (fun _ _ _ _ H _ Q E hr h=>?_) fun _ _ _ _ h=>ds_ h;obtain ⟨p,dx,args,rfl,hl,hp,k⟩:=h;obtain ⟨a,b,c,rfl⟩:=len3 hl;refine ⟨_,(ab_ (a2_ (pv 0) (pv 1) rfl)
  (ab_ (a2_ (pv 0) (pv 2) rfl)
  (ae_ (a2_ (pv 0) (pv 3) rfl)))),?_⟩
 simp! [tSeq,sFld];refine ⟨_,_,_,hp,T.cl_g,T.n_az,few0,T.cl_g,T.n_bb,few1,T.cl_g,T.n_aU,few2,?_⟩;exact k
inductive IRowInit (Ca Ct Cr:Addr) (H:Hp) (Q:VK):List V->Prop
 | mk (p dx b:Addr) (as:List Addr) (l:Toks) (hl:Nat):H p=some (.ins Cr dx [])->H b=some (.lst (as.map V.ref))->as.length<=10000->cj_ Ca Ct H as l->(∀ (la:Addr) (H':Hp),H la=none->ai_ [p] H H'->bk_ Ca Ct Cr H' p la (l++[sent hl])->Q .non H')->IRowInit Ca Ct Cr H Q [.ref p,.ref b,.int (hl:Int)]
def kk_ (Ca Ct Cr:Addr):Sp:=fun vs H Q _=>IRowInit Ca Ct Cr H Q vs
theorem ok_f (T:TX w K mg J):FnOk P w K mg base CX0 3 J.f_Q J.d_Q ["self","found","length"] (kk_ J.C_e J.C_d J.C_f):=by
 refine T.F_Q.ok sc_Q fun _ _ _ _ H _ Q E hr h=>?_;obtain ⟨p,dx,b,as,l,hl,hp,hb,hn,hto,k⟩:=h;refine ⟨_,(ab_ (a2_ (pv 0) (a9_ pK_ (pv 1) (aE_ (aa_ (aO_ T.M_d (ok_d T) hr.m rfl T.G_d T.b_x .nil ao_ (aa_ (pe_g T.g_aM) (aa_ aq_ (aa_ (pv 2) (aa_ (pv 2) (aa_ aq_ ac_)))))) ac_))) rfl)
  (ae_ (a2_ (pv 0) aj_ rfl))),?_⟩
 simp! [tSeq,sFld,bz_,rCat];refine bs_ rfl fun x dx1 H1 hx s1 e1=>⟨by decide,fun q hq=>?_⟩;have s2:Same H1 (upd H1 q (.lst [.ref x])):=Same.upd hq;have e2:upd H1 q (.lst [.ref x]) q=some (.lst [.ref x]):=ad_;generalize upd H1 q (.lst [.ref x])=H2 at s2 e2 ⊢;have s12:Same H H2:=s1.trans s2;refine ⟨_,s12 _ _ hb,_,rfl,?_,fun la hla=>?_⟩
 ·rw [length_map]
  exact Nat.le_trans (show as.length+1<=10001 by omega) (by decide)
 have hla0:=none_of s12 hla;have nla:la≠p:=fun z=>by rw [z,s12 _ _ hp] at hla;cases hla
 have s3:Same H2 (upd H2 la (.lst (as.map V.ref++[.ref x]))):=Same.upd hla;have e3:upd H2 la (.lst (as.map V.ref++[.ref x])) la=some (.lst (as.map V.ref++[.ref x])):=ad_;generalize upd H2 la (.lst (as.map V.ref++[.ref x]))=H3 at s3 e3 ⊢;have s13:Same H H3:=s12.trans s3;have hp3:=s13 _ _ hp;refine ⟨_,_,_,hp3,T.cl_f,T.n_bd,few0,T.cl_f,T.n_ba,few1,?_⟩;have im:Imm H3 (upd H3 p (.ins J.C_f dx (hF_ la 0))):=⟨fun a C dx' g k b e c q=>by
   rw [al_ (a7_ q hp3 (by intro z;injection z with _ _ z;cases z))];exact q,fun a C dx' o u m q=>by
   rw [al_ (a7_ q hp3 (by intro z;injection z with _ _ z;cases z))];exact q⟩
 refine k la (upd H3 p (.ins J.C_f dx (hF_ la 0))) hla0 (fun a o n e=>?_) ⟨dx,as++[x],0,ad_,?_,?_⟩
 ·rw [al_ (fun z=>n (by rw [z];exact mem_singleton.mpr rfl))]
  exact s13 _ _ e
 ·rw [al_ nla,e3,map_append]
  rfl
 rw [drop_zero];refine aM_ (Paired.mapP hto fun a k z=>((z.same s13).b).imm im) ?_;refine TokB.imm ⟨dx1,.str (ofString ""),?_,trivial⟩ im;rw [s3 _ _ (s2 _ _ e1)];show some (HO.ins J.C_d dx1 (d8_ 2 (ofString "end") (hl:Int) (hl:Int) (.str (ofString ""))))=_;rw [aF_];rfl
def bq_ (Ca Ct Cr:Addr):Sp:=fun vs H Q _=>∃ (row la:Addr) (t:Vaunid.Token) (l:Toks),vs=[.ref row]/\bk_ Ca Ct Cr H row la (t::l)/\∀ b,TokB Ca Ct H b t->Q (.ref b) H
theorem iy_ {Ca Ct:Addr}{H:Hp}{as:List Addr}{i:Nat}{t:Vaunid.Token}{l:Toks} (h:Paired (fun a k=>TokB Ca Ct H a k) (as.drop i) (t::l)) : ∃ b,as[i]? = some b/\TokB Ca Ct H b t/\Paired (fun a k=>TokB Ca Ct H a k) (as.drop (i+1)) l:=by
 cases q:as.drop i with
 | nil=>rw [q] at h;cases h
 | cons b r =>
 rw [q] at h;cases h with
 | cons h1 h2 =>
 refine ⟨b,?_,h1,?_⟩
 ·rw [<- List.head?_drop,q]
  rfl
 rw [<- List.tail_drop,q];exact h2
theorem bg_ (T:TX w K mg J):FnOk P w K mg base CX0 1 J.f_k J.d_k ["self"] (bq_ J.C_e J.C_d J.C_f):=by
 refine T.F_k.ok sc_k fun _ _ _ _ H _ Q E hr h=>?_;obtain ⟨row,la,t,l,rfl,⟨dx,as,i,h1,h2,h3⟩,k⟩:=h;obtain ⟨b,hb,htk,_⟩:=iy_ h3;refine ⟨_,(ae_ (am_ (aQ_ aJ_ (ah_ (pv 0) rfl) (ah_ (pv 0) rfl) (fun _ _=>rfl)))),?_⟩;simp! [tSeq,tFld,h1];refine ⟨T.cl_f,T.n_bd,_,rfl,T.cl_f,T.n_ba,_,rfl,_,rfl,_,_,rfl,SqL.of h2,_,bo_ (by rw [getElem?_map,hb];rfl),?_⟩;exact k b htk
def gI_ (Ca Ct Cr:Addr):Sp:=fun vs H Q _=>∃ (row la:Addr) (t:Vaunid.Token) (l:Toks),vs=[.ref row]/\bk_ Ca Ct Cr H row la (t::l)/\∀ b H',TokB Ca Ct H' b t->ai_ [row] H H'->bk_ Ca Ct Cr H' row la l->Q (.ref b) H'
theorem f9_ (T:TX w K mg J):FnOk P w K mg base CX0 2 J.f_l J.d_l ["self"] (gI_ J.C_e J.C_d J.C_f):=by
 refine T.F_l.ok sc_l fun _ _ _ _ H _ Q E hr h=>?_;obtain ⟨row,la,t,l,rfl,hrow,k⟩:=h;have hr0:=hrow;obtain ⟨dx,as,i,h1,h2,h3⟩:=hrow;obtain ⟨b,hb,htk,hrest⟩:=iy_ h3;refine ⟨_,(ab_ (aw_ 1 sc_l.nd (bf_ (pv 0) T.cl_f T.m_k (bg_ T) hr.m T.b_k .nil ao_))
  (ab_ (eO_ (pv 0) aj_ le_)
  (ae_ (am_ (pv 1))))),?_⟩
 simp! [tSeq,dF_,bq_,fX_,rAdd,h1];refine ⟨rfl,la,t,l,hr0,fun b' hb'=>⟨T.cl_f,T.n_ba,_,rfl,_,rfl,(by show 2<1000;decide),?_⟩⟩;have sx:ai_ [row] H (upd H row (.ins J.C_f dx (hF_ la ((i+1:Nat):Int)))):=ai_.upd (mem_singleton.mpr rfl);have nt : ∀ x∈[row],NT H x:=fun x hx=>by rw [mem_singleton.mp hx];exact hr0.nt
 have im:=Imm.of sx nt;have nla:la≠row:=a7_ h2 h1 (by intro z;cases z);exact k b' _ (hb'.imm im) sx ⟨dx,as,i+1,ad_,by rw [al_ nla];exact h2,Paired.mapP hrest fun a k z=>z.imm im⟩
def cE_ (Ca Ct Cr C:Addr):Sp:=fun vs H Q E=>∃ (row la:Addr) (t:Vaunid.Token) (l:Toks) (x:List Nat),vs=[.ref row,.str (S x)]/\bk_ Ca Ct Cr H row la (t::l) /\
 if kindOf t.tok=x then (∀ b H',TokB Ca Ct H' b t->ai_ [row] H H'->bk_ Ca Ct Cr H' row la l->Q (.ref b) H') else ExF C E H 6 (t.start:Int)
theorem cs_ (T:TX w K mg J):FnOk P w K mg base (CX1 P w) 3 J.f_q J.d_q ["self","kind"] (cE_ J.C_e J.C_d J.C_f J.C_c):=by
 refine T.F_q.okX sc_q fun _ _ _ _ H _ Q E hr h=>?_;obtain ⟨row,la,t,l,x,rfl,hrow,k⟩:=h;have hr0:=hrow;obtain ⟨dx,as,i,h1,h2,h3⟩:=hrow;refine ⟨_,(ab_ (aG_ (ak_ jl_ (ah_ (bf_ (pv 0) T.cl_f T.m_k (bg_ T) hr.m T.b_k .nil ao_) rfl) (pv 1) (as_ _)) (ae_ (bE_ T.X_c (ok_c T) hr.m rfl T.G_c T.b_n bl_ rfl (aa_ aj_ (aa_ (ah_ (bf_ (pv 0) T.cl_f T.m_k (bg_ T) hr.m T.b_k .nil ao_) rfl) ac_)))) ap_)
  (ae_ (am_ (bf_ (pv 0) T.cl_f T.m_l (f9_ T) hr.m T.b_l .nil ao_)))),?_⟩
 simp! [tSeq,dF_,bq_,gI_,cT_,tFld,h1];refine ⟨rfl,la,t,l,hr0,fun b ⟨dt,ct,e1,_⟩=>?_⟩;refine ⟨J.C_d,dt,_,e1,T.cl_d,T.n_ay,_,rfl,rfl,?_⟩;by_cases hk:kindOf t.tok=x
 ·rw [if_pos hk] at k
  rw [if_neg (by rw [hk];simp)];exact ⟨rfl,la,t,l,hr0,k⟩
 rw [if_neg hk] at k;rw [if_pos (by simp only [V.str.injEq,cl_];simp [hk])];refine ⟨rfl,la,t,l,hr0,fun b2 ⟨dt2,ct2,e2,_⟩=>⟨J.C_d,dt2,_,e2,T.cl_d,T.n_aC,_,rfl,by decide,?_⟩⟩;exact bt_ k
theorem jv_ {k:Vaunid.Tok} (g:aU_ k):(∃ w,k = .word w/\kindOf k=Vaunid.txt "name"/\Vaunid.leafOf k=some (.name w))\/(∃ v d,k = .num v d/\(kindOf k=Vaunid.txt "number"\/kindOf k=Vaunid.txt "digit")/\Vaunid.leafOf k=some (.num v)) \/
  (¬ kindOf k=Vaunid.txt "name"/\¬ kindOf k=Vaunid.txt "number"/\¬ kindOf k=Vaunid.txt "digit"/\((kindOf k∈[Vaunid.txt "true",Vaunid.txt "false",Vaunid.txt "nil"]/\∃ x,Vaunid.leafOf k=some x/\Vaunid.txt (bv_ x)=kindOf k/\dt_ x=[])\/(¬ kindOf k∈[Vaunid.txt "true",Vaunid.txt "false",Vaunid.txt "nil"]/\Vaunid.leafOf k=none))):=by
 cases k with
 | word w =>
  by_cases h:isTaken w=true
  ·have e:kindOf (.word w)=w:=by simp only [kindOf];rw [if_pos h]
   rw [e];refine .inr (.inr ⟨fun z=>?_,fun z=>?_,fun z=>?_,?_⟩)
   ·rw [z] at h;exact absurd h (by left)
   ·rw [z] at h;exact absurd h (by left)
   ·rw [z] at h;exact absurd h (by left)
   by_cases h1:w=Vaunid.txt "true"
   ·refine .inl ⟨by rw [h1];simp,.truth true,?_,h1.symm,rfl⟩
    simp only [Vaunid.leafOf];rw [if_pos h1]
   by_cases h2:w=Vaunid.txt "false"
   ·refine .inl ⟨by rw [h2];simp,.truth false,?_,h2.symm,rfl⟩
    simp only [Vaunid.leafOf];rw [if_neg h1,if_pos h2]
   by_cases h3:w=Vaunid.txt "nil"
   ·refine .inl ⟨by rw [h3];simp,.nil,?_,h3.symm,rfl⟩
    simp only [Vaunid.leafOf];rw [if_neg h1,if_neg h2,if_pos h3]
   refine .inr ⟨by simp [h1,h2,h3],?_⟩;simp only [Vaunid.leafOf];rw [if_neg h1,if_neg h2,if_neg h3,if_neg];unfold isName;rw [h];simp
  have e:kindOf (.word w)=Vaunid.txt "name":=by simp only [kindOf];rw [if_neg h]
  refine .inl ⟨w,rfl,e,?_⟩;obtain ⟨w',q,hn⟩:=(du_ g).mp e;cases q;simp only [Vaunid.leafOf];rw [if_neg (fun z=>by rw [z] at h;exact h (by left)),if_neg (fun z=>by rw [z] at h;exact h (by left)),if_neg (fun z=>by rw [z] at h;exact h (by left)),if_pos hn]
 | num v d =>
  refine .inr (.inl ⟨v,d,rfl,?_,rfl⟩);cases d with
  | none=>exact .inl rfl
  | some n=>exact .inr rfl
 | sign s =>
 have q : ∀ x∈coreSigns++[Vaunid.txt "end"],¬ x=Vaunid.txt "name"/\¬ x=Vaunid.txt "number"/\¬ x=Vaunid.txt "digit"/\¬ x∈[Vaunid.txt "true",Vaunid.txt "false",Vaunid.txt "nil"]:=by left
 have hs:s∈coreSigns++[Vaunid.txt "end"]:=by
  rcases g with g | g
  ·exact mem_append_left _ g
  rw [g];exact mem_append_right _ (mem_singleton.mpr rfl)
 obtain ⟨q1,q2,q3,q4⟩:=q s hs;exact .inr (.inr ⟨q1,q2,q3,.inr ⟨q4,rfl⟩⟩)
theorem dH_:[V.str "true",V.str "false",V.str "nil"]=(([Vaunid.txt "true",Vaunid.txt "false",Vaunid.txt "nil"]).map S).map V.str:=by left
theorem iP_ {Cn:Addr}{H H1 H2 H3:Hp}{n dx wl pl:Addr}{f:List Nat}{ws:List (List Nat)}{b e:Nat} (h1:H wl=none) (s1:Same H H1) (e1:H1 wl=some (.lst ((ws.map S).map V.str))) (h2:H1 pl=none) (s2:Same H1 H2) (e2:H2 pl=some (.lst [])) (h3:H2 n=none) (s3:Same H2 H3) (e3:H3 n=some (.ins Cn dx (a4_ (S f) wl pl (b:Int) (e:Int)))) :
  TreeAt Cn H3 n (.mk f ws b e []) [n,wl,pl]/\[n,wl,pl].Nodup/\∀ a∈[n,wl,pl],H a=none:=by
 refine ⟨.mk (as:=[]) e3 (s3 _ _ (s2 _ _ e1)) (s3 _ _ e2) .nil,?_,?_⟩
 ·have q1:wl≠pl:=af_ e1 h2
  have q2:wl≠n:=af_ (s2 _ _ e1) h3;have q3:pl≠n:=af_ e2 h3;simp [q1,q2.symm,q3.symm]
 intro a ha;have:=none_of (s1.trans s2) h3;have:=none_of s1 h2;simp at ha;rcases ha with rfl | rfl | rfl <;> assumption
def pp_ (Ca Ct Cn C:Addr):Sp:=fun vs H Q E=>∃ (b:Addr) (t:Vaunid.Token),vs=[.ref b]/\TokB Ca Ct H b t/\aU_ t.tok/\(match Vaunid.leafOf t.tok with
 | none=>ExF C E H 6 (t.start:Int)
 | some x=>∀ (n:Addr) (F:List Addr) (H':Hp),Same H H'->TreeAt Cn H' n (g7_ t x) F->F.Nodup->(∀ a∈F,H a=none)->Q (.ref n) H')
theorem cp_ {t u:TS}{D:Ends}{σ:L2.St}{H:Hp} (h:t { D with nx:=u D } σ H):tSeq t u D σ H:=h
theorem ok_ap (T:TX w K mg J):FnOk P w K mg base (CX1 P w) 3 J.f_ap J.d_ap ["token"] (pp_ J.C_e J.C_d J.C_a J.C_c):=by
 refine T.F_ap.fn.okX sc_ap fun _ _ _ _ H _ Q E hr h=>?_;obtain ⟨b,t,rfl,⟨dt,ct,hb,hc⟩,g,k⟩:=h;refine ⟨_,(ab_ (aG_ (ak_ br_ (ah_ (pv 0) rfl) aq_ (as_ _)) (ae_ (am_ (aO_ T.M_a (ok_a T) hr.m rfl T.G_a T.b_s .nil ao_ (aa_ aq_ (aa_ (aE_ (aa_ (ah_ (pv 0) rfl) ac_)) (aa_ (aE_ ac_) (aa_ (ah_ (pv 0) rfl) (aa_ (ah_ (pv 0) rfl) ac_)))))))) ap_)
  (ab_ (aG_ (PW.pt (pw_or (ak_ br_ (ah_ (pv 0) rfl) aq_ (as_ _)) (pw_or1 (ak_ br_ (ah_ (pv 0) rfl) aq_ (as_ _))))) (ae_ (am_ (aO_ T.M_a (ok_a T) hr.m rfl T.G_a T.b_s .nil ao_ (aa_ aq_ (aa_ (aE_ (aa_ (aC_ T.F_E (ok_E T) hr.m ao_ (aa_ (ah_ (pv 0) rfl) ac_)) ac_)) (aa_ (aE_ ac_) (aa_ (ah_ (pv 0) rfl) (aa_ (ah_ (pv 0) rfl) ac_)))))))) ap_)
  (ab_ (aG_ (ak_ bm_ (ah_ (pv 0) rfl) (pe_r T.g_ar) rfl) (ae_ (am_ (aO_ T.M_a (ok_a T) hr.m rfl T.G_a T.b_s .nil ao_ (aa_ (ah_ (pv 0) rfl) (aa_ (aE_ ac_) (aa_ (aE_ ac_) (aa_ (ah_ (pv 0) rfl) (aa_ (ah_ (pv 0) rfl) ac_)))))))) ap_)
  (ae_ (bE_ T.X_c (ok_c T) hr.m rfl T.G_c T.b_n bl_ rfl (aa_ aj_ (aa_ (ah_ (pv 0) rfl) ac_))))))),?_⟩
 refine cp_ ?_;simp! [tFld,hb,bz_];refine ⟨T.cl_d,T.n_ay,_,rfl,rfl,?_⟩;have l1:(1:Nat)<=sizeLine:=by decide
 have l0:(0:Nat)<=sizeLine:=zero_le _;have tail : ∀ (f:List Nat) (fs:Str) (ws:List (List Nat)) (xs:List V),fs=S f->xs=(ws.map S).map V.str->(∀ (n:Addr) (F:List Addr) (H':Hp),Same H H'->TreeAt J.C_a H' n (.mk f ws t.start t.halt_ []) F->F.Nodup->(∀ a∈F,H a=none)->Q (.ref n) H') ->
   ∀ p,H p=none->0<=sizeLine/\∀ p1,upd H p (.lst xs) p1=none->∃ x1 x2 x3,upd (upd H p (.lst xs)) p1 (.lst []) b=some (.ins x1 x2 x3)/\Cls K x1/\ay_ K x1 (ofString "begin")/\∃ x4,List.lookup (ofString "begin") x3=some x4 /\
    ∃ x5 x6 x7,upd (upd H p (.lst xs)) p1 (.lst []) b=some (.ins x5 x6 x7)/\Cls K x5/\ay_ K x5 (ofString "end")/\∃ x8,List.lookup (ofString "end") x7=some x8 /\
     ∀ x9 dx,upd (upd H p (.lst xs)) p1 (.lst []) x9=none->upd (upd H p (.lst xs)) p1 (.lst []) dx=none->dx≠x9->bw_ J.C_a [ofString "form",ofString "words",ofString "parts",ofString "begin",ofString "end"] [V.ref x9,V.str fs,V.ref p,V.ref p1,x4,x8]
      (upd (upd (upd (upd H p (.lst xs)) p1 (.lst [])) dx (HO.own x9)) x9 (HO.ins J.C_a dx [])) (fun v H2=>v=V.non/\Q (V.ref x9) H2) (fun _ _ _=>False):=fun f fs ws xs ef ex kk p hp=>⟨l0,fun p1 hp1=>by
  subst ef ex;have s1:Same H (upd H p (.lst ((ws.map S).map V.str))):=Same.upd hp;have e1:upd H p (.lst ((ws.map S).map V.str)) p=some (.lst ((ws.map S).map V.str)):=ad_;generalize upd H p (.lst ((ws.map S).map V.str))=H1 at s1 e1 hp1 ⊢;have s2:Same H1 (upd H1 p1 (.lst [])):=Same.upd hp1;have e2:upd H1 p1 (.lst []) p1=some (.lst []):=ad_;generalize upd H1 p1 (.lst [])=H2 at s2 e2 ⊢;have hb2:=(s1.trans s2) _ _ hb;refine ⟨_,_,_,hb2,T.cl_d,T.n_aC,_,rfl,_,_,_,hb2,T.cl_d,T.n_aT,_,rfl,?_⟩;refine bs_ rfl fun n dx H3 hn s3 e3=>?_;obtain ⟨t1,t2,t3⟩:=iP_ (f:=f) (ws:=ws) (b:=t.start) (e:=t.halt_) hp s1 e1 hp1 s2 e2 hn s3 e3;exact kk n _ H3 (s1.trans (s2.trans s3)) t1 t2 t3⟩
 rcases jv_ g with ⟨w,e1,e2,e3⟩ | ⟨v,d,e1,e2,e3⟩ | ⟨n1,n2,n3,hp⟩
 ·rw [e3] at k
  rw [e2,if_pos (by rw [aF_])];rw [e1] at hc;refine ⟨T.cl_d,T.n_aD,_,rfl,l1,?_⟩;exact tail (Vaunid.txt "name") _ [w] _ (aF_ _) (by rw [show ct=V.str (S w) from hc];rfl) k
 ·rw [e3] at k
  rw [e1] at hc g;obtain ⟨a,ec,ha⟩:=hc;have gl:gs_ v:=⟨g.1,g.2.1,g.2.2.1⟩;have amt:=tail (Vaunid.txt "number") _ [shownLit v] _ (aF_ _) rfl k;rw [if_neg (by rw [aF_];simp only [V.str.injEq,cl_];rcases e2 with q | q <;> (rw [q];left))]
  refine cp_ ?_;simp! [tFld,hb,bz_];refine ⟨T.cl_d,T.n_ay,_,rfl,rfl,?_⟩;rcases e2 with q | q
  ·rw [q,if_pos (by rw [aF_])]
   exact ⟨T.cl_d,T.n_aD,_,rfl,a,v,by rw [ec],ha,gl,l1,amt⟩
  rw [q,if_neg (by rw [aF_];simp only [V.str.injEq,cl_];left)];refine ⟨T.cl_d,T.n_ay,_,rfl,rfl,?_⟩;rw [if_pos (by rw [aF_])];exact ⟨T.cl_d,T.n_aD,_,rfl,a,v,by rw [ec],ha,gl,l1,amt⟩
 rw [if_neg (by rw [aF_];simp only [V.str.injEq,cl_];exact n1)];refine cp_ ?_;simp! [tFld,hb,bz_];refine ⟨T.cl_d,T.n_ay,_,rfl,rfl,?_⟩;rw [if_neg (by rw [aF_];simp only [V.str.injEq,cl_];exact n2)];refine ⟨T.cl_d,T.n_ay,_,rfl,rfl,?_⟩;rw [if_neg (by rw [aF_];simp only [V.str.injEq,cl_];exact n3)];refine cp_ ?_;simp! [tFld,hb,bz_,cT_];refine ⟨T.cl_d,T.n_ay,_,rfl,_,.inr (T.t_ar H),rfl,rfl,?_⟩;rw [dH_,in_S];rcases hp with ⟨hm,x,e1,e2,e3⟩ | ⟨hm,e1⟩
 ·rw [e1] at k
  rw [decide_eq_true hm];refine ⟨T.cl_d,T.n_ay,_,rfl,l0,?_⟩;refine tail (kindOf t.tok) _ [] _ rfl rfl ?_;rw [<- e2,<- e3];exact k
 rw [e1] at k;rw [decide_eq_false hm];exact ⟨T.cl_d,T.n_aC,_,rfl,by decide,bt_ k⟩
inductive IBracket (Ca Ct Cr Cn:Addr) (H:Hp) (Q:VK):List V->Prop
 | mk (row la:Addr) (t:Vaunid.Token) (l:Toks):bk_ Ca Ct Cr H row la (t::l)->bj_ l->l≠[]->(∀ (n dx wl pl:Addr) (H':Hp),ai_ [row] H H'->bk_ Ca Ct Cr H' row la (an_ l).2->H' n=some (.ins Cn dx (a4_ (S (Vaunid.txt (an_ l).1.word)) wl pl (t.start:Int) (t.start:Int)))->H' wl=some (.lst [])->H' pl=some (.lst [])->[n,wl,pl].Nodup->(∀ a∈[n,wl,pl],H a=none)->Q (.ref n) H')->IBracket Ca Ct Cr Cn H Q [.ref row]
def kp_ (Ca Ct Cr Cn:Addr):Sp:=fun vs H Q _=>IBracket Ca Ct Cr Cn H Q vs
theorem ok_aa (T:TX w K mg J):FnOk P w K mg base CX0 3 J.f_aa J.d_aa ["row"] (kp_ J.C_e J.C_d J.C_f J.C_a):=by
 refine T.F_aa.fn.ok sc_aa fun _ _ _ _ H _ Q E hr h=>?_;obtain ⟨row,la,t,l,hrow,hg,hne,k⟩:=h;obtain ⟨ad,md,sq,_⟩:=T.t_b;refine ⟨_,(ab_ (aw_ 1 sc_aa.nd (ah_ (bf_ (pv 0) T.cl_f T.m_l (f9_ T) hr.m T.b_l .nil ao_) rfl))
  (ab_ (aw_ 2 sc_aa.nd aq_)
  (ab_ (aG_ (oe_ (ah_ (bf_ (pv 0) T.cl_f T.m_k (bg_ T) hr.m T.b_k .nil ao_) rfl) (pe_r T.g_b)) (ae_ (aw_ 2 sc_aa.nd (ah_ (bf_ (pv 0) T.cl_f T.m_l (f9_ T) hr.m T.b_l .nil ao_) rfl))) ap_)
  (ae_ (am_ (aO_ T.M_a (ok_a T) hr.m rfl T.G_a T.b_s .nil ao_ (aa_ (pv 2) (aa_ (aE_ ac_) (aa_ (aE_ ac_) (aa_ (pv 1) (aa_ (pv 1) ac_))))))))))),?_⟩
 have hr0:=hrow;obtain ⟨dx,as,i,h1,h2,h3⟩:=hrow;simp! [tSeq,dF_,gI_,bq_,tFld,nX_,bz_,h1];refine ⟨rfl,la,t,l,hr0,fun b H1 ⟨dt,ct,e1,_⟩ sx1 hr1=>?_⟩;refine ⟨J.C_d,dt,_,e1,T.cl_d,T.n_aC,_,rfl,?_⟩;have hr1':=hr1;obtain ⟨dx1,as1,i1,r1,r2,r3⟩:=hr1
 match l,hne,hg,k,hr1',r3 with
 | t2::l2,_,hg,k,hr1',r3 =>
  have gt:=hg t2 (mem_cons_self ..);simp! [tSeq,r1];refine ⟨rfl,la,t2,l2,hr1',fun b2 ⟨dt2,ct2,e2,_⟩=>?_⟩;refine ⟨J.C_d,dt2,_,e2,T.cl_d,T.n_ay,_,rfl,_,_,rfl,md,?_⟩;have tail : ∀ (H2:Hp) (f:Fm) (r:Toks) (fs:Str),fs=S (Vaunid.txt f.word)->ai_ [row] H H2->bk_ J.C_e J.C_d J.C_f H2 row la r->an_ (t2::l2)=(f,r)->0<=sizeLine/\∀ p,H2 p=none->0<=sizeLine/\∀ p1,upd H2 p (.lst []) p1=none ->
    ∀ x dx,upd (upd H2 p (.lst [])) p1 (.lst []) x=none->upd (upd H2 p (.lst [])) p1 (.lst []) dx=none->dx≠x->bw_ J.C_a [ofString "form",ofString "words",ofString "parts",ofString "begin",ofString "end"] [V.ref x,V.str fs,V.ref p,V.ref p1,V.int ↑t.start,V.int ↑t.start]
     (upd (upd (upd (upd H2 p (.lst [])) p1 (.lst [])) dx (.own x)) x (.ins J.C_a dx [])) (fun v H2=>v=V.non/\Q (V.ref x) H2) (fun _ _ _=>False):=fun H2 f r fs ef sx hrw eb=>⟨zero_le _,fun p hp=>⟨zero_le _,fun p1 hp1=>by
   subst ef;have s1:Same H2 (upd H2 p (.lst [])):=Same.upd hp;have e1:upd H2 p (.lst []) p=some (.lst []):=ad_;generalize upd H2 p (.lst [])=H3 at s1 e1 hp1 ⊢;have s2:Same H3 (upd H3 p1 (.lst [])):=Same.upd hp1;have e2:upd H3 p1 (.lst []) p1=some (.lst []):=ad_;generalize upd H3 p1 (.lst [])=H4 at s2 e2 ⊢;refine bs_ rfl fun n dx H5 hn s3 e3=>?_;obtain ⟨t1,t2,t3⟩:=iP_ (f:=Vaunid.txt f.word) (ws:=[]) (b:=t.start) (e:=t.start) hp s1 e1 hp1 s2 e2 hn s3 e3;have sA:Same H2 H5:=s1.trans (s2.trans s3);rw [eb] at k;have nr : ∀ a,H2 a=none->a≠row:=fun a ha z=>by
    obtain ⟨_,_,_,q,_,_⟩:=hrw;rw [z,q] at ha;cases ha
   exact k n dx p p1 H5 (sx.trans (ai_.of sA)) (hrw.same sA) e3 (s3 _ _ (s2 _ _ e1)) (s3 _ _ e2) t2 fun a ha=>em_ sx (nin (nr a (t3 a ha))) (t3 a ha)⟩⟩
  rw [fA_,lj_ gt];cases hf:fmOf t2.tok with
  | none =>
   have eb:an_ (t2::l2)=(.app,t2::l2):=by unfold an_;dsimp only;rw [hf]
   exact tail H1 .app (t2::l2) _ (aF_ _) sx1 hr1' eb
  | some f =>
  have eb:an_ (t2::l2)=(f,l2):=by unfold an_;dsimp only;rw [hf]
  refine ⟨rfl,la,t2,l2,hr1',fun b3 H2 ⟨dt3,ct3,e3,_⟩ sx2 hr2=>⟨J.C_d,dt3,_,e3,T.cl_d,T.n_ay,_,rfl,?_⟩⟩;exact tail H2 f l2 _ (by rw [lp_ hf]) (sx1.trans sx2) hr2 eb
def qk_ (Cs:Addr) (H:Hp) (s:Addr) (k:String) (o:Addr) (d:Nat):Prop:=∃ dx,H s=some (.ins Cs dx (fj_ (ofString k) o (d:Int)))
inductive IBegin (Ca Ct Cr Cn Cs C:Addr) (H:Hp) (Q:VK) (E:XK):List V->Prop
 | mk (row la todo s o dxo wl pl:Addr) (k:String) (d:Nat) (t:Vaunid.Token) (l:Toks) (xs ps:List V) (f:Str) (b e:Int):qk_ Cs H s k o d->bk_ Ca Ct Cr H row la (t::l)->bj_ (t::l)->H todo=some (.lst xs)->xs.length<=1000->H o=some (.ins Cn dxo (a4_ f wl pl b e))->H pl=some (.lst ps)->ps.length<=100->todo≠pl->la≠todo->la≠pl->((if d=40 then ExF C E H 8 (t.start:Int)
 else if kindOf t.tok=Vaunid.txt "(" then l≠[]/\∀ (n dx wl' pl':Addr) (ss:List Addr) (H':Hp),ai_ [row,todo,pl] H H'->bk_ Ca Ct Cr H' row la (an_ l).2->H' todo=some (.lst (xs++ss.reverse.map V.ref))->dg_ Cs H' ss ((an_ l).1.sk.map SK.w++[")"]) n (d+1)->H' pl=some (.lst (ps++[.ref n])) ->
   H' n=some (.ins Cn dx (a4_ (S (Vaunid.txt (an_ l).1.word)) wl' pl' (t.start:Int) (t.start:Int)))->H' wl'=some (.lst [])->H' pl'=some (.lst [])->((n::wl'::pl'::ss):List Addr).Nodup->(∀ a∈n::wl'::pl'::ss,H a=none)->Q .non H'
 else match Vaunid.leafOf t.tok with
  | none=>ExF C E H 6 (t.start:Int)
  | some x=>∀ (n:Addr) (F:List Addr) (H':Hp),ai_ [row,pl] H H'->bk_ Ca Ct Cr H' row la l->H' pl=some (.lst (ps++[.ref n]))->TreeAt Cn H' n (g7_ t x) F->F.Nodup->(∀ a∈F,H a=none)->Q .non H'))->IBegin Ca Ct Cr Cn Cs C H Q E [.ref row,.ref todo,.ref s]
def n3_ (Ca Ct Cr Cn Cs C:Addr):Sp:=fun vs H Q E=>IBegin Ca Ct Cr Cn Cs C H Q E vs
theorem ok_Z (T:TX w K mg J):FnOk P w K mg base (CX1 P w) 5 J.f_Z J.d_Z ["row","todo","step"] (n3_ J.C_e J.C_d J.C_f J.C_a J.C_g J.C_c):=by
 refine T.F_Z.fn.okX sc_Z fun _ _ _ _ H _ Q E hr h=>?_;obtain ⟨row,la,todo,s,o,dxo,wl,pl,k,d,t,l,xs,ps,f,b,e,⟨dxs,hs⟩,hrow,hg,hto,hxs,ho,hpl,hps,n1,n2,n3,kk⟩:=h;obtain ⟨ad,md,sq,_⟩:=T.t_b;refine ⟨_,(ab_ (aG_ (ak_ br_ (ah_ (pv 2) rfl) (pe_g T.g_aI) (as_ _)) (ae_ (bE_ T.X_c (ok_c T) hr.m rfl T.G_c T.b_n bl_ rfl (aa_ aj_ (aa_ (ah_ (bf_ (pv 0) T.cl_f T.m_k (bg_ T) hr.m T.b_k .nil ao_) rfl) ac_)))) ap_)
  (ab_ (aG_ (ak_ br_ (ah_ (bf_ (pv 0) T.cl_f T.m_k (bg_ T) hr.m T.b_k .nil ao_) rfl) aq_ (as_ _)) (ab_ (aw_ 3 sc_Z.nd (aC_ T.F_aa (ok_aa T) hr.m ao_ (aa_ (pv 0) ac_)))
  (ab_ (aB_ (bL_ pla sla tla ax_ (pv 1) (aa_ (aO_ T.M_g (ok_g T) hr.m rfl T.G_g T.b_y .nil ao_ (aa_ aq_ (aa_ (pv 3) (aa_ (a9_ bU_ (ah_ (pv 2) rfl) aj_) ac_)))) ac_)))
  (ae_ (dZ_ iL_ rfl (gW_ rfl T.b_reversed (aa_ (mm_ (pe_r T.g_b) (ah_ (pv 3) rfl)) ac_)) (pg_q 4 sc_Z.nd) (ae_ (aB_ (bL_ pla sla tla ax_ (pv 1) (aa_ (aO_ T.M_g (ok_g T) hr.m rfl T.G_g T.b_y .nil ao_ (aa_ (pv 4) (aa_ (pv 3) (aa_ (a9_ bU_ (ah_ (pv 2) rfl) aj_) ac_)))) ac_)))))))) (ab_ (aw_ 3 sc_Z.nd (aC_ T.F_ap (ok_ap T) hr.m aH_ (aa_ (bf_ (pv 0) T.cl_f T.m_k (bg_ T) hr.m T.b_k .nil ao_) ac_)))
  (ae_ (aB_ (bf_ (pv 0) T.cl_f T.m_l (f9_ T) hr.m T.b_l .nil ao_)))))
  (ae_ (aB_ (bL_ pla sla tla ax_ (ah_ (ah_ (pv 2) rfl) rfl) (aa_ (pv 3) ac_)))))),?_⟩
 have hr0:=hrow;obtain ⟨dx,as,i,h1,h2,h3⟩:=hrow;refine cp_ ?_;simp! [dF_,bq_,tFld,cT_,hs,h1];refine ⟨T.cl_g,T.n_aU,_,rfl,rfl,?_⟩;by_cases hd:d=40
 ·subst hd
  rw [if_pos rfl] at kk;rw [if_pos (show V.int ((40:Nat):Int)=V.int 40 from rfl)];exact ⟨rfl,la,t,l,hr0,fun b ⟨dt,ct,e1,_⟩=>⟨J.C_d,dt,_,e1,T.cl_d,T.n_aC,_,rfl,by decide,bt_ kk⟩⟩
 rw [if_neg hd] at kk;rw [if_neg (by simp only [V.int.injEq];omega)];refine bI_ (fun σ' H'=>∃ n z,σ'=[some (.ref row),some (.ref todo),some (.ref s),some (.ref n),z]/\H' s=some (.ins J.C_g dxs (fj_ (ofString k) o (d:Int)))/\H' o=some (.ins J.C_a dxo (a4_ f wl pl b e))/\H' pl=some (.lst ps)/\Q .non (upd H' pl (.lst (ps++[.ref n])))) (fun X hX=>?_) (fun σ' H' hh=>?_)
 case' refine_2 =>
  obtain ⟨n,z,rfl,hs2,ho2,hpl2,kq⟩:=hh;simp! [tBM,aY_,tFld,hs2];exact ⟨T.cl_g,T.n_bb,_,rfl,_,rfl,_,_,_,ho2,T.cl_a,T.n_aA,_,rfl,(show tyV K "list" (.ref pl) _ from .inl ⟨rfl,_,SqL.of hpl2⟩),_,rfl,_,hpl2,Nat.lt_of_le_of_lt hps (by decide),kq⟩
 simp! [dF_,gI_,bq_,tFld,h1];refine ⟨rfl,la,t,l,hr0,fun b ⟨dt,ct,e1,_⟩=>⟨J.C_d,dt,_,e1,T.cl_d,T.n_ay,_,rfl,rfl,?_⟩⟩;by_cases hk:kindOf t.tok=Vaunid.txt "("
 ·rw [if_pos hk] at kk
  rw [if_pos (by rw [hk,aF_])];obtain ⟨hl,kk⟩:=kk;refine cp_ ?_;simp! [tRet];refine ⟨row,la,t,l,hr0,fun k hk=>hg k (mem_cons_of_mem _ hk),hl,fun n dx wl' pl' H1 sx1 hr1 e1 e2 e3 nd fr=>?_⟩;generalize hff:(an_ l).1=ff at kk e1;generalize (an_ l).2=rr at kk hr1;have nrow:row≠todo:=a7_ h1 hto (by intro z;cases z);have hto1:H1 todo=some (.lst xs):=sx1 _ _ (nin nrow.symm) hto;have hs1:H1 s=some (.ins J.C_g dxs (fj_ (ofString k) o (d:Int))):=sx1 _ _ (nin (a7_ hs h1 (by intro z;injection z with _ _ z;cases z))) hs;have b0:BI J.C_e J.C_d J.C_f J.C_a J.C_g H row la todo xs rr n dx wl' pl' (S (Vaunid.txt ff.word)) (t.start:Int) (d+1) H1 [] []:=⟨sx1.more (by simp),hr1,by rw [hto1];simp,.nil,e1,e2,e3,nd,fr⟩;refine cp_ ?_;simp! [tBM,aY_,bz_,tFld,hs1,hto1];refine ⟨.inl ⟨rfl,_,SqL.of hto1⟩,T.cl_g,T.n_aU,_,rfl,_,rfl,?_⟩;refine bs_ rfl fun s1 dx1 H2 hx1 sm1 es1=>⟨_,sm1 _ _ hto1,Nat.lt_of_le_of_lt hxs (by decide),?_⟩;have b1:=b0.add hto n2 (k:=")") hx1 sm1 es1;rw [List.reverse_nil,map_nil,append_nil] at b1;generalize upd H2 todo (.lst (xs++[.ref s1]))=H3 at b1 ⊢;refine a5_ ?_;simp! [nb_,pW_,tFld];have wd:=hh_ ad ff;rw [aF_] at wd;refine ⟨_,_,_,b1.node,T.cl_a,T.n_ax,_,rfl,_,_,rfl,md,_,wd,_,rfl,_,sq ff H3,?_⟩;refine jG_ (((ff.kt.map fun s=>ofString s)).map V.str) (fun i σ H'=>(∃ z,σ=[some (.ref row),some (.ref todo),some (.ref s),some (.ref n),z])/\∃ ss,BI J.C_e J.C_d J.C_f J.C_a J.C_g H row la todo xs rr n dx wl' pl' (S (Vaunid.txt ff.word)) (t.start:Int) (d+1) H' ss (ff.kt.drop (ff.kt.length - i)++[")"]))
   ⟨⟨_,rfl⟩,[s1],by rw [sub_zero,drop_length];exact b1⟩ (fun i σ H' _ _=>sq ff H') (fun i x σ H' hx q=>?_) fun σ H' q=>?_
  ·obtain ⟨⟨z,rfl⟩,ss,b2⟩:=q
   have hkl:ss.length=i+1/\ff.kt.length<=5/\i<ff.kt.length:=by
    have h1:=b2.steps.length;rw [length_append,length_drop,length_singleton] at h1;have h2:i<((((ff.kt.map fun s=>ofString s)).map V.str).reverse).length:=(List.getElem?_eq_some_iff.mp hx).1;rw [length_reverse,length_map,length_map] at h2;have h3:=nk_ ff;have h4:ff.kt.length=ff.sk.length:=by rw [<- n4_,length_map]
    omega
   obtain ⟨hl1,hl2,hl3⟩:=hkl;have hkx : ∃ kx,ff.kt.drop (ff.kt.length - (i+1))=kx::ff.kt.drop (ff.kt.length - i)/\x=V.str (ofString kx):=by
    have e1:ff.kt.length - i=ff.kt.length - (i+1)+1:=by omega
    have hlt:ff.kt.length - (i+1)<ff.kt.length:=by omega
    refine ⟨ff.kt[ff.kt.length - (i+1)],by rw [e1];exact drop_eq_getElem_cons hlt,?_⟩;rw [getElem?_reverse (by rw [length_map,length_map];exact hl3),length_map,length_map,getElem?_map,getElem?_map,show ff.kt.length - 1 - i=ff.kt.length - (i+1) by omega,getElem?_eq_getElem hlt] at hx;exact (Option.some.inj hx).symm
   obtain ⟨kx,ek,rfl⟩:=hkx;have hs2:H' s=some (.ins J.C_g dxs (fj_ (ofString k) o (d:Int))):=b2.sx _ _ (by
    have q1:s≠row:=a7_ hs h1 (by intro z;injection z with _ _ z;cases z);have q2:s≠todo:=a7_ hs hto (by intro z;cases z);simp [q1,q2]) hs
   have hto2:=b2.todo;simp! [tBM,aY_,bz_,tFld,hs2];refine ⟨.inl ⟨rfl,_,SqL.of hto2⟩,T.cl_g,T.n_aU,_,rfl,_,rfl,?_⟩;refine bs_ rfl fun s2 dx2 H4 hx2 sm2 es2=>⟨_,sm2 _ _ hto2,?_,?_⟩
   ·rw [length_append,length_map,length_reverse]
    exact Nat.lt_of_le_of_lt (show _<=2000 by omega) (by decide)
   refine ⟨s2::ss,?_⟩;rw [ek];exact b2.add hto n2 hx2 sm2 es2
  obtain ⟨⟨z,rfl⟩,ss,b2⟩:=q;rw [length_map,length_map,Nat.sub_self,drop_zero,<- n4_] at b2;have keep : ∀ a u,H a=some u->a≠row->a≠todo->H' a=some u:=fun a u e q1 q2=>b2.sx _ _ (by simp [q1,q2]) e;have hs2:=keep _ _ hs (a7_ hs h1 (by intro z;injection z with _ _ z;cases z)) (a7_ hs hto (by intro z;cases z));have ho2:=keep _ _ ho (a7_ ho h1 (by intro z;injection z with _ _ z;cases z)) (a7_ ho hto (by intro z;cases z));have hpl2:=keep _ _ hpl (a7_ hpl h1 (by intro z;cases z)) n1.symm;refine hX _ _ ⟨n,_,rfl,hs2,ho2,hpl2,?_⟩;have nn : ∀ a,H a=none->a≠pl:=fun a ha z=>by rw [z,hpl] at ha;cases ha
  have su:ai_ [pl] H' (upd H' pl (.lst (ps++[.ref n]))):=ai_.upd (mem_singleton.mpr rfl);have nt : ∀ x∈[pl],NT H' x:=fun x hx=>by rw [mem_singleton.mp hx];exact .lst hpl2
  have nrp:row≠pl:=a7_ h1 hpl (by intro z;cases z);have fr2 : ∀ a∈n::wl'::pl'::ss,a∉[pl]:=fun a ha=>nin (nn a (b2.fr a ha));exact kk n dx wl' pl' ss _ ((b2.sx.more (by simp)).trans (su.more (by simp))) (b2.row.keep su nt (nin nrp) (nin n3)) (su _ _ (nin n1) b2.todo) (b2.steps.keep (Kp.of su fun a ha=>fr2 a (by simp [ha]))) ad_
   (su _ _ (fr2 n (by simp)) b2.node) (su _ _ (fr2 wl' (by simp)) b2.words) (su _ _ (fr2 pl' (by simp)) b2.parts) b2.nd b2.fr
 rw [if_neg hk] at kk;rw [if_neg (by rw [aF_];simp only [V.str.injEq,cl_];exact hk)];have gt:=hg t (mem_cons_self ..);refine cp_ ?_;simp! [dF_,bq_,gI_,h1];refine ⟨rfl,la,t,l,hr0,fun b htk=>⟨b,t,rfl,htk,gt,?_⟩⟩;cases hx:Vaunid.leafOf t.tok with
 | none=>rw [hx] at kk;exact kk
 | some x =>
 rw [hx] at kk;intro n F H1 sm tr nd fr;have hr1:=hr0.same sm;have hr1':=hr1;obtain ⟨dx1,as1,i1,q1,q2,q3⟩:=hr1';refine ⟨_,_,q1,rfl,la,t,l,hr1,fun b2 H2 _ sx2 hr2=>?_⟩;have keep : ∀ a u,H a=some u->a≠row->H2 a=some u:=fun a u e q1=>sx2 _ _ (by simp [q1]) (sm _ _ e);have hs2:=keep _ _ hs (a7_ hs h1 (by intro z;injection z with _ _ z;cases z));have ho2:=keep _ _ ho (a7_ ho h1 (by intro z;injection z with _ _ z;cases z));have hpl2:=keep _ _ hpl (a7_ hpl h1 (by intro z;cases z));refine hX _ _ ⟨n,_,rfl,hs2,ho2,hpl2,?_⟩;have su:ai_ [pl] H2 (upd H2 pl (.lst (ps++[.ref n]))):=ai_.upd (mem_singleton.mpr rfl);have nt : ∀ x∈[pl],NT H2 x:=fun x hx=>by rw [mem_singleton.mp hx];exact .lst hpl2
 have nrp:row≠pl:=a7_ h1 hpl (by intro z;cases z);have nn : ∀ a,H a=none->a≠pl/\a≠row:=fun a ha=>⟨fun z=>(by rw [z,hpl] at ha;cases ha),fun z=>(by rw [z,h1] at ha;cases ha)⟩;exact kk n F _ (((ai_.of sm).trans (sx2.more (by simp))).trans (su.more (by simp))) (hr2.keep su nt (nin nrp) (nin n3)) ad_ (tr.keep fun a ha u e=>su _ _ (nin (nn a (fr a ha)).1) (sx2 _ _ (nin (nn a (fr a ha)).2) e)) nd fr
inductive IGoOn (Ca Ct Cr Cn Cs C:Addr) (H:Hp) (Q:VK) (E:XK):List V->Prop
 | mk (row la todo wh st:Addr) (H0:Hp) (s:MS) (ss own:List Addr) (r:Res MS):Same H0 H->bk_ Ca Ct Cr H row la s.l->bj_ s.l->Lv s.fs->Stk Cn Cs H wh s.fs [] (st::ss) own->H todo=some (.lst (ss.reverse.map V.ref))->(row::todo::la::(own++(st::ss))).Nodup->(∀ a∈row::todo::own,H0 a=none)->b8_ s=some r->((match r with
  | .error e=>ExF C E H (e.kind:Int) (e.place:Int)
  | .ok s'=>∀ H',AtM Ca Ct Cr Cn Cs H0 H' row la todo wh s'->Q .non H'))->IGoOn Ca Ct Cr Cn Cs C H Q E [.ref row,.ref todo,.ref st]
def pq_ (Ca Ct Cr Cn Cs C:Addr):Sp:=fun vs H Q E=>IGoOn Ca Ct Cr Cn Cs C H Q E vs
theorem ba_:[V.str "part",V.str "body"]=(([Vaunid.txt "part",Vaunid.txt "body"]).map S).map V.str:=by left
theorem ok_aj (T:TX w K mg J):FnOk P w K mg base (CX1 P w) 6 J.f_aj J.d_aj ["row","todo","step"] (pq_ J.C_e J.C_d J.C_f J.C_a J.C_g J.C_c):=by
 refine T.F_aj.fn.okX sc_aj fun _ _ _ _ H _ Q E hr h=>?_;obtain ⟨row,la,todo,wh,st,H0,⟨fs,l,res⟩,ss,own,r,sm0,hrow,hg,hlv,hstk,hto,hnd,hfr,hst,k⟩:=h;refine ⟨_,(ab_ (aw_ 3 sc_aj.nd (ah_ (pv 2) rfl))
  (ae_ (aG_ (ak_ bm_ (ah_ (pv 2) rfl) (pe_r T.g_ab) rfl) (ae_ (aB_ (aC_ T.F_Z (ok_Z T) hr.m aH_ (aa_ (pv 0) (aa_ (pv 1) (aa_ (pv 2) ac_)))))) (ae_ (aG_ (ak_ br_ (ah_ (pv 2) rfl) aq_ (as_ _)) (ae_ (aB_ (bL_ pla sla tla ax_ (ah_ (pv 3) rfl) (aa_ (ah_ (hK_ (pv 0) T.cl_f T.m_q (cs_ T) hr.m T.b_q .nil aH_ (aa_ aq_ ac_)) rfl) ac_)))) (ae_ (aG_ (ak_ br_ (ah_ (pv 2) rfl) aq_ (as_ _)) (ae_ (aB_ (bL_ pla sla tla ax_ (ah_ (pv 3) rfl) (aa_ (aC_ T.F_E (ok_E T) hr.m ao_ (aa_ (ah_ (hK_ (pv 0) T.cl_f T.m_q (cs_ T) hr.m T.b_q .nil aH_ (aa_ aq_ ac_)) rfl) ac_)) ac_)))) (ae_ (a2_ (pv 3) (ah_ (hK_ (pv 0) T.cl_f T.m_q (cs_ T) hr.m T.b_q .nil aH_ (aa_ (ah_ (pv 2) rfl) ac_)) rfl) rfl))))))))),?_⟩
 have hr0:=hrow;obtain ⟨dx,as,i,h1,h2,h3⟩:=hrow;cases fs with
 | nil=>cases hst
 | cons pf fs =>
 cases l with
 | nil=>cases hst
 | cons t l =>
 obtain ⟨n,ss1,ss2,zu,dxn,wl,pl,as',F,e0,hf,hb,ess,rfl⟩:=hstk.top;have lvs : ∀ s',b8_ ⟨pf::fs,t::l,res⟩=some (.ok s')->Lv s'.fs:=fun s' e=>oA_ hlv e;obtain ⟨form,ws,b,ts,ks,c,d⟩:=pf;have gl:bj_ l:=fun k hk=>hg k (mem_cons_of_mem _ hk);have gt:aU_ t.tok:=hg t (mem_cons_self ..);have hn:=hf.node;have hw:=hf.words;have hp:=hf.parts;have hstp:=hf.steps;have hnd':=hnd;rw [ess] at hnd';have dj:=mV_ hnd';have ra:=dj.ra;have ta:=dj.ta;have laa:=dj.laa;simp at ra ta laa;obtain ⟨rn,rw',rp⟩:=ra;obtain ⟨tn,tw,tp⟩:=ta;obtain ⟨lan,law,lap⟩:=laa;have cnt5:=hlv.1;simp only [cnt] at cnt5;obtain ⟨kw,krest,ek⟩ : ∃ kw krest,ks.map SK.w++[c]=kw::krest:=by
  cases ks with
  | nil=>exact ⟨_,_,rfl⟩
  | cons a r=>exact ⟨_,_,rfl⟩
 replace hstp:dg_ J.C_g H ss1 (ks.map SK.w++[c]) n d:=hstp;rw [ek] at hstp;cases hstp with
 | cons h5 h6 =>
 rename_i st' ss1;obtain ⟨dxs,hs⟩:=h5;injection ess with ess1 ess2;subst ess1 ess2;have hc:=hlv.2.1;refine bI_ (fun σ' H'=>σ'=[some (.ref row),some (.ref todo),some (.ref st),some (.ref n)]/\H=H') (fun X hX=>?_) (fun σ' H' hh=>?_)
 ·simp! [tFld,hs]
  exact ⟨T.cl_g,T.n_bb,_,rfl,hX _ _ ⟨rfl,rfl⟩⟩
 obtain ⟨rfl,rfl⟩:=hh;refine fu_ fun A1 B1 hA1 hB1=>?_;simp! [tFld,hs];refine ⟨T.cl_g,T.n_az,_,rfl,_,.inr (T.t_ab H),rfl,rfl,?_⟩;cases ks with
 | nil =>
  injection ek with ek1 ek2;subst ek1 ek2;cases h6;have hc:c=")"\/c="end":=hc;rw [show (V.str (ofString c))=V.str (S (Vaunid.txt c)) by rw [aF_],ba_,in_S,decide_eq_false (by rcases hc with rfl | rfl <;> left)]
  rw [if_neg (by simp)];refine hB1 _ (fu_ fun A2 B2 hA2 hB2=>?_);simp! [tFld,hs];refine ⟨T.cl_g,T.n_az,_,rfl,rfl,?_⟩;rw [if_neg (show ¬ V.str (ofString c)=V.str (ofString "name") by simp only [V.str.injEq];rcases hc with rfl | rfl <;> left)]
  refine hB2 _ (fu_ fun A3 B3 hA3 hB3=>?_);simp! [tFld,hs];refine ⟨T.cl_g,T.n_az,_,rfl,rfl,?_⟩;rw [if_neg (show ¬ V.str (ofString c)=V.str (ofString "power") by simp only [V.str.injEq];rcases hc with rfl | rfl <;> left)]
  refine hB3 _ ?_;simp! [dF_,cE_,tFld,sFld,hs,h1];refine ⟨rfl,T.cl_g,T.n_az,_,rfl,la,t,l,Vaunid.txt c,by rw [<- aF_],hr0,?_⟩;by_cases hk:kindOf t.tok=Vaunid.txt c
  ·rw [if_pos hk]
   intro b2 H1 ⟨dt,ct,e3,_⟩ sx1 hr1;have hn1:H1 n=some (.ins J.C_a dxn (a4_ (S form) wl pl (b:Int) (e0:Int))):=sx1 _ _ (nin (Ne.symm rn)) hn;refine ⟨J.C_d,dt,_,e3,T.cl_d,T.n_aT,_,rfl,_,_,_,hn1,T.cl_a,T.n_aO,(by show 5<1000;decide),?_⟩;have su:ai_ [n] H1 (upd H1 n (.ins J.C_a dxn (a4_ (S form) wl pl (b:Int) (t.halt_:Int)))):=ai_.upd (mem_singleton.mpr rfl);have nt : ∀ x∈[n],NT H1 x:=fun x hx=>by rw [mem_singleton.mp hx];exact .node hn1
   have sxx:ai_ [row,n] H (upd H1 n (.ins J.C_a dxn (a4_ (S form) wl pl (b:Int) (t.halt_:Int)))):=(sx1.more (by simp)).trans (su.more (by simp));have fin:=lN_ (e':=t.halt_) (res:=res) sm0 hto hr0 hf hb hnd' hfr sxx (hr1.keep su nt (nin rn) (nin lan)) gl ad_;show Q V.non (upd H1 n (.ins J.C_a dxn (a4_ (S form) wl pl (b:Int) (t.halt_:Int))));cases fs with
   | nil =>
    have hst':b8_ ⟨[⟨form,ws,b,ts,[],c,d⟩],t::l,res⟩=some (if kindOf t.tok=Vaunid.txt c then .ok ⟨[],l,[PF.done ⟨form,ws,b,ts,[],c,d⟩ t.halt_]⟩ else fault 6 t.start):=rfl;rw [hst',if_pos hk] at hst;injection hst with hst;subst hst;exact k _ fin
   | cons g fs =>
   have hst':b8_ ⟨⟨form,ws,b,ts,[],c,d⟩::g::fs,t::l,res⟩=some (if kindOf t.tok=Vaunid.txt c then .ok ⟨{ g with ts:=g.ts++[PF.done ⟨form,ws,b,ts,[],c,d⟩ t.halt_] }::fs,l,res⟩ else fault 6 t.start):=rfl;have lv2:=lvs _ (by rw [hst',if_pos hk]);rw [hst',if_pos hk] at hst;injection hst with hst;subst hst;exact k _ (fin lv2)
  rw [if_neg hk];have hst' : ∃ z,b8_ ⟨⟨form,ws,b,ts,[],c,d⟩::fs,t::l,res⟩=some (if kindOf t.tok=Vaunid.txt c then z else fault 6 t.start):=⟨_,rfl⟩;obtain ⟨z,hst'⟩:=hst';rw [hst',if_neg hk] at hst;injection hst with hst;subst hst;exact k
 | cons kk ks =>
 injection ek with ek1 ek2;subst ek1 ek2;rw [length_cons] at cnt5;cases kk with
 | n =>
  rw [show (V.str (ofString SK.n.w))=V.str (S (Vaunid.txt "name")) by rw [aF_];rfl,ba_,in_S,decide_eq_false (by left)];rw [if_neg (by simp)];refine hB1 _ (fu_ fun A2 B2 hA2 hB2=>?_);simp! [tFld,hs];refine ⟨T.cl_g,T.n_az,_,rfl,rfl,?_⟩;rw [if_pos (show V.str (ofString SK.n.w)=V.str (ofString "name") from rfl)];refine hA2 _ ?_;simp! [dF_,cE_,tFld,tBM,aY_,hs,h1];refine ⟨_,_,_,hn,T.cl_a,T.n_aw,_,rfl,(show tyV K "list" (.ref wl) _ from .inl ⟨rfl,_,SqL.of hw⟩),rfl,la,t,l,Vaunid.txt "name",aF_ _,hr0,?_⟩;have hst':b8_ ⟨⟨form,ws,b,ts,.n::ks,c,d⟩::fs,t::l,res⟩=some (if kindOf t.tok=Vaunid.txt "name" then .ok ⟨⟨form,ws++[fh_ t.tok],b,ts,ks,c,d⟩::fs,l,res⟩ else fault 6 t.start):=rfl;rw [hst'] at hst;injection hst with hst;by_cases hk:kindOf t.tok=Vaunid.txt "name"
  ·rw [if_pos hk] at hst ⊢
   rw [if_pos hk] at hst';subst hst;have lv2:=lvs _ hst';intro b2 H1 htk sx1 hr1;obtain ⟨wd,e1,e2⟩:=(du_ gt).mp hk;obtain ⟨dt,ct,e3,e4⟩:=htk;rw [e1] at e4;have ec:ct=V.str (S wd):=e4;have hw1:H1 wl=some (.lst ((ws.map S).map V.str)):=sx1 _ _ (nin (Ne.symm rw')) hw;refine ⟨J.C_d,dt,_,e3,T.cl_d,T.n_aD,_,rfl,_,rfl,_,hw1,?_,?_⟩
   ·rw [length_map,length_map]
    exact Nat.lt_of_le_of_lt (show ws.length<=5 by omega) (by decide)
   rw [ec];refine k _ ?_;have su:ai_ [wl] H1 (upd H1 wl (.lst ((ws.map S).map V.str++[.str (S wd)]))):=ai_.upd (mem_singleton.mpr rfl);have nt : ∀ x∈[wl],NT H1 x:=fun x hx=>by rw [mem_singleton.mp hx];exact .lst hw1
   have sxx:ai_ [row,n,wl,pl] H (upd H1 wl (.lst ((ws.map S).map V.str++[.str (S wd)]))):=(sx1.more (by simp)).trans (su.more (by simp));have s2:ai_ [row,wl] H (upd H1 wl (.lst ((ws.map S).map V.str++[.str (S wd)]))):=(sx1.more (by simp)).trans (su.more (by simp));refine ii_ (as':=as') (G:=[]) (e':=e0) sm0 hto hr0 hf hb hnd' hfr sxx (hr1.keep su nt (nin rw') (nin law)) gl lv2 (s2 _ _ (by simp;exact ⟨Ne.symm rn,dj.nw⟩) hn) ?_ (s2 _ _ (by simp;exact ⟨Ne.symm rp,Ne.symm dj.wp⟩) (by rw [hp,append_nil])) ?_ .nil (by simp) h6
   ·rw [ad_,e1]
    simp only [fh_,map_append,map_cons,map_nil]
   rw [append_nil];exact hf.trees.keep fun a ha o q=>sxx a o (fun m=>dj.out a (by simp [ha]) (by simp at m ⊢;rcases m with h | h | h | h <;> simp [h])) q
  rw [if_neg hk] at hst ⊢;subst hst;exact k
 | pw =>
  rw [show (V.str (ofString SK.pw.w))=V.str (S (Vaunid.txt "power")) by rw [aF_];rfl,ba_,in_S,decide_eq_false (by left)];rw [if_neg (by simp)];refine hB1 _ (fu_ fun A2 B2 hA2 hB2=>?_);simp! [tFld,hs];refine ⟨T.cl_g,T.n_az,_,rfl,rfl,?_⟩;rw [if_neg (show ¬ V.str (ofString SK.pw.w)=V.str (ofString "name") by simp only [V.str.injEq];left)];refine hB2 _ (fu_ fun A3 B3 hA3 hB3=>?_);simp! [tFld,hs];refine ⟨T.cl_g,T.n_az,_,rfl,rfl,?_⟩;rw [if_pos (show V.str (ofString SK.pw.w)=V.str (ofString "power") from rfl)];refine hA3 _ ?_;simp! [dF_,cE_,tFld,tBM,aY_,hs,h1];refine ⟨_,_,_,hn,T.cl_a,T.n_aw,_,rfl,(show tyV K "list" (.ref wl) _ from .inl ⟨rfl,_,SqL.of hw⟩),rfl,la,t,l,Vaunid.txt "digit",aF_ _,hr0,?_⟩;have hst':b8_ ⟨⟨form,ws,b,ts,.pw::ks,c,d⟩::fs,t::l,res⟩=some (if kindOf t.tok=Vaunid.txt "digit" then .ok ⟨⟨form,ws++[h3_ t.tok],b,ts,ks,c,d⟩::fs,l,res⟩ else fault 6 t.start):=rfl;rw [hst'] at hst;injection hst with hst;by_cases hk:kindOf t.tok=Vaunid.txt "digit"
  ·rw [if_pos hk] at hst ⊢
   rw [if_pos hk] at hst';subst hst;have lv2:=lvs _ hst';intro b2 H1 htk sx1 hr1;obtain ⟨v,m,e1⟩:=(dR_ gt).mp hk;obtain ⟨dt,ct,e3,e4⟩:=htk;rw [e1] at e4 gt;obtain ⟨am,ec,ha⟩:=e4;have glit:gs_ v:=⟨gt.1,gt.2.1,gt.2.2.1⟩;have hw1:H1 wl=some (.lst ((ws.map S).map V.str)):=sx1 _ _ (nin (Ne.symm rw')) hw;refine ⟨J.C_d,dt,_,e3,T.cl_d,T.n_aD,_,rfl,am,v,by rw [ec],ha,glit,_,rfl,_,hw1,?_,?_⟩
   ·rw [length_map,length_map]
    exact Nat.lt_of_le_of_lt (show ws.length<=5 by omega) (by decide)
   refine k _ ?_;have su:ai_ [wl] H1 (upd H1 wl (.lst ((ws.map S).map V.str++[.str (S (shownLit v))]))):=ai_.upd (mem_singleton.mpr rfl);have nt : ∀ x∈[wl],NT H1 x:=fun x hx=>by rw [mem_singleton.mp hx];exact .lst hw1
   have sxx:ai_ [row,n,wl,pl] H (upd H1 wl (.lst ((ws.map S).map V.str++[.str (S (shownLit v))]))):=(sx1.more (by simp)).trans (su.more (by simp));have s2:ai_ [row,wl] H (upd H1 wl (.lst ((ws.map S).map V.str++[.str (S (shownLit v))]))):=(sx1.more (by simp)).trans (su.more (by simp));refine ii_ (as':=as') (G:=[]) (e':=e0) sm0 hto hr0 hf hb hnd' hfr sxx (hr1.keep su nt (nin rw') (nin law)) gl lv2 (s2 _ _ (by simp;exact ⟨Ne.symm rn,dj.nw⟩) hn) ?_ (s2 _ _ (by simp;exact ⟨Ne.symm rp,Ne.symm dj.wp⟩) (by rw [hp,append_nil])) ?_ .nil (by simp) h6
   ·rw [ad_,e1]
    simp only [h3_,map_append,map_cons,map_nil]
   rw [append_nil];exact hf.trees.keep fun a ha o q=>sxx a o (fun m=>dj.out a (by simp [ha]) (by simp at m ⊢;rcases m with h | h | h | h <;> simp [h])) q
  rw [if_neg hk] at hst ⊢;subst hst;exact k
 | p bb =>
 rw [show (V.str (ofString (SK.p bb).w))=V.str (S (Vaunid.txt (SK.p bb).w)) by rw [aF_],ba_,in_S,decide_eq_true (by cases bb <;> left)]
 rw [if_pos rfl];refine hA1 _ ?_;simp! [tRet];have zr:((ss1++ss2).reverse.map V.ref).length<=1000:=by
  have q1:=hb.len hlv.2.2.2.2;have q2:=hf.steps.length;have q3:=hlv.2.2.1;have q4:=hlv.2.2.2.1;rw [length_map,length_reverse,length_append];simp only [length_append,length_map,length_cons,length_nil] at q2 q3 q4;omega
 refine ⟨row,la,todo,st,n,dxn,wl,pl,(SK.p bb).w,d,t,l,_,as'.map V.ref,S form,(b:Int),(e0:Int),⟨dxs,hs⟩,hr0,hg,hto,zr,hn,by rw [hp,append_nil],?_,tp,Ne.symm dj.tla,lap,?_⟩
 ·rw [length_map,hf.trees.length]
  show ts.length<=100;omega
 have hst':b8_ ⟨⟨form,ws,b,ts,.p bb::ks,c,d⟩::fs,t::l,res⟩=(if d=40 then some (fault 8 t.start)
   else if kindOf t.tok=Vaunid.txt "(" then (if l.isEmpty=true then none else some (.ok ⟨dY_ t.start (d+1) l::⟨form,ws,b,ts,ks,c,d⟩::fs,(an_ l).2,res⟩))
   else match Vaunid.leafOf t.tok with
    | some x=>some (.ok ⟨⟨form,ws,b,ts++[g7_ t x],ks,c,d⟩::fs,l,res⟩)
    | none=>some (fault 6 t.start)):=rfl
 rw [hst'] at hst;by_cases hd:d=40
 ·rw [if_pos hd] at hst ⊢
  injection hst with hst;subst hst;exact k
 rw [if_neg hd] at hst hst' ⊢;by_cases hk:kindOf t.tok=Vaunid.txt "("
 ·rw [if_pos hk] at hst hst' ⊢
  by_cases hl:l.isEmpty=true
  ·rw [if_pos hl] at hst
   cases hst
  rw [if_neg hl] at hst hst';injection hst with hst;subst hst;have lv2:=lvs _ hst';refine ⟨fun z=>hl (by rw [z];rfl),fun n' dx' wl' pl' ss' H' sx hr' hto' st' pa' no' wo' pp' nd' fr'=>k H' ?_⟩;have gb:bj_ (an_ l).2:=by
   obtain ⟨pre,epre⟩:=e7_ l;rw [epre] at gl;exact gl.suf
  exact m2_ (pn:=dY_ t.start (d+1) l) (e':=t.start) sm0 hto hr0 hf hb hnd' hfr lv2 sx hr' gb hto' st' pa' no' wo' pp' rfl rfl nd' fr' rfl rfl rfl rfl h6
 rw [if_neg hk] at hst hst' ⊢;cases hx:Vaunid.leafOf t.tok with
 | none =>
  rw [hx] at hst;injection hst with hst;subst hst;exact k
 | some x =>
 rw [hx] at hst hst';injection hst with hst;subst hst;have lv2:=lvs _ hst';intro n' F' H' sx hr' pa' tr' nd' fr';have out : ∀ a,a∉[row,n,wl,pl]->a∉[row,pl]:=fun a m z=>m (by simp at z ⊢;rcases z with h | h <;> simp [h])
 refine k H' (ii_ (as':=as'++[n']) (G:=F') (e':=e0) sm0 hto hr0 hf hb hnd' hfr (sx.more (by simp)) hr' gl lv2 (sx _ _ (by simp;exact ⟨Ne.symm rn,dj.np⟩) hn) (sx _ _ (by simp;exact ⟨Ne.symm rw',dj.wp⟩) hw) (by rw [pa',map_append];rfl) ?_ nd' fr' h6);exact (hf.trees.keep fun a ha o q=>sx a o (fun m=>dj.out a (by simp [ha]) (by simp at m ⊢;rcases m with h | h <;> simp [h])) q).snoc tr'
def fl_ (Cn:Addr):Sp:=fun vs H Q _=>∃ (a:Addr) (tr:Tr) (F:List Addr),vs=[.ref a]/\TreeAt Cn H a tr F/\(bc_ 1 tr).length<=10000/\∀ (p:Addr) (items:List Addr) (H':Hp),Same H H'->H' p=some (.lst (items.map V.ref))->Paired (b4_ Cn H H') items (bc_ 1 tr)->Q (.ref p) H'
theorem b4_.keep {Cn:Addr}{H H1 H2:Hp}{xs:List Addr} (sx:ai_ xs H1 H2) (nt : ∀ x∈xs,∃ l,H1 x=some (.lst l)) {it:Addr}{p:Nat×Tr} (h:b4_ Cn H H1 it p):b4_ Cn H H2 it p:=by
 obtain ⟨a,F,e,t⟩:=h;refine ⟨a,F,sx _ _ (fun m=>?_) e,t⟩;obtain ⟨l,q⟩:=nt _ m;rw [q] at e;cases e
theorem dK_ {A B:Type}{R:A->B->Prop}{l l2:List A}{m m2:List B} (h:Paired R l m) (q:Paired R l2 m2):Paired R (l++l2) (m++m2):=by
 induction h with
 | nil=>exact q
 | cons r t ih=>exact .cons r ih
theorem ok_G (T:TX w K mg J):FnOk P w K mg base CX0 1 J.f_G J.d_G ["term"] (fl_ J.C_a):=by
 refine T.F_G.fn.ok sc_G fun _ _ _ _ H _ Q E hr h=>?_;obtain ⟨a,tr,F,rfl,htr,zr,k⟩:=h;refine ⟨_,(ab_ (aw_ 1 sc_G.nd (aE_ ac_))
  (ab_ (aw_ 2 sc_G.nd (aE_ (aa_ (dn_ (aa_ (pv 0) (aa_ aj_ ac_))) ac_)))
  (ab_ (bD_ PassesOwn.never (dm_ (pv 2) (fun _=>rfl)) (ab_ (aw_ 3 sc_G.nd (gY_ pla slp tlp g3_ (pv 2)))
  (ab_ (aB_ (bL_ pla sla tla ax_ (pv 1) (aa_ (pv 3) ac_)))
  (ae_ (dZ_ PassesOwn.never rfl (b9_ rfl T.b_reversed (aa_ (ah_ (aQ_ bx_ (pv 3) aj_ (fun _ _=>rfl)) rfl) ac_)) (pg_q 4 sc_G.nd) (ae_ (aB_ (bL_ pla sla tla ax_ (pv 2) (aa_ (dn_ (aa_ (pv 4) (aa_ (a9_ bU_ (aQ_ bx_ (pv 3) aj_ (fun _ _=>rfl)) aj_) ac_))) ac_)))))))))
  (ae_ (am_ (pv 1)))))),?_⟩
 refine cp_ ?_;simp! [tRet];refine ⟨zero_le _,fun fd hfd=>cp_ ?_⟩;simp! [tRet];refine ⟨by decide,fun it0 hit0=>⟨by decide,fun td htd=>?_⟩⟩;have nf:fd≠it0:=fun z=>by rw [z,ad_] at hit0;cases hit0
 have hit00:H it0=none:=by rw [al_ (Ne.symm nf)] at hit0;exact hit0
 have ntd:td≠it0:=fun z=>by rw [z,ad_] at htd;cases htd
 have ntf:td≠fd:=fun z=>by rw [al_ ntd,z,ad_] at htd;cases htd
 have htd0:H td=none:=by rw [al_ ntd,al_ ntf] at htd;exact htd
 obtain ⟨Pv,hPv⟩ : ∃ Pv:Nat->L2.St->Hp->Prop,Pv=fun m σ H'=>Same H H'/\∃ (dn sk:List Addr) (dl sl:List (Nat×Tr)) (z z2:Option V),m=(dy_ sl).length/\σ=[some (.ref a),some (.ref fd),some (.ref td),z,z2]/\H' fd=some (.lst (dn.map V.ref))/\H' td=some (.lst (sk.map V.ref)) /\
  Paired (b4_ J.C_a H H') dn dl/\Paired (b4_ J.C_a H H') sk sl/\bc_ 1 tr=dl++dy_ sl:=⟨_,rfl⟩
 refine cp_ (b5_ Pv _ (by
  rw [hPv];refine ⟨?_,[],[it0],[],[(1,tr)],none,none,rfl,rfl,?_,ad_,.nil,.cons ⟨a,F,?_,htr⟩ .nil,?_⟩
  ·exact (Same.upd hfd).trans ((Same.upd hit0).trans (Same.upd htd))
  ·rw [al_ (Ne.symm ntf),al_ nf]
   exact ad_
  ·rw [al_ (Ne.symm ntd)]
   exact ad_
  show bc_ 1 tr=[]++dy_ ([]++[(1,tr)]);rw [cO_];show _=bc_ 1 tr++[];rw [append_nil]) fun m σ H' hp=>?_)
 rw [hPv] at hp;obtain ⟨sm,dn,sk,dl,sl,z,z2,rfl,rfl,hf,ht,pd,ps,hfl⟩:=hp;simp! [tRet];by_cases hsk:sk=[]
 ·subst hsk
  cases ps;refine ⟨false,.inl ⟨_,SqL.of ht,rfl⟩,?_⟩;rw [if_neg (by simp)];rw [show dy_ []=[] from rfl,append_nil] at hfl;exact k fd dn H' sm hf (by rw [hfl];exact pd)
 refine ⟨true,.inl ⟨_,SqL.of ht,by cases sk with | nil=>exact absurd rfl hsk | cons _ _=>rfl⟩,?_⟩;rw [if_pos rfl];refine ⟨_,fun _ _ z=>z,?_⟩;obtain ⟨sk',it,sl',⟨d,t⟩,rfl,rfl,ps',hit⟩:=c2_ ps hsk;obtain ⟨n,Fn,hitv,htn⟩:=hit;have hlens:dn.length<=10000/\sk'.length<=10000/\sk'.length+t.parts.length<=10000:=by
  have q1:=Paired.length pd;have q2:=Paired.length ps';have q3:=lq_ (sl'++(t.parts.reverse.map fun x=>(d+1,x)));rw [c8_,length_append,length_map,length_reverse] at q3;rw [hfl,length_append,cO_,length_append] at zr;have q4:bc_ d t=(d,t)::cR_ (d+1) t.parts:=by cases t;rfl
  rw [q4,length_cons] at zr;rw [length_append] at q3;omega
 obtain ⟨hl1,hl2,hl3⟩:=hlens;have ht':H' td=some (.lst (sk'.map V.ref++[.ref it])):=by rw [ht,map_append];rfl
 refine cp_ ?_;simp! [tBM0,rPop];refine ⟨.inl ⟨rfl,_,SqL.of ht⟩,_,ht',V.ref it,by simp,?_⟩;rw [dropLast_concat];have sx1:ai_ [td] H' (upd H' td (.lst (sk'.map V.ref))):=ai_.upd (mem_singleton.mpr rfl);have e1:upd H' td (.lst (sk'.map V.ref)) td=some (.lst (sk'.map V.ref)):=ad_;generalize upd H' td (.lst (sk'.map V.ref))=H1 at sx1 e1 ⊢;have hf1:=sx1 _ _ (nin (Ne.symm ntf)) hf;refine cp_ ?_;simp! [tBM,aY_];refine ⟨.inl ⟨rfl,_,SqL.of hf1⟩,_,hf1,by rw [length_map];exact Nat.lt_of_le_of_lt hl1 (by decide),?_⟩;have sx2:ai_ [fd] H1 (upd H1 fd (.lst (dn.map V.ref++[.ref it]))):=ai_.upd (mem_singleton.mpr rfl);have e2:upd H1 fd (.lst (dn.map V.ref++[.ref it])) fd=some (.lst (dn.map V.ref++[.ref it])):=ad_;have e12:=sx2 _ _ (nin ntf) e1;generalize upd H1 fd (.lst (dn.map V.ref++[.ref it]))=H2 at sx2 e2 e12 ⊢;have sx12:ai_ [fd,td] H' H2:=(sx1.more (by simp)).trans (sx2.more (by simp));have nt12 : ∀ x∈[fd,td],∃ l,H' x=some (.lst l):=fun x hx=>by
  rcases mem_cons.mp hx with rfl | hx
  ·exact ⟨_,hf⟩
  rw [mem_singleton.mp hx];exact ⟨_,ht⟩
 have pd2:Paired (b4_ J.C_a H H2) dn dl:=Paired.mapP pd fun _ _ q=>q.keep sx12 nt12;have ps2:Paired (b4_ J.C_a H H2) sk' sl':=Paired.mapP ps' fun _ _ q=>q.keep sx12 nt12;have it2:b4_ J.C_a H H2 it (d,t):=b4_.keep sx12 nt12 ⟨n,Fn,hitv,htn⟩;obtain ⟨n',Fn',hitv2,_⟩:=it2;have hn':n'=n:=by
  have:=sx12 _ _ (fun m=>by
   obtain ⟨l,q⟩:=nt12 _ m;rw [q] at hitv;cases hitv) hitv
  rw [this] at hitv2;cases hitv2;rfl
 subst hn';have sm2:Same H H2:=sx12.base sm (fun x hx=>by
  rcases mem_cons.mp hx with rfl | hx
  ·exact hfd
  rw [mem_singleton.mp hx];exact htd0)
 cases htn with
 | @mk _ dxn wl pl f ws b e as ps3 G t1 t2 t3 t4 =>
 have t1':=sm2 _ _ t1;have t3':=sm2 _ _ t3;refine a5_ ?_;simp! [iRev,tFld];refine ⟨_,SqT.of hitv2,_,rfl,_,rfl,_,_,_,t1',T.cl_a,T.n_aA,_,rfl,_,rfl,_,SqL.of t3',?_⟩;refine dv_ (as.map V.ref) (fun i σ H3=>(∃ z2,σ=[some (.ref a),some (.ref fd),some (.ref td),some (.ref it),z2])/\ai_ [td] H2 H3/\∃ nw,H3 td=some (.lst ((sk'++nw).map V.ref))/\Paired (b4_ J.C_a H H3) nw ((ps3.reverse.take i).map fun t=>(d+1,t)))
  ⟨⟨_,rfl⟩,fun _ _ _ q=>q,[],by rw [append_nil];exact e12,.nil⟩ (fun i σ H3 _ q=>SqL.of (q.2.1 _ _ (nin (af_ t3 htd0)) t3')) (fun i x σ H3 hx q=>?_) fun σ H3 q=>?_
 ·obtain ⟨⟨z2,rfl⟩,sx3,nw,hnw,pnw⟩:=q
  have hit3:=sx3 _ _ (nin (a7_ hitv2 e12 (by intro z;cases z))) hitv2;rw [<- map_reverse,getElem?_map] at hx;cases qa:as.reverse[i]? with
  | none=>rw [qa] at hx;cases hx
  | some c =>
  rw [qa] at hx;cases hx;have hil:i<as.length:=by
   have:=(List.getElem?_eq_some_iff.mp qa).1;rw [length_reverse] at this;exact this
  have hal:=t4.length;rw [getElem?_reverse hil] at qa;obtain ⟨tc,Gc,hc1,hc2⟩:=t4.get qa;have hnl:nw.length=i:=by
   have:=Paired.length pnw;rw [length_map,length_take,length_reverse] at this;omega
  simp! [tSeq,tBM,aY_];refine ⟨.inl ⟨rfl,_,SqL.of hnw⟩,_,SqT.of hit3,_,rfl,_,rfl,by decide,fun q hq=>?_⟩;have s4:Same H3 (upd H3 q (.tup [.ref c,.int ((d:Int)+1)])):=Same.upd hq;have e4:upd H3 q (.tup [.ref c,.int ((d:Int)+1)]) q=some (.tup [.ref c,.int ((d:Int)+1)]):=ad_;generalize upd H3 q (.tup [.ref c,.int ((d:Int)+1)])=H4 at s4 e4 ⊢;have hnw4:=s4 _ _ hnw;have sx5:ai_ [td] H4 (upd H4 td (.lst ((sk'++nw).map V.ref++[.ref q]))):=ai_.upd (mem_singleton.mpr rfl);have nt5 : ∀ x∈[td],∃ l,H4 x=some (.lst l):=fun x hx=>by rw [mem_singleton.mp hx];exact ⟨_,hnw4⟩
  refine ⟨_,hnw4,?_,sx3.trans ((ai_.of s4).trans sx5),nw++[q],?_,?_⟩
  ·rw [length_map,length_append]
   have:(Tr.mk f ws b e ps3).parts.length=ps3.length:=rfl;exact Nat.lt_of_le_of_lt (show _<=10000 by omega) (by decide)
  ·rw [<- append_assoc,map_append (l₁:=sk'++nw)]
   rfl
  have hr:ps3.reverse[i]? = some tc:=by rw [getElem?_reverse (by omega),<- hal];exact hc1
  rw [take_succ,hr,map_append (f:=fun t=>(d+1,t))];refine aM_ (Paired.mapP pnw fun _ _ q=>(q.keep (ai_.of (xs:=[]) s4) (by simp)).keep sx5 nt5) ?_;exact b4_.keep sx5 nt5 ⟨c,Gc,e4,hc2⟩
 obtain ⟨⟨z2,rfl⟩,sx3,nw,hnw,pnw⟩:=q;have hal:=t4.length;rw [length_map,hal,<- length_reverse,take_length] at pnw;have nt3 : ∀ x∈[td],∃ l,H2 x=some (.lst l):=fun x hx=>by rw [mem_singleton.mp hx];exact ⟨_,e12⟩
 refine ⟨(dy_ (sl'++(ps3.reverse.map fun t=>(d+1,t)))).length,?_,?_⟩
 ·rw [c8_,cO_]
  show _<((d,Tr.mk f ws b e ps3)::cR_ (d+1) ps3++dy_ sl').length;rw [cons_append,length_cons];exact lt_succ_self _
 rw [hPv];refine ⟨sx3.base sm2 (fun x hx=>by rw [mem_singleton.mp hx];exact htd0),dn++[it],sk'++nw,dl++[(d,.mk f ws b e ps3)],_,_,_,rfl,rfl,?_,hnw,?_,?_,?_⟩
 ·rw [sx3 _ _ (nin (Ne.symm ntf)) e2,map_append]
  rfl
 ·exact aM_ (Paired.mapP pd2 fun _ _ q=>q.keep sx3 nt3) (b4_.keep sx3 nt3 ⟨n',_,hitv2,.mk t1 t2 t3 t4⟩)
 ·exact dK_ (Paired.mapP ps2 fun _ _ q=>q.keep sx3 nt3) pnw
 rw [hfl,c8_,cO_,append_assoc];rfl
def iw_ (Cn C:Addr):Sp:=fun vs H Q E=>∃ (a:Addr) (tr:Tr) (F:List Addr),vs=[.ref a]/\TreeAt Cn H a tr F/\(bc_ 1 tr).length<=10000/\(match limT 0 (bc_ 1 tr) with
 | none=>∀ H',Same H H'->Q .non H'
 | some (k,b)=>ExF C E H (k:Int) (b:Int))
theorem ok_ac (T:TX w K mg J):FnOk P w K mg base (CX1 P w) 3 J.f_ac J.d_ac ["term"] (iw_ J.C_a J.C_c):=by
 refine T.F_ac.fn.okX sc_ac fun _ _ _ _ H _ Q E hr h=>?_;obtain ⟨a,tr,F,rfl,htr,zr,k⟩:=h;refine ⟨_,(ae_ (dZ_ iL_ rfl (oi_ rfl T.b_enumerate (aa_ (aC_ T.F_G (ok_G T) hr.m ao_ (aa_ (pv 0) ac_)) ac_)) (pC_ rfl (iF_ (pg_q 1 sc_ac.nd) (iF_ (pg_q 2 sc_ac.nd) oj_))) (ab_ (aG_ (ak_ g1_ (aQ_ bx_ (pv 2) aj_ (fun _ _=>rfl)) (pe_g T.g_aI) (as_ _)) (ae_ (bE_ T.X_c (ok_c T) hr.m rfl T.G_c T.b_n bl_ rfl (aa_ aj_ (aa_ (ah_ (aQ_ bx_ (pv 2) aj_ (fun _ _=>rfl)) rfl) ac_)))) ap_)
  (ae_ (aG_ (ak_ br_ (pv 1) (pe_g T.g_aV) (as_ _)) (ae_ (bE_ T.X_c (ok_c T) hr.m rfl T.G_c T.b_n bl_ rfl (aa_ aj_ (aa_ (ah_ (aQ_ bx_ (pv 2) aj_ (fun _ _=>rfl)) rfl) ac_)))) ap_))))),?_⟩
 refine a5_ ?_;simp! [tSeq,fl_,pX_];refine ⟨tr,F,htr,zr,fun p items H1 s1 hp hit=>⟨_,SqL.of hp,?_⟩⟩;refine jH_ (items.map V.ref) (fun i σ H2=>Same H1 H2/\(∃ z1 z2,σ=[some (.ref a),z1,z2])/\limT 0 (bc_ 1 tr)=limT i ((bc_ 1 tr).drop i)) ⟨Same.refl _,⟨_,_,rfl⟩,rfl⟩ (fun i σ H2 _ q=>SqL.of (q.1 _ _ hp)) (fun i x σ H2 A hx q hA=>?_) fun σ H2 q=>?_
 ·obtain ⟨sm,⟨z1,z2,rfl⟩,hlim⟩:=q
  rw [getElem?_map] at hx;cases qa:items[i]? with
  | none=>rw [qa] at hx;cases hx
  | some it =>
  rw [qa] at hx;cases hx;obtain ⟨⟨d,t⟩,hd,n,G,hit1,htn⟩:=cM_ hit qa;have hdr:(bc_ 1 tr).drop i=(d,t)::(bc_ 1 tr).drop (i+1):=by
   obtain ⟨hlt,e⟩:=List.getElem?_eq_some_iff.mp hd;rw [drop_eq_getElem_cons hlt,e]
  rw [hdr] at hlim;have hlim':limT i ((d,t)::(bc_ 1 tr).drop (i+1))=if 40<d then some (8,t.b) else if i=300 then some (9,t.b) else limT (i+1) ((bc_ 1 tr).drop (i+1)):=rfl;rw [hlim'] at hlim;have s3:Same H2 (upd H2 A (.tup [.int (i:Nat),.ref it])):=Same.upd hA;have e3:upd H2 A (.tup [.int (i:Nat),.ref it]) A=some (.tup [.int (i:Nat),.ref it]):=ad_;generalize upd H2 A (.tup [.int (i:Nat),.ref it])=H3 at s3 e3 ⊢;have sm3:=sm.trans s3;have hit3:=sm3 _ _ hit1;have htn3:=htn.same (s1.trans sm3);simp! [tSeq,gTup,p1_,gNil,cT_,tFld];have hnode : ∃ dxn f wl pl e,H3 n=some (.ins J.C_a dxn (a4_ f wl pl (t.b:Int) e)):=by
   cases htn3 with
   | @mk _ dxn wl pl f ws b e as ps3 G t1 t2 t3 t4=>exact ⟨dxn,_,wl,pl,_,t1⟩
  obtain ⟨dxn,f,wl,pl,e,hn⟩:=hnode;refine ⟨_,SqT.of e3,rfl,_,_,rfl,_,_,rfl,rfl,_,rfl,_,SqT.of hit3,_,rfl,_,rfl,?_⟩;by_cases h40:40<d
  ·rw [if_pos h40] at hlim
   rw [hlim] at k;rw [if_pos (show (40:Int)<(d:Int) by omega)];exact ⟨_,rfl,_,SqT.of hit3,_,rfl,_,rfl,_,_,_,hn,T.cl_a,T.n_aE,_,rfl,by decide,bt_ (k.mono (s1.trans sm3))⟩
  rw [if_neg h40] at hlim;rw [if_neg (show ¬ (40:Int)<(d:Int) by omega)];refine ⟨rfl,?_⟩;by_cases h300:i=300
  ·rw [if_pos h300] at hlim
   rw [hlim] at k;rw [if_pos (by rw [h300];rfl)];exact ⟨_,rfl,_,SqT.of hit3,_,rfl,_,rfl,_,_,_,hn,T.cl_a,T.n_aE,_,rfl,by decide,bt_ (k.mono (s1.trans sm3))⟩
  rw [if_neg h300] at hlim;rw [if_neg (by simp only [V.int.injEq];omega)];exact ⟨sm3,hlim⟩
 obtain ⟨sm,⟨z1,z2,rfl⟩,hlim⟩:=q;have e1:items.length=(bc_ 1 tr).length:=Paired.length hit;rw [length_map,e1,drop_length] at hlim;rw [hlim] at k;exact k H2 (s1.trans sm)
def bF_ (Cn:Addr) (x:Term) (v:V) (H:Hp):Prop:=∃ (b:Addr) (tr:Tr) (F:List Addr),v = .ref b/\Rep x tr/\TreeAt Cn H b tr F/\(bc_ 1 tr).length<=300/\h6_ tr<=40/\GT x
def ni_ (Cn C:Addr) (K:Frag):Sp:=fun vs H Q E=>∃ (a:Addr) (t:List Nat),vs=[.ref a]/\SqL K H a (bs t)/\t.length<=10000/\RES C H Q E (readCore t) (bF_ Cn)
theorem ev_ (tr:Tr):(bc_ 1 tr).length=(cB_ tr).length:=by rw [<- de_ 1 tr,length_map]
theorem hx_ : ∀ (n p:Nat) (s:List Nat) (l:List Vaunid.Token),tokens true n p s = .ok l->l.length<=s.length
 | n,p,[],l,h=>by
  have:l=[]:=by cases n <;> (cases h;rfl)
  subst this;simp
 | 0,p,c::r,l,h=>by
  cases h;simp
 | n+1,p,c::r,l,h=>by
  unfold tokens at h;rw [length_cons];split at h
  ·have:=hx_ n _ r l h
   omega
  split at h
  ·rename_i hz
   cases hz.1
  cases q:token true p (c::r) with
  | error e=>rw [q] at h;cases h
  | ok x =>
  obtain ⟨k,s⟩:=x;rw [q] at h;dsimp only at h;have tf:=bS_ q;have hs:s.length<=r.length:=by
   have h3:=tf.lt;rw [tf.rest,length_drop,length_cons];omega
  cases q2:tokens true n k.halt_ s with
  | error e=>rw [q2] at h;cases h
  | ok l2 =>
  rw [q2] at h;cases h;have:=hx_ n _ s l2 q2;rw [length_cons];omega
theorem ok_p (T:TX w K mg J):FnOk P w K mg base (CX1 P w) 12 J.f_p J.d_p ["text"] (ni_ J.C_a J.C_c K):=by
 refine T.F_p.fn.okX sc_p fun _ _ _ _ H _ Q E hr h=>?_;obtain ⟨a,t,rfl,ht,hl,k⟩:=h;refine ⟨_,(ab_ (aw_ 1 sc_p.nd (aO_ T.M_f (ok_f T) hr.m rfl T.G_f T.b_Q .nil ao_ (aa_ (aC_ T.F_ao (ok_ao T) hr.m aH_ (aa_ (pv 0) ac_)) (aa_ (aA_ aD_ rfl T.b_len PySem.boot_len (aa_ (pv 0) ac_)) ac_))))
  (ab_ (aw_ 2 sc_p.nd (aO_ T.M_a (ok_a T) hr.m rfl T.G_a T.b_s .nil ao_ (aa_ aq_ (aa_ (aE_ ac_) (aa_ (aE_ ac_) (aa_ aj_ (aa_ aj_ ac_)))))))
  (ab_ (aw_ 3 sc_p.nd (aE_ (aa_ (aO_ T.M_g (ok_g T) hr.m rfl T.G_g T.b_y .nil ao_ (aa_ aq_ (aa_ (pv 2) (aa_ aj_ ac_)))) (aa_ (aO_ T.M_g (ok_g T) hr.m rfl T.G_g T.b_y .nil ao_ (aa_ aq_ (aa_ (pv 2) (aa_ aj_ ac_)))) ac_))))
  (ab_ (bD_ iL_ (dm_ (pv 3) (fun _=>rfl)) (ae_ (aB_ (aC_ T.F_aj (ok_aj T) hr.m aH_ (aa_ (pv 1) (aa_ (pv 3) (aa_ (gY_ pla slp tlp g3_ (pv 3)) ac_)))))))
  (ab_ (aw_ 4 sc_p.nd (aQ_ aJ_ (ah_ (pv 2) rfl) aj_ (fun _ _=>rfl)))
  (ab_ (aB_ (aC_ T.F_ac (ok_ac T) hr.m aH_ (aa_ (pv 4) ac_)))
  (ae_ (am_ (pv 4))))))))),?_⟩
 refine cp_ ?_;simp! [gK_,bz_];rw [hG_] at k;refine ⟨t,ht,hl,?_⟩;cases qt:allTokens true t with
 | error e=>rw [qt] at k;exact k
 | ok l =>
 rw [qt] at k;intro v H1 s1 ⟨b,as,ev,hb,hto⟩;subst ev;refine ⟨bs t,.inl (s1.seq ht),?_⟩;rw [b2_];have gts:=c6_ _ _ _ _ hl qt;have ltk:=hx_ _ _ _ _ qt;have las:as.length=l.length:=Paired.length hto;have run : ∃ R n,Run (fk_ t.length l) R n/\(match R with
   | .error e=>ExF J.C_c E H (e.kind:Int) (e.place:Int)
   | .ok wt=>∃ x tr e,wt = .mk (Vaunid.txt "whole") [] 0 e [tr]/\Rep x tr/\h6_ tr<=40/\(cB_ tr).length<=10000/\(if 300<(cB_ tr).length then ExF J.C_c E H 9 (((cB_ tr).getD 300 0:Nat):Int) else ∀ v H',Same H H'->bF_ J.C_a x v H'->Q v H')):=by
  have wr:=jZ_ t.length l (fun k hk=>(gts k hk).1) (fun k hk=>(gts k hk).2);dsimp only at k;cases qc:bC_ t.length 40 l with
  | error e =>
   rw [qc] at wr k;obtain ⟨n,hn⟩:=wr;exact ⟨_,n,hn,k⟩
  | ok v =>
  obtain ⟨x,pl,r⟩:=v;rw [qc] at wr k;cases r with
  | cons k0 r =>
   obtain ⟨n,hn⟩:=wr;exact ⟨_,n,hn,k⟩
  | nil =>
  obtain ⟨tr,n,e,w1,w2,w3,w4,w5⟩:=wr;refine ⟨_,n,w5,x,tr,e,rfl,w1,w3,by rw [w2];omega,?_⟩;rw [w2];dsimp only at k;by_cases h3:300<pl.length
  ·rw [if_pos h3] at k ⊢
   exact k
  rw [if_neg h3] at k ⊢;exact k
 obtain ⟨R,n0,hrun,hR⟩:=run;intro row dxr hrow0 hdxr hner;have sA:=aL_ (o1:=HO.own row) (o2:=HO.ins J.C_f dxr []) hrow0 hdxr;refine ⟨row,dxr,b,as,l,t.length,ad_,sA _ _ hb,by omega,Paired.mapP hto fun _ _ z=>z.same sA,fun la H2 hla sx2 hr2=>⟨rfl,cp_ ?_⟩⟩;simp! [bz_];refine ⟨zero_le _,fun wl hwl=>⟨zero_le _,fun pl hpl=>?_⟩⟩;have s12:Same H1 H2:=sx2.base sA (fun x hx=>by rw [mem_singleton.mp hx];exact hrow0);have hla1:H1 la=none:=none_of sA hla;have s02:=s1.trans s12;have s3:Same H2 (upd H2 wl (.lst [])):=Same.upd hwl;have e3:upd H2 wl (.lst []) wl=some (.lst []):=ad_;generalize upd H2 wl (.lst [])=H3 at s3 e3 hpl ⊢;have s4:Same H3 (upd H3 pl (.lst [])):=Same.upd hpl;have e4:upd H3 pl (.lst []) pl=some (.lst []):=ad_;generalize upd H3 pl (.lst [])=H4 at s4 e4 ⊢;refine bs_ rfl fun wh dxw H5 hwh s5 e5=>cp_ ?_;simp! [bz_];refine bs_ rfl fun st0 dx0 H6 hst0 s6 e6=>?_;refine bs_ rfl fun st1 dx1 H7 hst1 s7 e7=>⟨by decide,fun todo htd=>?_⟩;have s8:Same H7 (upd H7 todo (.lst [.ref st0,.ref st1])):=Same.upd htd;have e8:upd H7 todo (.lst [.ref st0,.ref st1]) todo=some (.lst [.ref st0,.ref st1]):=ad_;generalize upd H7 todo (.lst [.ref st0,.ref st1])=H8 at s8 e8 ⊢;have hr2':=hr2;obtain ⟨dxr2,asr,ir,r1,r2,r3⟩:=hr2';have s28:Same H2 H8:=s3.trans (s4.trans (s5.trans (s6.trans (s7.trans s8))));have s58:Same H5 H8:=s6.trans (s7.trans s8);have nd:(row::todo::la::([wh,wl,pl]++[st1,st0])).Nodup:=by
  have x1:row≠la:=a7_ r1 r2 (by intro z;cases z);have y2 : ∀ x,H2 x=none->row≠x/\la≠x:=fun x hx=>⟨af_ r1 hx,af_ r2 hx⟩;have x2:=y2 wl hwl;have x3:=y2 pl (none_of s3 hpl);have x4:=y2 wh (none_of (s3.trans s4) hwh);have x5:=y2 st0 (none_of (s3.trans (s4.trans s5)) hst0);have x6:=y2 st1 (none_of (s3.trans (s4.trans (s5.trans s6))) hst1);have x7:=y2 todo (none_of (s3.trans (s4.trans (s5.trans (s6.trans s7)))) htd);have z1:wl≠pl:=af_ e3 hpl;have z2:wl≠wh:=af_ (s4 _ _ e3) hwh;have z3:pl≠wh:=af_ e4 hwh;have z4:wl≠st0:=af_ (s5 _ _ (s4 _ _ e3)) hst0;have z5:pl≠st0:=af_ (s5 _ _ e4) hst0;have z6:wh≠st0:=af_ e5 hst0;have z7:wl≠st1:=af_ (s6 _ _ (s5 _ _ (s4 _ _ e3))) hst1;have z8:pl≠st1:=af_ (s6 _ _ (s5 _ _ e4)) hst1;have z9:wh≠st1:=af_ (s6 _ _ e5) hst1;have z10:st0≠st1:=af_ e6 hst1;have z11:wl≠todo:=af_ (s7 _ _ (s6 _ _ (s5 _ _ (s4 _ _ e3)))) htd;have z12:pl≠todo:=af_ (s7 _ _ (s6 _ _ (s5 _ _ e4))) htd;have z13:wh≠todo:=af_ (s7 _ _ (s6 _ _ e5)) htd;have z14:st0≠todo:=af_ (s7 _ _ e6) htd;have z15:st1≠todo:=af_ e7 htd;simp [x1,x2,x3,x4,x5,x6,x7,z1,z2,z3,z4,z5,z6,z7,z8,z9,z10,z11,z12,z13,z14,z15,Ne.symm z1,Ne.symm z2,Ne.symm z3,Ne.symm z4,Ne.symm z5,Ne.symm z6,Ne.symm z7,Ne.symm z8,Ne.symm z9,Ne.symm z10,Ne.symm z11,Ne.symm z12,Ne.symm z13,Ne.symm z14,Ne.symm z15,Ne.symm x7.1,Ne.symm x7.2]
 have at0:AtM J.C_e J.C_d J.C_f J.C_a J.C_g H H8 row la todo wh (fk_ t.length l):=by
  refine ⟨s02.trans s28,hr2.same s28,bj_.sent (fun k hk=>(gts k hk).1) _,?_,.inl ⟨by simp [fk_],[st1,st0],[wh,wl,pl],.bot (e:=0) (dx:=dxw) (wl:=wl) (pl:=pl) (as:=[]) (F:=[]) ⟨?_,?_,?_,.nil,.cons ⟨dx1,?_⟩ (.cons ⟨dx0,?_⟩ .nil)⟩,e8,nd,?_⟩⟩
  ·exact ⟨by show 0+0+1<=5;decide,.inr rfl,rfl,zero_le _,trivial⟩
  ·show H8 wh=some (.ins J.C_a dxw (a4_ (S (Vaunid.txt "whole")) wl pl 0 0))
   rw [<- aF_];exact s58 _ _ e5
  ·exact s58 _ _ (s5 _ _ (s4 _ _ e3))
  ·exact s58 _ _ (s5 _ _ e4)
  ·exact s8 _ _ e7
  ·exact s8 _ _ (s7 _ _ e6)
  have q1:=none_of s1 hrow0;have q2:=none_of s02 hwl;have q3:=none_of (s02.trans s3) hpl;have q4:=none_of (s02.trans (s3.trans s4)) hwh;have q5:=none_of (s02.trans (s3.trans (s4.trans (s5.trans (s6.trans s7))))) htd;intro x hx;simp only [mem_cons,not_mem_nil,or_false] at hx;rcases hx with rfl | rfl | rfl | rfl | rfl <;> assumption
 obtain ⟨Pv,hPv⟩ : ∃ Pv:Nat->L2.St->Hp->Prop,Pv=fun m σ H'=>σ=[some (.ref a),some (.ref row),some (.ref wh),some (.ref todo),none]/\∃ s,AtM J.C_e J.C_d J.C_f J.C_a J.C_g H H' row la todo wh s/\Run s R m:=⟨_,rfl⟩;refine cp_ (b5_ Pv n0 (by rw [hPv];exact ⟨rfl,_,at0,hrun⟩) fun m σ H' hp=>?_);rw [hPv] at hp;obtain ⟨rfl,s,hat,hrn⟩:=hp;simp! [tRet];rcases hat.frames with ⟨hne,ss,own,hstk,htd',hnd,hfr⟩ | ⟨hnil,htd',wt,F,hres,htree⟩
 ·obtain ⟨fs,l',res⟩:=s
  cases fs with
  | nil=>exact absurd rfl hne
  | cons pf fs =>
  obtain ⟨n,ss1,ss2,zu,dxn,wln,pln,as',Fn,en,hf,hbel,ess,eown⟩:=hstk.top;have hss : ∃ st ss',ss=st::ss':=by
   have q:=hf.steps.length;rw [length_append,length_singleton] at q;cases ss1 with
   | nil=>simp at q
   | cons st ss1=>exact ⟨st,ss1++ss2,ess⟩
  obtain ⟨st,ss',rfl⟩:=hss;have htd2:H' todo=some (.lst (ss'.reverse.map V.ref++[.ref st])):=by
   rw [htd',reverse_cons,map_append];rfl
  refine ⟨true,.inl ⟨_,SqL.of htd2,by simp⟩,?_⟩;rw [if_pos rfl];refine ⟨_,fun _ _ z=>z,?_⟩;simp! [tBM0,rPop];refine ⟨.inl ⟨rfl,_,SqL.of htd2⟩,_,htd2,V.ref st,by simp,?_⟩;rw [dropLast_concat];have su:ai_ [todo] H' (upd H' todo (.lst (ss'.reverse.map V.ref))):=ai_.upd (mem_singleton.mpr rfl);have nt : ∀ x∈[todo],NT H' x:=fun x hx=>by rw [mem_singleton.mp hx];exact .lst htd2
  have hnd2:=hnd;simp only [nodup_cons,mem_cons,not_or] at hnd2;have hst : ∃ r,b8_ ⟨pf::fs,l',res⟩=some r/\(match r with
    | .error e=>R = .error e
    | .ok s'=>∃ m',m=m'+1/\Run s' R m'):=by
   cases hrn with
   | bad h=>exact ⟨_,h,rfl⟩
   | go h h2=>exact ⟨_,h,_,rfl,h2⟩
  obtain ⟨r,hr1,hr2⟩:=hst;refine ⟨row,la,todo,wh,st,H,⟨pf::fs,l',res⟩,ss',own,r,su.base hat.same (fun x hx=>by rw [mem_singleton.mp hx];exact hfr _ (by simp)),hat.rowAt.keep su nt (nin hnd2.1.1) (nin (Ne.symm hnd2.2.1.1)),hat.goods,hat.lv,hstk.keep (Kp.of su fun x hx=>nin fun z=>hnd2.2.1.2 (by rw [<- z];exact hx)),ad_,hnd,hfr,hr1,?_⟩;cases r with
  | error e =>
   have e1:R = .error e:=hr2;rw [e1] at hR;exact ExF.mono hR (su.base hat.same (fun x hx=>by rw [mem_singleton.mp hx];exact hfr _ (by simp)))
  | ok s' =>
  obtain ⟨m',e1,h2⟩:=hr2;intro H'' at'';refine ⟨m',by omega,?_⟩;rw [hPv];exact ⟨rfl,s',at'',h2⟩
 refine ⟨false,.inl ⟨_,SqL.of htd',rfl⟩,?_⟩;rw [if_neg (by simp)];obtain ⟨fs,l',res⟩:=s;have hnil:fs=[]:=hnil;have hres:res=[wt]:=hres;subst hnil hres;have e1:R = .ok wt:=by
  cases hrn with
  | done=>rfl
  | bad h=>cases h
  | go h h2=>cases h
 rw [e1] at hR;have hwb:GR wt:=kA_ hrun ⟨allc ⟨by left,all0,all0⟩ all0,bj_.sent (fun k hk=>(gts k hk).1) _,all0⟩ wt e1;obtain ⟨x,tr,e,rfl,hrep,hdeep,hbl,hfin⟩:=hR;have hwx:GT x:=by
  cases hwb with
  | mk _ h=>exact mb_ hrep (h _ (mem_cons_self ..))
 cases htree with
 | @mk _ dxn wl2 pl2 f ws b2 e2 as2 ps2 G t1 t2 t3 t4 =>
 cases t4 with
 | @cons ac tc F1 G1 as3 ts3 c1 c2 =>
 cases c2;simp! [tSeq,tFld,iw_,t1];have hlow:=k1_ (bc_ 1 tr) 0 (by omega) (fun p hp=>by have:=hm_ 1 tr p hp;omega);rw [de_,sub_zero,zero_add,ev_] at hlow;refine ⟨T.cl_a,T.n_aA,_,rfl,_,rfl,_,SqL.of t3,_,rfl,ac,rfl,tr,_,c1,by rw [ev_];exact hbl,?_⟩;rw [hlow];by_cases h3:300<(cB_ tr).length
 ·rw [if_pos h3] at hfin ⊢
  exact ExF.mono hfin hat.same
 rw [if_neg h3] at hfin ⊢;intro H9 s9;exact hfin _ H9 (hat.same.trans s9) ⟨ac,tr,_,rfl,hrep,c1.same s9,by rw [ev_];omega,hdeep,hwx⟩
def PcAt (Cn:Addr) (H:Hp) (v:V):Pc Term->Prop
 | .inl w=>v = .str (S w)
 | .inr t=>∃ (a:Addr) (tr:Tr) (F:List Addr),v = .ref a/\Rep t tr/\TreeAt Cn H a tr F
def CtAt (Cn:Addr) (H H':Hp) (it:Addr) (c:SK×Pc Term):Prop:=∃ v,H' it=some (.tup [.str (ofString c.1.w),v])/\PcAt Cn H v c.2
theorem CtAt.keep {Cn:Addr}{H H1 H2:Hp}{xs:List Addr} (sx:ai_ xs H1 H2) (nt : ∀ x∈xs,∃ l,H1 x=some (.lst l)) {it:Addr}{c:SK×Pc Term} (h:CtAt Cn H H1 it c):CtAt Cn H H2 it c:=by
 obtain ⟨v,e,t⟩:=h;refine ⟨v,sx _ _ (fun m=>?_) e,t⟩;obtain ⟨l,q⟩:=nt _ m;rw [q] at e;cases e
def cF_ (Cn:Addr):Sp:=fun vs H Q _=>∃ (a:Addr) (x:Term) (tr:Tr) (F:List Addr) (H0:Hp),vs=[.ref a]/\Same H0 H/\Rep x tr/\TreeAt Cn H0 a tr F/\∀ (p:Addr) (its:List Addr) (H':Hp),H p=none->Same H H'->H' p=some (.lst (its.map V.ref))->Paired (CtAt Cn H0 H') its (aP_ x)->Q (.ref p) H'
theorem ma_ {xs:List Term}{ts:List Tr} (h:Reps xs ts) {i:Nat}{x:Term} (e:xs[i]? = some x) : ∃ t,ts[i]? = some t/\Rep x t :=
 Reps.rec (motive_1:=fun _ _ _=>True) (motive_2:=fun xs ts _=>∀ (i:Nat) (x:Term),xs[i]? = some x->∃ t,ts[i]? = some t/\Rep x t) (fun _ _=>trivial) (fun i x h=>by simp at h) (fun h1 _ _ ih i x h=>by
  cases i with
  | zero=>cases h;exact ⟨_,rfl,h1⟩
  | succ i=>exact ih i x h) h i x e
theorem Reps.length {xs:List Term}{ts:List Tr} (h:Reps xs ts):xs.length=ts.length :=
 Reps.rec (motive_1:=fun _ _ _=>True) (motive_2:=fun xs ts _=>xs.length=ts.length) (fun _ _=>trivial) rfl (fun _ _ _ ih=>congrArg (· + 1) ih) h
theorem j5_ {Cn:Addr}{H:Hp}{as:List Addr}{ts:List Tr}{F:List Addr} (h:TreesAt Cn H as ts F) {i:Nat}{t:Tr} (e:ts[i]? = some t) : ∃ a G,as[i]? = some a/\TreeAt Cn H a t G :=
 TreesAt.rec (motive_1:=fun _ _ _ _=>True) (motive_2:=fun as ts _ _=>∀ (i:Nat) (t:Tr),ts[i]? = some t->∃ a G,as[i]? = some a/\TreeAt Cn H a t G) (fun _ _ _ _ _=>trivial) (fun i a h=>by simp at h) (fun h1 _ _ ih i a h=>by
  cases i with
  | zero=>cases h;exact ⟨_,_,rfl,h1⟩
  | succ i=>exact ih i a h) h i t e
theorem e2_ {A:Type}{l:List A}{i:Nat}{x:A}{r:List A} (h:l.drop i=x::r):l[i]? = some x/\l.drop (i+1)=r:=by
 constructor
 ·have:=List.getElem?_drop (xs:=l) (i:=i) (j:=0)
  rw [h] at this;exact this.symm
 rw [<- drop_drop,h];rfl
theorem hg_ {l:List (List Nat)}{i:Nat}{x:List Nat} (h:l[i]? = some x):((l.map S).map V.str)[i]? = some (.str (S x)):=by
 rw [getElem?_map,getElem?_map,h];rfl
theorem bJ_ {t u:TS}{D:Ends}{σ:L2.St}{H:Hp} (h:t { D with nx:=u D } σ H):tSeq t u D σ H:=h
theorem once {G A:Hp->Prop}{R:Prop} (u:(∀ H,A H->G H)->R) (t : ∀ H,A H->G H):R:=u t
theorem cL_ {A B:Type}{R:A->B->Prop}{l:List A}{m:List B} (h:Paired R l m):Paired R l.reverse m.reverse:=by
 induction h with
 | nil=>exact .nil
 | cons r t ih =>
 rw [reverse_cons,reverse_cons];exact aM_ ih r
theorem ok_u (T:TX w K mg J):FnOk P w K mg base CX0 1 J.f_u J.d_u ["node"] (cF_ J.C_a):=by
 refine T.F_u.fn.ok sc_u fun _ _ _ _ H _ Q E hr h=>?_;obtain ⟨a,x,tr,F,H0,rfl,s0,hrep,htr,k⟩:=h;obtain ⟨ad,md,sq,tu⟩:=T.t_b;refine ⟨_,(ab_ (aw_ 1 sc_u.nd (aE_ ac_))
  (ab_ (aw_ 2 sc_u.nd aj_)
  (ab_ (dZ_ PassesOwn.never rfl (pB_ (kO_ (pe_r T.g_b) (ah_ (pv 0) rfl) (dn_ ac_) ⟨rfl,rfl,rfl,rfl⟩)) (pg_q 3 sc_u.nd) (ae_ (aG_ (ak_ bm_ (pv 3) (pe_r T.g_ab) rfl) (ae_ (aB_ (bL_ pla sla tla ax_ (pv 1) (aa_ (dn_ (aa_ (pv 3) (aa_ (aQ_ aJ_ (ah_ (pv 0) rfl) (a9_ iM_ (aA_ aD_ rfl T.b_len PySem.boot_len (aa_ (pv 1) ac_)) (pv 2)) (fun _ _=>rfl)) ac_))) ac_)))) (ab_ (aB_ (bL_ pla sla tla ax_ (pv 1) (aa_ (dn_ (aa_ (pv 3) (aa_ (aQ_ aJ_ (ah_ (pv 0) rfl) (pv 2) (fun _ _=>rfl)) ac_))) ac_)))
  (ae_ (nt_ (i:=2) sc_u.nd rfl (Or.inl rfl) aj_ ny_))))))
  (ae_ (am_ (pv 1)))))),?_⟩
 simp! [tSeq];refine ⟨zero_le _,fun fd hfd=>?_⟩;have s1:Same H (upd H fd (.lst [])):=Same.upd hfd;have e1:upd H fd (.lst []) fd=some (.lst []):=ad_;generalize upd H fd (.lst [])=H1 at s1 e1 ⊢;cases hrep with
 | @mk _ b e ps hps =>
 cases htr with
 | @mk _ dxn wl pl _ _ _ _ as _ G t1 t2 t3 t4 =>
 have s01:=s0.trans s1;have t1':=s01 _ _ t1;refine a5_ ?_;simp! [tSeq,kc_,tFld,t1'];refine ⟨_,md,T.cl_a,T.n_ax,_,rfl,zero_le _,fun p0 hp0=>?_⟩;have s2:Same H1 (upd H1 p0 (.tup [])):=Same.upd hp0;have e2:upd H1 p0 (.tup []) p0=some (.tup []):=ad_;generalize upd H1 p0 (.tup [])=H2 at s2 e2 ⊢;have e12:=s2 _ _ e1;have kinds : ∃ kt,(ch_ (bn_ ad) (S (bb_ x))).getD (.ref p0) = .ref kt/\∀ H',ai_ [fd] H2 H'->SqT K H' kt ((skX x).map fun k=>V.str (ofString k.w)):=by
  unfold skX;cases hf:fmX x with
  | none =>
   refine ⟨p0,?_,fun H' sx=>SqT.of (sx _ _ (nin (a7_ e2 e12 (by intro z;cases z))) e2)⟩;cases x with
   | leaf l =>
    have:=fA_ ad (Vaunid.txt (bv_ l));rw [hS_] at this;show (ch_ (bn_ ad) (S (Vaunid.txt (bv_ l)))).getD (.ref p0)=_;cases q:ch_ (bn_ ad) (S (Vaunid.txt (bv_ l))) with
    | none=>rfl
    | some v=>rw [q] at this;cases this
   | _=>cases hf
  | some f =>
  refine ⟨ad f,?_,fun H' _=>?_⟩
  ·rw [dx_ hf,<- aF_,hh_]
   rfl
  have:=sq f H';rw [<- n4_,map_map,map_map] at this;exact this
 obtain ⟨kt,ekt,hkt⟩:=kinds;refine ⟨_,rfl,kt,ekt,⟨_,hkt _ fun _ _ _ q=>q⟩,?_⟩;obtain ⟨Pv,hPv⟩ : ∃ Pv:Nat->L2.St->Hp->Prop,Pv=fun i σ H3=>∃ (its:List Addr) (dl:List (SK×Pc Term)) (wi pi:Nat) (z:Option V),σ=[some (.ref a),some (.ref fd),some (.int (wi:Int)),z]/\ai_ [fd] H2 H3/\H3 fd=some (.lst (its.map V.ref))/\its.length=i/\i=wi+pi/\Paired (CtAt J.C_a H0 H3) its dl /\
  aP_ x=dl++d9_ ((skX x).drop i) ((az_ x).drop wi) ((aV_ x).drop pi)/\Fits ((skX x).drop i) ((az_ x).drop wi) ((aV_ x).drop pi):=⟨_,rfl⟩
 refine oP_ (xs:=(skX x).map fun k=>V.str (ofString k.w)) Pv (by rw [hPv];exact ⟨[],[],0,0,none,rfl,fun _ _ _ q=>q,e12,rfl,rfl,.nil,e3_ x,oR_ x⟩) (fun i σ H3 _ q=>?_) (fun i v σ H3 hx q=>?_) fun σ H3 q=>?_
 ·rw [hPv] at q
  obtain ⟨its,dl,wi,pi,z,rfl,sx3,hfd3,_⟩:=q;exact hkt _ sx3
 ·rw [hPv] at q
  obtain ⟨its,dl,wi,pi,z,rfl,sx3,hfd3,hil,hwp,pd,hc,ft⟩:=q;rw [getElem?_map] at hx;cases qk:(skX x)[i]? with
  | none=>rw [qk] at hx;cases hx
  | some kk =>
  rw [qk] at hx;cases hx;obtain ⟨hlt,ek⟩:=List.getElem?_eq_some_iff.mp qk;have hd:(skX x).drop i=kk::(skX x).drop (i+1):=by rw [drop_eq_getElem_cons hlt,ek]
  rw [hd] at hc ft;have nfd : ∀ {b:Addr}{o:HO},H0 b=some o->H3 b=some o:=fun {b o} q=>sx3 _ _ (nin (af_ q (none_of s0 hfd))) (s2 _ _ (s01 _ _ q));have t1'':=nfd t1;have t2'':=nfd t2;have t3'':=nfd t3;have hfl:its.length<=1000:=by
   have:(skX x).length<=5:=by
    unfold skX;cases fmX x with
    | none=>exact zero_le _
    | some f=>cases f <;> decide
   omega
  have hsl:(its.map V.ref).length<sizeLine:=by rw [length_map];exact Nat.lt_of_le_of_lt hfl (by decide)
  have fin : ∀ (v:V) (pc:Pc Term) (wi' pi':Nat),PcAt J.C_a H0 v pc->aP_ x=dl++(kk,pc)::d9_ ((skX x).drop (i+1)) ((az_ x).drop wi') ((aV_ x).drop pi')->Fits ((skX x).drop (i+1)) ((az_ x).drop wi') ((aV_ x).drop pi')->i+1=wi'+pi'->∀ q,H3 q=none ->
    ∃ zx,upd H3 q (.tup [.str (ofString kk.w),v]) fd=some (.lst zx)/\zx.length<sizeLine/\Pv (i+1) [some (.ref a),some (.ref fd),some (.int (wi':Int)),some (.str (ofString kk.w))] (upd (upd H3 q (.tup [.str (ofString kk.w),v])) fd (.lst (zx++[.ref q]))):=by
   intro v pc wi' pi' hv hc' ft' hw' q hq;have s4:Same H3 (upd H3 q (.tup [.str (ofString kk.w),v])):=Same.upd hq;have e4:upd H3 q (.tup [.str (ofString kk.w),v]) q=some (.tup [.str (ofString kk.w),v]):=ad_;generalize upd H3 q (.tup [.str (ofString kk.w),v])=H4 at s4 e4 ⊢;have hfd4:=s4 _ _ hfd3;have sx5:ai_ [fd] H4 (upd H4 fd (.lst (its.map V.ref++[.ref q]))):=ai_.upd (mem_singleton.mpr rfl);have nt5 : ∀ x∈[fd],∃ l,H4 x=some (.lst l):=fun x hx=>by rw [mem_singleton.mp hx];exact ⟨_,hfd4⟩
   refine ⟨_,hfd4,hsl,?_⟩;rw [hPv];refine ⟨its++[q],dl++[(kk,pc)],wi',pi',_,rfl,sx3.trans ((ai_.of s4).trans sx5),?_,?_,hw',aM_ (Paired.mapP pd fun _ _ z=>(z.keep (ai_.of (xs:=[]) s4) (by simp)).keep sx5 nt5) (CtAt.keep sx5 nt5 ⟨v,e4,hv⟩),?_,ft'⟩
   ·rw [ad_,map_append]
    rfl
   ·rw [length_append,hil]
    rfl
   rw [hc',append_assoc];rfl
  simp! [tSeq,dS_,tBM,aY_,tFld,t1''];refine ⟨_,.inr (T.t_ab H3),rfl,rfl,?_⟩;cases kk with
  | p bb =>
   generalize hD:(aV_ x).drop pi=D at ft hc;cases ft with
   | @part _ _ _ t ts ft =>
   obtain ⟨hg,hg2⟩:=e2_ hD;obtain ⟨tt,htt,hrt⟩:=ma_ hps hg;obtain ⟨ac,Gc,hac,hct⟩:=j5_ t4 htt;have f1:=fin (.ref ac) (.inr t) wi (pi+1) ⟨ac,tt,Gc,rfl,hrt,hct⟩ (by rw [hc,hg2];rfl) (by rw [hg2];exact ft) (by omega);have e5:inV (V.str (ofString (SK.p bb).w)) [V.str (ofString "part"),V.str (ofString "body")]=true:=by
    rw [aF_,ba_,in_S,decide_eq_true (by cases bb <;> left)]
   rw [e5,if_pos rfl];refine ⟨.inl ⟨rfl,_,SqL.of hfd3⟩,T.cl_a,T.n_aA,_,rfl,_,.inl (SqL.of hfd3),_,rfl,_,SqL.of t3'',.ref ac,?_,by decide,f1⟩;rw [length_map,hil,show ((i:Nat):Int) - (wi:Int)=(pi:Int) by omega];exact bo_ (by rw [getElem?_map,hac];rfl)
  | n =>
   generalize hD:(az_ x).drop wi=D at ft hc;cases ft with
   | @name _ wd ws _ ft =>
   obtain ⟨hg,hg2⟩:=e2_ hD;have f1:=fin (.str (S wd)) (.inl wd) (wi+1) pi rfl (by rw [hc,hg2];rfl) (by rw [hg2];exact ft) (by omega);have e5:inV (V.str (ofString SK.n.w)) [V.str (ofString "part"),V.str (ofString "body")]=false:=by
    rw [aF_,ba_,in_S,decide_eq_false (by left)]
   rw [e5,if_neg (by simp)];refine ⟨.inl ⟨rfl,_,SqL.of hfd3⟩,T.cl_a,T.n_aw,_,rfl,_,rfl,_,SqL.of t2'',.str (S wd),bo_ (hg_ hg),by decide,?_⟩;rw [show ((wi:Int)+1)=((wi+1:Nat):Int) by omega];exact f1
  | pw =>
  generalize hD:(az_ x).drop wi=D at ft hc;cases ft with
  | @pow _ wd ws _ ft =>
  obtain ⟨hg,hg2⟩:=e2_ hD;have f1:=fin (.str (S wd)) (.inl wd) (wi+1) pi rfl (by rw [hc,hg2];rfl) (by rw [hg2];exact ft) (by omega);have e5:inV (V.str (ofString SK.pw.w)) [V.str (ofString "part"),V.str (ofString "body")]=false:=by
   rw [aF_,ba_,in_S,decide_eq_false (by left)]
  rw [e5,if_neg (by simp)];refine ⟨.inl ⟨rfl,_,SqL.of hfd3⟩,T.cl_a,T.n_aw,_,rfl,_,rfl,_,SqL.of t2'',.str (S wd),bo_ (hg_ hg),by decide,?_⟩;rw [show ((wi:Int)+1)=((wi+1:Nat):Int) by omega];exact f1
 rw [hPv] at q;obtain ⟨its,dl,wi,pi,z,rfl,sx3,hfd3,hil,hwp,pd,hc,ft⟩:=q;rw [length_map,drop_length] at hc;simp only [d9_,append_nil] at hc;simp! [tSeq];exact k fd its H3 hfd (sx3.base (s1.trans s2) fun x hx=>by rw [mem_singleton.mp hx];exact hfd) hfd3 (by rw [hc];exact pd)
def l2_ (Cn:Addr):Sp:=fun vs H Q _=>∃ (a:Addr) (x:Term) (tr:Tr) (F:List Addr) (H0:Hp),vs=[.ref a]/\Same H0 H/\Rep x tr/\TreeAt Cn H0 a tr F/\∀ (p:Addr) (us:List V) (H':Hp),H p=none->Same H H'->H' p=some (.lst us)->Paired (PcAt Cn H0) us (pcsX x)->Q (.ref p) H'
theorem gH_:[V.str "name",V.str "number"]=(([Vaunid.txt "name",Vaunid.txt "number"]).map S).map V.str:=by left
theorem mp_ (f:Fm) (c:List (Pc Term)):(c.foldl bi_ (pcs0 f)).length<=2+2 * c.length:=by
 have : ∀ (l zx:List (Pc Term)),(l.foldl bi_ zx).length<=zx.length+2 * l.length:=by
  intro l
  induction l with
  | nil=>intro zx;simp
  | cons y r ih =>
  intro zx;have h:=ih (bi_ zx y);have h2:(bi_ zx y).length<=zx.length+2:=by
   unfold bi_;split <;> simp
  rw [foldl_cons,length_cons];omega
 refine Nat.le_trans (this c _) ?_;have:(pcs0 (A:=Term) f).length<=2:=by
  unfold pcs0;split <;> simp
 omega
theorem ok_I (T:TX w K mg J):FnOk P w K mg base CX0 2 J.f_I J.d_I ["node"] (l2_ J.C_a):=by
 refine T.F_I.fn.ok sc_I fun _ _ _ _ H _ Q E hr h=>?_;obtain ⟨a,x,tr,F,H0,rfl,s0,hrep,htr,k⟩:=h;refine ⟨_,(ab_ (aG_ (ak_ bm_ (ah_ (pv 0) rfl) (pe_r T.g_at) rfl) (ae_ (am_ (aE_ (aa_ (aQ_ aJ_ (ah_ (pv 0) rfl) aj_ (fun _ _=>rfl)) ac_)))) ap_)
  (ab_ (aG_ (ak_ bm_ (ah_ (pv 0) rfl) (pe_r T.g_ar) rfl) (ae_ (am_ (aE_ (aa_ (ah_ (pv 0) rfl) ac_)))) ap_)
  (ab_ (aw_ 1 sc_I.nd (aE_ (aa_ aq_ ac_)))
  (ab_ (aG_ (ak_ jl_ (ah_ (pv 0) rfl) aq_ (as_ _)) (ae_ (aB_ (bL_ pla sla tla ax_ (pv 1) (aa_ (ah_ (pv 0) rfl) ac_)))) ap_)
  (ab_ (dZ_ PassesOwn.never rfl (hI_ (aC_ T.F_u (ok_u T) hr.m ao_ (aa_ (pv 0) ac_))) (pg_q 2 sc_I.nd) (ab_ (aG_ (ak_ g1_ (aA_ aD_ rfl T.b_len PySem.boot_len (aa_ (pv 1) ac_)) aj_ (as_ _)) (ae_ (aB_ (bL_ pla sla tla ax_ (pv 1) (aa_ aq_ ac_)))) ap_)
  (ae_ (aB_ (bL_ pla sla tla ax_ (pv 1) (aa_ (aQ_ bx_ (pv 2) aj_ (fun _ _=>rfl)) ac_))))))
  (ab_ (aB_ (bL_ pla sla tla ax_ (pv 1) (aa_ aq_ ac_)))
  (ae_ (am_ (pv 1))))))))),?_⟩
 have hrep':=hrep;have htr':=htr;cases hrep with
 | @mk _ b e ps hps =>
 cases htr with
 | @mk _ dxn wl pl _ _ _ _ as _ G t1 t2 t3 t4 =>
 have t1':=s0 _ _ t1;have t2':=s0 _ _ t2;refine bJ_ ?_;simp! [tFld,t1'];refine ⟨T.cl_a,T.n_ax,_,rfl,_,.inr (T.t_at H),rfl,rfl,?_⟩;rw [gH_,in_S];cases hf:fmX x with
 | none =>
  cases x with
  | leaf l =>
   have k' : ∀ (wd:List Nat),wd=shownLeaf l->∀ p,H p=none->Q (.ref p) (upd H p (.lst [.str (S wd)])):=fun wd e p hp=>k p _ _ hp (Same.upd hp) ad_ (.cons (by rw [e];rfl) .nil);have plain : ¬ bb_ (.leaf l)∈[Vaunid.txt "name",Vaunid.txt "number"]->bb_ (.leaf l)∈[Vaunid.txt "true",Vaunid.txt "false",Vaunid.txt "nil"]/\bb_ (.leaf l)=shownLeaf l:=by
    intro hn;cases l with
    | name y=>exact absurd (show Vaunid.txt "name"∈_ by simp) hn
    | num v=>exact absurd (show Vaunid.txt "number"∈_ by simp) hn
    | truth b=>cases b <;> exact ⟨by simp [bb_,bv_],rfl⟩
    | nil=>exact ⟨by simp [bb_,bv_],rfl⟩
   by_cases hsp:bb_ (.leaf l)∈[Vaunid.txt "name",Vaunid.txt "number"]
   ·rw [decide_eq_true hsp,if_pos rfl]
    have hw : ∃ wd,az_ (.leaf l)=[wd]/\wd=shownLeaf l:=by
     cases l with
     | name y=>exact ⟨y,rfl,rfl⟩
     | num v=>exact ⟨_,rfl,rfl⟩
     | truth b=>cases b <;> exact absurd hsp (by left)
     | nil=>exact absurd hsp (by left)
    obtain ⟨wd,hw1,hw2⟩:=hw;rw [hw1] at t2';exact ⟨T.cl_a,T.n_aw,_,rfl,_,rfl,_,SqL.of t2',.str (S wd),rfl,by decide,k' wd hw2⟩
   obtain ⟨p1,p2⟩:=plain hsp;rw [decide_eq_false hsp,if_neg (by simp)];refine bJ_ ?_;simp! [tFld,t1'];refine ⟨T.cl_a,T.n_ax,_,rfl,_,.inr (T.t_ar H),rfl,rfl,?_⟩;rw [dH_,in_S,decide_eq_true p1,if_pos rfl];exact ⟨T.cl_a,T.n_ax,_,rfl,by decide,k' _ p2⟩
  | _=>cases hf
 | some f =>
 have ef:=dx_ hf;have hno : ∀ f:Fm,¬ Vaunid.txt f.word∈[Vaunid.txt "name",Vaunid.txt "number"]/\¬ Vaunid.txt f.word∈[Vaunid.txt "true",Vaunid.txt "false",Vaunid.txt "nil"]/\(Vaunid.txt f.word=Vaunid.txt "apply"↔f = .app):=by
  intro f;cases f <;> left
 rw [ef,decide_eq_false (hno f).1,if_neg (by simp)];refine bJ_ ?_;simp! [tFld,t1'];refine ⟨T.cl_a,T.n_ax,_,rfl,_,.inr (T.t_ar H),rfl,rfl,?_⟩;rw [ef,dH_,in_S,decide_eq_false (hno f).2.1,if_neg (by simp)];refine bJ_ ?_;simp! [tRet];refine ⟨by decide,fun p hp=>?_⟩;have s1:Same H (upd H p (.lst [.str (ofString "(")])):=Same.upd hp;have e1:upd H p (.lst [.str (ofString "(")]) p=some (.lst [.str (ofString "(")]):=ad_;generalize upd H p (.lst [.str (ofString "(")])=H1 at s1 e1 ⊢;have t11:=s1 _ _ t1';rw [ef] at t11;have epc:pcsX x=((aP_ x).map (·.2)).foldl bi_ (pcs0 f)++[.inl [41]]:=by
  unfold pcsX;rw [hf]
 refine bI_ (fun σ' H2=>σ'=[some (.ref a),some (.ref p),none]/\∃ us0:List V,ai_ [p] H H2/\H2 p=some (.lst us0)/\Paired (PcAt J.C_a H0) us0 (pcs0 f)) (fun X hX=>?_) (fun σ' H2 hh=>?_)
 ·simp! [tFld,t11,tBM,aY_]
  refine ⟨T.cl_a,T.n_ax,_,rfl,rfl,?_⟩;by_cases happ:f = .app
  ·rw [if_neg (by subst happ;decide)]
   exact hX _ _ ⟨rfl,_,ai_.of s1,e1,by subst happ;exact .cons (by rw [aF_];rfl) .nil⟩
  rw [if_pos (by simp only [V.str.injEq,S_eq,Bool.not_eq_true',decide_eq_false_iff_not];exact fun z=>happ ((hno f).2.2.mp z))];refine ⟨.inl ⟨rfl,_,SqL.of e1⟩,T.cl_a,T.n_ax,_,rfl,_,e1,by decide,?_⟩;refine hX _ _ ⟨rfl,_,?_,ad_,?_⟩
  ·exact (ai_.of s1).trans (ai_.upd (mem_singleton.mpr rfl))
  unfold pcs0;rw [if_neg happ];exact .cons (by rw [aF_];rfl) (.cons rfl .nil)
 clear s1 e1 t11;clear H1;obtain ⟨rfl,us0,sx1,e1,pc0⟩:=hh
 rename Hp=>H1
 refine bJ_ ?_;have sH:Same H H1:=sx1.base (Same.refl _) fun y hy=>by rw [mem_singleton.mp hy];exact hp
 refine a5_ ?_;simp! [cF_];refine ⟨x,_,_,H0,s0.trans sH,hrep',htr',fun c its H2 hc s2 ec pits=>?_⟩;have ncp:c≠p:=fun z=>by rw [z,e1] at hc;cases hc
 have e2:=s2 _ _ e1;refine ⟨⟨_,SqL.of ec⟩,?_⟩;obtain ⟨Pv,hPv⟩ : ∃ Pv:Nat->L2.St->Hp->Prop,Pv=fun i σ H3=>∃ (us:List V) (z:Option V),σ=[some (.ref a),some (.ref p),z]/\ai_ [p] H2 H3/\H3 p=some (.lst us)/\Paired (PcAt J.C_a H0) us ((((aP_ x).take i).map (·.2)).foldl bi_ (pcs0 f)):=⟨_,rfl⟩;have lens : ∀ (i:Nat) (us:List V),Paired (PcAt J.C_a H0) us ((((aP_ x).take i).map (·.2)).foldl bi_ (pcs0 f))->us.length<=20:=fun i us q=>by
  have q1:=Paired.length q;have q2:=mp_ f (((aP_ x).take i).map (·.2));have q3:=gk_ x;rw [length_map,length_take] at q2;omega
 have small : ∀ n:Nat,n<=30->n<sizeLine:=fun n h=>Nat.lt_of_le_of_lt h (by decide);refine fz_ (its.map V.ref) Pv (by rw [hPv];exact ⟨us0,none,rfl,fun _ _ _ q=>q,e2,pc0⟩) (fun i σ H3 _ q=>?_) (fun i v σ H3 hx q=>?_) fun σ H3 q=>?_
 ·rw [hPv] at q
  obtain ⟨us,z,rfl,sx3,hp3,pd⟩:=q;exact SqL.of (sx3 _ _ (nin ncp) ec)
 ·rw [hPv] at q
  obtain ⟨us,z,rfl,sx3,hp3,pd⟩:=q;rw [getElem?_map] at hx;cases qi:its[i]? with
  | none=>rw [qi] at hx;cases hx
  | some it =>
  rw [qi] at hx;cases hx;obtain ⟨⟨kk,pc⟩,hd,cv,hit,hpc⟩:=cM_ pits qi;have hit3:=sx3 _ _ (nin (a7_ hit e2 (by intro z;cases z))) hit;have hul:=lens i us pd;have hpl:=Paired.length pd;have enext:(((aP_ x).take (i+1)).map (·.2)).foldl bi_ (pcs0 f)=bi_ ((((aP_ x).take i).map (·.2)).foldl bi_ (pcs0 f)) pc:=by
   rw [take_succ,hd,Option.toList_some,map_append,List.foldl_append];rfl
  generalize (((aP_ x).take i).map (·.2)).foldl bi_ (pcs0 f)=accp at pd enext hpl;simp! [tSeq,dS_,tBM,aY_];refine ⟨_,.inl (SqL.of hp3),ite2 (fun h1=>?_) fun h1=>?_⟩
  ·refine ⟨(show tyV K "list" (.ref p) _ from .inl ⟨rfl,_,SqL.of hp3⟩),_,hp3,small _ (by omega),?_⟩
   have sx4:ai_ [p] H3 (upd H3 p (.lst (us++[V.str (ofString " ")]))):=ai_.upd (mem_singleton.mpr rfl);have e4:upd H3 p (.lst (us++[V.str (ofString " ")])) p=some (.lst (us++[V.str (ofString " ")])):=ad_;generalize upd H3 p (.lst (us++[V.str (ofString " ")]))=H4 at sx4 e4 ⊢;have hit4:=sx4 _ _ (nin (a7_ hit e2 (by intro z;cases z))) hit3;refine ⟨(show tyV K "list" (.ref p) _ from .inl ⟨rfl,_,SqL.of e4⟩),_,SqT.of hit4,cv,rfl,_,rfl,small _ (by rw [length_append];show us.length+1<=30;omega),?_⟩;rw [hPv];refine ⟨_,_,rfl,sx3.trans (ai_.upd (mem_singleton.mpr rfl)),ad_,?_⟩;rw [enext];unfold bi_;rw [if_pos (by omega)];exact aM_ (aM_ pd (by rw [aF_];rfl)) hpc
  refine ⟨(show tyV K "list" (.ref p) _ from .inl ⟨rfl,_,SqL.of hp3⟩),_,SqT.of hit3,cv,rfl,_,hp3,small _ (by omega),?_⟩;rw [hPv];refine ⟨_,_,rfl,sx3.trans (ai_.upd (mem_singleton.mpr rfl)),ad_,?_⟩;rw [enext];unfold bi_;rw [if_neg (by omega)];exact aM_ pd hpc
 rw [hPv] at q;obtain ⟨us,z,rfl,sx3,hp3,pd⟩:=q;have hul:=lens _ us pd;have hpl:its.length=(aP_ x).length:=Paired.length pits;rw [length_map,hpl,take_length] at pd;dsimp only;refine bJ_ ?_;simp! [tBM,aY_];refine ⟨(show tyV K "list" (.ref p) _ from .inl ⟨rfl,_,SqL.of hp3⟩),_,hp3,small _ (by omega),?_⟩;refine k p _ _ hp ?_ ad_ (by rw [epc];exact aM_ pd (by rw [aF_];rfl));exact (sx3.trans (ai_.upd (mem_singleton.mpr rfl))).base (sH.trans s2) fun y hy=>by rw [mem_singleton.mp hy];exact hp
def PcI {A:Type} (It:A->V->Hp->Prop) (H:Hp) (v:V):Pc A->Prop
 | .inl w=>v = .str (S w)
 | .inr a=>It a v H
structure Unf (P:Program) (w:World) (K:Frag) (mg:zM) (base:Heap) (H:Hp) (f:Addr) {A:Type} (It:A->V->Hp->Prop) (pcs:A->List (Pc A)):Prop where
 keep : ∀ a v H1 H2 xs,It a v H1->ai_ xs H1 H2->(∀ x∈xs,∃ l,H1 x=some (.lst l))->It a v H2
 ns : ∀ a v H1,It a v H1->Same H H1->∃ t,TyOf K H1 v t/\kitOne K t (.type "str")=some false
 fn : ∃ fd ps sp,FnOk P w K mg base CX0 10 f fd ps sp/\a8_ K fd ps []/\keepIn K (.ref f)=true /\
  ∀ a v H1 Q E,It a v H1->Same H H1->(∀ (p:Addr) (us:List V) (H2:Hp),H1 p=none->Same H1 H2->H2 p=some (.lst us)->Paired (PcI It H2) us (pcs a)->Q (.ref p) H2)->sp [v] H1 Q E
theorem PcI.keep {P:Program}{w:World}{K:Frag}{mg:zM}{base:Heap}{H:Hp}{f:Addr}{A:Type}{It:A->V->Hp->Prop}{pcs:A->List (Pc A)} (U:Unf P w K mg base H f It pcs) {H1 H2:Hp}{xs:List Addr} (sx:ai_ xs H1 H2) (nt : ∀ x∈xs,∃ l,H1 x=some (.lst l)) {v:V}{c:Pc A} (h:PcI It H1 v c):PcI It H2 v c:=by
 cases c with
 | inl w=>exact h
 | inr a=>exact U.keep a v H1 H2 xs h sx nt
def pn_ (P:Program) (w:World) (K:Frag) (mg:zM) (base:Heap):Sp:=fun vs H Q _=>∃ (v:V) (f:Addr) (A:Type) (It:A->V->Hp->Prop) (pcs:A->List (Pc A)) (tx:A->List Nat) (cost:A->Nat) (a0:A),vs=[v,.ref f]/\Unf P w K mg base H f It pcs/\It a0 v H /\
 (∀ a,tx a=pcsT tx (pcs a))/\(∀ a,1+pcsC cost (pcs a)<=cost a)/\cost a0<=1000000/\(tx a0).length<=16777216/\∀ H',Same H H'->Q (.str (S (tx a0))) H'
theorem cK_ {A:Type} (c:A->Nat) (l m:List (Pc A)):pcsC c (l++m)=pcsC c l+pcsC c m:=by
 unfold pcsC;rw [map_append,List.sum_append]
theorem f1_ {A:Type} (c:A->Nat) : ∀ l:List (Pc A),pcsC c l.reverse=pcsC c l
 | []=>rfl
 | x::r=>by
  rw [reverse_cons,cK_,f1_ c r];unfold pcsC;simp;omega
theorem iJ_ {A:Type} (c:A->List Nat) (l m:List (Pc A)):pcsT c (l++m)=pcsT c l++pcsT c m:=by
 unfold pcsT;rw [flatMap_append]
theorem f2_ {A:Type}{c:A->Nat} (h : ∀ a,1<=c a) : ∀ l:List (Pc A),l.length<=pcsC c l
 | []=>Nat.le_refl _
 | x::r=>by
  have ih:=f2_ h r;have hx:1<=pcC c x:=by
   cases x with
   | inl w=>exact Nat.le_refl _
   | inr a=>exact h a
  unfold pcsC at ih ⊢;rw [map_cons,sum_cons,length_cons];omega
theorem g9_ : ∀ l:List (List Nat),dP_ [] l=l.flatten
 | []=>rfl
 | [c]=>by
  show c=c++[];rw [append_nil]
 | c::d::r=>by
  have ih:=g9_ (d::r);show c++([]++dP_ [] (d::r))=_;rw [ih];rfl
theorem iu_ : ∀ l:List (List Nat),((l.map S).map (·.length)).sum=l.flatten.length
 | []=>rfl
 | c::r=>by
  rw [map_cons,map_cons,sum_cons,iu_ r,List.flatten_cons,length_append,aZ_]
theorem ok_H (T:TX w K mg J):FnOk P w K mg base CX0 11 J.f_H J.d_H ["whole","pieces_of"] (pn_ P w K mg base):=by
 refine T.F_H.fn.ok sc_H fun _ _ _ _ H _ Q E hr h=>?_;obtain ⟨v0,f,B,It,pcs,tx,cost,a0,rfl,U,hit,htx,hco,hc0,zr,k⟩:=h;obtain ⟨fdf,psf,spf,Ff,Bf,Kf,Hf⟩:=U.fn;refine ⟨_,(ab_ (aw_ 2 sc_H.nd (aE_ ac_))
  (ab_ (aw_ 3 sc_H.nd (aE_ (aa_ (pv 0) ac_)))
  (ab_ (bD_ PassesOwn.never (dm_ (pv 3) (fun _=>rfl)) (ab_ (aw_ 4 sc_H.nd (gY_ pla slp tlp g3_ (pv 3)))
  (ae_ (aG_ (cq_ (ml_ (pv 4) rfl T.b_isinstance rfl T.b_str)) (ae_ (aB_ (bL_ pla sla tla ax_ (pv 2) (aa_ (pv 4) ac_)))) (ae_ (dZ_ PassesOwn.never rfl (b9_ rfl T.b_reversed (aa_ (cJ_ (CX:=CX0) (k:=10) 1 hr.m ao_ (aa_ (pv 4) ac_)) ac_)) (pg_q 5 sc_H.nd) (ae_ (aB_ (bL_ pla sla tla ax_ (pv 3) (aa_ (pv 5) ac_))))))))))
  (ae_ (am_ (kM_ aq_ (pv 2))))))),?_⟩
 simp! [tSeq];refine ⟨zero_le _,fun sh hsh=>⟨by decide,fun td htd=>?_⟩⟩;have nst:sh≠td:=fun z=>by rw [<- z,ad_] at htd;cases htd
 have htd0:H td=none:=by rw [al_ (Ne.symm nst)] at htd;exact htd
 have hcp : ∀ a,1<=cost a:=fun a=>by have:=hco a;omega
 obtain ⟨Pv,hPv⟩ : ∃ Pv:Nat->L2.St->Hp->Prop,Pv=fun m σ H'=>Same H H'/\∃ (dn:List (List Nat)) (sk:List (Pc B)) (us:List V) (z1 z2:Option V),m=pcsC cost sk/\σ=[some v0,some (.ref f),some (.ref sh),some (.ref td),z1,z2]/\H' sh=some (.lst ((dn.map S).map V.str))/\H' td=some (.lst us) /\
  Paired (PcI It H') us sk/\tx a0=dn.flatten++pcsT tx sk.reverse/\dn.length+pcsC cost sk<=cost a0:=⟨_,rfl⟩
 refine b5_ Pv _ (by
  rw [hPv];refine ⟨?_,[],[.inr a0],[v0],none,none,rfl,rfl,?_,ad_,.cons ?_ .nil,?_,?_⟩
  ·exact (Same.upd hsh).trans (Same.upd htd)
  ·rw [al_ nst]
   exact ad_
  ·exact U.keep a0 v0 H _ [] hit (ai_.of ((Same.upd hsh).trans (Same.upd htd))) (by simp)
  ·show tx a0=[]++(tx a0++[])
   rw [append_nil];rfl
  show 0+(cost a0+0)<=_;omega) fun m σ H' hp=>?_
 rw [hPv] at hp;obtain ⟨sm,dn,sk,us,z1,z2,rfl,rfl,hs,ht,ps,htxt,hcost⟩:=hp;simp! [tSeq];have hun:us.length=sk.length:=Paired.length ps;by_cases hsk:us=[]
 ·subst hsk
  cases ps;refine ⟨false,.inl ⟨_,SqL.of ht,rfl⟩,?_⟩;rw [if_neg (by simp)];rw [show ([]:List (Pc B)).reverse=[] from rfl,show pcsT tx []=[] from rfl,append_nil] at htxt;refine ⟨dn.map S,.inl (SqL.of hs),?_,?_⟩
  ·rw [iu_,<- htxt,length_map]
   show (tx a0).length+dn.length * 0<=16777216;omega
  have e1:Txt.join (ofString "") (dn.map S)=S (tx a0):=by
   refine ci_ ?_;rw [k7_,fQ_,map_map,htxt];have e2:dn.map (tl ∘ S)=dn:=by
    have:(tl ∘ S)=id:=by funext l;rfl
    rw [this,List.map_id]
   rw [e2];exact g9_ _
  rw [e1];exact k H' sm
 refine ⟨true,.inl ⟨_,SqL.of ht,by cases us with | nil=>exact absurd rfl hsk | cons _ _=>rfl⟩,?_⟩;rw [if_pos rfl];refine ⟨_,fun _ _ z=>z,?_⟩;obtain ⟨us',u,sk',c,rfl,rfl,ps',hu⟩:=c2_ ps hsk;rw [reverse_append,iJ_] at htxt;rw [cK_] at hcost;have hl2:sk'.length<=pcsC cost sk':=f2_ hcp sk';have hl3:us'.length=sk'.length:=Paired.length ps';simp! [tSeq,tBM0,rPop,tBM,aY_,na_];refine ⟨.inl ⟨rfl,_,SqL.of ht⟩,_,ht,u,by simp,?_⟩;rw [dropLast_concat];have sx1:ai_ [td] H' (upd H' td (.lst us')):=ai_.upd (mem_singleton.mpr rfl);have e1:upd H' td (.lst us') td=some (.lst us'):=ad_;have hlt : ∀ x∈[td],∃ l,H' x=some (.lst l):=fun x hx=>by rw [mem_singleton.mp hx];exact ⟨_,ht⟩
 generalize upd H' td (.lst us')=H1 at sx1 e1 ⊢;have sm1:Same H H1:=sx1.base sm fun x hx=>by rw [mem_singleton.mp hx];exact htd0
 have hs1:=sx1 _ _ (nin nst) hs;have ps1:Paired (PcI It H1) us' sk':=Paired.mapP ps' fun _ _ q=>q.keep U sx1 hlt;have hu1:PcI It H1 u c:=hu.keep U sx1 hlt;cases c with
 | inl wd =>
  have hu2:u = .str (S wd):=hu1;subst hu2;refine ⟨_,.str _,true,rfl,?_⟩;rw [if_pos rfl];have ec:pcsC cost [(Sum.inl wd:Pc B)]=1:=rfl;rw [ec] at hcost;refine ⟨.inl ⟨rfl,_,SqL.of hs1⟩,_,hs1,?_,pcsC cost sk',?_,?_⟩
  ·rw [length_map,length_map]
   exact Nat.lt_of_le_of_lt (show _<=1000000 by omega) (by decide)
  ·rw [cK_,ec]
   omega
  rw [hPv];have sx2:ai_ [sh] H1 (upd H1 sh (.lst ((dn.map S).map V.str++[V.str (S wd)]))):=ai_.upd (mem_singleton.mpr rfl);have hlt2 : ∀ x∈[sh],∃ l,H1 x=some (.lst l):=fun x hx=>by rw [mem_singleton.mp hx];exact ⟨_,hs1⟩
  refine ⟨sx2.base sm1 (fun x hx=>by rw [mem_singleton.mp hx];exact hsh),dn++[wd],sk',us',_,_,rfl,rfl,?_,sx2 _ _ (nin (Ne.symm nst)) e1,Paired.mapP ps1 fun _ _ q=>q.keep U sx2 hlt2,?_,?_⟩
  ·rw [ad_,map_append,map_append]
   rfl
  ·rw [htxt,List.flatten_append,append_assoc]
   show _++(pcsT tx [Sum.inl wd]++_)=_;rw [show pcsT tx [(Sum.inl wd:Pc B)]=wd++[] from rfl];simp
  rw [length_append];show dn.length+1+_<=_;omega
 | inr b =>
 obtain ⟨ty,hty,hk⟩:=U.ns b u H1 hu1 sm1;refine ⟨ty,hty,false,hk,?_⟩;rw [if_neg (by simp)];refine a5_ ?_;simp! [tSeq,eC_,iRev];refine ⟨fdf,psf,spf,Ff,Bf,Kf,Hf b u H1 _ _ hu1 sm1 fun p qs H2 hp s2 e2 pq=>⟨p,rfl,qs,SqL.of e2,?_⟩⟩;have hlc:=hco b;have hlq:qs.length=(pcs b).length:=Paired.length pq;have hlp:=f2_ hcp (pcs b);have ec:pcsC cost [Sum.inr b]=cost b:=by show cost b+0=_;omega
 rw [ec] at hcost;have e12:=s2 _ _ e1;have hs2:=s2 _ _ hs1;have ntp:p≠td:=fun z=>by rw [z,e1] at hp;cases hp
 refine dv_ qs (fun i σ H3=>(∃ z2,σ=[some v0,some (.ref f),some (.ref sh),some (.ref td),some u,z2])/\ai_ [td] H2 H3/\H3 td=some (.lst (us'++qs.reverse.take i)))
  ⟨⟨_,rfl⟩,fun _ _ _ q=>q,by rw [List.take_zero,append_nil];exact e12⟩ (fun i σ H3 _ q=>SqL.of (q.2.1 _ _ (nin ntp) e2)) (fun i x σ H3 hx q=>?_) fun σ H3 q=>?_
 ·obtain ⟨⟨z3,rfl⟩,sx3,h3⟩:=q
  have hil:=(List.getElem?_eq_some_iff.mp hx).1;rw [length_reverse] at hil;simp! [tSeq,dS_,tBM,aY_];refine ⟨.inl ⟨rfl,_,SqL.of h3⟩,_,h3,?_,sx3.trans (ai_.upd (mem_singleton.mpr rfl)),?_⟩
  ·rw [length_append,length_take,length_reverse]
   exact Nat.lt_of_le_of_lt (show _<=2000000 by omega) (by decide)
  rw [take_succ,hx,append_assoc];rfl
 obtain ⟨⟨z3,rfl⟩,sx3,h3⟩:=q;rw [<- length_reverse (as:=qs),take_length] at h3;have nt3 : ∀ x∈[td],∃ l,H2 x=some (.lst l):=fun x hx=>by rw [mem_singleton.mp hx];exact ⟨_,e12⟩
 refine ⟨pcsC cost (sk'++(pcs b).reverse),?_,?_⟩
 ·rw [cK_,cK_,f1_,ec]
  omega
 rw [hPv];refine ⟨sx3.base (sm1.trans s2) (fun x hx=>by rw [mem_singleton.mp hx];exact htd0),dn,_,us'++qs.reverse,_,_,rfl,rfl,sx3 _ _ (nin nst) hs2,h3,?_,?_,?_⟩
 ·refine dK_ (Paired.mapP ps1 fun _ _ q=>((q.keep U (ai_.of (xs:=[]) s2) (by simp)).keep U sx3 nt3)) ?_
  exact Paired.mapP (cL_ pq) fun _ _ q=>q.keep U sx3 nt3
 ·rw [htxt,reverse_append,reverse_reverse,iJ_]
  show _++(pcsT tx [Sum.inr b]++_)=_;rw [show pcsT tx [Sum.inr b]=tx b++[] from rfl,append_nil,htx b]
 rw [cK_,f1_];omega
def FIt (Cn:Addr) (K:Frag) (H H':Hp) (it:Addr) (i:FI):Prop:=∃ (n:Addr) (tr:Tr) (F:List Addr) (bt:Addr),H' it=some (.tup [.ref n,.ref bt])/\Rep i.1 tr/\TreeAt Cn H n tr F/\SqT K H' bt ((i.2.map S).map V.str)/\i.2.length+2 * szX i.1<=600
theorem FIt.keep {Cn:Addr}{K:Frag}{H H1 H2:Hp}{xs:List Addr} (sx:ai_ xs H1 H2) (nt : ∀ x∈xs,Mut H1 x) {it:Addr}{i:FI} (h:FIt Cn K H H1 it i):FIt Cn K H H2 it i:=by
 obtain ⟨n,tr,F,bt,e,r,t,b,l⟩:=h;refine ⟨n,tr,F,bt,sx _ _ (fun m=>?_) e,r,t,SqT.keepX b sx nt,l⟩;rcases nt _ m with ⟨q,z⟩ | ⟨q,z⟩ <;> (rw [z] at e;cases e)
def nh_ (Cn:Addr):Sp:=fun vs H Q _=>∃ (a:Addr) (x:Term) (tr:Tr) (F:List Addr),vs=[.ref a]/\Rep x tr/\TreeAt Cn H a tr F/\szX x<=300/\∀ (p:Addr) (H':Hp),Same H H'->H' p=some (.lst (((Vaunid.free x).map S).map V.str))->Q (.ref p) H'
theorem flat_strs : ∀ l:List (List Nat),((l.map S).map V.str).all fe_=true
 | []=>rfl
 | _::r=>flat_strs r
theorem lG_ (x:Term) (bb:Bool) (wd:List Nat) : ¬ (SK.p bb,(Sum.inl wd:Pc Term))∈aP_ x:=fun h=>by
 rw [e3_] at h;rcases gd_ _ _ _ h with ⟨b,t,e,_⟩ | ⟨k,w,e,n⟩
 ·cases e
 cases e;exact n _ rfl
theorem ok_z (T:TX w K mg J):FnOk P w K mg base CX0 2 J.f_z J.d_z ["term"] (nh_ J.C_a):=by
 refine T.F_z.fn.ok sc_z fun _ _ _ _ H _ Q E hr h=>?_;obtain ⟨a,x,tr,F,rfl,hrep,htr,hsz,k⟩:=h;refine ⟨_,(ab_ (aw_ 1 sc_z.nd iH_)
  (ab_ (aw_ 2 sc_z.nd (aE_ (aa_ (dn_ (aa_ (pv 0) (aa_ (dn_ ac_) ac_))) ac_)))
  (ab_ (bD_ PassesOwn.never (dm_ (pv 2) (fun _=>rfl)) (ab_ (aw_ 3 sc_z.nd (gY_ pla slp tlp g3_ (pv 2)))
  (ab_ (aw_ 4 sc_z.nd (aQ_ bx_ (pv 3) aj_ (fun _ _=>rfl)))
  (ab_ (aw_ 5 sc_z.nd (aQ_ bx_ (pv 3) aj_ (fun _ _=>rfl)))
  (ab_ (aG_ (PW.pt (pw_and (ak_ br_ (ah_ (pv 4) rfl) aq_ (as_ _)) (pw_and1 (ak_ cr_ (aQ_ aJ_ (ah_ (pv 4) rfl) aj_ (fun _ _=>rfl)) (pv 5) rfl)))) (ae_ (kD_ hr.u1 (pv 1) (aQ_ aJ_ (ah_ (pv 4) rfl) aj_ (fun _ _=>rfl)) jk_ rfl)) ap_)
  (ae_ (dZ_ PassesOwn.never rfl (b9_ rfl T.b_reversed (aa_ (aC_ T.F_u (ok_u T) hr.m ao_ (aa_ (pv 4) ac_)) ac_)) (pg_q 6 sc_z.nd) (ae_ (aG_ (ak_ br_ (aQ_ bx_ (pv 6) aj_ (fun _ _=>rfl)) aq_ (as_ _)) (ae_ (aB_ (bL_ pla sla tla ax_ (pv 2) (aa_ (dn_ (aa_ (aQ_ bx_ (pv 6) aj_ (fun _ _=>rfl)) (aa_ (pv 5) ac_))) ac_)))) (ae_ (aG_ (ak_ br_ (aQ_ bx_ (pv 6) aj_ (fun _ _=>rfl)) aq_ (as_ _)) (ae_ (aB_ (bL_ pla sla tla ax_ (pv 2) (aa_ (dn_ (aa_ (aQ_ bx_ (pv 6) aj_ (fun _ _=>rfl)) (aa_ (a9_ oo_ (pv 5) (a3_ gm_ rfl T.b_tuple ifz_ (aa_ (ah_ (pv 4) rfl) ac_))) ac_))) ac_)))) ap_)))))))))))
  (ae_ (am_ (a3_ (jU_ rfl) rfl T.b_list jW_ (aa_ (pv 1) ac_))))))),?_⟩
 refine bJ_ ?_;simp! [kb_];intro fd hfd;refine bJ_ ?_;simp! [tRet];refine ⟨zero_le _,fun p0 hp0=>⟨by decide,fun it0 hit0=>⟨by decide,fun td htd=>?_⟩⟩⟩;have s1:Same H (upd H fd (.dK [])):=Same.upd hfd;have e1:upd H fd (.dK []) fd=some (.dK []):=ad_;generalize upd H fd (.dK [])=H1 at s1 e1 hp0 hit0 htd ⊢;have s2:Same H1 (upd H1 p0 (.tup [])):=Same.upd hp0;have e2:upd H1 p0 (.tup []) p0=some (.tup []):=ad_;generalize upd H1 p0 (.tup [])=H2 at s2 e2 hit0 htd ⊢;have s3:Same H2 (upd H2 it0 (.tup [.ref a,.ref p0])):=Same.upd hit0;have e3:upd H2 it0 (.tup [.ref a,.ref p0]) it0=some (.tup [.ref a,.ref p0]):=ad_;generalize upd H2 it0 (.tup [.ref a,.ref p0])=H3 at s3 e3 htd ⊢;have s4:Same H3 (upd H3 td (.lst [.ref it0])):=Same.upd htd;have e4:upd H3 td (.lst [.ref it0]) td=some (.lst [.ref it0]):=ad_;generalize upd H3 td (.lst [.ref it0])=H4 at s4 e4 ⊢;have s04:Same H H4:=s1.trans (s2.trans (s3.trans s4));have f4:H4 fd=some (.dK (dk [])):=s4 _ _ (s3 _ _ (s2 _ _ e1));have nft:fd≠td:=a7_ f4 e4 (by intro z;cases z);have htd0:H td=none:=none_of (s1.trans (s2.trans s3)) htd;obtain ⟨Pv,hPv⟩ : ∃ Pv:Nat->L2.St->Hp->Prop,Pv=fun m σ H'=>Same H H'/\∃ (got:List (List Nat)) (sk:List FI) (its:List Addr) (z1 z2 z3 z4:Option V),m=szF sk/\σ=[some (.ref a),some (.ref fd),some (.ref td),z1,z2,z3,z4]/\H' fd=some (.dK (dk got))/\H' td=some (.lst (its.map V.ref)) /\
  Paired (FIt J.C_a K H H') its sk/\b0_ [] (Vaunid.freeIn [] x)=b0_ got (h0_ sk.reverse)/\got.length+szF sk<=300:=⟨_,rfl⟩
 refine bJ_ (b5_ Pv _ (by
  rw [hPv];refine ⟨s04,[],[(x,[])],[it0],none,none,none,none,rfl,rfl,f4,e4,.cons ⟨a,tr,F,p0,s4 _ _ e3,hrep,htr,SqT.of (s4 _ _ (s3 _ _ e2)),by show 0+2 * szX x<=600;omega⟩ .nil,?_,by show 0+(szX x+0)<=300;omega⟩;show _=b0_ [] (Vaunid.freeIn [] x++[]);rw [append_nil]) fun m σ H' hp=>?_)
 rw [hPv] at hp;obtain ⟨sm,got,sk,its,z1,z2,z3,z4,rfl,rfl,hf,ht,ps,hfr,hco⟩:=hp;simp! [tRet];by_cases hsk:its=[]
 ·subst hsk
  cases ps;refine ⟨false,.inl ⟨_,SqL.of ht,rfl⟩,?_⟩;rw [if_neg (by simp)];rw [List.reverse_nil,show h0_ []=[] from rfl] at hfr;refine ⟨_,hf,fun l hl=>k l _ (sm.trans (Same.upd hl)) ?_⟩;have e5:Vaunid.free x=got:=by rw [ln_,hfr];rfl
  rw [ad_,e5];unfold dk;rw [map_map,map_map];rfl
 refine ⟨true,.inl ⟨_,SqL.of ht,by cases its with | nil=>exact absurd rfl hsk | cons _ _=>rfl⟩,?_⟩;rw [if_pos rfl];refine ⟨_,fun _ _ z=>z,?_⟩;obtain ⟨its',it,sk',⟨t,b⟩,rfl,rfl,ps',hit⟩:=c2_ ps hsk;rw [eD_] at hco;rw [reverse_append] at hfr;have hl2:=kf_ sk';have hl3:its'.length=sk'.length:=Paired.length ps';have ht':H' td=some (.lst (its'.map V.ref++[.ref it])):=by rw [ht,map_append];rfl
 refine bI_ (fun σ' H2=>σ'=[some (.ref a),some (.ref fd),some (.ref td),some (.ref it),z2,z3,z4]/\H2=upd H' td (.lst (its'.map V.ref))) (fun X hX=>?_) (fun σ' H2 hh=>?_)
 ·simp! [tBM0,rPop]
  refine ⟨.inl ⟨rfl,_,SqL.of ht⟩,_,ht',V.ref it,by simp,?_⟩;rw [dropLast_concat];exact hX _ _ ⟨rfl,rfl⟩
 obtain ⟨rfl,rfl⟩:=hh;obtain ⟨n,tn,Fn,bt,hitv,hrn,htn,hbt,hbl⟩:=hit;have sx5:ai_ [td] H' (upd H' td (.lst (its'.map V.ref))):=ai_.upd (mem_singleton.mpr rfl);have e5:upd H' td (.lst (its'.map V.ref)) td=some (.lst (its'.map V.ref)):=ad_;have mu5 : ∀ x∈[td],Mut H' x:=fun x hx=>by rw [mem_singleton.mp hx];exact .inl ⟨_,ht⟩
 generalize upd H' td (.lst (its'.map V.ref))=H5 at sx5 e5 ⊢;have sm5:Same H H5:=sx5.base sm fun x hx=>by rw [mem_singleton.mp hx];exact htd0
 have hit5:=sx5 _ _ (nin (a7_ hitv ht (by intro z;cases z))) hitv;have hbt5:SqT K H5 bt ((b.map S).map V.str):=SqT.keepX hbt sx5 mu5;have hf5:=sx5 _ _ (nin nft) hf;have ps5:Paired (FIt J.C_a K H H5) its' sk':=Paired.mapP ps' fun _ _ q=>q.keep sx5 mu5;refine bJ_ ?_;simp! [tRet];refine ⟨_,SqT.of hit5,.ref n,rfl,?_⟩;refine bJ_ ?_;simp! [tRet];refine ⟨_,SqT.of hit5,.ref bt,rfl,?_⟩;have hbl':b.length+2 * szX t<=600:=hbl;have hbt':SqT K H' bt ((b.map S).map V.str):=hbt;have hrn':=hrn;have htn':=htn;cases hrn with
 | @mk _ b0 e0 ps0 hps =>
 cases htn with
 | @mk _ dxn wl pl _ _ _ _ as _ G t1 t2 t3 t4 =>
 have t15:=sm5 _ _ t1;have t25:=sm5 _ _ t2;have hfr':b0_ [] (Vaunid.freeIn [] x)=b0_ got (Vaunid.freeIn b t++h0_ sk'.reverse):=hfr;have hco':got.length+(szF sk'+(szX t+0))<=300:=hco;have dec:(bb_ t=Vaunid.txt "name"/\∃ y,t = .leaf (.name y)/\¬ y∈b)\/(bb_ t=Vaunid.txt "name"/\∃ y,t = .leaf (.name y)/\y∈b)\/(¬ bb_ t=Vaunid.txt "name"/\∀ y,¬ t = .leaf (.name y)):=by
  cases q:fmX t with
  | none =>
   cases t with
   | leaf l =>
    cases l with
    | name y =>
     by_cases hy:y∈b
     ·exact .inr (.inl ⟨rfl,y,rfl,hy⟩)
     exact .inl ⟨rfl,y,rfl,hy⟩
    | num v=>exact .inr (.inr ⟨by show ¬ Vaunid.txt "number"=_;left,fun y z=>by cases z⟩)
    | truth c=>exact .inr (.inr ⟨by cases c <;> left,fun y z=>by cases z⟩)
    | nil=>exact .inr (.inr ⟨by left,fun y z=>by cases z⟩)
   | _=>cases q
  | some f =>
  refine .inr (.inr ⟨?_,fun y z=>?_⟩)
  ·rw [dx_ q]
   cases f <;> left
  rw [z] at q;cases q
 refine bI_ (fun σ' H6=>σ'=[some (.ref a),some (.ref fd),some (.ref td),some (.ref it),some (.ref n),some (.ref bt),z4]/\∃ got6:List (List Nat),ai_ [fd] H5 H6/\H6 fd=some (.dK (dk got6))/\got6.length<=got.length+1/\b0_ [] (Vaunid.freeIn [] x)=b0_ got6 (h0_ (fis b t)++h0_ sk'.reverse)) (fun X hX=>?_) (fun σ' H6 hh=>?_)
 ·simp! [tFld,t15,oa_]
  refine ⟨T.cl_a,T.n_ax,_,rfl,rfl,?_⟩;rcases dec with ⟨h1,y,h2,hy⟩ | ⟨h1,y,h2,hy⟩ | ⟨h1,h2⟩
  ·rw [if_pos (by rw [h1,aF_])]
   refine ⟨T.cl_a,T.n_aw,_,rfl,_,rfl,_,SqL.of t25,.str (S y),by rw [h2];rfl,_,.inr hbt5,rfl,flat_strs _,?_⟩;rw [in_S,decide_eq_false hy,if_pos (show (!false)=true from rfl)];refine ⟨T.cl_a,T.n_aw,_,rfl,_,rfl,_,SqL.of t25,.str (S y),by rw [h2];rfl,_,DPut.k (k:=Sum.inr (S y)) hf5 (by unfold dk;rw [length_map];exact Nat.lt_of_le_of_lt (show _<=300 by omega) (by decide)),?_⟩;rw [qa_];have sx6:ai_ [fd] H5 (upd H5 fd (.dK (dk (insO got y)))):=ai_.upd (mem_singleton.mpr rfl);have hf6:upd H5 fd (.dK (dk (insO got y))) fd=some (.dK (dk (insO got y))):=ad_;generalize upd H5 fd (.dK (dk (insO got y)))=H6 at sx6 hf6 ⊢;refine hX _ _ ⟨rfl,_,sx6,hf6,ld_ got y,?_⟩;rw [hfr',h2];have:Vaunid.freeIn b (.leaf (.name y))=[y]:=by
    unfold Vaunid.freeIn;rw [df_,decide_eq_false hy];rfl
   rw [this];rfl
  ·rw [if_pos (by rw [h1,aF_])]
   refine ⟨T.cl_a,T.n_aw,_,rfl,_,rfl,_,SqL.of t25,.str (S y),by rw [h2];rfl,_,.inr hbt5,rfl,flat_strs _,?_⟩;rw [in_S,decide_eq_true hy,if_neg (by simp)];refine hX _ _ ⟨rfl,_,fun _ _ _ q=>q,hf5,le_succ _,?_⟩;rw [hfr',h2];have:Vaunid.freeIn b (.leaf (.name y))=[]:=by
    unfold Vaunid.freeIn;rw [df_,decide_eq_true hy];rfl
   rw [this];rfl
  rw [if_neg (by rw [aF_];simp only [V.str.injEq,cl_];exact h1)];exact hX _ _ ⟨rfl,_,fun _ _ _ q=>q,hf5,le_succ _,by rw [hfr',h1_ t b h2]⟩
 obtain ⟨rfl,got6,sx6,hf6,hgl,hfr6⟩:=hh;have mu6 : ∀ x∈[fd],Mut H5 x:=fun x hx=>by rw [mem_singleton.mp hx];exact .inr ⟨_,hf5⟩
 have sm6:Same H H6:=sx6.base sm5 fun x hx=>by rw [mem_singleton.mp hx];exact hfd
 have e6:=sx6 _ _ (nin (Ne.symm nft)) e5;have ps6:Paired (FIt J.C_a K H H6) its' sk':=Paired.mapP ps5 fun _ _ q=>q.keep sx6 mu6;have hbt6:=SqT.keepX hbt5 sx6 mu6;refine a5_ ?_;simp! [cF_,iRev];refine ⟨t,_,_,H,sm6,hrn',htn',fun c cts H7 hc s7 ec pc=>⟨_,SqL.of ec,?_⟩⟩;have e7:=s7 _ _ e6;have hbt7:=SqT.keepX hbt6 (ai_.of (xs:=[]) s7) (by simp);have ps7:Paired (FIt J.C_a K H H7) its' sk':=Paired.mapP ps6 fun _ _ q=>q.keep (ai_.of (xs:=[]) s7) (by simp);have hf7:=s7 _ _ hf6;have sm7:=sm6.trans s7;have nct:c≠td:=fun z=>by rw [z,e6] at hc;cases hc
 have pcr:=cL_ pc;have hcl:cts.length=(aP_ t).length:=Paired.length pc;have hc5:=gk_ t;obtain ⟨Pw,hPw⟩ : ∃ Pw:Nat->L2.St->Hp->Prop,Pw=fun i σ H8=>(∃ z,σ=[some (.ref a),some (.ref fd),some (.ref td),some (.ref it),some (.ref n),some (.ref bt),z])/\ai_ [td] H7 H8/\∃ nw,H8 td=some (.lst ((its'++nw).map V.ref))/\nw.length<=i/\Paired (FIt J.C_a K H H8) nw (((aP_ t).reverse.take i).filterMap (fiOf b (az_ t))):=⟨_,rfl⟩;refine dv_ (cts.map V.ref) Pw (by rw [hPw];exact ⟨⟨_,rfl⟩,fun _ _ _ q=>q,[],by rw [append_nil];exact e7,Nat.le_refl _,.nil⟩) (fun i σ H8 _ q=>?_) (fun i v σ H8 hx q=>?_) fun σ H8 q=>?_
 ·rw [hPw] at q
  exact SqL.of (q.2.1 _ _ (nin nct) ec)
 ·rw [hPw] at q
  obtain ⟨⟨z,rfl⟩,sx8,nw,hnw,hnl,pnw⟩:=q;rw [<- map_reverse,getElem?_map] at hx;cases qi:cts.reverse[i]? with
  | none=>rw [qi] at hx;cases hx
  | some ct =>
  rw [qi] at hx;cases hx;have hil:=(List.getElem?_eq_some_iff.mp qi).1;rw [length_reverse] at hil;obtain ⟨⟨kk,pv⟩,hd,cv,hct,hpc⟩:=cM_ pcr qi;have hmem:(kk,pv)∈aP_ t:=by
   have:=mem_of_getElem? hd;rwa [List.mem_reverse] at this
  have mu8 : ∀ x∈[td],Mut H7 x:=fun x hx=>by rw [mem_singleton.mp hx];exact .inl ⟨_,e7⟩
  have hct8:=sx8 _ _ (nin (a7_ hct e7 (by intro z;cases z))) hct;have hbt8:=SqT.keepX hbt7 sx8 mu8;have enext:((aP_ t).reverse.take (i+1)).filterMap (fiOf b (az_ t))=((aP_ t).reverse.take i).filterMap (fiOf b (az_ t))++(match fiOf b (az_ t) (kk,pv) with | none=>[] | some f=>[f]):=by
   rw [take_succ,hd,List.filterMap_append,Option.toList_some];cases q:fiOf b (az_ t) (kk,pv) <;> simp [filterMap_cons,q]
  have hlt:((its'++nw).map V.ref).length<sizeLine:=by
   rw [length_map,length_append];exact Nat.lt_of_le_of_lt (show _<=1000 by omega) (by decide)
  have skip:fiOf b (az_ t) (kk,pv)=none->Pw (i+1) [some (.ref a),some (.ref fd),some (.ref td),some (.ref it),some (.ref n),some (.ref bt),some (.ref ct)] H8:=fun e=>by
   rw [hPw];refine ⟨⟨_,rfl⟩,sx8,nw,hnw,by omega,?_⟩;rw [enext,e,append_nil];exact pnw
  have fin : ∀ (t':Term) (b':List (List Nat)) (ac bt':Addr) (tr':Tr) (F':List Addr) (H9:Hp),fiOf b (az_ t) (kk,pv)=some (t',b')->Rep t' tr'->TreeAt J.C_a H ac tr' F'->Same H8 H9->SqT K H9 bt' ((b'.map S).map V.str)->b'.length+2 * szX t'<=600->∀ q,H9 q=none ->
    ∃ zx,upd H9 q (.tup [.ref ac,.ref bt']) td=some (.lst zx)/\zx.length<sizeLine/\Pw (i+1) [some (.ref a),some (.ref fd),some (.ref td),some (.ref it),some (.ref n),some (.ref bt),some (.ref ct)] (upd (upd H9 q (.tup [.ref ac,.ref bt'])) td (.lst (zx++[.ref q]))):=by
   intro t' b' ac bt' tr' F' H9 hfi hr' ht' s9 hb' hl' q hq;have s10:Same H9 (upd H9 q (.tup [.ref ac,.ref bt'])):=Same.upd hq;have e10:upd H9 q (.tup [.ref ac,.ref bt']) q=some (.tup [.ref ac,.ref bt']):=ad_;generalize upd H9 q (.tup [.ref ac,.ref bt'])=H10 at s10 e10 ⊢;have h10:=s10 _ _ (s9 _ _ hnw);have sx11:ai_ [td] H10 (upd H10 td (.lst ((its'++nw).map V.ref++[.ref q]))):=ai_.upd (mem_singleton.mpr rfl);have mu10 : ∀ x∈[td],Mut H10 x:=fun x hx=>by rw [mem_singleton.mp hx];exact .inl ⟨_,h10⟩
   refine ⟨_,h10,hlt,?_⟩;rw [hPw];refine ⟨⟨_,rfl⟩,sx8.trans ((ai_.of (s9.trans s10)).trans sx11),nw++[q],?_,by rw [length_append];show nw.length+1<=_;omega,?_⟩
   ·rw [ad_,<- append_assoc,map_append (l₁:=its'++nw)]
    rfl
   rw [enext,hfi];exact aM_ (Paired.mapP pnw fun _ _ z=>(z.keep (ai_.of (xs:=[]) (s9.trans s10)) (by simp)).keep sx11 mu10) (FIt.keep sx11 mu10 ⟨ac,tr',F',bt',e10,hr',ht',SqT.keepX hb' (ai_.of (xs:=[]) s10) (by simp),hl'⟩)
  simp! [dS_,nW_,tBM,aY_,tFld,pz_];refine ⟨_,SqT.of hct8,_,rfl,rfl,?_⟩;cases kk with
  | n =>
   rw [if_neg (by simp only [V.str.injEq];left)];refine ⟨_,SqT.of hct8,_,rfl,rfl,?_⟩;rw [if_neg (by simp only [V.str.injEq];left)];exact skip rfl
  | pw =>
   rw [if_neg (by simp only [V.str.injEq];left)];refine ⟨_,SqT.of hct8,_,rfl,rfl,?_⟩;rw [if_neg (by simp only [V.str.injEq];left)];exact skip rfl
  | p bb =>
  cases pv with
  | inl wd=>exact absurd hmem (lG_ t bb wd)
  | inr t' =>
  have hsz':=oW_ hmem;obtain ⟨ac,tr',F',hcv,hr',ht'⟩:=hpc;subst hcv;cases bb with
  | false =>
   have f1:=fin t' b ac bt tr' F' H8 rfl hr' ht' (Same.refl _) hbt8 (by omega);rw [if_pos (by rfl)];exact ⟨.inl ⟨rfl,_,SqL.of hnw⟩,_,SqT.of hct8,_,rfl,by decide,f1⟩
  | true =>
  have hw2:=gu_ (x:=t);rw [if_neg (by simp only [V.str.injEq];left)];refine ⟨_,SqT.of hct8,_,rfl,rfl,?_⟩;rw [if_pos (by rfl)];have nn:n≠td:=fun z=>by rw [z] at t1;rw [htd0] at t1;cases t1
  have nw':wl≠td:=fun z=>by rw [z] at t2;rw [htd0] at t2;cases t2
  have t18:=sx8 _ _ (nin nn) (sm7 _ _ t1);have t28:=sx8 _ _ (nin nw') (sm7 _ _ t2);refine ⟨.inl ⟨rfl,_,SqL.of hnw⟩,_,SqT.of hct8,_,rfl,_,_,_,t18,T.cl_a,T.n_aw,_,rfl,_,rfl,_,.inl ⟨SqL.of t28,fun l hl=>?_⟩⟩;have s9:Same H8 (upd H8 l (.tup (((az_ t).map S).map V.str))):=Same.upd hl;have e9:upd H8 l (.tup (((az_ t).map S).map V.str)) l=some (.tup (((az_ t).map S).map V.str)):=ad_;generalize upd H8 l (.tup (((az_ t).map S).map V.str))=H9 at s9 e9 ⊢;refine ⟨_,SqT.keepX hbt8 (ai_.of (xs:=[]) s9) (by simp),_,SqT.of e9,?_,fun p H10 s10 h10=>⟨by decide,?_⟩⟩
  ·simp only [length_map]
   exact Nat.le_trans (show _<=1000 by omega) (by decide)
  exact fin t' (b++az_ t) ac p tr' F' H10 rfl hr' ht' (s9.trans s10) (by rw [map_append,map_append];exact h10) (by rw [length_append];omega)
 rw [hPw] at q;obtain ⟨⟨z,rfl⟩,sx8,nw,hnw,hnl,pnw⟩:=q;have mu8 : ∀ x∈[td],Mut H7 x:=fun x hx=>by rw [mem_singleton.mp hx];exact .inl ⟨_,e7⟩
 rw [length_map,hcl,<- length_reverse (as:=aP_ t),take_length,List.filterMap_reverse] at pnw;have hsf:=nY_ t b;refine ⟨szF (sk'++(fis b t).reverse),?_,?_⟩
 ·rw [eD_,eD_,hA_]
  show _<szF sk'+(szX t+0);omega
 rw [hPv];refine ⟨sx8.base sm7 (fun x hx=>by rw [mem_singleton.mp hx];exact htd0),_,sk'++(fis b t).reverse,its'++nw,_,_,_,_,rfl,rfl,sx8 _ _ (nin nft) hf7,hnw,dK_ (Paired.mapP ps7 fun _ _ q=>q.keep sx8 mu8) pnw,?_,?_⟩
 ·rw [hfr6,reverse_append,reverse_reverse]
  unfold h0_;rw [flatMap_append]
 rw [eD_,hA_];omega
theorem jF_ (x:Term) : ∀ b:List (List Nat),(Vaunid.freeIn b x).length<=szX x:=by
 induction x with
 | leaf l =>
  intro b;cases l with
  | name z =>
   show (if _ then _ else _:List (List Nat)).length<=1;split <;> exact le_of_ble_eq_true rfl
  | _=>exact zero_le _
 | one o a ih=>exact fun b=>Nat.le_trans (ih b) (Nat.le_add_left ..)
 | fn x a ih=>exact fun b=>Nat.le_trans (ih _) (Nat.le_add_left ..)
 | rec_ f x a ih=>exact fun b=>Nat.le_trans (ih _) (Nat.le_add_left ..)
 | two o a c i j =>
  intro b;have:=i b;have:=j b;show (_++_:List _).length<=1+szX a+szX c;rw [length_append];omega
 | three o a c d i j k =>
  intro b;have:=i b;have:=j b;have:=k b;show (_++(_++_):List _).length<=1+szX a+szX c+szX d;rw [length_append,length_append];omega
 | let_ x a c i j =>
  intro b;have:=i b;have:=j (x::b);show (_++_:List _).length<=1+szX a+szX c;rw [length_append];omega
 | case l a y t c i j k =>
 intro b;have:=i b;have:=j b;have:=k (t::y::b);show (_++(_++_):List _).length<=1+szX l+szX a+szX c;rw [length_append,length_append];omega
theorem hd_ : ∀ (l g:List (List Nat)),(b0_ g l).length<=g.length+l.length/\∀ y∈b0_ g l,y∈g\/y∈l
 | [],g=>⟨Nat.le_refl _,fun y h => .inl h⟩
 | x::r,g=>by
  obtain ⟨h1,h2⟩:=hd_ r (insO g x);have h3:=ld_ g x;refine ⟨by show (b0_ (insO g x) r).length<=_;rw [length_cons];omega,fun y hy=>?_⟩;rcases h2 y hy with h | h
  ·unfold insO at h
   split at h
   ·exact .inl h
   rcases mem_append.mp h with h | h
   ·exact .inl h
   exact .inr (mem_cons.mpr (.inl (mem_singleton.mp h)))
  exact .inr (mem_cons_of_mem _ h)
theorem iZ_ (x:Term):(Vaunid.free x).length<=szX x:=by
 rw [ln_];have h:=(hd_ (Vaunid.freeIn [] x) []).1;have h2:=jF_ x [];rw [length_nil] at h;omega
theorem dE_ {t u:TS}{D:Ends}{σ:L2.St}{H:Hp} (h:t { D with nx:=u D } σ H):tSeq t u D σ H:=h
def DEnv (kv:List (Key×V)) (env:RE):Prop:=∀ x:List Nat,valV kv (Sum.inr (S x))=(env.find? fun p=>p.1 == x).map fun p=>V.str (S p.2)
theorem DEnv.nil:DEnv [] []:=fun _=>rfl
theorem DEnv.put {kv:List (Key×V)}{env:RE} (h:DEnv kv env) (x v:List Nat):DEnv (putK kv (Sum.inr (S x)) (V.str (S v))) ((x,v)::env):=fun z=>by
 rw [lV_,find?_cons];by_cases q:z=x
 ·subst q
  rw [if_pos rfl];simp
 rw [if_neg (by simp only [Sum.inr.injEq,cl_];exact q),h z];have:(x == z)=false:=by simpa using fun e=>q e.symm
 rw [this]
theorem me_ (kv:List (Key×V)) (k:Key) (v:V):(putK kv k v).length<=kv.length+1:=by
 unfold putK;split
 ·rw [length_map];omega
 rw [length_append];exact Nat.le_refl _
def unFs (k:Str) (c:V) (o d:Addr):List (Str×V):=[("kind",.str k),("content",c),("owner",.ref o),("renamed",.ref d)]
def frFs (aw:Addr) (i:Int):List (Str×V):=[("away",.ref aw),("tried",.int i)]
def wk:SK×Pc Term->Bool
 | (.p _,.inl _)=>false
 | (.n,.inr _)=>false
 | (.pw,.inr _)=>false
 | _=>true
theorem oV_ (x:Term) : ∀ c∈aP_ x,wk c=true:=fun c h=>by
 rw [e3_] at h;rcases gd_ _ _ _ h with ⟨b,t,rfl,_⟩ | ⟨k,w,rfl,n⟩
 ·rfl
 cases k with
 | p b=>exact absurd rfl (n b)
 | _=>rfl
def ItAt (Cn Cu:Addr) (H0 H:Hp) (n od id:Addr) (it:Addr) (c:SK×Pc Term):Prop:=∃ dx v,H it=some (.ins Cu dx (unFs (ofString c.1.w) v n (if c.1 = .p false then od else id)))/\PcAt Cn H0 v c.2/\wk c=true
def Chg (H:Hp) (x:Addr):Prop:=(∃ l,H x=some (.lst l))\/(∃ kv,H x=some (.dK kv))\/∃ C dx aw i,H x=some (.ins C dx (frFs aw i))
theorem o9_ {k:Str}{c:V}{o d aw:Addr}{i:Int}:unFs k c o d≠frFs aw i:=fun h=>by
 have:=congrArg (List.map Prod.fst) h;have q:([("kind":Str),"content","owner","renamed"]:List Str)=[("away":Str),"tried"]:=this;exact absurd q (by left)
theorem ItAt.keep {Cn Cu:Addr}{H0 H H':Hp}{n od id:Addr}{xs:List Addr} (sx:ai_ xs H H') (ch : ∀ x∈xs,Chg H x) {it:Addr}{c:SK×Pc Term} (h:ItAt Cn Cu H0 H n od id it c):ItAt Cn Cu H0 H' n od id it c:=by
 obtain ⟨dx,v,e,p⟩:=h;refine ⟨dx,v,sx _ _ (fun m=>?_) e,p⟩;rcases ch _ m with ⟨l,q⟩ | ⟨l,q⟩ | ⟨_,_,_,_,q⟩
 ·rw [q] at e;cases e
 ·rw [q] at e;cases e
 rw [q] at e;injection e with e;injection e with _ _ e;exact o9_ e.symm
structure RF where
 form:List Nat
 y:Term
 nw:List (List Nat)
 env:RE
 wi:RE
 ws:List (List Nat)
 ts:List Term
 rest:List (SK×Pc Term)
def RF.ok (f:RF) (new:List (List Nat)) (ts:List Term):Prop:=goF f.env f.rest f.wi new f.ws ts=(az_ f.y,aV_ f.y,f.nw)
def m5_ (tgt:Term):List RF->Term->List (List Nat)->Prop
 | [],y,_=>y=tgt
 | g::gs,y,nw=>g.ok nw (g.ts++[y])/\(gs≠[]->g.form=bb_ g.y)/\m5_ tgt gs g.y g.nw
structure RFAt (Cn Cu:Addr) (H0 H:Hp) (f:RF) (n:Addr) (next its:List Addr) (wl pl od id:Addr) (F:List Addr):Prop where
 node : ∃ dx b e,H n=some (.ins Cn dx (a4_ (S f.form) wl pl ((b:Nat):Int) ((e:Nat):Int)))
 words:H wl=some (.lst ((f.ws.map S).map V.str))
 parts : ∃ as trs,H pl=some (.lst ((as++next).map V.ref))/\TreesAt Cn H as trs F/\Reps f.ts trs
 items:Paired (ItAt Cn Cu H0 H n od id) its f.rest
theorem RFAt.keep {Cn Cu:Addr}{H0 H H':Hp}{f:RF}{n:Addr}{next its:List Addr}{wl pl od id:Addr}{F:List Addr} (h:RFAt Cn Cu H0 H f n next its wl pl od id F) {xs:List Addr} (sx:ai_ xs H H') (ch : ∀ x∈xs,Chg H x) (d : ∀ a∈n::wl::pl::F,a∉xs):RFAt Cn Cu H0 H' f n next its wl pl od id F:=by
 obtain ⟨⟨dx,b,e,h1⟩,h2,⟨as,trs,h3,h4,h5⟩,h6⟩:=h;exact ⟨⟨dx,b,e,sx _ _ (d n (by simp)) h1⟩,sx _ _ (d wl (by simp)) h2,⟨as,trs,sx _ _ (d pl (by simp)) h3,h4.keep fun a m o q=>sx _ _ (d a (by simp [m])) q,h5⟩,Paired.mapP h6 fun _ _ q=>q.keep sx ch⟩
inductive RStk (Cn Cu:Addr) (H0 H:Hp) (wh:Addr):List RF->List Addr->List Addr->List Addr->List (Addr×RE)->Prop
 | bot {f:RF}{next its:List Addr}{wl pl rd:Addr}{F:List Addr}:RFAt Cn Cu H0 H f wh next its wl pl rd rd F->(∀ c∈f.rest,c.1≠SK.n)->f.env=[]->f.wi=[]->RStk Cn Cu H0 H wh [f] next its (wh::wl::pl::F) [(rd,[])]
 | cons {f g:RF}{fs:List RF}{n:Addr}{next its zp own:List Addr}{wl pl od id:Addr}{F:List Addr}{ds:List (Addr×RE)}:RFAt Cn Cu H0 H f n next its wl pl od id F->(od,f.env)∈ds->RStk Cn Cu H0 H wh (g::fs) [n] zp own ds->RStk Cn Cu H0 H wh (f::g::fs) next (its++zp) ((n::wl::pl::F)++own) ((id,f.wi)::ds)
theorem RStk.keep {Cn Cu:Addr}{H0 H H':Hp}{wh:Addr}{xs:List Addr} (sx:ai_ xs H H') (ch : ∀ x∈xs,Chg H x) {fs:List RF}{next its own:List Addr}{ds:List (Addr×RE)} (h:RStk Cn Cu H0 H wh fs next its own ds) (d : ∀ a∈own,a∉xs):RStk Cn Cu H0 H' wh fs next its own ds:=by
 induction h with
 | bot h a b c=>exact .bot (h.keep sx ch d) a b c
 | cons h m t ih=>exact .cons (h.keep sx ch fun a q=>d a (mem_append_left _ q)) m (ih fun a q=>d a (mem_append_right _ q))
theorem RFAt.here {Cn Cu:Addr}{H0 H:Hp}{f:RF}{n:Addr}{next its:List Addr}{wl pl od id:Addr}{F:List Addr} (h:RFAt Cn Cu H0 H f n next its wl pl od id F) : ∀ a∈n::wl::pl::F,∃ o,H a=some o:=fun a m=>by
 obtain ⟨⟨dx,b,e,h1⟩,h2,⟨as,trs,h3,h4,h5⟩,h6⟩:=h;rcases mem_cons.mp m with q | m
 ·exact ⟨_,q ▸ h1⟩
 rcases mem_cons.mp m with q | m
 ·exact ⟨_,q ▸ h2⟩
 rcases mem_cons.mp m with q | m
 ·exact ⟨_,q ▸ h3⟩
 exact h4.here a m
theorem RStk.here {Cn Cu:Addr}{H0 H:Hp}{wh:Addr}{fs:List RF}{next its own:List Addr}{ds:List (Addr×RE)} (h:RStk Cn Cu H0 H wh fs next its own ds) : ∀ a∈own,∃ o,H a=some o:=by
 induction h with
 | bot h _ _ _=>exact h.here
 | cons h m t ih=>exact fun a m=>(mem_append.mp m).elim (h.here a) (ih a)
theorem kB_ {xs:List Term}{ts:List Tr}{x:Term}{t:Tr} (h:Reps xs ts) (q:Rep x t):Reps (xs++[x]) (ts++[t]) :=
 Reps.rec (motive_1:=fun _ _ _=>True) (motive_2:=fun xs ts _=>Reps (xs++[x]) (ts++[t])) (fun _ _=>trivial) (.cons q .nil) (fun h1 _ _ ih => .cons h1 ih) h
theorem RStk.close {Cn Cu:Addr}{H0 H:Hp}{wh:Addr}{f g:RF}{fs:List RF}{its own:List Addr}{ds:List (Addr×RE)}{new:List (List Nat)} (h:RStk Cn Cu H0 H wh (f::g::fs) [] its own ds) (hr:f.rest=[]) (hf:f.form=bb_ f.y) (hk:f.ok new f.ts) :
  f.nw=new/\∃ p ds2 zu,ds=p::ds2/\zu.Perm own/\RStk Cn Cu H0 H wh ({ g with ts:=g.ts++[f.y] }::fs) [] its zu ds2:=by
 cases h with
 | @cons _ _ _ n _ zk zp own wl pl od id F ds a m t =>
 unfold RF.ok at hk;rw [hr] at hk;have k1:f.ws=az_ f.y:=congrArg (·.1) hk;have k2:f.ts=aV_ f.y:=congrArg (·.2.1) hk;have k3:new=f.nw:=congrArg (·.2.2) hk;obtain ⟨⟨dx,b,e,h1⟩,h2,⟨as,trs,h3,h4,h5⟩,h6⟩:=a;rw [hr] at h6;cases h6;rw [append_nil] at h3;have tree:TreeAt Cn H n (.mk (bb_ f.y) (az_ f.y) b e trs) (n::wl::pl::F) := .mk (by rw [<- hf];exact h1) (by rw [<- k1];exact h2) h3 h4;have rep:Rep f.y (.mk (bb_ f.y) (az_ f.y) b e trs) := .mk (by rw [<- k2];exact h5);have up : ∀ {n':Addr}{wl' pl' od' id':Addr}{F' its':List Addr},RFAt Cn Cu H0 H g n' [n] its' wl' pl' od' id' F'->RFAt Cn Cu H0 H { g with ts:=g.ts++[f.y] } n' [] its' wl' pl' od' id' (F'++(n::wl::pl::F)):=fun q=>by
  obtain ⟨g1,g2,⟨as2,trs2,g3,g4,g5⟩,g6⟩:=q;exact ⟨g1,g2,⟨as2++[n],trs2++[_],by rw [append_nil];exact g3,g4.snoc tree,kB_ g5 rep⟩,g6⟩
 refine ⟨k3.symm,(id,f.wi),ds,?_⟩;cases t with
 | @bot _ _ _ wl3 pl3 rd F3 q a1 a2 a3 =>
  refine ⟨_,rfl,?_,.bot (up q) a1 a2 a3⟩;exact List.perm_append_comm (l₁:=wh::wl3::pl3::F3) (l₂:=n::wl::pl::F)
 | @cons _ _ _ n3 _ its3 its4 own3 wl3 pl3 od3 id3 F3 ds3 q m3 t3 =>
 refine ⟨_,rfl,?_,.cons (its:=its3) (up q) m3 t3⟩;show (((n3::wl3::pl3::F3)++(n::wl::pl::F))++own3).Perm ((n::wl::pl::F)++((n3::wl3::pl3::F3)++own3));rw [append_assoc];exact List.perm_append_comm_assoc (n3::wl3::pl3::F3) (n::wl::pl::F) own3
def RBel (Cn Cu:Addr) (H0 H:Hp) (wh:Addr) (f:RF) (fs:List RF) (n od id:Addr) (its own:List Addr) (ds:List (Addr×RE)):Prop:=match fs with
 | []=>n=wh/\its=[]/\own=[]/\od=id/\ds=[]/\(∀ c∈f.rest,c.1≠SK.n)/\f.env=[]/\f.wi=[]
 | g::r=>(od,f.env)∈ds/\RStk Cn Cu H0 H wh (g::r) [n] its own ds
theorem RStk.top {Cn Cu:Addr}{H0 H:Hp}{wh:Addr}{f:RF}{fs:List RF}{next its own:List Addr}{ds:List (Addr×RE)} (h:RStk Cn Cu H0 H wh (f::fs) next its own ds) : ∃ n zk zp wl pl od id F zu ds2,RFAt Cn Cu H0 H f n next zk wl pl od id F/\RBel Cn Cu H0 H wh f fs n od id zp zu ds2/\its=zk++zp/\own=(n::wl::pl::F)++zu/\ds=(id,f.wi)::ds2/\(od,f.env)∈ds:=by
 cases h with
 | @bot _ _ _ wl pl rd F q a1 a2 a3=>exact ⟨_,_,[],_,_,_,_,_,[],[],q,⟨rfl,rfl,rfl,rfl,rfl,a1,a2,a3⟩,by simp,by simp,by rw [a3],by rw [a2];simp⟩
 | cons q m t=>exact ⟨_,_,_,_,_,_,_,_,_,_,q,⟨m,t⟩,rfl,rfl,rfl,mem_cons_of_mem _ m⟩
theorem RStk.mk {Cn Cu:Addr}{H0 H:Hp}{wh:Addr}{f f':RF}{fs:List RF}{n:Addr}{next zk zp:List Addr}{wl pl od id:Addr}{F zu:List Addr}{ds2:List (Addr×RE)} (h:RFAt Cn Cu H0 H f' n next zk wl pl od id F) (b:RBel Cn Cu H0 H wh f fs n od id zp zu ds2) (he:f'.env=f.env) (hw:fs=[]->f'.wi=f.wi) (hr : ∀ c∈f'.rest,c∈f.rest):RStk Cn Cu H0 H wh (f'::fs) next (zk++zp) ((n::wl::pl::F)++zu) ((id,f'.wi)::ds2):=by
 cases fs with
 | nil =>
  obtain ⟨rfl,rfl,rfl,rfl,rfl,b1,b2,b3⟩:=b;rw [append_nil,append_nil,hw rfl,b3];exact .bot h (fun c m=>b1 c (hr c m)) (he.trans b2) ((hw rfl).trans b3)
 | cons g r=>exact .cons h (by rw [he];exact b.1) b.2
theorem RBel.keep {Cn Cu:Addr}{H0 H H':Hp}{wh:Addr}{f:RF}{fs:List RF}{n od id:Addr}{its own:List Addr}{ds:List (Addr×RE)} (h:RBel Cn Cu H0 H wh f fs n od id its own ds) {xs:List Addr} (sx:ai_ xs H H') (ch : ∀ x∈xs,Chg H x) (d : ∀ a∈own,a∉xs):RBel Cn Cu H0 H' wh f fs n od id its own ds:=by
 cases fs with
 | nil=>exact h
 | cons g r=>exact ⟨h.1,h.2.keep sx ch d⟩
noncomputable def msC:List (SK×Pc Term)->Nat
 | []=>0
 | (_,.inl _)::r=>1+msC r
 | (_,.inr t)::r=>3 * szX t+msC r
noncomputable def msF (fs:List RF):Nat:=(fs.map fun f=>msC f.rest).sum
def cQ_ (fs:List RF):Nat:=(fs.map fun f=>ck_ f.rest).sum
theorem oL_ (env:RE) (l:List (SK×Pc Term)) : ∀ (wi:RE) (new ws:List (List Nat)) (ts:List Term),ws.length<=(goF env l wi new ws ts).1.length/\ts.length<=(goF env l wi new ws ts).2.1.length:=by
 induction l with
 | nil=>exact fun _ _ _ _=>⟨Nat.le_refl _,Nat.le_refl _⟩
 | cons c r ih =>
 intro wi new ws ts;have w1 : ∀ wi new (x:List Nat),ws.length<=(goF env r wi new (ws++[x]) ts).1.length/\ts.length<=(goF env r wi new (ws++[x]) ts).2.1.length:=fun wi new x=>by
  have h:=ih wi new (ws++[x]) ts;rw [length_append] at h;exact ⟨Nat.le_trans (le_add_right _ _) h.1,h.2⟩
 have t1 : ∀ wi new (x:Term),ws.length<=(goF env r wi new ws (ts++[x])).1.length/\ts.length<=(goF env r wi new ws (ts++[x])).2.1.length:=fun wi new x=>by
  have h:=ih wi new ws (ts++[x]);rw [length_append] at h;exact ⟨h.1,Nat.le_trans (le_add_right _ _) h.2⟩
 obtain ⟨k,q⟩:=c;cases q with
 | inl x=>cases k <;> exact w1 _ _ _
 | inr t=>cases k with
  | p b=>cases b <;> exact t1 _ _ _
  | _=>exact t1 _ _ _
theorem RF.ok.len {f:RF}{new:List (List Nat)} (h:f.ok new f.ts):f.ws.length<=2/\f.ts.length<=3:=by
 have q:=oL_ f.env f.rest f.wi new f.ws f.ts;rw [show goF f.env f.rest f.wi new f.ws f.ts=_ from h] at q;have h1:(az_ f.y).length<=2:=gu_;have h2:(aV_ f.y).length<=3:=by cases f.y <;> exact le_of_ble_eq_true rfl
 exact ⟨Nat.le_trans q.1 h1,Nat.le_trans q.2 h2⟩
theorem kY_ (x:Term):msC (aP_ x)+1<=3 * szX x:=by
 have h:=go_ (g:=fun c=>match c with | .inl _=>1 | .inr t=>3 * szX t) (m:=1) (k:=3) (c:=0) (x:=x) (fun _ _=>Nat.le_refl 1) fun _ _=>Nat.le_refl _
 have e : ∀ l:List (SK×Pc Term),msC l=(l.map fun c=>match c.2 with | .inl _=>1 | .inr t=>3 * szX t).sum:=fun l=>by
  induction l with
  | nil=>rfl
  | cons c l ih =>
  obtain ⟨k,c⟩:=c;cases c with
  | inl w=>show 1+msC l=_;rw [ih];rfl
  | inr t=>show 3 * szX t+msC l=_;rw [ih];rfl
 rw [e];omega
theorem iS_ : ∀ l:List (SK×Pc Term),l.length<=msC l
 | []=>Nat.le_refl _
 | (_,.inl _)::r=>by have:=iS_ r;rw [length_cons];show _<=1+msC r;omega
 | (_,.inr t)::r=>by have:=iS_ r;have:=kY_ t;rw [length_cons];show _<=3 * szX t+msC r;omega
theorem RStk.len {Cn Cu:Addr}{H0 H:Hp}{wh:Addr}{fs:List RF}{next its own:List Addr}{ds:List (Addr×RE)} (h:RStk Cn Cu H0 H wh fs next its own ds):its.length<=msF fs:=by
 induction h with
 | @bot f _ _ _ _ _ _ h _ _ _ =>
  have:=Paired.length h.items;have:=iS_ f.rest;show _<=msC f.rest+0;omega
 | @cons f g fs _ _ _ _ _ _ _ _ _ _ _ h _ t ih =>
 have:=Paired.length h.items;have:=iS_ f.rest;rw [length_append];show _<=msC f.rest+msF (g::fs);omega
theorem RStk.norm {Cn Cu:Addr}{H0 H:Hp}{wh:Addr}{tgt:Term}{new:List (List Nat)} : ∀ (fs:List RF) (f:RF) {its own:List Addr}{ds:List (Addr×RE)},RStk Cn Cu H0 H wh (f::fs) [] its own ds->f.ok new f.ts->(fs≠[]->f.form=bb_ f.y)->m5_ tgt fs f.y f.nw ->
  ∃ f' fs' own' ds',RStk Cn Cu H0 H wh (f'::fs') [] its own' ds'/\f'.ok new f'.ts/\(fs'≠[]->f'.form=bb_ f'.y)/\m5_ tgt fs' f'.y f'.nw/\(f'.rest≠[]\/fs'=[])/\own'.Perm own/\ds'.Sublist ds/\msF (f'::fs')=msF (f::fs)/\cQ_ (f'::fs')=cQ_ (f::fs)
 | [],f,its,own,ds,h,a,b,c=>⟨f,[],own,ds,h,a,b,c,.inr rfl,.refl _,List.Sublist.refl _,rfl,rfl⟩
 | g::r,f,its,own,ds,h,a,b,c=>by
  by_cases hr:f.rest=[]
  ·obtain ⟨q1,p,ds2,zu,rfl,q3,q4⟩:=h.close hr (b (by simp)) a
   rw [q1] at c;obtain ⟨f',fs',own',ds',z1,z2,z3,z4,z5,z6,z7,z8,z9⟩:=RStk.norm r { g with ts:=g.ts++[f.y] } q4 c.1 c.2.1 c.2.2;refine ⟨f',fs',own',ds',z1,z2,z3,z4,z5,z6.trans q3,z7.trans (sublist_cons_self _ _),z8.trans ?_,z9.trans ?_⟩
   ·show msC g.rest+msF r=msC f.rest+(msC g.rest+msF r)
    rw [hr];show _=0+_;omega
   show ck_ g.rest+cQ_ r=ck_ f.rest+(ck_ g.rest+cQ_ r);rw [hr];show _=0+_;omega
  exact ⟨f,g::r,own,ds,h,a,b,c,.inl hr,.refl _,List.Sublist.refl _,rfl,rfl⟩
def eR_ (env:RE):Term->List (List Nat)
 | .leaf (.name y)=>[((env.find? fun p=>p.1 == y).map fun p=>p.2).getD y]
 | .leaf (.num v)=>[shownLit v]
 | _=>[]
theorem hT_ (env:RE) (x:Term):(∃ y,x = .leaf (.name y))\/(∃ v,x = .leaf (.num v))\/(¬ bb_ x=Vaunid.txt "name"/\¬ bb_ x=Vaunid.txt "number"/\eR_ env x=[]):=by
 cases q:fmX x with
 | none =>
  cases x with
  | leaf l =>
   cases l with
   | name y=>exact .inl ⟨y,rfl⟩
   | num v=>exact .inr (.inl ⟨v,rfl⟩)
   | truth b=>cases b <;> exact .inr (.inr ⟨by left,by left,rfl⟩)
   | nil=>exact .inr (.inr ⟨by left,by left,rfl⟩)
  | _=>cases q
 | some f =>
 have h : ∀ f:Fm,¬ Vaunid.txt f.word=Vaunid.txt "name"/\¬ Vaunid.txt f.word=Vaunid.txt "number":=by intro f;cases f <;> left
 refine .inr (.inr ⟨by rw [dx_ q];exact (h f).1,by rw [dx_ q];exact (h f).2,?_⟩);cases x with
 | leaf l=>cases q
 | _=>rfl
theorem fK_ (env:RE) (new:List (List Nat)) (x:Term):bb_ (Vaunid.renamed env new x).1=bb_ x/\goF env (aP_ x) env new (eR_ env x) []=(az_ (Vaunid.renamed env new x).1,aV_ (Vaunid.renamed env new x).1,(Vaunid.renamed env new x).2):=by
 cases q:fmX x with
 | none =>
  cases x with
  | leaf l=>cases l <;> exact ⟨rfl,rfl⟩
  | _=>cases q
 | some f =>
 have e:eR_ env x=[]:=by
  cases x with
  | leaf l=>cases q
  | _=>rfl
 rw [e];exact mc_ env new q
structure PSt (Cn Cu Cf:Addr) (H0 H:Hp) (td fo aw wh:Addr) (away:List (List Nat)) (B:Nat) (tgt:Term) (f:RF) (fs:List RF) (its own:List Addr) (ds:List (Addr×RE)) (new:List (List Nat)):Prop where
 same:Same H0 H
 stk:RStk Cn Cu H0 H wh (f::fs) [] its own ds
 todo:H td=some (.lst (its.reverse.map V.ref))
 gv : ∃ dxf i,H fo=some (.ins Cf dxf (frFs aw ((i:Nat):Int)))/\Fr away B i new
 ok:f.ok new f.ts
 form:fs≠[]->f.form=bb_ f.y
 und:m5_ tgt fs f.y f.nw
 nd:(td::fo::(own++ds.map (·.1))).Nodup
 fr : ∀ a∈td::fo::(own++ds.map (·.1)),H0 a=none
 dct : ∀ p∈ds,∃ kv,H p.1=some (.dK kv)/\DEnv kv p.2/\kv.length+new.length<=600
 need:cQ_ (f::fs)<=new.length
theorem pdj {td fo n wl pl id:Addr}{F zu D:List Addr} (h:(td::fo::(((n::wl::pl::F)++zu)++(id::D))).Nodup):(∀ a∈F++zu,a∉[td,fo,n,wl,pl,id])/\(∀ a∈D,a∉[td,fo,n,wl,pl,id])/\[td,fo,n,wl,pl,id].Nodup/\(F++zu++D).Nodup:=by
 have pm:(td::fo::(((n::wl::pl::F)++zu)++(id::D))).Perm ([td,fo,n,wl,pl,id]++(F++zu++D)):=by
  show (td::fo::n::wl::pl::((F++zu)++(id::D))).Perm (td::fo::n::wl::pl::(id::(F++zu++D)));exact ((((List.perm_middle.cons pl).cons wl).cons n).cons fo).cons td
 obtain ⟨h1,h2,h3⟩:=List.nodup_append.mp (pm.nodup_iff.mp h);exact ⟨fun a m z=>h3 a z a (mem_append_left _ m) rfl,fun a m z=>h3 a z a (mem_append_right _ m) rfl,h1,h2⟩
def envB (bb:Bool) (f:RF):RE:=if bb=false then f.env else f.wi
noncomputable def oX_ (bb:Bool) (f:RF) (t:Term) (new:List (List Nat)):RF:={ form:=bb_ t,y:=(Vaunid.renamed (envB bb f) new t).1,nw:=(Vaunid.renamed (envB bb f) new t).2,env:=envB bb f,wi:=envB bb f,ws:=eR_ (envB bb f) t,ts:=[],rest:=aP_ t }
section
variable {Cn Cu Cf:Addr}{H0 H H2:Hp}{td fo aw wh:Addr}{away:List (List Nat)}{B:Nat}{tgt:Term}{f:RF}{fs:List RF}{its own:List Addr}{ds:List (Addr×RE)}{new:List (List Nat)}
theorem PSt.norm (p:PSt Cn Cu Cf H0 H td fo aw wh away B tgt f fs its own ds new) : ∃ f' fs' own' ds',PSt Cn Cu Cf H0 H td fo aw wh away B tgt f' fs' its own' ds' new/\(f'.rest≠[]\/fs'=[])/\msF (f'::fs')=msF (f::fs):=by
 obtain ⟨f',fs',own',ds',z1,z2,z3,z4,z5,z6,z7,z8,z9⟩:=p.stk.norm fs f p.ok p.form p.und;have sub : ∀ a,a∈own'++ds'.map (·.1)->a∈own++ds.map (·.1):=fun a m=>by
  rcases mem_append.mp m with m | m
  ·exact mem_append_left _ (z6.subset m)
  exact mem_append_right _ ((z7.map _).subset m)
 refine ⟨f',fs',own',ds',⟨p.same,z1,p.todo,p.gv,z2,z3,z4,?_,fun a m=>p.fr a ?_,fun q m=>p.dct q (z7.subset m),by rw [z9];exact p.need⟩,z5,z8⟩
 ·have s2:(td::fo::(own++ds'.map (·.1))).Sublist (td::fo::(own++ds.map (·.1))):=(((List.Sublist.refl own).append (z7.map _)).cons_cons fo).cons_cons td
  exact (((z6.append_right _).cons fo).cons td).nodup_iff.mpr (List.Pairwise.sublist s2 p.nd)
 rcases mem_cons.mp m with q | m
 ·rw [q];exact mem_cons_self ..
 rcases mem_cons.mp m with q | m
 ·rw [q];simp
 exact mem_cons_of_mem _ (mem_cons_of_mem _ (sub a m))
theorem PSt.push (p:PSt Cn Cu Cf H0 H td fo aw wh away B tgt f fs its own ds new) {bb:Bool}{t:Term}{r:List (SK×Pc Term)} (hr:f.rest=(.p bb,.inr t)::r) {n it:Addr}{zk zp:List Addr}{wl pl od id:Addr}{F zu:List Addr}{ds2:List (Addr×RE)}
  (ha:RFAt Cn Cu H0 H f n [] (it::zk) wl pl od id F) (hb:RBel Cn Cu H0 H wh f fs n od id zp zu ds2) (eo:own=(n::wl::pl::F)++zu) (ed:ds=(id,f.wi)::ds2) (eod:(od,f.env)∈ds) {c dxc wlc plc idc:Addr}{itsc:List Addr}{b' e':Nat}{kv:List (Key×V)}{ps:List V} (sx:ai_ [td,pl] H H2) (hps:H pl=some (.lst ps))
  (hc:H2 c=some (.ins Cn dxc (a4_ (S (bb_ t)) wlc plc (b':Int) (e':Int)))) (hwl:H2 wlc=some (.lst (((eR_ (envB bb f) t).map S).map V.str))) (hpl:H2 plc=some (.lst [])) (hid:H2 idc=some (.dK kv)) (hkv:H (if bb=false then od else id)=some (.dK kv)) (hits:Paired (ItAt Cn Cu H0 H2 c (if bb=false then od else id) idc) itsc (aP_ t)) (hp2:H2 pl=some (.lst (ps++[.ref c])))
  (ht2:H2 td=some (.lst ((zk++zp).reverse.map V.ref++itsc.reverse.map V.ref))) (nd4:[c,wlc,plc,idc].Nodup) (fr4 : ∀ a∈[c,wlc,plc,idc],H a=none) :
  PSt Cn Cu Cf H0 H2 td fo aw wh away B tgt (oX_ bb f t new) ({ f with rest:=r }::fs) (itsc++(zk++zp)) ([c,wlc,plc]++own) ((idc,envB bb f)::ds) new/\msF (oX_ bb f t new::{ f with rest:=r }::fs)<msF (f::fs):=by
 have nd:=p.nd;rw [eo,ed] at nd;obtain ⟨o1,o2,o3,o4⟩:=pdj nd;have ch : ∀ x∈[td,pl],Chg H x:=fun x hx=>by
  rcases mem_cons.mp hx with q | hx
  ·rw [q];exact .inl ⟨_,p.todo⟩
  rw [mem_singleton.mp hx];exact .inl ⟨_,hps⟩
 have sub : ∀ a,a∉[td,fo,n,wl,pl,id]->a∉[td,pl]:=fun a h m=>h (by simp at m ⊢;rcases m with m | m <;> simp [m])
 simp only [nodup_cons,mem_cons,not_or,not_mem_nil,not_false_eq_true,and_true,List.nodup_nil] at o3;obtain ⟨⟨a1,a2,a3,a4,a5⟩,⟨b1,b2,b3,b4⟩,⟨c1,c2,c3⟩,⟨d1,d2⟩,e1⟩:=o3;have hb2:=hb.keep sx ch fun a m=>sub a (o1 a (mem_append_right _ m));obtain ⟨⟨dx,b,e,h1⟩,h2,⟨as,trs,h3,h4,h5⟩,h6⟩:=ha;rw [hr] at h6;cases h6 with
 | cons h7 h8 =>
 have eps:ps=as.map V.ref:=by rw [h3,append_nil] at hps;injection hps with q;injection q with q;exact q.symm
 have par:RFAt Cn Cu H0 H2 { f with rest:=r } n [c] zk wl pl od id F:=⟨⟨dx,b,e,sx _ _ (by simp [Ne.symm a2,c2]) h1⟩,sx _ _ (by simp [Ne.symm a3,d1]) h2,⟨as,trs,by rw [hp2,eps,map_append];rfl,h4.keep fun x m o q=>sx _ _ (sub x (o1 x (mem_append_left _ m))) q,h5⟩,Paired.mapP h8 fun _ _ q=>q.keep sx ch⟩;have st2:RStk Cn Cu H0 H2 wh ({ f with rest:=r }::fs) [c] (zk++zp) own ds:=by
  rw [eo,ed];exact RStk.mk (f:=f) (f':={ f with rest:=r }) par hb2 rfl (fun _=>rfl) fun x m=>by rw [hr];exact mem_cons_of_mem _ m
 have here : ∀ a∈td::fo::(own++ds.map (·.1)),∃ o,H a=some o:=fun a m=>by
  rcases mem_cons.mp m with q | m
  ·exact ⟨_,q ▸ p.todo⟩
  rcases mem_cons.mp m with q | m
  ·obtain ⟨_,_,q2,_⟩:=p.gv
   exact ⟨_,q ▸ q2⟩
  rcases mem_append.mp m with m | m
  ·exact p.stk.here a m
  obtain ⟨z,zm,rfl⟩:=mem_map.mp m;obtain ⟨_,q,_⟩:=p.dct z zm;exact ⟨_,q⟩
 have dctd : ∀ q∈ds,q.1∉[td,pl]:=fun q m=>by
  rw [ed] at m;rcases mem_cons.mp m with z | m
  ·rw [z];simp [Ne.symm a5,Ne.symm e1]
  exact sub _ (o2 _ (List.mem_map_of_mem m))
 have env:(if bb=false then od else id,envB bb f)∈ds:=by
  unfold envB;cases bb with
  | false=>exact eod
  | true=>rw [ed];exact mem_cons_self ..
 refine ⟨⟨?_,?_,?_,?_,?_,?_,?_,?_,?_,?_,?_⟩,?_⟩
 ·exact sx.base p.same fun x m=>p.fr x (by rw [eo];simp at m ⊢;rcases m with m | m <;> simp [m])
 ·exact .cons (f:=oX_ bb f t new) ⟨⟨dxc,b',e',hc⟩,hwl,⟨[],[],hpl,.nil,.nil⟩,hits⟩ env st2
 ·rw [ht2,<- map_append,<- reverse_append]
 ·obtain ⟨dxf,i,q1,q2⟩:=p.gv
  exact ⟨dxf,i,sx _ _ (by simp [Ne.symm a1,b3]) q1,q2⟩
 ·exact (fK_ (envB bb f) new t).2
 ·exact fun _=>(fK_ (envB bb f) new t).1.symm
 ·refine ⟨?_,p.form,p.und⟩
  have k:=p.ok;unfold RF.ok at k ⊢;rw [hr] at k;rw [<- k];cases bb <;> rfl
 ·have hn : ∀ a∈[c,wlc,plc,idc],a∉td::fo::(own++ds.map (·.1)):=fun a m z=>by
   obtain ⟨o,q⟩:=here a z;rw [fr4 a m] at q;cases q
  refine (List.Perm.nodup_iff ?_).mpr (List.nodup_append.mpr ⟨nd4,p.nd,fun a m b z q=>hn a m (q ▸ z)⟩);show (td::fo::(c::wlc::plc::own++(idc::ds.map (·.1)))).Perm (c::wlc::plc::idc::td::fo::(own++ds.map (·.1)));have q1:(td::fo::(c::wlc::plc::own++(idc::ds.map (·.1)))).Perm (td::fo::([c,wlc,plc,idc]++(own++ds.map (·.1)))):=by
   refine .cons _ (.cons _ ?_);show (c::wlc::plc::(own++(idc::ds.map (·.1)))).Perm (c::wlc::plc::(idc::(own++ds.map (·.1))));exact ((List.perm_middle.cons plc).cons wlc).cons c
  refine q1.trans ?_;exact List.perm_append_comm_assoc [td,fo] [c,wlc,plc,idc] (own++ds.map (·.1))
 ·intro a m
  have q1:a∈[c,wlc,plc,idc]\/a∈td::fo::(own++ds.map (·.1)):=by
   simp only [map_cons,cons_append,nil_append,mem_cons,mem_append,not_mem_nil,or_false] at m ⊢;rcases m with m | m | m | m | m | m | m | m <;> simp [m]
  rcases q1 with q1 | q1
  ·exact none_of p.same (fr4 a q1)
  exact p.fr a q1
 ·intro q m
  rcases mem_cons.mp m with z | m
  ·rw [z]
   obtain ⟨kv2,z1,z2,z3⟩:=p.dct _ env;rw [hkv] at z1;cases z1;exact ⟨kv,hid,z2,z3⟩
  obtain ⟨kv2,z1,z2,z3⟩:=p.dct q m;exact ⟨kv2,sx _ _ (dctd q m) z1,z2,z3⟩
 ·have k:=p.need
  have k2:cQ_ (f::fs)=ck_ f.rest+cQ_ fs:=rfl;rw [k2,hr] at k;have k3:ck_ ((SK.p bb,Sum.inr t)::r)=Vaunid.bindings t+ck_ r:=by cases bb <;> rfl
  show ck_ (aP_ t)+(ck_ r+cQ_ fs)<=_;rw [kV_];omega
 have k:=kY_ t;show msC (aP_ t)+(msC r+msF fs)<msC f.rest+msF fs;rw [hr];show _<3 * szX t+msC r+msF fs;omega
theorem PSt.step (p:PSt Cn Cu Cf H0 H td fo aw wh away B tgt f fs its own ds new) {f':RF}{new':List (List Nat)} (he:f'.env=f.env) (hy:f'.y=f.y) (hnw:f'.nw=f.nw) (hform:f'.form=f.form) (hts:f'.ts=f.ts) (hrr : ∀ c∈f'.rest,c∈f.rest) (hw:fs=[]->f'.wi=f.wi) {n it:Addr}{zk zp:List Addr}{wl pl od id:Addr}{F zu:List Addr}{ds2:List (Addr×RE)}
  (ha:RFAt Cn Cu H0 H f n [] (it::zk) wl pl od id F) (hb:RBel Cn Cu H0 H wh f fs n od id zp zu ds2) (eo:own=(n::wl::pl::F)++zu) (ed:ds=(id,f.wi)::ds2) (sx:ai_ [td,fo,id,wl] H H2) (hi:Paired (ItAt Cn Cu H0 H n od id) zk f'.rest) (hw2:H2 wl=some (.lst ((f'.ws.map S).map V.str)))
  (ht2:H2 td=some (.lst ((zk++zp).reverse.map V.ref))) (gv2 : ∃ dxf i,H2 fo=some (.ins Cf dxf (frFs aw ((i:Nat):Int)))/\Fr away B i new') (hok:f'.ok new' f'.ts) (hd2 : ∃ kv,H2 id=some (.dK kv)/\DEnv kv f'.wi/\kv.length+new'.length<=600) (hnl:new'.length<=new.length) (hnd:cQ_ (f'::fs)<=new'.length) :
  PSt Cn Cu Cf H0 H2 td fo aw wh away B tgt f' fs (zk++zp) own ((id,f'.wi)::ds2) new':=by
 have nd:=p.nd;rw [eo,ed] at nd;obtain ⟨o1,o2,o3,o4⟩:=pdj nd;have ch : ∀ x∈[td,fo,id,wl],Chg H x:=fun x hx=>by
  simp only [mem_cons,not_mem_nil,or_false] at hx;rcases hx with rfl | rfl | rfl | rfl
  ·exact .inl ⟨_,p.todo⟩
  ·obtain ⟨dxf,i,q,_⟩:=p.gv
   exact .inr (.inr ⟨_,_,_,_,q⟩)
  ·obtain ⟨kv,q,_⟩:=p.dct (x,f.wi) (by rw [ed];exact mem_cons_self ..)
   exact .inr (.inl ⟨_,q⟩)
  exact .inl ⟨_,ha.words⟩
 have sub : ∀ a,a∉[td,fo,n,wl,pl,id]->a∉[td,fo,id,wl]:=fun a h m=>h (by simp at m ⊢;rcases m with m | m | m | m <;> simp [m])
 simp only [nodup_cons,mem_cons,not_or,not_mem_nil,not_false_eq_true,and_true,List.nodup_nil] at o3;obtain ⟨⟨a1,a2,a3,a4,a5⟩,⟨b1,b2,b3,b4⟩,⟨c1,c2,c3⟩,⟨d1,d2⟩,e1⟩:=o3;have hb2:=hb.keep sx ch fun a m=>sub a (o1 a (mem_append_right _ m));obtain ⟨⟨dx,b,e,h1⟩,h2,⟨as,trs,h3,h4,h5⟩,h6⟩:=ha;have top:RFAt Cn Cu H0 H2 f' n [] zk wl pl od id F:=⟨⟨dx,b,e,by rw [hform];exact sx _ _ (by simp [Ne.symm a2,Ne.symm b1,c3,c1]) h1⟩,hw2,⟨as,trs,sx _ _ (by simp [Ne.symm a4,Ne.symm b3,e1,Ne.symm d1]) h3,h4.keep fun x m o q=>sx _ _ (sub x (o1 x (mem_append_left _ m))) q,by rw [hts];exact h5⟩,Paired.mapP hi fun _ _ q=>q.keep sx ch⟩;refine ⟨sx.base p.same fun x m=>p.fr x ?_,by rw [eo];exact RStk.mk (f:=f) (f':=f') top hb2 he hw hrr,ht2,gv2,hok,fun z=>by rw [hform,hy];exact p.form z,by rw [hy,hnw];exact p.und,?_,?_,?_,hnd⟩
 ·rw [eo,ed]
  simp at m ⊢;rcases m with m | m | m | m <;> simp [m]
 ·have:=p.nd
  rw [ed] at this;exact this
 ·have:=p.fr
  rw [ed] at this;exact this
 intro q m;rcases mem_cons.mp m with z | m
 ·rw [z];exact hd2
 obtain ⟨kv,z1,z2,z3⟩:=p.dct q (by rw [ed];exact mem_cons_of_mem _ m);exact ⟨kv,sx _ _ (sub _ (o2 _ (List.mem_map_of_mem m))) z1,z2,by omega⟩
end
def ko_ (Cn:Addr):Sp:=fun vs H Q _=>∃ (a d:Addr) (x:Term) (tr:Tr) (F:List Addr) (H0:Hp) (kv:List (Key×V)) (env:RE),vs=[.ref a,.ref d]/\Same H0 H/\Rep x tr/\TreeAt Cn H0 a tr F/\H d=some (.dK kv)/\DEnv kv env/\∀ p,H p=none->Q (.ref p) (upd H p (.lst (((eR_ env x).map S).map V.str)))
theorem ok_ak (T:TX w K mg J):FnOk P w K mg base CX0 1 J.f_ak J.d_ak ["node","renamed"] (ko_ J.C_a):=by
 refine T.F_ak.fn.ok sc_ak fun _ _ _ _ H _ Q E hr h=>?_;obtain ⟨a,d,x,tr,F,H0,kv,env,rfl,s0,hrep,htr,hd,he,k⟩:=h;refine ⟨_,(ab_ (aG_ (ak_ br_ (ah_ (pv 0) rfl) aq_ (as_ _)) (ae_ (am_ (aE_ (aa_ (mn_ hr.u1 (pv 1) (aQ_ aJ_ (ah_ (pv 0) rfl) aj_ (fun _ _=>rfl)) (aQ_ aJ_ (ah_ (pv 0) rfl) aj_ (fun _ _=>rfl)) ⟨rfl,rfl,rfl,rfl⟩) ac_)))) ap_)
  (ab_ (aG_ (ak_ br_ (ah_ (pv 0) rfl) aq_ (as_ _)) (ae_ (am_ (aE_ (aa_ (aQ_ aJ_ (ah_ (pv 0) rfl) aj_ (fun _ _=>rfl)) ac_)))) ap_)
  (ae_ (am_ (aE_ ac_))))),?_⟩
 cases hrep with
 | @mk _ b e ps hps =>
 cases htr with
 | @mk _ dxn wl pl _ _ _ _ as _ G t1 t2 t3 t4 =>
 have t1':=s0 _ _ t1;have t2':=s0 _ _ t2;simp! [tSeq,tFld,t1',nc_];refine ⟨T.cl_a,T.n_ax,_,rfl,rfl,?_⟩;rcases hT_ env x with ⟨y,rfl⟩ | ⟨v,rfl⟩ | ⟨n1,n2,n3⟩
 ·rw [if_pos (by rw [aF_];rfl)]
  refine ⟨.inl ⟨kv,.inl hd⟩,T.cl_a,T.n_aw,_,rfl,_,rfl,_,SqL.of t2',.str (S y),rfl,?_⟩;refine ⟨T.cl_a,T.n_aw,_,rfl,_,rfl,_,SqL.of t2',.str (S y),rfl,_,DGet.k (k:=Sum.inr (S y)) hd,by decide,?_⟩;rw [he y];have e:((env.find? fun p=>p.1 == y).map fun p=>V.str (S p.2)).getD (V.str (S y))=V.str (S (((env.find? fun p=>p.1 == y).map fun p=>p.2).getD y)):=by cases env.find? fun p=>p.1 == y <;> rfl
  rw [e];exact k
 ·rw [if_neg (by rw [aF_];simp only [V.str.injEq,cl_];show ¬ Vaunid.txt "number"=_;left)]
  refine ⟨T.cl_a,T.n_ax,_,rfl,rfl,?_⟩;rw [if_pos (by rw [aF_];rfl)];exact ⟨T.cl_a,T.n_aw,_,rfl,_,rfl,_,SqL.of t2',.str (S (shownLit v)),rfl,by decide,k⟩
 rw [if_neg (by rw [aF_];simp only [V.str.injEq,cl_];exact n1)];refine ⟨T.cl_a,T.n_ax,_,rfl,rfl,?_⟩;rw [if_neg (by rw [aF_];simp only [V.str.injEq,cl_];exact n2)];rw [n3] at k;exact ⟨zero_le _,k⟩
def l5_ (Cf:Addr):Sp:=fun vs H Q _=>∃ (p dx aw:Addr),vs=[.ref p,.ref aw]/\H p=some (.ins Cf dx [])/\Q .non (upd H p (.ins Cf dx (frFs aw 0)))
theorem ok_i (T:TX w K mg J):FnOk P w K mg base CX0 1 J.f_P J.d_P ["self","away"] (l5_ J.C_i):=by
 refine T.F_P.ok sc_P fun _ _ _ _ H _ Q E hr h=>?_;obtain ⟨p,dx,aw,rfl,hp,k⟩:=h;refine ⟨_,(ab_ (a2_ (pv 0) (pv 1) rfl)
  (ae_ (a2_ (pv 0) aj_ rfl))),?_⟩
 simp! [tSeq,sFld,hp];exact ⟨T.cl_i,T.n_bc,few0,T.cl_i,T.n_aF,few1,k⟩
inductive IFTake (Cf:Addr) (H:Hp) (Q:VK):List V->Prop
 | mk (fo dx aw:Addr) (i B:Nat) (away:List (List Nat)) (v:List Nat) (l:List (List Nat)):H fo=some (.ins Cf dx (frFs aw (i:Int)))->H aw=some (.lst ((away.map S).map V.str))->Fr away B i (v::l)->B<=2000->(∀ j:Nat,Fr away B j l->Q (.str (S v)) (upd H fo (.ins Cf dx (frFs aw (j:Int)))))->IFTake Cf H Q [.ref fo]
def n2_ (Cf:Addr):Sp:=fun vs H Q _=>IFTake Cf H Q vs
theorem o7_ (m:Nat):ofString "v"++ofString (toString (m:Int))=S (Vaunid.vName m):=by
 rw [str_int,bR_,aF_,gr_];rfl
theorem mu_ (T:TX w K mg J):FnOk P w K mg base CX0 2 J.f_t J.d_t ["self"] (n2_ J.C_i):=by
 refine T.F_t.ok sc_t fun _ _ _ _ H _ Q E hr h=>?_;obtain ⟨fo,dx,aw,i,B,away,v,l,hf,ha,hF,hB,k⟩:=h;obtain ⟨j,j1,j2,j3,j4,rfl,j6⟩:=oO_ hF rfl;refine ⟨_,(ab_ (aw_ 1 sc_t.nd (a9_ a6_ aq_ (a3_ bM_ rfl T.b_str cy_ (aa_ (ah_ (pv 0) rfl) ac_))))
  (ab_ (eO_ (pv 0) aj_ le_)
  (ab_ (bD_ PassesOwn.never (ak_ bm_ (pv 1) (ah_ (pv 0) rfl) rfl) (ab_ (aw_ 1 sc_t.nd (a9_ a6_ aq_ (a3_ bM_ rfl T.b_str cy_ (aa_ (ah_ (pv 0) rfl) ac_))))
  (ae_ (eO_ (pv 0) aj_ le_))))
  (ae_ (am_ (pv 1)))))),?_⟩
 simp! [tSeq,tFld,fX_,rAdd,hf];have big : ∀ m:Nat,m<=3000->(ofString "v").length+(ofString (toString (m:Int))).length<=sizeLine:=fun m h=>by
  rw [aF_,str_int,aZ_,aZ_,bR_];have:=ce_ (n:=m) (by omega);exact Nat.le_trans (show 1+_<=13 by omega) (by decide)
 have lg : ∀ m:Nat,m<=3000->((m:Int).natAbs).log2<1920:=fun m h=>eL_ (by rw [Int.natAbs_natCast];omega);have naw:aw≠fo:=a7_ ha hf (by intro z;cases z);refine ⟨T.cl_i,T.n_aF,_,rfl,_,rfl,lg i (by omega),big i (by omega),T.cl_i,T.n_aF,_,rfl,_,rfl,(by show 2<1000;decide),?_⟩;refine b5_ (fun m σ H'=>∃ q:Nat,m=j - q/\i<=q/\q<=j/\σ=[some (.ref fo),some (.str (S (Vaunid.vName q)))]/\H'=upd H fo (.ins J.C_i dx (frFs aw ((q+1:Nat):Int)))) _ ⟨i,rfl,Nat.le_refl _,j1,by rw [o7_],rfl⟩ fun m σ H' hp=>?_;obtain ⟨q,rfl,q1,q2,rfl,rfl⟩:=hp;simp! [tSeq,tFld,fX_,rAdd];refine ⟨T.cl_i,T.n_bc,_,rfl,_,rfl,_,.inl (SqL.of (by rw [al_ naw];exact ha)),rfl,flat_strs _,?_⟩;rw [in_S];by_cases z:q=j
 ·subst z
  rw [decide_eq_false j4,if_neg (by simp)];exact k _ j6
 rw [decide_eq_true (j3 q q1 (by omega)),if_pos rfl];refine ⟨_,fun _ _ z=>z,T.cl_i,T.n_aF,_,rfl,_,rfl,lg _ (by omega),big _ (by omega),T.cl_i,T.n_aF,_,rfl,_,rfl,(by show 2<1000;decide),j - (q+1),by omega,q+1,rfl,by omega,by omega,by rw [o7_],rfl⟩
inductive ICopy (Cn Cu:Addr) (H:Hp) (Q:VK):List V->Prop
 | mk (td it a n d pl dxu wl dxn:Addr) (kd:Str) (x:Term) (tr:Tr) (F:List Addr) (H0:Hp) (kv:List (Key×V)) (env:RE) (xs ps:List V) (f:Str) (b e:Int):H it=some (.ins Cu dxu (unFs kd (.ref a) n d))->Same H0 H->Rep x tr->TreeAt Cn H0 a tr F->H n=some (.ins Cn dxn (a4_ f wl pl b e))->H pl=some (.lst ps)->ps.length<=100->H d=some (.dK kv)->DEnv kv env->H td=some (.lst xs)->xs.length<=2000->td≠pl->H0 pl=none->H0 td=none->(∀ (c dxc wlc plc id:Addr) (its:List Addr) (b' e':Nat) (H':Hp),ai_ [td,pl] H H'->H' c=some (.ins Cn dxc (a4_ (S (bb_ x)) wlc plc (b':Int) (e':Int)))->H' wlc=some (.lst (((eR_ env x).map S).map V.str))->H' plc=some (.lst [])->H' id=some (.dK kv)->Paired (ItAt Cn Cu H0 H' c d id) its (aP_ x)->H' pl=some (.lst (ps++[.ref c]))->H' td=some (.lst (xs++its.reverse.map V.ref))->[c,wlc,plc,id].Nodup->(∀ a∈[c,wlc,plc,id],H a=none)->Q .non H')->ICopy Cn Cu H Q [.ref td,.ref it]
def pu_ (Cn Cu:Addr):Sp:=fun vs H Q _=>ICopy Cn Cu H Q vs
theorem ok_h (T:TX w K mg J):FnOk P w K mg base CX0 1 J.f_F J.d_F ["self","kind","content","owner","renamed"] (bw_ J.C_h ["kind","content","owner","renamed"]):=by
 refine T.F_F.ok sc_F (fun _ _ _ _ H _ Q E hr h=>?_) fun _ _ _ _ h=>ds_ h;obtain ⟨p,dx,args,rfl,hl,hp,k⟩:=h;obtain ⟨a,b,c,d,rfl⟩:=len4 hl;refine ⟨_,(ab_ (a2_ (pv 0) (pv 1) rfl)
  (ab_ (a2_ (pv 0) (pv 2) rfl)
  (ab_ (a2_ (pv 0) (pv 3) rfl)
  (ae_ (a2_ (pv 0) (pv 4) rfl))))),?_⟩
 simp! [tSeq,sFld];refine ⟨_,_,_,hp,T.cl_h,T.n_aB,few0,T.cl_h,T.n_aP,few1,T.cl_h,T.n_aQ,few2,T.cl_h,T.n_aG,few3,?_⟩;exact k
theorem ok_C (T:TX w K mg J):FnOk P w K mg base CX0 3 J.f_C J.d_C ["todo","item"] (pu_ J.C_a J.C_h):=by
 refine T.F_C.fn.ok sc_C fun _ _ _ _ H _ Q E hr h=>?_;obtain ⟨td,it,a,n,d,pl,dxu,wl,dxn,kd,x,tr,F,H0,kv,env,xs,ps,f,b,e,hit,s0,hrep,htr,hn,hpl,hps,hd,hde,htd,hxs,ntp,hpl0,htd0,k⟩:=h;refine ⟨_,(ab_ (aw_ 2 sc_C.nd (ah_ (pv 1) rfl))
  (ab_ (aw_ 3 sc_C.nd (aO_ T.M_a (ok_a T) hr.m rfl T.G_a T.b_s .nil ao_ (aa_ (ah_ (pv 2) rfl) (aa_ (aC_ T.F_ak (ok_ak T) hr.m ao_ (aa_ (pv 2) (aa_ (ah_ (pv 1) rfl) ac_))) (aa_ (aE_ ac_) (aa_ (ah_ (pv 2) rfl) (aa_ (ah_ (pv 2) rfl) ac_)))))))
  (ab_ (aB_ (bL_ pla sla tla ax_ (ah_ (ah_ (pv 1) rfl) rfl) (aa_ (pv 3) ac_)))
  (ab_ (aw_ 4 sc_C.nd (a3_ jV_ rfl T.b_dict boot_dict1 (aa_ (ah_ (pv 1) rfl) ac_)))
  (ae_ (dZ_ PassesOwn.never rfl (b9_ rfl T.b_reversed (aa_ (aC_ T.F_u (ok_u T) hr.m ao_ (aa_ (pv 2) ac_)) ac_)) (pg_q 5 sc_C.nd) (ab_ (aw_ 6 sc_C.nd (cI_ (ak_ br_ (aQ_ bx_ (pv 5) aj_ (fun _ _=>rfl)) aq_ (as_ _)) (ah_ (pv 1) rfl) (pv 4)))
  (ae_ (aB_ (bL_ pla sla tla ax_ (pv 0) (aa_ (aO_ T.M_h (ok_h T) hr.m rfl T.G_h T.b_F .nil ao_ (aa_ (aQ_ bx_ (pv 5) aj_ (fun _ _=>rfl)) (aa_ (aQ_ bx_ (pv 5) aj_ (fun _ _=>rfl)) (aa_ (pv 3) (aa_ (pv 6) ac_))))) ac_))))))))))),?_⟩
 have hrep':=hrep;have htr':=htr;cases hrep with
 | @mk _ b0 e0 ps0 hps0 =>
 cases htr with
 | @mk _ dx0 wl0 pl0 _ _ _ _ as0 _ G0 t1 t2 t3 t4 =>
 have t1':=s0 _ _ t1;refine bJ_ ?_;simp! [tFld,hit];refine ⟨T.cl_h,T.n_aP,_,rfl,?_⟩;refine bJ_ ?_;simp! [tFld,hit,t1',bz_,ko_];refine ⟨T.cl_a,T.n_ax,_,rfl,T.cl_h,T.n_aG,_,rfl,_,rfl,x,_,_,H0,s0,hrep',htr',_,hd,_,hde,fun wlc hwlc=>?_⟩;have s1:Same H (upd H wlc (.lst (((eR_ env x).map S).map V.str))):=Same.upd hwlc;have e1:upd H wlc (.lst (((eR_ env x).map S).map V.str)) wlc=some (.lst (((eR_ env x).map S).map V.str)):=ad_;generalize upd H wlc (.lst (((eR_ env x).map S).map V.str))=H1 at s1 e1 ⊢;refine ⟨zero_le _,fun plc hplc=>?_⟩;have s2:Same H1 (upd H1 plc (.lst [])):=Same.upd hplc;have e2:upd H1 plc (.lst []) plc=some (.lst []):=ad_;generalize upd H1 plc (.lst [])=H2 at s2 e2 ⊢;have s02:=s1.trans s2;refine ⟨_,_,_,s02 _ _ t1',T.cl_a,T.n_aE,_,rfl,_,_,_,s02 _ _ t1',T.cl_a,T.n_aO,_,rfl,?_⟩;refine bs_ rfl fun c dxc H3 hc s3 e3=>?_;refine bJ_ ?_;simp! [tFld,tBM,aY_];have s03:=s02.trans s3;refine ⟨_,_,_,s03 _ _ hit,T.cl_h,T.n_aQ,_,rfl,_,rfl,_,_,_,s03 _ _ hn,T.cl_a,T.n_aA,_,rfl,.inl ⟨rfl,_,SqL.of (s03 _ _ hpl)⟩,_,rfl,_,s03 _ _ hpl,Nat.lt_of_le_of_lt hps (by decide),?_⟩;have hpl3:=s03 _ _ hpl;have sx4:ai_ [pl] H3 (upd H3 pl (.lst (ps++[.ref c]))):=ai_.upd (mem_singleton.mpr rfl);have e4:upd H3 pl (.lst (ps++[.ref c])) pl=some (.lst (ps++[.ref c])):=ad_;generalize upd H3 pl (.lst (ps++[.ref c]))=H4 at sx4 e4 ⊢;have npl : ∀ {b:Addr}{o:HO},H3 b=some o->(∀ l,¬ o = .lst l)->H4 b=some o:=fun {b o} q nl=>sx4 _ _ (nin (a7_ q hpl3 (nl _))) q;have hit4:=npl (s03 _ _ hit) (by intro l z;cases z)
 have hd4:=npl (s03 _ _ hd) (by intro l z;cases z);refine bJ_ ?_;simp! [tFld];refine ⟨_,_,_,hit4,T.cl_h,T.n_aG,_,rfl,_,rfl,_,hd4,fun id hid=>?_⟩;have s5:Same H4 (upd H4 id (.dK kv)):=Same.upd hid;have e5:upd H4 id (.dK kv) id=some (.dK kv):=ad_;generalize upd H4 id (.dK kv)=H5 at s5 e5 ⊢;have b5:Same H0 H5:=(sx4.base (s0.trans s03) fun x hx=>by rw [mem_singleton.mp hx];exact hpl0).trans s5;refine a5_ ?_;simp! [cF_,iRev];refine ⟨x,_,_,H0,b5,hrep',htr',fun cl cts H6 hcl s6 ecl pc=>⟨_,SqL.of ecl,?_⟩⟩;have htd4:H4 td=some (.lst xs):=sx4 _ _ (nin ntp) (s03 _ _ htd);have s46:=s5.trans s6;have htd6:=s46 _ _ htd4;have nct:cl≠td:=fun z=>by rw [z,s5 _ _ htd4] at hcl;cases hcl
 have hcl5:cts.length=(aP_ x).length:=Paired.length pc;have hc5:=gk_ x;have pcr:=cL_ pc;obtain ⟨Pw,hPw⟩ : ∃ Pw:Nat->L2.St->Hp->Prop,Pw=fun i σ H8=>(∃ z1 z2,σ=[some (.ref td),some (.ref it),some (.ref a),some (.ref c),some (.ref id),z1,z2])/\ai_ [td] H6 H8/\∃ its,H8 td=some (.lst (xs++its.map V.ref))/\its.length<=i/\Paired (ItAt J.C_a J.C_h H0 H8 c d id) its ((aP_ x).reverse.take i):=⟨_,rfl⟩;refine dv_ (cts.map V.ref) Pw (by rw [hPw];exact ⟨⟨_,_,rfl⟩,fun _ _ _ q=>q,[],by rw [map_nil,append_nil];exact htd6,Nat.le_refl _,.nil⟩) (fun i σ H8 _ q=>?_) (fun i v σ H8 hx q=>?_) fun σ H8 q=>?_
 ·rw [hPw] at q
  exact SqL.of (q.2.1 _ _ (nin nct) ecl)
 ·rw [hPw] at q
  obtain ⟨⟨z1,z2,rfl⟩,sx8,its,hits,hil8,pit⟩:=q;rw [<- map_reverse,getElem?_map] at hx;cases qi:cts.reverse[i]? with
  | none=>rw [qi] at hx;cases hx
  | some ct =>
  rw [qi] at hx;cases hx;have hil:=(List.getElem?_eq_some_iff.mp qi).1;rw [length_reverse] at hil;obtain ⟨⟨kk,pv⟩,hdd,cv,hct,hpc⟩:=cM_ pcr qi;have n8 : ∀ {b:Addr}{o:HO},H6 b=some o->(∀ l,¬ o = .lst l)->H8 b=some o:=fun {b o} q nl=>sx8 _ _ (nin (a7_ q htd6 (nl _))) q;have hct8:=n8 hct (by intro l z;cases z);have hit8:=n8 (s46 _ _ hit4) (by intro l z;cases z);have fin : ∀ (z:Option V) (un dxu2:Addr) (H9:Hp),H8 un=none->Same H8 H9->H9 un=some (.ins J.C_h dxu2 (unFs (ofString kk.w) cv c (if kk = .p false then d else id))) ->
    ∃ zx,H9 td=some (.lst zx)/\zx.length<sizeLine/\Pw (i+1) [some (.ref td),some (.ref it),some (.ref a),some (.ref c),some (.ref id),some (.ref ct),z] (upd H9 td (.lst (zx++[.ref un]))):=by
   intro z un dxu2 H9 hun s9 e9;have htd9:=s9 _ _ hits;have sx10:ai_ [td] H9 (upd H9 td (.lst (xs++its.map V.ref++[.ref un]))):=ai_.upd (mem_singleton.mpr rfl);have ch9 : ∀ x∈[td],Chg H9 x:=fun x hx=>by rw [mem_singleton.mp hx];exact .inl ⟨_,htd9⟩
   refine ⟨_,htd9,?_,?_⟩
   ·rw [length_append,length_map]
    exact Nat.lt_of_le_of_lt (show _<=3000 by omega) (by decide)
   rw [hPw];refine ⟨⟨_,_,rfl⟩,sx8.trans ((ai_.of s9).trans sx10),its++[un],?_,by rw [length_append];show its.length+1<=_;omega,?_⟩
   ·rw [ad_,map_append,<- append_assoc]
    rfl
   rw [take_succ,hdd];exact aM_ (Paired.mapP pit fun _ _ q=>(q.keep (ai_.of (xs:=[]) s9) (by simp)).keep sx10 ch9) (ItAt.keep sx10 ch9 ⟨dxu2,cv,e9,hpc,oV_ x _ (List.mem_reverse.mp (mem_of_getElem? hdd))⟩)
  simp! [tSeq,dS_,tBM,aY_,tFld,bz_];refine ⟨_,SqT.of hct8,_,rfl,rfl,?_⟩;by_cases hk:kk = .p false
  ·rw [if_pos hk] at fin
   rw [if_pos (by rw [hk];rfl)];exact ⟨_,_,_,hit8,T.cl_h,T.n_aG,_,rfl,.inl ⟨rfl,_,SqL.of hits⟩,_,SqT.of hct8,_,rfl,_,SqT.of hct8,_,rfl,bs_ rfl fun un dxu2 H9 hun s9 e9=>fin _ un dxu2 H9 hun s9 e9⟩
  rw [if_neg hk] at fin;have hk2 : ¬ ofString kk.w=ofString "part":=by
   cases kk with
   | p b=>cases b with
    | false=>exact absurd rfl hk
    | true=>left
   | n=>left
   | pw=>left
  rw [if_neg (by simp only [V.str.injEq];exact hk2)];exact ⟨.inl ⟨rfl,_,SqL.of hits⟩,_,SqT.of hct8,_,rfl,_,SqT.of hct8,_,rfl,bs_ rfl fun un dxu2 H9 hun s9 e9=>fin _ un dxu2 H9 hun s9 e9⟩
 rw [hPw] at q;obtain ⟨⟨z1,z2,rfl⟩,sx8,its,hits,hil8,pit⟩:=q;rw [length_map,hcl5,<- length_reverse (as:=aP_ x),take_length] at pit;simp! [tSeq];have n8 : ∀ {b:Addr}{o:HO},H6 b=some o->b≠td->H8 b=some o:=fun {b o} q nl=>sx8 _ _ (nin nl) q;have fc : ∀ b,H b=none->b≠td/\b≠pl:=fun b hb=>⟨fun z=>(by rw [z,htd] at hb;cases hb),fun z=>(by rw [z,hpl] at hb;cases hb)⟩;have hplc0:=none_of s1 hplc;have hc0:=none_of s02 hc;have hid0:H id=none:=by
  have q1:id≠pl:=fun z=>by rw [z,e4] at hid;cases hid
  exact none_of s03 (em_ sx4 (nin q1) hid)
 have up : ∀ {b:Addr}{o:HO},H3 b=some o->H b=none->H8 b=some o:=fun {b o} q hb=>n8 (s46 _ _ (sx4 _ _ (nin (fc b hb).2) q)) (fc b hb).1;refine k c dxc wlc plc id its.reverse b0 e0 H8 ?_ (up e3 hc0) (up (s3 _ _ (s2 _ _ e1)) hwlc) (up (s3 _ _ e2) hplc0) (n8 (s6 _ _ e5) (fc id hid0).1) ?_ (n8 (s46 _ _ e4) (Ne.symm ntp)) ?_ ?_ ?_
 ·exact (ai_.of s03).trans ((sx4.more (by simp)).trans ((ai_.of s46).trans (sx8.more (by simp))))
 ·have:=cL_ pit
  rw [reverse_reverse] at this;exact this
 ·rw [reverse_reverse]
  exact hits
 ·have m1:c≠wlc:=fun z=>by rw [z,s2 _ _ e1] at hc;cases hc
  have m2:c≠plc:=fun z=>by rw [z,e2] at hc;cases hc
  have m3:wlc≠plc:=fun z=>by rw [<- z,e1] at hplc;cases hplc
  have m4 : ∀ b o,H3 b=some o->H b=none->b≠id:=fun b o q hb z=>by rw [<- z,sx4 _ _ (nin (fc b hb).2) q] at hid;cases hid
  have m5:=m4 c _ e3 hc0;have m6:=m4 wlc _ (s3 _ _ (s2 _ _ e1)) hwlc;have m7:=m4 plc _ (s3 _ _ e2) hplc0;simp [m1,m2,m3,m5,m6,m7]
 intro b hb;simp only [mem_cons,not_mem_nil,or_false] at hb;rcases hb with rfl | rfl | rfl | rfl
 ·exact hc0
 ·exact hwlc
 ·exact hplc0
 exact hid0
inductive IAway (Cn:Addr) (H:Hp) (Q:VK):List V->Prop
 | mk (a aw:Addr) (x:Term) (tr:Tr) (F:List Addr) (away:List (List Nat)):Rep x tr->TreeAt Cn H a tr F->H aw=some (.lst ((away.map S).map V.str))->away.length<=700->szX x<=300->(∀ (p:Addr) (tr':Tr) (F':List Addr) (H':Hp),Same H H'->Rep (Vaunid.plainAway away x) tr'->TreeAt Cn H' p tr' F'->Q (.ref p) H')->IAway Cn H Q [.ref a,.ref aw]
def pw_ (Cn:Addr):Sp:=fun vs H Q _=>IAway Cn H Q vs
theorem ok_B (T:TX w K mg J):FnOk P w K mg base CX0 4 J.f_B J.d_B ["term","away"] (pw_ J.C_a):=by
 refine T.F_B.fn.ok sc_B fun _ _ _ _ H _ Q E hr h=>?_;obtain ⟨a,aw,x,tr,F,away,hrep,htr,haw,hal,hsz,k⟩:=h;refine ⟨_,(ab_ (aw_ 2 sc_B.nd (aO_ T.M_i (ok_i T) hr.m rfl T.G_i T.b_P .nil ao_ (aa_ (pv 1) ac_)))
  (ab_ (aw_ 3 sc_B.nd (aO_ T.M_a (ok_a T) hr.m rfl T.G_a T.b_s .nil ao_ (aa_ aq_ (aa_ (aE_ ac_) (aa_ (aE_ ac_) (aa_ (ah_ (pv 0) rfl) (aa_ (ah_ (pv 0) rfl) ac_)))))))
  (ab_ (aw_ 4 sc_B.nd (aE_ (aa_ (aO_ T.M_h (ok_h T) hr.m rfl T.G_h T.b_F .nil ao_ (aa_ aq_ (aa_ (pv 0) (aa_ (pv 3) (aa_ iH_ ac_))))) ac_)))
  (ab_ (bD_ PassesOwn.never (dm_ (pv 4) (fun _=>rfl)) (ab_ (aw_ 5 sc_B.nd (gY_ pla slp tlp g3_ (pv 4)))
  (ae_ (aG_ (ak_ bm_ (ah_ (pv 5) rfl) (pe_r T.g_ab) rfl) (ae_ (aB_ (aC_ T.F_C (ok_C T) hr.m ao_ (aa_ (pv 4) (aa_ (pv 5) ac_))))) (ae_ (aG_ (ak_ br_ (ah_ (pv 5) rfl) aq_ (as_ _)) (ab_ (aw_ 6 sc_B.nd (bf_ (pv 2) T.cl_i T.m_t (mu_ T) hr.m T.b_t .nil ao_))
  (ab_ (kD_ hr.u1 (ah_ (pv 5) rfl) (ah_ (pv 5) rfl) (pv 6) rfl)
  (ae_ (aB_ (bL_ pla sla tla ax_ (ah_ (ah_ (pv 5) rfl) rfl) (aa_ (pv 6) ac_)))))) (ae_ (aB_ (bL_ pla sla tla ax_ (ah_ (ah_ (pv 5) rfl) rfl) (aa_ (ah_ (pv 5) rfl) ac_))))))))))
  (ae_ (am_ (aQ_ aJ_ (ah_ (pv 3) rfl) aj_ (fun _ _=>rfl)))))))),?_⟩
 have hrep':=hrep;have htr':=htr;cases hrep with
 | @mk _ b e ps hps =>
 cases htr with
 | @mk _ dxn wl0 pl0 _ _ _ _ as _ G t1 t2 t3 t4 =>
 refine dE_ ?_;simp! [bz_];intro fo dxf hfo hdxf hnef;have sA:=aL_ (o1:=HO.own fo) (o2:=HO.ins J.C_i dxf []) hfo hdxf;refine ⟨fo,dxf,aw,rfl,ad_,?_⟩;rw [ew_];have hAf : ∀ H',H'=upd (upd H dxf (.own fo)) fo (.ins J.C_i dxf (frFs aw 0))->Same H H'/\H' fo=some (.ins J.C_i dxf (frFs aw 0)):=fun H' e=>by rw [e];exact ⟨aL_ hfo hdxf,ad_⟩
 generalize hgA:upd (upd H dxf (HO.own fo)) fo (HO.ins J.C_i dxf (frFs aw 0))=H1;obtain ⟨s1,e1⟩:=hAf H1 hgA.symm;clear hgA hAf sA;refine ⟨rfl,dE_ ?_⟩;simp! [bz_,tFld];refine ⟨zero_le _,fun wl hwl=>⟨zero_le _,fun pl hpl=>?_⟩⟩;have s2:Same H1 (upd H1 wl (.lst [])):=Same.upd hwl;have e2:upd H1 wl (.lst []) wl=some (.lst []):=ad_;generalize upd H1 wl (.lst [])=H2 at s2 e2 hpl ⊢;have s3:Same H2 (upd H2 pl (.lst [])):=Same.upd hpl;have e3:upd H2 pl (.lst []) pl=some (.lst []):=ad_;generalize upd H2 pl (.lst [])=H3 at s3 e3 ⊢;have s03:=s1.trans (s2.trans s3);refine ⟨_,_,_,s03 _ _ t1,T.cl_a,T.n_aE,_,rfl,_,_,_,s03 _ _ t1,T.cl_a,T.n_aO,_,rfl,?_⟩;refine bs_ rfl fun wh dxw H4 hwh s4 e4=>dE_ ?_;simp! [bz_,kb_];intro rd hrd;have s5:Same H4 (upd H4 rd (.dK [])):=Same.upd hrd;have e5:upd H4 rd (.dK []) rd=some (.dK []):=ad_;generalize upd H4 rd (.dK [])=H5 at s5 e5 ⊢;refine bs_ rfl fun it0 dx0 H6 hit0 s6 e6=>⟨by decide,fun td htd=>?_⟩;have s7:Same H6 (upd H6 td (.lst [.ref it0])):=Same.upd htd;have e7:upd H6 td (.lst [.ref it0]) td=some (.lst [.ref it0]):=ad_;generalize upd H6 td (.lst [.ref it0])=H7 at s7 e7 ⊢;have hbd:=i8_ x;obtain ⟨new0,hnew⟩ : ∃ new0,new0=Vaunid.vNames away (away.length+Vaunid.bindings x) 0 (Vaunid.bindings x):=⟨_,rfl⟩;have hnl:new0.length=Vaunid.bindings x:=by
  rw [hnew];exact cD_ away _ 0 _ away (by omega) (fun _ _ _ q=>q) (Nat.le_refl _)
 have hfr:=oN_ away (away.length+Vaunid.bindings x) 0 (Vaunid.bindings x);rw [<- hnew] at hfr;generalize hB:0+(away.length+Vaunid.bindings x)=B at hfr;have etgt:Vaunid.plainAway away x=(Vaunid.renamed [] new0 x).1:=by rw [hnew];rfl
 rw [etgt] at k;obtain ⟨tgt,htgt⟩ : ∃ tgt:Term,tgt = .one .fst (Vaunid.renamed [] new0 x).1:=⟨_,rfl⟩;have c17:=s2.trans (s3.trans (s4.trans (s5.trans (s6.trans s7))));have c37:=s4.trans (s5.trans (s6.trans s7));have c47:=s5.trans (s6.trans s7);have c57:=s6.trans s7;have s07:Same H H7:=s1.trans c17;have st0:PSt J.C_a J.C_h J.C_i H H7 td fo aw wh away B tgt { form:=Vaunid.txt "whole",y:=tgt,nw:=(Vaunid.renamed [] new0 x).2,env:=[],wi:=[],ws:=[],ts:=[],rest:=[(.p false,.inr x)] } [] [it0] [wh,wl,pl] [(rd,[])] new0:=by
  refine ⟨s07,?_,e7,⟨dxf,0,c17 _ _ e1,hfr⟩,by rw [htgt];rfl,fun z=>absurd rfl z,rfl,?_,?_,?_,?_⟩
  ·refine .bot (f:={ form:=Vaunid.txt "whole",y:=tgt,nw:=(Vaunid.renamed [] new0 x).2,env:=[],wi:=[],ws:=[],ts:=[],rest:=[(.p false,.inr x)] }) ⟨⟨dxw,b,e,?_⟩,c37 _ _ (s3 _ _ e2),⟨[],[],c37 _ _ e3,.nil,.nil⟩,.cons ⟨dx0,.ref a,s7 _ _ e6,⟨a,_,_,rfl,hrep',htr'⟩,rfl⟩ .nil⟩ (fun c m=>?_) rfl rfl
   ·rw [<- aF_]
    exact c47 _ _ e4
   rw [mem_singleton.mp m];intro z;cases z
  ·have c14:=s2.trans (s3.trans s4)
   have c46:=s5.trans s6;have a1:=af_ e1 hwl;have a2:=af_ (s2 _ _ e1) hpl;have a3:=af_ (s3 _ _ (s2 _ _ e1)) hwh;have a4:=af_ (c14 _ _ e1) hrd;have a5:=af_ (c46 _ _ (c14 _ _ e1)) htd;have b1:=af_ e2 hpl;have b2:=af_ (s3 _ _ e2) hwh;have b3:=af_ (s4 _ _ (s3 _ _ e2)) hrd;have b4:=af_ (c46 _ _ (s4 _ _ (s3 _ _ e2))) htd;have d1:=af_ e3 hwh;have d2:=af_ (s4 _ _ e3) hrd;have d3:=af_ (c46 _ _ (s4 _ _ e3)) htd;have f1:=af_ e4 hrd;have f2:=af_ (c46 _ _ e4) htd;have f3:=af_ (s6 _ _ e5) htd;simp [a1,a2,a3,a4,a5.symm,b1,b2.symm,b3,b4.symm,d1.symm,d2,d3.symm,f1,f2.symm,f3.symm]
  ·intro q m
   simp only [cons_append,nil_append,map_cons,map_nil,mem_cons,not_mem_nil,or_false] at m;rcases m with rfl | rfl | rfl | rfl | rfl | rfl
   ·exact none_of (s03.trans (s4.trans (s5.trans s6))) htd
   ·exact hfo
   ·exact none_of s03 hwh
   ·exact none_of s1 hwl
   ·exact none_of (s1.trans s2) hpl
   exact none_of (s03.trans s4) hrd
  ·intro p m
   rw [mem_singleton.mp m];exact ⟨[],c57 _ _ e5,DEnv.nil,by show 0+_<=600;omega⟩
  show Vaunid.bindings x+0+0<=_;omega
 obtain ⟨Pv,hPv⟩ : ∃ Pv:Nat->L2.St->Hp->Prop,Pv=fun m σ H'=>∃ f fs its own ds new z5 z6,m=msF (f::fs)/\m<=900/\σ=[some (.ref a),some (.ref aw),some (.ref fo),some (.ref wh),some (.ref td),z5,z6]/\PSt J.C_a J.C_h J.C_i H H' td fo aw wh away B tgt f fs its own ds new:=⟨_,rfl⟩;refine dE_ (b5_ Pv (3 * szX x+0+0) (by rw [hPv];exact ⟨_,_,_,_,_,_,none,none,rfl,by omega,rfl,st0⟩) fun m σ H' hp=>?_);rw [hPv] at hp;obtain ⟨f1,fs1,its,own1,ds1,new,z5,z6,rfl,hm,rfl,p1⟩:=hp;obtain ⟨f,fs,own,ds,p,hnorm,hms⟩:=p1.norm;rw [<- hms];rw [<- hms] at hm;clear p1 hms;obtain ⟨n,zk,zp,wlf,plf,od,id,Ff,zu,ds2,ha,hb,ei,eo,ed,eod⟩:=p.stk.top;have hil:=p.stk.len;have hto:=p.todo;simp! [tFld];by_cases hsk:its=[]
 ·refine ⟨false,.inl ⟨_,SqL.of hto,by rw [hsk];rfl⟩,?_⟩
  rw [if_neg (by simp)];have hi1:zk=[]:=(List.append_eq_nil_iff.mp (ei.symm.trans hsk)).1;have hr0:f.rest=[]:=List.length_eq_zero_iff.mp (by rw [<- Paired.length ha.items,hi1];rfl);have hfs:fs=[]:=hnorm.resolve_left fun z=>z hr0;subst hfs;obtain ⟨rfl,_⟩:=hb;have ey:f.y=tgt:=p.und;have ok:=p.ok;unfold RF.ok at ok;rw [hr0,ey,htgt] at ok;have ets:f.ts=[(Vaunid.renamed [] new0 x).1]:=congrArg (·.2.1) ok;obtain ⟨⟨dxn2,b2,e2',h1⟩,h2,⟨as2,trs,h3,h4,h5⟩,h6⟩:=ha;rw [ets] at h5;cases h5 with
  | cons r1 r2 =>
  cases r2;cases h4 with
  | cons q1 q2 =>
  cases q2;exact ⟨_,_,_,h1,T.cl_a,T.n_aA,_,rfl,_,rfl,_,SqL.of h3,_,rfl,k _ _ _ _ p.same r1 q1⟩
 refine ⟨true,.inl ⟨_,SqL.of hto,by cases its with | nil=>exact absurd rfl hsk | cons q r=>simp⟩,?_⟩;rw [if_pos rfl];refine ⟨_,fun _ _ z=>z,?_⟩;have hcase : ∃ c r it its1',f.rest=c::r/\zk=it::its1':=by
  cases hr0:f.rest with
  | nil =>
   have hfs:fs=[]:=hnorm.resolve_left fun z=>z hr0;subst hfs;have hi1:zk=[]:=List.length_eq_zero_iff.mp (by rw [Paired.length ha.items,hr0];rfl);obtain ⟨_,hi2,_⟩:=hb;exact absurd (by rw [ei,hi1,hi2];rfl) hsk
  | cons c r =>
  cases zk with
  | nil=>have:=Paired.length ha.items;rw [hr0] at this;cases this
  | cons it its1'=>exact ⟨c,r,it,its1',rfl,rfl⟩
 obtain ⟨c,r,it,its1',hr0,rfl⟩:=hcase;have hto':H' td=some (.lst ((its1'++zp).reverse.map V.ref++[.ref it])):=by
  rw [hto,ei,cons_append,reverse_cons,map_append];rfl
 refine bI_ (fun σ' H2=>σ'=[some (.ref a),some (.ref aw),some (.ref fo),some (.ref wh),some (.ref td),some (.ref it),z6]/\H2=upd H' td (.lst ((its1'++zp).reverse.map V.ref))) (fun X hX=>?_) (fun σ' H2 hh=>?_)
 ·simp! [tBM0,rPop]
  refine ⟨.inl ⟨rfl,_,SqL.of hto⟩,_,hto',V.ref it,by simp,?_⟩;rw [dropLast_concat];exact hX _ _ ⟨rfl,rfl⟩
 obtain ⟨rfl,rfl⟩:=hh;have sx1:ai_ [td] H' (upd H' td (.lst ((its1'++zp).reverse.map V.ref))):=ai_.upd (mem_singleton.mpr rfl);have ht1:upd H' td (.lst ((its1'++zp).reverse.map V.ref)) td=some (.lst ((its1'++zp).reverse.map V.ref)):=ad_;generalize upd H' td (.lst ((its1'++zp).reverse.map V.ref))=H8 at sx1 ht1 ⊢;simp! [tFld,dF_,tBM,aY_];have ha':=ha;obtain ⟨⟨dxn2,b2,e2',h1⟩,h2,⟨as2,trs,h3,h4,h5⟩,h6⟩:=ha';rw [hr0] at h6;cases h6 with
 | cons h7 h8 =>
 obtain ⟨dxu,v,hitv,hpc,hwk⟩:=h7;have nd:=p.nd;rw [eo,ed] at nd;obtain ⟨o1,o2,o3,o4⟩:=pdj nd;simp only [nodup_cons,mem_cons,not_or,not_mem_nil,not_false_eq_true,and_true,List.nodup_nil] at o3;obtain ⟨⟨a1,a2,a3,a4,a5⟩,⟨b1,b2x,b3,b4⟩,⟨c1,c2,c3⟩,⟨d1,d2⟩,ee1⟩:=o3;have lift : ∀ {q:Addr}{o:HO},H' q=some o->q≠td->H8 q=some o:=fun {q o} h n=>sx1 _ _ (nin n) h;have nl : ∀ {q:Addr}{o:HO},H' q=some o->(∀ l,¬ o = .lst l)->q≠td:=fun {q o} h n=>a7_ h hto' (n _);have hit8:=lift hitv (nl hitv (by intro l z;cases z));have hn8:=lift h1 (Ne.symm a2);have hw8:=lift h2 (Ne.symm a3);have hp8:=lift h3 (Ne.symm a4);have zr:=p.ok.len;have s08:Same H H8:=sx1.base p.same fun q m=>by rw [mem_singleton.mp m];exact p.fr td (mem_cons_self ..)
 obtain ⟨kk,pv⟩:=c;cases kk with
 | p bb =>
  cases pv with
  | inl wd=>cases hwk
  | inr t =>
  obtain ⟨ac,trt,Ft,rfl,hrt,htt⟩:=hpc;refine ⟨_,_,_,hit8,T.cl_h,T.n_aB,_,rfl,_,.inr (T.t_ab H8),rfl,rfl,?_⟩;have e5:inV (V.str (ofString (SK.p bb).w)) [V.str (ofString "part"),V.str (ofString "body")]=true:=by
   rw [aF_,ba_,in_S,decide_eq_true (by cases bb <;> left)]
  rw [e5,if_pos rfl];have edd:(if (SK.p bb)=SK.p false then od else id)=(if bb=false then od else id):=by cases bb <;> simp
  have hit9:H8 it=some (.ins J.C_h dxu (unFs (ofString (SK.p bb).w) (.ref ac) n (if bb=false then od else id))):=by rw [<- edd];exact hit8
  have env:(if bb=false then od else id,envB bb f)∈ds:=by
   unfold envB;cases bb with
   | false=>exact eod
   | true=>rw [ed];exact mem_cons_self ..
  obtain ⟨kv,k1,k2,k3⟩:=p.dct _ env;have k18:=lift k1 (nl k1 (by intro l z;cases z));refine ⟨td,it,ac,n,_,plf,dxu,wlf,dxn2,_,t,trt,Ft,H,kv,envB bb f,_,_,S f.form,(b2:Int),(e2':Int),hit9,s08,hrt,htt,hn8,hp8,?_,k18,k2,ht1,?_,a4,p.fr plf (by rw [eo];simp),p.fr td (mem_cons_self ..),fun c dxc wlc plc idc itsc b' e' H9 sx9 g1 g2 g3 g4 g5 g6 g7 g8 g9=>?_⟩
  ·rw [length_map,append_nil,h4.length,<- h5.length]
   omega
  ·rw [length_map,length_reverse]
   rw [ei,cons_append,length_cons] at hil;omega
  have pu:=p.push hr0 ha hb eo ed eod ((sx1.more (by simp)).trans sx9) h3 g1 g2 g3 g4 k1 g5 g6 g7 g8 fun q m=>em_ sx1 (fun z=>by
   have:=g9 q m;rw [mem_singleton.mp z,ht1] at this;cases this) (g9 q m)
  refine ⟨_,pu.2,?_⟩;rw [hPv];exact ⟨_,_,_,_,_,_,_,_,rfl,by have:=pu.2;omega,rfl,pu.1⟩
 | n =>
  cases pv with
  | inr t=>cases hwk
  | inl wd =>
  have hv:v = .str (S wd):=hpc;subst hv;refine ⟨_,_,_,hit8,T.cl_h,T.n_aB,_,rfl,_,.inr (T.t_ab H8),rfl,rfl,?_⟩;have e5:inV (V.str (ofString SK.n.w)) [V.str (ofString "part"),V.str (ofString "body")]=false:=by
   rw [aF_,ba_,in_S,decide_eq_false (by left)]
  rw [e5,if_neg (by simp)];refine ⟨_,_,_,hit8,T.cl_h,T.n_aB,_,rfl,rfl,?_⟩;rw [if_pos (by rfl)];obtain ⟨dxf2,i,f1,f2⟩:=p.gv;have f18:=lift f1 (nl f1 (by intro l z;cases z));have hnd:=p.need;have hnd2:cQ_ (f::fs)=1+ck_ r+cQ_ fs:=by show ck_ f.rest+cQ_ fs=_;rw [hr0];rfl
  cases new with
  | nil=>rw [hnd2] at hnd;simp at hnd
  | cons v0 l =>
  refine dE_ ?_;simp! [dF_];refine ⟨_,_,f18,rfl,fo,_,aw,i,B,away,v0,l,f18,s08 _ _ haw,f2,by omega,fun j hj=>dE_ ?_⟩;rw [if_neg (by intro z;cases z)] at hit8;obtain ⟨kv,k1,k2,k3⟩:=p.dct (id,f.wi) (by rw [ed];exact mem_cons_self ..);have k18:=lift k1 (Ne.symm a5);have sx9:ai_ [fo] H8 (upd H8 fo (.ins J.C_i dxf2 (frFs aw (j:Int)))):=ai_.upd (mem_singleton.mpr rfl);have e9:upd H8 fo (.ins J.C_i dxf2 (frFs aw (j:Int))) fo=some (.ins J.C_i dxf2 (frFs aw (j:Int))):=ad_;generalize upd H8 fo (.ins J.C_i dxf2 (frFs aw (j:Int)))=H9 at sx9 e9 ⊢;simp! [oa_,tFld,tBM,aY_];have it9:=sx9 _ _ (nin (a7_ hit8 f18 (by intro z;injection z with _ _ z;exact o9_ z))) hit8;have id9:=sx9 _ _ (nin (Ne.symm b4)) k18;have hkl:kv.length+(l.length+1)<=600:=k3;refine ⟨_,_,_,it9,T.cl_h,T.n_aG,_,rfl,_,_,_,it9,T.cl_h,T.n_aP,_,rfl,_,rfl,_,DPut.k (k:=Sum.inr (S wd)) id9 (Nat.lt_of_le_of_lt (show _<=600 by omega) (by decide)),?_⟩;have sx10:ai_ [id] H9 (upd H9 id (.dK (putK kv (Sum.inr (S wd)) (.str (S v0))))):=ai_.upd (mem_singleton.mpr rfl);have e10:upd H9 id (.dK (putK kv (Sum.inr (S wd)) (.str (S v0)))) id=some (.dK (putK kv (Sum.inr (S wd)) (.str (S v0)))):=ad_;generalize upd H9 id (.dK (putK kv (Sum.inr (S wd)) (.str (S v0))))=H10 at sx10 e10 ⊢;have it10:=sx10 _ _ (nin (a7_ it9 id9 (by intro z;cases z))) it9;have n10:=sx10 _ _ (nin c3) (sx9 _ _ (nin (Ne.symm b1)) hn8);have wl10:=sx10 _ _ (nin d2) (sx9 _ _ (nin (Ne.symm b2x)) hw8);refine ⟨_,_,_,it10,T.cl_h,T.n_aQ,_,rfl,_,rfl,_,_,_,n10,T.cl_a,T.n_aw,_,rfl,.inl ⟨rfl,_,SqL.of wl10⟩,_,rfl,_,wl10,by rw [length_map,length_map];exact Nat.lt_of_le_of_lt zr.1 (by decide),?_⟩
  have sx11:ai_ [wlf] H10 (upd H10 wlf (.lst ((f.ws.map S).map V.str++[.str (S v0)]))):=ai_.upd (mem_singleton.mpr rfl);have e11:upd H10 wlf (.lst ((f.ws.map S).map V.str++[.str (S v0)])) wlf=some (.lst ((f.ws.map S).map V.str++[.str (S v0)])):=ad_;generalize upd H10 wlf (.lst ((f.ws.map S).map V.str++[.str (S v0)]))=H11 at sx11 e11 ⊢;have hms1:msF (f::fs)=1+msC r+msF fs:=by show msC f.rest+msF fs=_;rw [hr0];rfl
  have ps:=p.step (f':={ f with rest:=r,ws:=f.ws++[v0],wi:=(wd,v0)::f.wi }) (new':=l) rfl rfl rfl rfl rfl (fun c m=>by rw [hr0];exact mem_cons_of_mem _ m) (fun z=>by
    subst z;obtain ⟨_,_,_,_,_,hno,_⟩:=hb;exact absurd rfl (hno (SK.n,.inl wd) (by rw [hr0];exact mem_cons_self ..)))
   ha hb eo ed ((sx1.more (by simp)).trans ((sx9.more (by simp)).trans ((sx10.more (by simp)).trans (sx11.more (by simp))))) h8 (by rw [e11,map_append,map_append];rfl)
   (sx11 _ _ (nin a3) (sx10 _ _ (nin a5) (sx9 _ _ (nin a1) ht1))) ⟨dxf2,j,sx11 _ _ (nin b2x) (sx10 _ _ (nin b4) e9),hj⟩ (by
    have ok:=p.ok;unfold RF.ok at ok;rw [hr0] at ok;exact ok)
   ⟨_,sx11 _ _ (nin (Ne.symm d2)) e10,k2.put wd v0,by have:=me_ kv (Sum.inr (S wd)) (.str (S v0));omega⟩ (le_succ _) (by
    rw [hnd2] at hnd;show ck_ r+cQ_ fs<=l.length;rw [length_cons] at hnd;omega)
  have hms2:msF ({ f with rest:=r,ws:=f.ws++[v0],wi:=(wd,v0)::f.wi }::fs)=msC r+msF fs:=rfl;refine ⟨msC r+msF fs,by omega,?_⟩;rw [hPv];exact ⟨_,_,_,_,_,_,_,_,hms2.symm,by omega,rfl,ps⟩
 | pw =>
 cases pv with
 | inr t=>cases hwk
 | inl wd =>
 have hv:v = .str (S wd):=hpc;subst hv;refine ⟨_,_,_,hit8,T.cl_h,T.n_aB,_,rfl,_,.inr (T.t_ab H8),rfl,rfl,?_⟩;have e5:inV (V.str (ofString SK.pw.w)) [V.str (ofString "part"),V.str (ofString "body")]=false:=by
  rw [aF_,ba_,in_S,decide_eq_false (by left)]
 rw [e5,if_neg (by simp)];refine ⟨_,_,_,hit8,T.cl_h,T.n_aB,_,rfl,rfl,?_⟩;rw [if_neg (by simp only [V.str.injEq];left)];obtain ⟨kv,k1,k2,k3⟩:=p.dct (id,f.wi) (by rw [ed];exact mem_cons_self ..);obtain ⟨dxf2,i,f1,f2⟩:=p.gv;refine ⟨_,_,_,hit8,T.cl_h,T.n_aQ,_,rfl,_,rfl,_,_,_,hn8,T.cl_a,T.n_aw,_,rfl,.inl ⟨rfl,_,SqL.of hw8⟩,_,_,_,hit8,T.cl_h,T.n_aP,_,rfl,_,rfl,_,hw8,by rw [length_map,length_map];exact Nat.lt_of_le_of_lt zr.1 (by decide),?_⟩;have sx11:ai_ [wlf] H8 (upd H8 wlf (.lst ((f.ws.map S).map V.str++[.str (S wd)]))):=ai_.upd (mem_singleton.mpr rfl);have e11:upd H8 wlf (.lst ((f.ws.map S).map V.str++[.str (S wd)])) wlf=some (.lst ((f.ws.map S).map V.str++[.str (S wd)])):=ad_;generalize upd H8 wlf (.lst ((f.ws.map S).map V.str++[.str (S wd)]))=H11 at sx11 e11 ⊢;have hms1:msF (f::fs)=1+msC r+msF fs:=by show msC f.rest+msF fs=_;rw [hr0];rfl
 have hnd:=p.need;have hnd2:cQ_ (f::fs)=ck_ r+cQ_ fs:=by show ck_ f.rest+cQ_ fs=_;rw [hr0];rfl
 have ps:=p.step (f':={ f with rest:=r,ws:=f.ws++[wd] }) (new':=new) rfl rfl rfl rfl rfl (fun c m=>by rw [hr0];exact mem_cons_of_mem _ m) (fun _=>rfl)
  ha hb eo ed ((sx1.more (by simp)).trans (sx11.more (by simp))) h8 (by rw [e11,map_append,map_append];rfl)
  (sx11 _ _ (nin a3) ht1) ⟨dxf2,i,sx11 _ _ (nin b2x) (lift f1 (Ne.symm a1)),f2⟩ (by
   have ok:=p.ok;unfold RF.ok at ok;rw [hr0] at ok;exact ok)
  ⟨_,sx11 _ _ (nin (Ne.symm d2)) (lift k1 (Ne.symm a5)),k2,k3⟩ (Nat.le_refl _) (by
   rw [hnd2] at hnd;exact hnd)
 have hms2:msF ({ f with rest:=r,ws:=f.ws++[wd] }::fs)=msC r+msF fs:=rfl;refine ⟨msC r+msF fs,by omega,?_⟩;rw [hPv];exact ⟨_,_,_,_,_,_,_,_,hms2.symm,by omega,rfl,ps⟩
theorem la_ {ns:List Int} (h : ∀ n∈ns,0<=n/\n<=255):ns.map V.int=bs (ns.map Int.toNat):=by
 unfold bs;rw [map_map];refine List.map_congr_left fun n hn=>?_;show V.int n=V.int ((n.toNat:Nat):Int);rw [Int.toNat_of_nonneg (h n hn).1]
theorem j7_ {ns:List Int} (h : ∀ n∈ns,0<=n/\n<=255):VaunidNeutral.text? ns=some (ns.map Int.toNat):=by
 unfold VaunidNeutral.text?;rw [if_pos];unfold NeutralIO.bytes;exact all_eq_true.mpr fun n hn=>by have:=h n hn;simp;omega
def fn_ (Cn:Addr):Sp:=fun vs H Q _=>∃ (a:Addr) (x:Term) (tr:Tr) (F:List Addr),vs=[.ref a]/\Rep x tr/\TreeAt Cn H a tr F/\szX x<=300/\GT x/\∀ H',Same H H'->Q (.str (S (coreText x))) H'
theorem ok_ad (T:TX w K mg J):FnOk P w K mg base CX0 12 J.f_ad J.d_ad ["term"] (fn_ J.C_a):=by
 refine T.F_ad.fn.ok sc_ad fun _ _ _ _ H _ Q E hr h=>?_;obtain ⟨a,x,tr,F,rfl,hrep,htr,hsz,hwb,k⟩:=h;refine ⟨_,(ae_ (am_ (aC_ T.F_H (ok_H T) hr.m ao_ (aa_ (pv 0) (aa_ (pe_r T.F_I.mg) ac_))))),?_⟩;simp! [tSeq,pn_];have zr:=mZ_ hwb;refine ⟨Term,fun y v _=>PcAt J.C_a H v (.inr y),pcsX,⟨fun _ _ _ _ _ h _ _=>h,fun y v H1 h s1=>?_,?_⟩,coreText,fun y=>14 * szX y,x,⟨a,tr,F,rfl,hrep,htr⟩,kP_,qf_,(show 14 * szX x<=1000000 by omega),by omega,k⟩
 ·obtain ⟨b,tb,G,rfl,_,hb⟩:=h
  cases hb with
  | @mk _ dxn wl pl _ _ _ _ as _ G t1 t2 t3 t4 =>
  exact ⟨_,.ins (s1 _ _ t1) T.cl_a T.ns_a.ha T.ns_a.hn T.ns_a.htk T.ns_a.hm,T.ns_a.ks⟩
 refine ⟨_,_,_,(ok_I (P:=P) (base:=base) T).mono (by decide),T.F_I.b,T.F_I.fn.kp,fun y v H1 Q E h s1 k1=>?_⟩;obtain ⟨b,tb,G,rfl,hr,hb⟩:=h;refine ⟨b,y,tb,G,H,rfl,s1,hr,hb,fun p us H2 hp s2 e2 pu=>k1 p us H2 hp s2 e2 (Paired.mapP pu fun _ c q=>?_)⟩;cases c with
 | inl w=>exact q
 | inr y=>exact q
def kl_ (Cn:Addr):Sp:=fun vs H Q _=>∃ (a:Addr) (x:Term) (tr:Tr) (F:List Addr),vs=[.ref a]/\Rep x tr/\TreeAt Cn H a tr F/\szX x<=300/\∀ (p:Addr) (tr':Tr) (F':List Addr) (H':Hp),Same H H'->Rep (Vaunid.plain x) tr'->TreeAt Cn H' p tr' F'->Q (.ref p) H'
theorem ok_ae (T:TX w K mg J):FnOk P w K mg base CX0 5 J.f_ae J.d_ae ["term"] (kl_ J.C_a):=by
 refine T.F_ae.fn.ok sc_ae fun _ _ _ _ H _ Q E hr h=>?_;obtain ⟨a,x,tr,F,rfl,hrep,htr,hsz,k⟩:=h;refine ⟨_,(ae_ (am_ (aC_ T.F_B (ok_B T) hr.m ao_ (aa_ (pv 0) (aa_ (aC_ T.F_z (ok_z T) hr.m ao_ (aa_ (pv 0) ac_)) ac_))))),?_⟩;simp! [tSeq,nh_];refine ⟨x,tr,hrep,F,htr,hsz,fun p H1 s1 e1=>?_⟩;have:=iZ_ x;exact ⟨a,p,x,tr,F,Vaunid.free x,hrep,htr.same s1,e1,by omega,hsz,fun q tr' F' H' s2 r2 t2=>k q tr' F' H' (s1.trans s2) r2 t2⟩
def kn_ (K:Frag):Sp:=fun vs H Q _=>∃ (a b:Addr) (s t:List Nat),vs=[.ref a,.ref b]/\SqL K H a (bs s)/\SqL K H b (bs t)/\Q (.bl (long s || long t)) H
theorem ok_aq (T:TX w K mg J):FnOk P w K mg base CX0 2 J.f_aq J.d_aq ["first","second"] (kn_ K):=by
 refine T.F_aq.fn.ok sc_aq fun _ _ _ _ H _ Q E hr h=>?_;obtain ⟨a,b,s,t,rfl,hs,ht,k⟩:=h;refine ⟨_,(ae_ (am_ (ok_ (dI_ g1_ (aA_ aD_ rfl T.b_len PySem.boot_len (aa_ (pv 0) ac_)) (pe_g T.g_aN) (as_ _)) (kK_ (dI_ g1_ (aA_ aD_ rfl T.b_len PySem.boot_len (aa_ (pv 1) ac_)) (pe_g T.g_aN) (as_ _)))))),?_⟩;have e1:long s=decide (2000<s.length):=rfl;have e2:long t=decide (2000<t.length):=rfl;rw [e1,e2] at k;simp! [tSeq];refine ⟨bs s,.inl hs,?_⟩;rw [b2_];refine ite2 (fun h=>?_) fun h=>?_
 ·rw [decide_eq_true (show 2000<s.length by omega)] at k
  exact k
 rw [decide_eq_false (show ¬ 2000<s.length by omega)] at k;refine ⟨bs t,.inl ht,?_⟩;rw [b2_,show decide ((2000:Int)<(t.length:Int))=decide (2000<t.length) by congr 1;exact propext ⟨fun h=>by omega,fun h=>by omega⟩];exact k
theorem bF_.same {Cn:Addr}{x:Term}{v:V}{H H':Hp} (h:bF_ Cn x v H) (s:Same H H'):bF_ Cn x v H':=by
 obtain ⟨b,tr,F,e,r,t,q⟩:=h;exact ⟨b,tr,F,e,r,t.same s,q⟩
def qB_ (P:Program) (w:World) (K:Frag) (mg:zM) (base:Heap) (Cn g:Addr) (ans:Term->Term->List Int):Prop:=∃ fd ps sp,FnOk P w K mg base CX0 20 g fd ps sp/\a8_ K fd ps []/\keepIn K (.ref g)=true /\
 ∀ x y v u H Q E,bF_ Cn x v H->bF_ Cn y u H->(∀ (p:Addr) (H':Hp),Same H H'->H' p=some (.lst ((ans x y).map V.int))->Q (.ref p) H')->sp [v,u] H Q E
def pv_ (P:Program) (w:World) (K:Frag) (mg:zM) (base:Heap) (Cn:Addr):Sp:=fun vs H Q _=>∃ (a b g:Addr) (s t:List Nat) (ans:Term->Term->List Int),vs=[.ref a,.ref b,.ref g]/\SqL K H a (bs s)/\SqL K H b (bs t)/\s.length<=10000/\t.length<=10000 /\
 qB_ P w K mg base Cn g ans/\∀ (p:Addr) (H':Hp),Same H H'->H' p=some (.lst ((reading (readCore s) fun x=>reading (Vaunid.second t) fun y=>ans x y).map V.int))->Q (.ref p) H'
theorem ok_O (T:TX w K mg J):FnOk P w K mg base CX0 21 J.f_O J.d_O ["first","second","answering"] (pv_ P w K mg base J.C_a):=by
 refine T.F_O.fn.ok sc_O fun _ _ _ _ H _ Q E hr h=>?_;obtain ⟨a,b,g,s,t,ans,rfl,hs,ht,hs1,ht1,hF,k⟩:=h;have G:FnOk P w K mg base (CX1 P w) 20 J.f_p J.d_p ["text"] (ni_ J.C_a J.C_c K):=(ok_p T).mono (by decide);refine ⟨_,(ab_ (ns_ (i:=4) (ts:=tRet (tLst (eB_ (hz_ K (tVar 4) "kind") (eB_ (hz_ K (tVar 4) "place") tNil)))) T.X_c rfl T.G_c (sc_O).nd rfl rfl rfl rfl
    (fun pn E' D hx=>ae_ (gU_ (i:=3) (sc_O).nd rfl (Or.inl rfl) (dJ_ G (hr.mono (by decide)) rfl T.F_p.mg T.F_p.fn.kp T.F_p.b .nil hx (aa_ (pv 0) ac_))))
    (fun a=>ae_ (am_ (aE_ (aa_ (f0_ (pv 4) rfl) (aa_ (f0_ (pv 4) rfl) ac_))))))
  (ab_ (ns_ (i:=4) (ts:=tRet (tLst (eB_ (tOp (rI0 fun i j => .int (i+j)) (hz_ K (tVar 4) "kind") (tC (.int 20))) (eB_ (hz_ K (tVar 4) "place") tNil)))) T.X_c rfl T.G_c (sc_O).nd rfl rfl rfl rfl
    (fun pn E' D hx=>ae_ (gU_ (i:=5) (sc_O).nd rfl (Or.inl rfl) (dJ_ G (hr.mono (by decide)) rfl T.F_p.mg T.F_p.fn.kp T.F_p.b .nil hx (aa_ (pv 1) ac_))))
    (fun a=>ae_ (am_ (aE_ (aa_ (a9_ bU_ (f0_ (pv 4) rfl) (pe_g T.g_a7)) (aa_ (f0_ (pv 4) rfl) ac_))))))
  (ae_ (am_ (cJ_ (CX:=CX0) (k:=20) 2 (hr.mono (by decide)) ao_ (aa_ (pv 3) (aa_ (pv 5) ac_))))))),?_⟩
 simp! [tSeq,eC_];refine ⟨a,s,rfl,hs,hs1,?_⟩;cases hrs:readCore s with
 | error e =>
  rw [hrs] at k;intro dx H' s' hdx;refine ⟨rfl,fun ax dx' e1 hax=>?_⟩;cases e1;have hne:dx≠ax:=af_ hdx hax;simp! [tSeq,hz_];have hd2:upd H' ax (XGot J.C_c ax dx) dx=some (XDic dx (h4_ (e.kind:Int) (e.place:Int))):=by rw [al_ hne];exact hdx
  exact ⟨_,_,_,rfl,_,hd2,T.X_c,T.n_a8,_,rfl,_,_,_,rfl,_,hd2,T.X_c,T.n_a9,_,rfl,by decide,fun p hp=>k p _ (s'.trans ((Same.upd hax).trans (Same.upd hp))) ad_⟩
 | ok x =>
 rw [hrs] at k;intro v H1 s1 hp1;refine ⟨b,t,rfl,s1.seq ht,ht1,?_⟩;unfold Vaunid.second at k;cases hrt:readCore t with
 | error e =>
  rw [hrt] at k;intro dx H' s' hdx;refine ⟨rfl,fun ax dx' e1 hax=>?_⟩;cases e1;have hne:dx≠ax:=af_ hdx hax;simp! [tSeq,hz_];have hd2:upd H' ax (XGot J.C_c ax dx) dx=some (XDic dx (h4_ (e.kind:Int) (e.place:Int))):=by rw [al_ hne];exact hdx
  exact ⟨_,_,_,rfl,_,hd2,T.X_c,T.n_a8,_,rfl,_,rfl,_,_,_,rfl,_,hd2,T.X_c,T.n_a9,_,rfl,by decide,fun p hp=>k p _ (s1.trans (s'.trans ((Same.upd hax).trans (Same.upd hp)))) ad_⟩
 | ok y =>
 rw [hrt] at k;intro u H2 s2 hp2;obtain ⟨fd2,ps2,sp2,F2,b2,k2,r2⟩:=hF;exact ⟨fd2,ps2,sp2,F2,b2,k2,r2 x y v u H2 _ _ (hp1.same s2) hp2 fun p H3 s3 e=>k p H3 (s1.trans (s2.trans s3)) e⟩
theorem iC_ (x:Term):szX (Vaunid.plain x)=szX x:=pg_ x _ _
theorem el_ (x:Term) (hs:szX x<=300) (h:GT x):GT (Vaunid.plain x):=by
 have h1:=i8_ x;have h2:=iZ_ x;refine p0_ x [] _ all0 (Fr.nw (by omega) (oN_ (Vaunid.free x) ((Vaunid.free x).length+Vaunid.bindings x) 0 (Vaunid.bindings x))) ?_ h;rw [cD_ (Vaunid.free x) _ 0 (Vaunid.bindings x) (Vaunid.free x) (by omega) (fun _ _ _ m=>m) (Nat.le_refl _)];exact Nat.le_refl _
def jg_ (Cn:Addr):Sp:=fun vs H Q _=>∃ (x y:Term) (v u:V),vs=[v,u]/\bF_ Cn x v H/\bF_ Cn y u H/\∀ (p:Addr) (H':Hp),Same H H'->H' p=some (.lst (([0,if alike x y=true then 1 else 0]:List Int).map V.int))->Q (.ref p) H'
theorem ok_ai (T:TX w K mg J):FnOk P w K mg base CX0 13 J.f_ai J.d_ai ["term","other"] (jg_ J.C_a):=by
 refine T.F_ai.fn.ok sc_ai fun _ _ _ _ H _ Q E hr h=>?_;obtain ⟨x,y,v,u,rfl,⟨a,tr,F,rfl,hrep,htr,hfl,hdp,hwb⟩,⟨b,tr',F',rfl,hrep',htr',hfl',hdp',hwb'⟩,k⟩:=h;refine ⟨_,(ab_ (aG_ (ak_ br_ (aC_ T.F_ad (ok_ad T) hr.m ao_ (aa_ (aC_ T.F_ae (ok_ae T) hr.m ao_ (aa_ (pv 0) ac_)) ac_)) (aC_ T.F_ad (ok_ad T) hr.m ao_ (aa_ (aC_ T.F_ae (ok_ae T) hr.m ao_ (aa_ (pv 1) ac_)) ac_)) (as_ _)) (ae_ (am_ (aE_ (aa_ aj_ (aa_ aj_ ac_))))) ap_)
  (ae_ (am_ (aE_ (aa_ aj_ (aa_ aj_ ac_)))))),?_⟩
 have hsz:szX x<=300:=by rw [<- np_ hrep 1];exact hfl
 have hsz':szX y<=300:=by rw [<- np_ hrep' 1];exact hfl'
 have ex:=iC_ x;have ey:=iC_ y;have eq:alike x y=decide (coreText (Vaunid.plain x)=coreText (Vaunid.plain y)):=by
  unfold alike;by_cases q:Vaunid.plain x=Vaunid.plain y
  ·rw [decide_eq_true q,decide_eq_true (by rw [q])]
  rw [decide_eq_false q,decide_eq_false fun z=>q (m0_ (el_ x hsz hwb) (el_ y hsz' hwb') z)]
 rw [eq] at k;simp! [tSeq,kl_,fn_,cl_];refine ⟨x,tr,hrep,F,htr,hsz,fun p t1 F1 H1 s1 r1 tt1=>⟨Vaunid.plain x,t1,r1,F1,tt1,by omega,el_ x hsz hwb,fun H2 s2=>?_⟩⟩;refine ⟨y,tr',hrep',F',htr'.same (s1.trans s2),hsz',fun p t3 F3 H3 s3 r3 tt3=>⟨Vaunid.plain y,t3,r3,F3,tt3,by omega,el_ y hsz' hwb',fun H4 s4=>?_⟩⟩;have sm:=s1.trans (s2.trans (s3.trans s4));by_cases q:coreText (Vaunid.plain x)=coreText (Vaunid.plain y)
 ·rw [if_pos q]
  rw [decide_eq_true q] at k;exact ⟨by decide,fun p hp=>k p _ (sm.trans (Same.upd hp)) ad_⟩
 rw [if_neg q];rw [decide_eq_false q] at k;exact ⟨by decide,fun p hp=>k p _ (sm.trans (Same.upd hp)) ad_⟩
def hD_ (f:List Int->List Int->List Int) (K:Frag):Sp:=fun vs H Q _=>∃ (a b:Addr) (ns ms:List Int),vs=[.ref a,.ref b]/\SqL K H a (ns.map V.int)/\SqL K H b (ms.map V.int)/\ns.length<=10000/\ms.length<=10000/\(∀ n∈ns,0<=n/\n<=255)/\(∀ n∈ms,0<=n/\n<=255)/\∀ (H':Hp) (p:Addr),H' p=some (.lst ((f ns ms).map V.int))->Q (.ref p) H'
theorem lv_ {ns ms:List Int} (h : ∀ n∈ns,0<=n/\n<=255) (h' : ∀ n∈ms,0<=n/\n<=255):PyVaunid.alike ns ms=if (long (ns.map Int.toNat) || long (ms.map Int.toNat))=true then [-1] else
  reading (readCore (ns.map Int.toNat)) fun x=>reading (Vaunid.second (ms.map Int.toNat)) fun y=>[0,if alike x y=true then 1 else 0]:=by
 have e:VaunidNeutral.callOf [[9],ns,ms]=some (.alike (ns.map Int.toNat) (ms.map Int.toNat)):=by
  show ((VaunidNeutral.text? ns).bind fun x=>(VaunidNeutral.text? ms).map fun y=>Vaunid.Call.alike x y)=_;rw [j7_ h,j7_ h'];rfl
 unfold PyVaunid.alike VaunidNeutral.step;rw [e];rfl
theorem ou_ (T:TX w K mg J):FnOk P w K mg base CX0 22 J.f_j J.d_j ["first","second"] (hD_ PyVaunid.alike K):=by
 refine T.F_j.fn.ok sc_j fun _ _ _ _ H _ Q E hr h=>?_;obtain ⟨a,b,ns,ms,rfl,ht,hu,hl,hl',hn,hn',k⟩:=h;refine ⟨_,(ab_ (aG_ (cq_ (aC_ T.F_aq (ok_aq T) hr.m ao_ (aa_ (pv 0) (aa_ (pv 1) ac_)))) (ae_ (am_ (aE_ (aa_ (pe_g T.g_a6) ac_)))) ap_)
  (ae_ (am_ (aC_ T.F_O (ok_O T) hr.m ao_ (aa_ (pv 0) (aa_ (pv 1) (aa_ (pe_r T.F_ai.mg) ac_))))))),?_⟩
 rw [la_ hn] at ht;rw [la_ hn'] at hu;rw [lv_ hn hn'] at k;simp! [tSeq,kn_];refine ⟨_,ht,_,hu,?_⟩;by_cases q:(long (ns.map Int.toNat) || long (ms.map Int.toNat))=true
 ·rw [if_pos q]
  rw [if_pos q] at k;exact ⟨by decide,fun p hp=>k _ p ad_⟩
 rw [if_neg q];rw [if_neg q] at k;exact ⟨a,b,_,_,_,_,rfl,ht,hu,by rw [length_map];omega,by rw [length_map];omega,⟨_,_,_,(ok_ai T).mono (by decide),T.F_ai.b,T.F_ai.fn.kp,fun x y v u H Q E h1 h2 h3=>⟨x,y,v,u,rfl,h1,h2,h3⟩⟩,fun p H' _ e=>k H' p e⟩
end
set_option maxHeartbeats 4000000
open PySem.W (Codec nsIn findIn)
def FnIn (K:Frag) (nm qual:Str) (st:Stmt) (f:Addr):Prop:=∃ (oc kV dc pm cd ct:Value) (od an:Option Addr) (sl:Array (Option Value)),K.lookup f=some ⟨oc,od,.func (fnOf nm qual (da_ st) (bQ_ st) (ag_ st) .none kV dc pm an cd ct),sl⟩/\codeIn K cd qual=true/\keepIn K (.ref f)=true
theorem FnIn.fn {K:Frag}{nm qual:Str}{st:Stmt}{f:Addr} (h:FnIn K nm qual st f) : ∃ d,Fun K nm qual st f d:=by
 obtain ⟨oc,kV,dc,pm,cd,ct,od,an,sl,l,c,k⟩:=h;exact ⟨_,nB_ l c k⟩
theorem mo {K:Frag}{h:Heap}{mg:zM} (X:K.In h) (G:h.Ns mainGlobals mg) {x:Str}{u:Value} (e:PySem.W.nsIn K mainGlobals x=some (some u)):mg x=some u:=PySem.W.mg_of X G e
theorem mn {K:Frag}{h:Heap}{mg:zM} (X:K.In h) (G:h.Ns mainGlobals mg) {x:Str} (e:PySem.W.nsIn K mainGlobals x=some none):mg x=none:=PySem.W.mg_none_of X G e
theorem ln0 {Q:List Value->Prop} (h:Q []) : ∀ us:List Value,us.length=0->Q us
 | [],_=>h
theorem lnS {n:Nat}{Q:List Value->Prop} (h : ∀ a us,us.length=n->Q (a::us)) : ∀ us:List Value,us.length=n+1->Q us
 | a::us,e=>h a us (Nat.succ.inj e)
theorem ln1 {Q:List Value->Prop} (h : ∀ a,Q [a]) : ∀ us:List Value,us.length=1->Q us:=lnS fun a=>ln0 (Q:=fun l=>Q (a::l)) (h a)
theorem ln2 {Q:List Value->Prop} (h : ∀ a b,Q [a,b]) : ∀ us:List Value,us.length=2->Q us:=lnS fun a=>ln1 (Q:=fun l=>Q (a::l)) (h a)
theorem ln3 {Q:List Value->Prop} (h : ∀ a b c,Q [a,b,c]) : ∀ us:List Value,us.length=3->Q us:=lnS fun a=>ln2 (Q:=fun l=>Q (a::l)) (h a)
theorem ln4 {Q:List Value->Prop} (h : ∀ a b c d,Q [a,b,c,d]) : ∀ us:List Value,us.length=4->Q us:=lnS fun a=>ln3 (Q:=fun l=>Q (a::l)) (h a)
theorem ln5 {Q:List Value->Prop} (h : ∀ a b c d e,Q [a,b,c,d,e]) : ∀ us:List Value,us.length=5->Q us:=lnS fun a=>ln4 (Q:=fun l=>Q (a::l)) (h a)
theorem ln6 {Q:List Value->Prop} (h : ∀ a b c d e f,Q [a,b,c,d,e,f]) : ∀ us:List Value,us.length=6->Q us:=lnS fun a=>ln5 (Q:=fun l=>Q (a::l)) (h a)
theorem _root_.Internal.L2.Fun.b {K:Frag}{x qual:Str}{st:Stmt}{f:Addr}{fd:FuncData}{ps:List Str} (F:Fun K x qual st f fd) (h : ∀ (kV doc pm:Value) (an:Option Addr) (cdv ct:Value) (us:List Value),us.length=ps.length->bindArgs (fnOf x qual (da_ st) (bQ_ st) (ag_ st) .none kV doc pm an cdv ct) ⟨us,[]⟩=pure (ps.zip us):=by
  intro _ _ _ _ _ _;first | exact ln1 fun _=>rfl | exact ln2 fun _ _=>rfl | exact ln3 fun _ _ _=>rfl | exact ln4 fun _ _ _ _=>rfl | exact ln5 fun _ _ _ _ _=>rfl | exact ln6 fun _ _ _ _ _ _=>rfl):a8_ K fd ps []:=F.binds h
theorem pP_ {K:Frag}{C:Addr} (h:mroIn K C (.type "str")=some false):kitOne K (.ref C) (.type "str")=some false:=by
 unfold kitOne PySem.W.kitCls;rw [if_neg (by intro z;simp at z)];show (if PySem.W.kitMeta "str"=true then PySem.W.subIn K (.ref C) (.type "str") else none)=_;rw [if_pos (by left)];unfold PySem.W.subIn;exact h
theorem eE_ {K:Frag}{H:Hp}{a:Addr}{od:Option Addr}{its:Array Value}{n:Nat}{sl:Array (Option Value)}{vs:List V} (l:K.lookup a=some ⟨.type "tuple",od,.seq its n,sl⟩) (v:Vals vs its.toList) (hs:vs.length<=sizeLine):SqT K H a vs :=
 .inr ⟨_,its,n,l,rfl,rfl,by rw [<- Array.length_toList,<- L2.Vals.length v];exact hs,v⟩
def adF (l:List Addr) (f:Fm):Addr:=l.getD f.ctorIdx 0
theorem pa_ {K:Frag}{H:Hp}{a:Addr}{f:Fm} (t:bG_ K a (f.kt.map fun s=>ofString s)):SqT K H a ((f.kt.map fun s=>ofString s).map V.str):=by
 obtain ⟨its,n,sl,l,v⟩:=t;exact eE_ l v (by cases f <;> (show _<=sizeLine;decide))
set_option hygiene false
local macro_rules
 | `($x ^^^ $y) => `(nsIn K mainGlobals $x=some (some $y))
local macro_rules
 | `($x ||| $y) => `(findIn K (.ref $x) $y=some none)
set_option hygiene true
theorem qh_ {P:Program}{w:World}{K:W.Frag}{h:Heap}{mg:zM}{fa:Addr} (X:K.In h) (G:h.Ns mainGlobals mg) (hfa:mg "alike"=some (.ref fa))
  {t_aI t_aV t_aW t_aX t_aY t_aZ t_aJ t_a0 t_aK t_a1 t_a2 t_aL t_a3 t_a4 t_a5 t_aM t_aN t_a6 t_a7:Tok}{a_at a_ar a_ab a_b ad_b_0 ad_b_1 ad_b_2 ad_b_3 ad_b_4 ad_b_5 ad_b_6 ad_b_7 ad_b_8 ad_b_9 ad_b_10 ad_b_11 ad_b_12 ad_b_13 ad_b_14 ad_b_15 ad_b_16 ad_b_17 ad_b_18 ad_b_19 ad_b_20 a_au a_av a_as C_c N_c C_a C_i C_h C_e C_d C_f C_g f_n f_s f_P f_t f_F f_A f_x f_Q f_k f_l f_q f_y f_G f_ac f_ad f_H f_I f_u f_z f_ae f_B f_C f_ak f_J f_m f_D f_K f_R f_S f_o f_al f_r f_af f_L f_v f_T f_U f_V f_W f_am f_an f_E f_ao f_M f_X f_N f_Y f_w f_ag f_ah f_p f_aj f_Z f_aa f_ap f_j f_aq f_O f_ai:Addr}{od_at od_ar od_ab od_au od_av od_as dd_c od_j an_j:Option Addr}{its_at its_ar its_ab its_au its_av its_as:Array Value}{n_at n_ar n_ab ep_b n_au n_av n_as:Nat}{sl_at sl_ar sl_ab sl_au sl_av sl_as sl_j:Array (Option Value)}{es_b:Array DictEntry}{nm_c qq_c:Str}{bs_c sub_c:List Value}{sn_c:List Str}{ab_c:Bool}{col_c:Option Bool}{x0_c x1_c x2_c x3_c x5_c:Option Value}{oc_j kV_j dc_j pm_j cd_j ct_j:Value}
  (g_aI:"MOST_DEPTH" ^^^ (.int 40 t_aI)) (g_aV:"MOST_NODES" ^^^ (.int 300 t_aV)) (g_at:"SPELLED_FORMS" ^^^ (.ref a_at)) (l_at:K.lookup a_at=some ⟨.type "tuple",od_at,.seq its_at n_at,sl_at⟩) (v_at:Vals [V.str "name",V.str "number"] its_at.toList) (g_ar:"PLAIN_FORMS" ^^^ (.ref a_ar)) (l_ar:K.lookup a_ar=some ⟨.type "tuple",od_ar,.seq its_ar n_ar,sl_ar⟩) (v_ar:Vals [V.str "true",V.str "false",V.str "nil"] its_ar.toList) (g_ab:"PART_KINDS" ^^^ (.ref a_ab)) (l_ab:K.lookup a_ab=some ⟨.type "tuple",od_ab,.seq its_ab n_ab,sl_ab⟩) (v_ab:Vals [V.str "part",V.str "body"] its_ab.toList) (g_b:"FORMS" ^^^ (.ref a_b)) (l_b:K.lookup a_b=some { cls := .type "dict",data := .dict es_b ep_b }) (p_b:Paired (im_ w) [("fn",V.ref ad_b_0),("rec",V.ref ad_b_1),("let",V.ref ad_b_2),("if",V.ref ad_b_3),("apply",V.ref ad_b_4),("pair",V.ref ad_b_5),("fst",V.ref ad_b_6),("snd",V.ref ad_b_7),("cons",V.ref ad_b_8),("case",V.ref ad_b_9),("fold",V.ref ad_b_10),("+",V.ref ad_b_11),("-",V.ref ad_b_12),("*",V.ref ad_b_13),("/",V.ref ad_b_14),("<",V.ref ad_b_15),("=",V.ref ad_b_16),("floor",V.ref ad_b_17),("rest",V.ref ad_b_18),("root",V.ref ad_b_19),("^",V.ref ad_b_20)] es_b.toList) (v_b_0:bG_ K ad_b_0 ["name","body"]) (v_b_1:bG_ K ad_b_1 ["name","name","body"]) (v_b_2:bG_ K ad_b_2 ["name","part","body"]) (v_b_3:bG_ K ad_b_3 ["part","part","part"]) (v_b_4:bG_ K ad_b_4 ["part","part"]) (v_b_5:bG_ K ad_b_5 ["part","part"]) (v_b_6:bG_ K ad_b_6 ["part"]) (v_b_7:bG_ K ad_b_7 ["part"]) (v_b_8:bG_ K ad_b_8 ["part","part"]) (v_b_9:bG_ K ad_b_9 ["part","part","name","name","body"]) (v_b_10:bG_ K ad_b_10 ["part","part","part"]) (v_b_11:bG_ K ad_b_11 ["part","part"]) (v_b_12:bG_ K ad_b_12 ["part","part"]) (v_b_13:bG_ K ad_b_13 ["part","part"]) (v_b_14:bG_ K ad_b_14 ["part","part"]) (v_b_15:bG_ K ad_b_15 ["part","part"]) (v_b_16:bG_ K ad_b_16 ["part","part"]) (v_b_17:bG_ K ad_b_17 ["part","part"]) (v_b_18:bG_ K ad_b_18 ["part","part"]) (v_b_19:bG_ K ad_b_19 ["part"]) (v_b_20:bG_ K ad_b_20 ["part","power"]) (z_b:(a_b == sysModules)=false) (g_aW:"BLANK" ^^^ (.int 32 t_aW)) (g_aX:"MEASURE_BEGIN" ^^^ (.int 91 t_aX)) (g_aY:"MEASURE_END" ^^^ (.int 93 t_aY)) (g_aZ:"MINUS" ^^^ (.int 45 t_aZ)) (g_au:"FRACTION_SIGNS" ^^^ (.ref a_au)) (l_au:K.lookup a_au=some ⟨.type "tuple",od_au,.seq its_au n_au,sl_au⟩) (v_au:Vals [V.int 46,V.int 47] its_au.toList) (g_aJ:"FIRST_PRINTED" ^^^ (.int 32 t_aJ)) (g_a0:"LAST_PRINTED" ^^^ (.int 126 t_a0)) (g_aK:"MOST_SIGNS" ^^^ (.int 12 t_aK)) (g_a1:"PRINTED" ^^^ (.str " !\"#$?&'()*+,-./0123456789:;<=>?@ABCDEFGHIJKLMNOPQRSTUVWXYZ[\\]^_`abcdefghijklmnopqrstuvwxyz{|}~" t_a1)) (g_av:"TAKEN_WORDS" ^^^ (.ref a_av)) (l_av:K.lookup a_av=some ⟨.type "tuple",od_av,.seq its_av n_av,sl_av⟩) (v_av:Vals [V.str "fn",V.str "let",V.str "rec",V.str "if",V.str "cons",V.str "case",V.str "pair",V.str "fst",V.str "snd",V.str "fold",V.str "root",V.str "floor",V.str "rest",V.str "true",V.str "false",V.str "nil",V.str "truth",V.str "num",V.str "list",V.str "base",V.str "unit",V.str "def",V.str "fun",V.str "in",V.str "then",V.str "else",V.str "match",V.str "with",V.str "and",V.str "or",V.str "not"] its_av.toList) (g_a2:"MOST_DIGITS" ^^^ (.int 12 t_a2)) (g_aL:"FIRST_TOO_GREAT" ^^^ (.int 1000000000000 t_aL)) (g_a3:"MOST_POWER_DIGITS" ^^^ (.int 2 t_a3)) (g_a4:"WORD_GROUP" ^^^ (.int 0 t_a4)) (g_a5:"NUMBER_GROUP" ^^^ (.int 1 t_a5)) (g_aM:"SIGN_GROUP" ^^^ (.int 2 t_aM)) (g_as:"CORE_SIGNS" ^^^ (.ref a_as)) (l_as:K.lookup a_as=some ⟨.type "tuple",od_as,.seq its_as n_as,sl_as⟩) (v_as:Vals [V.str "(",V.str ")",V.str "+",V.str "-",V.str "*",V.str "/",V.str "^",V.str "<",V.str "="] its_as.toList) (g_aN:"MOST_BYTES" ^^^ (.int 2000 t_aN)) (g_a6:"TEXT_TOO_LONG" ^^^ (.int (-1) t_a6)) (g_a7:"IN_SECOND_TEXT" ^^^ (.int 20 t_a7)) (b_all:nsIn K mainGlobals "all"=some none) (b_dict:nsIn K mainGlobals "dict"=some none) (b_enumerate:nsIn K mainGlobals "enumerate"=some none) (b_int:nsIn K mainGlobals "int"=some none) (b_isinstance:nsIn K mainGlobals "isinstance"=some none) (b_len:nsIn K mainGlobals "len"=some none) (b_list:nsIn K mainGlobals "list"=some none) (b_max:nsIn K mainGlobals "max"=some none) (b_ord:nsIn K mainGlobals "ord"=some none) (b_reversed:nsIn K mainGlobals "reversed"=some none) (b_str:nsIn K mainGlobals "str"=some none) (b_tuple:nsIn K mainGlobals "tuple"=some none) (G_c:"Fault" ^^^ (.ref C_c)) (a_n:findIn K (.ref C_c) "__init__"=some (some (.ref f_n))) (i_n:W.isFn K (.ref f_n)=true) (l_n:FnIn K "__init__" "Fault.__init__" s_n f_n) (kc_c:W.keepIn K (.ref C_c)=true) (hd_c:W.hasDictIn K C_c=true) (sa_c:findIn K (.ref C_c) "__setattr__"=some (some (.builtin "object.__setattr__"))) (lx_c:K.lookup C_c=some (excClassObj nm_c qq_c C_c N_c bs_c cX_ true sn_c sub_c ab_c col_c dd_c x0_c x1_c x2_c x3_c x5_c "Exception.__new__")) (ga_c:findIn K (.ref C_c) "__getattribute__"=some (some (.builtin "BaseException.__getattribute__"))) (gn_c:C_c ||| "__getattr__") (n_a8:C_c ||| "kind") (n_a9:C_c ||| "place") (G_a:"Node" ^^^ (.ref C_a)) (a_s:findIn K (.ref C_a) "__init__"=some (some (.ref f_s))) (i_s:W.isFn K (.ref f_s)=true) (l_s:FnIn K "__init__" "Node.__init__" s_s f_s) (kc_a:W.keepIn K (.ref C_a)=true) (hd_a:W.hasDictIn K C_a=true) (sa_a:findIn K (.ref C_a) "__setattr__"=some (some (.builtin "object.__setattr__"))) (pg_a:W.plainGet K C_a Str.empty=true) (po_a:W.plainOver K C_a=true) (mk_a:W.makesIn K C_a=true) (y1_a:findIn K (.ref C_a) "__class__"=some (some (.builtin "object.__class__"))) (y2_a:W.specialIn K (.builtin "object.__class__") "__get__"=some (some (.builtin "getset_descriptor.__get__"))) (y3_a:W.takesIn K (.builtin "object.__class__")=some true) (y4_a:W.mroIn K C_a (.type "object")=some true) (y5_a:W.mroIn K C_a (.type "str")=some false) (n_ax:C_a ||| "form") (n_aw:C_a ||| "words") (n_aA:C_a ||| "parts") (n_aE:C_a ||| "begin") (n_aO:C_a ||| "end") (G_i:"FreshNames" ^^^ (.ref C_i)) (a_P:findIn K (.ref C_i) "__init__"=some (some (.ref f_P))) (i_P:W.isFn K (.ref f_P)=true) (l_P:FnIn K "__init__" "FreshNames.__init__" s_P f_P) (a_t:findIn K (.ref C_i) "take"=some (some (.ref f_t))) (i_t:W.isFn K (.ref f_t)=true) (l_t:FnIn K "take" "FreshNames.take" s_t f_t) (kc_i:W.keepIn K (.ref C_i)=true) (hd_i:W.hasDictIn K C_i=true) (sa_i:findIn K (.ref C_i) "__setattr__"=some (some (.builtin "object.__setattr__"))) (pg_i:W.plainGet K C_i Str.empty=true) (po_i:W.plainOver K C_i=true) (mk_i:W.makesIn K C_i=true) (n_bc:C_i ||| "away") (n_aF:C_i ||| "tried") (G_h:"Uncopied" ^^^ (.ref C_h)) (a_F:findIn K (.ref C_h) "__init__"=some (some (.ref f_F))) (i_F:W.isFn K (.ref f_F)=true) (l_F:FnIn K "__init__" "Uncopied.__init__" s_F f_F) (kc_h:W.keepIn K (.ref C_h)=true) (hd_h:W.hasDictIn K C_h=true) (sa_h:findIn K (.ref C_h) "__setattr__"=some (some (.builtin "object.__setattr__"))) (pg_h:W.plainGet K C_h Str.empty=true) (po_h:W.plainOver K C_h=true) (mk_h:W.makesIn K C_h=true) (n_aB:C_h ||| "kind") (n_aP:C_h ||| "content") (n_aQ:C_h ||| "owner") (n_aG:C_h ||| "renamed") (G_e:"Amount" ^^^ (.ref C_e)) (a_A:findIn K (.ref C_e) "__init__"=some (some (.ref f_A))) (i_A:W.isFn K (.ref f_A)=true) (l_A:FnIn K "__init__" "Amount.__init__" s_A f_A) (kc_e:W.keepIn K (.ref C_e)=true) (hd_e:W.hasDictIn K C_e=true) (sa_e:findIn K (.ref C_e) "__setattr__"=some (some (.builtin "object.__setattr__"))) (pg_e:W.plainGet K C_e Str.empty=true) (po_e:W.plainOver K C_e=true) (mk_e:W.makesIn K C_e=true) (n_aR:C_e ||| "over") (n_aH:C_e ||| "under") (n_aS:C_e ||| "measure") (G_d:"Token" ^^^ (.ref C_d)) (a_x:findIn K (.ref C_d) "__init__"=some (some (.ref f_x))) (i_x:W.isFn K (.ref f_x)=true) (l_x:FnIn K "__init__" "Token.__init__" s_x f_x) (kc_d:W.keepIn K (.ref C_d)=true) (hd_d:W.hasDictIn K C_d=true) (sa_d:findIn K (.ref C_d) "__setattr__"=some (some (.builtin "object.__setattr__"))) (pg_d:W.plainGet K C_d Str.empty=true) (po_d:W.plainOver K C_d=true) (mk_d:W.makesIn K C_d=true) (n_be:C_d ||| "group") (n_ay:C_d ||| "kind") (n_aC:C_d ||| "begin") (n_aT:C_d ||| "end") (n_aD:C_d ||| "content") (G_f:"Row" ^^^ (.ref C_f)) (a_Q:findIn K (.ref C_f) "__init__"=some (some (.ref f_Q))) (i_Q:W.isFn K (.ref f_Q)=true) (l_Q:FnIn K "__init__" "Row.__init__" s_Q f_Q) (a_k:findIn K (.ref C_f) "upcoming"=some (some (.ref f_k))) (i_k:W.isFn K (.ref f_k)=true) (l_k:FnIn K "upcoming" "Row.upcoming" s_k f_k) (a_l:findIn K (.ref C_f) "take"=some (some (.ref f_l))) (i_l:W.isFn K (.ref f_l)=true) (l_l:FnIn K "take" "Row.take" s_l f_l) (a_q:findIn K (.ref C_f) "take_kind"=some (some (.ref f_q))) (i_q:W.isFn K (.ref f_q)=true) (l_q:FnIn K "take_kind" "Row.take_kind" s_q f_q) (kc_f:W.keepIn K (.ref C_f)=true) (hd_f:W.hasDictIn K C_f=true) (sa_f:findIn K (.ref C_f) "__setattr__"=some (some (.builtin "object.__setattr__"))) (pg_f:W.plainGet K C_f Str.empty=true) (po_f:W.plainOver K C_f=true) (mk_f:W.makesIn K C_f=true) (n_bd:C_f ||| "ahead") (n_ba:C_f ||| "index") (G_g:"Step" ^^^ (.ref C_g)) (a_y:findIn K (.ref C_g) "__init__"=some (some (.ref f_y))) (i_y:W.isFn K (.ref f_y)=true) (l_y:FnIn K "__init__" "Step.__init__" s_y f_y) (kc_g:W.keepIn K (.ref C_g)=true) (hd_g:W.hasDictIn K C_g=true) (sa_g:findIn K (.ref C_g) "__setattr__"=some (some (.builtin "object.__setattr__"))) (pg_g:W.plainGet K C_g Str.empty=true) (po_g:W.plainOver K C_g=true) (mk_g:W.makesIn K C_g=true) (n_az:C_g ||| "kind") (n_bb:C_g ||| "owner") (n_aU:C_g ||| "depth") (a_G:"numbered" ^^^ (.ref f_G)) (l_G:FnIn K "numbered" "numbered" s_G f_G) (a_ac:"check_limits" ^^^ (.ref f_ac)) (l_ac:FnIn K "check_limits" "check_limits" s_ac f_ac) (a_ad:"core_text" ^^^ (.ref f_ad)) (l_ad:FnIn K "core_text" "core_text" s_ad f_ad) (a_H:"unfolded" ^^^ (.ref f_H)) (l_H:FnIn K "unfolded" "unfolded" s_H f_H) (a_I:"core_pieces" ^^^ (.ref f_I)) (l_I:FnIn K "core_pieces" "core_pieces" s_I f_I) (a_u:"contents" ^^^ (.ref f_u)) (l_u:FnIn K "contents" "contents" s_u f_u) (a_z:"free_names" ^^^ (.ref f_z)) (l_z:FnIn K "free_names" "free_names" s_z f_z) (a_ae:"plain_form" ^^^ (.ref f_ae)) (l_ae:FnIn K "plain_form" "plain_form" s_ae f_ae) (a_B:"plain_form_away" ^^^ (.ref f_B)) (l_B:FnIn K "plain_form_away" "plain_form_away" s_B f_B) (a_C:"copy_node" ^^^ (.ref f_C)) (l_C:FnIn K "copy_node" "copy_node" s_C f_C) (a_ak:"leaf_words" ^^^ (.ref f_ak)) (l_ak:FnIn K "leaf_words" "leaf_words" s_ak f_ak) (a_J:"is_letter" ^^^ (.ref f_J)) (l_J:FnIn K "is_letter" "is_letter" s_J f_J) (a_m:"is_digit" ^^^ (.ref f_m)) (l_m:FnIn K "is_digit" "is_digit" s_m f_m) (a_D:"is_in_word" ^^^ (.ref f_D)) (l_D:FnIn K "is_in_word" "is_in_word" s_D f_D) (a_K:"is_short_word" ^^^ (.ref f_K)) (l_K:FnIn K "is_short_word" "is_short_word" s_K f_K) (a_R:"is_blank" ^^^ (.ref f_R)) (l_R:FnIn K "is_blank" "is_blank" s_R f_R) (a_S:"is_before_measure_end" ^^^ (.ref f_S)) (l_S:FnIn K "is_before_measure_end" "is_before_measure_end" s_S f_S) (a_o:"run_end" ^^^ (.ref f_o)) (l_o:FnIn K "run_end" "run_end" s_o f_o) (a_al:"sign_of" ^^^ (.ref f_al)) (l_al:FnIn K "sign_of" "sign_of" s_al f_al) (a_r:"signs_of" ^^^ (.ref f_r)) (l_r:FnIn K "signs_of" "signs_of" s_r f_r) (a_af:"number_end" ^^^ (.ref f_af)) (l_af:FnIn K "number_end" "number_end" s_af f_af) (a_L:"fraction_of" ^^^ (.ref f_L)) (l_L:FnIn K "fraction_of" "fraction_of" s_L f_L) (a_v:"lowest" ^^^ (.ref f_v)) (l_v:FnIn K "lowest" "lowest" s_v f_v) (a_T:"common_divisor" ^^^ (.ref f_T)) (l_T:FnIn K "common_divisor" "common_divisor" s_T f_T) (a_U:"is_measure" ^^^ (.ref f_U)) (l_U:FnIn K "is_measure" "is_measure" s_U f_U) (a_V:"is_factor" ^^^ (.ref f_V)) (l_V:FnIn K "is_factor" "is_factor" s_V f_V) (a_W:"is_power" ^^^ (.ref f_W)) (l_W:FnIn K "is_power" "is_power" s_W f_W) (a_am:"measured" ^^^ (.ref f_am)) (l_am:FnIn K "measured" "measured" s_am f_am) (a_an:"negated" ^^^ (.ref f_an)) (l_an:FnIn K "negated" "negated" s_an f_an) (a_E:"amount_text" ^^^ (.ref f_E)) (l_E:FnIn K "amount_text" "amount_text" s_E f_E) (a_ao:"core_tokens" ^^^ (.ref f_ao)) (l_ao:FnIn K "core_tokens" "core_tokens" s_ao f_ao) (a_M:"tokens_between" ^^^ (.ref f_M)) (l_M:FnIn K "tokens_between" "tokens_between" s_M f_M) (a_X:"core_gap_end" ^^^ (.ref f_X)) (l_X:FnIn K "core_gap_end" "core_gap_end" s_X f_X) (a_N:"core_token" ^^^ (.ref f_N)) (l_N:FnIn K "core_token" "core_token" s_N f_N) (a_Y:"word_token" ^^^ (.ref f_Y)) (l_Y:FnIn K "word_token" "word_token" s_Y f_Y) (a_w:"number_token" ^^^ (.ref f_w)) (l_w:FnIn K "number_token" "number_token" s_w f_w) (a_ag:"measure_at" ^^^ (.ref f_ag)) (l_ag:FnIn K "measure_at" "measure_at" s_ag f_ag) (a_ah:"sign_token" ^^^ (.ref f_ah)) (l_ah:FnIn K "sign_token" "sign_token" s_ah f_ah) (a_p:"core_term" ^^^ (.ref f_p)) (l_p:FnIn K "core_term" "core_term" s_p f_p) (a_aj:"go_on" ^^^ (.ref f_aj)) (l_aj:FnIn K "go_on" "go_on" s_aj f_aj) (a_Z:"begin_term" ^^^ (.ref f_Z)) (l_Z:FnIn K "begin_term" "begin_term" s_Z f_Z) (a_aa:"bracket_begin" ^^^ (.ref f_aa)) (l_aa:FnIn K "bracket_begin" "bracket_begin" s_aa f_aa) (a_ap:"leaf" ^^^ (.ref f_ap)) (l_ap:FnIn K "leaf" "leaf" s_ap f_ap) (a_j:"alike" ^^^ (.ref f_j)) (l_j:K.lookup f_j=some ⟨oc_j,od_j,.func (W.fnOf "alike" "alike" (da_ s_j) (bQ_ s_j) (ag_ s_j) .none kV_j dc_j pm_j an_j cd_j ct_j),sl_j⟩) (c_alike:W.codeIn K cd_j "alike"=true) (k_j:W.keepIn K (.ref f_j)=true) (a_aq:"is_either_too_long" ^^^ (.ref f_aq)) (l_aq:FnIn K "is_either_too_long" "is_either_too_long" s_aq f_aq) (a_O:"both_answered" ^^^ (.ref f_O)) (l_O:FnIn K "both_answered" "both_answered" s_O f_O) (a_ai:"alike_answer" ^^^ (.ref f_ai)) (l_ai:FnIn K "alike_answer" "alike_answer" s_ai f_ai)
  : ∃ fd:FuncData,(∀ (s:Shared) (us:List Value),us.length=(["first","second"]:List Str).length->BindsTo s fd ⟨us,[]⟩ ((["first","second"]:List Str).zip us))/\∀ base:Heap,K.In base->base.Ns mainGlobals mg->FnOk P w K mg base CX0 22 fa fd ["first","second"] (hD_ PyVaunid.alike K):=by
 have tu : ∀ f:Fm,bG_ K (adF [ad_b_0,ad_b_1,ad_b_2,ad_b_3,ad_b_4,ad_b_5,ad_b_6,ad_b_7,ad_b_8,ad_b_9,ad_b_10,ad_b_11,ad_b_12,ad_b_13,ad_b_14,ad_b_15,ad_b_16,ad_b_17,ad_b_18,ad_b_19,ad_b_20] f) (f.kt.map fun s=>ofString s):=fun f=>by cases f <;> assumption
 obtain ⟨d_n,F_n⟩:=l_n.fn;obtain ⟨d_s,F_s⟩:=l_s.fn;obtain ⟨d_P,F_P⟩:=l_P.fn;obtain ⟨d_t,F_t⟩:=l_t.fn;obtain ⟨d_F,F_F⟩:=l_F.fn;obtain ⟨d_A,F_A⟩:=l_A.fn;obtain ⟨d_x,F_x⟩:=l_x.fn;obtain ⟨d_Q,F_Q⟩:=l_Q.fn;obtain ⟨d_k,F_k⟩:=l_k.fn;obtain ⟨d_l,F_l⟩:=l_l.fn;obtain ⟨d_q,F_q⟩:=l_q.fn;obtain ⟨d_y,F_y⟩:=l_y.fn;obtain ⟨d_G,F_G⟩:=l_G.fn;obtain ⟨d_ac,F_ac⟩:=l_ac.fn;obtain ⟨d_ad,F_ad⟩:=l_ad.fn;obtain ⟨d_H,F_H⟩:=l_H.fn;obtain ⟨d_I,F_I⟩:=l_I.fn;obtain ⟨d_u,F_u⟩:=l_u.fn;obtain ⟨d_z,F_z⟩:=l_z.fn;obtain ⟨d_ae,F_ae⟩:=l_ae.fn;obtain ⟨d_B,F_B⟩:=l_B.fn;obtain ⟨d_C,F_C⟩:=l_C.fn;obtain ⟨d_ak,F_ak⟩:=l_ak.fn;obtain ⟨d_J,F_J⟩:=l_J.fn;obtain ⟨d_m,F_m⟩:=l_m.fn;obtain ⟨d_D,F_D⟩:=l_D.fn;obtain ⟨d_K,F_K⟩:=l_K.fn;obtain ⟨d_R,F_R⟩:=l_R.fn;obtain ⟨d_S,F_S⟩:=l_S.fn;obtain ⟨d_o,F_o⟩:=l_o.fn;obtain ⟨d_al,F_al⟩:=l_al.fn;obtain ⟨d_r,F_r⟩:=l_r.fn;obtain ⟨d_af,F_af⟩:=l_af.fn;obtain ⟨d_L,F_L⟩:=l_L.fn;obtain ⟨d_v,F_v⟩:=l_v.fn;obtain ⟨d_T,F_T⟩:=l_T.fn;obtain ⟨d_U,F_U⟩:=l_U.fn;obtain ⟨d_V,F_V⟩:=l_V.fn;obtain ⟨d_W,F_W⟩:=l_W.fn;obtain ⟨d_am,F_am⟩:=l_am.fn;obtain ⟨d_an,F_an⟩:=l_an.fn;obtain ⟨d_E,F_E⟩:=l_E.fn;obtain ⟨d_ao,F_ao⟩:=l_ao.fn;obtain ⟨d_M,F_M⟩:=l_M.fn;obtain ⟨d_X,F_X⟩:=l_X.fn;obtain ⟨d_N,F_N⟩:=l_N.fn;obtain ⟨d_Y,F_Y⟩:=l_Y.fn;obtain ⟨d_w,F_w⟩:=l_w.fn;obtain ⟨d_ag,F_ag⟩:=l_ag.fn;obtain ⟨d_ah,F_ah⟩:=l_ah.fn;obtain ⟨d_p,F_p⟩:=l_p.fn;obtain ⟨d_aj,F_aj⟩:=l_aj.fn;obtain ⟨d_Z,F_Z⟩:=l_Z.fn;obtain ⟨d_aa,F_aa⟩:=l_aa.fn;obtain ⟨d_ap,F_ap⟩:=l_ap.fn;have F_j:=nB_ (st:=s_j) l_j c_alike k_j;obtain ⟨d_aq,F_aq⟩:=l_aq.fn;obtain ⟨d_O,F_O⟩:=l_O.fn
 obtain ⟨d_ai,F_ai⟩:=l_ai.fn;have T:=(⟨⟨_,mo X G g_aI,_,rfl⟩,⟨_,mo X G g_aV,_,rfl⟩,mo X G g_at,fun _=>eE_ l_at v_at (by show 2<=sizeLine;decide),mo X G g_ar,fun _=>eE_ l_ar v_ar (by show 3<=sizeLine;decide),mo X G g_ab,fun _=>eE_ l_ab v_ab (by show 2<=sizeLine;decide),mo X G g_b,⟨adF [ad_b_0,ad_b_1,ad_b_2,ad_b_3,ad_b_4,ad_b_5,ad_b_6,ad_b_7,ad_b_8,ad_b_9,ad_b_10,ad_b_11,ad_b_12,ad_b_13,ad_b_14,ad_b_15,ad_b_16,ad_b_17,ad_b_18,ad_b_19,ad_b_20],⟨⟨es_b,ep_b,l_b,p_b⟩,mL_,z_b⟩,fun f H=>pa_ (tu f),tu⟩,⟨_,mo X G g_aW,_,rfl⟩,⟨_,mo X G g_aX,_,rfl⟩,⟨_,mo X G g_aY,_,rfl⟩,⟨_,mo X G g_aZ,_,rfl⟩,mo X G g_au,fun _=>eE_ l_au v_au (by show 2<=sizeLine;decide),⟨_,mo X G g_aJ,_,rfl⟩,⟨_,mo X G g_a0,_,rfl⟩,⟨_,mo X G g_aK,_,rfl⟩,⟨_,mo X G g_a1,_,rfl⟩,mo X G g_av,fun _=>eE_ l_av v_av (by show 31<=sizeLine;decide),⟨_,mo X G g_a2,_,rfl⟩,⟨_,mo X G g_aL,_,rfl⟩,⟨_,mo X G g_a3,_,rfl⟩,⟨_,mo X G g_a4,_,rfl⟩,⟨_,mo X G g_a5,_,rfl⟩,⟨_,mo X G g_aM,_,rfl⟩,mo X G g_as,fun _=>eE_ l_as v_as (by show 9<=sizeLine;decide),⟨_,mo X G g_aN,_,rfl⟩,⟨_,mo X G g_a6,_,rfl⟩,⟨_,mo X G g_a7,_,rfl⟩,mn X G b_all,mn X G b_dict,mn X G b_enumerate,mn X G b_int,mn X G b_isinstance,mn X G b_len,mn X G b_list,mn X G b_max,mn X G b_ord,mn X G b_reversed,mn X G b_str,mn X G b_tuple,mo X G G_c,F_n,F_n.b,nO_ lx_c a_n i_n kc_c ga_c gn_c sa_c hd_c,n_a8,n_a9,mo X G G_a,F_s,F_s.b,⟨pg_a,hd_a,po_a,sa_a⟩,⟨mk_a,a_s,i_s,kc_a⟩,⟨y1_a,y2_a,y3_a,y4_a,pP_ y5_a⟩,n_ax,n_aw,n_aA,n_aE,n_aO,mo X G G_i,F_P,F_P.b,F_t,F_t.b,⟨a_t,i_t,F_t.kp⟩,⟨pg_i,hd_i,po_i,sa_i⟩,⟨mk_i,a_P,i_P,kc_i⟩,n_bc,n_aF,mo X G G_h,F_F,F_F.b,⟨pg_h,hd_h,po_h,sa_h⟩,⟨mk_h,a_F,i_F,kc_h⟩,n_aB,n_aP,n_aQ,n_aG,mo X G G_e,F_A,F_A.b,⟨pg_e,hd_e,po_e,sa_e⟩,⟨mk_e,a_A,i_A,kc_e⟩,n_aR,n_aH,n_aS,mo X G G_d,F_x,F_x.b,⟨pg_d,hd_d,po_d,sa_d⟩,⟨mk_d,a_x,i_x,kc_d⟩,n_be,n_ay,n_aC,n_aT,n_aD,mo X G G_f,F_Q,F_Q.b,F_k,F_k.b,⟨a_k,i_k,F_k.kp⟩,F_l,F_l.b,⟨a_l,i_l,F_l.kp⟩,F_q,F_q.b,⟨a_q,i_q,F_q.kp⟩,⟨pg_f,hd_f,po_f,sa_f⟩,⟨mk_f,a_Q,i_Q,kc_f⟩,n_bd,n_ba,mo X G G_g,F_y,F_y.b,⟨pg_g,hd_g,po_g,sa_g⟩,⟨mk_g,a_y,i_y,kc_g⟩,n_az,n_bb,n_aU,⟨mo X G a_G,F_G,F_G.b⟩,⟨mo X G a_ac,F_ac,F_ac.b⟩,⟨mo X G a_ad,F_ad,F_ad.b⟩,⟨mo X G a_H,F_H,F_H.b⟩,⟨mo X G a_I,F_I,F_I.b⟩,⟨mo X G a_u,F_u,F_u.b⟩,⟨mo X G a_z,F_z,F_z.b⟩,⟨mo X G a_ae,F_ae,F_ae.b⟩,⟨mo X G a_B,F_B,F_B.b⟩,⟨mo X G a_C,F_C,F_C.b⟩,⟨mo X G a_ak,F_ak,F_ak.b⟩,⟨mo X G a_J,F_J,F_J.b⟩,⟨mo X G a_m,F_m,F_m.b⟩,⟨mo X G a_D,F_D,F_D.b⟩,⟨mo X G a_K,F_K,F_K.b⟩,⟨mo X G a_R,F_R,F_R.b⟩,⟨mo X G a_S,F_S,F_S.b⟩,⟨mo X G a_o,F_o,F_o.b⟩,⟨mo X G a_al,F_al,F_al.b⟩,⟨mo X G a_r,F_r,F_r.b⟩,⟨mo X G a_af,F_af,F_af.b⟩,⟨mo X G a_L,F_L,F_L.b⟩,⟨mo X G a_v,F_v,F_v.b⟩,⟨mo X G a_T,F_T,F_T.b⟩,⟨mo X G a_U,F_U,F_U.b⟩,⟨mo X G a_V,F_V,F_V.b⟩,⟨mo X G a_W,F_W,F_W.b⟩,⟨mo X G a_am,F_am,F_am.b⟩,⟨mo X G a_an,F_an,F_an.b⟩,⟨mo X G a_E,F_E,F_E.b⟩,⟨mo X G a_ao,F_ao,F_ao.b⟩,⟨mo X G a_M,F_M,F_M.b⟩,⟨mo X G a_X,F_X,F_X.b⟩,⟨mo X G a_N,F_N,F_N.b⟩,⟨mo X G a_Y,F_Y,F_Y.b⟩,⟨mo X G a_w,F_w,F_w.b⟩,⟨mo X G a_ag,F_ag,F_ag.b⟩,⟨mo X G a_ah,F_ah,F_ah.b⟩,⟨mo X G a_p,F_p,F_p.b⟩,⟨mo X G a_aj,F_aj,F_aj.b⟩,⟨mo X G a_Z,F_Z,F_Z.b⟩,⟨mo X G a_aa,F_aa,F_aa.b⟩,⟨mo X G a_ap,F_ap,F_ap.b⟩,⟨mo X G a_j,F_j,F_j.b⟩,⟨mo X G a_aq,F_aq,F_aq.b⟩,⟨mo X G a_O,F_O,F_O.b⟩,⟨mo X G a_ai,F_ai,F_ai.b⟩⟩:TX w K mg ⟨_,_,_,_,_,_,_,_,_,_,_,_,_,_,_,_,_,_,_,_,_,_,_,_,_,_,_,_,_,_,_,_,_,_,_,_,_,_,_,_,_,_,_,_,_,_,_,_,_,_,_,_,_,_,_,_,_,_,_,_,_,_,_,_,_,_,_,_,_,_,_,_,_,_,_,_,_,_,_,_,_,_,_,_,_,_,_,_,_,_,_,_,_,_,_,_,_,_,_,_,_,_,_,_,_,_,_,_,_,_,_,_,_,_,_,_,_,_,_,_,_,_,_,_,_,_,_,_,_,_,_,_,_⟩)
 have e:=hfa.symm.trans T.F_j.mg;cases e;refine ⟨_,?_,fun base _ _=>ou_ T⟩;exact fun s us hu=>match us,hu with | [_,_],_ => .of_eq rfl
end M
end Internal
set_option genInjectivity false in
set_option genSizeOfSpec false in
set_option genSizeOf false in
structure PySem.W.Fast:Prop where
 (tw5917172706364119757 tw17810021251132536761 tw16935055608553885935 tw13825791849379406150 tw5980208853743824328 tw7312198491592922167 tw1136723111002961871 tw4633562664873281428 tw9314435674423227992 tw17933800427041855234 tw11594650073283847595 tw10361689295932080455 tw13657787251334744218 tw6817672222722362445 tw17867536365219458844 tw12820027959122139200 tw7798111853479303456 tw12494196567353214488 tw16729836445142168533 tw517951769929861781 tw370497832450699061 tw12495767704285052350 tw11444224457774868399 tw17796026173121023693 tw953149649777271975 tw6643134710132772350 tw8031914731614704582 tw5591152810985126384 tw10015737248123468799 tw3811371584438353245 tw5042190187748544905 tw14691886876900789447 tw8566474907087395802 tw1364092405644120183 tw4553891013165974921 tw17990254581769014049 tw18437768742312283473 tw16238498179388468067 tw6138811093466841055 tw1584819766492619932 tw15888568389925061806 tw4505936540116073867 tw8350359810395254222 tw12952162419103981959 tw13335583182567346514 tw624826145182295650 tw12416497375876776544 tw16568670249159065384 tw5586245998543575343 tw5876345409145593808 tw15500572305003986428 tw1439046537974772095 tw8337122507682040601 tw5192228976517297558 tw9231929301171333575 tw17434337080390569760 tw39022700104463564 tw6836356497630195145 tw10152016452036107743 tw10044188818941338026 tw6737973957257447179 tw8984040056537933527 tw14242209376479321558 tw5111397516216467857 tw17839733744408065442 tw2401865402680187216 tw5560571151283251448 tw14146838172666333940 tw16554498084972031808 tw2192806218537508686 tw8072581377829715857 tw16068281823160853112 tw16106251192665737568 tw12053797836365066581 tw486054435107025019 tw8358508465189045130 tw13282478177067064132 tw3843261532870256838 tw15124369675220060295 tw10021688404580599820 tw16938522467644967754 tw7125412085088597514 tw486209009748795258 tw13978097322047433697 tw5230320098375729471 tw9645210642847392257 tw10137266096192786024 tw12357577923475309784 tw16459053083418064491 tw12839893651479415225 tw4069750991691694646 tw1482396734308921700 tw16242932943268262690 tw11031521987323556989 tw3572052054988486178 tw8775943324099872656 tw7275815088799692443 tw6169914517681071977 tw792265644974609886 tw16840604860261756313 tw12295574948636294122 tw13647978658434357253 tw4223047568632607275 tw10314443172312495847 tw14528272505417903124 tw5333082196136194292 tw435587096907317354 tw14014751378002125076 tw13739134581370284242 tw15082973620770440466 tw13596204571083001580 tw1216700414139421840 tw14340283887430104726 tw5633539224370149974 tw9871865623650697087 tw8250612100773601061 tw6311846037862782044 tw8585298129608187387 tw5943097840142755022 tw6501307789447891341 tw17028456955388052936 tw7266121907328167703 tw17999347538549171891 tw10158694094278509683 tw1801234196001994106 tw9710900818715970697 tw3687014825441628246 tw13741415831773055475 tw6392371986807495860 tw2095863737597314118 tw14804714100069023579 tw2881919053198763121 tw12612250909029719671 tw7238528683002833617 tw18087693841431771424 tw11954957672335361719 tw5321498487410927746 tw17212857500261958813 tw8475467413095300733 tw1332425142185043081 tw4747564976470708137 tw16662577043752393058 tw13288757473747120436 tw2867580382421085609 tw13385811555393394689 tw5185443883707216579 tw16184901900046174836 tw4778718451991941190 tw17156774672217987604 tw3700925670071385273 tw14116974895854409104 tw11899456505686382103 tw11628009285348387940 tw587571022380524317 tw1013944869580132726 tw9147939861933847080 tw9259132508219765048 tw11292521105452415743 tw17289422690970031302 tw13460969944485895017 tw12533087771132055152 tw7588489882795784106 tw7917001221186185365 tw2371828857450056675 tw17805245511112753762 tw5950519904521522748 tw6759593602307850673 tw18407544063715853903 tw9597899955100175051 tw10795185933627724421 tw2702388946143881230 tw15474317160633982496 tw10058760275319278709 tw1132846927137603158 tw11404256957794439713 tw13433972815778179872 tw12808259540341199657 tw5063510330865711618 tw11421710670510643148 tw3463999997892548298 tw5241821112149483425 tw3672613723095821755 tw10851580868643152321 tw9402500513242375797 tw11556723524817845017 tw1399853709111130864 tw7918464589331218330 tw18386385700000544206 tw3442762732441148392 tw3810298989768452743 tw17852304292607402988 tw4583916369511870815 tw207143743218787208 tw2439481452516928662 tw6125719966029733813 tw14567570704934681346 tw12584570151739109207 tw7343233781427760674 tw2602585945086846601 tw3090945680907366073 tw2619902164493555288 tw18393597214313473714 tw11212703421762898336 tw5970573597040834692 tw13462177382580418890 tw4673547126861388065 tw4039307851316602461 tw1084396417607135870 tw6175762334673331850 tw18197739745844634411 tw8948789106587924568 tw17596727102433543200 tw13185060611108739943 tw7413898183793985905 tw11247913242665141217 tw8970938701605553786 tw8995748337835636008 tw9252130902544886231 tw14896470444286256871 tw10289875952638538959 tw12182463055025159268 tw17938476680616983518 tw4745794880812191981 tw11504384580836731387 tw6616062234985143312 tw3899325722629833381 tw12568034552945309280 tw5228703774439099584 tw7833029064476295896 tw10772997757760419270 tw2886556239576392617 tw14524959432299398030 tw4576745676339378359 tw6489912423209409225 tw6159596459006362268 tw1320868720710631189 tw8950518358324537725 tw7017845847076172604 tw15136109796011851393 tw13495247847041075403 tw9543241560044313106 tw1638728555324508358 tw17150869596596382766 tw7055611790165583544 tw3407518455243160059 tw14516708927092833014 tw94555115031945651 tw5072291596719135485 tw8765604723399899387 tw930363192824631977 tw3281173384427855116 tw13539864357578823042 tw7804138121818597348 tw3556881428954584395 tw17694778289493925008 tw11121720311736773303 tw17250258822176592257 tw11129657917968878871 tw2098198344921139051 tw6785472136199804389 tw17414793799178384399 tw9127774721014562029 tw8698839510785598236 tw12106751841218607849 tw7925721378521198614 tw4234593928081247573 tw494739097740840676 tw6388963233207719772 tw6948423866338766714 tw16840359654569086426 tw9465020166152733893 tw17346184209445009618 tw3312489186513645985 tw16937685798877333614 tw1881069438206839765 tw7539740228082142595 tw5233191244453570551 tw16604232415174102490 tw13443164418492258966 tw3522177083888095785 tw16811955921429995931 tw11078417417455438470 tw16197964166927321016 tw16067181322040612842 tw6644959170091409324 tw7522421670345454582 tw13780991454621287200 tw10161004740189792909 tw16067891432977360167 tw17533086749978675120 tw3664050976509326118 tw6285911405906714740 tw7374352356123122370 tw5923449484317532607 tw3757159891164905293 tw9745029624339231441 tw16762373937342563627 tw13705131307384324721 tw4365807670866299859 tw8978457133228506041 tw15445153901693991795 tw18349768311251623617 tw11821887523938898183 tw10250151309572810575 tw15337434283663262258 tw16614086901765217812 tw3753075300102721700 tw9818835025442187428 tw10938473117942182543 tw14656690394823324760 tw3171140743739064877 tw17228055089002403512 tw14381349942581034306 tw18353330265791925216 tw9060295038870758223 tw7611988668540821936 tw15129378387864875935 tw6595970422108897625 tw12263314322241066924 tw4454925301290013850 tw975284345664830335 tw11594392456267791320 tw16911432288644985352 tw11336761071071655738 tw4287039621577758260 tw4265189596984713338 tw16850792677255738166 tw8871724094355495637 tw10716067053104911426 tw2636960978709552844 tw10792842999854332980 tw3567024277727904703 tw12207205376771184145 tw4002144059698694876 tw4709116067894437547 tw10420716568960763733 tw2532226566450202767 tw12868160117837343784 tw851766722892690302 tw15595940997494746150 tw2885395822076966815 tw7145023360681226087 tw15296077217144057876 tw13856890745757852720 tw18206350718599984656 tw10469414781782188820 tw16101450463406021461 tw779388154531012828 tw12820916167751587065 tw1587232804092576865 tw3274571458553555863 tw17065207952769728192 tw2923724334390975484 tw2916807579709073295 tw5277789787885512680 tw8485608761120878842 tw2780925920793414729 tw14551353194358727665 tw11400206290586301844 tw17402122177155757233 tw12709063645810412296 tw18044642297341322769 tw6461751987871916611 tw15802091587484819832 tw10385140343144025545 tw12420333373515576938 tw10995209323120053081 tw14892779651836947539 tw3313575070067051371 tw18165150758676130212 tw10395156842702182953 tw15755112027839750109 tw17390794102210412957 tw14602102476044906243 tw8863325594991684285 tw2721378865981223461 tw8136107770229314542 tw2588293958516610085 tw1623923812277762824 tw14673354631529892577 tw17395305097165216917 tw11589142835144371765 tw9790196306420573820 tw10963185486399121914 tw3625403428723262109 tw1196675365614130430 tw3150642441364909294 tw4249798315105249065 tw13584294198269145092 tw17677228412867407197 tw17464503955666175181 tw9919029894201599190 tw17281957248338825295 tw14222893853886326720 tw14609650657816623737 tw11294166333587231509 tw578459426758012324 tw17264511486943099813 tw17721980578207322049 tw3414905599357955167 tw16537441612704270517 tw2936480321941703705 tw8733820157656601541 tw7744962727787514672 tw17356380459443540174 tw217857198061695689 tw16662445962021511305 tw6984796212954847198 tw14649624869594659186 tw18047742625144990375 tw12365123678482723051 tw14625538240197129328 tw12985406800678503961 tw5138654611142131007 tw9500269761515157717 tw14176013491490615413 tw17636026232376269510 tw13389938526949722884 tw11263746827115995946 tw17449410772023966207 tw6271271543037098620 tw14642737322091665252 tw11266081493060805500 tw6274724812046343952 tw1286267749781986036 tw4202433256425074743 tw11439389501683785304 tw17335182001207754753 tw2978453752015218187 tw6781025939301998160 tw16524421133320432099 tw479336483175529766 tw11099957311676551510 tw417228110308683857 tw664831974218654754 tw4665521861266042998 tw14858841125362530928 tw2232972043763809171 tw9917912662421984309 tw11880146132164349193 tw8586474953230367715 tw6819588701375703467 tw2132169337882846430 tw17172756530015141066 tw959681392918112365 tw5631283630868412458 tw545436138929610031 tw10423277464905064926 tw9324942083368954809 tw11367171923792971728 tw11592023302748333433 tw414717582757494788 tw11057841315285020656 tw17871938149905622525 tw3831078421758132138 tw10310922878332350513 tw11721741878577054799 tw8674199149515987398 tw12039798444948439823 tw1062854873136300181 tw2013973822987167905 tw10278843956899253896 tw10113081111352998761 tw190012305373715919 tw16855909331632091661 tw3143308197678661277 tw14579736957377234981 tw6774216243078422111 tw10282019380887380717 tw3853953123335026195 tw13302524072729870226 tw18383291791085954220 tw12579231480256330968 tw2031142832590497434 tw16379857509087891616 tw14314678363101032230 tw14985172752021569893 tw7402653530415423830 tw3676134729921389671 tw12376912040808228750 tw10817892369145339383 tw15165999763612007465 tw3426126874565036011 tw3633172577337283712 tw6189843236962121649 tw11299368494280118346 tw5147824819483283163 tw1823637840553663576 tw13557738649443841735 tw12016273934347920966 tw7193229427275635960 tw6113554173454830804 tw13151629316873199712 tw8360304403532111693 tw5633941759029555139 tw13275275399609216544 tw2895639856653968881 tw9169088752632571378 tw9004332203796275932 tw8162130228374083575 tw12678881510656439232 tw17591525365987281945 tw7983719337477897302 tw12089785182952986698 tw4900340854841146782 tw17007048707238526272 tw13866906894120930830 tw665047443882121742 tw6589527983342029098 tw8623859392803137988 tw1329260789778782614 tw3974838743068953125 tw3989269190177113615 tw16858987691296619502 tw7030726943058420134 tw2726422590370558994 tw6104952073360263693 tw6662490136984632757 tw10848939373344793227 tw13453228804854033970 tw18041067207924137978 tw11586701370743158699 tw11609279077858640945 tw7834603460007725318 tw5720628106572238536 tw13173872978575774013 tw3530000463458970575 tw18347971478417720836 tw13443383890935010078 tw15243977930551579339:True)
open PySem PySem.W PyProof.Rows
set_option maxRecDepth 100000 in
set_option maxHeartbeats 0 in
theorem PySem.Challenge.cw_measuretext_s10_alike_holds : PySem.Challenge.rw_measuretext_s10_alike.Holds := by
 w_on;k_headS;(case hw=>exact ⟨[.list [],.list []],by left,by left⟩)
 k_fillS
 refine L2.jb_ (r:=PySem.Challenge.rw_measuretext_s10_alike) (k:=22) (CX:=L2.CX0) (ps:=["first","second"]) (sp:=M.hD_ PyVaunid.alike) (by left) rfl rfl ⟨rfl,by decide,by decide⟩ (fun w h Y=>PySem.W.kIn_of Y) ?F ?S (fun _ _ _ _ z=>z)
 case F =>
  intro w mg fa h Y KX G hmg;refine' M.qh_ KX G hmg ?a0 ?a1 ?a2 ?a3 ?a4 ?a5 ?a6 ?a7 ?a8 ?a9 ?a10 ?a11 ?a12 ?a13 ?a14 ?a15 ?a16 ?a17 ?a18 ?a19 ?a20 ?a21 ?a22 ?a23 ?a24 ?a25 ?a26 ?a27 ?a28 ?a29 ?a30 ?a31 ?a32 ?a33 ?a34 ?a35 ?a36 ?a37 ?a38 ?a39 ?a40 ?a41 ?a42 ?a43 ?a44 ?a45 ?a46 ?a47 ?a48 ?a49 ?a50 ?a51 ?a52 ?a53 ?a54 ?a55 ?a56 ?a57 ?a58 ?a59 ?a60 ?a61 ?a62 ?a63 ?a64 ?a65 ?a66 ?a67 ?a68 ?a69 ?a70 ?a71 ?a72 ?a73 ?a74 ?a75 ?a76 ?a77 ?a78 ?a79 ?a80 ?a81 ?a82 ?a83 ?a84 ?a85 ?a86 ?a87 ?a88 ?a89 ?a90 ?a91 ?a92 ?a93 ?a94 ?a95 ?a96 ?a97 ?a98 ?a99 ?a100 ?a101 ?a102 ?a103 ?a104 ?a105 ?a106 ?a107 ?a108 ?a109 ?a110 ?a111 ?a112 ?a113 ?a114 ?a115 ?a116 ?a117 ?a118 ?a119 ?a120 ?a121 ?a122 ?a123 ?a124 ?a125 ?a126 ?a127 ?a128 ?a129 ?a130 ?a131 ?a132 ?a133 ?a134 ?a135 ?a136 ?a137 ?a138 ?a139 ?a140 ?a141 ?a142 ?a143 ?a144 ?a145 ?a146 ?a147 ?a148 ?a149 ?a150 ?a151 ?a152 ?a153 ?a154 ?a155 ?a156 ?a157 ?a158 ?a159 ?a160 ?a161 ?a162 ?a163 ?a164 ?a165 ?a166 ?a167 ?a168 ?a169 ?a170 ?a171 ?a172 ?a173 ?a174 ?a175 ?a176 ?a177 ?a178 ?a179 ?a180 ?a181 ?a182 ?a183 ?a184 ?a185 ?a186 ?a187 ?a188 ?a189 ?a190 ?a191 ?a192 ?a193 ?a194 ?a195 ?a196 ?a197 ?a198 ?a199 ?a200 ?a201 ?a202 ?a203 ?a204 ?a205 ?a206 ?a207 ?a208 ?a209 ?a210 ?a211 ?a212 ?a213 ?a214 ?a215 ?a216 ?a217 ?a218 ?a219 ?a220 ?a221 ?a222 ?a223 ?a224 ?a225 ?a226 ?a227 ?a228 ?a229 ?a230 ?a231 ?a232 ?a233 ?a234 ?a235 ?a236 ?a237 ?a238 ?a239 ?a240 ?a241 ?a242 ?a243 ?a244 ?a245 ?a246 ?a247 ?a248 ?a249 ?a250 ?a251 ?a252 ?a253 ?a254 ?a255 ?a256 ?a257 ?a258 ?a259 ?a260 ?a261 ?a262 ?a263 ?a264 ?a265 ?a266 ?a267 ?a268 ?a269 ?a270 ?a271 ?a272 ?a273 ?a274 ?a275 ?a276 ?a277 ?a278 ?a279 ?a280 ?a281 ?a282 ?a283 ?a284 ?a285 ?a286 ?a287 ?a288 ?a289 ?a290 ?a291 ?a292
  case a0 | a1 | a2 | a3 | a4 | a5 | a6 | a7 | a8 | a9 | a10 | a11 | a12 | a13 | a14 | a15 | a16 | a17 | a18 | a19 | a20 | a21 | a22 | a23 | a24 | a25 | a26 | a27 | a28 | a29 | a30 | a31 | a32 | a33 | a34 | a35 | a36 | a37 | a38 | a39 | a40 | a41 | a42 | a43 | a44 | a45 | a46 | a47 | a48 | a49 | a50 | a51 | a52 | a53 | a54 | a55 | a56 | a57 | a58 | a59 | a60 | a61 | a62 | a63 | a64 | a65 | a66 | a67 | a68 | a69 | a70 | a71 | a72 | a73 | a74 | a75 | a76 | a77 | a78 | a79 | a80 | a81 | a82 | a83 | a84 | a85 | a86 | a87 | a88 | a89 | a90 | a91 | a92 | a93 | a94 | a95 | a96 | a97 | a98 | a99 | a100 | a101 | a102 | a103 | a104 | a105 | a106 | a107 | a108 | a109 | a110 | a111 | a112 | a113 | a114 | a115 | a116 | a117 | a118 | a119 | a120 | a121 | a122 | a123 | a124 | a125 | a126 | a127 | a128 | a129 | a130 | a131 | a132 | a133 | a134 | a135 | a136 | a137 | a138 | a139 | a140 | a141 | a142 | a143 | a144 | a145 | a146 | a147 | a148 | a149 | a150 | a151 | a152 | a153 | a154 | a155 | a156 | a157 | a158 | a159 | a160 | a161 | a162 | a163 | a164 | a165 | a166 | a167 | a168 | a169 | a170 | a171 | a172 | a173 | a174 | a175 | a176 | a177 | a178 | a179 | a180 | a181 | a182 | a183 | a184 | a185 | a186 | a187 | a188 | a189 | a190 | a191 | a192 | a193 | a194 | a195 | a196 | a197 | a198 | a199 | a200 | a201 | a202 | a203 | a204 | a205 | a206 | a207 | a208 | a209 | a210 | a211 | a212 | a213 | a214 | a215 | a216 | a217 | a218 | a219 | a220 | a221 | a222 | a223 | a224 | a225 | a226 | a227 | a228 | a229 | a230 | a231 | a232 | a233 | a234 | a235 | a236 | a237 | a238 | a239 | a240 | a241 | a242 | a243 | a244 | a245 | a246 | a247 | a248 | a249 | a250 | a251 | a252 | a253 | a254 | a255 | a256 | a257 | a258 | a259 | a260 | a261 | a262 | a263 | a264 | a265 | a266 | a267 | a268 | a269 | a270 | a271 | a272 | a273 | a274 | a275 | a276 | a277 | a278 | a279 | a280 | a281 | a282 | a283 | a284 | a285 | a286 | a287 | a288 | a289 | a290 | a291 | a292=>first | k_is | (exact ⟨_,_,_,_,_,_,_,_,_,by k_is,by k_is,by k_is⟩) | (exact ⟨_,_,_,by k_is,by ((repeat (refine .cons ⟨_,rfl⟩ ?_));exact .nil)⟩) | ((repeat (refine .cons ⟨_,rfl⟩ ?_));exact .nil) | decide | ((repeat (refine .cons ⟨rfl,⟨_,rfl⟩,rfl⟩ ?_));exact .nil) | ((repeat (refine .cons ⟨rfl,⟨_,rfl⟩,⟨_,rfl⟩⟩ ?_));exact .nil)
 case S =>
  intro K H xs a hO hwi hask hx;cases hx with
  | cons h1 h2 =>
  cases h2 with
  | cons h2 h3 =>
  cases h3;cases h1 with
  | lst hs ha =>
  cases h2 with
  | lst hs2 ha2 =>
  have e:=L2.hW_ a.1 _ ha;subst e;have e2:=L2.hW_ a.2.1 _ ha2;subst e2;have q:((Codec.inLen 0 10000 a.1 && a.1.all (Codec.inInt 0 255)) && ((Codec.inLen 0 10000 a.2.1 && a.2.1.all (Codec.inInt 0 255)) && true))=true:=hwi;rw [and_eq_true,and_eq_true,and_eq_true,and_eq_true] at q;have by_ : ∀ {l:List Int},l.all (Codec.inInt 0 255)=true->∀ n∈l,0<=n/\n<=255:=fun {l} z n hn=>by
   have:=all_eq_true.mp z n hn;unfold Codec.inInt at this;simpa using this
  exact ⟨_,_,a.1,a.2.1,rfl,hs,hs2,(Codec.inNat_iff.mp q.1.1).2,(Codec.inNat_iff.mp q.2.1.1).2,by_ q.1.2,by_ q.2.1.2,fun H' p hp => .lst (L2.SqL.of hp) (L2.lt_ _)⟩
#print axioms PySem.Challenge.cw_measuretext_s10_alike_holds
