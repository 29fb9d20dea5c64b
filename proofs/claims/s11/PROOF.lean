import PyProof.Rows.All
import Wide.All
import OpenK.AllK
import Wide.FinOn
import PyProof.EqAt
import PyProof.EqKinds
import PyProof.TupleCall
import KE.BitLaws
import PyProof.EnumStmt
import PyProof.Rows.CountFlat
import PyProof.ExcBaseAll.Exception
import PyProof.ExcAttrAll.Exception
import Open.SpecLaws
import KE.OsHead
import KE.OsGo
import PySem.Challenge.RW_measuretext_s11_put
open List (filterMap_cons mem_cons_self mem_cons_of_mem mem_cons mem_append mem_append_left mem_append_right size_toArray length_cons map_cons length_map append_nil nodup_cons of_mem_zip length_take getElem?_map mem_of_getElem? length_append length_drop all_cons any_cons length_singleton map_nil all_map lookup_cons mem_map all_eq_true find?_cons cons_append length_nil drop_zero take_succ_cons drop_eq_getElem_cons append_assoc drop_drop length_pos_iff take_of_length_le drop_length nil_append drop_left take_length getElem?_eq_getElem take_succ map_append takeWhile_cons dropWhile_cons takeWhile_append_dropWhile takeWhile_append_of_pos headD_cons mem_singleton foldl_cons replicate_succ any_map drop_succ_cons map_map drop_eq_nil_of_le mem_of_find?_eq_some any_eq_true getElem?_reverse not_mem_nil forall_mem_cons reverse_cons reverse_append flatMap_append map_reverse reverse_reverse length_reverse sum_cons sum_append dropLast_concat)
open Nat (ne_of_gt zero_le lt_succ_self le_succ le_of_succ_le le_add_right add_zero add_comm zero_add sub_zero mul_comm one_mul add_assoc add_le_add_left add_sub_cancel_left le_of_ble_eq_true add_mul)
open Option (map_some)
open Bool (and_eq_true false_eq_true or_eq_true or_eq_true_iff)
open Int (natCast_inj)
open Vaunid (powerText factorText MOSTSIGNS measureText digitsValue fits numberText secondRow wordToken numberToken signToken token minusDigit Res fault tokens coreSigns isTaken Core coreTerm want wantName wantDigit Term formOne formTwo formThree coreForm readCore allTokens Leaf shownLit decimalInt isName decimal depths shownLeaf coreText plainAway inPlace answerText long putAnswer reading)
open PySem.W (instObj Frag lookIn plainGet hasDictIn isFn looks_clsIn emptyDict looks_findIn keepIn mroIn kitOne kia_one callWith_K fnOf codeIn clsIn)
open PySem.F (slot_dict_get)
open PySem.Str (ofString)
open PySem.Heap (lt_size get?_none_of_le get?_push_of_some get?_push_size size_push get?_update_other get?_update_self)
abbrev zM:=PySem.Str->Option PySem.Value
abbrev zP:=List (PySem.Addr×PySem.Obj)
abbrev zQ:=PySem.Value->PySem.Shared->Prop
set_option Elab.async false
set_option linter.all false
set_option maxRecDepth 100000
local macro_rules
 | `(tactic| omega)=> `(tactic| lia)
local macro_rules
 | `(tactic| left)=> `(tactic| decide +kernel)
local macro_rules
 | `(tactic| right)=> `(tactic| constructor<;>first|rfl|decide +kernel)
namespace Internal
theorem x_01{P Q:Prop}{G:Prop}(h:P/\Q)(k:P->Q->G):G:=by
 obtain⟨p,q⟩:=h;exact k p q
theorem x_02{P Q R:Prop}{G:Prop}(h:P/\Q/\R)(k:P->Q->R->G):G:=by
 obtain⟨p,q,r⟩:=h;exact k p q r
theorem x_03{P Q R S:Prop}{G:Prop}(h:P/\Q/\R/\S)(k:P->Q->R->S->G):G:=by
 obtain⟨p,q,r,s⟩:=h;exact k p q r s
theorem x_04{P Q R S T:Prop}{G:Prop}(h:P/\Q/\R/\S/\T)(k:P->Q->R->S->T->G):G:=by
 obtain⟨p,q,r,s,t⟩:=h;exact k p q r s t
theorem x_05{P Q R S T U:Prop}{G:Prop}(h:P/\Q/\R/\S/\T/\U)(k:P->Q->R->S->T->U->G):G:=by
 obtain⟨p,q,r,s,t,u⟩:=h;exact k p q r s t u
theorem x_06{P Q R S T U V:Prop}{G:Prop}(h:P/\Q/\R/\S/\T/\U/\V)(k:P->Q->R->S->T->U->V->G):G:=by
 obtain⟨p,q,r,s,t,u,v⟩:=h;exact k p q r s t u v
theorem x_07{P Q R S T U V W:Prop}{G:Prop}(h:P/\Q/\R/\S/\T/\U/\V/\W)(k:P->Q->R->S->T->U->V->W->G):G:=by
 obtain⟨p,q,r,s,t,u,v,w⟩:=h;exact k p q r s t u v w
theorem x_10{A:Type}{P:A->Prop}{G:Prop}(h:∃a,P a)(k:∀a,P a->G):G:=by
 obtain⟨a,p⟩:=h;exact k a p
theorem x_20{A B:Type}{P:A->B->Prop}{G:Prop}(h:∃a b,P a b)(k:∀a b,P a b->G):G:=by
 obtain⟨a,b,p⟩:=h;exact k a b p
theorem x_30{A B C:Type}{P:A->B->C->Prop}{G:Prop}(h:∃a b c,P a b c)(k:∀a b c,P a b c->G):G:=by
 obtain⟨a,b,c,p⟩:=h;exact k a b c p
theorem x_40{A B C D:Type}{P:A->B->C->D->Prop}{G:Prop}(h:∃a b c d,P a b c d)(k:∀a b c d,P a b c d->G):G:=by
 obtain⟨a,b,c,d,p⟩:=h;exact k a b c d p
theorem x_50{A B C D E:Type}{P:A->B->C->D->E->Prop}{G:Prop}(h:∃a b c d e,P a b c d e)(k:∀a b c d e,P a b c d e->G):G:=by
 obtain⟨a,b,c,d,e,p⟩:=h;exact k a b c d e p
theorem x_60{A B C D E F:Type}{P:A->B->C->D->E->F->Prop}{G:Prop}(h:∃a b c d e f,P a b c d e f)(k:∀a b c d e f,P a b c d e f->G):G:=by
 obtain⟨a,b,c,d,e,f,p⟩:=h;exact k a b c d e f p
theorem x_90{A B C D E F I J K:Type}{P:A->B->C->D->E->F->I->J->K->Prop}{G:Prop}(h:∃a b c d e f i j l,P a b c d e f i j l)(k:∀a b c d e f i j l,P a b c d e f i j l->G):G:=by
 obtain⟨a,b,c,d,e,f,i,j,l,p⟩:=h;exact k a b c d e f i j l p
theorem x_11{A:Type}{P Q:A->Prop}{G:Prop}(h:∃a,P a/\Q a)(k:∀a,P a->Q a->G):G:=x_10 h λa z=>x_01 z (k a)
theorem x_12{A:Type}{P Q R:A->Prop}{G:Prop}(h:∃a,P a/\Q a/\R a)(k:∀a,P a->Q a->R a->G):G:=x_10 h λa z=>x_02 z (k a)
theorem x_13{A:Type}{P Q R S:A->Prop}{G:Prop}(h:∃a,P a/\Q a/\R a/\S a)(k:∀a,P a->Q a->R a->S a->G):G:=x_10 h λa z=>x_03 z (k a)
theorem x_21{A B:Type}{P Q:A->B->Prop}{G:Prop}(h:∃a b,P a b/\Q a b)(k:∀a b,P a b->Q a b->G):G:=x_20 h λa b z=>x_01 z (k a b)
theorem x_22{A B:Type}{P Q R:A->B->Prop}{G:Prop}(h:∃a b,P a b/\Q a b/\R a b)(k:∀a b,P a b->Q a b->R a b->G):G:=x_20 h λa b z=>x_02 z (k a b)
theorem x_23{A B:Type}{P Q R S:A->B->Prop}{G:Prop}(h:∃a b,P a b/\Q a b/\R a b/\S a b)(k:∀a b,P a b->Q a b->R a b->S a b->G):G:=x_20 h λa b z=>x_03 z (k a b)
theorem x_24{A B:Type}{P Q R S T:A->B->Prop}{G:Prop}(h:∃a b,P a b/\Q a b/\R a b/\S a b/\T a b)(k:∀a b,P a b->Q a b->R a b->S a b->T a b->G):G:=x_20 h λa b z=>x_04 z (k a b)
theorem x_32{A B C:Type}{P Q R:A->B->C->Prop}{G:Prop}(h:∃a b c,P a b c/\Q a b c/\R a b c)(k:∀a b c,P a b c->Q a b c->R a b c->G):G:=x_30 h λa b c z=>x_02 z (k a b c)
theorem x_33{A B C:Type}{P Q R S:A->B->C->Prop}{G:Prop}(h:∃a b c,P a b c/\Q a b c/\R a b c/\S a b c)(k:∀a b c,P a b c->Q a b c->R a b c->S a b c->G):G:=x_30 h λa b c z=>x_03 z (k a b c)
theorem x_34{A B C:Type}{P Q R S T:A->B->C->Prop}{G:Prop}(h:∃a b c,P a b c/\Q a b c/\R a b c/\S a b c/\T a b c)(k:∀a b c,P a b c->Q a b c->R a b c->S a b c->T a b c->G):G:=x_30 h λa b c z=>x_04 z (k a b c)
namespace L2
open PySem PySem.Spec PyProof.Rows
abbrev Key:=Sum Int Str
def ez:Key->Value->Bool
 |.inl k,v=>Value.isInt k v
 |.inr x,v=>Value.isStrOf x v
noncomputable def keyH(w:World):Key->Int
 |.inl k=>hashInt k
 |.inr x=>hashStr w x
theorem da:∀{k:Key}{v:Value},ez k v=true->(∃i t,k=Sum.inl i/\v=Value.int i t)\/(∃x t,k=Sum.inr x/\v=Value.str x t)
 |.inl i,v,h=>by
  obtain⟨t,e⟩:=Value.isInt_shape (k:=i) (v:=v) h;exact .inl ⟨i,t,rfl,e⟩
 |.inr x,v,h=>by
  obtain⟨t,e⟩:=Value.isStrOf_shape (x:=x) (v:=v) h;exact .inr ⟨x,t,rfl,e⟩
theorem sE(i:Int)(t:Tok):ez (.inl i) (.int i t)=true:=by simp[ez,Value.isInt]
theorem sF(x:Str)(t:Tok):ez (.inr x) (.str x t)=true:=by simp[ez,Value.isStrOf]
theorem sG(a b:Int):decide ((Sum.inl a:Key)=Sum.inl b)=(a==b):=by
 by_cases e:a=b
 ·subst e;simp
 have h:¬(Sum.inl a:Key)=Sum.inl b:=λq=>e (Sum.inl.inj q);rw[decide_eq_false h];exact(beq_eq_false_iff_ne.mpr e).symm
theorem sJ(a b:Str):decide ((Sum.inr a:Key)=Sum.inr b)=decide (a=b):=by
 by_cases e:a=b
 ·subst e;simp
 have h:¬(Sum.inr a:Key)=Sum.inr b:=λq=>e (Sum.inr.inj q);rw[decide_eq_false h,decide_eq_false e]
theorem sL(a:Int)(b:Str):decide ((Sum.inl a:Key)=Sum.inr b)=false:=decide_eq_false (λq=>nomatch q)
theorem sM(a:Str)(b:Int):decide ((Sum.inr a:Key)=Sum.inl b)=false:=decide_eq_false (λq=>nomatch q)
noncomputable def bE(prog:Program)(w:World):PySem.KeyKind prog w Key where
 is:=ez
 hash:=keyH w
 inj:=λv a b ha hb=>by
  rcases da ha with⟨i,t,rfl,rfl⟩|⟨x,t,rfl,rfl⟩
  ·rcases da hb with⟨j,u,rfl,e⟩|⟨y,u,rfl,e⟩
   ·injection e with e1 _;rw[e1]
   exact nomatch e
  rcases da hb with⟨j,u,rfl,e⟩|⟨y,u,rfl,e⟩
  ·exact nomatch e
  injection e with e1 _;rw[e1]
 byValue:=λk v h=>by
  rcases da h with⟨i,t,rfl,rfl⟩|⟨x,t,rfl,rfl⟩<;>rfl
 pyHash:=λhv h=>by
  rcases da hv with⟨i,t,rfl,rfl⟩|⟨x,t,rfl,rfl⟩
  ·exact wpAny_pyHash_int h
  exact wpAny_pyHash_str h
 eqBool:=λhu hv h=>by
  rcases da hu with⟨i,t,rfl,rfl⟩|⟨x,t,rfl,rfl⟩
  ·rcases da hv with⟨j,u,rfl,rfl⟩|⟨y,u,rfl,rfl⟩
   ·rw[sG]at h;exact wpAny_eqBool_int h
   rw[sL]at h;exact SeqAt.EqAt.int_str i t y u _ _ _ _ h
  rcases da hv with⟨j,u,rfl,rfl⟩|⟨y,u,rfl,rfl⟩
  ·rw[sM]at h;exact SeqAt.EqAt.str_int x t j u _ _ _ _ h
  rw[sJ]at h;exact wpAny_eqBool_str h
 «strs» := λk x t v h=>by
  rcases da h with⟨i,u,rfl,e⟩|⟨y,u,rfl,e⟩
  ·exact nomatch e
  injection e with e1 _;subst e1;cases v<;>rfl
theorem sN(prog:Program)(w:World)(i:Int)(t:Tok):(bE prog w).is (.inl i) (.int i t)=true:=sE i t
theorem lP(prog:Program)(w:World)(x:Str)(t:Tok):(bE prog w).is (.inr x) (.str x t)=true:=sF x t
inductive V where
 |non|bl (b:Bool)|int (i:Int)|str (x:Str)|byt (b:Array UInt8)|flt (b:UInt64)|ref (a:Addr)|ty (n:String)
 deriving DecidableEq
def RelV:V->Value->Prop
 |.non,u=>u=Value.none
 |.bl b,u=>u=Value.bool b
 |.int i,u=>∃t,u=Value.int i t
 |.str x,u=>∃t,u=Value.str x t
 |.byt b,u=>∃t,u=Value.bytes b t
 |.flt b,u=>∃t,u=Value.float b t
 |.ref a,u=>u=Value.ref a
 |.ty n,u=>u=Value.type n
abbrev Vals:List V->List Value->Prop:=Paired RelV
theorem Vals.length{xs:List V}{us:List Value}(r:Vals xs us):xs.length=us.length:=Paired.length r
theorem Vals.get:∀{xs:List V}{us:List Value}{i:Nat}{x:V},Vals xs us->xs[i]? = some x->∃u,us[i]? = some u/\RelV x u
 |_,_,_,_,.nil,e=>by simp at e
 |_,_,0,_,.cons r _,e=>by simp at e;subst e;exact⟨_,rfl,r⟩
 |_,_,i+1,x,.cons _ t,e=>by
  obtain⟨u,h1,h2⟩:=Vals.get (i:=i) (x:=x) t (by simpa using e);exact⟨u,by simpa using h1,h2⟩
theorem Vals.append:∀{xs ys:List V}{us ws:List Value},Vals xs us->Vals ys ws->Vals (xs++ys) (us++ws)
 |_,_,_,_,.nil,s=>s
 |_,_,_,_,.cons r t,s=>.cons r (Vals.append t s)
theorem Vals.take:∀{xs:List V}{us:List Value} (n:Nat),Vals xs us->Vals (xs.take n) (us.take n)
 |_,_,0,_=>.nil
 |_,_,_+1,.nil=>.nil
 |_,_,n+1,.cons r t=>.cons r (Vals.take n t)
theorem Vals.drop:∀{xs:List V}{us:List Value} (n:Nat),Vals xs us->Vals (xs.drop n) (us.drop n)
 |_,_,0,r=>r
 |_,_,_+1,.nil=>.nil
 |_,_,n+1,.cons _ t=>Vals.drop n t
def RelO:Option V->Option Value->Prop
 |some v,some u=>RelV v u
 |none,none=>True
 |_,_=>False
def KV{κ:Type}:List (κ×V)->List (κ×Value)->Prop:=Paired λ(p:κ×V) (q:κ×Value)=>p.1=q.1/\RelV p.2 q.2
def kV:Key->V
 |.inl i=>.int i
 |.inr x=>.str x
inductive HO where
 |lst (xs:List V)
 |tup (xs:List V)
 |dK (zu:List (Key×V))|dT (zu:List (List Key×V))
 |set (S:Int->Bool) (n:Nat)
 |ins (C dx:Addr) (fs:List (Str×V))
 |own (x:Addr)
 |xd (fs:List (Str×V))
 |met (f x:Addr)
 |rng (lo hi:Int)
 |frz (o:Obj) (u:HO)
 |tbl (ps:Array Value)
 |ext (φ:Heap->Prop)
abbrev Hp:=Addr->Option HO
noncomputable def upd(H:Hp)(a:Addr)(o:HO):Hp:=λb=>if b=a then some o else H b
theorem ai{H:Hp}{a:Addr}{o:HO}:upd H a o a=some o:=by unfold upd;rw[if_pos rfl]
theorem ao{H:Hp}{a b:Addr}{o:HO}(h:b≠a):upd H a o b=H b:=by unfold upd;rw[if_neg h]
theorem fI{H:Hp}{a:Addr}{o u:HO}:upd (upd H a o) a u=upd H a u:=by
 funext b;unfold upd;split<;>rfl
theorem aB{H:Hp}{a b:Addr}{o u:HO}(h:H a=some o)(h':H b=some u)(d:o≠u):a≠b:=by
 intro e;subst e;rw[h]at h';exact d (Option.some.inj h')
theorem aF{H:Hp}{a b:Addr}{o:HO}(h:H a=some o)(h':H b=none):a≠b:=by
 intro e;subst e;rw[h]at h';cases h'
section
variable(P:Program)(w:World)
def aO(H:Hp)(h:Heap)(a:Addr):HO->Prop
 |.lst xs=>xs.length<=sizeLine/\∃(zw:List Value) (n:Nat),Vals xs zw/\h.get? a=some {cls:= .type "list",data:= .seq zw.toArray n}
 |.tup xs=>xs.length<=sizeLine/\∃zw:List Value,Vals xs zw/\IsTup h a zw.toArray
 |.dK zu=>zu.length<=sizeLine/\(a==sysModules)=false/\∃vs,KV zu vs/\h.DictOf (bE P w) a vs
 |.dT zu=>zu.length<=sizeLine/\(a==sysModules)=false/\∃xs:List (List Key×Addr×Value),
  Paired (λ(p:List Key×V) (q:List Key×Addr×Value)=>p.1=q.1/\H q.2.1=some (.tup (p.1.map kV))/\RelV p.2 q.2.2) zu xs /\
  ∃o es ep,h.get? a=some o/\o.ExactDict/\o.data=.dict es ep/\es.toList=xs.map (entryOfKey (tupleKind (bE P w)))/\(xs.map (·.1)).Nodup
 |.set S n=>h.SetOf (intKind P w) a S n
 |.ins C dx fs=>H dx=some (.own a)/\fs.length<=1000/\dx≠a/\h.get? a=some (instObj C dx) /\
  ∃mA,h.Ns1 dx mA/\(∀f,RelO (fs.lookup f) (mA f))/\PySem.Within mA (fs.map (·.1))
 |.own _=>∃o,h.get? a=some o
 |.xd fs=>∃mA,h.Ns1 a mA/\∀f,RelO (fs.lookup f) (mA f)
 |.rng lo hi=>∃t u v,h.get? a=some {cls:= .type "range",data:= .fields #[.int lo t,.int hi u,.int 1 v]}
 |.frz o u=>h.get? a=some o/\aO H h a u
 |.tbl ps=>h.get? a=some {cls:= .none,data:= .fields ps}
 |.met f x=>h.get? a=some (PySem.W.methodObj (.ref f) (.ref x))
 |.ext φ=>φ h/\(∃o,h.get? a=some o)/\∀h1 h2:Heap,φ h1->(∀o,h1.get? a=some o->h2.get? a=some o)->φ h2
def HOk(H:Hp)(h:Heap):Prop:=∀a o,H a=some o->aO P w H h a o
end
section
variable{P:Program}{w:World}{H H':Hp}{h h':Heap}{a:Addr}{o:HO}
theorem aO.lt(x:aO P w H h a o):a<h.objs.size:=by
 cases o with
 |lst xs=>obtain⟨_,_,_,_,e⟩:=x;exact lt_size e
 |tup xs=>obtain⟨_,_,_,p⟩:=x;exact p.lt
 |dK zu=>obtain⟨_,_,_,_,o,_,_,e,_⟩:=x;exact lt_size e
 |dT zu=>obtain⟨_,_,_,_,o,_,_,e,_⟩:=x;exact lt_size e
 |set S n=>obtain⟨o,_,_,_,e,_⟩:=x;exact lt_size e
 |ins C dx fs=>obtain⟨_,_,_,e,_⟩:=x;exact lt_size e
 |own y=>obtain⟨_,e⟩:=x;exact lt_size e
 |xd fs=>obtain⟨_,⟨_,_,_,e,_⟩,_⟩:=x;exact lt_size e
 |rng lo hi=>obtain⟨_,_,_,e⟩:=x;exact lt_size e
 |frz ob u=>obtain⟨e,_⟩:=x;exact lt_size e
 |tbl ps=>exact lt_size (show h.get? a=some _ from x)
 |met f y=>exact lt_size (show h.get? a=some _ from x)
 |ext φ=>obtain⟨_,⟨_,e⟩,_⟩:=x;exact lt_size e
theorem Paired.mapP{α β:Type}{F G:α->β->Prop}:∀{l₁:List α}{l₂:List β},Paired F l₁ l₂->(∀a b,F a b->G a b)->Paired G l₁ l₂
 |_,_,.nil,_=>.nil
 |_,_,.cons r t,f=>.cons (f _ _ r) (Paired.mapP t f)
theorem aO.stay(x:aO P w H h a o)(k:∀b u,(b=a\/H b=some (.own a))->h.get? b=some u->h'.get? b=some u)
  (ho:∀b,H b=some (.own a)->H' b=some (.own a))(ht:∀b xs,H b=some (.tup xs)->H' b=some (.tup xs)):aO P w H' h' a o:=by
 induction o with
 |lst xs=>obtain⟨z,zw,n,r,e⟩:=x;exact⟨z,zw,n,r,k _ _ (.inl rfl) e⟩
 |tup xs=>obtain⟨z,zw,r,ob,e,c⟩:=x;exact⟨z,zw,r,ob,k _ _ (.inl rfl) e,c⟩
 |dK zu=>obtain⟨z,y,vs,r,ob,es,ep,e,c⟩:=x;exact⟨z,y,vs,r,ob,es,ep,k _ _ (.inl rfl) e,c⟩
 |dT zu =>
  obtain⟨z,y,xs,r,ob,es,ep,e,c⟩:=x;exact⟨z,y,xs,Paired.mapP r λp q z=>⟨z.1,ht _ _ z.2.1,z.2.2⟩,ob,es,ep,k _ _ (.inl rfl) e,c⟩
 |set S n=>obtain⟨ob,es,ep,t,e,c⟩:=x;exact⟨ob,es,ep,t,k _ _ (.inl rfl) e,c⟩
 |ins C dx fs =>
  obtain⟨d,z,ne,e,mA,⟨od,es,ep,e2,c⟩,r⟩:=x;exact⟨ho _ d,z,ne,k _ _ (.inl rfl) e,mA,⟨od,es,ep,k _ _ (.inr d) e2,c⟩,r⟩
 |own y=>obtain⟨ob,e⟩:=x;exact⟨ob,k _ _ (.inl rfl) e⟩
 |xd fs=>obtain⟨mA,⟨od,es,ep,e,c⟩,r⟩:=x;exact⟨mA,⟨od,es,ep,k _ _ (.inl rfl) e,c⟩,r⟩
 |rng lo hi=>obtain⟨t,u,v,e⟩:=x;exact⟨t,u,v,k _ _ (.inl rfl) e⟩
 |frz ob u ih=>obtain⟨e,q⟩:=x;exact⟨k _ _ (.inl rfl) e,ih q⟩
 |tbl ps =>
  have e:h.get? a=some {cls:= .none,data:= .fields ps}:=x;show h'.get? a=some {cls:= .none,data:= .fields ps};exact k a _ (.inl rfl) e
 |met f y =>
  have e:h.get? a=some (PySem.W.methodObj (.ref f) (.ref y)):=x;show h'.get? a=some (PySem.W.methodObj (.ref f) (.ref y));exact k a _ (.inl rfl) e
 |ext φ=>obtain⟨p,⟨o,e⟩,st⟩:=x;exact⟨st _ _ p λo q=>k _ _ (.inl rfl) q,⟨o,k _ _ (.inl rfl) e⟩,st⟩
theorem HOk.lt(x:HOk P w H h)(e:H a=some o):a<h.objs.size:=(x a o e).lt
theorem HOk.fresh(x:HOk P w H h)(e:h.objs.size<=a):H a=none:=by
 cases q:H a with
 |none=>rfl
 |some u=>exact absurd (Nat.lt_of_lt_of_le (x.lt q) e) (Nat.lt_irrefl _)
theorem HOk.kept(x:HOk P w H h)(k:∀b u,h.get? b=some u->h'.get? b=some u):HOk P w H h':=λa o e =>
 (x a o e).stay (λb u _ q=>k b u q) (λ_ q=>q) λ_ _ q=>q
theorem HOk.laid(x:HOk P w H h)(k:∀b u,h.get? b=some u->h'.get? b=some u)(hp:h.objs.size<=a)(new:aO P w (upd H a o) h' a o):HOk P w (upd H a o) h':=λb u e=>by
 have hn:=x.fresh hp;by_cases hb:b=a
 ·subst hb;rw[ai]at e;cases e;exact new
 rw[ao hb]at e;exact(x b u e).stay (λc v _ q=>k c v q) (λc q=>by rw[ao (aF q hn)];exact q) λc xs q=>by rw[ao (aF q hn)];exact q
end
def Rd(H:Hp)(a:Addr)(u:HO):Prop:=H a=some u\/∃o,H a=some (.frz o u)
theorem Rd.ok{P:Program}{w:World}{H:Hp}{h:Heap}{a:Addr}{u:HO}(r:Rd H a u)(x:HOk P w H h):aO P w H h a u:=by
 rcases r with r|⟨o,r⟩
 ·exact x a u r
 obtain⟨_,q⟩:=x a _ r;exact q
def Mut:Option HO->Prop
 |some (.lst _)=>True
 |some (.dK _)=>True
 |some (.dT _)=>True
 |some (.set _ _)=>True
 |some (.ins _ _ _)=>True
 |some (.ext _)=>True
 |_=>False
section
variable{P:Program}{w:World}{H:Hp}{h h':Heap}{x e:Addr}{o':HO}
theorem HOk.write(ok:HOk P w H h)(mu:Mut (H x))(he:e=x\/H e=some (.own x))(k:∀b u,b≠e->h.get? b=some u->h'.get? b=some u)(heo:∃u,h'.get? e=some u)
  (new:aO P w (upd H x o') h' x o'):HOk P w (upd H x o') h':=λb u q=>by
 have nown:∀c y,H c=some (.own y)->c≠x:=λc y r z=>by subst z;rw[r]at mu;exact mu
 have ntup:∀c xs,H c=some (.tup xs)->c≠x:=λc xs r z=>by subst z;rw[r]at mu;exact mu
 by_cases hb:b=x
 ·subst hb;rw[ai]at q;cases q;exact new
 rw[ao hb]at q;by_cases hbe:b=e
 ·have q':H b=some (.own x):=by
   rcases he with z|z
   ·exact absurd (hbe.trans z) hb
   rw[hbe];exact z
  rw[q]at q';cases q';obtain⟨v,hv⟩:=heo;exact⟨v,by rw[hbe];exact hv⟩
 refine(ok b u q).stay (λc v hc r=>k c v ?_ r) (λc r=>by rw[ao (nown c b r)];exact r) λc xs r=>by rw[ao (ntup c xs r)];exact r
 rcases hc with rfl|hc
 ·exact hbe
 rintro rfl
 rcases he with z|z
 ·exact nown c b hc z
 rw[hc]at z;cases z;exact hb rfl
end
structure Un(fs ex:List Addr)(H H':Hp)(h h':Heap):Prop where
 keep:∀b o,h.get? b=some o->H b=none->b∉fs->b∉ex->h'.get? b=some o
 slot:∀b o,h.get? b=some o->H b=none->b∈fs->b∉ex->∃sl,h'.get? b=some {o with slots:=sl}
 free:∀b o,h.get? b=some o->H b=none->b∉ex->H' b=none
 there:∀b o,h.get? b=some o->b∉ex->∃o',h'.get? b=some o'
 tups:∀b xs,H b=some (.tup xs)->H' b=some (.tup xs)
 frzs:∀b o u,H b=some (.frz o u)->H' b=some (.frz o u)
 tbls:∀b ps,H b=some (.tbl ps)->∃more,H' b=some (.tbl (ps++more))
section
variable{fs ex:List Addr}{H H1:Hp}{h h1 h':Heap}{a x e:Addr}{o:HO}
theorem Un.any(u:Un fs ex H H1 h h1){b:Addr}{ob:Obj}(q:h.get? b=some ob)(n:H b=none)(hx:b∉ex):∃sl,h1.get? b=some {ob with slots:=sl}:=by
 by_cases hb:b∈fs
 ·exact u.slot b ob q n hb hx
 exact⟨ob.slots,u.keep b ob q n hb hx⟩
theorem Un.kept(k:∀b u,h.get? b=some u->h'.get? b=some u):Un fs ex H H h h':=
 ⟨λb ob q _ _ _=>k b ob q,λb ob q _ _ _=>⟨ob.slots,k b ob q⟩,λ_ _ _ n _=>n,λb ob q _=>⟨ob,k b ob q⟩,λ_ _ q=>q,λ_ _ _ q=>q,λ_ ps q=>⟨#[],by rw[q];simp⟩⟩
theorem Un.refl:Un fs ex H H h h:=Un.kept λ_ _ q=>q
theorem Un.laid(k:∀b u,h.get? b=some u->h'.get? b=some u)(hp:h.objs.size<=a)(hn:H a=none):Un fs ex H (upd H a o) h h' where
 keep:=λb u q _ _ _=>k b u q
 slot:=λb u q _ _ _=>⟨u.slots,k b u q⟩
 free:=λb u q n _=>by rw[ao (Nat.ne_of_lt (Nat.lt_of_lt_of_le (lt_size q) hp))];exact n
 there:=λb u q _=>⟨u,k b u q⟩
 tups:=λb xs q=>by rw[ao (aF q hn)];exact q
 frzs:=λb u xs q=>by rw[ao (aF q hn)];exact q
 tbls:=λb ps q=>⟨#[],by rw[ao (aF q hn),q];simp⟩
theorem Un.write(mu:Mut (H x))(he:e=x\/H e=some (.own x))(k:∀b u,b≠e->h.get? b=some u->h'.get? b=some u)(heo:∃u,h'.get? e=some u):Un fs ex H (upd H x o) h h':=by
 have hx:∀b,H b=none->b≠x:=λb n z=>by subst z;rw[n]at mu;exact mu
 have hb:∀b,H b=none->b≠e:=λb n z=>by
  subst z;rcases he with r|r
  ·exact hx b n r
  rw[n]at r;cases r
 have hm:∀b u,H b=some u->¬Mut (some u)->b≠x:=λb u q nm z=>by subst z;rw[q]at mu;exact nm mu
 refine⟨λb u q n _ _=>k b u (hb b n) q,λb u q n _ _=>⟨u.slots,k b u (hb b n) q⟩,λb u q n _=>by rw[ao (hx b n)];exact n,λb u q _=>?_,
  λb xs q=>by rw[ao (hm b _ q λz=>z)];exact q,λb u xs q=>by rw[ao (hm b _ q λz=>z)];exact q,λb ps q=>⟨#[],by rw[ao (hm b _ q λz=>z),q];simp⟩⟩
 by_cases hbe:b=e
 ·subst hbe;exact heo
 exact⟨u,k b u hbe q⟩
end
def trk(h:Heap)(H:Hp):List Addr:=(List.range h.objs.size).filter λa=>(H a).isSome
def hidT(h:Heap)(H:Hp):Heap:=PySem.W.hideAll h (trk h H)
theorem lQ(h:Heap)(H:Hp):(hidT h H).objs.size=h.objs.size:=PySem.W.hideAll_size _ _
theorem lR{h:Heap}{H:Hp}{b:Addr}{o:Obj}(e:h.get? b=some o)(n:H b=none):(hidT h H).get? b=some o:=
 PySem.W.hideAll_get _ e λhm=>by
  have q:(H b).isSome=true:=(List.mem_filter.mp hm).2;rw[n]at q;simp at q
theorem lS{h:Heap}{H:Hp}{b:Addr}{o:Obj}(e:(hidT h H).get? b=some o):h.get? b=some o/\H b=none:=by
 have e':h.get? b=some o:=PySem.W.of_hideAll (trk h H) e;refine⟨e',?_⟩;cases q:H b with
 |none=>rfl
 |some x =>
 have hm:b∈trk h H:=List.mem_filter.mpr ⟨List.mem_range.mpr (lt_size e'),by simp[q]⟩;have z:(hidT h H).get? b=none:=PySem.W.hideAll_none (trk h H) hm;rw[z]at e;cases e
def sO(g h:Heap)(L:Addr):zP:=(List.range h.objs.size).filterMap λa=>if a=L\/(g.get? a).isSome=true then none else(h.get? a).map λo=>(a,o)
def rest(g h:Heap)(L d:Addr):zP:=(sO g h L).filter λp=>decide (p.1≠d)
structure Mod(K:Frag)(mg:zM)(base:Heap):Prop where
 kin:K.In base
 glob:base.Ns mainGlobals mg
 blt:∃mb,base.Ns builtinsNs mb/\∀x:Str,x≠"__name__"->mb x=bootBuiltins x
 nolimit:base.NoLimit
structure Cx where
 prog:Program
 w:World
 K:Frag
 mg:Str->Option Value
 base:Heap
 A:Around
 N:List Str
 s_0:Shared
 H_0:Hp
 env:Env
 outer:List Env
 stack:List Env
 ex:List Addr
 fn:Str->Bool
 calm:Bool
 pn:List (Addr×Obj)
 xe:Value->Shared->Prop
def frs(l:List Env):List Addr:=l.filterMap (·.frame)
abbrev Cx.fs(X:Cx):List Addr:=frs X.outer
def Vis(sc:Scope)(x:Str):Prop:=sc.names.lookup x=some .local\/sc.names.lookup x=some .cell\/sc.names.lookup x=some .free
def Loc(sc:Scope)(x:Str):Prop:=sc.names.lookup x=some .local\/sc.names.lookup x=some .cell
def Look(env:Env)(h:Heap)(m:zM)(x:Str)(u:Value):Prop:=
 (env.kindOf x=some .local/\m x=some u)\/((env.kindOf x=some .cell\/env.kindOf x=some .free)/\∃c,env.cells.lookup x=some c/\h.IsCell c (some u))
structure Cx.Ok(X:Cx):Prop where
 mod:Mod X.K X.mg X.base
 kind:X.env.scope.kind=.function
 glob:X.env.globals=mainGlobals
 blt:X.env.builtins=builtinsNs
 above:X.s_0.heap.objs.size<=X.env.locals
 inj:∀x y c,X.env.cells.lookup x=some c->X.env.cells.lookup y=some c->x=y
 has:∀x,(X.env.kindOf x=some .cell\/X.env.kindOf x=some .free)->∃c,X.env.cells.lookup x=some c
 cab:∀x c,X.fn x=true->X.env.cells.lookup x=some c->X.s_0.heap.objs.size<=c
 hd:X.calm=true->X.A.handled=none
 frames:X.A.frames=some X.stack
 stk:X.stack=X.outer\/(X.stack=X.env::X.outer/\X.env.frame=some X.env.locals)
 exf:∀b∈X.ex,b≠X.env.locals/\∀x c,X.env.cells.lookup x=some c->c≠b
 bs:∀b o,X.base.get? b=some o->X.s_0.heap.get? b=some o/\X.H_0 b=none
 bsz:X.base.objs.size<=X.s_0.heap.objs.size
 noex:∀b o,X.base.get? b=some o->b∉X.ex
 exfs:∀b∈X.ex,b∉X.fs
 funs:X.s_0.heap.FunFrames X.base X.outer
 frf:∀b∈X.fs,X.H_0 b=none
structure Inv(X:Cx)(zz:zP)(σ:List (Option V))(H:Hp)(s:Shared):Prop where
 ok:X.Ok
 os:s.os=X.s_0.os
 bare:AllBare s.gens
 base:Un X.fs X.ex X.H_0 H X.s_0.heap s.heap
 loc:∃m,s.heap.Ns X.env.locals m/\∀(i:Nat) (x:Str) (v:V),X.N[i]? = some x->σ[i]? = some (some v)->Vis X.env.scope x->∃u,RelV v u/\Look X.env s.heap m x u
 cell:∀x c,X.env.cells.lookup x=some c->∃v,s.heap.IsCell c v
 free:H X.env.locals=none
 freeC:∀x c,X.env.cells.lookup x=some c->H c=none
 pin:∀p∈X.pn++zz,s.heap.get? p.1=some p.2/\H p.1=none/\p.1≠X.env.locals/\p.1∉X.fs/\∀v,p.2.data≠.cell v
 hok:HOk X.prog X.w H s.heap
 len:σ.length=X.N.length
section
variable{X:Cx}{zz:zP}{σ:List (Option V)}{H H':Hp}{s:Shared}{h':Heap}
theorem Cx.Ok.nofr(ok:X.Ok){b:Addr}{o:Obj}(e:X.base.get? b=some o):b∉X.fs:=λhb=>by
 have:=(ok.funs.mem hb).1;rw[e]at this;cases this
theorem Inv.bs(I:Inv X zz σ H s):∀b o,X.base.get? b=some o->s.heap.get? b=some o/\H b=none:=λb o e =>
 ⟨I.base.keep b o (I.ok.bs b o e).1 (I.ok.bs b o e).2 (I.ok.nofr e) (I.ok.noex b o e),I.base.free b o (I.ok.bs b o e).1 (I.ok.bs b o e).2 (I.ok.noex b o e)⟩
theorem Inv.bk(I:Inv X zz σ H s):∀b o,X.base.get? b=some o->s.heap.get? b=some o:=λb o e=>(I.bs b o e).1
theorem Inv.mod(I:Inv X zz σ H s):Mod X.K X.mg X.base:=I.ok.mod
theorem Inv.kIn(I:Inv X zz σ H s):X.K.In s.heap:=I.ok.mod.kin.keeps I.bk
theorem Inv.fr(I:Inv X zz σ H s):∃m,Fr X.base X.env.locals s.heap m:=
 let⟨m,hn,_⟩:=I.loc
 ⟨m,hn,I.bk,Nat.le_trans I.ok.bsz I.ok.above⟩
theorem Inv.lt(I:Inv X zz σ H s):X.env.locals<s.heap.objs.size:=let⟨_,hn,_⟩:=I.loc;hn.lt
theorem Inv.sz(I:Inv X zz σ H s):X.s_0.heap.objs.size<=s.heap.objs.size:=Nat.le_trans I.ok.above (Nat.le_of_lt I.lt)
theorem Inv.nofs(I:Inv X zz σ H s){a:Addr}(h:s.heap.objs.size<=a):a∉X.fs:=λhb=>by
 obtain⟨_,o,ho,_⟩:=I.ok.funs.mem hb;exact absurd (Nat.lt_of_lt_of_le (lt_size ho) (Nat.le_trans I.sz h)) (Nat.lt_irrefl _)
theorem Inv.cne(I:Inv X zz σ H s):∀x c,X.env.cells.lookup x=some c->c≠X.env.locals:=λx c e z=>by
 obtain⟨v,o,ho,hd⟩:=I.cell x c e;obtain⟨m,⟨o',es,ep,ho',hd',_⟩,_⟩:=I.loc;rw[z,ho']at ho;cases ho;rw[hd']at hd;cases hd
theorem Inv.funs(I:Inv X zz σ H s):s.heap.FunFrames X.base X.outer:=by
 have all:∀(l:List Env),(∀b∈frs l,b∈X.fs)->X.s_0.heap.FunFrames X.base l->s.heap.FunFrames X.base l:=by
  intro l
  induction l with
  |nil=>intro _ _;trivial
  |cons env r ih =>
  intro hs hl;obtain⟨hk,⟨L,o,hf,hn,ho,hd⟩,hr⟩:=hl;have hL:L∈X.fs:=hs L (by unfold frs;rw[filterMap_cons,hf];exact mem_cons_self);obtain⟨sl,e⟩:=I.base.slot L o ho (I.ok.frf L hL) hL λz=>I.ok.exfs L z hL;exact⟨hk,⟨L,_,hf,hn,e,hd⟩,ih (λb hb=>hs b (by unfold frs;rw[filterMap_cons,hf];exact mem_cons_of_mem _ hb)) hr⟩
 exact all X.outer (λ_ hb=>hb) I.ok.funs
theorem Inv.stack(I:Inv X zz σ H s):s.heap.FunFrames X.base X.stack:=by
 rcases I.ok.stk with e|⟨e,hf⟩
 ·rw[e];exact I.funs
 rw[e];obtain⟨m,hn,_⟩:=I.loc;refine .cons (by rw[I.ok.kind];decide) hf hn ?_ I.funs;exact get?_none_of_le (Nat.le_trans I.ok.bsz I.ok.above)
theorem Inv.stkSub(I:Inv X zz σ H s):∀b∈frs X.stack,b∈X.env.locals::X.fs:=λb hb=>by
 rcases I.ok.stk with e|⟨e,hf⟩
 ·rw[e]at hb;exact mem_cons_of_mem _ hb
 rw[e]at hb;unfold frs at hb;rw[filterMap_cons,hf]at hb;exact hb
theorem Inv.stkFree(I:Inv X zz σ H s):∀b∈frs X.stack,H b=none:=λb hb=>by
 rcases mem_cons.mp (I.stkSub b hb)with e|hb
 ·rw[e];exact I.free
 obtain⟨_,o,ho,_⟩:=I.ok.funs.mem hb;exact I.base.free b o ho (I.ok.frf b hb) λz=>I.ok.exfs b z hb
theorem Inv.step{g':Array GenState}{t':Nat}{d':Drawn}{ch:List Addr}(I:Inv X zz σ H s)
  (hch:∀b∈ch,(b∈X.ex\/X.s_0.heap.objs.size<=b)/\b≠X.env.locals/\(∀x c,X.env.cells.lookup x=some c->c≠b)/\∀p∈X.pn++zz,p.1≠b)
  (keep:∀b o,b≠X.env.locals->b∉X.fs->b∉ch->s.heap.get? b=some o->H b=none->h'.get? b=some o)
  (slot:∀b o,b≠X.env.locals->b∈X.fs->b∉ch->s.heap.get? b=some o->H b=none->∃sl,h'.get? b=some {o with slots:=sl})(free:∀b o,b∉ch->s.heap.get? b=some o->H b=none->H' b=none)
  (there:∀b o,b∉ch->s.heap.get? b=some o->∃o',h'.get? b=some o')
  (tups:∀b xs,H b=some (.tup xs)->H' b=some (.tup xs))(frzs:∀b o u,H b=some (.frz o u)->H' b=some (.frz o u))(tbls:∀b ps,H b=some (.tbl ps)->∃more,H' b=some (.tbl (ps++more)))
  (ns:∀m,s.heap.Ns X.env.locals m->h'.Ns X.env.locals m)(hok:HOk X.prog X.w H' h')(hg:AllBare g') :
  Inv X zz σ H' {s with heap:=h',gens:=g',drawn:=d',toks:=t' }:=by
 have neL:∀b o,X.s_0.heap.get? b=some o->b≠X.env.locals:=λb o e=>Nat.ne_of_lt (Nat.lt_of_lt_of_le (lt_size e) I.ok.above);have neC:∀b o,X.s_0.heap.get? b=some o->b∉X.ex->b∉ch:=λb o e hx hb=>by
  rcases(hch b hb).1 with z|z
  ·exact hx z
  exact absurd (Nat.lt_of_lt_of_le (lt_size e) z) (Nat.lt_irrefl _)
 have cellK:∀x c,X.env.cells.lookup x=some c->∀v,s.heap.IsCell c v->h'.IsCell c v:=λx c e v ⟨o,ho,hd⟩=>by
  have nch:c∉ch:=λz=>(hch c z).2.2.1 x c e rfl;by_cases hc:c∈X.fs
  ·obtain⟨sl,q⟩:=slot c o (I.cne x c e) hc nch ho (I.freeC x c e)
   exact⟨_,q,hd⟩
  exact⟨o,keep c o (I.cne x c e) hc nch ho (I.freeC x c e),hd⟩
 refine⟨I.ok,I.os,hg,⟨λb o e n hb hx=>?_,λb o e n hb hx=>?_,λb o e n hx=>?_,λb o e hx=>?_,λb xs e=>tups b xs (I.base.tups b xs e),λb o xs e=>frzs b o xs (I.base.frzs b o xs e),λb ps e=>?_⟩,?_,λx c e=>?_,?_,λx c e=>?_,λp hp=>?_,hok,I.len⟩
 ·exact keep b o (neL b o e) hb (neC b o e hx) (I.base.keep b o e n hb hx) (I.base.free b o e n hx)
 ·obtain⟨sl,e1⟩:=I.base.slot b o e n hb hx
  obtain⟨sl',e2⟩:=slot b _ (neL b o e) hb (neC b o e hx) e1 (I.base.free b o e n hx);exact⟨sl',e2⟩
 ·obtain⟨o',e1⟩:=I.base.there b o e hx
  exact free b o' (neC b o e hx) e1 (I.base.free b o e n hx)
 ·obtain⟨o',e1⟩:=I.base.there b o e hx
  exact there b o' (neC b o e hx) e1
 ·obtain⟨m1,e1⟩:=I.base.tbls b ps e
  obtain⟨m2,e2⟩:=tbls b _ e1;exact⟨m1++m2,by rw[e2,Array.append_assoc]⟩
 ·obtain⟨m,hn,hl⟩:=I.loc
  refine⟨m,ns m hn,λi x v e1 e2 e3=>?_⟩;obtain⟨u,r,l⟩:=hl i x v e1 e2 e3;refine⟨u,r,?_⟩;rcases l with l|⟨k,c,e,z⟩
  ·exact .inl l
  exact .inr ⟨k,c,e,cellK x c e _ z⟩
 ·obtain⟨v,z⟩:=I.cell x c e
  exact⟨v,cellK x c e v z⟩
 ·obtain⟨m,⟨o,_,_,ho,_⟩,_⟩:=I.loc
  exact free _ o (λz=>(hch _ z).2.1 rfl) ho I.free
 ·obtain⟨v,o,ho,hd⟩:=I.cell x c e
  exact free c o (λz=>(hch c z).2.2.1 x c e rfl) ho (I.freeC x c e)
 refine x_04 (I.pin p hp) λe n ne nf d=>?_;have nch:p.1∉ch:=λz=>(hch p.1 z).2.2.2 p hp rfl;exact⟨keep p.1 p.2 ne nf nch e n,free p.1 p.2 nch e n,ne,nf,d⟩
theorem Inv.un{t':Nat}(I:Inv X zz σ H s)(u:Un X.fs [] H H' s.heap h')(hok:HOk X.prog X.w H' h'):Inv X zz σ H' {s with heap:=h',toks:=t' }:=by
 obtain⟨m,⟨o,es,ep,ho,r⟩,_⟩:=id I.loc;obtain⟨sl,hL⟩:=u.any ho I.free (by simp);exact I.step (g':=s.gens) (d':=s.drawn) (ch:=[]) (λ_ z=>nomatch z) (λb o _ hb _ e n=>u.keep b o e n hb (by simp)) (λb o _ hb _ e n=>u.slot b o e n hb (by simp)) (λb o _ e n=>u.free b o e n (by simp)) (λb o _ e=>u.there b o e (by simp)) u.tups u.frzs u.tbls (λm' hm=>by
  obtain⟨o',es',ep',ho',r'⟩:=hm;rw[ho]at ho';cases ho';exact⟨_,es',ep',hL,r'⟩) hok I.bare
theorem Inv.call{g':Array GenState}{t':Nat}{d':Drawn}{ch:List Addr}(I:Inv X zz σ H s)(u:Un (frs X.stack) ch H H' s.heap h')(hok:HOk X.prog X.w H' h')(hg:AllBare g')
  (hch:∀b∈ch,(b∈X.ex\/X.s_0.heap.objs.size<=b)/\b≠X.env.locals/\(∀x c,X.env.cells.lookup x=some c->c≠b)/\∀p∈X.pn++zz,p.1≠b) :
  Inv X zz σ H' {s with heap:=h',gens:=g',drawn:=d',toks:=t' }:=by
 obtain⟨m,⟨o,es,ep,ho,r⟩,_⟩:=id I.loc;obtain⟨sl,hL⟩:=u.any ho I.free λz=>(hch _ z).2.1 rfl;exact I.step (ch:=ch) hch (λb o hL hb hc e n=>u.keep b o e n (λz=>(mem_cons.mp (I.stkSub b z)).elim hL hb) hc) (λb o _ _ hc e n=>u.any e n hc) (λb o hc e n=>u.free b o e n hc) (λb o hc e=>u.there b o e hc) u.tups u.frzs u.tbls (λm' hm=>by
  obtain⟨o',es',ep',ho',r'⟩:=hm;rw[ho]at ho';cases ho';exact⟨_,es',ep',hL,r'⟩) hok hg
theorem Inv.turned{t':Nat}{it:Addr}(I:Inv X zz σ H s)(k:∀b o,b≠it->s.heap.get? b=some o->h'.get? b=some o)(hn:H it=none)(hL:it≠X.env.locals)
  (h1:it∈X.ex\/X.s_0.heap.objs.size<=it)(h2:∀x c,X.env.cells.lookup x=some c->c≠it)(h3:∀p∈X.pn++zz,p.1≠it):Inv X zz σ H {s with heap:=h',toks:=t' }:=by
 have nit:∀b u,H b=some u->b≠it:=λb u e z=>by rw[z,hn]at e;cases e
 refine I.step (g':=s.gens) (d':=s.drawn) (ch:=[it]) (λb hb=>?_) (λb o _ _ hc e _=>k b o (λz=>hc (by simp[z])) e) (λb o _ _ hc e _=>⟨o.slots,k b o (λz=>hc (by simp[z])) e⟩) (λ_ _ _ _ n=>n)
  (λb o hc e=>⟨o,k b o (λz=>hc (by simp[z])) e⟩) (λ_ _ e=>e) (λ_ _ _ e=>e) (λb ps e=>⟨#[],by rw[e];simp⟩) (λm hm=>?_) (λb u e=>?_) I.bare
 ·have e:b=it:=by simpa using hb
  subst e;exact⟨h1,hL,h2,h3⟩
 ·obtain⟨o,es,ep,ho,r⟩:=hm
  exact⟨o,es,ep,k _ o (Ne.symm hL) ho,r⟩
 refine(I.hok b u e).stay (λc v hc q=>k c v ?_ q) (λ_ q=>q) λ_ _ q=>q;rcases hc with z|z
 ·rw[z];exact nit b u e
 exact nit c _ z
theorem Inv.tok(I:Inv X zz σ H s)(t:Nat):Inv X zz σ H {s with toks:=t}:=I.un (h':=s.heap) (t':=t) Un.refl I.hok
theorem Inv.kept{t':Nat}(I:Inv X zz σ H s)(k:∀b u,s.heap.get? b=some u->h'.get? b=some u):Inv X zz σ H {s with heap:=h',toks:=t' }:=I.un (Un.kept k) (I.hok.kept k)
theorem Inv.laid{a:Addr}{o:HO}{t':Nat}(I:Inv X zz σ H s)(k:∀b u,s.heap.get? b=some u->h'.get? b=some u)(hp:s.heap.objs.size<=a)(new:aO X.prog X.w (upd H a o) h' a o) :
  Inv X zz σ (upd H a o) {s with heap:=h',toks:=t' }:=I.un (Un.laid k hp (I.hok.fresh hp)) (I.hok.laid k hp new)
theorem Inv.write{x e:Addr}{o:HO}{t':Nat}(I:Inv X zz σ H s)(mu:Mut (H x))(he:e=x\/H e=some (.own x))(k:∀b u,b≠e->s.heap.get? b=some u->h'.get? b=some u)(heo:∃u,h'.get? e=some u)
  (new:aO X.prog X.w (upd H x o) h' x o):Inv X zz σ (upd H x o) {s with heap:=h',toks:=t' }:=I.un (Un.write mu he k heo) (I.hok.write mu he k heo new)
theorem Inv.weak{σ':List (Option V)}(I:Inv X zz σ H s)(hl:σ'.length=σ.length)(w:∀(i:Nat) v,σ'[i]? = some (some v)->σ[i]? = some (some v)):Inv X zz σ' H s:=
 ⟨I.ok,I.os,I.bare,I.base,let⟨m,hn,hl'⟩:=I.loc;⟨m,hn,λi x v e1 e2 e3=>hl' i x v e1 (w i v e2) e3⟩,I.cell,I.free,I.freeC,I.pin,I.hok,hl.trans I.len⟩
theorem Inv.pins_of{pins':zP}(I:Inv X zz σ H s)(h:∀p∈pins',s.heap.get? p.1=some p.2/\H p.1=none/\p.1≠X.env.locals/\p.1∉X.fs/\∀v,p.2.data≠.cell v):Inv X pins' σ H s:=
 ⟨I.ok,I.os,I.bare,I.base,I.loc,I.cell,I.free,I.freeC,λp hp=>(mem_append.mp hp).elim (λz=>I.pin p (mem_append_left _ z)) (h p),I.hok,I.len⟩
theorem ju{N:List Str}(hN:N.Nodup){i j:Nat}{x:Str}(a:N[i]? = some x)(b:N[j]? = some x):i=j:=by
 obtain⟨h1,e1⟩:=List.getElem?_eq_some_iff.mp a;obtain⟨h2,e2⟩:=List.getElem?_eq_some_iff.mp b;exact(List.getElem_inj hN).mp (e1.trans e2.symm)
theorem sP{M:Model}{A:Around}{E:zQ}{i:Nat}{x:Str}{v:V}{u:Value}{Q:Unit->Shared->Prop}(I:Inv X zz σ H s)(hN:X.N.Nodup)(hi:X.N[i]? = some x)(hx:Loc X.env.scope x)(r:RelV v u)
  (h:∀s',Inv X zz (σ.set i (some v)) H s'->(∃a,Heap.SameBut a s.heap s'.heap/\(a=X.env.locals\/X.env.cells.lookup x=some a))->Q () s')(hf:X.fn x=true\/X.env.scope.names.lookup x=some .local:=by first|exact .inl rfl|exact .inr rfl|assumption):wpAny M A (storeName X.env x u) Q E s:=by
 obtain⟨m,hn,hl⟩:=id I.loc;have hcls:(X.env.scope.kind==.class||(X.env.scope.kind==.module&&X.env.locals != X.env.globals))=false:=by rw[I.ok.kind];rfl
 have hiσ:i<σ.length:=by rw[I.len];exact(List.getElem?_eq_some_iff.mp hi).1
 have cne:=I.cne;have tracked:∀{a:Addr}{h':Heap},(∃o,s.heap.get? a=some o/\H a=none)->Heap.SameBut a s.heap h'->HOk X.prog X.w H h':=λ{a h'} ha hs b ob e=>by
  obtain⟨_,_,hfree⟩:=ha;refine(I.hok b ob e).stay (λc w' hc q=>(hs.2 c ?_).trans q) (λ_ q=>q) λ_ _ q=>q
  rintro rfl
  rcases hc with rfl|hc
  ·rw[hfree]at e;cases e
  rw[hfree]at hc;cases hc
 rcases hx with hk|hk
 ·refine wpAny_storeName_local hk hn (λh' hn' hs=>?_) hcls
  refine x_30 (id hn) λoL _ _ zy=>x_01 zy λhoL _=>?_;refine h _ ⟨I.ok,I.os,I.bare,⟨λb o e n hb hx=>?_,λb o e n hb hx=>?_,I.base.free,λb o e hx=>?_,I.base.tups,I.base.frzs,I.base.tbls⟩,⟨_,hn',λj y v' e1 e2 e3=>?_⟩,λy c e=>?_,I.free,I.freeC,λp hp=>?_,tracked ⟨oL,hoL,I.free⟩ hs,by simpa using I.len⟩ ⟨_,hs,.inl rfl⟩
  ·exact(hs.2 b (Nat.ne_of_lt (Nat.lt_of_lt_of_le (lt_size e) I.ok.above))).trans (I.base.keep b o e n hb hx)
  ·obtain⟨sl,e1⟩:=I.base.slot b o e n hb hx
   exact⟨sl,(hs.2 b (Nat.ne_of_lt (Nat.lt_of_lt_of_le (lt_size e) I.ok.above))).trans e1⟩
  ·obtain⟨o',e1⟩:=I.base.there b o e hx
   exact⟨o',(hs.2 b (Nat.ne_of_lt (Nat.lt_of_lt_of_le (lt_size e) I.ok.above))).trans e1⟩
  ·by_cases hj:j=i
   ·subst hj
    rw[hi]at e1;cases e1;rw[List.getElem?_set_self hiσ]at e2;cases e2;exact⟨u,r,.inl ⟨hk,by simp⟩⟩
   rw[List.getElem?_set_ne (Ne.symm hj)]at e2;obtain⟨u',r',q⟩:=hl j y v' e1 e2 e3;refine⟨u',r',?_⟩;rcases q with⟨k,e⟩|⟨k,c,e,z⟩
   ·refine .inl ⟨k,?_⟩
    have:y≠x:=λe=>hj (ju hN e1 (e ▸ hi));simp[this,e]
   exact .inr ⟨k,c,e,z.sameBut hs (cne y c e)⟩
  ·obtain⟨w',z⟩:=I.cell y c e
   exact⟨w',z.sameBut hs (cne y c e)⟩
  refine x_04 (I.pin p hp) λe n ne nf d=>?_;exact⟨(hs.2 p.1 ne).trans e,n,ne,nf,d⟩
 have hfn:X.fn x=true:=by
  rcases hf with z|z
  ·exact z
  rw[z]at hk;cases hk
 obtain⟨c,hc⟩:=I.ok.has x (.inl hk);obtain⟨w',z⟩:=I.cell x c hc;refine wpAny_storeName_cell I.ok.kind hk hc z (λh' hc' hs=>?_);obtain⟨oc,hoc,hocd⟩:=id z;refine h {s with heap:=h' } ⟨I.ok,I.os,I.bare,⟨λb o e n hb hx=>?_,λb o e n hb hx=>?_,I.base.free,λb o e hx=>?_,I.base.tups,I.base.frzs,I.base.tbls⟩,⟨m,hn.sameBut hs (Ne.symm (cne x c hc)),λj y v' e1 e2 e3=>?_⟩,λy c' e=>?_,I.free,I.freeC,λp hp=>?_,tracked ⟨oc,hoc,I.freeC x c hc⟩ hs,by simpa using I.len⟩ ⟨c,hs,.inr hc⟩
 ·exact(hs.2 b (Nat.ne_of_lt (Nat.lt_of_lt_of_le (lt_size e) (I.ok.cab x c hfn hc)))).trans (I.base.keep b o e n hb hx)
 ·obtain⟨sl,e1⟩:=I.base.slot b o e n hb hx
  exact⟨sl,(hs.2 b (Nat.ne_of_lt (Nat.lt_of_lt_of_le (lt_size e) (I.ok.cab x c hfn hc)))).trans e1⟩
 ·obtain⟨o',e1⟩:=I.base.there b o e hx
  exact⟨o',(hs.2 b (Nat.ne_of_lt (Nat.lt_of_lt_of_le (lt_size e) (I.ok.cab x c hfn hc)))).trans e1⟩
 ·by_cases hj:j=i
  ·subst hj
   rw[hi]at e1;cases e1;rw[List.getElem?_set_self hiσ]at e2;cases e2;exact⟨u,r,.inr ⟨.inl hk,c,hc,hc'⟩⟩
  rw[List.getElem?_set_ne (Ne.symm hj)]at e2;obtain⟨u',r',q⟩:=hl j y v' e1 e2 e3;refine⟨u',r',?_⟩;rcases q with q|⟨k,c',e,z'⟩
  ·exact .inl q
  refine .inr ⟨k,c',e,z'.sameBut hs ?_⟩
  rintro rfl
  exact hj (ju hN e1 (I.ok.inj _ _ _ e hc ▸ hi))
 ·by_cases hcc:c'=c
  ·subst hcc;exact⟨_,hc'⟩
  obtain⟨w2,z2⟩:=I.cell y c' e;exact⟨w2,z2.sameBut hs hcc⟩
 refine x_04 (I.pin p hp) λe n ne nf d=>?_;refine⟨(hs.2 p.1 ?_).trans e,n,ne,nf,d⟩;intro q;rw[q,hoc]at e;have q':oc=p.2:=Option.some.inj e;exact d w' (by rw[<- q'];exact hocd)
theorem gM{M:Model}{A:Around}{E:zQ}{i:Nat}{x:Str}{v:V}{u:Value}{Q:Unit->Shared->Prop}(I:Inv X zz σ H s)(hN:X.N.Nodup)(hi:X.N[i]? = some x)(hx:Loc X.env.scope x)(r:RelV v u)
  (h:∀s',Inv X zz (σ.set i (some v)) H s'->Q () s')(hf:X.fn x=true\/X.env.scope.names.lookup x=some .local:=by first|exact .inl rfl|exact .inr rfl|assumption):wpAny M A (storeName X.env x u) Q E s:=
 sP I hN hi hx r (λs' I' _=>h s' I') hf
theorem Inv.call'{s':Shared}{ch:List Addr}(I:Inv X zz σ H s)(ho:s'.os=s.os)(u:Un (frs X.stack) ch H H' s.heap s'.heap)(hok:HOk X.prog X.w H' s'.heap)(hg:AllBare s'.gens)
  (hch:∀b∈ch,(b∈X.ex\/X.s_0.heap.objs.size<=b)/\b≠X.env.locals/\(∀x c,X.env.cells.lookup x=some c->c≠b)/\∀p∈X.pn++zz,p.1≠b):Inv X zz σ H' s':=by
 obtain⟨h',g',d',t',o'⟩:=s';have e:o'=s.os:=ho;subst e;exact I.call (g':=g') (t':=t') (d':=d') u hok hg hch
end
abbrev XK:=Value->Option Addr->Hp->Prop
abbrev St:=List (Option V)
abbrev VK:=V->Hp->Prop
abbrev TE:=St->Hp->VK->Prop
abbrev TT:=St->Hp->(Bool->Hp->Prop)->Prop
abbrev TA:=St->Hp->(List V->Hp->Prop)->Prop
structure Ends where
 nx:St->Hp->Prop
 rt:VK
 bk:St->Hp->Prop:=λ_ _=>False
 ct:St->Hp->Prop:=λ_ _=>False
abbrev TS:=Ends->St->Hp->Prop
def EP(X:Cx)(zz:zP)(σ:St)(Q:VK)(u:Value)(s':Shared):Prop:=∃v H',Inv X zz σ H' s'/\RelV v u/\Q v H'
def TP(X:Cx)(zz:zP)(σ:St)(Q:Bool->Hp->Prop)(b:Bool)(s':Shared):Prop:=∃H',Inv X zz σ H' s'/\Q b H'
def AP(X:Cx)(zz:zP)(σ:St)(Q:List V->Hp->Prop)(us:List Value)(s':Shared):Prop:=∃vs H',Inv X zz σ H' s'/\Vals vs us/\Q vs H'
def SP(X:Cx)(zz:zP)(D:Ends)(f:Flow)(s':Shared):Prop:=
 match f with
 |.next=>∃σ' H',Inv X zz σ' H' s'/\D.nx σ' H'
 |.brk=>∃σ' H',Inv X zz σ' H' s'/\D.bk σ' H'
 |.cont=>∃σ' H',Inv X zz σ' H' s'/\D.ct σ' H'
 |.ret u=>∃v σ' H',Inv X zz σ' H' s'/\RelV v u/\D.rt v H'
def PE(X:Cx)(e:Expr)(t:TE):Prop:=
 ∀(zz:zP) (s:Shared) (σ:St) (H:Hp) (Q:VK),Inv X zz σ H s->t σ H Q->wpAny (model X.prog X.w) X.A (eval e X.env) (EP X zz σ Q) X.xe s
def PT(X:Cx)(e:Expr)(t:TT):Prop:=
 ∀(zz:zP) (s:Shared) (σ:St) (H:Hp) (Q:Bool->Hp->Prop),Inv X zz σ H s->t σ H Q->wpAny (model X.prog X.w) X.A (isTrue e X.env (eval e X.env)) (TP X zz σ Q) X.xe s
def PW(X:Cx)(e:Expr)(t:TT):Prop:=
 ∀(whole:Sem Value) (zz:zP) (s:Shared) (σ:St) (H:Hp) (Q:Bool->Hp->Prop),Inv X zz σ H s->t σ H Q->wpAny (model X.prog X.w) X.A (isTrue e X.env whole) (TP X zz σ Q) X.xe s
theorem PW.pt{X:Cx}{e:Expr}{t:TT}(h:PW X e t):PT X e t:=h _
def PA(X:Cx)(es:List Expr)(t:TA):Prop:=
 ∀(pos:Pos) (zz:zP) (s:Shared) (σ:St) (H:Hp) (Q:List V->Hp->Prop),Inv X zz σ H s->t σ H Q->wpAny (model X.prog X.w) X.A (spliced (backTo pos (starEach es X.env))) (AP X zz σ Q) X.xe s
def PS(X:Cx)(st:Stmt)(t:TS):Prop:=
 ∀(zz:zP) (s:Shared) (σ:St) (H:Hp) (D:Ends),Inv X zz σ H s->t D σ H->wpAny (model X.prog X.w) X.A (exec st X.env) (SP X zz D) X.xe s
def PSs(X:Cx)(st:List Stmt)(t:TS):Prop:=
 ∀(zz:zP) (s:Shared) (σ:St) (H:Hp) (D:Ends),Inv X zz σ H s->t D σ H->wpAny (model X.prog X.w) X.A (execs st X.env) (SP X zz D) X.xe s
theorem thn{α:Type}{t:Sem α}{Q Q':α->Shared->Prop}{M:Model}{A:Around}{E:zQ}{s:Shared}(h:wpAny M A t Q E s)(hQ:∀a s,Q a s->Q' a s):wpAny M A t Q' E s:=wpAny_mono h hQ λ_ _ x=>x
section
variable{X:Cx}
def tVar(i:Nat):TE:=λσ H Q=>match σ[i]? with
 |some (some v)=>Q v H
 |_=>False
theorem sQ{i:Nat}{σ:St}{H:Hp}{Q:VK}(h:tVar i σ H Q):∃v,σ[i]? = some (some v)/\Q v H:=by
 unfold tVar at h;split at h
 ·rename_i v e
  exact⟨v,e,h⟩
 exact h.elim
def tC(v:V):TE:=λ_ H Q=>Q v H
theorem sR{i:Nat}{x:Str}{pos:Pos}(hN:X.N[i]? = some x)(hv:Vis X.env.scope x)(hd:(x==("__debug__":Str))=false:=by decide)(hcd:(x==("__classdict__":Str))=false:=by decide):PE X (.Name x pos) (tVar i):=by
 intro zz s σ H Q I h;obtain⟨v,e,h⟩:=sQ h;obtain⟨m,hn,hl⟩:=I.loc;obtain⟨u,r,l⟩:=hl i x v hN e hv;have fin:EP X zz σ Q u s:=⟨v,H,I,r,h⟩;rcases l with⟨hk,hm⟩|⟨hk,c,hc,hcell⟩
 ·exact wpAny_Name (wpAny_loadName_local I.ok.kind hk hn hm fin) hd
 rcases hk with hk|hk
 ·exact wpAny_Name (wpAny_loadName_cell I.ok.kind hk hc hcell fin) hd
 exact wpAny_Name (wpAny_loadName_free I.ok.kind hk hc hcell fin hcd) hd
theorem au{i j pos}:PE X (.Constant (.int i) j pos) (tC (.int i)):=λ_ _ _ H _ I h=>wpAny_Constant_int ⟨.int i,H,I.tok _,⟨_,rfl⟩,h⟩
theorem eR{b j pos}:PE X (.Constant (.bool b) j pos) (tC (.bl b)):=λ_ _ _ H _ I h=>Constant_bool ⟨.bl b,H,I,rfl,h⟩
theorem jv{j pos}:PE X (.Constant .none j pos) (tC .non):=λ_ _ _ H _ I h=>Constant_none ⟨.non,H,I,rfl,h⟩
theorem aE{x j pos}:PE X (.Constant (.str x) j pos) (tC (.str x)):=λ_ _ _ H _ I h=>Calls.Constant_str ⟨.str x,H,I.tok _,⟨_,rfl⟩,h⟩
def Gl(X:Cx)(x:Str):Prop:=X.env.kindOf x=some .globalImplicit
theorem eA{E:zQ}{zz:zP}{s:Shared}{σ:St}{H:Hp}{x:Str}{u:Value}{pos:Pos}{Q:zQ}(I:Inv X zz σ H s)(hg:Gl X x)(hm:X.mg x=some u)(h:Q u s)
  (hd:(x==("__debug__":Str))=false:=by decide):wpAny (model X.prog X.w) X.A (eval (.Name x pos) X.env) Q E s:=
 Calls.Name_function_global I.ok.kind hg (Calls.loadGlobal_global (by rw[I.ok.glob];exact I.mod.glob.keeps I.bk) hm h) hd
theorem dW{E:zQ}{zz:zP}{s:Shared}{σ:St}{H:Hp}{x:Str}{u:Value}{pos:Pos}{Q:zQ}(I:Inv X zz σ H s)(hg:Gl X x)(hm:X.mg x=none)(hv:bootBuiltins x=some u)(h:Q u s)
  (hn:x≠"__name__":=by decide)(hd:(x==("__debug__":Str))=false:=by decide):wpAny (model X.prog X.w) X.A (eval (.Name x pos) X.env) Q E s:=by
 obtain⟨mb,h1,h2⟩:=I.mod.blt;exact Calls.Name_function_global I.ok.kind hg (Calls.loadGlobal_builtin (by rw[I.ok.glob];exact I.mod.glob.keeps I.bk) hm (by rw[I.ok.blt];exact h1.keeps I.bk) ((h2 x hn).trans hv) h) hd
theorem lT{x:Str}{v:V}{u:Value}{pos:Pos}(hg:Gl X x)(hm:X.mg x=some u)(r:RelV v u)(hd:(x==("__debug__":Str))=false:=by decide):PE X (.Name x pos) (tC v):=
 λ_ _ _ H _ I h=>eA I hg hm ⟨v,H,I,r,h⟩ hd
variable{a b:Expr}{ta tb:TE}{pos:Pos}
def PC(X:Cx)(op:CmpOp)(a b:Expr)(t:TE):Prop:=
 ∀(zz:zP) (s:Shared) (σ:St) (H:Hp) (Q:VK),Inv X zz σ H s->t σ H Q ->
  wpAny (model X.prog X.w) X.A (eval a X.env) (λv s₁=>wpAny (model X.prog X.w) X.A (eval b X.env) (λu s₂=>wpAny (model X.prog X.w) X.A (compareOp op v u) (EP X zz σ Q) X.xe s₂) X.xe s₁) X.xe s
theorem sS(b:Expr){op:CmpOp}(h:op≠.In)(h2:op≠.NotIn):behindInMarks op b=false:=by
 have e1:(op==CmpOp.In)=false:=by cases op<;>first|rfl|exact absurd rfl h
 have e2:(op==CmpOp.NotIn)=false:=by cases op<;>first|rfl|exact absurd rfl h2
 cases b<;>simp[behindInMarks,e1,e2]
def tIsN(ta:TE):TE:=λσ H Q=>ta σ H λx H1=>Q (.bl (decide (x=.non))) H1
def sT(ta:TE):TE:=λσ H Q=>ta σ H λx H1=>Q (.bl (!decide (x=.non))) H1
theorem RelV.none_iff{x:V}{v:Value}(r:RelV x v):(v==Value.none)=decide (x=.non):=by
 cases x with
 |non=>cases r;rfl
 |bl _=>cases r;rfl
 |int _=>obtain⟨t,rfl⟩:=r;rfl
 |str _=>obtain⟨t,rfl⟩:=r;rfl
 |byt _=>obtain⟨t,rfl⟩:=r;rfl
 |flt _=>obtain⟨t,rfl⟩:=r;rfl
 |ref _=>cases r;rfl
 |ty _=>cases r;rfl
theorem sU{j pos'}(ha:PE X a ta):PC X .Is a (.Constant .none j pos') (tIsN ta):=by
 intro zz s σ H Q I h;refine thn (ha zz s σ H _ I h) λv s1 zq=>?_;refine x_22 zq λx H1 I1 r1 q1=>?_;exact Constant_none (is_none_gen ⟨.bl _,H1,I1,by rw[r1.none_iff];rfl,q1⟩)
def tB(t:TE):TT:=λσ H Q=>t σ H λx H1=>∃c,x=.bl c/\Q c H1
theorem lU{op:CmpOp}{t:TE}(h:PC X op a b t)(h1:behindInMarks op b=false:=by first|exact sS _ (by decide) (by decide)|rfl):PT X (.Compare a [op] [b] pos) (tB t):=by
 intro zz s σ H Q I hw;refine wpAny_isTrue_Compare1 (thn (h zz s σ H _ I hw) λv s1 h1=>thn h1 λu s2 h2=>thn h2 λc s3 zq=>?_) h1;obtain⟨x,H1,I1,r1,q1⟩:=zq;obtain⟨d,rfl,q⟩:=q1;cases r1;exact wpAny_truthy_bool ⟨H1,I1,q⟩
theorem cA{e:Expr}{t:TE}(h:PE X e t)(he:∀whole,isTrue e X.env whole=(do let v <- whole;standAt e.pos;holding [v] (truthy v)):=by intro _;rfl):PT X e (tB t):=by
 intro zz s σ H Q I hw;refine isTrue_plain (thn (h zz s σ H _ I hw) λv s1 zq=>?_) (he _);obtain⟨x,H1,I1,r1,q1⟩:=zq;obtain⟨d,rfl,q⟩:=q1;cases r1;exact wpAny_truthy_bool ⟨H1,I1,q⟩
variable{tA tB':TT}{rest:List Expr}
def tAnd(t u:TT):TT:=λσ H Q=>t σ H λc H1=>if c=true then u σ H1 Q else Q false H1
def tOr(t u:TT):TT:=λσ H Q=>t σ H λc H1=>if c=true then Q true H1 else u σ H1 Q
def tNot(t:TT):TT:=λσ H Q=>t σ H λc H1=>Q (!c) H1
theorem pw_and1(ha:PT X a tA):PW X (.BoolOp .And [a] pos) tA:=by
 intro wh zz s σ H Q I h;refine isTrue_and (thn (ha zz s σ H Q I h) λc s1 e=>?_);cases c with
 |true=>exact isTrue_and_nil e
 |false=>exact e
theorem pw_or1(ha:PT X a tA):PW X (.BoolOp .Or [a] pos) tA:=by
 intro wh zz s σ H Q I h;refine isTrue_or (thn (ha zz s σ H Q I h) λc s1 e=>?_);cases c with
 |false=>exact isTrue_or_nil e
 |true=>exact e
theorem pw_and(ha:PT X a tA)(hb:PW X (.BoolOp .And (b::rest) pos) tB'):PW X (.BoolOp .And (a::b::rest) pos) (tAnd tA tB'):=by
 intro wh zz s σ H Q I h;refine isTrue_and (thn (ha zz s σ H _ I h) λc s1 ⟨H1,I1,q1⟩=>?_);cases c with
 |true=>exact hb wh zz s1 σ H1 Q I1 q1
 |false=>exact⟨H1,I1,q1⟩
theorem pw_or(ha:PT X a tA)(hb:PW X (.BoolOp .Or (b::rest) pos) tB'):PW X (.BoolOp .Or (a::b::rest) pos) (tOr tA tB'):=by
 intro wh zz s σ H Q I h;refine isTrue_or (thn (ha zz s σ H _ I h) λc s1 ⟨H1,I1,q1⟩=>?_);cases c with
 |true=>exact⟨H1,I1,q1⟩
 |false=>exact hb wh zz s1 σ H1 Q I1 q1
theorem jw(ha:PT X a tA):PT X (.UnaryOp .Not a pos) (tNot tA):=by
 intro zz s σ H Q I h;exact isTrue_not (ha zz s σ H (λc H1=>Q (!c) H1) I h)
def lV(ta tb:TE):TE:=λσ H Q=>ta σ H λx H1=>∃c,x=.bl c/\if c=true then tb σ H1 Q else Q (.bl false) H1
def tOrV(ta tb:TE):TE:=λσ H Q=>ta σ H λx H1=>∃c,x=.bl c/\if c=true then Q (.bl true) H1 else tb σ H1 Q
def sV(ta:TE):TE:=λσ H Q=>ta σ H λx H1=>∃c,x=.bl c/\Q (.bl (!c)) H1
theorem gN{op}{t:TE}(h:PE X a t):PE X (.BoolOp op [a] pos) t:=λzz s σ H Q I hw=>BoolOp_one (h zz s σ H Q I hw)
theorem lW(ha:PE X a ta)(hb:PE X (.BoolOp .And (b::rest) pos) tb):PE X (.BoolOp .And (a::b::rest) pos) (lV ta tb):=by
 intro zz s σ H Q I h;refine BoolOp_and (thn (ha zz s σ H _ I h) λv s1 zq=>?_);refine x_22 zq λx H1 I1 r1 q1=>?_;obtain⟨c,rfl,q1⟩:=q1;cases r1;refine wpAny_truthy_bool ?_;cases c with
 |true=>exact hb zz s1 σ H1 Q I1 q1
 |false=>exact⟨.bl false,H1,I1,rfl,q1⟩
theorem jx(ha:PE X a ta)(hb:PE X (.BoolOp .Or (b::rest) pos) tb):PE X (.BoolOp .Or (a::b::rest) pos) (tOrV ta tb):=by
 intro zz s σ H Q I h;refine BoolOp_or (thn (ha zz s σ H _ I h) λv s1 zq=>?_);refine x_22 zq λx H1 I1 r1 q1=>?_;obtain⟨c,rfl,q1⟩:=q1;cases r1;refine wpAny_truthy_bool ?_;cases c with
 |false=>exact hb zz s1 σ H1 Q I1 q1
 |true=>exact⟨.bl true,H1,I1,rfl,q1⟩
def tIf(t:TT)(ta tb:TE):TE:=λσ H Q=>t σ H λc H1=>if c=true then ta σ H1 Q else tb σ H1 Q
theorem eS{c:Expr}(hc:PT X c tA)(ha:PE X a ta)(hb:PE X b tb):PE X (.IfExp c a b pos) (tIf tA ta tb):=by
 intro zz s σ H Q I h;refine wpAny_IfExp (thn (hc zz s σ H _ I h) λd s1 ⟨H1,I1,q1⟩=>?_);cases d with
 |true=>exact ha zz s1 σ H1 Q I1 q1
 |false=>exact hb zz s1 σ H1 Q I1 q1
end
def SqL(K:Frag)(H:Hp)(a:Addr)(xs:List V):Prop:=
 Rd H a (.lst xs) \/
  ∃(o:Obj) (zw:Array Value) (n:Nat),K.lookup a=some o/\o.cls=.type "list"/\o.dict=none/\o.data=.seq zw n/\zw.size<=sizeLine/\Vals xs zw.toList
def SqT(K:Frag)(H:Hp)(a:Addr)(xs:List V):Prop:=
 Rd H a (.tup xs) \/
  ∃(o:Obj) (zw:Array Value) (n:Nat),K.lookup a=some o/\o.cls=.type "tuple"/\o.data=.seq zw n/\zw.size<=sizeLine/\Vals xs zw.toList
noncomputable def absV:Value->Option V
 |.none=>some .non
 |.bool b=>some (.bl b)
 |.int i _=>some (.int i)
 |.str x _=>some (.str x)
 |.bytes b _=>some (.byt b)
 |.float b _=>some (.flt b)
 |.ref a=>some (.ref a)
 |.type n=>some (.ty n)
 |_=>none
theorem RelV.abs{x:V}{u:Value}(r:RelV x u):absV u=some x:=by
 cases x with
 |non=>cases r;rfl
 |bl _=>cases r;rfl
 |int _=>obtain⟨t,rfl⟩:=r;rfl
 |str _=>obtain⟨t,rfl⟩:=r;rfl
 |byt _=>obtain⟨t,rfl⟩:=r;rfl
 |flt _=>obtain⟨t,rfl⟩:=r;rfl
 |ref _=>cases r;rfl
 |ty _=>cases r;rfl
theorem RelV.inj{x y:V}{u:Value}(r:RelV x u)(q:RelV y u):x=y:=Option.some.inj (r.abs.symm.trans q.abs)
theorem Vals.inj:∀{xs ys:List V}{us:List Value},Vals xs us->Vals ys us->xs=ys
 |_,_,_,.nil,.nil=>rfl
 |_,_,_,.cons r t,.cons r' t'=>by rw[r.inj r',Vals.inj t t']
section
variable{X:Cx}{zz:zP}{σ:St}{H:Hp}{s:Shared}{a:Addr}{xs ys:List V}
theorem SqL.of{K:Frag}(h:H a=some (.lst xs)):SqL K H a xs:= .inl (.inl h)
theorem SqT.of{K:Frag}(h:H a=some (.tup xs)):SqT K H a xs:= .inl (.inl h)
theorem Inv.list(I:Inv X zz σ H s)(h:SqL X.K H a xs):∃zw:List Value,Vals xs zw/\PlainL s.heap a zw.toArray/\xs.length<=sizeLine:=by
 rcases h with h|⟨o,zw,n,hk,hc,hd,hs,hz,r⟩
 ·refine x_01 (h.ok I.hok) λz zz0=>?_
  refine x_21 zz0 λzw n r e=>?_;exact⟨zw,r,⟨_,n,e,rfl,rfl,rfl⟩,z⟩
 refine⟨zw.toList,r,⟨o,n,I.kIn a o hk,hc,hd,by simpa using hs⟩,?_⟩;have e:=r.length;simp only[Array.length_toList]at e;omega
theorem Inv.tuple(I:Inv X zz σ H s)(h:SqT X.K H a xs):∃zw:List Value,Vals xs zw/\IsTup s.heap a zw.toArray/\xs.length<=sizeLine:=by
 rcases h with h|⟨o,zw,n,hk,hc,hs,hz,r⟩
 ·refine x_01 (h.ok I.hok) λz zz0=>?_
  refine x_11 zz0 λzw r p=>?_;exact⟨zw,r,p,z⟩
 refine⟨zw.toList,r,⟨o,I.kIn a o hk,hc,n,by simpa using hs⟩,?_⟩;have e:=r.length;simp only[Array.length_toList]at e;omega
theorem Inv.list_inj(I:Inv X zz σ H s)(h:SqL X.K H a xs)(h':SqL X.K H a ys):xs=ys:=by
 obtain⟨zw,r,⟨o,n,e,_,_,d⟩,_⟩:=I.list h;obtain⟨its',r',⟨o',n',e',_,_,d'⟩,_⟩:=I.list h';rw[e]at e';cases e';rw[d]at d';injection d' with d1 _;have:zw=its':=by simpa using congrArg Array.toList d1
 subst this;exact r.inj r'
theorem Inv.tuple_inj(I:Inv X zz σ H s)(h:SqT X.K H a xs)(h':SqT X.K H a ys):xs=ys:=by
 obtain⟨zw,r,⟨o,e,_,n,d⟩,_⟩:=I.tuple h;obtain⟨its',r',⟨o',e',_,n',d'⟩,_⟩:=I.tuple h';rw[e]at e';cases e';rw[d]at d';injection d' with d1 _;have:zw=its':=by simpa using congrArg Array.toList d1
 subst this;exact r.inj r'
end
abbrev Cx.wish(X:Cx)(E:zQ):Cx:={X with xe:=E}
abbrev Cx.nox(X:Cx):Cx:=X.wish λ_ _=>False
theorem Cx.Ok.wish{X:Cx}(ok:X.Ok)(E:zQ):(X.wish E).Ok:=
 ⟨ok.mod,ok.kind,ok.glob,ok.blt,ok.above,ok.inj,ok.has,ok.cab,ok.hd,ok.frames,ok.stk,ok.exf,ok.bs,ok.bsz,ok.noex,ok.exfs,ok.funs,ok.frf⟩
theorem Cx.Ok.unwish{X:Cx}{E:zQ}(ok:(X.wish E).Ok):X.Ok:=
 ⟨ok.mod,ok.kind,ok.glob,ok.blt,ok.above,ok.inj,ok.has,ok.cab,ok.hd,ok.frames,ok.stk,ok.exf,ok.bs,ok.bsz,ok.noex,ok.exfs,ok.funs,ok.frf⟩
section
variable{X:Cx}{zz:zP}{σ:St}{H:Hp}{s:Shared}{E:zQ}
theorem Inv.wish(I:Inv X zz σ H s)(E:zQ):Inv (X.wish E) zz σ H s:=⟨I.ok.wish E,I.os,I.bare,I.base,I.loc,I.cell,I.free,I.freeC,I.pin,I.hok,I.len⟩
theorem Inv.unwish(I:Inv (X.wish E) zz σ H s):Inv X zz σ H s:=⟨I.ok.unwish,I.os,I.bare,I.base,I.loc,I.cell,I.free,I.freeC,I.pin,I.hok,I.len⟩
theorem SP.unwish{D:Ends}{f:Flow}{s':Shared}(h:SP (X.wish E) zz D f s'):SP X zz D f s':=by
 cases f with
 |next=>obtain⟨σ',H',I,q⟩:=h;exact⟨σ',H',I.unwish,q⟩
 |brk=>obtain⟨σ',H',I,q⟩:=h;exact⟨σ',H',I.unwish,q⟩
 |cont=>obtain⟨σ',H',I,q⟩:=h;exact⟨σ',H',I.unwish,q⟩
 |ret u=>obtain⟨v,σ',H',I,r,q⟩:=h;exact⟨v,σ',H',I.unwish,r,q⟩
theorem PSs.nox{st:List Stmt}{t:TS}(h:PSs X.nox st t):PSs X st t:=λzz s σ H D I hw =>
 wpAny_mono (h zz s σ H D (I.wish _) hw) (λ_ _ q=>q.unwish) λ_ _ z=>False.elim z
end
section
variable{X:Cx}{st:Stmt}{rest:List Stmt}{t u:TS}{e:Expr}{te:TE}{pos:Pos}
def jy:TS:=λD σ H=>D.nx σ H
def tSeq(t u:TS):TS:=λD σ H=>t {D with nx:=u D} σ H
theorem aP:PSs X [] jy:=λ_ _ σ H _ I h=>wpAny_execs_nil ⟨σ,H,I,h⟩
theorem ag(h1:PS X st t)(h2:PSs X rest u):PSs X (st::rest) (tSeq t u):=by
 intro zz s σ H D I h;refine wpAny_execs_cons (thn (h1 zz s σ H {D with nx:=u D} I h) λf s1 q=>?_);cases f with
 |next =>
  refine x_21 q λσ' H' I' q=>?_;exact h2 zz s1 σ' H' D I' q
 |ret v=>exact q
 |brk=>exact q
 |cont=>exact q
theorem ah(h1:PS X st t):PSs X [st] t:=by
 intro zz s σ H D I h;refine wpAny_execs_cons (thn (h1 zz s σ H D I h) λf s1 q=>?_);cases f with
 |next=>exact wpAny_execs_nil q
 |ret v=>exact q
 |brk=>exact q
 |cont=>exact q
theorem Inv.quiet{zz:zP}{σ:St}{H:Hp}{s:Shared}(I:Inv X zz σ H s):interactive X.env=false:=by simp[interactive,I.ok.kind]
def lX(te:TE):TS:=λD σ H=>te σ H λ_ H1=>D.nx σ H1
theorem a8(he:PE X e te)(hs:swapsWith e none pos.line X.env=pure false:=by rfl):PS X (.Expr e pos) (lX te):=by
 intro zz s σ H D I h;exact wpAny_Expr_any (thn (he zz s σ H _ I h) λv s1 ⟨x,H1,I1,r1,q1⟩=>⟨σ,H1,I1,q1⟩) I.quiet hs
def tRet(te:TE):TS:=λD σ H=>te σ H D.rt
theorem az(he:PE X e te):PS X (.Return (some e) pos) (tRet te):=by
 intro zz s σ H D I h;exact wpAny_Return_some (thn (he zz s σ H _ I h) λv s1 ⟨x,H1,I1,r1,q1⟩=>⟨x,σ,H1,I1,r1,q1⟩)
def sW:TS:=λD _ H=>D.rt .non H
def tIfS(c:TT)(t u:TS):TS:=λD σ H=>c σ H λb H1=>if b=true then t D σ H1 else u D σ H1
theorem aG{c:Expr}{a b:List Stmt}{tc:TT}(hc:PT X c tc)(ha:PSs X a t)(hb:PSs X b u):PS X (.If c a b pos) (tIfS tc t u):=by
 intro zz s σ H D I h;refine wpAny_If (thn (hc zz s σ H _ I h) λd s1 ⟨H1,I1,q1⟩=>?_);cases d with
 |true=>exact ha zz s1 σ H1 D I1 q1
 |false=>exact hb zz s1 σ H1 D I1 q1
end
abbrev TG:=V->St->Hp->(St->Hp->Prop)->Prop
abbrev TGs:=List V->St->Hp->(St->Hp->Prop)->Prop
def PG(X:Cx)(target:Expr)(t:TG):Prop:=
 ∀(zz:zP) (s:Shared) (σ:St) (H:Hp) (v:V) (u:Value) (Q:St->Hp->Prop),Inv X zz σ H s->RelV v u->t v σ H Q ->
  wpAny (model X.prog X.w) X.A (assign target X.env u) (λ_ s'=>∃σ' H',Inv X zz σ' H' s'/\Q σ' H') X.xe s
def PGs(X:Cx)(ts:List Expr)(t:TGs):Prop:=
 ∀(zz:zP) (s:Shared) (σ:St) (H:Hp) (vs:List V) (us:List Value) (Q:St->Hp->Prop),Inv X zz σ H s->Vals vs us->t vs σ H Q ->
  wpAny (model X.prog X.w) X.A (assignInOrder ((assignEach ts X.env).map (·.2)) us) (λ_ s'=>∃σ' H',Inv X zz σ' H' s'/\Q σ' H') X.xe s
abbrev TIp:=V->V->Hp->VK->Prop
def PIp(X:Cx)(op:Operator)(t:TIp):Prop:=
 ∀(zz:zP) (s:Shared) (σ:St) (H:Hp) (x y:V) (v u:Value) (Q:VK),Inv X zz σ H s->RelV x v->RelV y u->t x y H Q ->
  wpAny (model X.prog X.w) X.A (inplaceOp op v u) (EP X zz σ Q) X.xe s
section
variable{X:Cx}{pos:Pos}
def ck(i:Nat):TG:=λv σ H Q=>Q (σ.set i (some v)) H
theorem lY{i:Nat}{x:Str}(hN:X.N.Nodup)(hi:X.N[i]? = some x)(hx:Loc X.env.scope x)(hf:X.fn x=true\/X.env.scope.names.lookup x=some .local:=by first|exact .inl rfl|exact .inr rfl|assumption):PG X (.Name x pos) (ck i):=by
 intro zz s σ H v u Q I r h;exact wpAny_assign_Name (gM I hN hi hx r (λs' I'=>⟨_,H,I',h⟩) hf)
def gNil:TGs:=λvs σ H Q=>vs=[]/\Q σ H
def lZ(t:TG)(u:TGs):TGs:=λvs σ H Q=>∃v r,vs=v::r/\t v σ H λσ' H'=>u r σ' H' Q
theorem sX:PGs X [] gNil:=by
 intro zz s σ H vs us Q I r h;obtain⟨e,h⟩:=h;subst e;cases r;exact assignInOrder_nil ⟨σ,H,I,h⟩
theorem l5{e:Expr}{es:List Expr}{t:TG}{u:TGs}(h1:PG X e t)(h2:PGs X es u)
  (hs:(assignEach (e::es) X.env).map (·.2)=assign e X.env::(assignEach es X.env).map (·.2):=by rfl):PGs X (e::es) (lZ t u):=by
 intro zz s σ H vs us Q I r h;obtain⟨v,vr,e1,h⟩:=h;subst e1;cases r with
 |cons r rr =>
 rw[hs];refine assignInOrder_cons (thn (h1 zz s σ H _ _ _ I r h) λ_ s1 ⟨σ1,H1,I1,q1⟩=>?_);exact h2 zz s1 σ1 H1 _ _ Q I1 rr q1
def gTup(K:Frag)(n:Nat)(t:TGs):TG:=λv σ H Q=>∃a xs,v=.ref a/\SqT K H a xs/\xs.length=n/\t xs σ H Q
theorem sY{es:List Expr}{k:Nat}{t:TGs}{n:Nat}(hc:X.calm=true)(h:PGs X es t)
  (hn:(assignEach es X.env).length=n:=by rfl)(hst:(assignEach es X.env).findIdx? (·.1)=none:=by rfl):PG X (.Tuple es k pos) (gTup X.K n t):=by
 intro zz s σ H v u Q I r hw;obtain⟨a,xs,e1,hq,hl,hw⟩:=hw;subst e1;cases r;obtain⟨zw,rv,ht,hz⟩:=I.tuple hq;refine assign_Tuple_tuple (I.ok.hd hc) ht (by simp[hn,<- hl,rv.length]) hst λh' hx=>?_;have I1:Inv X zz σ H {s with heap:=h' }:=I.kept (t':=s.toks) λb o e=>hx b o (Nat.ne_of_lt (lt_size e)) e;exact h zz _ σ H xs _ Q I1 (by simpa using rv) hw
def tAsg(te:TE)(g:TG):TS:=λD σ H=>te σ H λx H1=>g x σ H1 D.nx
theorem eB{i:Nat}{x:Str}{e:Expr}{te:TE}{pos':Pos}(hN:X.N.Nodup)(hi:X.N[i]? = some x)(hx:Loc X.env.scope x)(he:PE X e te)(hs:swapsWith e (some (.Name x pos')) pos.line X.env=pure false:=by rfl)(hf:X.fn x=true\/X.env.scope.names.lookup x=some .local:=by first|exact .inl rfl|exact .inr rfl|assumption) :
  PS X (.Assign [.Name x pos'] e pos) (tAsg te (ck i)):=by
 intro zz s σ H D I h;refine wpAny_Assign_Name (thn (he zz s σ H _ I h) λv s1 zq=>?_) hs;refine x_22 zq λy H1 I1 r1 q1=>?_;exact gM I1 hN hi hx r1 (λs2 I2=>⟨_,H1,I2,q1⟩) hf
def tAug(i:Nat)(te:TE)(ti:TIp):TS:=λD σ H=>∃x,σ[i]? = some (some x)/\te σ H λy H1=>ti x y H1 λz H2=>D.nx (σ.set i (some z)) H2
theorem l6{i:Nat}{x:Str}{e:Expr}{te:TE}{op:Operator}{ti:TIp}{pos':Pos}(hN:X.N.Nodup)(hi:X.N[i]? = some x)(hx:Loc X.env.scope x)(he:PE X e te)(ho:PIp X op ti)(hf:X.fn x=true\/X.env.scope.names.lookup x=some .local:=by first|exact .inl rfl|exact .inr rfl|assumption) :
  PS X (.AugAssign (.Name x pos') op e pos) (tAug i te ti):=by
 intro zz s σ H D I h;obtain⟨v,e1,h⟩:=h;obtain⟨m,hn,hl⟩:=I.loc;have vis:Vis X.env.scope x:=by rcases hx with k|k;exact .inl k;exact .inr (.inl k)
 obtain⟨u,r,l⟩:=hl i x v hi e1 vis;refine wpAny_AugAssign_Name ?_;have go:wpAny (model X.prog X.w) X.A (eval e X.env) (λw s₂=>wpAny (model X.prog X.w) X.A (inplaceOp op u w) (λr s₃=>wpAny (model X.prog X.w) X.A (storeName X.env x r) (λ_=>SP X zz D .next) X.xe s₃) X.xe s₂) X.xe s:=by
  refine thn (he zz s σ H _ I h) λw s1 zq=>?_;refine x_22 zq λy H1 I1 r1 q1=>?_;refine thn (ho zz s1 σ H1 v y u w _ I1 r r1 q1) λz s2 zq=>?_;refine x_22 zq λzv H2 I2 r2 q2=>?_;exact gM I2 hN hi hx r2 (λs3 I3=>⟨_,H2,I3,q2⟩) hf
 rcases l with⟨hk,hm⟩|⟨hk,c,hc,hcell⟩
 ·exact wpAny_loadName_local I.ok.kind hk hn hm go
 rcases hk with hk|hk
 ·exact wpAny_loadName_cell I.ok.kind hk hc hcell go
 rcases hx with k|k
 ·have:X.env.scope.names.lookup x=some .free:=hk
  rw[k]at this;cases this
 have:X.env.scope.names.lookup x=some .free:=hk;rw[k]at this;cases this
def ipI(f:Int->Int->Int):TIp:=λx y H Q=>∃i j,x=.int i/\y=.int j/\Q (.int (f i j)) H
theorem l7:PIp X .Add (ipI λi j=>i+j):=by
 intro zz s σ H x y v u Q I r1 r2 h;refine x_22 h λi j e1 e2 q=>?_;subst e1;subst e2;obtain⟨t,rfl⟩:=r1;obtain⟨t',rfl⟩:=r2;exact iadd_int ⟨.int _,H,I.tok _,⟨_,rfl⟩,q⟩
end
section
variable{X:Cx}{pos:Pos}
def l8(c:TT)(tb:TS):TS:=λD σ H=>∃W:Nat->St->Hp->Prop,(∃m,W m σ H)/\∀m σ H,W m σ H ->
 c σ H λb H1=>if b=true then ∃N:St->Hp->Prop,(∀σ' H',N σ' H'->∃m',m'<m/\W m' σ' H')/\tb {D with nx:=N,ct:=N,bk:=D.nx} σ H1 else D.nx σ H1
theorem df{c:Expr}{body:List Stmt}{tc:TT}{tb:TS}(hp:PassesOwn (model X.prog X.w) X.A X.env X.xe)(hc:PT X c tc)(hb:PSs X body tb):PS X (.While c body [] pos) (l8 tc tb):=by
 intro zz s σ H D I h;obtain⟨W,⟨m0,w0⟩,turn⟩:=h;refine wpAny_While (codeAny_whileLoop (λn s'=>∃σ' H',Inv X zz σ' H' s'/\W n σ' H') ?_ m0 ⟨σ,H,I,w0⟩)
 rintro n s1 ⟨σ1,H1,I1,w1⟩
 refine wpAny_passesOwn hp (thn (hc zz s1 σ1 H1 _ I1 (turn n σ1 H1 w1)) λb s2 ⟨H2,I2,q2⟩=>?_);cases b with
 |true =>
  obtain⟨N,hN,q2⟩:=q2;rw[if_pos rfl];refine wpAny_passesOwn hp (thn (hb zz s2 σ1 H2 _ I2 q2) λf s3 q3=>?_);cases f with
  |next =>
   refine x_21 q3 λσ3 H3 I3 n3=>?_;obtain⟨m',hm,w3⟩:=hN σ3 H3 n3;exact⟨m',hm,σ3,H3,I3,w3⟩
  |cont =>
   refine x_21 q3 λσ3 H3 I3 n3=>?_;obtain⟨m',hm,w3⟩:=hN σ3 H3 n3;exact⟨m',hm,σ3,H3,I3,w3⟩
  |brk=>exact q3
  |ret v=>exact q3
 |false =>
 rw[if_neg Bool.false_ne_true];exact wpAny_execs_nil ⟨σ1,H2,I2,q2⟩
end
structure It where
 go:Nat->Hp->Prop
 yld:Nat->Hp->V->Hp->Prop
 stop:Nat->Hp->Prop
def FpOk(X:Cx)(zz:zP)(H:Hp)(b:Addr):Prop:=
 H b=none/\b≠X.env.locals/\b∉X.fs/\(b∈X.ex\/X.s_0.heap.objs.size<=b)/\(∀x c,X.env.cells.lookup x=some c->c≠b)/\∀p∈X.pn++zz,p.1≠b
theorem Inv.fpOk{X:Cx}{zz:zP}{σ:St}{H H':Hp}{s:Shared}{b:Addr}(I:Inv X zz σ H s)(hb:s.heap.objs.size<=b)(hn:H' b=none):FpOk X zz H' b:=by
 refine⟨hn,ne_of_gt (Nat.lt_of_lt_of_le I.lt hb),I.nofs hb,.inr (Nat.le_trans I.sz hb),λx c e z=>?_,λp hp z=>?_⟩
 ·obtain⟨v,q⟩:=I.cell x c e
  exact absurd (Nat.lt_of_lt_of_le q.lt (by rw[z];exact hb)) (Nat.lt_irrefl _)
 exact absurd (Nat.lt_of_lt_of_le (lt_size (I.pin p hp).1) (by rw[z];exact hb)) (Nat.lt_irrefl _)
structure Turn(P:Program)(w:World)(K:Frag)(tg:Expr)(J:It)(fp:List Addr)(it:Addr)(tn:Nat->Heap->Prop):Prop where
 mem:it∈fp
 obj:∀i h,tn i h->∀b∈fp,∃o,h.get? b=some o/\∀v,o.data≠.cell v
 keep:∀i h h',tn i h->(∀b∈fp,∀o,h.get? b=some o->h'.get? b=some o)->tn i h'
 item:∀(X:Cx),X.prog=P->X.w=w->X.K=K->X.calm=true->∀(i:Nat) (zz:zP) (s:Shared) (σ:St) (H:Hp) (E:zQ),Inv X zz σ H s->(∀b∈fp,FpOk X zz H b)->tn i s.heap->J.go i H ->
  wpAny (model P w) X.A (pyNext (.ref it)) (λr s1=>∃u,r=some u /\
   wpAny (model P w) X.A (letOwnedTupleGo tg (.ref it) u) (λ_ s2=>∃x H',Inv X zz σ H' s2/\RelV x u/\J.yld i H x H'/\tn (i+1) s2.heap/\∀b∈fp,H' b=none) E s1) E s
 done:∀(X:Cx),X.prog=P->X.w=w->X.K=K->X.calm=true->∀(i:Nat) (zz:zP) (s:Shared) (σ:St) (H:Hp) (E:zQ),Inv X zz σ H s->(∀b∈fp,FpOk X zz H b)->tn i s.heap->J.stop i H ->
  wpAny (model P w) X.A (pyNext (.ref it)) (λr s1=>r=none/\Inv X zz σ H s1) E s
 self:∀(A:Around) (i:Nat) (s:Shared) (Q:zQ) (E:zQ),tn i s.heap->Q (.ref it) s->wpAny (model P w) A (pyIter (.ref it)) Q E s
abbrev TI:=St->Hp->(It->Hp->Prop)->Prop
def PIE(X:Cx)(zz:zP)(σ:St)(tg:Expr)(R:It->Hp->Prop)(itv:Value)(s2:Shared):Prop:=
 ∃(it:Addr) (fp:List Addr) (tn:Nat->Heap->Prop) (J:It) (H':Hp),itv=.ref it/\Inv X zz σ H' s2/\Turn X.prog X.w X.K tg J fp it tn/\tn 0 s2.heap/\(∀b∈fp,FpOk X zz H' b)/\R J H'
def PI(X:Cx)(tg iter:Expr)(wi:TI):Prop:=
 ∀(zz:zP) (s:Shared) (σ:St) (H:Hp) (R:It->Hp->Prop),Inv X zz σ H s->wi σ H R ->
  wpAny (model X.prog X.w) X.A (eval iter X.env) (λv s1=>wpAny (model X.prog X.w) X.A (pyIter v) (PIE X zz σ tg R) X.xe s1) X.xe s
theorem fJ{M:Model}{A:Around}{E:zQ}{s:Shared}{tg:Expr}{it:Addr}{u:Value}{o:Obj}{n:String}{vs:Array Value}{Q:Unit->Shared->Prop}(ho:s.heap.get? it=some o)(hc:o.cls=.type n)(hd:o.data=.fields vs)
  (hn:["enumerate","zip","dict_itemiterator","dict_reverseitemiterator","odict_iterator","itertools.zip_longest","itertools.pairwise"].contains n=false)(hQ:Q () s):wpAny M A (letOwnedTupleGo tg (.ref it) u) Q E s:=by
 unfold letOwnedTupleGo;cases tg<;>first
  |exact wpAny_pure hQ
  |(cases u<;>first
   |exact wpAny_pure hQ
   |(refine wpAny_bind (wpAny_load ho ?_)
     rw[hc,hd];show wpAny M A (if(["enumerate","zip","dict_itemiterator","dict_reverseitemiterator","odict_iterator","itertools.zip_longest","itertools.pairwise"].contains n&&vs[0]? == some (rawInt _))=true then _ else _) Q E s;rw[if_neg (by intro h;rw[hn,Bool.false_and]at h;cases h)];exact wpAny_pure hQ))
def Itl(K:Frag)(a:Addr):It:=
 ⟨λi H=>∃xs x,SqL K H a xs/\xs[i]? = some x,λi H x H'=>H'=H/\∀xs,SqL K H a xs->xs[i]? = some x,λi H=>∃xs,SqL K H a xs/\xs.length<=i⟩
def Itt(K:Frag)(a:Addr):It:=
 ⟨λi H=>∃xs x,SqT K H a xs/\xs[i]? = some x,λi H x H'=>H'=H/\∀xs,SqT K H a xs->xs[i]? = some x,λi H=>∃xs,SqT K H a xs/\xs.length<=i⟩
theorem l9{P:Program}{w:World}{K:Frag}{tg:Expr}(a it:Addr):Turn P w K tg (Itl K a) [it] it (λi h=>h.IsListIter it a i) where
 mem:=by simp
 obj:=λi h st b hb=>by
  have e:b=it:=by simpa using hb
  subst e;refine x_12 st λo e c d=>?_;exact⟨o,e,λv z=>by rw[d]at z;cases z⟩
 keep:=λi h h' st k=>st.at λo e=>k it (by simp) o e
 item:=by
  intro X hP hw hK hc i zz s σ H E I hf st hg;subst hP hw hK;refine x_21 hg λxs x hq hx=>?_;refine x_12 (I.list hq) λzw rv p hz=>?_;obtain⟨u,hu,ru⟩:=rv.get hx;obtain⟨f0,f1,f2,f3,f4,f5⟩:=hf it (by simp);refine wpAny_pyNext_list_item st p.isList (x:=u) (by simpa using hu) λh' st' sb=>?_;have I1:Inv X zz σ H {s with heap:=h' }:=I.turned (t':=s.toks) (λb o hb e=>(sb.2 b hb).trans e) f0 f1 f3 f4 f5;refine x_12 (id st') λo e c d=>?_;exact⟨u,rfl,fJ (s:={s with heap:=h' }) e c d (by decide) ⟨x,H,I1,ru,⟨rfl,λys hy=>by rw[I.list_inj hy hq];exact hx⟩,st',λb hb=>(hf b hb).1⟩⟩
 done:=by
  intro X hP hw hK hc i zz s σ H E I hf st hg;subst hP hw hK;obtain⟨xs,hq,hx⟩:=hg;refine x_12 (I.list hq) λzw rv p hz=>?_;obtain⟨f0,f1,f2,f3,f4,f5⟩:=hf it (by simp);have hl:=rv.length;exact wpAny_pyNext_list_end (I.ok.hd hc) st p.isList (by simp;omega) λh' eb=>⟨rfl,I.turned (t':=s.toks) (λb o hb e=>eb b o hb e) f0 f1 f3 f4 f5⟩
 self:=λ_ _ _ _ _ st h=>wpAny_pyIter_listiter st h
theorem sZ{P:Program}{w:World}{K:Frag}{tg:Expr}(a it:Addr):Turn P w K tg (Itt K a) [it] it (λi h=>h.IsTupleIter it a i) where
 mem:=by simp
 obj:=λi h st b hb=>by
  have e:b=it:=by simpa using hb
  subst e;refine x_12 st λo e c d=>?_;exact⟨o,e,λv z=>by rw[d]at z;cases z⟩
 keep:=λi h h' st k=>st.at λo e=>k it (by simp) o e
 item:=by
  intro X hP hw hK hc i zz s σ H E I hf st hg;subst hP hw hK;refine x_21 hg λxs x hq hx=>?_;refine x_12 (I.tuple hq) λzw rv p hz=>?_;obtain⟨u,hu,ru⟩:=rv.get hx;obtain⟨f0,f1,f2,f3,f4,f5⟩:=hf it (by simp);refine wpAny_pyNext_tuple_item st (show s.heap.IsTuple a zw.toArray from p) (x:=u) (by simpa using hu) λh' st' sb=>?_;have I1:Inv X zz σ H {s with heap:=h' }:=I.turned (t':=s.toks) (λb o hb e=>(sb.2 b hb).trans e) f0 f1 f3 f4 f5;refine x_12 (id st') λo e c d=>?_;exact⟨u,rfl,fJ (s:={s with heap:=h' }) e c d (by decide) ⟨x,H,I1,ru,⟨rfl,λys hy=>by rw[I.tuple_inj hy hq];exact hx⟩,st',λb hb=>(hf b hb).1⟩⟩
 done:=by
  intro X hP hw hK hc i zz s σ H E I hf st hg;subst hP hw hK;obtain⟨xs,hq,hx⟩:=hg;refine x_12 (I.tuple hq) λzw rv p hz=>?_;obtain⟨f0,f1,f2,f3,f4,f5⟩:=hf it (by simp);have hl:=rv.length;exact wpAny_pyNext_tuple_end (I.ok.hd hc) st (show s.heap.IsTuple a zw.toArray from p) (by simp;omega) λh' eb=>⟨rfl,I.turned (t':=s.toks) (λb o hb e=>eb b o hb e) f0 f1 f3 f4 f5⟩
 self:=λ_ _ _ _ _ st h=>wpAny_pyIter_tupleiter st h
section
variable{X:Cx}{tg:Expr}
def gO(K:Frag)(tl:TE):TI:=λσ H R=>tl σ H λx H1=>∃a,x=.ref a/\(∃xs,SqL K H1 a xs)/\R (Itl K a) H1
def iTup(K:Frag)(tl:TE):TI:=λσ H R=>tl σ H λx H1=>∃a,x=.ref a/\(∃xs,SqT K H1 a xs)/\R (Itt K a) H1
theorem jz{l:Expr}{tl:TE}(hl:PE X l tl):PI X tg l (gO X.K tl):=by
 intro zz s σ H R I h;refine thn (hl zz s σ H _ I h) λv s1 zq=>?_;obtain⟨x,H1,I1,r1,q1⟩:=zq;obtain⟨a,e,⟨xs,hq⟩,q⟩:=q1;subst e;cases r1;refine x_12 (I1.list hq) λzw rv p hz=>?_;refine wpAny_pyIter_list p.isList ?_;refine⟨s1.heap.objs.size,[s1.heap.objs.size],_,_,H1,rfl,I1.kept (t':=s1.toks) λb o e=>get?_push_of_some _ e,l9 a _,⟨_,get?_push_size _ rfl,rfl,rfl⟩,λb hb=>?_,q⟩;have e:b=s1.heap.objs.size:=by simpa using hb
 subst e;exact I1.fpOk (Nat.le_refl _) (I1.hok.fresh (Nat.le_refl _))
theorem tj{l:Expr}{tl:TE}(hl:PE X l tl):PI X tg l (iTup X.K tl):=by
 intro zz s σ H R I h;refine thn (hl zz s σ H _ I h) λv s1 zq=>?_;obtain⟨x,H1,I1,r1,q1⟩:=zq;obtain⟨a,e,⟨xs,hq⟩,q⟩:=q1;subst e;cases r1;refine x_12 (I1.tuple hq) λzw rv p hz=>?_;refine wpAny_pyIter_tuple (show s1.heap.IsTuple a zw.toArray from p) ?_;refine⟨s1.heap.objs.size,[s1.heap.objs.size],_,_,H1,rfl,I1.kept (t':=s1.toks) λb o e=>get?_push_of_some _ e,sZ a _,⟨_,get?_push_size _ rfl,rfl,rfl⟩,λb hb=>?_,q⟩;have e:b=s1.heap.objs.size:=by simpa using hb
 subst e;exact I1.fpOk (Nat.le_refl _) (I1.hok.fresh (Nat.le_refl _))
def tFor(wi:TI)(g:TG)(tb:TS):TS:=λD σ H=>wi σ H λJ H1=>∃W:Nat->Nat->St->Hp->Prop,(∃m,W 0 m σ H1)/\∀i m σ H,W i m σ H ->
 (J.stop i H/\D.nx σ H)\/(J.go i H/\∃N:St->Hp->Prop,(∀σ' H',N σ' H'->∃m',m'<m/\W (i+1) m' σ' H')/\∀x H',J.yld i H x H'->g x σ H' λσ2 H2=>tb {D with nx:=N,ct:=N,bk:=D.nx} σ2 H2)
noncomputable def eT(fp:List Addr)(h:Heap):zP:=fp.filterMap λb=>(h.get? b).map λo=>(b,o)
theorem fK{fp:List Addr}{h:Heap}{b:Addr}{o:Obj}(hb:b∈fp)(e:h.get? b=some o):(b,o)∈eT fp h:=List.mem_filterMap.mpr ⟨b,hb,by rw[e];rfl⟩
theorem tm{fp:List Addr}{h:Heap}{p:Addr×Obj}(hp:p∈eT fp h):p.1∈fp/\h.get? p.1=some p.2:=by
 obtain⟨b,hb,e⟩:=List.mem_filterMap.mp hp;cases q:h.get? b with
 |none=>rw[q]at e;cases e
 |some o =>
 rw[q]at e;have e':(b,o)=p:=Option.some.inj e;subst e';exact⟨hb,q⟩
theorem Inv.pinned{zz:zP}{σ:St}{H:Hp}{s:Shared}{fp:List Addr}(I:Inv X zz σ H s)(hf:∀b∈fp,FpOk X zz H b)(ho:∀b∈fp,∃o,s.heap.get? b=some o/\∀v,o.data≠.cell v):Inv X (zz++eT fp s.heap) σ H s:=
 I.pins_of λp hp=>(mem_append.mp hp).elim (λz=>I.pin p (mem_append_right _ z)) λz=>by
  obtain⟨hb,e⟩:=tm z;refine x_03 (hf p.1 hb) λf0 f1 f2 _=>?_;obtain⟨o,e',d⟩:=ho p.1 hb;rw[e]at e';cases e';exact⟨e,f0,f1,f2,d⟩
theorem Inv.unpinned{zz pl:zP}{σ:St}{H:Hp}{s:Shared}(I:Inv X (zz++pl) σ H s):Inv X zz σ H s:=I.pins_of λp hp=>I.pin p (mem_append_right _ (mem_append_left _ hp))
theorem dD{iter:Expr}{body:List Stmt}{wi:TI}{g:TG}{tb:TS}{pos:Pos}(hp:PassesOwn (model X.prog X.w) X.A X.env X.xe)(hc:X.calm=true)(hi:PI X tg iter wi)(hg:PG X tg g)(hb:PSs X body tb)
  (hs:∀x,foldedSetIterable iter X.env x=pure x:=by intro _;rfl):PS X (.For tg iter body [] pos) (tFor wi g tb):=by
 intro zz s σ H D I h;refine wpAny_For (thn (hi zz s σ H _ I h) λv s1 h1=>thn h1 λitv s2 h2=>?_) hs;refine x_50 h2 λit fp tn J H2 zy=>x_05 zy λe I2 T st2 f2 zz0=>?_;refine x_11 zz0 λW zn11 turn=>?_;obtain⟨m0,w0⟩:=zn11;subst e;have stat:∀{H':Hp},(∀b∈fp,H' b=none)->∀b∈fp,FpOk X zz H' b:=λhn b hb=>⟨hn b hb,(f2 b hb).2⟩;refine codeAny_forLoop_any (λn s'=>∃i σ' H',Inv X zz σ' H' s'/\tn i s'.heap/\(∀b∈fp,H' b=none)/\W i n σ' H') ?_ m0 ⟨0,σ,H2,I2,st2,λb hb=>(f2 b hb).1,w0⟩
 rintro n s3 ⟨i,σ3,H3,I3,st3,fr3,w3⟩
 rcases turn i n σ3 H3 w3 with⟨stop,qn⟩|⟨go,N,hN,step⟩
 ·refine wpAny_passesOwn hp (thn (T.done X rfl rfl rfl hc i zz s3 σ3 H3 X.xe I3 (stat fr3) st3 stop) λr s4 ⟨hr,I4⟩=>?_)
  subst hr;exact wpAny_execs_nil ⟨σ3,H3,I4,qn⟩
 refine wpAny_passesOwn hp (thn (T.item X rfl rfl rfl hc i zz s3 σ3 H3 X.xe I3 (stat fr3) st3 go) λr s4 ⟨u,hr,h4⟩=>?_);subst hr;refine wpAny_passesOwn hp (thn h4 λ_ s5 zq=>?_);refine x_24 zq λx H5 I5 r5 y5 st5 fr5=>?_;have I5':=I5.pinned (stat fr5) (T.obj _ _ st5);refine wpAny_passesOwn hp (thn (hg _ s5 σ3 H5 x u _ I5' r5 (step x H5 y5)) λ_ s6 ⟨σ6,H6,I6,q6⟩=>?_);refine wpAny_passesOwn hp (thn (hb _ s6 σ6 H6 _ I6 q6) λf s7 q7=>?_);have again:∀{σ7:St}{H7:Hp},Inv X (zz++eT fp s5.heap) σ7 H7 s7->N σ7 H7->∃m,m<n/\∃i σ' H',Inv X zz σ' H' s7/\tn i s7.heap/\(∀b∈fp,H' b=none)/\W i m σ' H':=λ{σ7 H7} I7 n7=>by
  obtain⟨m',hm,w7⟩:=hN σ7 H7 n7;refine⟨m',hm,i+1,σ7,H7,I7.unpinned,T.keep _ _ _ st5 λb hb o e=>(I7.pin (b,o) (mem_append_right _ (mem_append_right _ (fK hb e)))).1,λb hb=>?_,w7⟩;obtain⟨o,e,d⟩:=T.obj _ _ st5 b hb;exact(I7.pin (b,o) (mem_append_right _ (mem_append_right _ (fK hb e)))).2.1
 cases f with
 |next=>obtain⟨σ7,H7,I7,n7⟩:=q7;exact again I7 n7
 |cont=>obtain⟨σ7,H7,I7,n7⟩:=q7;exact again I7 n7
 |brk=>obtain⟨σ7,H7,I7,q7⟩:=q7;exact⟨σ7,H7,I7.unpinned,q7⟩
 |ret v=>obtain⟨x7,σ7,H7,I7,r7,q7⟩:=q7;exact⟨x7,σ7,H7,I7.unpinned,r7,q7⟩
end
theorem tq{K:Frag}{a:Addr}{xs:List V}{g:TG}{tb:TS}{D:Ends}{σ:St}{H:Hp}(Pv:Nat->St->Hp->Prop)(h0:Pv 0 σ H)(hl:∀i σ H,i<=xs.length->Pv i σ H->SqL K H a xs)
  (hs:∀i x σ H,xs[i]? = some x->Pv i σ H->g x σ H λσ2 H2=>tb {D with nx:=Pv (i+1),ct:=Pv (i+1),bk:=D.nx} σ2 H2)(hd:∀σ H,Pv xs.length σ H->D.nx σ H) :
  ∃W:Nat->Nat->St->Hp->Prop,(∃m,W 0 m σ H)/\∀i m σ H,W i m σ H ->
   ((Itl K a).stop i H/\D.nx σ H)\/((Itl K a).go i H/\∃N:St->Hp->Prop,(∀σ' H',N σ' H'->∃m',m'<m/\W (i+1) m' σ' H')/\∀x H',(Itl K a).yld i H x H'->g x σ H' λσ2 H2=>tb {D with nx:=N,ct:=N,bk:=D.nx} σ2 H2):=by
 refine⟨λi m σ H=>m=xs.length - i/\i<=xs.length/\Pv i σ H,⟨xs.length,by simp,zero_le _,h0⟩,?_⟩
 rintro i m σ H ⟨rfl,hi,p⟩
 have q:=hl i σ H hi p;by_cases hlt:i<xs.length
 ·refine .inr ⟨⟨xs,xs[i],q,by simp[hlt]⟩,Pv (i+1),λσ' H' p'=>⟨xs.length - (i+1),by omega,rfl,hlt,p'⟩,λx H' y=>?_⟩
  obtain⟨e,y⟩:=y;subst e;exact hs i x σ _ (y xs q) p
 have e:i=xs.length:=by omega
 subst e;exact .inl ⟨⟨xs,q,Nat.le_refl _⟩,hd σ H p⟩
theorem tD{K:Frag}{a:Addr}{xs:List V}{g:TG}{tb:TS}{D:Ends}{σ:St}{H:Hp}(Pv:Nat->St->Hp->Prop)(h0:Pv 0 σ H)(hl:∀i σ H,i<=xs.length->Pv i σ H->SqT K H a xs)
  (hs:∀i x σ H,xs[i]? = some x->Pv i σ H->g x σ H λσ2 H2=>tb {D with nx:=Pv (i+1),ct:=Pv (i+1),bk:=D.nx} σ2 H2)(hd:∀σ H,Pv xs.length σ H->D.nx σ H) :
  ∃W:Nat->Nat->St->Hp->Prop,(∃m,W 0 m σ H)/\∀i m σ H,W i m σ H ->
   ((Itt K a).stop i H/\D.nx σ H)\/((Itt K a).go i H/\∃N:St->Hp->Prop,(∀σ' H',N σ' H'->∃m',m'<m/\W (i+1) m' σ' H')/\∀x H',(Itt K a).yld i H x H'->g x σ H' λσ2 H2=>tb {D with nx:=N,ct:=N,bk:=D.nx} σ2 H2):=by
 refine⟨λi m σ H=>m=xs.length - i/\i<=xs.length/\Pv i σ H,⟨xs.length,by simp,zero_le _,h0⟩,?_⟩
 rintro i m σ H ⟨rfl,hi,p⟩
 have q:=hl i σ H hi p;by_cases hlt:i<xs.length
 ·refine .inr ⟨⟨xs,xs[i],q,by simp[hlt]⟩,Pv (i+1),λσ' H' p'=>⟨xs.length - (i+1),by omega,rfl,hlt,p'⟩,λx H' y=>?_⟩
  obtain⟨e,y⟩:=y;subst e;exact hs i x σ _ (y xs q) p
 have e:i=xs.length:=by omega
 subst e;exact .inl ⟨⟨xs,q,Nat.le_refl _⟩,hd σ H p⟩
abbrev R2:=V->V->Hp->VK->Prop
def OpR(X:Cx)(f:Value->Value->Sem Value)(r:R2):Prop:=
 ∀(zz:zP) (s:Shared) (σ:St) (H:Hp) (x y:V) (v u:Value) (Q:VK),Inv X zz σ H s->RelV x v->RelV y u->r x y H Q ->
  wpAny (model X.prog X.w) X.A (f v u) (EP X zz σ Q) X.xe s
def UnR(X:Cx)(f:Value->Sem Value)(r:V->Hp->VK->Prop):Prop:=
 ∀(zz:zP) (s:Shared) (σ:St) (H:Hp) (x:V) (v:Value) (Q:VK),Inv X zz σ H s->RelV x v->r x H Q ->
  wpAny (model X.prog X.w) X.A (f v) (EP X zz σ Q) X.xe s
def cB(X:Cx)(f:Value)(r:List V->Hp->VK->Prop):Prop:=
 ∀(zz:zP) (s:Shared) (σ:St) (H:Hp) (xs:List V) (us:List Value) (Q:VK),Inv X zz σ H s->Vals xs us->r xs H Q ->
  wpAny (model X.prog X.w) X.A (call f us) (EP X zz σ Q) X.xe s
def TruR(X:Cx)(r:V->Hp->(Bool->Hp->Prop)->Prop):Prop:=
 ∀(zz:zP) (s:Shared) (σ:St) (H:Hp) (x:V) (v:Value) (Q:Bool->Hp->Prop),Inv X zz σ H s->RelV x v->r x H Q ->
  wpAny (model X.prog X.w) X.A (truthy v) (TP X zz σ Q) X.xe s
def tOp(r:R2)(ta tb:TE):TE:=λσ H Q=>ta σ H λx H1=>tb σ H1 λy H2=>r x y H2 Q
def tUn(r:V->Hp->VK->Prop)(ta:TE):TE:=λσ H Q=>ta σ H λx H1=>r x H1 Q
def rI(C:Int->Int->Prop)(g:Int->Int->V):R2:=λx y H Q=>∃i j,x=.int i/\y=.int j/\C i j/\Q (g i j) H
def rI0(g:Int->Int->V):R2:=λx y H Q=>∃i j,x=.int i/\y=.int j/\Q (g i j) H
def rU(g:Int->V):V->Hp->VK->Prop:=λx H Q=>∃i,x=.int i/\Q (g i) H
section
variable{X:Cx}{a b:Expr}{ta tb:TE}{pos:Pos}
theorem binT(ha:PE X a ta)(hb:PE X b tb){zz:zP}{s:Shared}{σ:St}{H:Hp}{R:V->V->Hp->Prop}(I:Inv X zz σ H s)
  (h:ta σ H λx H1=>tb σ H1 λy H2=>R x y H2){Q:zQ}{f:Value->Value->Sem Value}
  (hf:∀v u s2 x y H2,Inv X zz σ H2 s2->RelV x v->RelV y u->R x y H2->wpAny (model X.prog X.w) X.A (f v u) Q X.xe s2) :
  wpAny (model X.prog X.w) X.A (eval a X.env) (λv s₁=>wpAny (model X.prog X.w) X.A (eval b X.env) (λu s₂=>wpAny (model X.prog X.w) X.A (f v u) Q X.xe s₂) X.xe s₁) X.xe s:=by
 refine thn (ha zz s σ H _ I h) λv s1 zq=>?_;refine x_22 zq λx H1 I1 r1 q1=>?_;refine thn (hb zz s1 σ H1 _ I1 q1) λu s2 zq=>?_;obtain⟨y,H2,I2,r2,q2⟩:=zq;exact hf v u s2 x y H2 I2 r1 r2 q2
theorem aY{op:Operator}{r:R2}(ho:OpR X (binaryOp op) r)(ha:PE X a ta)(hb:PE X b tb):PE X (.BinOp a op b pos) (tOp r ta tb):=by
 intro zz s σ H Q I h;exact wpAny_BinOp (binT ha hb I h λv u s2 x y H2 I2 rx ry q=>ho zz s2 σ H2 x y v u Q I2 rx ry q)
theorem tE{op:UnaryOp}{r:V->Hp->VK->Prop}(ho:UnR X (unaryOp op) r)(ha:PE X a ta):PE X (.UnaryOp op a pos) (tUn r ta):=by
 intro zz s σ H Q I h;exact UnaryOp_ (thn (ha zz s σ H _ I h) λv s1 ⟨x,H1,I1,r1,q1⟩=>ho zz s1 σ H1 x v Q I1 r1 q1)
theorem opI{f:Value->Value->Sem Value}{C:Int->Int->Prop}{g:Int->Int->Int}
  (rule:∀(i j:Int) (t u:Tok) (s:Shared) (Q:zQ) (E:zQ),C i j->Q (.int (g i j) s.toks) {s with toks:=s.toks+1}->wpAny (model X.prog X.w) X.A (f (.int i t) (.int j u)) Q E s) :
  OpR X f (rI C λi j=>.int (g i j)):=by
 intro zz s σ H x y v u Q I rx ry h;obtain⟨i,j,rfl,rfl,hc,q⟩:=h;obtain⟨t,rfl⟩:=rx;obtain⟨t',rfl⟩:=ry;exact rule i j t t' s _ _ hc ⟨.int (g i j),H,I.tok _,⟨_,rfl⟩,q⟩
theorem opI0{f:Value->Value->Sem Value}{g:Int->Int->Int}
  (rule:∀(i j:Int) (t u:Tok) (s:Shared) (Q:zQ) (E:zQ),Q (.int (g i j) s.toks) {s with toks:=s.toks+1}->wpAny (model X.prog X.w) X.A (f (.int i t) (.int j u)) Q E s) :
  OpR X f (rI0 λi j=>.int (g i j)):=by
 intro zz s σ H x y v u Q I rx ry h;obtain⟨i,j,rfl,rfl,q⟩:=h;obtain⟨t,rfl⟩:=rx;obtain⟨t',rfl⟩:=ry;exact rule i j t t' s _ _ ⟨.int (g i j),H,I.tok _,⟨_,rfl⟩,q⟩
theorem opB0{f:Value->Value->Sem Value}{g:Int->Int->Bool}
  (rule:∀(i j:Int) (t u:Tok) (s:Shared) (Q:zQ) (E:zQ),Q (.bool (g i j)) s->wpAny (model X.prog X.w) X.A (f (.int i t) (.int j u)) Q E s) :
  OpR X f (rI0 λi j=>.bl (g i j)):=by
 intro zz s σ H x y v u Q I rx ry h;obtain⟨i,j,rfl,rfl,q⟩:=h;obtain⟨t,rfl⟩:=rx;obtain⟨t',rfl⟩:=ry;exact rule i j t t' s _ _ ⟨.bl (g i j),H,I,rfl,q⟩
theorem cn:OpR X (binaryOp .Add) (rI0 λi j=>.int (i+j)):=opI0 λ_ _ _ _ _ _ _ q=>add_int q
theorem gQ:OpR X (binaryOp .Sub) (rI0 λi j=>.int (i - j)):=opI0 λ_ _ _ _ _ _ _ q=>sub_int q
theorem tF:OpR X (binaryOp .Mod) (rI (λ_ j=>0<j) λi j=>.int (i % j)):=opI λi j _ _ _ _ _ hc q=>by
 have h1:(0:Int)<j:=hc;exact mod_int' (by omega) (by rw[Int.fmod_eq_emod_of_nonneg i (by omega)];exact q)
theorem unI{f:Value->Sem Value}{g:Int->Int}
  (rule:∀(i:Int) (t:Tok) (s:Shared) (Q:zQ) (E:zQ),Q (.int (g i) s.toks) {s with toks:=s.toks+1}->wpAny (model X.prog X.w) X.A (f (.int i t)) Q E s) :
  UnR X f (rU λi=>.int (g i)):=by
 intro zz s σ H x v Q I rx h;obtain⟨i,rfl,q⟩:=h;obtain⟨t,rfl⟩:=rx;exact rule i t s _ _ ⟨.int (g i),H,I.tok _,⟨_,rfl⟩,q⟩
theorem tG:UnR X (unaryOp .USub) (rU λi=>.int (-i)):=unI λ_ _ _ _ _ q=>neg_int q
end
noncomputable def scal:V->V->Bool
 |.non,.non=>true|.non,.int _=>true|.int _,.non=>true|.non,.bl _=>true|.bl _,.non=>true|.non,.str _=>true|.str _,.non=>true
 |.int _,.int _=>true|.bl _,.bl _=>true|.str _,.str _=>true|.byt _,.byt _=>true
 |.int _,.str _=>true|.str _,.int _=>true|.bl _,.str _=>true|.str _,.bl _=>true
 |_,_=>false
def rEq:R2:=λx y H Q=>scal x y=true/\Q (.bl (decide (x=y))) H
def rNe:R2:=λx y H Q=>scal x y=true/\Q (.bl (!decide (x=y))) H
theorem ma{i j:Int}:decide (V.int i=V.int j)=(i==j):=by
 rw[Bool.eq_iff_iff];simp
theorem mf{i j:Bool}:decide (V.bl i=V.bl j)=(i==j):=by
 rw[Bool.eq_iff_iff];simp
theorem mh{i j:Str}:decide (V.str i=V.str j)=(i==j):=by
 rw[Bool.eq_iff_iff];simp
theorem mi{i j:Array UInt8}:decide (V.byt i=V.byt j)=(i.toList==j.toList):=by
 rw[Bool.eq_iff_iff];cases i;cases j;simp
section
variable{X:Cx}{a b c:Expr}{ta tb tc:TE}{pos:Pos}
theorem aZ{zz:zP}{σ:St}{H:Hp}{s:Shared}{Q:VK}{k k':Bool}(I:Inv X zz σ H s)(q:Q (.bl k) H)(e:k=k'):EP X zz σ Q (.bool k') s:=by
 subst e;exact⟨.bl k,H,I,rfl,q⟩
theorem bj:OpR X (compareOp .Eq) rEq:=by
 intro zz s σ H x y v u Q I rx ry h;obtain⟨hs,q⟩:=h;cases x with
 |non =>
  cases rx;cases y with
  |non=>cases ry;exact PySem.EqNone.eq_none_none (aZ I q (by simp))
  |bl j=>cases ry;exact PySem.EqNone.eq_none_bool (aZ I q (by simp))
  |int j=>obtain⟨t',rfl⟩:=ry;exact PySem.EqNone.eq_none_int (aZ I q (by simp))
  |str j=>obtain⟨t',rfl⟩:=ry;exact PySem.EqNone.eq_none_str (aZ I q (by simp))
  |_=>exact absurd (show false=true from hs) Bool.false_ne_true
 |bl i =>
  cases rx;cases y with
  |non=>cases ry;exact PySem.EqNone.eq_bool_none (aZ I q (by simp))
  |bl j=>cases ry;exact eq_bool (aZ I q mf)
  |str j=>obtain⟨t',rfl⟩:=ry;exact PySem.EqMixed.eq_bool_str (aZ I q (by simp))
  |_=>exact absurd (show false=true from hs) Bool.false_ne_true
 |int i =>
  obtain⟨t,rfl⟩:=rx;cases y with
  |non=>cases ry;exact PySem.EqNone.eq_int_none (aZ I q (by simp))
  |int j=>obtain⟨t',rfl⟩:=ry;exact eq_int (aZ I q ma)
  |str j=>obtain⟨t',rfl⟩:=ry;exact PySem.EqMixed.eq_int_str (aZ I q (by simp))
  |_=>exact absurd (show false=true from hs) Bool.false_ne_true
 |str i =>
  obtain⟨t,rfl⟩:=rx;cases y with
  |non=>cases ry;exact PySem.EqNone.eq_str_none (aZ I q (by simp))
  |bl j=>cases ry;exact PySem.EqMixed.eq_str_bool (aZ I q (by simp))
  |int j=>obtain⟨t',rfl⟩:=ry;exact PySem.EqMixed.eq_str_int (aZ I q (by simp))
  |str j=>obtain⟨t',rfl⟩:=ry;exact eq_str (aZ I q mh)
  |_=>exact absurd (show false=true from hs) Bool.false_ne_true
 |byt i =>
  obtain⟨t,rfl⟩:=rx;cases y with
  |byt j=>obtain⟨t',rfl⟩:=ry;exact PySem.W.eq_bytes (aZ I q mi)
  |_=>exact absurd (show false=true from hs) Bool.false_ne_true
 |_=>cases y<;>exact absurd (show false=true from hs) Bool.false_ne_true
theorem eU:OpR X (compareOp .NotEq) rNe:=by
 intro zz s σ H x y v u Q I rx ry h;obtain⟨hs,q⟩:=h;cases x with
 |non =>
  cases rx;cases y with
  |non=>cases ry;exact PySem.EqNone.ne_none_none (aZ I q (by simp))
  |bl j=>cases ry;exact PySem.EqNone.ne_none_bool (aZ I q (by simp))
  |int j=>obtain⟨t',rfl⟩:=ry;exact PySem.EqNone.ne_none_int (aZ I q (by simp))
  |str j=>obtain⟨t',rfl⟩:=ry;exact PySem.EqNone.ne_none_str (aZ I q (by simp))
  |_=>exact absurd (show false=true from hs) Bool.false_ne_true
 |bl i =>
  cases rx;cases y with
  |non=>cases ry;exact PySem.EqNone.ne_bool_none (aZ I q (by simp))
  |bl j=>cases ry;exact ne_bool (aZ I q (congrArg not mf))
  |str j=>obtain⟨t',rfl⟩:=ry;exact PySem.EqMixed.ne_bool_str (aZ I q (by simp))
  |_=>exact absurd (show false=true from hs) Bool.false_ne_true
 |int i =>
  obtain⟨t,rfl⟩:=rx;cases y with
  |non=>cases ry;exact PySem.EqNone.ne_int_none (aZ I q (by simp))
  |int j=>obtain⟨t',rfl⟩:=ry;exact ne_int (aZ I q (congrArg not ma))
  |str j=>obtain⟨t',rfl⟩:=ry;exact PySem.EqMixed.ne_int_str (aZ I q (by simp))
  |_=>exact absurd (show false=true from hs) Bool.false_ne_true
 |str i =>
  obtain⟨t,rfl⟩:=rx;cases y with
  |non=>cases ry;exact PySem.EqNone.ne_str_none (aZ I q (by simp))
  |bl j=>cases ry;exact PySem.EqMixed.ne_str_bool (aZ I q (by simp))
  |int j=>obtain⟨t',rfl⟩:=ry;exact PySem.EqMixed.ne_str_int (aZ I q (by simp))
  |str j=>obtain⟨t',rfl⟩:=ry;exact ne_str (aZ I q (congrArg not mh))
  |_=>exact absurd (show false=true from hs) Bool.false_ne_true
 |byt i =>
  obtain⟨t,rfl⟩:=rx;cases y with
  |byt j=>obtain⟨t',rfl⟩:=ry;exact PySem.W.ne_bytes (aZ I q (congrArg not mi))
  |_=>exact absurd (show false=true from hs) Bool.false_ne_true
 |_=>cases y<;>exact absurd (show false=true from hs) Bool.false_ne_true
theorem eV:OpR X (compareOp .Lt) (rI0 λi j=>.bl (decide (i<j))):=opB0 λ_ _ _ _ _ _ _ q=>lt_int q
theorem eW:OpR X (compareOp .LtE) (rI0 λi j=>.bl (decide (i<=j))):=opB0 λ_ _ _ _ _ _ _ q=>le_int q
theorem dE:OpR X (compareOp .Gt) (rI0 λi j=>.bl (decide (j<i))):=opB0 λ_ _ _ _ _ _ _ q=>gt_int q
theorem mj:OpR X (compareOp .GtE) (rI0 λi j=>.bl (decide (j<=i))):=opB0 λ_ _ _ _ _ _ _ q=>ge_int q
theorem aH(b:Expr){op:CmpOp}(h:op≠.In:=by decide)(h2:op≠.NotIn:=by decide):behindInMarks op b=false:=by
 have e1:(op==CmpOp.In)=false:=by cases op<;>first|rfl|exact absurd rfl h
 have e2:(op==CmpOp.NotIn)=false:=by cases op<;>first|rfl|exact absurd rfl h2
 cases b<;>simp[behindInMarks,e1,e2]
theorem eC{op:CmpOp}{r:R2}(ho:OpR X (compareOp op) r)(ha:PE X a ta)(hb:PE X b tb)(hm:behindInMarks op b=false):PE X (.Compare a [op] [b] pos) (tOp r ta tb):=by
 intro zz s σ H Q I h;exact wpAny_Compare1 (binT ha hb I h λv u s2 x y H2 I2 rx ry q=>ho zz s2 σ H2 x y v u Q I2 rx ry q) hm
def isB(x:V)(R:Bool->Prop):Prop:=match x with
 |.bl k=>R k
 |_=>False
theorem jA{x:V}{R:Bool->Prop}(h:isB x R):∃k,x=.bl k/\R k:=by
 cases x with
 |bl k=>exact⟨k,rfl,h⟩
 |_=>exact h.elim
def gR(t:TE):TT:=λσ H Q=>t σ H λx H'=>isB x λk=>Q k H'
theorem aC{op:CmpOp}{r:R2}(ho:OpR X (compareOp op) r)(ha:PE X a ta)(hb:PE X b tb)(hm:behindInMarks op b=false):PT X (.Compare a [op] [b] pos) (gR (tOp r ta tb)):=by
 intro zz s σ H Q I h;refine wpAny_isTrue_Compare1 (thn (ha zz s σ H _ I h) λv s1 ⟨x,H1,I1,r1,q1⟩=>thn (hb zz s1 σ H1 _ I1 q1) λu s2 ⟨y,H2,I2,r2,q2⟩ =>
  thn (ho zz s2 σ H2 x y v u _ I2 r1 r2 q2) λc s3 ⟨z,H3,I3,r3,q3⟩=>?_) hm
 obtain⟨k,e,q3⟩:=jA q3;subst e;cases r3;exact wpAny_truthy_bool ⟨H3,I3,q3⟩
def jB(r r':R2)(ta tb tc:TE):TE:=λσ H Q=>ta σ H λx H1=>tb σ H1 λy H2=>r x y H2 λz H3=>∃k,z=.bl k /\
 (if k=true then tc σ H3 λw' H4=>r' y w' H4 Q else Q (.bl false) H3)
theorem ml{op op':CmpOp}{r r':R2}(ho:OpR X (compareOp op) r)(ho':OpR X (compareOp op') r')(ha:PE X a ta)(hb:PE X b tb)(hc:PE X c tc)
  (hm:lastMarks [op,op'] [b,c]=false:=by with_unfolding_all rfl):PE X (.Compare a [op,op'] [b,c] pos) (jB r r' ta tb tc):=by
 intro zz s σ H Q I h;refine Compare_chain (thn (ha zz s σ H _ I h) λv s1 ⟨x,H1,I1,r1,q1⟩=>chain_link (thn (hb zz s1 σ H1 _ I1 q1) λu s2 ⟨y,H2,I2,r2,q2⟩ =>
  thn (ho zz s2 σ H2 x y v u _ I2 r1 r2 q2) λd s3 ⟨z,H3,I3,r3,k,e,q3⟩=>?_)) hm
 subst e;cases r3;refine wpAny_truthy_bool ?_;cases k with
 |false=>exact ite_ff ⟨.bl false,H3,I3,rfl,q3⟩
 |true=>exact ite_tt (chain_last (thn (hc zz s3 σ H3 _ I3 q3) λw' s4 ⟨z',H4,I4,r4,q4⟩=>ho' zz s4 σ H4 y z' u w' Q I4 r2 r4 q4))
theorem tH{op op':CmpOp}{r r':R2}(ho:OpR X (compareOp op) r)(ho':OpR X (compareOp op') r')(ha:PE X a ta)(hb:PE X b tb)(hc:PE X c tc)
  (hm:lastMarks [op,op'] [b,c]=false:=by with_unfolding_all rfl):PT X (.Compare a [op,op'] [b,c] pos) (gR (jB r r' ta tb tc)):=by
 intro zz s σ H Q I h;refine isTrue_chain (thn (ha zz s σ H _ I h) λv s1 ⟨x,H1,I1,r1,q1⟩=>test_link (thn (hb zz s1 σ H1 _ I1 q1) λu s2 ⟨y,H2,I2,r2,q2⟩ =>
  thn (ho zz s2 σ H2 x y v u _ I2 r1 r2 q2) λd s3 ⟨z,H3,I3,r3,k,e,q3⟩=>?_)) hm
 subst e;cases r3;refine wpAny_truthy_bool ?_;cases k with
 |false =>
  exact ite_ff ⟨H3,I3,q3⟩
 |true =>
 refine ite_tt (test_last (thn (hc zz s3 σ H3 _ I3 q3) λw' s4 ⟨z',H4,I4,r4,q4⟩=>thn (ho' zz s4 σ H4 y z' u w' _ I4 r2 r4 q4) λd' s5 zq=>?_));obtain⟨z2,H5,I5,r5,q5⟩:=zq;obtain⟨k2,e2,q5⟩:=jA q5;subst e2;cases r5;exact wpAny_truthy_bool ⟨H5,I5,q5⟩
def TruV(K:Frag)(x:V)(H:Hp)(k:Bool):Prop:=
 match x with
 |.non=>k=false
 |.bl b=>k=b
 |.int i=>k=(i != 0)
 |.str y=>y.length<=sizeLine/\k=((y.length:Int) != 0)
 |.byt y=>y.size<=sizeLine/\k=((y.size:Int) != 0)
 |.ref p=>(∃xs,SqL K H p xs/\k= !xs.isEmpty)\/(∃xs,SqT K H p xs/\k= !xs.isEmpty)\/∃zu,H p=some (.dK zu)/\k= !zu.isEmpty
 |_=>False
theorem tI{κ:Type}{zu:List (κ×V)}{vs:List (κ×Value)}(r:KV zu vs):(!vs.isEmpty)= !zu.isEmpty:=by
 cases r<;>rfl
theorem mm{xs:List V}{zw:List Value}(r:Vals xs zw):(!zw.toArray.isEmpty)= !xs.isEmpty:=by
 cases r<;>simp
theorem dF:(sizeLine:Nat)<2 ^ 63:=by rw[sizeLine_eq];decide
theorem tJ:TruR X (λx H Q=>∃k,TruV X.K x H k/\Q k H):=by
 intro zz s σ H x v Q I rx h;obtain⟨k,e,q⟩:=h;have hl:=dF;have hs:sizeLine=16777216:=sizeLine_eq;cases x with
 |non =>
  cases rx;have e':k=false:=e;subst e';exact truthy_none ⟨H,I,q⟩
 |bl b =>
  cases rx;have e':k=b:=e;subst e';exact wpAny_truthy_bool ⟨H,I,q⟩
 |int i =>
  obtain⟨t,rfl⟩:=rx;have e':k=(i != 0):=e;subst e';exact PySem.P.truthy_int ⟨H,I,q⟩
 |str y =>
  obtain⟨t,rfl⟩:=rx;obtain⟨hy,e'⟩:y.length<=sizeLine/\k=((y.length:Int) != 0):=e;subst e';exact PySem.P.truthy_str (by omega) ⟨H,I.tok _,q⟩
 |byt y =>
  obtain⟨t,rfl⟩:=rx;obtain⟨hy,e'⟩:y.size<=sizeLine/\k=((y.size:Int) != 0):=e;subst e';exact PySem.W.truthy_bytes (by omega) ⟨H,I.tok _,q⟩
 |ref p =>
  cases rx;have e':(∃xs,SqL X.K H p xs/\k= !xs.isEmpty)\/(∃xs,SqT X.K H p xs/\k= !xs.isEmpty)\/∃zu,H p=some (.dK zu)/\k= !zu.isEmpty:=e;rcases e' with⟨xs,hx,e'⟩|⟨xs,hx,e'⟩|⟨zu,hx,e'⟩
  ·subst e'
   refine x_12 (I.list hx) λzw r pl hz=>?_;have zr:=r.length;exact wpAny_truthy_list pl.isList (by simp only[size_toArray];omega) ⟨H,I.tok _,by rw[mm r];exact q⟩
  ·subst e'
   refine x_12 (I.tuple hx) λzw r pl hz=>?_;have zr:=r.length;exact truthy_tuple pl (by simp only[size_toArray];omega) ⟨H,I.tok _,by rw[mm r];exact q⟩
  subst e';obtain⟨hz,hS,vs,r,m⟩:zu.length<=sizeLine/\(p==sysModules)=false/\∃vs,KV zu vs/\s.heap.DictOf (bE X.prog X.w) p vs:=I.hok p _ hx;have zr:zu.length=vs.length:=Paired.length r;exact wpAny_truthy_dict hS m (by omega) ⟨H,I.tok _,by rw[tI r];exact q⟩
 |_=>exact(show False from e).elim
theorem eX(ha:PE X a ta)(he:∀whole,isTrue a X.env whole=(do let v <- whole;standAt a.pos;holding [v] (truthy v))) :
  PT X a (λσ H Q=>ta σ H λx H'=>∃k,TruV X.K x H' k/\Q k H'):=by
 intro zz s σ H Q I h;exact isTrue_plain (thn (ha zz s σ H _ I h) λv s1 ⟨x,H1,I1,r1,q1⟩=>tJ zz s1 σ H1 x v Q I1 r1 q1) (he _)
theorem dG:OpR X (binaryOp .Add) (λx y H Q=>∃i j,x=.str i/\y=.str j/\i.length+j.length<=sizeLine/\Q (.str (i++j)) H):=by
 intro zz s σ H x y v u Q I rx ry h;refine x_23 h λi j zr2 zr3 hz q=>?_;subst zr2;subst zr3;obtain⟨t,rfl⟩:=rx;obtain⟨t',rfl⟩:=ry;exact add_str (λt' tk=>⟨.str (i++j),H,I.tok _,⟨_,rfl⟩,q⟩) hz
theorem dX{x:V}{us:List Value}(r:Vals [x] us):∃u,us=[u]/\RelV x u:=by
 cases r with
 |cons r1 r2=>cases r2;exact⟨_,rfl,r1⟩
theorem gS:cB X (.type "str") (λxs H Q=>∃i,xs=[.int i]/\i.natAbs.log2<1920/\Q (.str (toString i)) H):=by
 intro zz s σ H xs us Q I r h;refine x_12 h λi zr1 hz q=>?_;subst zr1;refine x_11 (dX r) λu zr1 zz0=>?_;refine x_10 zz0 λt zr3=>?_;subst zr1;subst zr3;exact PySem.P.str_of_int hz ⟨.str _,H,I.tok _,⟨_,rfl⟩,q⟩
theorem gT:cB X (.builtin "ord") (λxs H Q=>∃x,xs=[.str x]/\x.length=1/\Q (.int (x.cps.getD 0 0:Nat)) H):=by
 intro zz s σ H xs us Q I r h;refine x_12 h λx zr1 hz q=>?_;subst zr1;refine x_11 (dX r) λu zr1 zz0=>?_;refine x_10 zz0 λt zr3=>?_;subst zr1;subst zr3;exact ord_of_one hz ⟨.int _,H,I.tok _,⟨_,rfl⟩,q⟩
end
structure ObjM(h:Heap)(x dx C:Addr)(mA:zM):Prop where
 obj:h.get? x=some (instObj C dx)
 ns:h.Ns1 dx mA
 ne:dx≠x
theorem mq{h:Heap}{dx:Addr}{mA:zM}(n:h.Ns1 dx mA):∃od,h.get? dx=some od/\∀name,lookIn name od=some (mA name):=by
 refine x_34 n λo es ep ho hd hk _ hm=>?_;refine⟨o,ho,λname=>?_⟩;have e:=hm name;unfold nsFind findBy at e;rw[<- Array.find?_toList]at e;unfold lookIn;rw[hd];dsimp only;split
 ·rename_i y q
  rw[q]at e;exact congrArg some e
 rename_i q;rw[q]at e;have a:es.toList.any (·.refKey)=false:=by
  rw[List.any_eq_false];intro y hy;obtain⟨z,t,hkey⟩:=hk y (Array.mem_toList_iff.mp hy);simp[DictEntry.refKey,hkey]
 have a':¬es.toList.any (·.refKey)=true:=by rw[a];exact Bool.false_ne_true
 rw[if_neg a'];exact congrArg some e
theorem ObjM.look{h:Heap}{x dx C:Addr}{mA:zM}(I:ObjM h x dx C mA):∃od,PySem.W.InstAt h x (instObj C dx) C (some od)/\∀name,lookIn name od=some (mA name):=
 let⟨od,ho,hl⟩:=mq I.ns
 ⟨od,⟨I.obj,rfl,rfl,ho⟩,hl⟩
section
variable{prog:Program}{w:World}{A:Around}{E:zQ}{s:Shared}{K:Frag}{x dx C f:Addr}{mA:zM}{name:Str}{v:Value}
theorem tK{expr:Bool}{Q:zQ}(X:K.In s.heap)(I:ObjM s.heap x dx C mA)(hg:plainGet K C name=true)(hh:hasDictIn K C=true)
  (ha:PySem.W.findIn K (.ref C) name=some none)(hv:mA name=some v)(hv':PySem.W.handedIn v=true)(h:Q v {s with toks:=s.toks+1}) :
  wpAny (model prog w) A (getAttr (.ref x) name expr) Q E s:=by
 obtain⟨od,J,hl⟩:=I.look;exact PySem.W.get_value X J (PySem.W.plainGet_of hg).1 (PySem.W.findObj_own hh ha rfl (by rw[hl,hv])) hv' h
theorem tL{pl:Sem Bool}{Q:Value×List Value->Shared->Prop}(X:K.In s.heap)(I:ObjM s.heap x dx C mA)(hg:plainGet K C name=true)
  (hf:PySem.W.findIn K (.ref C) name=some (some (.ref f)))(ht:isFn K (.ref f)=true)(hv:mA name=none)(h:Q (.ref f,[.ref x]) s) :
  wpAny (model prog w) A (getMethod (.ref x) name pl) Q E s:=by
 obtain⟨od,J,hl⟩:=I.look;exact PySem.W.method_fn X J (PySem.W.plainGet_of hg).1 (PySem.W.plainGet_of hg).2 hf (beq_iff_eq.mp ht) (by show(lookIn name od).map (·.isSome)=some false;rw[hl,hv];rfl) h
theorem tM{ns:List Str}{Q:Unit->Shared->Prop}(X:K.In s.heap)(I:ObjM s.heap x dx C mA)
  (hs:PySem.W.findIn K (.ref C) "__setattr__"=some (some (.builtin "object.__setattr__")))(hp:PySem.W.plainOver K C=true)(ht:PySem.W.takerIn K C name=some none)(hh:hasDictIn K C=true)
  (hw:PySem.Within mA ns)(hsz:ns.length<=sizeLine)
  (h:∀h',ObjM h' x dx C (λy=>if y=name then some v else mA y)->Heap.SameBut dx s.heap h'->Q () {s with heap:=h',toks:=s.toks+2}) :
  wpAny (model prog w) A (setAttr (.ref x) name v) Q E s:=by
 obtain⟨od,J,hl⟩:=I.look;refine PySem.W.set_plain X J hs (PySem.W.osa_open (s:={s with toks:=s.toks+1}) (r:=none) X J hp ht λb=>?_);obtain⟨cd,hc,hd'⟩:=PySem.W.any_some hh;have hx:s.heap.get? x=some ⟨.ref C,some dx,.plain,#[]⟩:=I.obj;refine wpAny_bind (wpAny_pure (wpAny_bind (wpAny_bind (wpAny_loadPart hx (wpAny_bind (PySem.W.Looks.here (s:={s with toks:=s.toks+1}) (looks_clsIn X hc) ?_))))));rw[hd'];refine wpAny_pure (a:=some dx) (wpAny_bind (wpAny_pure (wpAny_bind ?_)));refine wpAny_nsSet1 (s:={s with toks:=s.toks+1}) I.ns λh' hn2 hs2=>?_;refine x_32 (hn2.count (PySem.Within.cons name v hw)) λoD esD epD hoD hdD hcD=>?_;refine wpAny_bind (wpAny_lookBehind hoD (by rw[hdD];exact pastItsLine_dict (Nat.le_trans hcD (by rw[length_cons];omega))) ?_);exact wpAny_pure (h _ ⟨(hs2.2 _ (Ne.symm I.ne)).trans I.obj,hn2,I.ne⟩ hs2)
theorem tN{R:Result->Shared->Prop}{vs:List Value}{kw:List (Str×Value)}(X:K.In s.heap)(hm:PySem.W.makesIn K C=true)
  (hi:PySem.W.findIn K (.ref C) "__init__"=some (some (.ref f)))(hf:PySem.W.typeIn K (.ref f)=some (.type "function"))
  (h:codeAny (model prog w) (A.under (.builtin "type.__call__" ⟨.ref C::vs,kw⟩)) (.call (.ref f) ⟨.ref (s.heap.objs.size+1)::vs,kw⟩) (PySem.W.InitBack (s.heap.objs.size+1) R)
   {s with heap:=(s.heap.push emptyDict).push (instObj C s.heap.objs.size)}) :
  codeAny (model prog w) A (.call (.ref C) ⟨vs,kw⟩) R s:=by
 obtain⟨hh,g,d,t,os⟩:=s;exact PySem.W.make_core (PySem.W.makes_of X hm) (looks_findIn X hi) (λself=>PySem.W.bind_fn X self hf) (.inl rfl) h
end
def putF(f:Str)(v:V):List (Str×V)->List (Str×V)
 |[]=>[(f,v)]
 |(g,x)::r=>if g=f then(g,v)::r else(g,x)::putF f v r
theorem jC(f g:Str)(v:V):∀fs:List (Str×V),(putF f v fs).lookup g=if g=f then some v else fs.lookup g
 |[]=>by
  show List.lookup g [(f,v)]=_;by_cases h:g=f
  ·have hb:(g==f)=true:=beq_iff_eq.mpr h
   simp only[List.lookup,hb,if_pos h]
  have hb:(g==f)=false:=beq_eq_false_iff_ne.mpr h;simp only[List.lookup,hb,if_neg h]
 |(k,x)::r=>by
  have ih:=jC f g v r;rw[show putF f v ((k,x)::r)=(if k=f then(k,v)::r else(k,x)::putF f v r)from rfl];by_cases hk:k=f
  ·rw[if_pos hk]
   by_cases h:g=k
   ·have hb:(g==k)=true:=beq_iff_eq.mpr h
    simp only[List.lookup,hb,if_pos (h.trans hk)]
   have hb:(g==k)=false:=beq_eq_false_iff_ne.mpr h;simp only[List.lookup,hb,if_neg (λe:g=f=>h (e.trans hk.symm))]
  rw[if_neg hk];by_cases h:g=k
  ·have hb:(g==k)=true:=beq_iff_eq.mpr h
   simp only[List.lookup,hb,if_neg (λe:g=f=>hk (h.symm.trans e))]
  have hb:(g==k)=false:=beq_eq_false_iff_ne.mpr h;simp only[List.lookup,hb];exact ih
theorem fL(f:Str)(v:V):∀fs:List (Str×V),f∈(putF f v fs).map (·.1)/\∀g,g∈fs.map (·.1)->g∈(putF f v fs).map (·.1)
 |[]=>⟨by simp[putF],λg h=>by simp at h⟩
 |(k,x)::r=>by
  obtain⟨i1,i2⟩:=fL f v r;rw[show putF f v ((k,x)::r)=(if k=f then(k,v)::r else(k,x)::putF f v r)from rfl];by_cases hk:k=f
  ·rw[if_pos hk]
   subst hk;exact⟨by simp,λg h=>by simpa using h⟩
  rw[if_neg hk];refine⟨?_,λg h=>?_⟩
  ·rw[map_cons]
   exact mem_cons_of_mem _ i1
  rw[map_cons]at h ⊢;rcases mem_cons.mp h with e|e
  ·exact mem_cons.mpr (.inl e)
  exact mem_cons_of_mem _ (i2 g e)
theorem gU(f:Str)(v:V):∀fs:List (Str×V),(putF f v fs).length<=fs.length+1
 |[]=>by simp[putF]
 |(k,x)::r=>by
  have ih:=gU f v r;rw[show putF f v ((k,x)::r)=(if k=f then(k,v)::r else(k,x)::putF f v r)from rfl];by_cases hk:k=f
  ·rw[if_pos hk,length_cons,length_cons];omega
  rw[if_neg hk,length_cons,length_cons];omega
theorem RelO.some_of{v:V}{o:Option Value}(r:RelO (some v) o):∃u,o=some u/\RelV v u:=by
 cases o with
 |none=>exact(show False from r).elim
 |some u=>exact⟨u,rfl,r⟩
theorem RelO.none_of{o:Option Value}(r:RelO none o):o=none:=by
 cases o with
 |none=>rfl
 |some u=>exact(show False from r).elim
theorem mr{v:V}{u:Value}(r:RelV v u):PySem.W.handedIn u=true:=by
 cases v with
 |non=>cases(show u=Value.none from r);rfl
 |bl b=>cases(show u=Value.bool b from r);rfl
 |int i=>obtain⟨t,e⟩:=(show ∃t,u=Value.int i t from r);cases e;rfl
 |str x=>obtain⟨t,e⟩:=(show ∃t,u=Value.str x t from r);cases e;rfl
 |byt b=>obtain⟨t,e⟩:=(show ∃t,u=Value.bytes b t from r);cases e;rfl
 |flt b=>obtain⟨t,e⟩:=(show ∃t,u=Value.float b t from r);cases e;rfl
 |ref a=>cases(show u=Value.ref a from r);rfl
 |ty n=>cases(show u=Value.type n from r);rfl
section
variable{P:Program}{w:World}{H:Hp}{h:Heap}{a C dx:Addr}{fs:List (Str×V)}
theorem gV(hok:HOk P w H h)(e:H a=some (.ins C dx fs)):∃mA,ObjM h a dx C mA/\(∀f,RelO (fs.lookup f) (mA f))/\PySem.Within mA (fs.map (·.1))/\fs.length<=1000/\H dx=some (.own a):=by
 refine x_04 ((show aO P w H h a (.ins C dx fs)from hok a _ e)) λd z ne ob zz0=>?_;refine x_12 zz0 λmA n r q=>?_;exact⟨mA,⟨ob,n,ne⟩,r,q,z,d⟩
end
structure Cls(K:Frag)(C:Addr):Prop where
 pg:plainGet K C Str.empty=true
 hd:hasDictIn K C=true
 po:PySem.W.plainOver K C=true
 sa:PySem.W.findIn K (.ref C) "__setattr__"=some (some (.builtin "object.__setattr__"))
theorem Cls.get{K:Frag}{C:Addr}(c:Cls K C)(f:Str):plainGet K C f=true:=c.pg
def aN(K:Frag)(C:Addr)(f:Str):Prop:=PySem.W.findIn K (.ref C) f=some none
theorem aN.taker{K:Frag}{C:Addr}{f:Str}(n:aN K C f):PySem.W.takerIn K C f=some none:=by
 unfold PySem.W.takerIn;rw[show PySem.W.findIn K (.ref C) f=some none from n];rfl
structure Meth(K:Frag)(C:Addr)(m:Str)(f:Addr):Prop where
 at_:PySem.W.findIn K (.ref C) m=some (some (.ref f))
 fn:isFn K (.ref f)=true
 kp:keepIn K (.ref f)=true
section
variable{X:Cx}{zz:zP}{σ:St}{H:Hp}{s:Shared}{a C dx:Addr}{fs:List (Str×V)}{f:Str}{v:V}{A:Around}{E:zQ}
theorem mv{b:Bool}{Q:zQ}(I:Inv X zz σ H s)(e:H a=some (.ins C dx fs))(c:Cls X.K C)(n:aN X.K C f)(l:fs.lookup f=some v)
  (h:∀u s',Inv X zz σ H s'->RelV v u->Q u s'):wpAny (model X.prog X.w) A (getAttr (.ref a) f b) Q E s:=by
 obtain⟨mA,O,r,_,_,_⟩:=gV I.hok e;obtain⟨u,hu,ru⟩:=RelO.some_of (v:=v) (o:=mA f) (by rw[<- l];exact r f);exact tK I.kIn O (c.get f) c.hd n hu (mr ru) (h u _ (I.tok _) ru)
theorem mw{m:Str}{g:Addr}{pl:Sem Bool}{Q:Value×List Value->Shared->Prop}(I:Inv X zz σ H s)(e:H a=some (.ins C dx fs))(c:Cls X.K C)(k:Meth X.K C m g)(l:fs.lookup m=none)
  (h:Q (.ref g,[.ref a]) s):wpAny (model X.prog X.w) A (getMethod (.ref a) m pl) Q E s:=by
 obtain⟨mA,O,r,_,_,_⟩:=gV I.hok e;have hn:mA m=none:=RelO.none_of (by rw[<- l];exact r m);exact tL I.kIn O (c.get m) k.at_ k.fn hn h
theorem mx{y:V}{u:Value}{Q:Unit->Shared->Prop}(I:Inv X zz σ H s)(e:H a=some (.ins C dx fs))(c:Cls X.K C)(n:aN X.K C f)(hl:fs.length<1000)(ry:RelV y u)
  (h:∀s',Inv X zz σ (upd H a (.ins C dx (putF f y fs))) s'->Q () s'):wpAny (model X.prog X.w) A (setAttr (.ref a) f u) Q E s:=by
 obtain⟨mA,O,r,wi,_,ho⟩:=gV I.hok e;have hz:(fs.map (·.1)).length<=sizeLine:=by rw[length_map,sizeLine_eq];omega
 refine tM I.kIn O c.sa c.po n.taker c.hd wi hz λh' O' sb=>h _ ?_;have hd:∃o,h'.get? dx=some o:=let⟨o,_,_,e',_⟩:=O'.ns;⟨o,e'⟩;refine I.write (x:=a) (e:=dx) (by rw[e];exact True.intro) (.inr ho) (λb q hb z=>(sb.2 b hb).trans z) hd ?_;refine⟨by rw[ao O.ne];exact ho,?_,O.ne,O'.obj,_,O'.ns,λg=>?_,λg hg=>?_⟩
 ·have:=gU f y fs;omega
 ·show RelO ((putF f y fs).lookup g) (if g=f then some u else mA g)
  rw[jC];by_cases q:g=f
  ·rw[if_pos q,if_pos q];exact ry
  rw[if_neg q,if_neg q];exact r g
 by_cases q:g=f
 ·rw[q];exact(fL f y fs).1
 refine(fL f y fs).2 g (wi g λz=>hg ?_);show(if g=f then some u else mA g)=none;rw[if_neg q];exact z
theorem Inv.made(I:Inv X zz σ H s):Inv X zz σ (upd (upd H s.heap.objs.size (.own (s.heap.objs.size+1))) (s.heap.objs.size+1) (.ins C s.heap.objs.size []))
  {s with heap:=(s.heap.push emptyDict).push (instObj C s.heap.objs.size)}:=by
 have e1:(s.heap.push emptyDict).get? s.heap.objs.size=some emptyDict:=get?_push_size s.heap rfl;have e2:((s.heap.push emptyDict).push (instObj C s.heap.objs.size)).get? (s.heap.objs.size+1)=some (instObj C s.heap.objs.size):=by
  have:=get?_push_size (s.heap.push emptyDict) (o:=instObj C s.heap.objs.size) rfl;rwa[size_push]at this
 have e3:(s.heap.push emptyDict).Ns s.heap.objs.size (λ_=>none):=⟨emptyDict,#[],_,e1,rfl,(λe he=>absurd he (by simp)),λ_=>rfl⟩;have I1:=I.laid (a:=s.heap.objs.size) (o:= .own (s.heap.objs.size+1)) (h':=s.heap.push emptyDict) (t':=s.toks) (λb u q=>get?_push_of_some _ q) (Nat.le_refl _) ⟨_,e1⟩;refine I1.laid (a:=s.heap.objs.size+1) (o:= .ins C s.heap.objs.size []) (t':=s.toks) (λb u q=>get?_push_of_some _ q) (Nat.le_of_eq (size_push _ _)) ?_;have ne:s.heap.objs.size≠s.heap.objs.size+1:=Nat.ne_of_lt (lt_succ_self _);refine⟨by rw[ao ne,ai],zero_le _,ne,e2,λ_=>none,(Heap.Ns1.of_empty e3).at λo q=>get?_push_of_some _ q,λ_=>True.intro,λy hy=>absurd rfl hy⟩
theorem my{prog:Program}{w:World}{env:Env}{e:Expr}{f:Str}{pos:Pos}{s:Shared}{Q:zQ}(hb:attributeBase e f env (eval e env)=eval e env)
  (h:wpAny (model prog w) A (eval e env) (λo s₁=>wpAny (model prog w) A (getAttr o f true) Q E s₁) E s):wpAny (model prog w) A (eval (.Attribute e f pos) env) Q E s:=
 Attribute_any_ h (by rw[arm_eval_Attribute,hb])
end
def tFld(K:Frag)(ta:TE)(f:Str):TE:=λσ H Q=>ta σ H λx H1=>∃a C dx fs v,x=.ref a/\H1 a=some (.ins C dx fs)/\Cls K C/\aN K C f/\fs.lookup f=some v/\Q v H1
def sFld(K:Frag)(ta tv:TE)(f:Str):TS:=λD σ H=>tv σ H λy H1=>ta σ H1 λx H2=>∃a C dx fs,x=.ref a/\H2 a=some (.ins C dx fs)/\Cls K C/\aN K C f/\fs.length<1000 /\
 D.nx σ (upd H2 a (.ins C dx (putF f y fs)))
def InOp(X:Cx)(op:Operator)(rd:V->V->Hp->VK->Prop):Prop:=
 ∀(zz:zP) (s:Shared) (σ:St) (H:Hp) (x y:V) (u v:Value) (Q:VK),Inv X zz σ H s->RelV x u->RelV y v->rd x y H Q->wpAny (model X.prog X.w) X.A (inplaceOp op u v) (EP X zz σ Q) X.xe s
def gW(K:Frag)(ta tv:TE)(rd:V->V->Hp->VK->Prop)(f:Str):TS:=λD σ H=>ta σ H λx H1=>∃a C dx fs v,x=.ref a/\H1 a=some (.ins C dx fs)/\Cls K C/\aN K C f/\fs.lookup f=some v /\
 tv σ H1 λy H2=>rd v y H2 λz H3=>∃dx' fs',H3 a=some (.ins C dx' fs')/\fs'.length<1000/\D.nx σ (upd H3 a (.ins C dx' (putF f z fs')))
section
variable{X:Cx}{o e value:Expr}{f:Str}{pos pos' tpos:Pos}{ta tv:TE}
theorem aj(he:PE X e ta)(hb:attributeBase e f X.env (eval e X.env)=eval e X.env):PE X (.Attribute e f pos) (tFld X.K ta f):=by
 intro zz s σ H Q I h;refine my hb (thn (he zz s σ H _ I h) λu s1 zq=>?_);refine x_22 zq λx H1 I1 rx zz0=>?_;refine x_50 zz0 λa C dx fs v zy=>x_05 zy λex ea c n l q=>?_;subst ex;obtain rfl:u=Value.ref a:=rx;exact mv I1 ea c n l λu' s2 I2 ru=>⟨v,H1,I2,ru,q⟩
theorem bw(ha:PE X o ta)(hv:PE X value tv)(hs:swapsWith value (some (.Attribute o f pos')) pos.line X.env=pure false):PS X (.Assign [.Attribute o f pos'] value pos) (sFld X.K ta tv f):=by
 intro zz s σ H D I h;refine plainObj_wpAny_Assign_Attribute (thn (hv zz s σ H _ I h) λu s1 ⟨y,H1,I1,ry,q⟩=>thn (ha zz s1 σ H1 _ I1 q) λov s2 zq=>?_) hs;refine x_22 zq λx H2 I2 rx zz0=>?_;refine x_40 zz0 λa C dx fs zy=>x_05 zy λex ea c n l q2=>?_;subst ex;obtain rfl:ov=Value.ref a:=rx;exact mx I2 ea c n l ry λs3 I3=>⟨σ,_,I3,q2⟩
theorem jD{op:Operator}{rd:V->V->Hp->VK->Prop}(ha:PE X o ta)(hv:PE X value tv)(hop:InOp X op rd):PS X (.AugAssign (.Attribute o f tpos) op value pos) (gW X.K ta tv rd f):=by
 intro zz s σ H D I h;refine wpAny_AugAssign_AttributeAny (thn (ha zz s σ H _ I h) λov s1 zq=>?_);refine x_22 zq λx H1 I1 rx zz0=>?_;refine x_50 zz0 λa C dx fs v zy=>x_05 zy λex ea c n l q=>?_;subst ex;obtain rfl:ov=Value.ref a:=rx;refine mv I1 ea c n l λu s2 I2 ru=>thn (hv zz s2 σ H1 _ I2 q) λw3 s3 ⟨y,H2,I3,ry,q3⟩=>thn (hop zz s3 σ H2 v y u w3 _ I3 ru ry q3) λw4 s4 zq=>?_;refine x_22 zq λz H3 I4 rz zz0=>?_;refine x_22 zz0 λdx' fs' ea' l' q4=>?_;exact mx I4 ea' c n l' rz λs5 I5=>⟨σ,_,I5,q4⟩
def rAdd:V->V->Hp->VK->Prop:=λx y H Q=>∃i j,x=.int i/\y=.int j/\Q (.int (i+j)) H
theorem jE:InOp X .Add rAdd:=by
 rintro zz s σ H x y u v Q I rx ry ⟨i,j,rfl,rfl,q⟩
 obtain⟨t,rfl⟩:=(show ∃t,u=Value.int i t from rx);obtain⟨t',rfl⟩:=(show ∃t',v=Value.int j t' from ry);exact PyProof.Rows.iadd_int ⟨.int (i+j),H,I.tok _,⟨_,rfl⟩,q⟩
end
section
variable{X:Cx}{zz:zP}{σ:St}{H:Hp}{s:Shared}{A:Around}{E:zQ}{Q:zQ}{c:Value}{b:Bool}
inductive TyOf(K:Frag)(H:Hp):V->Value->Prop where
 |non:TyOf K H .non (.type "NoneType")
 |bl (x:Bool):TyOf K H (.bl x) (.type "bool")
 |int (i:Int):TyOf K H (.int i) (.type "int")
 |str (x:Str):TyOf K H (.str x) (.type "str")
 |flt (x:UInt64):TyOf K H (.flt x) (.type "float")
 |lst {a:Addr}{xs:List V} (e:H a=some (.lst xs)):TyOf K H (.ref a) (.type "list")
 |frz {a:Addr}{o:Obj}{xs:List V} (e:H a=some (.frz o (.lst xs))):TyOf K H (.ref a) (.type "list")
 |tup {a:Addr}{xs:List V} (e:H a=some (.tup xs)):TyOf K H (.ref a) (.type "tuple")
 |dK {a:Addr}{zu:List (Key×V)} (e:H a=some (.dK zu)):TyOf K H (.ref a) (.type "dict")
 |dT {a:Addr}{zu:List (List Key×V)} (e:H a=some (.dT zu)):TyOf K H (.ref a) (.type "dict")
 |ins {a C dx:Addr}{fs:List (Str×V)} (e:H a=some (.ins C dx fs)) (cl:Cls K C) (ha:PySem.W.findIn K (.ref C) "__class__"=some (some (.builtin "object.__class__")))
  (hn:PySem.W.specialIn K (.builtin "object.__class__") "__get__"=some (some (.builtin "getset_descriptor.__get__"))) (htk:PySem.W.takesIn K (.builtin "object.__class__")=some true)
  (hm:mroIn K C (.type "object")=some true):TyOf K H (.ref a) (.ref C)
theorem tP{x:V}{u t:Value}(I:Inv X zz σ H s)(rx:RelV x u)(ty:TyOf X.K H x t)(e:kitOne X.K t c=some b)(h:∀tk,Q (.bool b) {s with toks:=tk}) :
  wpAny (model X.prog X.w) A (call (.builtin "isinstance") [u,c]) Q E s:=by
 cases ty with
 |non=>cases(show u=Value.none from rx);exact kia_one PySem.W.kitx_none I.kIn True.intro e (λz=>nomatch z) h
 |bl y=>cases(show u=Value.bool y from rx);exact kia_one PySem.W.kitx_bool I.kIn True.intro e (λz=>nomatch z) h
 |int i=>obtain⟨t,q⟩:=(show ∃t,u=Value.int i t from rx);cases q;exact kia_one PySem.W.kitx_int I.kIn True.intro e (λz=>nomatch z) h
 |str y=>obtain⟨t,q⟩:=(show ∃t,u=Value.str y t from rx);cases q;exact kia_one PySem.W.kitx_str I.kIn True.intro e (λz=>nomatch z) h
 |flt y=>obtain⟨t,q⟩:=(show ∃t,u=Value.float y t from rx);cases q;exact kia_one PySem.W.kitx_float I.kIn True.intro e (λz=>nomatch z) h
 |@lst a xs ea =>
  cases(show u=Value.ref a from rx);refine x_01 ((show aO X.prog X.w H s.heap a (.lst xs)from I.hok a _ ea)) λ_ zz0=>?_;refine x_21 zz0 λ_ n _ h1=>?_;exact kia_one PySem.W.kitx_list I.kIn ⟨_,h1,rfl⟩ e (λz=>nomatch z) h
 |@frz a ob xs ea =>
  cases(show u=Value.ref a from rx);refine x_02 ((show aO X.prog X.w H s.heap a (.frz ob (.lst xs))from I.hok a _ ea)) λ_ _ zz0=>?_;refine x_21 zz0 λ_ n _ h1=>?_;exact kia_one PySem.W.kitx_list I.kIn ⟨_,h1,rfl⟩ e (λz=>nomatch z) h
 |@tup a xs ea =>
  cases(show u=Value.ref a from rx);refine x_01 ((show aO X.prog X.w H s.heap a (.tup xs)from I.hok a _ ea)) λ_ zz0=>?_;refine x_11 zz0 λ_ _ p=>?_;refine x_12 p λo h1 h2 _=>?_;exact kia_one PySem.W.kitx_tuple I.kIn ⟨o,h1,h2⟩ e (λz=>nomatch z) h
 |@dK a zu ea =>
  cases(show u=Value.ref a from rx);refine x_02 ((show aO X.prog X.w H s.heap a (.dK zu)from I.hok a _ ea)) λ_ _ zz0=>?_;refine x_11 zz0 λvs _ p=>?_;refine x_32 p λo es ep h1 h2 _=>?_;exact kia_one PySem.W.kitx_dict I.kIn ⟨o,h1,h2.1⟩ e (λz=>nomatch z) h
 |@dT a zu ea =>
  cases(show u=Value.ref a from rx);refine x_02 ((show aO X.prog X.w H s.heap a (.dT zu)from I.hok a _ ea)) λ_ _ zz0=>?_;refine x_11 zz0 λxs _ zz1=>?_;refine x_32 zz1 λo es ep h1 h2 _=>?_;exact kia_one PySem.W.kitx_dict I.kIn ⟨o,h1,h2.1⟩ e (λz=>nomatch z) h
 |@ins a C dx fs ea cl ha hn htk hm =>
 cases(show u=Value.ref a from rx);obtain⟨mA,O,_⟩:=gV I.hok ea;obtain⟨od,J,_⟩:=O.look;exact kia_one (PySem.W.kitx_own (cl.get _) cl.hd ha hn htk hm) I.kIn J e (λz=>nomatch z) h
end
structure Room(k:Nat)(A:Around):Prop where
 hd:A.handled=none
 dp:A.depth+3*k+5<recursionLimit
 un:A.units+16*k+200<cLine
theorem Room.mono{j k:Nat}{A:Around}(r:Room k A)(h:j<=k):Room j A:=⟨r.hd,by have:=r.dp;omega,by have:=r.un;omega⟩
theorem Room.deeper{k:Nat}{A:Around}(r:Room (k+1) A)(env:Env):Room k (A.deeper env):=
 ⟨r.hd,by have:=r.dp;show A.depth+1+3*k+5<_;omega,by have:=r.un;show A.units+3+16*k+200<_;omega⟩
theorem tQ{A:Around}{C:Addr}{us:List Value}{kw:List (Str×Value)}:(A.under (.builtin "type.__call__" ⟨.ref C::us,kw⟩)).depth=A.depth+1:=by
 first|rfl|simp[Around.under,Code.weight,Code.isCreation,Code.isGuard,Code.isCaller,Code.frames,Code.isFrame,guardIds]
theorem tR{A:Around}{C:Addr}{us:List Value}{kw:List (Str×Value)}:(A.under (.builtin "type.__call__" ⟨.ref C::us,kw⟩)).units=A.units+1:=by
 first|rfl|simp[Around.under,Code.cUnits,Code.frames,Code.isFrame]
theorem Room.make{k:Nat}{A:Around}(r:Room (k+1) A)(C:Addr)(us:List Value)(kw:List (Str×Value)):Room k (A.under (.builtin "type.__call__" ⟨.ref C::us,kw⟩)):=
 ⟨r.hd,by have:=r.dp;rw[tQ];omega,by have:=r.un;rw[tR];omega⟩
theorem Room.depth{k:Nat}{A:Around}(r:Room k A):A.depth<recursionLimit:=by have:=r.dp;omega
def tNil:TA:=λ_ H Q=>Q [] H
def cC(ta:TE)(tr:TA):TA:=λσ H Q=>ta σ H λx H1=>tr σ H1 λxs H2=>Q (x::xs) H2
section
variable{X:Cx}{e:Expr}{es:List Expr}{te:TE}{t:TA}{pos:Pos}
theorem ae:PA X [] tNil:=λ_ _ _ _ H Q I h=>Calls.spliced_nil ⟨[],H,I,.nil,h⟩
theorem aa(ha:PE X e te)(hr:PA X es t)(hs:starEach (e::es) X.env=(false,eval e X.env)::starEach es X.env:=by rfl):PA X (e::es) (cC te t):=by
 intro pos zz s σ H Q I h;rw[hs];show wpAny _ _ (spliced ((false,eval e X.env)::backTo pos (starEach es X.env))) _ _ s;refine Calls.spliced_cons (thn (ha zz s σ H _ I h) λu s1 zq=>?_);refine x_22 zq λx H1 I1 r1 q1=>?_;exact thn (hr pos zz s1 σ H1 _ I1 q1) λus s2 ⟨xs,H2,I2,r2,q2⟩=>⟨x::xs,H2,I2,.cons r1 r2,q2⟩
def tTup(t:TA):TE:=λσ H Q=>t σ H λxs H1=>xs.length<=sizeLine/\∀p,H1 p=none->Q (.ref p) (upd H1 p (.tup xs))
def tLst(t:TA):TE:=λσ H Q=>t σ H λxs H1=>xs.length<=sizeLine/\∀p,H1 p=none->Q (.ref p) (upd H1 p (.lst xs))
theorem cY{x1}(h:PA X es t):PE X (.Tuple es x1 pos) (tTup t):=by
 intro zz s σ H Q I hq;refine wpAny_Tuple_spliced (thn (h pos zz s σ H _ I hq) λus s1 ⟨xs,H1,I1,r,z,q⟩=>⟨by rw[<- r.length];exact z,?_⟩);have hf:H1 s1.heap.objs.size=none:=I1.hok.fresh (Nat.le_refl _);refine⟨.ref s1.heap.objs.size,upd H1 s1.heap.objs.size (.tup xs),I1.laid (t':=s1.toks) (λb u e=>get?_push_of_some _ e) (Nat.le_refl _) ?_,rfl,q _ hf⟩;exact⟨z,us,r,⟨_,get?_push_size _ rfl,rfl,_,rfl⟩⟩
theorem aR(h:PA X es t):PE X (.List es pos) (tLst t):=by
 intro zz s σ H Q I hq;refine wpAny_List_spliced (thn (h pos zz s σ H _ I hq) λus s1 ⟨xs,H1,I1,r,z,q⟩=>⟨by rw[<- r.length];exact z,?_⟩);have hf:H1 s1.heap.objs.size=none:=I1.hok.fresh (Nat.le_refl _);refine⟨.ref s1.heap.objs.size,upd H1 s1.heap.objs.size (.lst xs),I1.laid (t':=s1.toks) (λb u e=>get?_push_of_some _ e) (Nat.le_refl _) ?_,rfl,q _ hf⟩;exact⟨z,us,0,r,get?_push_size _ rfl⟩
end
abbrev Sp:=List V->Hp->VK->XK->Prop
abbrev CXT:=List Env->Hp->Shared->XK->Value->Shared->Prop
structure Env0(P:Program)(w:World)(K:Frag)(mg:zM)(base:Heap)(A:Around)(outer:List Env)(s:Shared)(H:Hp):Prop where
 frames:A.frames=some outer
 mod:Mod K mg base
 bs:∀b o,base.get? b=some o->s.heap.get? b=some o/\H b=none
 bsz:base.objs.size<=s.heap.objs.size
 funs:s.heap.FunFrames base outer
 frf:∀b∈frs outer,H b=none
 hok:HOk P w H s.heap
 bare:AllBare s.gens
def CE(outer:List Env)(P:Program)(w:World)(H:Hp)(s:Shared)(Q:VK)(u:Value)(s':Shared):Prop:=
 ∃v H',s'.os=s.os/\AllBare s'.gens/\Un (frs outer) [] H H' s.heap s'.heap/\HOk P w H' s'.heap/\RelV v u/\Q v H'
def CR(CX:CXT)(outer:List Env)(P:Program)(w:World)(H:Hp)(s:Shared)(Q:VK)(E:XK)(r:Result)(s':Shared):Prop:=
 match r with
 |.ok (.ret u)=>CE outer P w H s Q u s'
 |.ok _=>False
 |.error e=>CX outer H s E e s'
structure FnOk(P:Program)(w:World)(K:Frag)(mg:zM)(base:Heap)(CX:CXT)(k:Nat)(f:Addr)(fd:FuncData)(ps:List Str)(sp:Sp):Prop where
 len:∀vs H Q E,sp vs H Q E->vs.length=ps.length
 run:∀(A:Around) (outer:List Env) (s:Shared) (H:Hp) (args:Args) (us:List Value) (vs:List V) (Q:VK) (E:XK),Room k A->Env0 P w K mg base A outer s H->BindsTo s fd args (ps.zip us)->Vals vs us->sp vs H Q E ->
  codeAny (model P w) A (.call (.ref f) args) (CR CX outer P w H s Q E) s
theorem FnOk.mono{P:Program}{w:World}{K:Frag}{mg:zM}{base:Heap}{CX:CXT}{j k:Nat}{f:Addr}{fd:FuncData}{ps:List Str}{sp:Sp}(F:FnOk P w K mg base CX j f fd ps sp)(h:j<=k) :
  FnOk P w K mg base CX k f fd ps sp:=⟨F.len,λA outer s H args us vs Q E hr=>F.run A outer s H args us vs Q E (hr.mono h)⟩
theorem Env0.make{P:Program}{w:World}{K:Frag}{mg:zM}{base:Heap}{A:Around}{outer:List Env}{s:Shared}{H:Hp}(e:Env0 P w K mg base A outer s H)(C:Addr)(us:List Value)(kw:List (Str×Value)) :
  Env0 P w K mg base (A.under (.builtin "type.__call__" ⟨.ref C::us,kw⟩)) outer s H:=⟨by first|exact e.frames|(simpa[Around.under,Code.envs,Code.isFrame,pushEnvs]using e.frames),e.mod,e.bs,e.bsz,e.funs,e.frf,e.hok,e.bare⟩
section
variable{X:Cx}{zz:zP}{σ:St}{H:Hp}{s s':Shared}
theorem Inv.env0(I:Inv X zz σ H s):Env0 X.prog X.w X.K X.mg X.base X.A X.stack s H:=
 ⟨I.ok.frames,I.ok.mod,I.bs,Nat.le_trans I.ok.bsz I.sz,I.stack,I.stkFree,I.hok,I.bare⟩
theorem Inv.after{Q:VK}{u:Value}(I:Inv X zz σ H s)(h:CE X.stack X.prog X.w H s Q u s'):EP X zz σ Q u s':=by
 obtain⟨v,H',os,bare,un,hok,r,q⟩:=h;obtain⟨hh,g,d,t,os'⟩:=s';obtain rfl:os'=s.os:=os;exact⟨v,H',I.call (h':=hh) (g':=g) (d':=d) (t':=t) (ch:=[]) un hok bare (λb z=>absurd z (by simp)),r,q⟩
end
def eY(sp:Sp)(dvs:List V)(E:XK)(t:TA):TE:=λσ H Q=>t σ H λvs H1=>sp (vs++dvs) H1 Q E
def cp(C:Addr)(m:Str)(sp:Sp)(dvs:List V)(E:XK)(ta:TE)(t:TA):TE:=λσ H Q=>ta σ H λx H1=>∃a dx fs,x=.ref a/\H1 a=some (.ins C dx fs)/\fs.lookup m=none /\
 t σ H1 λvs H2=>sp (x::(vs++dvs)) H2 Q E
def bp(C:Addr)(sp:Sp)(dvs:List V)(E:XK)(t:TA):TE:=λσ H Q=>t σ H λvs H1=>∀x dx,H1 x=none->H1 dx=none->dx≠x ->
 sp (.ref x::(vs++dvs)) (upd (upd H1 dx (.own x)) x (.ins C dx [])) (λv H2=>v=.non/\Q (.ref x) H2) E
def aW(K:Frag)(fd:FuncData)(ps:List Str)(ds:List Value):Prop:=
 ∀(s:Shared) (us:List Value),K.In s.heap->(us++ds).length=ps.length->BindsTo s fd ⟨us,[]⟩ (ps.zip (us++ds))
theorem aW.all{K:Frag}{fd:FuncData}{ps:List Str}(h:∀us:List Value,us.length=ps.length->bindArgs fd ⟨us,[]⟩=pure (ps.zip us)):aW K fd ps []:=λs us _ hl=>by
 rw[append_nil]at hl ⊢;exact .of_eq (h us hl)
def bQ(CX:CXT)(X:Cx)(E:XK):Prop:=∀(zz:zP) (σ:St) (H:Hp) (s:Shared) (e:Value) (s':Shared),Inv X zz σ H s->CX X.stack H s E e s'->X.xe e s'
section
variable{X:Cx}{CX:CXT}{k:Nat}{f C:Addr}{fd:FuncData}{ps:List Str}{sp:Sp}{dvs:List V}{ds:List Value}{E:XK}{x m:Str}{p pos zt:Pos}{e o:Expr}{es:List Expr}{ta:TE}{t:TA}
theorem fM{zz:zP}{σ:St}{H:Hp}{s:Shared}{Q:VK}{us:List Value}{vs:List V}(F:FnOk X.prog X.w X.K X.mg X.base CX k f fd ps sp)(hr:Room k X.A)(hb:aW X.K fd ps ds)(hd:Vals dvs ds)(hx:bQ CX X E)
  (I:Inv X zz σ H s)(r:Vals vs us)(h:sp (vs++dvs) H Q E):wpAny (model X.prog X.w) X.A (call (.ref f) us) (EP X zz σ Q) X.xe s:=by
 have r2:Vals (vs++dvs) (us++ds):=r.append hd;have hl:(us++ds).length=ps.length:=by rw[<- r2.length];exact F.len _ _ _ _ h
 refine wpAny_call (codeAny_mono (F.run X.A X.stack s H ⟨us,[]⟩ (us++ds) (vs++dvs) Q E hr I.env0 (hb s us I.kIn hl) r2 h) λr s' hq=>?_);cases r with
 |error e=>exact hx zz σ H s e s' I hq
 |ok fl =>
 cases fl with
 |ret u=>exact I.after hq
 |next=>exact False.elim hq
 |brk=>exact False.elim hq
 |cont=>exact False.elim hq
theorem cq(F:FnOk X.prog X.w X.K X.mg X.base CX k f fd ps sp)(hr:Room k X.A)(hg:Gl X x)(hm:X.mg x=some (.ref f))(hk:keepIn X.K (.ref f)=true)(hb:aW X.K fd ps ds)(hd:Vals dvs ds)(hx:bQ CX X E)
  (ha:PA X (e::es) t)(hdb:(x==("__debug__":Str))=false:=by decide)(he:starEach (e::es) X.env=(false,eval e X.env)::starEach es X.env:=by rfl)(hpl:(backTo pos (starEach es X.env)).any (·.1)=false:=by rfl) :
  PE X (.Call (.Name x p) (e::es) [] pos) (eY sp dvs E t):=by
 intro zz s σ H Q I h;refine wpAny_Call_Name_kw (eA I hg hm ?_ hdb);refine callWith_K (h₀:=X.base) I.ok.mod.kin hk (thn (ha pos zz s σ H _ I h) λus s1 ⟨vs,H1,I1,r,q⟩=>⟨I1.kIn,?_⟩) he hpl;exact fM F hr hb hd hx I1 r q
theorem jF{pl:Sem Bool}(he:PE X o ta)(c:Cls X.K C)(hm:Meth X.K C m f)(F:FnOk X.prog X.w X.K X.mg X.base CX k f fd ps sp)(hr:Room k X.A)(hb:aW X.K fd ps ds)(hd:Vals dvs ds)(hx:bQ CX X E)(ha:PA X (e::es) t)
  (hst:starEach (e::es) X.env=(false,eval e X.env)::starEach es X.env:=by rfl)(hpl:(backTo pos (starEach es X.env)).any (·.1)=false:=by rfl)
  (ht:eval (.Call (.Attribute o m zt) (e::es) [] pos) X.env=(do
   let ov <- eval o X.env
   standAt zt.atName
   let(f,first) <- holding [ov] (getMethod ov m pl)
   callWith pos f first (backTo pos (starEach (e::es) X.env)) (backToKw pos (keywordEach [] X.env))):=by rfl) :
  PE X (.Call (.Attribute o m zt) (e::es) [] pos) (cp C m sp dvs E ta t):=by
 intro zz s σ H Q I h;refine PySem.W.methodCall_KW (pl:=pl) (thn (he zz s σ H _ I h) λu s1 zq=>?_) ht;refine x_22 zq λx H1 I1 rx zz0=>?_;refine x_33 zz0 λa dx fs ex ea l q=>?_;subst ex;obtain rfl:u=Value.ref a:=rx;refine mw I1 ea c hm l ?_;refine callWith_K (first:=[.ref a]) (h₀:=X.base) I.ok.mod.kin hm.kp (thn (ha pos zz s1 σ H1 _ I1 q) λus s2 ⟨vs,H2,I2,r,q2⟩=>⟨I2.kIn,?_⟩) hst hpl;exact fM (us:= .ref a::us) (vs:= .ref a::vs) F hr hb hd hx I2 (.cons rfl r) q2
theorem cD{pl:Sem Bool}(he:PE X o ta)(c:Cls X.K C)(hm:Meth X.K C m f)(F:FnOk X.prog X.w X.K X.mg X.base CX k f fd ps sp)(hr:Room k X.A)(hb:aW X.K fd ps ds)(hd:Vals dvs ds)(hx:bQ CX X E)
  (ht:eval (.Call (.Attribute o m zt) [] [] pos) X.env=(do
   let ov <- eval o X.env
   standAt zt.atName
   let(f,first) <- holding [ov] (getMethod ov m pl)
   callWith pos f first (backTo pos (starEach [] X.env)) (backToKw pos (keywordEach [] X.env))):=by rfl) :
  PE X (.Call (.Attribute o m zt) [] [] pos) (cp C m sp dvs E ta tNil):=by
 intro zz s σ H Q I h;refine PySem.W.methodCall_KW (pl:=pl) (thn (he zz s σ H _ I h) λu s1 zq=>?_) ht;refine x_22 zq λx H1 I1 rx zz0=>?_;refine x_33 zz0 λa dx fs ex ea l q=>?_;subst ex;obtain rfl:u=Value.ref a:=rx;refine mw I1 ea c hm l ?_;exact PySem.W.callWith_K0 (first:=[.ref a]) I1.kIn hm.kp (fM (us:=[.ref a]) (vs:=[.ref a]) F hr hb hd hx I1 (.cons rfl .nil) q)
structure Mk(K:Frag)(C f:Addr):Prop where
 makes:PySem.W.makesIn K C=true
 init:PySem.W.findIn K (.ref C) "__init__"=some (some (.ref f))
 fn:isFn K (.ref f)=true
 kp:keepIn K (.ref C)=true
theorem tT{zz:zP}{σ:St}{H:Hp}{s:Shared}{Q:VK}{us:List Value}{vs:List V}(M:Mk X.K C f)(F:FnOk X.prog X.w X.K X.mg X.base CX k f fd ps sp)(hr:Room (k+1) X.A)(hb:aW X.K fd ps ds)(hd:Vals dvs ds)
  (hx:bQ CX X E)(I:Inv X zz σ H s)(r:Vals vs us)
  (h:∀x dx,H x=none->H dx=none->dx≠x->sp (.ref x::(vs++dvs)) (upd (upd H dx (.own x)) x (.ins C dx [])) (λv H2=>v=.non/\Q (.ref x) H2) E) :
  wpAny (model X.prog X.w) X.A (call (.ref C) us) (EP X zz σ Q) X.xe s:=by
 have hq:=h (s.heap.objs.size+1) s.heap.objs.size (I.hok.fresh (le_succ _)) (I.hok.fresh (Nat.le_refl _)) (Nat.ne_of_lt (lt_succ_self _));have I2:=Inv.made (C:=C) I;have r2:Vals (V.ref (s.heap.objs.size+1)::(vs++dvs)) (Value.ref (s.heap.objs.size+1)::(us++ds)):= .cons rfl (r.append hd);have hl:(Value.ref (s.heap.objs.size+1)::us++ds).length=ps.length:=by
  have e:=r2.length;rw[F.len _ _ _ _ hq]at e;exact e.symm
 refine wpAny_call (tN (f:=f) I.kIn M.makes M.init (beq_iff_eq.mp M.fn) (codeAny_mono (F.run _ X.stack _ _ ⟨Value.ref (s.heap.objs.size+1)::us,[]⟩ (Value.ref (s.heap.objs.size+1)::(us++ds)) _ _ E (hr.make C us [])
  (I2.env0.make C us []) (hb _ (Value.ref (s.heap.objs.size+1)::us) I2.kIn hl) r2 hq) λr s' hq'=>?_))
 cases r with
 |error e=>exact hx zz σ _ _ e s' I2 hq'
 |ok fl =>
 cases fl with
 |ret u =>
  refine x_23 (I2.after hq') λv H' I3 rv ev q3=>?_;subst ev;exact⟨rv,⟨V.ref (s.heap.objs.size+1),H',I3,rfl,q3⟩⟩
 |next=>exact False.elim hq'
 |brk=>exact False.elim hq'
 |cont=>exact False.elim hq'
theorem bF(M:Mk X.K C f)(F:FnOk X.prog X.w X.K X.mg X.base CX k f fd ps sp)(hr:Room (k+1) X.A)(hg:Gl X x)(hm:X.mg x=some (.ref C))(hb:aW X.K fd ps ds)(hd:Vals dvs ds)(hx:bQ CX X E)
  (ha:PA X (e::es) t)(hdb:(x==("__debug__":Str))=false:=by decide)(he:starEach (e::es) X.env=(false,eval e X.env)::starEach es X.env:=by rfl)(hpl:(backTo pos (starEach es X.env)).any (·.1)=false:=by rfl) :
  PE X (.Call (.Name x p) (e::es) [] pos) (bp C sp dvs E t):=by
 intro zz s σ H Q I h;refine wpAny_Call_Name_kw (eA I hg hm ?_ hdb);refine callWith_K (h₀:=X.base) I.ok.mod.kin M.kp (thn (ha pos zz s σ H _ I h) λus s1 ⟨vs,H1,I1,r,q⟩=>⟨I1.kIn,?_⟩) he hpl;exact tT M F hr hb hd hx I1 r q
end
structure FnScope(N P:List Str)(sc:Scope):Prop where
 kind:sc.kind=.function
 co:sc.isCoroutine=false
 gen:sc.isGenerator=false
 nd:N.Nodup
 pre:N.take P.length=P
 par:∀x∈P,sc.names.lookup x=some .local\/sc.names.lookup x=some .cell
 nofree:∀y∈sc.names,y.2≠.free
theorem mB{kindOf:Str->Option NameKind}{x:Str}:∀{binds:List (Str×Value)}{m:zM},(∀v,(x,v)∉binds)->bindL kindOf binds m x=m x
 |[],_,_=>rfl
 |(n,v)::r,m,h=>by
  unfold bindL;rw[mB λw hw=>h w (mem_cons_of_mem _ hw)];split
  ·have:x≠n:=by rintro rfl;exact h v mem_cons_self
   simp[this]
  rfl
theorem mC{kindOf:Str->Option NameKind}{x:Str}:∀{binds:List (Str×Value)}{m:zM},(∀v,(x,v)∉binds)->bindC kindOf binds m x=m x
 |[],_,_=>rfl
 |(n,v)::r,m,h=>by
  unfold bindC;rw[mC λw hw=>h w (mem_cons_of_mem _ hw)];split
  ·rfl
  have:x≠n:=by rintro rfl;exact h v mem_cons_self
  simp[this]
theorem mD{kindOf:Str->Option NameKind}{x:Str}{v:Value}:∀{P:List Str}{vs:List Value}{i:Nat}{m:zM},P.Nodup->P[i]? = some x->vs[i]? = some v->kindOf x=some .local ->
  bindL kindOf (P.zip vs) m x=some v
 |[],_,_,_,_,h,_,_=>by simp at h
 |_::_,[],_,_,_,_,h,_=>by simp at h
 |p::P,w::vs,0,m,nd,h1,h2,hk=>by
  simp at h1 h2;subst h1;subst h2;show bindL kindOf ((p,w)::P.zip vs) m p=_;unfold bindL;rw[mB λv hv=>(nodup_cons.mp nd).1 (of_mem_zip hv).1,if_pos hk];simp
 |p::P,w::vs,i+1,m,nd,h1,h2,hk=>by
  show bindL kindOf ((p,w)::P.zip vs) m x=_;unfold bindL;exact mD (i:=i) (nodup_cons.mp nd).2 (by simpa using h1) (by simpa using h2) hk
theorem mE{kindOf:Str->Option NameKind}{x:Str}{v:Value}:∀{P:List Str}{vs:List Value}{i:Nat}{m:zM},P.Nodup->P[i]? = some x->vs[i]? = some v->kindOf x≠some .local ->
  bindC kindOf (P.zip vs) m x=some v
 |[],_,_,_,_,h,_,_=>by simp at h
 |_::_,[],_,_,_,_,h,_=>by simp at h
 |p::P,w::vs,0,m,nd,h1,h2,hk=>by
  simp at h1 h2;subst h1;subst h2;show bindC kindOf ((p,w)::P.zip vs) m p=_;unfold bindC;rw[mC λv hv=>(nodup_cons.mp nd).1 (of_mem_zip hv).1,if_neg hk];simp
 |p::P,w::vs,i+1,m,nd,h1,h2,hk=>by
  show bindC kindOf ((p,w)::P.zip vs) m x=_;unfold bindC;exact mE (i:=i) (nodup_cons.mp nd).2 (by simpa using h1) (by simpa using h2) hk
def start(N:List Str)(vs:List V):St:=vs.map some++List.replicate (N.length - vs.length) none
noncomputable def cxOf(CX:CXT)(P:Program)(w:World)(K:Frag)(mg:zM)(base:Heap)(N:List Str)(qual:Str)(scope:Scope)(f:Addr)(cd:Value)(A:Around)(outer:List Env)(s:Shared)(H:Hp)(E:XK):Cx where
 prog:=P
 w:=w
 K:=K
 mg:=mg
 base:=base
 A:=A.deeper (envOfC qual scope s.heap.objs.size f cd)
 N:=N
 s_0:=s
 H_0:=H
 env:=envOfC qual scope s.heap.objs.size f cd
 outer:=outer
 stack:=envOfC qual scope s.heap.objs.size f cd::outer
 ex:=[]
 calm:=true
 fn:=λ_=>true
 pn:=[]
 xe:=λe s'=>wpAny (model P w) (A.deeper (envOfC qual scope s.heap.objs.size f cd)) (leaving (envOfC qual scope s.heap.objs.size f cd) e) (λ_ s''=>CX outer H s E e s'') (λe' s''=>CX outer H s E e' s'') s'
theorem mF{sc:Scope}{n:Nat}{x:Str}(h:sc.names.lookup x=some .cell):∃c,(cellsFrom n sc.names []).lookup x=some c:=by
 have q:=PySem.W.cellsFrom_some sc.names n [] (.inl h);exact Option.isSome_iff_exists.mp q
theorem mG{CX:CXT}{P:Program}{w:World}{K:Frag}{mg:zM}{base:Heap}{N ps:List Str}{qual:Str}{scope:Scope}{f:Addr}{cd:Value}{A:Around}{outer:List Env}{s s1:Shared}{H:Hp}{E:XK}{us:List Value}{vs:List V}
  (S:FnScope N ps scope)(hd:A.handled=none)(e0:Env0 P w K mg base A outer s H)(hl:vs.length=ps.length)(r:Vals vs us)
  (x:InCallC s s.heap.objs.size (bindL (envOfC qual scope s.heap.objs.size f cd).kindOf (ps.zip us) λ_=>none) (cellsFrom (s.heap.objs.size+1) scope.names []) (bindC (envOfC qual scope s.heap.objs.size f cd).kindOf (ps.zip us) λ_=>none) s1) :
  Inv (cxOf CX P w K mg base N qual scope f cd A outer s H E) [] (start N vs) H s1:=by
 have hpl:ps.length<=N.length:=by have:=congrArg List.length S.pre;rw[length_take]at this;omega
 refine x_21 x.done λh1 tk zr2 hk=>?_;subst zr2;have noA:∀b:Addr,b∉(cxOf CX P w K mg base N qual scope f cd A outer s H E).ex:=λb z=>absurd (show b∈([]:List Addr)from z) (by simp);refine⟨⟨e0.mod,S.kind,rfl,rfl,Nat.le_refl _,λy z c h1 h2=>?_,λy hy=>?_,λy c _ h=>?_,λ_=>hd,Around.frames_deeper e0.frames,.inr ⟨rfl,rfl⟩,λb z=>absurd z (noA b),e0.bs,e0.bsz,λb _ _=>noA b,λb z=>absurd z (noA b),e0.funs,e0.frf⟩,
  rfl,e0.bare,Un.kept hk,⟨_,x.toInCall.ns,λi y v h1 h2 h3=>?_⟩,λy c h=>⟨_,x.cell y c h⟩,e0.hok.fresh (Nat.le_refl _),λy c h=>?_,λp hp=>absurd (show p∈([]:zP)from hp) (by simp),e0.hok.kept hk,?_⟩
 ·exact name_of_addr x.apart (PySem.mem_of_lookup h1) (PySem.mem_of_lookup h2)
 ·have hy:scope.names.lookup y=some .cell\/scope.names.lookup y=some .free:=hy
  rcases hy with hy|hy
  ·exact mF hy
  exact absurd rfl (S.nofree _ (PySem.mem_of_lookup hy))
 ·exact Nat.le_of_lt (x.above y c (PySem.mem_of_lookup h))
 ·have hi:i<vs.length:=by
   unfold start at h2;by_cases hi:i<vs.length
   ·exact hi
   rw[List.getElem?_append_right (by simpa using hi)]at h2;rw[List.getElem?_replicate]at h2;split at h2<;>cases h2
  have ha:vs[i]? = some v:=by
   unfold start at h2;rw[List.getElem?_append_left (by simpa using hi),getElem?_map]at h2;cases e:vs[i]? with
   |none=>rw[e]at h2;cases h2
   |some a=>rw[e]at h2;cases h2;rfl
  obtain⟨u,hu,rv⟩:=r.get ha;have hp:ps[i]? = some y:=by
   rw[<- S.pre,List.getElem?_take_of_lt (by omega)];exact h1
  have ndP:ps.Nodup:=by rw[<- S.pre];exact S.nd.sublist (List.take_sublist _ _)
  refine⟨u,rv,?_⟩;rcases S.par y (mem_of_getElem? hp)with k|k
  ·exact .inl ⟨k,mD ndP hp hu k⟩
  obtain⟨c,e⟩:=mF (n:=s.heap.objs.size+1) k;refine .inr ⟨.inl k,c,e,?_⟩;have q:=x.cell y c e;rw[mE ndP hp hu (by show scope.names.lookup y≠_;rw[k];decide)]at q;exact q
 ·exact e0.hok.fresh (Nat.le_of_lt (x.above y c (PySem.mem_of_lookup h)))
 unfold start;show _=N.length;rw[length_append,length_map,List.length_replicate];omega
theorem jG{CX:CXT}{P:Program}{w:World}{K:Frag}{mg:zM}{base:Heap}{k:Nat}{f:Addr}{name qual:Str}{params:Arguments}{body:List Stmt}{scope:Scope}{dV kV doc pm cdv ct oc:Value}{an od:Option Addr}
  {osl:Array (Option Value)}{N ps:List Str}{sp:Sp}(lk:K.lookup f=some ⟨oc,od,.func (fnOf name qual params body scope dV kV doc pm an cdv ct),osl⟩)(hcd:codeIn K cdv qual=true)(S:FnScope N ps scope)
  (len:∀vs H Q E,sp vs H Q E->vs.length=ps.length)
  (hbody:∀(A:Around) (outer:List Env) (s:Shared) (H:Hp) (vs:List V) (Q:VK) (E:XK),Room k (A.deeper (envOfC qual scope s.heap.objs.size f cdv))->sp vs H Q E ->
   ∃t,PSs (cxOf CX P w K mg base N qual scope f cdv A outer s H E) body t/\t {nx:=λ_ H'=>Q .non H',rt:=Q} (start N vs) H) :
  FnOk P w K mg base CX (k+1) f (fnOf name qual params body scope dV kV doc pm an cdv ct) ps sp:=by
 refine⟨len,λA outer s H args us vs Q E hr e0 hb r hsp=>?_⟩;have hl:=len _ _ _ _ hsp;have KX:K.In s.heap:=e0.mod.kin.keeps λb o e=>(e0.bs b o e).1;have lim:s.heap.NoLimit:=e0.mod.nolimit.keeps λb o e=>(e0.bs b o e).1;have hkind:∀y∈ps.zip us,scope.names.lookup y.1=some .local\/(scope.names.lookup y.1=some .cell/\((cellsFrom (s.heap.objs.size+1) scope.names []).lookup y.1).isSome=true):=λ⟨n,v⟩ hy=>by
  rcases S.par n (of_mem_zip hy).1 with q|q
  ·exact .inl q
  exact .inr ⟨q,PySem.W.cellsFrom_some _ _ _ (.inl q)⟩
 refine codeAny_call_function hr.depth (KX _ _ lk) rfl S.co S.gen rfl (PySem.W.codeRec_of KX hcd) (hb _ _ _ _ ?_);refine wpAny_newFunctionEnv_cells S.kind hkind λenv he s1 x=>?_;subst he;refine⟨lim.keeps x.toInCall.keep,codeAny_func ?_⟩;obtain⟨t,ht,hq⟩:=hbody A outer s H vs Q E (hr.deeper _) hsp;have I:Inv (cxOf CX P w K mg base N qual scope f cdv A outer s H E) [] (start N vs) H s1:=mG S hr.hd e0 hl r x;refine wpAny_mono (ht [] s1 (start N vs) H _ I hq) (λfl s' hs=>?_) λe s' hs=>hs;have fin:∀{σ':St}{H':Hp}{v:V}{u:Value},Inv (cxOf CX P w K mg base N qual scope f cdv A outer s H E) [] σ' H' s'->RelV v u->Q v H'->CE outer P w H s Q u s':=
  λ{σ' H' v u} J rv q=>⟨v,H',J.os,J.bare,J.base,J.hok,rv,q⟩
 cases fl with
 |ret u =>
  refine x_32 hs λv σ' H' J rv q=>?_;exact fin J rv q
 |next =>
  refine x_21 hs λσ' H' J q=>?_;exact fin (v:=V.non) (u:=Value.none) J rfl q
 |brk =>
  refine x_21 hs λ_ _ _ q=>?_;exact False.elim q
 |cont =>
 refine x_21 hs λ_ _ _ q=>?_;exact False.elim q
section
variable{X:Cx}{x:Str}{p pos:Pos}{e:Expr}{es:List Expr}{t:TA}{id T:String}{r:List V->Hp->VK->Prop}
def tCB(r:List V->Hp->VK->Prop)(t:TA):TE:=λσ H Q=>t σ H λvs H1=>r vs H1 Q
theorem bx(hc:cB X (.builtin id) r)(hg:Gl X x)(hm:X.mg x=none)(hv:bootBuiltins x=some (.builtin id))(ha:PA X (e::es) t)(hn:x≠"__name__":=by decide)(hdb:(x==("__debug__":Str))=false:=by decide)
  (he:starEach (e::es) X.env=(false,eval e X.env)::starEach es X.env:=by rfl)(hpl:(backTo pos (starEach es X.env)).any (·.1)=false:=by rfl):PE X (.Call (.Name x p) (e::es) [] pos) (tCB r t):=by
 intro zz s σ H Q I h;refine wpAny_Call_Name_kw (dW I hg hm hv ?_ hn hdb);exact PyProof.Rows.callWith_builtin1 (thn (ha pos zz s σ H _ I h) λus s1 ⟨vs,H1,I1,r1,q1⟩=>hc zz s1 σ H1 vs us Q I1 r1 q1) he hpl
theorem cE(hc:cB X (.type T) r)(hg:Gl X x)(hm:X.mg x=none)(hv:bootBuiltins x=some (.type T))(ha:PA X (e::es) t)(hn:x≠"__name__":=by decide)(hdb:(x==("__debug__":Str))=false:=by decide)
  (he:starEach (e::es) X.env=(false,eval e X.env)::starEach es X.env:=by rfl)(hpl:(backTo pos (starEach es X.env)).any (·.1)=false:=by rfl):PE X (.Call (.Name x p) (e::es) [] pos) (tCB r t):=by
 intro zz s σ H Q I h;refine wpAny_Call_Name_kw (dW I hg hm hv ?_ hn hdb);exact PyProof.Rows.callWith_type1 (thn (ha pos zz s σ H _ I h) λus s1 ⟨vs,H1,I1,r1,q1⟩=>hc zz s1 σ H1 vs us Q I1 r1 q1) he hpl
end
end L2
namespace HT
open PySem PyProof.Rows
section
variable{prog:Program}{w:World}{A:Around}{E:zQ}{s:Shared}
theorem cat_tup{t b:Addr}{vs ws:List Value}{Q:zQ}(ht:IsTup s.heap t vs.toArray)(hb:IsTup s.heap b ws.toArray)(hv:vs≠[])
  (h1:ws=[]->Q (.ref t) s)(h2:ws≠[]->Q (.ref s.heap.objs.size) {s with heap:=s.heap.push {cls:= .type "tuple",data:= .seq (vs++ws).toArray}})
  (hsz:vs.length+ws.length<=sizeLine):wpAny (model prog w) A (binaryOp .Add (.ref t) (.ref b)) Q E s:=by
 obtain⟨⟨cls,dd,data,sl⟩,ho,hc,n,hd⟩:=id ht;obtain⟨⟨cls2,dd2,data2,sl2⟩,ho2,hc2,n2,hd2⟩:=id hb;simp only at hc hd hc2 hd2;subst hc hd hc2 hd2;have e:vs.toArray++ws.toArray=(vs++ws).toArray:=by simp
 by_cases hw:ws=[]
 ·exact concat_meets ⟨_,ho,rfl⟩ ⟨_,ho2,rfl⟩ noFill_tuple_add seq_tuple_add PySem.F.slot_tuple_add PySem.F.entry_tuple_add (PySem.F.args_tuple_add_2 _ _)
   (tuple_addW1 t b vs.toArray ws.toArray n n2 dd dd2 sl sl2 (by simpa using hv) (by simp[hw])) ⟨ho,ho2,h1 hw⟩
 refine concat_meets ⟨_,ho,rfl⟩ ⟨_,ho2,rfl⟩ noFill_tuple_add seq_tuple_add PySem.F.slot_tuple_add PySem.F.entry_tuple_add (PySem.F.args_tuple_add_2 _ _)
  (tuple_addW2 t b vs.toArray ws.toArray n n2 dd dd2 sl sl2 (by simpa using hv) (by simpa using hw) (by rw[size_toArray,size_toArray];exact hsz)) ⟨ho,ho2,?_⟩
 rw[e];exact h2 hw
def sIx(n d:Nat):Option Int->Nat
 |none=>d
 |some v=>if v<0 then(v+(n:Int)).toNat else min v.toNat n
theorem sIx_none(n d:Nat):sIx n d none=d:=rfl
theorem sIx_nat(n d k:Nat):sIx n d (some (k:Int))=min k n:=by
 show(if(k:Int)<0 then((k:Int)+(n:Int)).toNat else min (k:Int).toNat n)=min k n;rw[if_neg (by omega),Int.toNat_natCast]
theorem sIx_le(n d:Nat)(hd:d<=n)(o:Option Int):sIx n d o<=n:=by
 cases o with
 |none=>exact hd
 |some v =>
 show(if v<0 then(v+(n:Int)).toNat else min v.toNat n)<=n;by_cases hv:v<0
 ·rw[if_pos hv];omega
 rw[if_neg hv];exact Nat.min_le_right _ _
end
end HT
namespace L2
open PySem PySem.Spec PyProof.Rows
abbrev TO:=St->Hp->(Option Int->Hp->Prop)->Prop
def PO(X:Cx)(e:Option Expr)(t:TO):Prop:=
 ∀(zz:zP) (s:Shared) (σ:St) (H:Hp) (Q:Option Int->Hp->Prop),Inv X zz σ H s->t σ H Q ->
  wpAny (model X.prog X.w) X.A (evalPart e X.env) (λu s'=>∃o H',Inv X zz σ H' s'/\IsPart u o/\Q o H') X.xe s
def mH:TO:=λ_ H Q=>Q none H
def mI(t:TE):TO:=λσ H Q=>t σ H λx H1=>∃i,x=.int i/\Q (some i) H1
section
variable{X:Cx}{e:Expr}{te:TE}{lo hi:Option Expr}{tl th:TO}{pos p2:Pos}
theorem mJ:PO X none mH:=by
 intro zz s σ H Q I h;rw[evalPart_none];exact wpAny_pure ⟨none,H,I,.none,h⟩
theorem dh(h:PE X e te):PO X (some e) (mI te):=by
 intro zz s σ H Q I hw;rw[evalPart_some];refine thn (h zz s σ H _ I hw) λu s1 zq=>?_;refine x_22 zq λx H1 I1 r1 q1=>?_;obtain⟨i,rfl,q⟩:=q1;obtain⟨t,rfl⟩:=r1;exact⟨some i,H1,I1,.int i t,q⟩
def SlR(X:Cx)(r:V->Option Int->Option Int->Hp->VK->Prop):Prop:=
 ∀(zz:zP) (s:Shared) (σ:St) (H:Hp) (x:V) (v vl vu:Value) (lo hi:Option Int) (sl:Addr) (Q:VK),Inv X zz σ H s->RelV x v->s.heap.IsSliceOf sl vl vu .none->IsPart vl lo->IsPart vu hi->r x lo hi H Q ->
  ∃T id,typeLookup (.type T) "__getitem__"=pure (some (.builtin id))/\s.TypeIs v T/\wpAny (model X.prog X.w) X.A (getItem v (.ref sl)) (EP X zz σ Q) X.xe s
def tSl(r:V->Option Int->Option Int->Hp->VK->Prop)(te:TE)(tl th:TO):TE:=λσ H Q=>te σ H λx H1=>tl σ H1 λl H2=>th σ H2 λu H3=>r x l u H3 Q
theorem eZ{r:V->Option Int->Option Int->Hp->VK->Prop}(hr:SlR X r)(he:PE X e te)(hl:PO X lo tl)(hu:PO X hi th):PE X (.Subscript e (.Slice lo hi none p2) pos) (tSl r te tl th):=by
 intro zz s σ H Q I h;refine Subscript_ (thn (he zz s σ H _ I h) λv s1 zq=>?_);refine x_22 zq λx H1 I1 r1 q1=>?_;refine wpAny_Slice (thn (hl zz s1 σ H1 _ I1 q1) λvl s2 ⟨l,H2,I2,pl,q2⟩=>thn (hu zz s2 σ H2 _ I2 q2) λvu s3 zq=>?_);refine x_22 zq λu H3 I3 pu q3=>?_;rw[evalPart_none];refine wpAny_pure ?_;have I4:Inv X zz σ H3 {s3 with heap:=s3.heap.push {cls:= .type "slice",data:= .fields #[vl,vu,.none]}}:=I3.kept (t':=s3.toks) λb ob q=>get?_push_of_some _ q;obtain⟨T,id,hT,ht,hg⟩:=hr zz {s3 with heap:=s3.heap.push {cls:= .type "slice",data:= .fields #[vl,vu,.none]}} σ H3 x v vl vu l u s3.heap.objs.size Q I4 r1 (Heap.IsSliceOf.new ..) pl pu q3;show wpAny (model X.prog X.w) X.A (subscriptTail e (.Slice lo hi none p2) v (.ref s3.heap.objs.size)) (EP X zz σ Q) X.xe {s3 with heap:=s3.heap.push {cls:= .type "slice",data:= .fields #[vl,vu,.none]}};exact tail_any (ops:=[.ref s3.heap.objs.size,v]) ht hT hg (by with_unfolding_all rfl)
def cutV(xs:List V)(lo hi:Option Int):List V:=(xs.drop (HT.sIx xs.length 0 lo)).take (HT.sIx xs.length xs.length hi - HT.sIx xs.length 0 lo)
theorem tU(xs:List V)(lo hi:Option Int):(cutV xs lo hi).length<=xs.length:=by
 unfold cutV;rw[length_take,length_drop];omega
def tV(K:Frag):R2:=λx y H Q=>∃a b xs ys,x=.ref a/\y=.ref b/\SqT K H a xs/\SqT K H b ys/\xs≠[]/\xs.length+ys.length<=sizeLine /\
 (ys=[]->Q (.ref a) H)/\(ys≠[]->∀p,H p=none->Q (.ref p) (upd H p (.tup (xs++ys))))
theorem Vals.nil_iff{xs:List V}{us:List Value}(r:Vals xs us):us=[]↔xs=[]:=by
 cases r with
 |nil=>simp
 |cons _ _=>simp
theorem tW:OpR X (binaryOp .Add) (tV X.K):=by
 intro zz s σ H x y v u Q I rx ry h;refine x_40 h λa b xs ys zy=>x_07 zy λzr4 zr5 ha hb hx hz q1 q2=>?_;subst zr4;subst zr5;cases rx;cases ry;refine x_12 (I.tuple ha) λzw r1 p1 _=>?_;refine x_12 (I.tuple hb) λits2 r2 p2 _=>?_;refine HT.cat_tup p1 p2 (λz=>hx (r1.nil_iff.mp z)) (λz=>⟨.ref a,H,I,rfl,q1 (r2.nil_iff.mp z)⟩) (λz=>?_) (by rw[<- r1.length,<- r2.length];exact hz);refine⟨.ref s.heap.objs.size,_,I.laid (t':=s.toks) (o:= .tup (xs++ys)) (λb ob q=>get?_push_of_some _ q) (Nat.le_refl _) ?_,rfl,q2 (λw=>z (r2.nil_iff.mpr w)) _ (I.hok.fresh (Nat.le_refl _))⟩;exact⟨by rw[length_append];exact hz,_,r1.append r2,IsTup.new _ _⟩
end
def ixN(n:Nat)(i:Int):Option Nat:=if 0<=i then(if i<n then some i.toNat else none)else if -(n:Int)<=i then some (i+n).toNat else none
def atI{α:Type}(xs:List α)(i:Int):Option α:=(ixN xs.length i).bind λj=>xs[j]?
theorem tX{n:Nat}{i:Int}{j:Nat}(h:ixN n i=some j):seqIndex? i n=some j/\j<n/\ -(n:Int)<=i/\i<n:=by
 unfold ixN at h;by_cases h0:0<=i
 ·rw[if_pos h0]at h
  by_cases h1:i<n
  ·rw[if_pos h1]at h
   have e:i.toNat=j:=Option.some.inj h;exact⟨by rw[seqIndex_of h0 h1,e],by omega,by omega,h1⟩
  rw[if_neg h1]at h;cases h
 rw[if_neg h0]at h;by_cases h1:-(n:Int)<=i
 ·rw[if_pos h1]at h
  have e:(i+n).toNat=j:=Option.some.inj h;exact⟨by rw[seqIndex_neg (by omega) h1,e],by omega,h1,by omega⟩
 rw[if_neg h1]at h;cases h
theorem jH{α:Type}{xs:List α}{i:Int}{v:α}(h:atI xs i=some v):∃j,seqIndex? i xs.length=some j/\xs[j]? = some v/\j<xs.length/\ -(xs.length:Int)<=i/\i<xs.length:=by
 unfold atI at h;cases e:ixN xs.length i with
 |none=>rw[e]at h;cases h
 |some j =>
 rw[e]at h;refine x_03 (tX e) λh1 h2 h3 h4=>?_;exact⟨j,h1,h,h2,h3,h4⟩
theorem cf{α:Type}{xs:List α}{j:Nat}{v:α}(h:xs[j]? = some v):atI xs (j:Int)=some v:=by
 have hj:j<xs.length:=(List.getElem?_eq_some_iff.mp h).1;have e:ixN xs.length (j:Int)=some j:=by
  unfold ixN;rw[if_pos (by omega),if_pos (by omega)];simp
 unfold atI;rw[e];exact h
def tY(b:Expr):Prop:=∀o i,subscripted b false o i=operate [o,i] (getItem o i)
def IxR(X:Cx)(r:R2):Prop:=
 ∀(value slice:Expr) (zz:zP) (s:Shared) (σ:St) (H:Hp) (x y:V) (v u:Value) (Q:VK),Inv X zz σ H s->RelV x v->RelV y u->r x y H Q ->
  subscripted slice false v u=operate [v,u] (getItem v u)->wpAny (model X.prog X.w) X.A (subscriptTail value slice v u) (EP X zz σ Q) X.xe s
def MtR(X:Cx)(id:String)(r:V->List V->Hp->VK->Prop):Prop:=
 ∀(zz:zP) (s:Shared) (σ:St) (H:Hp) (x:V) (xs:List V) (v:Value) (us:List Value) (Q:VK),Inv X zz σ H s->RelV x v->Vals xs us->r x xs H Q ->
  wpAny (model X.prog X.w) X.A (call (.builtin id) (v::us)) (EP X zz σ Q) X.xe s
section
variable{X:Cx}{a b:Expr}{ta tb:TE}{pos:Pos}
theorem aJ{r:R2}(hr:IxR X r)(ha:PE X a ta)(hb:PE X b tb)(hs:tY b):PE X (.Subscript a b pos) (tOp r ta tb):=by
 intro zz s σ H Q I h;exact Subscript_ (binT ha hb I h λv u s2 x y H2 I2 rx ry q=>hr a b zz s2 σ H2 x y v u Q I2 rx ry q (hs _ _))
def rIxL(K:Frag):R2:=λx y H Q=>∃p xs i v,x=.ref p/\y=.int i/\SqL K H p xs/\atI xs i=some v/\Q v H
def rIxT(K:Frag):R2:=λx y H Q=>∃p xs i v,x=.ref p/\y=.int i/\SqT K H p xs/\atI xs i=some v/\Q v H
def rIxS:R2:=λx y H Q=>∃z i c,x=.str z/\y=.int i/\z.length<=sizeLine/\atI z.cps.toList i=some c/\Q (.str ⟨#[c]⟩) H
theorem bu:IxR X (rIxL X.K):=by
 intro value slice zz s σ H x y v u Q I rx ry h hs;refine x_40 h λp xs i z zy=>x_04 zy λzr4 zr5 hq he q=>?_;subst zr4;subst zr5;cases rx;obtain⟨t,rfl⟩:=ry;refine x_12 (I.list hq) λzw r pl hz=>?_;refine x_10 (jH he) λj zy=>x_04 zy λh1 h2 h3 h4 h5=>?_;obtain⟨w,ew,rw'⟩:=r.get h2;have hl:=r.length;have hn:=dF;have fin:EP X zz σ Q w s:=⟨z,H,I,rw',q⟩;by_cases h0:0<=i
 ·have hj:i.toNat=j:=by
   rw[seqIndex_of h0 h5]at h1;exact Option.some.inj h1
  exact item_listR pl.isList h0 (by omega) (by rw[hj];simpa using ew) fin hs
 have hj:(i+(zw.toArray.size:Int)).toNat=j:=by
  rw[seqIndex_neg (by omega) h4]at h1;rw[size_toArray,<- hl];exact Option.some.inj h1
 exact subscriptTail_builtinR (x:=w) pl.isList.typeIs slot_list_getitem.lookup
  (wpAny_getItem_list_neg (Q:=λr s'=>r=w/\EP X zz σ Q r s') pl.isList (by omega) (by rw[size_toArray]<;>omega) (by omega) (by rw[hj];simpa using ew) ⟨rfl,fin⟩) hs
theorem bM:IxR X (rIxT X.K):=by
 intro value slice zz s σ H x y v u Q I rx ry h hs;refine x_40 h λp xs i z zy=>x_04 zy λzr4 zr5 hq he q=>?_;subst zr4;subst zr5;cases rx;obtain⟨t,rfl⟩:=ry;refine x_12 (I.tuple hq) λzw r pl hz=>?_;refine x_10 (jH he) λj zy=>x_04 zy λh1 h2 h3 h4 h5=>?_;obtain⟨w,ew,rw'⟩:=r.get h2;have hl:=r.length;have hn:=dF;have fin:EP X zz σ Q w s:=⟨z,H,I,rw',q⟩;exact subscriptTail_builtinR (x:=w) pl.typeIs slot_tuple_getitem.lookup
  (getItem_tuple (j:=j) (Q:=λr s'=>r=w/\EP X zz σ Q r s') pl (by omega) (by omega) (by rw[size_toArray,<- hl];exact h1) (by simpa using ew) ⟨rfl,fin⟩) hs
theorem mK:IxR X rIxS:=by
 intro value slice zz s σ H x y v u Q I rx ry h hs;refine x_34 h λz i c zr3 zr4 hz he q=>?_;subst zr3;subst zr4;obtain⟨t,rfl⟩:=rx;obtain⟨t',rfl⟩:=ry;refine x_10 (jH he) λj zy=>x_04 zy λh1 h2 h3 h4 h5=>?_;have hl:z.cps.toList.length=z.length:=by simp[Str.length]
 rw[hl]at h1 h4 h5;have hn:=dF;exact tail_any (typeIs_str s z t) slot_str_getitem.lookup (getItem_str (c:=c) (by
  have e1:decide (i< -(2 ^ 63:Int))=false:=decide_eq_false (by omega);have e2:decide (i≥2 ^ 63)=false:=decide_eq_false (by omega);rw[e1,e2,Bool.or_false]) (by rw[h1];simpa using h2) ⟨.str ⟨#[c]⟩,H,I.tok _,⟨_,rfl⟩,q⟩) hs
theorem tZ(lo hi:Option Int)(n:Nat):(sliceBounds lo hi none n).1=((HT.sIx n 0 lo:Nat):Int)/\(sliceBounds lo hi none n).2.1=((HT.sIx n n hi:Nat):Int)/\(sliceBounds lo hi none n).2.2=1:=by
 refine⟨?_,?_,rfl⟩
 ·cases lo with
  |none=>simp[sliceBounds,HT.sIx]
  |some i =>
   simp only[sliceBounds,HT.sIx,Option.getD_none,show(1:Int) > 0 by decide,if_true];by_cases h:i<0
   ·simp only[h,if_true]<;>omega
   simp only[h,if_false]<;>omega
 cases hi with
 |none=>simp[sliceBounds,HT.sIx]
 |some i =>
 simp only[sliceBounds,HT.sIx,Option.getD_none,show(1:Int) > 0 by decide,if_true];by_cases h:i<0
 ·simp only[h,if_true]<;>omega
 simp only[h,if_false]<;>omega
theorem t8(zw:List Value)(lo hi:Option Int):slicePick zw.toArray lo hi none=((zw.drop (HT.sIx zw.length 0 lo)).take (HT.sIx zw.length zw.length hi - HT.sIx zw.length 0 lo)).toArray:=by
 obtain⟨h1,h2,h3⟩:=tZ lo hi zw.toArray.size;unfold slicePick;rw[h1,h2,h3];simp only[sliceRange_one,pick_run,size_toArray]<;>rfl
def rSlL(K:Frag):V->Option Int->Option Int->Hp->VK->Prop:=λx lo hi H Q=>∃a xs,x=.ref a/\SqL K H a xs/\∀p,H p=none->Q (.ref p) (upd H p (.lst (cutV xs lo hi)))
theorem gX:SlR X (rSlL X.K):=by
 intro zz s σ H x v vl vu lo hi sl Q I rx hs pl pu h;refine x_22 h λa xs zr2 hx q=>?_;subst zr2;cases rx;refine x_12 (I.list hx) λzw r ht hz=>?_;have zr:=r.length;refine⟨"list",_,slot_list_getitem.lookup,ht.isList.typeIs,?_⟩;refine wpAny_getItem_list_slice ht.isList hs pl pu .none (by simp) ?_ (by rw[size_toArray]<;>omega)
 rw[t8,<- zr];refine⟨.ref s.heap.objs.size,_,I.laid (t':=s.toks) (o:= .lst (cutV xs lo hi)) (λb ob q=>get?_push_of_some _ q) (Nat.le_refl _) ?_,rfl,q _ (I.hok.fresh (Nat.le_refl _))⟩;exact⟨Nat.le_trans (tU xs lo hi) hz,_,0,(r.drop (HT.sIx xs.length 0 lo)).take (HT.sIx xs.length xs.length hi - HT.sIx xs.length 0 lo),get?_push_size _ rfl⟩
def di:V->Bool
 |.non=>true
 |.bl _=>true
 |.int _=>true
 |.str _=>true
 |_=>false
noncomputable def eqV:V->V->Bool
 |.non,.non=>true
 |.bl a,.bl b=>a==b
 |.bl a,.int b=>(if a then 1 else 0)==b
 |.int a,.bl b=>a==(if b then 1 else 0)
 |.int a,.int b=>a==b
 |.str a,.str b=>a==b
 |_,_=>false
theorem ua{A:Around}{s:Shared}{y x:V}{u v:Value}(ry:RelV y u)(rx:RelV x v)(fy:di y=true)(fx:di x=true):SeqAt.EqAt A s u v (eqV y x):=by
 cases y with
 |non =>
  cases ry;cases x with
  |non=>cases rx;exact SeqAt.EqAt.same _
  |bl b=>cases rx;exact SeqAt.EqAt.none_bool b
  |int b=>obtain⟨t,rfl⟩:=rx;exact SeqAt.EqAt.none_int b t
  |str b=>obtain⟨t,rfl⟩:=rx;exact SeqAt.EqAt.none_str b t
  |_=>exact absurd (show false=true from fx) Bool.false_ne_true
 |bl a =>
  cases ry;cases x with
  |non=>cases rx;exact SeqAt.EqAt.bool_none a
  |bl b=>cases rx;exact SeqAt.EqAt.bool_bool a b
  |int b=>obtain⟨t,rfl⟩:=rx;exact SeqAt.EqAt.bool_int a b t
  |str b=>obtain⟨t,rfl⟩:=rx;exact SeqAt.EqAt.bool_str a b t
  |_=>exact absurd (show false=true from fx) Bool.false_ne_true
 |int a =>
  obtain⟨t',rfl⟩:=ry;cases x with
  |non=>cases rx;exact SeqAt.EqAt.int_none a t'
  |bl b=>cases rx;exact SeqAt.EqAt.int_bool a t' b
  |int b=>obtain⟨t,rfl⟩:=rx;exact SeqAt.EqAt.int_int a t' b t
  |str b=>obtain⟨t,rfl⟩:=rx;exact SeqAt.EqAt.int_str a t' b t
  |_=>exact absurd (show false=true from fx) Bool.false_ne_true
 |str a =>
  obtain⟨t',rfl⟩:=ry;cases x with
  |non=>cases rx;exact SeqAt.EqAt.str_none a t'
  |bl b=>cases rx;exact SeqAt.EqAt.str_bool a t' b
  |int b=>obtain⟨t,rfl⟩:=rx;exact SeqAt.EqAt.str_int a t' b t
  |str b=>obtain⟨t,rfl⟩:=rx;exact SeqAt.EqAt.str_str a t' b t
  |_=>exact absurd (show false=true from fx) Bool.false_ne_true
 |_=>exact absurd (show false=true from fy) Bool.false_ne_true
noncomputable def eqU(x:V)(u:Value):Bool:=match u with
 |.none=>eqV .non x
 |.bool b=>eqV (.bl b) x
 |.int i _=>eqV (.int i) x
 |.str z _=>eqV (.str z) x
 |_=>false
theorem mL{x y:V}{u:Value}(r:RelV y u)(f:di y=true):eqU x u=eqV y x:=by
 cases y with
 |non=>cases r;rfl
 |bl b=>cases r;rfl
 |int i=>obtain⟨t,rfl⟩:=r;rfl
 |str z=>obtain⟨t,rfl⟩:=r;rfl
 |_=>exact absurd (show false=true from f) Bool.false_ne_true
theorem fN{x:V}:∀{xs:List V}{us:List Value},Vals xs us->xs.all di=true->us.any (eqU x)=xs.any λy=>eqV y x
 |_,_,.nil,_=>rfl
 |y::xs,u::us,.cons r t,f=>by
  rw[all_cons,and_eq_true]at f;rw[any_cons,any_cons,mL r f.1,fN t f.2]
theorem fO{A:Around}{s:Shared}{x:V}{v:Value}(rx:RelV x v)(fx:di x=true):∀{xs:List V}{us:List Value},Vals xs us->xs.all di=true->∀u∈us,SeqAt.EqAt A s u v (eqU x u)
 |_,_,.nil,_=>λu hu=>by cases hu
 |y::xs,u::us,.cons r t,f=>λu' hu=>by
  rw[all_cons,and_eq_true]at f;rcases mem_cons.mp hu with rfl|hu
  ·rw[mL r f.1];exact ua r rx f.1 fx
  exact fO rx fx t f.2 u' hu
noncomputable def inV(x:V)(xs:List V):Bool:=xs.any λy=>eqV y x
def rIn(K:Frag)(neg:Bool):R2:=λx y H Q=>∃p xs,y=.ref p/\(SqL K H p xs\/SqT K H p xs)/\di x=true/\xs.all di=true/\Q (.bl (if neg then !inV x xs else inV x xs)) H
theorem dH:OpR X (compareOp .In) (rIn X.K false):=by
 intro zz s σ H x y v u Q I rx ry h;refine x_24 h λp xs zr2 hq fx fs q=>?_;subst zr2;cases ry;rcases hq with hq|hq
 ·refine x_12 (I.list hq) λzw r pl hz=>?_
  refine SeqAt.in_listAt (eqU x) pl.isList (λw hw=>fO rx fx r fs w (by simpa using hw)) ⟨.bl _,H,I,rfl,?_⟩;rw[show zw.toArray.any (eqU x)=zw.any (eqU x)by simp,fN r fs];exact q
 refine x_12 (I.tuple hq) λzw r pl hz=>?_;refine SeqAt.in_tupleAt (eqU x) pl (λw hw=>fO rx fx r fs w (by simpa using hw)) ⟨.bl _,H,I,rfl,?_⟩;rw[show zw.toArray.any (eqU x)=zw.any (eqU x)by simp,fN r fs];exact q
theorem gY:OpR X (compareOp .NotIn) (rIn X.K true):=by
 intro zz s σ H x y v u Q I rx ry h;refine x_24 h λp xs zr2 hq fx fs q=>?_;subst zr2;cases ry;rcases hq with hq|hq
 ·refine x_12 (I.list hq) λzw r pl hz=>?_
  refine SeqAt.notIn_listAt (eqU x) pl.isList (λw hw=>fO rx fx r fs w (by simpa using hw)) ⟨.bl _,H,I,rfl,?_⟩;rw[show zw.toArray.any (eqU x)=zw.any (eqU x)by simp,fN r fs];exact q
 refine x_12 (I.tuple hq) λzw r pl hz=>?_;refine SeqAt.notIn_tupleAt (eqU x) pl (λw hw=>fO rx fx r fs w (by simpa using hw)) ⟨.bl _,H,I,rfl,?_⟩;rw[show zw.toArray.any (eqU x)=zw.any (eqU x)by simp,fN r fs];exact q
theorem cZ:cB X (.builtin "len") (λxs H Q=>∃p ys,xs=[.ref p]/\(SqL X.K H p ys\/SqT X.K H p ys)/\Q (.int ys.length) H):=by
 intro zz s σ H xs us Q I r h;refine x_22 h λp ys zr2 hq q=>?_;subst zr2;obtain⟨u,rfl,rx⟩:=dX r;cases rx;have hn:=dF;rcases hq with hq|hq
 ·refine x_12 (I.list hq) λzw r' pl hz=>?_
  have zr:=r'.length;exact Calls.call_len_list pl.isList (by simp only[size_toArray]<;>omega) ⟨.int ys.length,H,I.tok _,⟨s.toks+1,by rw[size_toArray,zr]⟩,q⟩
 refine x_12 (I.tuple hq) λzw r' pl hz=>?_;have zr:=r'.length;exact len_tuple pl (by simp only[size_toArray]<;>omega) ⟨.int ys.length,H,I.tok _,⟨s.toks+1,by rw[size_toArray,zr]⟩,q⟩
theorem dI:cB X (.builtin "len") (λxs H Q=>∃z,xs=[.str z]/\z.length<=sizeLine/\Q (.int z.length) H):=by
 intro zz s σ H xs us Q I r h;refine x_12 h λz zr1 hz q=>?_;subst zr1;refine x_11 (dX r) λu zr1 zz0=>?_;refine x_10 zz0 λt zr3=>?_;subst zr1;subst zr3;have hn:=dF;exact len_str (by omega) ⟨.int z.length,H,I.tok _,⟨_,rfl⟩,q⟩
theorem ub:cB X (.type "tuple") (λxs H Q=>∃p ys,xs=[.ref p]/\((SqL X.K H p ys/\∀l,H l=none->Q (.ref l) (upd H l (.tup ys)))\/(SqT X.K H p ys/\Q (.ref p) H))):=by
 intro zz s σ H xs us Q I r h;obtain⟨p,ys,rfl,h⟩:=h;obtain⟨u,rfl,rx⟩:=dX r;cases rx;rcases h with⟨hq,q⟩|⟨hq,q⟩
 ·obtain⟨zw,r',pl,hz⟩:=I.list hq
  have zr:=r'.length;refine call_tuple_list pl.isList (λh' kp=>?_) (by simp only[size_toArray]<;>omega)
  have I1:Inv X zz σ H {s with heap:=h' }:=I.kept (t':=s.toks) kp;have I2:Inv X zz σ (upd H h'.objs.size (.tup ys)) {s with heap:=h'.push {cls:= .type "tuple",data:= .seq zw.toArray}}:=
   I1.laid (t':=s.toks) (λb o e=>get?_push_of_some _ e) (Nat.le_refl _) (show aO X.prog X.w _ _ _ (.tup ys)from⟨hz,zw,r',IsTup.new _ _⟩)
  exact⟨.ref h'.objs.size,_,I2,rfl,q _ (I1.hok.fresh (Nat.le_refl _))⟩
 obtain⟨zw,r',pl,hz⟩:=I.tuple hq;exact call_tuple_same pl ⟨.ref p,H,I,rfl,q⟩
def tyV(K:Frag)(T:String)(x:V)(H:Hp):Prop:=match x with
 |.str _=>T="str"
 |.int _=>T="int"
 |.ref p=>(T="list"/\∃xs,SqL K H p xs)\/(T="tuple"/\∃o,K.lookup p=some o/\o.cls=.type "tuple"/\o.dict=none) \/
  (T="dict"/\((∃zu,H p=some (.dK zu))\/∃zu,H p=some (.dT zu)))\/(T="set"/\∃S n,H p=some (.set S n))
 |_=>False
theorem mM{zz:zP}{σ:St}{H:Hp}{s:Shared}{T:String}{x:V}{v:Value}(I:Inv X zz σ H s)(r:RelV x v)(ty:tyV X.K T x H) :
  s.TypeIs v T/\∀a,v=.ref a->∃ob,s.heap.get? a=some ob/\ob.dict=none:=by
 cases x with
 |str z =>
  obtain⟨t,rfl⟩:=r;cases(show T="str"from ty);exact⟨typeIs_str s z t,λ_ e=>nomatch e⟩
 |int i =>
  obtain⟨t,rfl⟩:=r;cases(show T="int"from ty);exact⟨typeIs_int s i t,λ_ e=>nomatch e⟩
 |ref p =>
  cases r;rcases ty with⟨rfl,xs,hq⟩|⟨rfl,o,hk,hc,hd⟩|⟨rfl,hk⟩|⟨rfl,S,n,hk⟩
  ·refine x_12 (I.list hq) λzw _ pl _=>?_
   refine⟨pl.isList.typeIs,λa e=>?_⟩;cases e;refine x_23 pl λo n e c hd _=>?_;exact⟨o,e,hd⟩
  ·refine⟨⟨o,I.kIn p o hk,hc⟩,λa e=>?_⟩
   cases e;exact⟨o,I.kIn _ o hk,hd⟩
  ·have z:∃o,s.heap.get? p=some o/\o.ExactDict:=by
    rcases hk with⟨zu,hk⟩|⟨zu,hk⟩
    ·obtain⟨_,_,_,_,o,_,_,e,ex,_⟩:=I.hok p _ hk
     exact⟨o,e,ex⟩
    obtain⟨_,_,_,_,o,_,_,e,ex,_⟩:=I.hok p _ hk;exact⟨o,e,ex⟩
   obtain⟨o,e,ex⟩:=z;refine⟨⟨o,e,ex.1⟩,λa e2=>?_⟩;cases e2;exact⟨o,e,ex.2.1⟩
  refine x_40 (I.hok p _ hk) λo _ _ _ zy=>x_02 zy λe ex _=>?_;refine⟨⟨o,e,ex.1⟩,λa e2=>?_⟩;cases e2;exact⟨o,e,ex.2.1⟩
 |_=>exact False.elim ty
def tBM0(K:Frag)(T:String)(r:V->List V->Hp->VK->Prop)(to:TE):TE:=λσ H Q=>to σ H λx H1=>tyV K T x H1/\r x [] H1 Q
def tBM(K:Frag)(T:String)(r:V->List V->Hp->VK->Prop)(to:TE)(t:TA):TE:=λσ H Q=>to σ H λx H1=>tyV K T x H1/\t σ H1 λxs H2=>r x xs H2 Q
variable{o e:Expr}{es:List Expr}{to:TE}{t:TA}{name:Str}{zt zn:Pos}{T id:String}{r:V->List V->Hp->VK->Prop}
theorem fb(pa:PlainAttrs T)(slot:Slot T name id)(hty:typeOf (.builtin id)=pure (.type "method_descriptor"))(hm:MtR X id r)(ho:PE X o to)
  (zk:attributeBase o name X.env (eval o X.env)=eval o X.env:=by rfl)(zl:(zt.endLine==zn.line)=true:=by rfl):PE X (.Call (.Attribute o name zt) [] [] zn) (tBM0 X.K T r to):=by
 intro zz s σ H Q I h;refine wpAny_Call_method0_late zk zl (thn (ho zz s σ H _ I h) λv s1 zq=>?_);refine x_23 zq λx H1 I1 r1 ty q1=>?_;obtain⟨h1,h2⟩:=mM I1 r1 ty;exact⟨T,id,pa,slot,hty,h1,h2,Calls.callWith_builtin rfl (PySem.evalArgs_none (hm zz s1 σ H1 x [] v [] Q I1 r1 .nil q1))⟩
theorem bz(pa:PlainAttrs T)(slot:Slot T name id)(hty:typeOf (.builtin id)=pure (.type "method_descriptor"))(hm:MtR X id r)(ho:PE X o to)(ha:PA X (e::es) t)
  (zk:attributeBase o name X.env (eval o X.env)=eval o X.env:=by rfl)
  (hfew:((backTo zn (starEach (e::es) X.env)).all (λx=> !x.1)&&(backToKw zn (keywordEach [] X.env)).all (λx=>x.1.isSome)
   && decide ((e::es).length+([]:List Keyword).length+(if([]:List Keyword).isEmpty then 0 else 1)<30))=true:=by rfl)
  (zl:(zt.endLine==zn.line)=true:=by rfl)(hs:starEach (e::es) X.env=(false,eval e X.env)::starEach es X.env:=by rfl)(hplain:(backTo zn (starEach es X.env)).any (·.1)=false:=by rfl) :
  PE X (.Call (.Attribute o name zt) (e::es) [] zn) (tBM X.K T r to t):=by
 intro zz s σ H Q I h;refine wpAny_Call_method_late zk hfew zl rfl (thn (ho zz s σ H _ I h) λv s1 zq=>?_);refine x_23 zq λx H1 I1 r1 ty q1=>?_;obtain⟨h1,h2⟩:=mM I1 r1 ty;refine⟨T,id,pa,slot,hty,h1,h2,?_⟩;have hA:=ha zn zz s1 σ H1 _ I1 q1;rw[hs]at hA ⊢;refine Calls.callWith_builtin (by show(false||(backTo zn (starEach es X.env)).any (·.1))=false;rw[hplain]<;>rfl) (Calls.evalArgs_plain ?_)
 exact thn hA λus s2 ⟨vs,H2,I2,r2,q2⟩=>hm zz s2 σ H2 x vs v us Q I2 r1 r2 q2
end
def MtM(X:Cx)(id:String)(r:V->List V->Hp->VK->Prop):Prop:=
 ∀(zz:zP) (s:Shared) (σ:St) (H:Hp) (x:V) (xs:List V) (v:Value) (us:List Value) (Q:VK),Inv X zz σ H s->RelV x v->Vals xs us->r x xs H Q ->
  wpAny (model X.prog X.w) X.A (call (.builtin id) (v::us)) (EP X zz σ Q) X.xe s
theorem Vals.one{x:V}{us:List Value}(h:Vals [x] us):∃u,us=[u]/\RelV x u:=by
 cases h with
 |cons r t=>cases t;exact⟨_,rfl,r⟩
theorem Vals.zero:∀{us:List Value},Vals [] us->us=[]
 |_,.nil=>rfl
theorem Vals.dropLast{xs:List V}{us:List Value}(h:Vals xs us):Vals xs.dropLast us.dropLast:=by
 induction h with
 |nil=>exact .nil
 |cons r t ih =>
 cases t with
 |nil=>exact .nil
 |cons q t'=>exact .cons r ih
theorem uc{α:Type}(l:List α):l.eraseIdx (l.length - 1)=l.dropLast:=by
 induction l with
 |nil=>rfl
 |cons a r ih =>
 cases r with
 |nil=>rfl
 |cons b r =>
 have e:(a::b::r).length - 1=((b::r).length - 1)+1:=by
  have h1:(a::b::r).length=r.length+2:=rfl;have h2:(b::r).length=r.length+1:=rfl;omega
 rw[e,List.eraseIdx_cons_succ,ih]
 all_goals rfl
section
variable{X:Cx}{zz:zP}{σ:St}{H:Hp}{s:Shared}{l:Addr}{xs ys:List V}
theorem Inv.lset{zw its':List Value}{n:Nat}{f:Array Value->Array Value}{t':Nat}(I:Inv X zz σ H s)(hH:H l=some (.lst xs))
  (e:s.heap.get? l=some {cls:= .type "list",data:= .seq zw.toArray n})(hf:f zw.toArray=its'.toArray)(hv:Vals ys its')(hz:ys.length<=sizeLine) :
  Inv X zz σ (upd H l (.lst ys)) {s with heap:=s.heap.update l (Obj.mapSeq f),toks:=t' }:=by
 have q:=PySem.IsL.update e f;rw[hf]at q;refine I.write (x:=l) (e:=l) (by rw[hH];exact trivial) (.inl rfl) (λb' u hb hu=>(get?_update_other s.heap (Obj.mapSeq f) (Ne.symm hb)).trans hu) ⟨_,q⟩ ?_;exact⟨hz,its',_,hv,q⟩
theorem Inv.lnew{zw:List Value}{t':Nat}(I:Inv X zz σ H s)(hv:Vals ys zw)(hz:ys.length<=sizeLine) :
  Inv X zz σ (upd H s.heap.objs.size (.lst ys)) {s with heap:=s.heap.push {cls:= .type "list",data:= .seq zw.toArray},toks:=t' }:=
 I.laid (λ_ _ q=>get?_push_of_some _ q) (Nat.le_refl _) ⟨hz,zw,0,hv,get?_push_size _ rfl⟩
theorem Inv.fresh(I:Inv X zz σ H s):H s.heap.objs.size=none:=I.hok.fresh (Nat.le_refl _)
theorem Inv.lstM(I:Inv X zz σ H s)(hH:H l=some (.lst xs)):xs.length<=sizeLine/\∃(zw:List Value) (n:Nat),Vals xs zw/\xs.length=zw.length/\s.heap.get? l=some {cls:= .type "list",data:= .seq zw.toArray n}:=by
 refine x_01 (I.hok l _ hH) λz zz0=>?_;refine x_21 zz0 λzw n r e=>?_;exact⟨z,zw,n,r,r.length,e⟩
end
section
variable{X:Cx}
def bG:V->List V->Hp->VK->Prop:=λx vs H Q=>∃l xs y,x=.ref l/\vs=[y]/\H l=some (.lst xs)/\xs.length<sizeLine/\Q .non (upd H l (.lst (xs++[y])))
theorem bA:MtM X "list.append" bG:=by
 intro zz s σ H x vs v us Q I rx rv h;refine x_34 h λl xs y zr3 zr4 hH hz q=>?_;subst zr3;subst zr4;cases rx;obtain⟨u,rfl,ru⟩:=rv.one;refine x_01 (I.lstM hH) λz zz0=>?_;refine x_22 zz0 λzw n r hl e=>?_;refine call_meets F.slot_list_append ⟨_,e,rfl⟩ F.entry_list_append (F.args_list_append_2 _ _) (PySem.list_append l zw.toArray n u (by rw[size_toArray];omega)) ⟨e,?_⟩;refine⟨.non,_,I.lset (its':=zw++[u]) hH e (by simp) (r.append (.cons ru .nil)) ?_,rfl,q⟩;rw[length_append,length_singleton];omega
def rPop:V->List V->Hp->VK->Prop:=λx vs H Q=>∃l xs y,x=.ref l/\vs=[]/\H l=some (.lst xs)/\xs[xs.length - 1]? = some y/\Q y (upd H l (.lst xs.dropLast))
theorem fe:MtM X "list.pop" rPop:=by
 intro zz s σ H x vs v us Q I rx rv h;refine x_34 h λl xs y zr3 zr4 hH hy q=>?_;subst zr3;subst zr4;cases rx;have hus:=rv.zero;subst hus;refine x_01 (I.lstM hH) λz zz0=>?_;refine x_22 zz0 λzw n r hl e=>?_;obtain⟨u,hu,ru⟩:=r.get hy;have hy':zw.toArray[zw.toArray.size - 1]? = some u:=by
  show zw.toArray[zw.length - 1]? = some u;rw[<- Array.getElem?_toList,<- hl];exact hu
 refine call_meets F.slot_list_pop ⟨_,e,rfl⟩ F.entry_list_pop (F.args_list_pop_1 _) (MeetsSeq.list_pop_last l zw.toArray n u hy' (by rw[size_toArray];omega)) ⟨e,?_⟩;refine⟨y,_,I.lset (its':=zw.dropLast) hH e ?_ r.dropLast ?_,ru,q⟩
 ·show zw.toArray.eraseIdxIfInBounds (zw.toArray.size - 1)=zw.dropLast.toArray
  rw[size_toArray,List.eraseIdxIfInBounds_toArray,uc]
 rw[List.length_dropLast];omega
def rCat:R2:=λx y H Q=>∃l b xs zs,x=.ref l/\y=.ref b/\H l=some (.lst xs)/\H b=some (.lst zs)/\xs.length+zs.length<=sizeLine/\∀p,H p=none->Q (.ref p) (upd H p (.lst (xs++zs)))
theorem gZ:OpR X (binaryOp .Add) rCat:=by
 intro zz s σ H x y v u Q I rx ry h;refine x_40 h λl b xs zs zy=>x_05 zy λzr4 zr5 hH hB hz q=>?_;subst zr4;subst zr5;cases rx;cases ry;refine x_01 (I.lstM hH) λz zz0=>?_;refine x_22 zz0 λzw n r hl e=>?_;refine x_01 (I.lstM hB) λz2 zz0=>?_;refine x_22 zz0 λits2 n2 r2 hl2 e2=>?_;refine PySem.P.add_list e e2 ?_ (by rw[size_toArray,size_toArray];omega);have ea:zw.toArray++its2.toArray=(zw++its2).toArray:=by simp
 rw[ea];exact⟨.ref _,_,I.lnew (t':=s.toks) (r.append r2) (by rw[length_append];omega),rfl,q _ I.fresh⟩
end
theorem Vals.ints:∀{ns:List Int}{us:List Value},Vals (ns.map V.int) us->IntsAre us ns
 |[],us,h=>by
  rw[map_nil]at h;cases h;exact IntsAre.nil
 |n::ns,us,h=>by
  rw[map_cons]at h;cases h with
  |cons r t =>
  obtain⟨k,rfl⟩:=r;exact IntsAre.cons n k (Vals.ints t)
theorem Vals.bls:∀{bs:List Bool}{us:List Value},Vals (bs.map V.bl) us->us=bs.map Value.bool
 |[],us,h=>by
  rw[map_nil]at h;cases h;rfl
 |b::bs,us,h=>by
  rw[map_cons]at h;cases h with
  |cons r t =>
  cases r;rw[Vals.bls t,map_cons]
theorem Vals.ref1{a:Addr}{us:List Value}(r:Vals [V.ref a] us):us=[Value.ref a]:=by
 cases r with
 |cons r t =>
 cases t;cases r;rfl
section
variable{prog:Program}{w:World}{A:Around}{E:zQ}{s:Shared}{l:Addr}{zw:List Value}{ns:List Int}{Q:zQ}
theorem ud(hh:A.handled=none)(hl:s.heap.IsList l zw.toArray)(hi:IntsAre zw ns)(hne:0<ns.length)
  (h:∀h' tk M t',(∀b o,s.heap.get? b=some o->h'.get? b=some o)->M∈ns->(∀a,a∈ns->a<=M)->Q (.int M t') {s with heap:=h',toks:=tk}):wpAny (model prog w) A (call (.builtin "max") [.ref l]) Q E s:=by
 obtain⟨xs,e⟩:=hi.allInts.items;have hn:numsOf (intItems xs).toList=ns:=by rw[<- e];exact hi.numsOf
 rw[nums_intItems]at hn;subst hn;rw[e]at hl;have hsz:0<xs.size:=by simpa using hne
 refine PySem.max_intList hh hl hsz λv h' tk hv hk=>?_;obtain⟨t,rfl⟩:=intItems_at hv;obtain⟨h1,h2⟩:=argBest_gt (numAt xs) (xs.size - 1);refine h h' tk _ t hk ?_ λa ha=>?_
 ·rw[numAt_eq];exact PySem.getD_mem (by rw[length_map,Array.length_toList];omega)
 obtain⟨j,hj,rfl⟩:=mem_getD ha;rw[length_map,Array.length_toList]at hj;rw[<- numAt_eq];exact h2 j (by omega)
end
section
variable{X:Cx}
def rSum(K:Frag):List V->Hp->VK->Prop:=λvs H Q=>∃(a:Addr) (ns:List Int),vs=[V.ref a]/\SqL K H a (ns.map V.int)/\Q (.int ns.sum) H
def rMax(K:Frag):List V->Hp->VK->Prop:=λvs H Q=>∃(a:Addr) (ns:List Int),vs=[V.ref a]/\SqL K H a (ns.map V.int)/\0<ns.length/\∀m,m∈ns->(∀y,y∈ns->y<=m)->Q (.int m) H
theorem ue(hc:X.calm=true):cB X (.builtin "max") (rMax X.K):=by
 intro zz s σ H vs us Q I r h;refine x_23 h λa ns zr2 hs hne q=>?_;subst zr2;refine x_12 (I.list hs) λzw rv hl _=>?_;rw[Vals.ref1 r];exact ud (I.ok.hd hc) hl.isList rv.ints hne λh' tk m t' hk h1 h2=>⟨.int _,H,I.kept hk,⟨_,rfl⟩,q m h1 h2⟩
end
theorem uf{prog:Program}{w:World}{A:Around}{E:zQ}{s:Shared}{l:Addr}{items:Array Value}{Q:zQ}(hl:s.heap.IsList l items)
  (h:∀s₂:Shared,s₂={s with heap:=s.heap.push {cls:= .type "list_iterator",data:= .fields #[.ref l,.int 0 0]}} ->
   (s₂.heap.IsListIter s.heap.objs.size l 0/\s₂.heap.IsList l items)->l≠s.heap.objs.size->Q (.ref s.heap.objs.size) s₂):wpAny (model prog w) A (pyIter (.ref l)) Q E s:=by
 have hlt:l<s.heap.objs.size:=by obtain⟨_,e,_⟩:=hl;exact lt_size e
 exact wpAny_pyIter_list hl (h _ rfl ⟨⟨_,get?_push_size _ rfl,rfl,rfl⟩,hl.push _⟩ (Nat.ne_of_lt hlt))
theorem ug{prog:Program}{w:World}{A:Around}{bs:List Bool}{zw:List Value}(e:zw=bs.map Value.bool) :
  TruthOf prog w A (λi v=>zw.toArray[i]? = some v) (λi=>bs.getD i false):=λi v s Q E hv hq=>by
 have hv':zw[i]? = some v:=by simpa using hv
 rw[e,getElem?_map]at hv';obtain⟨b,hb,rfl⟩:=Option.map_eq_some_iff.mp hv';have hg:bs.getD i false=b:=by rw[List.getD_eq_getElem?_getD,hb]<;>rfl
 have hq':Q (bs.getD i false) s:=hq;rw[hg]at hq';exact wpAny_truthy_bool hq'
theorem mN:∀bs:List Bool,(List.range bs.length).all (λi=>bs.getD i false)=bs.all id
 |[]=>rfl
 |b::bs=>by
  rw[length_cons,List.range_succ_eq_map,all_cons,all_map,all_cons,<- mN bs]
  all_goals rfl
section
variable{X:Cx}
def rAll(K:Frag):List V->Hp->VK->Prop:=λvs H Q=>∃(a:Addr) (bs:List Bool),vs=[V.ref a]/\SqL K H a (bs.map V.bl)/\Q (.bl (bs.all id)) H
theorem mO(hc:X.calm=true):cB X (.builtin "all") (rAll X.K):=by
 intro zz s σ H vs us Q I r h;refine x_22 h λa bs zr2 hs q=>?_;subst zr2;refine x_12 (I.list hs) λzw rv hl _=>?_;rw[Vals.ref1 r];have hb:=rv.bls;refine call_all_walk (uf hl.isList λs₂ e2 st hne=>?_);subst e2;refine⟨_,_,_,_,_,_,_,rfl,Walks.list (A:=X.A.in1) (I.ok.hd hc) _ a hne zw.toArray,st,ug hb,λh' tk hk=>?_⟩;refine⟨.bl _,H,I.kept λb o eo=>hk b o (λhmem=>?_) (get?_push_of_some _ eo),?_,q⟩
 ·rcases mem_cons.mp hmem with e1|hmem
  ·exact absurd (e1 ▸ lt_size eo) (Nat.lt_irrefl _)
  cases hmem
 show Value.bool _=Value.bool _;rw[<- mN,hb,size_toArray,length_map]
end
abbrev mP(h:Heap)(c:Addr)(v:Option Value):Prop:=h.IsCell c v
def relS(scope sc:Scope):Scope:=
 {scope with names:=scope.names.map λ(n,k)=>if(k==.free&&sc.kind==.function&&sc.names.lookup n==some .cell)then(n,.cell)else(n,k)}
def bI(cells:List (Str×Addr)):List (Str×NameKind)->List (Str×Addr)->List (Str×Addr)
 |[],zx=>zx
 |(n,k)::r,zx=>if k==.free then bI cells r ((n,(cells.lookup n).getD 0)::zx)else bI cells r zx
theorem mQ(env:Env)(f:Str×NameKind->List (Str×Addr)->Sem (ForInStep (List (Str×Addr))))
  (hf:∀n k c,f (n,k) c=if k==.free then(do let a <- cellOf env n;pure (.yield ((n,a)::c)))else pure (.yield c)) :
  ∀(names:List (Str×NameKind)) (zx:List (Str×Addr)),(∀y∈names,y.2=.free->∃c,env.cells.lookup y.1=some c)->forIn names zx f=pure (bI env.cells names zx)
 |[],zx,_=>by rw[List.forIn_nil];rfl
 |(n,k)::r,zx,h=>by
  rw[List.forIn_cons,hf];have ih:=λzx=>mQ env f hf r zx λy hy=>h y (mem_cons_of_mem _ hy);unfold bI;by_cases hk:(k==NameKind.free)=true
  ·rw[if_pos hk,if_pos hk]
   obtain⟨c,hc⟩:=h (n,k) mem_cons_self (by simpa using hk);have e:cellOf env n=pure c:=by unfold cellOf;rw[hc]
   rw[e];have e2:(env.cells.lookup n).getD 0=c:=by rw[hc];rfl
   rw[e2];exact ih _
  rw[if_neg hk,if_neg hk];exact ih _
theorem uh{scope:Scope}{env:Env}(h:∀y∈scope.names,y.2=.free->∃c,env.cells.lookup y.1=some c):closureFor scope env=pure (bI env.cells scope.names []):=by
 simp only[closureFor];rw[mQ env _ (λn k c=>rfl) scope.names [] h];rfl
theorem jI{α:Type}:∀{l:List (Str×α)}{n:Str}{c:α},(n,c)∈l->∃c',l.lookup n=some c'
 |(k,v)::r,n,c,h=>by
  rw[lookup_cons];cases hb:n==k with
  |true=>exact⟨_,rfl⟩
  |false =>
  rcases mem_cons.mp h with e|h
  ·cases e;simp at hb
  exact jI h
theorem hJ{cells:List (Str×Addr)}:∀{names:List (Str×NameKind)}{zx:List (Str×Addr)}{n:Str}{c:Addr},(n,c)∈bI cells names zx->(n,c)∈zx\/((n,.free)∈names/\c=(cells.lookup n).getD 0)
 |[],_,_,_,h=>.inl h
 |(m,k)::r,zx,n,c,h=>by
  unfold bI at h;split at h
  ·rename_i hk
   have hk:k=.free:=by simpa using hk
   rcases hJ h with h|⟨h1,h2⟩
   ·rcases mem_cons.mp h with e|h
    ·cases e;exact .inr ⟨hk ▸ mem_cons_self,rfl⟩
    exact .inl h
   exact .inr ⟨mem_cons_of_mem _ h1,h2⟩
  rcases hJ h with h|⟨h1,h2⟩
  ·exact .inl h
  exact .inr ⟨mem_cons_of_mem _ h1,h2⟩
theorem jJ{cells:List (Str×Addr)}:∀{names:List (Str×NameKind)}{zx:List (Str×Addr)}{p:Str×Addr},p∈zx->p∈bI cells names zx
 |[],_,_,h=>h
 |(m,k)::r,zx,p,h=>by
  unfold bI;split
  ·exact jJ (mem_cons_of_mem _ h)
  exact jJ h
theorem jK{cells:List (Str×Addr)}:∀{names:List (Str×NameKind)}{zx:List (Str×Addr)}{n:Str},(n,.free)∈names->(n,(cells.lookup n).getD 0)∈bI cells names zx
 |(m,k)::r,zx,n,h=>by
  unfold bI;rcases mem_cons.mp h with e|h
  ·cases e
   exact jJ mem_cons_self
  split
  ·exact jK h
  exact jK h
theorem fP:∀{names:List (Str×NameKind)}{h:Heap}{zx:List (Str×Addr)}{x:Str}{c:Addr},(x,c)∈cellsFrom h.objs.size names zx ->
  (x,c)∈zx\/((x,.cell)∈names/\h.objs.size<=c/\mP (pushCells h names) c none)
 |[],_,_,_,_,h=>.inl h
 |(n,k)::r,h,zx,x,c,hm=>by
  unfold cellsFrom at hm;unfold pushCells;split at hm
  ·rename_i hk
   rw[if_pos hk];have hk:k=.cell:=by simpa using hk
   rw[<- size_push h {cls:= .type "cell",data:= .cell none}]at hm;rcases fP hm with hm|⟨h1,h2,h3⟩
   ·rcases mem_cons.mp hm with e|hm
    ·cases e
     exact .inr ⟨hk ▸ mem_cons_self,Nat.le_refl _,_,pushCells_keeps r _ _ _ (get?_push_size _ rfl),rfl⟩
    exact .inl hm
   rw[size_push]at h2;exact .inr ⟨mem_cons_of_mem _ h1,le_of_succ_le h2,h3⟩
  rename_i hk;rw[if_neg hk];rcases fP hm with hm|⟨h1,h2,h3⟩
  ·exact .inl hm
  exact .inr ⟨mem_cons_of_mem _ h1,h2,h3⟩
theorem hU:∀{names:List (Str×NameKind)}{n:Nat}{zx:List (Str×Addr)}{p:Str×Addr},p∈zx->p∈cellsFrom n names zx
 |[],_,_,_,h=>h
 |(m,k)::r,n,zx,p,h=>by
  unfold cellsFrom;split
  ·exact hU (mem_cons_of_mem _ h)
  exact hU h
theorem jL:∀{names:List (Str×NameKind)}{n:Nat}{zx:List (Str×Addr)}{x:Str},(x,.cell)∈names->∃c,(x,c)∈cellsFrom n names zx
 |(m,k)::r,n,zx,x,h=>by
  unfold cellsFrom;rcases mem_cons.mp h with e|h
  ·cases e
   exact⟨n,hU mem_cons_self⟩
  split
  ·exact jL h
  exact jL h
theorem jM:∀{names:List (Str×NameKind)}{h:Heap}{zx:List (Str×Addr)}{x y:Str}{c:Addr},(∀p∈zx,p.2<h.objs.size)->(∀x y c,(x,c)∈zx->(y,c)∈zx->x=y) ->
  (x,c)∈cellsFrom h.objs.size names zx->(y,c)∈cellsFrom h.objs.size names zx->x=y
 |[],_,_,_,_,_,_,hi,h1,h2=>hi _ _ _ h1 h2
 |(n,k)::r,h,zx,x,y,c,hl,hi,h1,h2=>by
  unfold cellsFrom at h1 h2;split at h1
  ·rename_i hk
   rw[if_pos hk]at h2;rw[<- size_push h {cls:= .type "cell",data:= .cell none}]at h1 h2;refine jM (h:=h.push _) (λp hp=>?_) (λx y c a b=>?_) h1 h2
   ·rw[size_push]
    rcases mem_cons.mp hp with rfl|hp
    ·exact lt_succ_self _
    exact Nat.lt_succ_of_lt (hl p hp)
   rcases mem_cons.mp a with e|a<;>rcases mem_cons.mp b with e'|b
   ·cases e;cases e';rfl
   ·cases e;exact absurd (hl _ b) (Nat.lt_irrefl _)
   ·cases e';exact absurd (hl _ a) (Nat.lt_irrefl _)
   exact hi _ _ _ a b
  rename_i hk;rw[if_neg hk]at h2;exact jM hl hi h1 h2
theorem ui{M:Model}{A:Around}{E:zQ}{s:Shared}{scope:Scope}{globals:Addr}{closure:List (Str×Addr)}{qual:Str}{func:Option Addr}{code:Value}{around:Env}{builtins:Addr}{Q:Env->Shared->Prop}
  (h:Q (newEnv scope s.heap.objs.size globals (cellsFrom (s.heap.objs.size+1) scope.names closure) qual func code (some around) builtins)
   {s with heap:=pushCells (s.heap.push {cls:= .type "dict",data:= .dict #[]}) scope.names}) :
  wpAny M A (newFunctionEnv scope globals closure [] qual func code (some around) builtins) Q E s:=by
 simp only[newFunctionEnv,Option.isSome_some,if_true];refine wpAny_bind (wpAny_alloc ?_);refine wpAny_bind (wpAny_layCells _ (λn k c=>rfl) scope.names closure _ _ ?_);rw[show({s with heap:=s.heap.push {cls:= .type "dict",data:= .dict #[]}}:Shared).heap.objs.size=s.heap.objs.size+1 from size_push ..];rw[List.forIn_nil];exact wpAny_bind (wpAny_pure (wpAny_pure h))
theorem jN{sc:Scope}:∀{names:List (Str×NameKind)}{x:Str}{k:NameKind},
  (names.map λ(n,k)=>if(k==NameKind.free&&sc.kind==.function&&sc.names.lookup n==some .cell)then(n,NameKind.cell)else(n,k)).lookup x=some k ->
  ∃k',names.lookup x=some k'/\(k=k'\/(k'=.free/\k=.cell))
 |[],_,_,h=>by simp at h
 |(n,k₀)::r,x,k,h=>by
  have ih:= @jN sc r x k;have h':List.lookup x ((if(k₀==NameKind.free&&sc.kind==.function&&sc.names.lookup n==some .cell)=true then(n,NameKind.cell)else(n,k₀))::(r.map _))=some k:=h;cases hx:x==n with
  |true =>
   simp only[lookup_cons,hx];by_cases hc:(k₀==NameKind.free&&sc.kind==.function&&sc.names.lookup n==some .cell)=true
   ·rw[if_pos hc]at h'
    simp only[lookup_cons,hx]at h';cases h';simp only[and_eq_true,beq_iff_eq]at hc;exact⟨k₀,rfl,.inr ⟨hc.1.1,rfl⟩⟩
   rw[if_neg hc]at h';simp only[lookup_cons,hx]at h';cases h';exact⟨_,rfl,.inl rfl⟩
  |false =>
  simp only[lookup_cons,hx];by_cases hc:(k₀==NameKind.free&&sc.kind==.function&&sc.names.lookup n==some .cell)=true
  ·rw[if_pos hc]at h'
   simp only[lookup_cons,hx]at h';exact ih h'
  rw[if_neg hc]at h';simp only[lookup_cons,hx]at h';exact ih h'
structure BlkOk(N:List Str)(sc scope:Scope)(own:List (Str×Nat)):Prop where
 kind:scope.kind=.function
 uniq:∀y∈scope.names,scope.names.lookup y.1=some y.2
 ix:∀p∈own,N[p.2]? = some p.1
 free:∀y∈scope.names,y.2=.free->sc.names.lookup y.1=some .cell\/sc.names.lookup y.1=some .free
 own:∀y∈scope.names,y.2=.local\/y.2=.cell->y.1∈own.map (·.1)\/y.1∉N
def wipe(σ:St):List Nat->St
 |[]=>σ
 |v::vs=>(wipe σ vs).set v none
theorem jO(σ:St):∀vs:List Nat,(wipe σ vs).length=σ.length
 |[]=>rfl
 |v::vs=>by unfold wipe;rw[List.length_set,jO σ vs]
theorem jP{σ:St}{i:Nat}{x:V}:∀{vs:List Nat},(wipe σ vs)[i]? = some (some x)->σ[i]? = some (some x)/\i∉vs
 |[],h=>⟨h,by simp⟩
 |v::vs,h=>by
  unfold wipe at h;by_cases hi:v=i
  ·subst hi
   by_cases hv:v<(wipe σ vs).length
   ·rw[List.getElem?_set_self hv]at h;cases h
   rw[List.getElem?_eq_none (by simpa using hv)]at h;cases h
  rw[List.getElem?_set_ne hi]at h;obtain⟨h1,h2⟩:=jP h;exact⟨h1,by simp only[mem_cons,not_or];exact⟨λe=>hi e.symm,h2⟩⟩
noncomputable abbrev Cx.blk(X:Cx)(s:Shared)(H:Hp)(scope:Scope)(zo:Env)(fp:List Addr):Cx:={X with s_0:=s,H_0:=H,env:=zo,outer:=X.stack,ex:=fp,fn:=λx=>scope.names.lookup x==some .cell,pn:=[],xe:=λ_ _=>False}
section
variable{X:Cx}{zz:zP}{σ:St}{H:Hp}{s:Shared}
theorem uj{scope:Scope}{own:List (Str×Nat)}{fp:List Addr}(I:Inv X zz σ H s)(ok:BlkOk X.N X.env.scope scope own)(hN:X.N.Nodup)(hfp:∀b∈fp,FpOk X zz H b/\b<s.heap.objs.size) :
  Inv (X.blk s H scope (compEnvC scope (cellsFrom (s.heap.objs.size+1) scope.names (bI X.env.cells scope.names [])) s.heap.objs.size X.env) fp) [] (wipe σ (own.map (·.2))) H {s with heap:=pushCells (s.heap.push {cls:= .type "dict",data:= .dict #[]}) scope.names}:=by
 have hfree:∀y∈scope.names,y.2=.free->∃c,X.env.cells.lookup y.1=some c:=λy hy e=>by
  rcases ok.free y hy e with k|k
  ·exact I.ok.has _ (.inl k)
  exact I.ok.has _ (.inr k)
 generalize hcenv:compEnvC scope (cellsFrom (s.heap.objs.size+1) scope.names (bI X.env.cells scope.names [])) s.heap.objs.size X.env=zo;have kp:∀b o,s.heap.get? b=some o->(pushCells (s.heap.push {cls:= .type "dict",data:= .dict #[]}) scope.names).get? b=some o:=λb o e=>pushCells_keeps _ _ _ _ (get?_push_of_some _ e);have hL:zo.locals=s.heap.objs.size:=by rw[<- hcenv];rfl
 have hcl:zo.cells=cellsFrom (s.heap.objs.size+1) scope.names (bI X.env.cells scope.names []):=by rw[<- hcenv];rfl
 have hsc:zo.scope=relS scope X.env.scope:=by rw[<- hcenv];rfl
 rw[<- size_push s.heap {cls:= .type "dict",data:= .dict #[]}]at hcl;have cm:∀{y c},(y,c)∈bI X.env.cells scope.names []->X.env.cells.lookup y=some c/\c<s.heap.objs.size:=λ{y c} hm=>by
  rcases hJ hm with hm|⟨h1,rfl⟩
  ·cases hm
  obtain⟨c,hc⟩:=hfree _ h1 rfl;rw[hc];obtain⟨w,z⟩:=I.cell _ _ hc;exact⟨rfl,z.lt⟩
 have mem:∀{y c},zo.cells.lookup y=some c->(X.env.cells.lookup y=some c/\c<s.heap.objs.size)\/(s.heap.objs.size+1<=c/\mP (pushCells (s.heap.push {cls:= .type "dict",data:= .dict #[]}) scope.names) c none):=λ{y c} e=>by
  rw[hcl]at e;rcases fP (PySem.mem_of_lookup e)with hm|⟨_,h2,h3⟩
  ·exact .inl (cm hm)
  rw[size_push]at h2;exact .inr ⟨h2,h3⟩
 have look:∀{y},scope.names.lookup y=some .free->∃c,zo.cells.lookup y=some c/\X.env.cells.lookup y=some c:=λ{y} hl=>by
  have hy:(y,NameKind.free)∈scope.names:=PySem.mem_of_lookup hl;obtain⟨c',e'⟩:=jI (hU (names:=scope.names) (n:=(s.heap.push {cls:= .type "dict",data:= .dict #[]}).objs.size) (jK (cells:=X.env.cells) (zx:=[]) hy));rw[<- hcl]at e';refine⟨c',e',?_⟩;rw[hcl]at e';rcases fP (PySem.mem_of_lookup e')with hm|⟨h1,_,_⟩
  ·exact(cm hm).1
  have:=ok.uniq _ h1;rw[hl]at this;cases this
 have okB:(X.blk s H scope zo fp).Ok:=by
  refine⟨I.ok.mod,by show zo.scope.kind=_;rw[hsc];exact ok.kind,by show zo.globals=_;rw[<- hcenv];exact I.ok.glob,by show zo.builtins=_;rw[<- hcenv];exact I.ok.blt,by show s.heap.objs.size<=zo.locals;rw[hL];exact Nat.le_refl _,
   λy z c e1 e2=>?_,λy hy=>?_,λy c z e=>?_,I.ok.hd,I.ok.frames,.inl rfl,λb hb=>⟨?_,λy c e z=>?_⟩,I.bs,Nat.le_trans I.ok.bsz I.sz,λb o e hb=>?_,λb hb z=>?_,I.stack,I.stkFree⟩
  ·have e1:zo.cells.lookup y=some c:=e1
   have e2:zo.cells.lookup z=some c:=e2;rw[hcl]at e1 e2;refine jM (λp hp=>?_) (λy z c a b=>I.ok.inj y z c (cm a).1 (cm b).1) (PySem.mem_of_lookup e1) (PySem.mem_of_lookup e2);rw[size_push];exact Nat.lt_succ_of_lt (cm (y:=p.1) (c:=p.2) hp).2
  ·show ∃c,zo.cells.lookup y=some c
   have key:∀k,zo.kindOf y=some k->(k=.cell\/k=.free)->∃c,zo.cells.lookup y=some c:=λk hk hk'=>by
    unfold Env.kindOf at hk;rw[hsc]at hk;obtain⟨k',e,r⟩:=jN hk;have:k'=.cell\/k'=.free:=by
     rcases r with rfl|⟨rfl,_⟩
     ·exact hk'
     exact .inr rfl
    rcases this with rfl|rfl
    ·obtain⟨c,hm⟩:=jL (n:=(s.heap.push {cls:= .type "dict",data:= .dict #[]}).objs.size) (zx:=bI X.env.cells scope.names []) (PySem.mem_of_lookup e)
     obtain⟨c',e'⟩:=jI hm;exact⟨c',by rw[hcl];exact e'⟩
    obtain⟨c,h1,_⟩:=look e;exact⟨c,h1⟩
   rcases hy with hy|hy
   ·exact key _ hy (.inl rfl)
   exact key _ hy (.inr rfl)
  ·have z:(scope.names.lookup y==some NameKind.cell)=true:=z
   have z:scope.names.lookup y=some .cell:=by simpa using z
   have e:zo.cells.lookup y=some c:=e;rw[hcl]at e;rcases fP (PySem.mem_of_lookup e)with hm|⟨_,h2,_⟩
   ·rcases hJ hm with hm|⟨h1,_⟩
    ·cases hm
    have q:=ok.uniq _ h1;rw[z]at q;cases q
   rw[size_push]at h2;exact le_of_succ_le h2
  ·show b≠zo.locals
   rw[hL];exact Nat.ne_of_lt (hfp b hb).2
  ·have e:zo.cells.lookup y=some c:=e
   rcases mem e with⟨h1,_⟩|⟨h1,_⟩
   ·exact(hfp b hb).1.2.2.2.2.1 y c h1 z
   have h2:s.heap.objs.size+1<=b:=by rw[<- z];exact h1
   exact absurd (Nat.lt_of_lt_of_le (hfp b hb).2 (le_of_succ_le h2)) (Nat.lt_irrefl _)
  ·rcases(hfp b hb).1.2.2.2.1 with z|z
   ·exact I.ok.noex b o e z
   exact absurd (Nat.lt_of_lt_of_le (lt_size e) (Nat.le_trans I.ok.bsz z)) (Nat.lt_irrefl _)
  rcases mem_cons.mp (I.stkSub b z)with z|z
  ·exact(hfp b hb).1.2.1 z
  exact(hfp b hb).1.2.2.1 z
 refine⟨okB,rfl,I.bare,Un.kept kp,⟨λ_=>none,?_,λi y av e1 e2 e3=>?_⟩,λy c e=>?_,?_,λy c e=>?_,λp hp=>?_,I.hok.kept kp,by rw[jO];exact I.len⟩
 ·show Heap.Ns _ zo.locals _
  rw[hL];exact Heap.Ns.keeps (Heap.Ns.new ..) λb o e=>pushCells_keeps _ _ _ _ e
 ·obtain⟨e2,hne⟩:=jP e2
  have hfr:scope.names.lookup y=some .free/\(zo.kindOf y=some .cell\/zo.kindOf y=some .free):=by
   have key:∀k,zo.scope.names.lookup y=some k->k=.local\/k=.cell\/k=.free->scope.names.lookup y=some .free/\(zo.kindOf y=some .cell\/zo.kindOf y=some .free):=λk hk hk'=>by
    have hk0:=hk;rw[hsc]at hk;obtain⟨k',e,r⟩:=jN hk;have no:¬(k'=.local\/k'=.cell):=λhh=>by
     rcases ok.own _ (PySem.mem_of_lookup e) hh with e'|e'
     ·obtain⟨p,hp,hpy⟩:=mem_map.mp e'
      have e3:=ok.ix p hp;have:p.1=y:=hpy;rw[this]at e3;exact hne (mem_map.mpr ⟨p,hp,ju hN e3 e1⟩)
     exact e' (mem_of_getElem? e1)
    rcases r with rfl|⟨rfl,rfl⟩
    ·rcases hk' with rfl|rfl|rfl
     ·exact absurd (.inl rfl) no
     ·exact absurd (.inr rfl) no
     exact⟨e,.inr hk0⟩
    exact⟨e,.inl hk0⟩
   have e3:Vis zo.scope y:=e3;rcases e3 with e3|e3|e3
   ·exact key _ e3 (.inl rfl)
   ·exact key _ e3 (.inr (.inl rfl))
   exact key _ e3 (.inr (.inr rfl))
  obtain⟨m,hn,hl⟩:=I.loc;have hvis:Vis X.env.scope y:=(ok.free _ (PySem.mem_of_lookup hfr.1) rfl).elim (λk=>.inr (.inl k)) (λk=>.inr (.inr k));obtain⟨w,r,q⟩:=hl i y av e1 e2 hvis;refine⟨w,r,.inr ⟨hfr.2,?_⟩⟩;obtain⟨c,h1,h2⟩:=look hfr.1;rcases q with⟨k,_⟩|⟨_,c',e',z⟩
  ·have k:X.env.scope.names.lookup y=some .local:=k
   rcases ok.free _ (PySem.mem_of_lookup hfr.1) rfl with k'|k'<;>rw[show X.env.scope.names.lookup y=_ from k']at k<;>cases k
  rw[h2]at e';cases e';exact⟨c,h1,z.keeps kp⟩
 ·have e:zo.cells.lookup y=some c:=e
  rcases mem e with⟨h1,_⟩|⟨_,z⟩
  ·obtain⟨w,z⟩:=I.cell y c h1
   exact⟨w,z.keeps kp⟩
  exact⟨_,z⟩
 ·show H zo.locals=none
  rw[hL];exact I.hok.fresh (Nat.le_refl _)
 ·have e:zo.cells.lookup y=some c:=e
  rcases mem e with⟨h1,_⟩|⟨h1,_⟩
  ·exact I.freeC y c h1
  exact I.hok.fresh (le_of_succ_le h1)
 exact absurd (show p∈([]:zP)++[]from hp) (by simp)
theorem uk{E:zQ}{D:Addr}{xs:List V}{y:V}{v:Value}{Q:zQ}(I:Inv X zz σ H s)(hD:H D=some (.lst xs))(hz:xs.length<sizeLine)(r:RelV y v)
  (h:∀s',Inv X zz σ (upd H D (.lst (xs++[y]))) s'->Q .none s'):wpAny (model X.prog X.w) X.A (call (.builtin "list.append") [.ref D,v]) Q E s:=by
 refine x_01 (I.hok D _ hD) λhz' zz0=>?_;refine x_21 zz0 λzw n ri e=>?_;have hl:=ri.length;refine append_at (hsz:=by rw[size_toArray];omega) e λh' sb ho'=>?_;refine h {s with heap:=h' } (I.write (t':=s.toks) (by rw[hD];trivial) (.inl rfl) (λb u hb q=>(sb.2 b hb).trans q) ⟨_,ho'⟩ ⟨by rw[length_append];exact hz,zw++[v],n+1,ri.append (.cons r .nil),?_⟩);rw[ho'];simp
def PTs(X:Cx)(ifs:List Expr)(t:TT):Prop:=
 ∀(zz:zP) (s:Shared) (σ:St) (H:Hp) (Q:Bool->Hp->Prop),Inv X zz σ H s->t σ H Q ->
  wpAny (model X.prog X.w) X.A (forIn ifs true λc r=>if r=true then do let ok <- isTrue c X.env (eval c X.env);pure (ForInStep.yield ok)else pure (ForInStep.yield r)) (TP X zz σ Q) X.xe s
def tYes:TT:=λ_ H Q=>Q true H
theorem fQ:PTs X [] tYes:=λ_ _ _ H _ I h=>wpAny_tests_nil ⟨H,I,h⟩
end
theorem thnF{α:Type}{t:Sem α}{Q Q':α->Shared->Prop}{M:Model}{A:Around}{E:zQ}{s:Shared}(h:wpAny M A t Q (λ_ _=>False) s)(hQ:∀a s,Q a s->Q' a s):wpAny M A t Q' E s:=wpAny_mono h hQ λ_ _ z=>False.elim z
theorem um{prog:Program}{w:World}{A:Around}{R:Result->Shared->Prop}{s:Shared}{elt target iter:Expr}{ifs:List Expr}{scope:Scope}{pos:Pos}{it zx:Value}{env:Env}(I:Nat->Shared->Prop)
  (turn:∀n s,I n s->wpAny (model prog w) A (pyNext it) (λr s₁=>match r with
   |none=>R (.ok .next) s₁
   |some v=>wpAny (model prog w) A (letOwnedTupleGo target it v) (λ_ s₁'=>wpAny (model prog w) A (assign target env v) (λ_ s₂ =>
    wpAny (model prog w) A (forIn ifs true λc r=>if r=true then do let ok <- isTrue c env (eval c env);pure (ForInStep.yield ok)else pure (ForInStep.yield r)) (λok s₃ =>
     if ok=true then wpAny (model prog w) A (eval elt env) (λx s₄ =>
      wpAny (model prog w) A (call (.builtin "list.append") [zx,x]) (λ_ s₅=>∃m,m<n/\I m s₅) (notedBy (model prog w) A env λe s'=>R (.error e) s') s₄) (notedBy (model prog w) A env λe s'=>R (.error e) s') s₃
     else ∃m,m<n/\I m s₃) (notedBy (model prog w) A env λe s'=>R (.error e) s') s₂) (notedBy (model prog w) A env λe s'=>R (.error e) s') s₁') (notedBy (model prog w) A env λe s'=>R (.error e) s') s₁) (notedBy (model prog w) A env λe s'=>R (.error e) s') s)
  (n:Nat)(h:I n s) :
  codeAny (model prog w) A (.compLoop (.ListComp elt [⟨target,iter,ifs,0⟩] scope pos) 0 it zx env) R s:=by
 refine codeAny_loop rfl I (λn s hI=>?_) n h;show wpAny _ A ((compTurn (.ListComp elt [⟨target,iter,ifs,0⟩] scope pos) 0 it zx env).onRaise (λx=>do noteFrame x env;theTreesLotGoes x)) _ _ s;refine wpAny_noted ?_;rw[compTurn_list];refine wpAny_bind (wpAny_standAt (wpAny_bind (wpAny_mono (turn n s hI) (λr s₁ h₁=>?_) λ_ _ h'=>h')));cases r with
 |none=>exact wpAny_pure h₁
 |some v =>
 refine wpAny_bind (wpAny_mono h₁ (λ_ s₁' h₁'=>?_) λ_ _ h'=>h');refine wpAny_bind (wpAny_mono h₁' (λ_ s₂ h₂=>wpAny_bind (wpAny_mono h₂ (λok s₃ h₃=>?_) λ_ _ h'=>h')) λ_ _ h'=>h');cases ok with
 |false=>exact wpAny_pure ⟨rfl,h₃⟩
 |true =>
 exact wpAny_bind (wpAny_bind (wpAny_mono h₃ (λx s₄ h₄=>wpAny_bind (wpAny_mono h₄ (λ_ s₅ h₅=>wpAny_pure (wpAny_pure ⟨rfl,h₅⟩)) λ_ _ h'=>h')) λ_ _ h'=>h'))
section
variable{X:Cx}
def tLc(wi:TI)(g:TG)(tt:TT)(te:TE)(vs:List Nat):TE:=λσ H Q=>wi σ H λJ H1=>∀D,H1 D=none->∃W:Nat->Nat->Hp->Prop,(∃m,W 0 m (upd H1 D (.lst [])))/\∀i m H,W i m H ->
 (J.stop i H/\Q (.ref D) H)\/(J.go i H/\∃Nx:Hp->Prop,(∀H',Nx H'->∃m',m'<m/\W (i+1) m' H')/\∀x H',J.yld i H x H'->g x (wipe σ vs) H' λσ2 H2=>wipe σ2 vs=wipe σ vs/\tt σ2 H2 λb H3 =>
  if b=true then te σ2 H3 λy H4=>∃zx,H4 D=some (.lst zx)/\zx.length<sizeLine/\Nx (upd H4 D (.lst (zx++[y])))else Nx H3)
theorem uo{zz:zP}{s:Shared}{σ:St}{H:Hp}{Q:VK}{elt tg iter:Expr}{ifs:List Expr}{scope:Scope}{own:List (Str×Nat)}{pos pos':Pos}{wi:TI}{g:TG}{tt:TT}{te:TE}{use:Option (Value->Sem Unit)}{Qf:zQ}
  (hc:X.calm=true)(hN:X.N.Nodup)(I:Inv X zz σ H s)(hi:PI X tg iter wi)(ok:BlkOk X.N X.env.scope scope own)
  (hg:∀(s:Shared) (H:Hp) (C:Addr) (cl:List (Str×Addr)) (fp:List Addr),PG (X.blk s H scope (compEnvC scope cl C X.env) fp) tg g)(ht:∀(s:Shared) (H:Hp) (C:Addr) (cl:List (Str×Addr)) (fp:List Addr),PTs (X.blk s H scope (compEnvC scope cl C X.env) fp) ifs tt)
  (he:∀(s:Shared) (H:Hp) (C:Addr) (cl:List (Str×Addr)) (fp:List Addr),PE (X.blk s H scope (compEnvC scope cl C X.env) fp) elt te)(hs:∀x,foldedSetIterable iter X.env x=pure x)
  (h:tLc wi g tt te (own.map (·.2)) σ H Q)
  (hRR:∀D C s' m H',Inv X zz σ H' s'->Q (.ref D) H'->s'.heap.Ns C m->FpOk X zz H' C->compPost (model X.prog X.w) X.A X.xe use Qf (.ref D) C (.ok .next) s') :
  wpAny (model X.prog X.w) X.A (comprehension (.ListComp elt [⟨tg,iter,ifs,0⟩] scope pos) scope X.env pos' (newList []) false (eval iter X.env) use) Qf X.xe s:=by
 have hfree:∀y∈scope.names,y.2=.free->∃c,X.env.cells.lookup y.1=some c:=λy hy e=>by
  rcases ok.free y hy e with k|k
  ·exact I.ok.has _ (.inl k)
  exact I.ok.has _ (.inr k)
 refine wpAny_comprehension_free (use:=use) rfl hs (uh hfree) ok.kind (λy hy e=>by rw[ok.uniq y hy,e])
  (thn (hi zz s σ H _ I h) λxv s1 hx=>thn hx λitv s2 h2=>?_)
 refine x_50 h2 λit fp tn J H2 zy=>x_05 zy λe I2 T st2 f2 q=>?_;subst e;refine wpAny_newObj_type (ui ?_) (by show 0<=sizeLine;decide);generalize hD:s2.heap.objs.size=D;have hDn:H2 D=none:=I2.hok.fresh (Nat.le_of_eq hD);obtain⟨W,⟨m0,w0⟩,turn⟩:=q D hDn;generalize hs3:({s2 with heap:=s2.heap.push {cls:= .type "list",data:= .seq ([]:List Value).toArray}}:Shared)=s3;have I3:Inv X zz σ (upd H2 D (.lst [])) s3:=by
  rw[<- hs3];refine I2.laid (t':=s2.toks) (λb o e=>get?_push_of_some _ e) (Nat.le_of_eq hD) ⟨zero_le _,[],0,.nil,?_⟩;rw[<- hD];exact get?_push_size _ rfl
 have h3:s3.heap=s2.heap.push {cls:= .type "list",data:= .seq ([]:List Value).toArray}:=by rw[<- hs3]
 have sz:∀b∈fp,b<s2.heap.objs.size:=λb hb=>by
  obtain⟨o,e,_⟩:=T.obj _ _ st2 b hb;exact lt_size e
 have f3:∀b∈fp,FpOk X zz (upd H2 D (.lst [])) b/\b<s3.heap.objs.size:=λb hb=>by
  have hlt:=sz b hb;refine⟨⟨?_,(f2 b hb).2⟩,by rw[h3,size_push];exact Nat.lt_succ_of_lt hlt⟩;rw[ao (by rw[<- hD];exact Nat.ne_of_lt hlt)];exact(f2 b hb).1
 have st3:tn 0 s3.heap:=T.keep _ _ _ st2 λb _ o e=>by rw[h3];exact get?_push_of_some _ e
 have I4:=uj I3 ok hN f3;have pg:=hg s3 (upd H2 D (.lst [])) s3.heap.objs.size (cellsFrom (s3.heap.objs.size+1) scope.names (bI X.env.cells scope.names [])) fp;have pt:=ht s3 (upd H2 D (.lst [])) s3.heap.objs.size (cellsFrom (s3.heap.objs.size+1) scope.names (bI X.env.cells scope.names [])) fp;have pe:=he s3 (upd H2 D (.lst [])) s3.heap.objs.size (cellsFrom (s3.heap.objs.size+1) scope.names (bI X.env.cells scope.names [])) fp;show codeAny _ _ (.compStart (.ListComp elt [⟨tg,iter,ifs,0⟩] scope pos) 0 (.ref it) (.ref D) (compEnvC scope (cellsFrom (s3.heap.objs.size+1) scope.names (bI X.env.cells scope.names [])) s3.heap.objs.size X.env)) (compPost (model X.prog X.w) X.A X.xe use Qf (.ref D) s3.heap.objs.size) {s3 with heap:=pushCells (s3.heap.push {cls:= .type "dict",data:= .dict #[]}) scope.names};have nfp:∀b∈fp,(upd H2 D (.lst [])) b=none:=λb hb=>(f3 b hb).1.1;generalize hce:compEnvC scope (cellsFrom (s3.heap.objs.size+1) scope.names (bI X.env.cells scope.names [])) s3.heap.objs.size X.env=ce at I4 pg pt pe ⊢;have cL:ce.locals=s3.heap.objs.size:=by subst hce;rfl
 generalize hH3:upd H2 D (.lst [])=H3 at I3 I4 pg pt pe w0 nfp f3;generalize hs4:({s3 with heap:=pushCells (s3.heap.push {cls:= .type "dict",data:= .dict #[]}) scope.names}:Shared)=s4 at I4 ⊢;have st4:tn 0 s4.heap:=T.keep _ _ _ st3 λb _ o e=>by rw[<- hs4];exact pushCells_keeps _ _ _ _ (get?_push_of_some _ e)
 have stat:∀{σ':St}{H':Hp}{s':Shared},Inv (X.blk s3 H3 scope ce fp) [] σ' H' s'->(∀b∈fp,H' b=none)->∀b∈fp,FpOk (X.blk s3 H3 scope ce fp) [] H' b:=λ{σ' H' s'} I' hn b hb =>
  ⟨hn b hb,(I'.ok.exf b hb).1,I'.ok.exfs b hb,.inl hb,λx c e=>(I'.ok.exf b hb).2 x c e,λp hp=>absurd (show p∈([]:zP)++[]from hp) (by simp)⟩
 have loop:codeAny (model X.prog X.w) X.A (.compLoop (.ListComp elt [⟨tg,iter,ifs,0⟩] scope pos) 0 (.ref it) (.ref D) ce) (compPost (model X.prog X.w) X.A X.xe use Qf (.ref D) s3.heap.objs.size) s4:=by
  refine um (λn s'=>∃i H',Inv (X.blk s3 H3 scope ce fp) [] (wipe σ (own.map (·.2))) H' s'/\tn i s'.heap/\(∀b∈fp,H' b=none)/\W i n H') ?_ m0 ⟨0,H3,I4,st4,nfp,w0⟩
  rintro n s5 ⟨i,H5,I5,st5,n5,w5⟩
  rcases turn i n H5 w5 with⟨stop,qq⟩|⟨go,Nx,hNx,step⟩
  ·have td:=T.done (X.blk s3 H3 scope ce fp) rfl rfl rfl hc i [] s5 _ H5 (λ_ _=>False) I5 (stat I5 n5) st5 stop
   refine thnF td λr s6 ⟨hr,I6⟩=>?_;subst hr;have I7:Inv X zz σ H5 s6:=I3.call' (ch:=fp) I6.os I6.base I6.hok I6.bare λb hb=>⟨(f3 b hb).1.2.2.2.1,(f3 b hb).1.2.1,(f3 b hb).1.2.2.2.2.1,(f3 b hb).1.2.2.2.2.2⟩;have nC:H5 s3.heap.objs.size=none:=by
    have z:H5 ce.locals=none:=I6.free;rw[cL]at z;exact z
   obtain⟨m,hn,_⟩:=I6.loc;have hn:s6.heap.Ns ce.locals m:=hn;rw[cL]at hn;exact hRR D s3.heap.objs.size s6 m H5 I7 qq hn (I3.fpOk (Nat.le_refl _) nC)
  have ti:=T.item (X.blk s3 H3 scope ce fp) rfl rfl rfl hc i [] s5 _ H5 (λ_ _=>False) I5 (stat I5 n5) st5 go;refine thnF ti λr s6 ⟨u,hr,h6⟩=>?_;subst hr;refine thnF h6 λ_ s7 zq=>?_;refine x_24 zq λx H7 I7 r7 y7 st7 n7=>?_;have I7':=I7.pinned (stat I7 n7) (T.obj _ _ st7);refine thnF (pg _ s7 _ H7 x u _ I7' r7 (step x H7 y7)) λ_ s8 zq=>?_;refine x_22 zq λσ8 H8 I8 hw8 q8=>?_;refine thnF (pt _ s8 σ8 H8 _ I8 q8) λb s9 ⟨H9,I9,q9⟩=>?_;have fin:∀{s':Shared}{H':Hp},Inv (X.blk s3 H3 scope ce fp) ([]++eT fp s7.heap) σ8 H' s'->Nx H'->∃m,m<n/\∃i H',Inv (X.blk s3 H3 scope ce fp) [] (wipe σ (own.map (·.2))) H' s'/\tn i s'.heap/\(∀b∈fp,H' b=none)/\W i m H':=λ{s' H'} I' nx=>by
   obtain⟨m',hm,w'⟩:=hNx H' nx;have pin':∀b∈fp,∀o,s7.heap.get? b=some o->s'.heap.get? b=some o/\H' b=none:=λb hb o e =>
    let z:=I'.pin (b,o) (mem_append_right _ (mem_append_right _ (fK hb e)))
    ⟨z.1,z.2.1⟩
   have hl:(wipe σ (own.map (·.2))).length=σ8.length:=by rw[<- hw8,jO]
   refine⟨m',hm,i+1,H',(I'.unpinned (zz:=[])).weak hl (λj v e=>?_),T.keep _ _ _ st7 λb hb o e=>(pin' b hb o e).1,λb hb=>?_,w'⟩
   ·rw[<- hw8]at e
    exact(jP e).1
   obtain⟨o,e,_⟩:=T.obj _ _ st7 b hb;exact(pin' b hb o e).2
  cases b with
  |false =>
   simp only[false_eq_true,if_false]at q9 ⊢;exact fin I9 q9
  |true =>
  simp only[if_true]at q9 ⊢;refine thnF (pe _ s9 σ8 H9 _ I9 q9) λz s10 zq=>?_;refine x_22 zq λyv H10 I10 r10 zz0=>?_;refine x_12 zz0 λzx hD10 hz10 nx=>?_;exact uk (X:=X.blk s3 H3 scope ce fp) I10 hD10 hz10 r10 λs11 I11=>fin I11 nx
 exact codeAny_compStart_list loop (T.self X.A 0 _ _ _ st4 loop)
theorem fR{elt tg iter:Expr}{ifs:List Expr}{scope:Scope}{own:List (Str×Nat)}{pos:Pos}{wi:TI}{g:TG}{tt:TT}{te:TE}(hc:X.calm=true)(hN:X.N.Nodup)(hi:PI X tg iter wi)(ok:BlkOk X.N X.env.scope scope own)
  (hg:∀(s:Shared) (H:Hp) (C:Addr) (cl:List (Str×Addr)) (fp:List Addr),PG (X.blk s H scope (compEnvC scope cl C X.env) fp) tg g)(ht:∀(s:Shared) (H:Hp) (C:Addr) (cl:List (Str×Addr)) (fp:List Addr),PTs (X.blk s H scope (compEnvC scope cl C X.env) fp) ifs tt)
  (he:∀(s:Shared) (H:Hp) (C:Addr) (cl:List (Str×Addr)) (fp:List Addr),PE (X.blk s H scope (compEnvC scope cl C X.env) fp) elt te)(hs:∀x,foldedSetIterable iter X.env x=pure x:=by intro _;rfl) :
  PE X (.ListComp elt [⟨tg,iter,ifs,0⟩] scope pos) (tLc wi g tt te (own.map (·.2))):=by
 intro zz s σ H Q I h;rw[eval_ListComp];refine uo hc hN I hi ok hg ht he hs h λD C s' m H' I' q hn f=>⟨m,hn,λh'' sb=>?_⟩;obtain⟨f0,f1,f2,f3,f4,f5⟩:=f;exact⟨.ref D,H',I'.turned (t':=s'.toks) (λb o hb e=>(sb.2 b hb).trans e) f0 f1 f3 f4 f5,rfl,q⟩
end
def blkC(N:List Str)(sc scope:Scope)(own:List (Str×Nat)):Bool:=
 (match scope.kind with|.function=>true|_=>false)&&(scope.names.all λy=>decide (scope.names.lookup y.1=some y.2))&&(own.all λp=>decide (N[p.2]? = some p.1)) &&
  (scope.names.all λy=>match y.2 with
   |.free=>(match sc.names.lookup y.1 with|some .cell=>true|some .free=>true|_=>false)
   |.local=>decide (y.1∈own.map (·.1))||decide (y.1∉N)
   |.cell=>decide (y.1∈own.map (·.1))||decide (y.1∉N)
   |_=>true)
theorem fS{N:List Str}{sc scope:Scope}{own:List (Str×Nat)}(h:blkC N sc scope own=true):BlkOk N sc scope own:=by
 unfold blkC at h;simp only[and_eq_true,all_eq_true,decide_eq_true_eq]at h;obtain⟨⟨⟨h1,h2⟩,h3⟩,h4⟩:=h;refine⟨?_,h2,h3,λy hy e=>?_,λy hy e=>?_⟩
 ·split at h1
  ·assumption
  cases h1
 ·have q:=h4 y hy
  simp only[e]at q;split at q<;>first|exact .inl (by assumption)|exact .inr (by assumption)|cases q
 have q:=h4 y hy;rcases e with e|e<;>(simp only[e,or_eq_true,decide_eq_true_eq]at q;exact q)
section
variable{κ:Type}[DecidableEq κ]
def valV(zu:List (κ×V))(k:κ):Option V:=(zu.find? λkv=>decide (kv.1=k)).map (·.2)
noncomputable def putK(zu:List (κ×V))(k:κ)(v:V):List (κ×V):=
 if(zu.any λkv=>decide (kv.1=k))=true then zu.map (λkv=>if kv.1=k then(kv.1,v)else kv)else zu++[(k,v)]
theorem cF{p:κ×V}{r:List (κ×V)}{k:κ}(e:p.1=k):valV (p::r) k=some p.2:=by simp[valV,find?_cons,e]
theorem cG{p:κ×V}{r:List (κ×V)}{k:κ}(e:¬p.1=k):valV (p::r) k=valV r k:=by simp[valV,find?_cons,e]
theorem hW(k:κ):∀zu:List (κ×V),(zu.any λkv=>decide (kv.1=k))=(valV zu k).isSome
 |[]=>rfl
 |p::r=>by
  rw[any_cons];by_cases e:p.1=k
  ·simp only[cF e,decide_eq_true e,Bool.true_or,Option.isSome_some]
  rw[cG e,decide_eq_false e,Bool.false_or];exact hW k r
theorem mR(k j:κ)(y:V):∀zu:List (κ×V),valV (zu.map λkv=>if kv.1=k then(kv.1,y)else kv) j=(valV zu j).map λx=>if j=k then y else x
 |[]=>rfl
 |p::r=>by
  have ih:=mR k j y r;rw[map_cons];by_cases h:p.1=k
  ·rw[if_pos h]
   by_cases e:p.1=j
   ·rw[cF (p:=(p.1,y)) e,cF e,map_some,if_pos (e.symm.trans h)]
   rw[cG (p:=(p.1,y)) e,cG e,ih]
  rw[if_neg h];by_cases e:p.1=j
  ·rw[cF (p:=p) e,cF e,map_some,if_neg (λz=>h (e.trans z))]
  rw[cG (p:=p) e,cG e,ih]
theorem mS(k j:κ)(y:V):∀zu:List (κ×V),valV zu k=none->valV (zu++[(k,y)]) j=if j=k then some y else valV zu j
 |[],_=>by
  by_cases e:k=j
  ·rw[if_pos e.symm];exact cF (p:=(k,y)) e
  rw[if_neg (λz=>e z.symm)];exact cG (p:=(k,y)) e
 |p::r,hn=>by
  rw[cons_append];have hk:¬p.1=k:=λz=>by rw[cF z]at hn;cases hn
  rw[cG hk]at hn;have ih:=mS k j y r hn;by_cases e:p.1=j
  ·rw[cF e,cF e,if_neg (λz=>hk (e.trans z))]
  rw[cG e,cG e,ih]
theorem uq(zu:List (κ×V))(k j:κ)(y:V):valV (putK zu k y) j=if j=k then some y else valV zu j:=by
 unfold putK;by_cases a:(zu.any λkv=>decide (kv.1=k))=true
 ·rw[if_pos a,mR]
  rw[hW]at a;by_cases e:j=k
  ·obtain⟨x,hx⟩:=Option.isSome_iff_exists.mp a
   rw[if_pos e,e,hx,map_some,if_pos rfl]
  rw[if_neg e];cases valV zu j with
  |none=>rfl
  |some x=>rw[map_some,if_neg e]
 rw[if_neg a];refine mS k j y zu ?_;rw[hW]at a;cases q:valV zu k with
 |none=>rfl
 |some x=>rw[q]at a;exact(a rfl).elim
theorem mT(zu:List (κ×V))(k:κ)(v:V):(putK zu k v).length<=zu.length+1:=by
 unfold putK;split
 ·rw[length_map];omega
 rw[length_append,length_cons,length_nil];omega
theorem RelO.isSome_eq{o:Option V}{u:Option Value}(r:RelO o u):o.isSome=u.isSome:=by
 cases o with
 |none=>cases u with
  |none=>rfl
  |some _=>exact(show False from r).elim
 |some _=>cases u with
  |none=>exact(show False from r).elim
  |some _=>rfl
theorem RelO.getD{o:Option V}{u:Option Value}{d:V}{d':Value}(r:RelO o u)(rd:RelV d d'):RelV (o.getD d) (u.getD d'):=by
 cases o with
 |none=>cases u with
  |none=>exact rd
  |some _=>exact(show False from r).elim
 |some _=>cases u with
  |none=>exact(show False from r).elim
  |some _=>exact r
theorem KV.val{zu:List (κ×V)}{vs:List (κ×Value)}(r:KV zu vs)(k:κ):RelO (valV zu k) (valueAt vs k):=by
 unfold KV at r
 induction r with
 |nil=>exact True.intro
 |@cons p q ps qs h t ih =>
 obtain⟨h1,h2⟩:=h;by_cases e:p.1=k
 ·have e':q.1=k:=h1.symm.trans e
  have b:valueAt (q::qs) k=some q.2:=by simp[valueAt,find?_cons,e']
  rw[cF e,b];exact h2
 have e':¬q.1=k:=λz=>e (h1.trans z);have b:valueAt (q::qs) k=valueAt qs k:=by simp[valueAt,find?_cons,e']
 rw[cG e,b];exact ih
theorem KV.any{zu:List (κ×V)}{vs:List (κ×Value)}(r:KV zu vs)(k:κ):(zu.any λkv=>decide (kv.1=k))=vs.any λkv=>decide (kv.1=k):=by
 unfold KV at r
 induction r with
 |nil=>rfl
 |cons h t ih=>rw[any_cons,any_cons,ih,h.1]
theorem KV.repl{zu:List (κ×V)}{vs:List (κ×Value)}(r:KV zu vs)(k:κ){y:V}{u:Value}(ry:RelV y u) :
  KV (zu.map λkv=>if kv.1=k then(kv.1,y)else kv) (vs.map λkv=>if kv.1=k then(kv.1,u)else kv):=by
 unfold KV at r ⊢
 induction r with
 |nil=>exact .nil
 |@cons p q ps qs h t ih =>
 rw[map_cons,map_cons];refine .cons ?_ ih;obtain⟨h1,h2⟩:=h;by_cases e:p.1=k
 ·rw[if_pos e,if_pos (h1.symm.trans e)];exact⟨h1,ry⟩
 rw[if_neg e,if_neg (λz=>e (h1.trans z))];exact⟨h1,h2⟩
theorem KV.put{zu:List (κ×V)}{vs:List (κ×Value)}(r:KV zu vs)(k:κ){y:V}{u:Value}(ry:RelV y u):KV (putK zu k y) (stored vs k u):=by
 unfold putK stored;rw[r.any k];by_cases e:(vs.any λkv=>decide (kv.1=k))=true
 ·rw[if_pos e,if_pos e];exact r.repl k ry
 rw[if_neg e,if_neg e];exact Paired.snoc r ⟨rfl,ry⟩
theorem KV.length{zu:List (κ×V)}{vs:List (κ×Value)}(r:KV zu vs):zu.length=vs.length:=Paired.length r
end
theorem fg{P:Program}{w:World}{k:Key}{u:Value}(r:RelV (kV k) u):(bE P w).is k u=true:=by
 cases k with
 |inl i=>obtain⟨t,e⟩:=(show ∃t,u=Value.int i t from r);subst e;exact sN P w i t
 |inr x=>obtain⟨t,e⟩:=(show ∃t,u=Value.str x t from r);subst e;exact lP P w x t
theorem mU{P:Program}{w:World}:∀{ks:List Key}{us:List Value},Vals (ks.map kV) us->ItemsAre (bE P w) ks us
 |[],_,r=>by rw[map_nil]at r;cases r;exact .nil
 |k::ks,_,r=>by
  rw[map_cons]at r;cases r with
  |cons h t=>exact .cons (fg h) (mU t)
abbrev KT(H:Hp):List (List Key×V)->List (List Key×Addr×Value)->Prop:=Paired λp q=>p.1=q.1/\H q.2.1=some (.tup (p.1.map kV))/\RelV p.2 q.2.2
theorem KT.val{H:Hp}{zu:List (List Key×V)}{xs:List (List Key×Addr×Value)}(r:KT H zu xs)(k:List Key):RelO (valV zu k) ((atKey xs k).map (·.2)):=by
 induction r with
 |nil=>exact True.intro
 |@cons p q ps qs h t ih =>
 obtain⟨h1,_,h2⟩:=h;by_cases e:p.1=k
 ·have e':q.1=k:=h1.symm.trans e
  have b:atKey (q::qs) k=some q.2:=by simp[atKey,find?_cons,e']
  rw[cF e,b];exact h2
 have e':¬q.1=k:=λz=>e (h1.trans z);have b:atKey (q::qs) k=atKey qs k:=by simp[atKey,find?_cons,e']
 rw[cG e,b];exact ih
theorem KT.repl{H:Hp}{zu:List (List Key×V)}{xs:List (List Key×Addr×Value)}(r:KT H zu xs)(k:List Key){y:V}{u:Value}(ry:RelV y u) :
  KT H (zu.map λkv=>if kv.1=k then(kv.1,y)else kv) (xs.map (putAt k u)):=by
 induction r with
 |nil=>exact .nil
 |@cons p q ps qs h t ih =>
 rw[map_cons,map_cons];refine .cons ?_ ih;obtain⟨h1,h2,h3⟩:=h;unfold putAt;by_cases e:p.1=k
 ·rw[if_pos e,if_pos (h1.symm.trans e)];exact⟨h1,h2,ry⟩
 rw[if_neg e,if_neg (λz=>e (h1.trans z))];exact⟨h1,h2,h3⟩
theorem KT.put{H:Hp}{zu:List (List Key×V)}{xs:List (List Key×Addr×Value)}(r:KT H zu xs)(k:List Key){b:Addr}{y:V}{u:Value}(hb:H b=some (.tup (k.map kV)))(ry:RelV y u) :
  KT H (putK zu k y) (storedH xs k b u):=by
 have e:(zu.any λkv=>decide (kv.1=k))=(atKey xs k).isSome:=by
  rw[hW,(r.val k).isSome_eq,Option.isSome_map]
 unfold putK storedH;rw[e];by_cases q:(atKey xs k).isSome=true
 ·rw[if_pos q,if_pos q];exact r.repl k ry
 rw[if_neg q,if_neg q];exact Paired.snoc r ⟨rfl,hb,ry⟩
theorem KT.keeps{H H':Hp}{zu:List (List Key×V)}{xs:List (List Key×Addr×Value)}(r:KT H zu xs)(ht:∀b ys,H b=some (.tup ys)->H' b=some (.tup ys)):KT H' zu xs:=
 Paired.mapP r λ_ _ z=>⟨z.1,ht _ _ z.2.1,z.2.2⟩
section
variable{P:Program}{w:World}{H:Hp}{h:Heap}{a:Addr}
theorem mV{u:HO}(ok:HOk P w H h)(e:Rd H a u):aO P w H h a u:=e.ok ok
theorem hZ{zu:List (Key×V)}(ok:HOk P w H h)(e:Rd H a (.dK zu)):zu.length<=sizeLine/\(a==sysModules)=false/\∃vs,KV zu vs/\h.DictOf (bE P w) a vs:=
 show aO P w H h a (.dK zu)from mV ok e
theorem mW{zu:List (Key×V)}(ok:HOk P w H h)(e:H a=some (.dK zu)):zu.length<=sizeLine/\(a==sysModules)=false/\∃vs,KV zu vs/\h.DictOf (bE P w) a vs:=hZ ok (.inl e)
theorem jQ{ks:List Key}(ok:HOk P w H h)(e:H a=some (.tup (ks.map kV))):(tupleKind (bE P w)).is h ks a:=by
 obtain⟨_,zw,r,o,h1,h2,n,h3⟩:=(show aO P w H h a (.tup (ks.map kV))from ok a _ e);exact⟨o,zw.toArray,n,h1,h2,h3,by simpa using mU r⟩
theorem jR{zu:List (List Key×V)}(ok:HOk P w H h)(e:Rd H a (.dT zu)):zu.length<=sizeLine/\(a==sysModules)=false /\
  ∃xs,KT H zu xs/\h.DictOfH (tupleKind (bE P w)) a xs:=by
 refine x_02 ((show aO P w H h a (.dT zu)from mV ok e)) λz y zz0=>?_;refine x_11 zz0 λxs r zz1=>?_;refine x_34 zz1 λo es ep h1 h2 h3 h4 h5=>?_;refine⟨z,y,xs,r,o,es,ep,h1,h2,h3,h4,λx hx=>?_,h5⟩;have all:∀{l:List (List Key×V)}{m:List (List Key×Addr×Value)},KT H l m->∀x∈m,(tupleKind (bE P w)).is h x.1 x.2.1:=by
  intro l m q
  induction q with
  |nil=>intro x hx;exact nomatch hx
  |@cons p q ps qs hq t ih =>
  intro x hx;rcases mem_cons.mp hx with e|hx
  ·subst e
   exact jQ ok (by rw[<- hq.1];exact hq.2.1)
  exact ih x hx
 exact all r x hx
theorem ur{zu:List (List Key×V)}(ok:HOk P w H h)(e:H a=some (.dT zu)):zu.length<=sizeLine/\(a==sysModules)=false /\
  ∃xs,KT H zu xs/\h.DictOfH (tupleKind (bE P w)) a xs:=jR ok (.inl e)
end
def DGet(H:Hp)(a:Addr)(y:V)(r:Option V):Prop:=
 (∃zu k,Rd H a (.dK zu)/\y=kV k/\r=valV zu k)\/∃zu k b,Rd H a (.dT zu)/\y=.ref b/\H b=some (.tup (k.map kV))/\r=valV zu k
def DPut(H:Hp)(a:Addr)(y v:V)(H':Hp):Prop:=
 (∃zu k,H a=some (.dK zu)/\y=kV k/\zu.length<sizeLine/\H'=upd H a (.dK (putK zu k v))) \/
 ∃zu k b,H a=some (.dT zu)/\y=.ref b/\H b=some (.tup (k.map kV))/\zu.length<sizeLine/\H'=upd H a (.dT (putK zu k v))
theorem DGet.k{H:Hp}{a:Addr}{zu:List (Key×V)}{k:Key}(e:H a=some (.dK zu)):DGet H a (kV k) (valV zu k):= .inl ⟨zu,k,.inl e,rfl,rfl⟩
theorem DPut.k{H:Hp}{a:Addr}{zu:List (Key×V)}{k:Key}{v:V}(e:H a=some (.dK zu))(hl:zu.length<sizeLine):DPut H a (kV k) v (upd H a (.dK (putK zu k v))):= .inl ⟨zu,k,e,rfl,hl,rfl⟩
section
variable{X:Cx}{zz:zP}{σ:St}{H:Hp}{s:Shared}{a:Addr}{y v:V}{u r:Value}{A:Around}{E:zQ}
theorem Inv.big(I:Inv X zz σ H s):sysModules<s.heap.objs.size:=by
 have h:mainGlobals<s.heap.objs.size:=(I.mod.glob.keeps I.bk).lt;exact Nat.lt_trans (by decide) h
theorem mX{h':Heap}{t':Nat}{ob:HO}(I:Inv X zz σ H s)(mu:Mut (H a))(hs:Heap.SameBut a s.heap h')(he:∃q,h'.get? a=some q)(new:aO X.prog X.w (upd H a ob) h' a ob) :
  Inv X zz σ (upd H a ob) {s with heap:=h',toks:=t' }:=
 I.write (x:=a) (e:=a) mu (.inl rfl) (λb q hb z=>(hs.2 b hb).trans z) he new
theorem mY{P:Program}{w:World}{H':Hp}{h':Heap}{zu:List (Key×V)}{vs:List (Key×Value)}(z:zu.length<=sizeLine)(hd:(a==sysModules)=false)(rel:KV zu vs)(dd:h'.DictOf (bE P w) a vs) :
  aO P w H' h' a (.dK zu):=⟨z,hd,vs,rel,dd⟩
theorem uu{H':Hp}{Q:Unit->Shared->Prop}(hu:A.units+1<cLine)(I:Inv X zz σ H s)(g:DPut H a y v H')(ry:RelV y u)(rv:RelV v r)(h:∀s',Inv X zz σ H' s'->Q () s') :
  wpAny (model X.prog X.w) A (setItem (.ref a) u r) Q E s:=by
 rcases g with⟨zu,k,e,ey,l,eH⟩|⟨zu,k,b,e,ey,eb,l,eH⟩
 ·subst ey eH
  obtain⟨z,hd,vs,rel,dd⟩:=mW I.hok e;have hz:vs.length<=sizeLine:=by rw[<- rel.length];exact z
  have hl:(putK zu k v).length<=sizeLine:=by have:=mT zu k v;omega
  refine wpAny_setItem_pairs (hsz:=hz) (fg ry) dd λh' dd' hs=>h _ ?_;have he:∃q,h'.get? a=some q:=let⟨q,_,_,hq,_⟩:=dd';⟨q,hq⟩;exact mX I (by rw[e];exact True.intro) hs he (mY hl hd (rel.put k rv) dd')
 subst ey eH;cases(show u=Value.ref b from ry);obtain⟨z,hd,xs,rel,dd⟩:=ur I.hok e;have hz:xs.length<=sizeLine:=by rw[<- Paired.length rel];exact z
 have hl:(putK zu k v).length<=sizeLine:=by have:=mT zu k v;omega
 refine wpAny_setItem_heap (hsz:=hz) (tupleKind_room_in1 hu) (jQ I.hok eb) dd λh' dd' hs=>h _ ?_;refine x_30 dd' λq es ep zy=>x_05 zy λhq h2 h3 h4 _ h5=>?_;refine mX I (by rw[e];exact True.intro) hs ⟨q,hq⟩ ⟨hl,hd,_,(rel.put k eb rv).keeps λc ys ec=>?_,q,es,ep,hq,h2,h3,h4,h5⟩;rw[ao (aB ec e (λz=>nomatch z))];exact ec
end
def NoSl(i:Expr):Prop:=∀ov iv,subscripted i false ov iv=operate [ov,iv] (getItem ov iv)
theorem uv{prog:Program}{w:World}{A:Around}{E:zQ}{s:Shared}{env:Env}{value slice:Expr}{pos:Pos}{T id:String}{Q:zQ}
  (hl:typeLookup (.type T) "__getitem__"=pure (some (.builtin id)))(hs:NoSl slice)
  (h:wpAny (model prog w) A (eval value env) (λo s₁=>wpAny (model prog w) A (eval slice env) (λi s₂=>s₂.TypeIs o T/\wpAny (model prog w) A (getItem o i) Q E s₂) E s₁) E s) :
  wpAny (model prog w) A (eval (.Subscript value slice pos) env) Q E s:=by
 refine Subscript_ (wpAny_mono h (λo s₁ h₁=>wpAny_mono h₁ (λi s₂ h₂=>?_) λ_ _ x=>x) λ_ _ x=>x);obtain⟨hT,h₂⟩:=h₂;unfold subscriptTail;refine wpAny_bind ?_;rw[getitemInPython_of_ne hT.not_modules];refine wpAny_bind (wpAny_specialOf hT hl ?_);have fin:wpAny (model prog w) A (subscripted slice false o i) (λr s₃=>wpAny (model prog w) A (letTemporaryGo value o r >>= λ_=>pure r) Q E s₃) E s₂:=by
  rw[hs o i];exact wpAny_operating (wpAny_mono h₂ (λr s₃ h₃=>wpAny_bind (wpAny_letTemporaryGo (wpAny_pure h₃))) λ_ _ x=>x)
 first
  |exact wpAny_pure (wpAny_bind fin)
  |exact wpAny_bind (wpAny_pure (wpAny_bind fin))
  |exact wpAny_bind fin
def jS(td ty tv:TE):TS:=λD σ H=>tv σ H λv H1=>td σ H1 λx H2=>ty σ H2 λy H3=>∃a H4,x=.ref a/\DPut H3 a y v H4/\D.nx σ H4
section
variable{X:Cx}{o i value:Expr}{pos pos':Pos}{td ty tv:TE}
theorem mZ(hu:X.A.units+1<cLine)(ho:PE X o td)(hi:PE X i ty)(hv:PE X value tv)(hs:swapsWith value (some (.Subscript o i pos')) pos.line X.env=pure false) :
  PS X (.Assign [.Subscript o i pos'] value pos) (jS td ty tv):=by
 intro zz s σ H D I h;refine wpAny_Assign_Subscript (thn (hv zz s σ H _ I h) λr s1 ⟨v,H1,I1,rv,q1⟩=>thn (ho zz s1 σ H1 _ I1 q1) λu s2 ⟨x,H2,I2,rx,q2⟩=>thn (hi zz s2 σ H2 _ I2 q2) λiv s3 zq=>?_) hs;refine x_22 zq λy H3 I3 ry zz0=>?_;refine x_22 zz0 λa H4 ex g q3=>?_;subst ex;obtain rfl:u=Value.ref a:=rx;exact uu hu I3 g ry rv λs4 I4=>⟨σ,H4,I4,q3⟩
end
theorem uw{P:Program}{w:World}{H:Hp}(h:Heap)(hb:sysModules<h.objs.size):aO P w H (h.push {cls:= .type "dict",data:= .dict #[]}) h.objs.size (.dK []):=
 ⟨zero_le _,beq_eq_false_iff_ne.mpr (Ne.symm (Nat.ne_of_lt hb)),[],.nil,Heap.DictOf.new h⟩
def jT:TE:=λ_ H Q=>∀p,H p=none->Q (.ref p) (upd H p (.dK []))
section
variable{X:Cx}{pos:Pos}
theorem m8:PE X (.Dict [] [] pos) jT:=λzz s σ H Q I h =>
 wpAny_Dict_empty ⟨.ref s.heap.objs.size,_,I.laid (a:=s.heap.objs.size) (o:= .dK []) (t':=s.toks) (λ_ _ q=>get?_push_of_some _ q) (Nat.le_refl _) (uw s.heap I.big),rfl,h _ (I.hok.fresh (Nat.le_refl _))⟩
end
structure M2(X:Cx)(o:Expr)(m:Str)(zt:Pos)(e f:Expr)(zn:Pos):Prop where
 base:attributeBase o m X.env (eval o X.env)=eval o X.env
 few:((backTo zn (starEach [e,f] X.env)).all (λx=> !x.1)&&(backToKw zn (keywordEach [] X.env)).all (λx=>x.1.isSome)
  && decide (([e,f]:List Expr).length+([]:List Keyword).length+(if([]:List Keyword).isEmpty then 0 else 1)<30))=true
 line:(zt.endLine==zn.line)=true
 trees:backTo zn (starEach [e,f] X.env)=[(false,eval e X.env),(false,eval f X.env)]
def IsD(H:Hp)(a:Addr):Prop:=(∃zu,Rd H a (.dK zu))\/∃zu,Rd H a (.dT zu)
theorem ux{X:Cx}{zz:zP}{σ:St}{H:Hp}{s:Shared}{a:Addr}(I:Inv X zz σ H s)(d:IsD H a) :
  s.TypeIs (.ref a) "dict"/\(∀b,Value.ref a=.ref b->∃ob,s.heap.get? b=some ob/\ob.dict=none)/\(a==sysModules)=false:=by
 rcases d with⟨zu,e⟩|⟨zu,e⟩
 ·refine x_02 (hZ I.hok e) λ_ hd zz0=>?_
  refine x_11 zz0 λvs _ dd=>?_;refine⟨dd.typeIs,λb q=>?_,hd⟩;cases q;refine x_32 dd λob _ _ h1 h2 _=>?_;exact⟨ob,h1,h2.2.1⟩
 refine x_02 (jR I.hok e) λ_ hd zz0=>?_;refine x_11 zz0 λxs _ dd=>?_;refine⟨dd.typeIs,λb q=>?_,hd⟩;cases q;refine x_32 dd λob _ _ h1 h2 _=>?_;exact⟨ob,h1,h2.2.1⟩
section
variable{X:Cx}{zz:zP}{σ:St}{H:Hp}{s:Shared}{a:Addr}{y d:V}{u r:Value}{o:Option V}{A:Around}{E:zQ}
theorem uy{Q:zQ}(hu:A.units+1<cLine)(I:Inv X zz σ H s)(g:DGet H a y o)(ry:RelV y u)(rd:RelV d r)(h:∀w' s',Inv X zz σ H s'->RelV (o.getD d) w'->Q w' s') :
  wpAny (model X.prog X.w) A (call (.builtin "dict.get") [.ref a,u,r]) Q E s:=by
 rcases g with⟨zu,k,e,ey,l⟩|⟨zu,k,b,e,ey,eb,l⟩
 ·subst ey
  refine x_02 (hZ I.hok e) λz hd zz0=>?_;refine x_11 zz0 λvs rel dd=>?_;refine call_meetsIn slot_dict_get dd.typeIs PySem.F.entry_dict_get (PySem.F.args_dict_get_3 _ _ _) (meets_dict_get_default (bE X.prog X.w) a (fg ry) hd r) ⟨_,dd.mapOf,h _ _ (I.tok _) ?_⟩;rw[l];exact(rel.val k).getD rd
 subst ey;cases(show u=Value.ref b from ry);refine x_02 (jR I.hok e) λz hd zz0=>?_;refine x_11 zz0 λxs rel dd=>?_;refine call_meetsIn slot_dict_get dd.typeIs PySem.F.entry_dict_get (PySem.F.args_dict_get_3 _ _ _) (meetsH_dict_get_default (tupleKind (bE X.prog X.w)) a b hd r) ⟨tupleKind_room_in1 hu,k,xs,jQ I.hok eb,dd,h _ _ (I.tok _) ?_⟩;rw[l];exact(rel.val k).getD rd
end
def nc(td ty tx:TE):TE:=λσ H Q=>td σ H λx H1=>∃a,x=.ref a/\IsD H1 a/\ty σ H1 λy H2=>tx σ H2 λz H3=>∃o,DGet H3 a y o/\Q (o.getD z) H3
section
variable{X:Cx}{o e f:Expr}{zt zn:Pos}{td ty tx:TE}
theorem uz(hu:X.A.units+1<cLine)(ho:PE X o td)(he:PE X e ty)(hf:PE X f tx)(m:M2 X o "get" zt e f zn):PE X (.Call (.Attribute o "get" zt) [e,f] [] zn) (nc td ty tx):=by
 intro zz s σ H Q I h;refine wpAny_Call_method m.base m.few m.line PySem.F.plainAttrs_dict slot_dict_get PySem.F.type_dict_get (thn (ho zz s σ H _ I h) λu s1 zq=>?_);refine x_22 zq λx H1 I1 rx zz0=>?_;refine x_12 zz0 λa ex d q1=>?_;subst ex;obtain rfl:u=Value.ref a:=rx;obtain⟨t1,t2,_⟩:=ux I1 d;refine⟨t1,t2,?_⟩;rw[m.trees];refine Calls.callWith_builtin rfl (Calls.evalArgs_plain (Calls.spliced_cons (thn (he zz s1 σ H1 _ I1 q1) λiv s2 ⟨y,H2,I2,ry,q2⟩ =>
  Calls.spliced_cons (thn (hf zz s2 σ H2 _ I2 q2) λfv s3 ⟨z,H3,I3,rz,ov,g,q3⟩=>Calls.spliced_nil ?_))))
 exact uy hu I3 g ry rz λw' s4 I4 rw'=>⟨_,H3,I4,rw',q3⟩
end
section
variable{X:Cx}{zz:zP}{σ:St}{H:Hp}{s:Shared}{a:Addr}{zu:List (Key×V)}{A:Around}{E:zQ}
theorem uA{Q:zQ}(I:Inv X zz σ H s)(e:Rd H a (.dK zu))(h:∀p s',H p=none->Inv X zz σ (upd H p (.dK zu)) s'->Q (.ref p) s'):wpAny (model X.prog X.w) A (call (.type "dict") [.ref a]) Q E s:=by
 refine x_02 (hZ I.hok e) λz hd zz0=>?_;refine x_11 zz0 λvs rel dd=>?_;refine kt_call_dict hd dd (by rw[<- rel.length];exact z) λh' dd' hs=>?_;refine h _ _ (I.hok.fresh (Nat.le_refl _)) (I.laid (a:=s.heap.objs.size) (o:= .dK zu) (t':=s.toks) (λb q hq=>?_) (Nat.le_refl _) (mY z (beq_eq_false_iff_ne.mpr (Ne.symm (Nat.ne_of_lt I.big))) rel dd'));exact(hs.2 b (Nat.ne_of_lt (lt_size hq))).trans (get?_push_of_some _ hq)
end
theorem ng:bootBuiltins "reversed"=some (.type "reversed"):=by left
section
variable{X:Cx}{zz:zP}{σ:St}{H:Hp}{s:Shared}{h':Heap}
theorem Inv.turnedNew{t':Nat}{ch:List Addr}{T:Addr}{ob:HO}(I:Inv X zz σ H s)(k:∀b o,b∉ch->s.heap.get? b=some o->h'.get? b=some o)(hf:∀b∈ch,FpOk X zz H b)(hT:s.heap.objs.size<=T)
  (new:aO X.prog X.w (upd H T ob) h' T ob):Inv X zz σ (upd H T ob) {s with heap:=h',toks:=t' }:=by
 have hn:H T=none:=I.hok.fresh hT;have nit:∀b u,H b=some u->b∉ch:=λb u e z=>by
  have q:=(hf b z).1;rw[q]at e;cases e
 refine I.step (g':=s.gens) (d':=s.drawn) (ch:=ch) (λb hb=>⟨(hf b hb).2.2.2.1,(hf b hb).2.1,(hf b hb).2.2.2.2.1,(hf b hb).2.2.2.2.2⟩) (λb o _ _ hc e _=>k b o hc e) (λb o _ _ hc e _=>⟨o.slots,k b o hc e⟩)
  (λb o _ e n=>?_) (λb o hc e=>⟨o,k b o hc e⟩) (λb xs e=>?_) (λb o u e=>?_) (λb ps e=>⟨#[],?_⟩) (λm hm=>?_) (λb u e=>?_) I.bare
 ·rw[ao (Nat.ne_of_lt (Nat.lt_of_lt_of_le (lt_size e) hT))];exact n
 ·rw[ao (aF e hn)];exact e
 ·rw[ao (aF e hn)];exact e
 ·rw[ao (aF e hn),e];simp
 ·obtain⟨o,es,ep,ho,r⟩:=hm
  exact⟨o,es,ep,k _ o (λz=>(hf _ z).2.1 rfl) ho,r⟩
 by_cases hb:b=T
 ·subst hb
  rw[ai]at e;cases e;exact new
 rw[ao hb]at e;refine(I.hok b u e).stay (λc v hc q=>k c v ?_ q) (λc q=>by rw[ao (aF q hn)];exact q) λc xs q=>by rw[ao (aF q hn)];exact q
 rcases hc with z|z
 ·rw[z];exact nit b u e
 exact nit c _ z
end
section
variable{X:Cx}
theorem h7{tg:Expr}{zz:zP}{σ:St}{H:Hp}{s:Shared}{R:It->Hp->Prop}{J:It}{tn:Nat->Heap->Prop}{tk:Nat}(I:Inv X zz σ H s)(o:Obj)
  (T:Turn X.prog X.w X.K tg J [s.heap.objs.size] s.heap.objs.size tn)(st:tn 0 (s.heap.push o))(q:R J H):PIE X zz σ tg R (.ref s.heap.objs.size) {s with heap:=s.heap.push o,toks:=tk}:=by
 refine⟨s.heap.objs.size,[s.heap.objs.size],tn,J,H,rfl,I.kept λb ob e=>get?_push_of_some _ e,T,st,λb hb=>?_,q⟩;have e:b=s.heap.objs.size:=by simpa using hb
 subst e;exact I.fpOk (Nat.le_refl _) (I.hok.fresh (Nat.le_refl _))
end
def Itv(K:Frag)(a:Addr)(n:Nat):It:=
 ⟨λi H=>i<n/\∃(xs:List V) (x:V),SqL K H a xs/\xs[n - 1 - i]? = some x,λi H x H'=>H'=H/\∀xs,SqL K H a xs->xs[n - 1 - i]? = some x,λi _=>n<=i⟩
theorem uB{P:Program}{w:World}{K:Frag}{tg:Expr}(a it:Addr)(n:Nat):Turn P w K tg (Itv K a n) [it] it (λi h=>i<=n/\h.IsRevIter it a ((n:Int) - 1 - (i:Nat))) where
 mem:=by simp
 obj:=λi h st b hb=>by
  have e:b=it:=by simpa using hb
  subst e;refine x_01 st λ_ zz0=>?_;refine x_12 zz0 λo e c d=>?_;exact⟨o,e,λv z=>by rw[d]at z;cases z⟩
 keep:=λi h h' st k=>⟨st.1,st.2.at λo e=>k it (by simp) o e⟩
 item:=by
  intro X hP hw hK hc i zz s σ H E I hf st hg;subst hP hw hK;refine x_01 hg λhin zz0=>?_;refine x_21 zz0 λxs x hq hx=>?_;refine x_12 (I.list hq) λzw rv p hz=>?_;obtain⟨u,hu,ru⟩:=rv.get hx;obtain⟨f0,f1,f2,f3,f4,f5⟩:=hf it (by simp);obtain⟨_,hit⟩:=st;have e1:(n:Int) - 1 - ((i:Nat):Int)=((n - 1 - i:Nat):Int):=by omega
  rw[e1]at hit;refine wpAny_pyNext_rev_item hit p.isList (x:=u) (by simpa using hu) λh' st' sb=>?_;have e2:((n - 1 - i:Nat):Int) - 1=(n:Int) - 1 - ((i+1:Nat):Int):=by omega
  rw[e2]at st';have I1:Inv X zz σ H {s with heap:=h' }:=I.turned (t':=s.toks) (λb o hb e=>(sb.2 b hb).trans e) f0 f1 f3 f4 f5;refine x_12 (id st') λo e c d=>?_;exact⟨u,rfl,fJ (s:={s with heap:=h' }) e c d (by decide) ⟨x,H,I1,ru,⟨rfl,λys hy=>by rw[I.list_inj hy hq];exact hx⟩,⟨hin,st'⟩,λb hb=>(hf b hb).1⟩⟩
 done:=by
  intro X hP hw hK hc i zz s σ H E I hf st hg;subst hP hw hK;obtain⟨f0,f1,f2,f3,f4,f5⟩:=hf it (by simp);obtain⟨hin,hit⟩:=st;have hge:n<=i:=hg;have e1:(n:Int) - 1 - ((i:Nat):Int)= -1:=by omega
  rw[e1]at hit;exact wpAny_pyNext_rev_end (I.ok.hd hc) hit λh' eb=>⟨rfl,I.turned (t':=s.toks) (λb o hb e=>eb b o hb e) f0 f1 f3 f4 f5⟩
 self:=λA i s Q E st h=>wpAny_pyIter_revIter st.2 h
def iRev(K:Frag)(ta:TA):TI:=λσ H R=>ta σ H λvs H1=>∃(a:Addr) (xs:List V),vs=[.ref a]/\SqL K H1 a xs/\R (Itv K a xs.length) H1
section
variable{X:Cx}{tg:Expr}
theorem fU{e:Expr}{ta:TA}{p pos:Pos}(hg:Gl X "reversed")(hm:X.mg "reversed"=none)(ha:PA X [e] ta)(hs:starEach [e] X.env=[(false,eval e X.env)]:=by rfl):PI X tg (.Call (.Name "reversed" p) [e] [] pos) (iRev X.K ta):=by
 intro zz s σ H R I h;refine Call_ (dW I hg hm ng (PyProof.Rows.callWith_type1 (thn (ha pos zz s σ H _ I h) λus s1 zq=>?_) hs rfl));refine x_22 zq λvs H1 I1 r1 q1=>?_;refine x_22 q1 λa xs e hq q=>?_;subst e;cases r1 with
 |cons r rr =>
 cases rr;cases r;refine x_12 (I1.list hq) λzw rv p' hz=>?_;have hl:=rv.length;have e1:((zw.toArray.size:Nat):Int) - 1=(xs.length:Int) - 1 - ((0:Nat):Int):=by simp only[size_toArray];omega
 refine call_reversed_list p'.isList (wpAny_pyIter_revIter (l:=a) (i:=((zw.toArray.size:Nat):Int) - 1) ⟨_,get?_push_size _ rfl,rfl,rfl⟩ ?_);refine h7 (tk:=s1.toks) I1 _ (uB a _ xs.length) ⟨zero_le _,?_⟩ q;rw[<- e1];exact⟨_,get?_push_size _ rfl,rfl,rfl⟩
end
noncomputable def Its(x:Str):It:=⟨λi _=>i<x.cps.size,λi H v H'=>H'=H/\∃c,x.cps[i]? = some c/\v=.str ⟨#[c]⟩,λi _=>x.cps.size<=i⟩
theorem nh{P:Program}{w:World}{K:Frag}{tg:Expr}(it:Addr)(x:Str)(t:Tok)(ty:String)(hty:ty="str_ascii_iterator"\/ty="str_iterator") :
  Turn P w K tg (Its x) [it] it (λi h=>h.IsStrIter it ty x t i) where
 mem:=by simp
 obj:=λi h st b hb=>by
  have e:b=it:=by simpa using hb
  subst e;refine x_12 st λo e c d=>?_;exact⟨o,e,λv z=>by rw[d]at z;cases z⟩
 keep:=λi h h' st k=>let⟨o,ho,r⟩:=st;⟨o,k it (by simp) o ho,r⟩
 item:=by
  intro X hP hw hK hc i zz s σ H E I hf st hg;subst hP hw hK;obtain⟨f0,f1,f2,f3,f4,f5⟩:=hf it (by simp);have W:Walks X.prog X.w X.A it [it] [it] x.cps.size (SignAt x) (λi h=>h.IsStrIter it ty x t i):=by
   rcases hty with e|e
   ·rw[e];exact Walks.strAscii (I.ok.hd hc) it x t
   rw[e];exact Walks.strWide (I.ok.hd hc) it x t
  have hno:["enumerate","zip","dict_itemiterator","dict_reverseitemiterator","odict_iterator","itertools.zip_longest","itertools.pairwise"].contains ty=false:=by
   rcases hty with e|e
   ·rw[e];decide
   rw[e];decide
  refine W.item i s _ _ hg st λv h' tk hv st' kk=>?_;refine x_21 hv λc u hcx zr3=>?_;subst zr3;have I1:Inv X zz σ H {s with heap:=h',toks:=tk}:=I.turned (λb o hb e=>kk b o (by simpa using hb) e) f0 f1 f3 f4 f5;refine x_12 (id st') λoi e cc dd=>?_;exact⟨_,rfl,fJ (s:={s with heap:=h',toks:=tk}) e cc dd hno ⟨.str ⟨#[c]⟩,H,I1,⟨u,rfl⟩,⟨rfl,c,hcx,rfl⟩,st',λb hb=>(hf b hb).1⟩⟩
 done:=by
  intro X hP hw hK hc i zz s σ H E I hf st hg;subst hP hw hK;obtain⟨f0,f1,f2,f3,f4,f5⟩:=hf it (by simp);have hx:x.cps[i]? = none:=Array.getElem?_eq_none hg;rcases hty with e|e
  ·rw[e]at st
   exact wpAny_pyNext_ascii_end (I.ok.hd hc) st hx λh' eb=>⟨rfl,I.turned (t':=s.toks) (λb o hb e=>eb b o hb e) f0 f1 f3 f4 f5⟩
  rw[e]at st;exact wpAny_pyNext_wide_end (I.ok.hd hc) st hx λh' eb=>⟨rfl,I.turned (t':=s.toks) (λb o hb e=>eb b o hb e) f0 f1 f3 f4 f5⟩
 self:=λA i s Q E st h=>by
  rcases hty with e|e
  ·rw[e]at st;exact wpAny_pyIter_striter_ascii st h
  rw[e]at st;exact wpAny_pyIter_striter_wide st h
def iStr(te:TE):TI:=λσ H R=>te σ H λv H1=>∃x,v=.str x/\R (Its x) H1
theorem jU{X:Cx}{tg e:Expr}{te:TE}(he:PE X e te):PI X tg e (iStr te):=by
 intro zz s σ H R I h;refine thn (he zz s σ H _ I h) λv s1 zq=>?_;obtain⟨y,H1,I1,r1,x,ex,q⟩:=zq;subst ex;obtain⟨t,rfl⟩:=r1;cases ha:x.cps.all (· < 128)
 ·exact wpAny_pyIter_wide ha (h7 (tk:=s1.toks) I1 _ (nh _ x t "str_iterator" (.inr rfl)) ⟨_,get?_push_size _ rfl,rfl,rfl⟩ q)
 exact wpAny_pyIter_ascii ha (h7 (tk:=s1.toks) I1 _ (nh _ x t "str_ascii_iterator" (.inl rfl)) ⟨_,get?_push_size _ rfl,rfl,rfl⟩ q)
theorem h8{α β:Type}{G:α->β->Prop}{l₁:List α}{l₂:List β}(h:Paired G l₁ l₂):∀{i:Nat}{a:α},l₁[i]? = some a->∃b,l₂[i]? = some b/\G a b:=by
 induction h with
 |nil=>intro i a e;simp at e
 |@cons a b l₁ l₂ r t ih =>
 intro i a' e;cases i with
 |zero =>
  simp only[List.getElem?_cons_zero,Option.some.injEq]at e;subst e;exact⟨b,rfl,r⟩
 |succ j =>
 simp only[List.getElem?_cons_succ]at e ⊢;exact ih e
noncomputable def Ite(K:Frag)(a:Addr):It:=
 ⟨λi H=>∃(xs:List V) (x:V),SqL K H a xs/\xs[i]? = some x,λi H v H'=>∃T x,v=.ref T/\H T=none/\H'=upd H T (.tup [.int (i:Nat),x])/\∀xs,SqL K H a xs->xs[i]? = some x,λi H=>∃xs:List V,SqL K H a xs/\xs.length<=i⟩
theorem uC{P:Program}{w:World}{K:Frag}{elts:List Expr}{kk:Nat}{tpos:Pos}(a e it:Addr) :
  Turn P w K (.Tuple elts kk tpos) (Ite K a) [e,it] e (λi h=>(∃old,IsEnum h e it ((i:Nat):Int) old)/\h.IsListIter it a i/\e≠it) where
 mem:=by simp
 obj:=λi h st b hb=>by
  obtain⟨⟨old,he⟩,⟨o,ho,hc,hd⟩,_⟩:=st;have e':b=e\/b=it:=by simpa using hb
  rcases e' with z|z
  ·rw[z];exact⟨_,he,λv q=>nomatch q⟩
  rw[z];exact⟨o,ho,λv q=>by rw[hd]at q;cases q⟩
 keep:=λi h h' st k=>let⟨⟨old,he⟩,hi,hne⟩:=st;⟨⟨old,k e (by simp) _ he⟩,hi.at λo q=>k it (by simp) o q,hne⟩
 item:=by
  intro X hP hw hK hc i zz s σ H E I hf st hg;subst hP hw hK;obtain⟨⟨old,he⟩,hit,hne⟩:=st;refine x_21 hg λxs x hq hx=>?_;refine x_12 (I.list hq) λzw rv p hz=>?_;obtain⟨u,hu,ru⟩:=rv.get hx;have hel:e<s.heap.objs.size:=lt_size he;have hil:it<s.heap.objs.size:=by obtain⟨_,q,_⟩:=hit;exact lt_size q
  refine wpAny_pyNext_enum_item he hit p.isList (x:=u) (by simpa using hu) hne λh' ho hit' hT hsz hk=>?_;refine⟨_,rfl,wpAny_letOwnedTupleGo_enum (s:={s with heap:=h',toks:=s.toks+1}) ho λh'' he' sb=>?_⟩;have hT2:h''.get? s.heap.objs.size=some {cls:= .type "tuple",data:= .seq #[.int i s.toks,u]}:=(sb.2 _ (ne_of_gt hel)).trans hT;have new:aO X.prog X.w (upd H s.heap.objs.size (.tup [.int (i:Nat),x])) h'' s.heap.objs.size (.tup [.int (i:Nat),x]):=
   ⟨by show 2<=sizeLine;decide,[.int i s.toks,u],.cons ⟨_,rfl⟩ (.cons ru .nil),⟨_,hT2,rfl,_,rfl⟩⟩
  have I1:Inv X zz σ (upd H s.heap.objs.size (.tup [.int (i:Nat),x])) {s with heap:=h'',toks:=s.toks+1}:=
   I.turnedNew (ch:=[e,it]) (λb ob hb q=>(sb.2 b (λz=>hb (by simp[z]))).trans (hk b ob (λz=>hb (by simp[z])) (λz=>hb (by simp[z])) q)) hf (Nat.le_refl _) new
  refine⟨.ref s.heap.objs.size,_,I1,rfl,⟨_,x,rfl,I.hok.fresh (Nat.le_refl _),rfl,λys hy=>by rw[I.list_inj hy hq];exact hx⟩,⟨⟨u,?_⟩,hit'.at λo q=>(sb.2 it (Ne.symm hne)).trans q,hne⟩,λb hb=>?_⟩
  ·have e1:((i+1:Nat):Int)=(i:Int)+1:=by omega
   rw[e1];exact he'
  have hb':b<s.heap.objs.size:=by
   have e':b=e\/b=it:=by simpa using hb
   rcases e' with z|z
   ·rw[z];exact hel
   rw[z];exact hil
  rw[ao (Nat.ne_of_lt hb')];exact(hf b hb).1
 done:=by
  intro X hP hw hK hc i zz s σ H E I hf st hg;subst hP hw hK;obtain⟨⟨old,he⟩,hit,hne⟩:=st;obtain⟨xs,hq,hx⟩:=hg;refine x_12 (I.list hq) λzw rv p hz=>?_;obtain⟨f0,f1,f2,f3,f4,f5⟩:=hf it (by simp);have hl:=rv.length;exact wpAny_pyNext_enum_end (I.ok.hd hc) he hit p.isList (by simp;omega) λh' eb=>⟨rfl,I.turned (t':=s.toks) (λb o hb q=>eb b o hb q) f0 f1 f3 f4 f5⟩
 self:=λA i s Q E st h=>let⟨⟨_,he⟩,_⟩:=st;wpAny_pyIter_enum he h
def ni(K:Frag)(ta:TA):TI:=λσ H R=>ta σ H λvs H1=>∃a xs,vs=[.ref a]/\SqL K H1 a xs/\R (Ite K a) H1
theorem uD{X:Cx}{e:Expr}{ta:TA}{p pos tpos:Pos}{elts:List Expr}{kk:Nat}(hg:Gl X "enumerate")(hm:X.mg "enumerate"=none)(ha:PA X [e] ta)(hs:starEach [e] X.env=[(false,eval e X.env)]:=by rfl) :
  PI X (.Tuple elts kk tpos) (.Call (.Name "enumerate" p) [e] [] pos) (ni X.K ta):=by
 intro zz s σ H R I h;refine Call_ (dW I hg hm boot_enumerate (PyProof.Rows.callWith_type1 (thn (ha pos zz s σ H _ I h) λus s1 zq=>?_) hs rfl));refine x_22 zq λvs H1 I1 r1 q1=>?_;refine x_22 q1 λa xs ex hq q=>?_;subst ex;cases r1 with
 |cons r rr =>
 cases rr;cases r;refine x_12 (I1.list hq) λzw rv p' hz=>?_;refine call_enumerate_list p'.isList λh' he hit hsz hk=>wpAny_pyIter_enum he ?_;have I2:Inv X zz σ H1 {s1 with heap:=h' }:=I1.kept (t':=s1.toks) hk;refine⟨s1.heap.objs.size+1,[s1.heap.objs.size+1,s1.heap.objs.size],_,_,H1,rfl,I2,uC a (s1.heap.objs.size+1) s1.heap.objs.size,⟨⟨.none,he⟩,hit,Nat.succ_ne_self _⟩,λb hb=>?_,q⟩;have e':b=s1.heap.objs.size+1\/b=s1.heap.objs.size:=by simpa using hb
 have hle:s1.heap.objs.size<=b:=by
  rcases e' with z|z
  ·rw[z];exact le_add_right _ _
  rw[z];exact Nat.le_refl _
 exact I1.fpOk hle (I1.hok.fresh hle)
end L2
namespace TL
open PySem PySem.Builtin PySem.Builtin.Str PySem.StrLaws
noncomputable abbrev tl(x:Str):List Nat:=x.cps.toList
theorem dJ(x:Str):x.length=(tl x).length:=by simp[tl,Str.length]
theorem cH{x y:Str}(h:tl x=tl y):x=y:=Str.ext' (Array.toList_inj.mp h)
theorem fV(x y:Str):tl (x++y)=tl x++tl y:=by
 show(x++y).cps.toList=_;rw[Str.cps_append,Array.toList_append]
theorem nj(l:List Nat):tl ⟨l.toArray⟩=l:=rfl
theorem nk(x:Str):(⟨(tl x).toArray⟩:Str)=x:=cH rfl
theorem fW:∀{l m:List Str},l.map tl=m.map tl->l=m
 |[],[],_=>rfl
 |[],_::_,h=>by simp at h
 |_::_,[],h=>by simp at h
 |x::l,y::m,h=>by
  rw[map_cons,map_cons]at h;injection h with h1 h2;rw[cH h1,fW h2]
theorem uE(s:String):tl (ofString s)=s.toList.map Char.toNat:=PyProof.Rows.signs_ofString s
def pre(S l:List Nat):Bool:=l.take S.length==S
noncomputable def spl(S:List Nat):Nat->List Nat->List Nat->List (List Nat)
 |_,zx,[]=>[zx]
 |0,zx,c::r=>if pre S (c::r)=true then zx::spl S (S.length - 1) [] r else spl S 0 (zx++[c]) r
 |k+1,zx,_::r=>spl S k zx r
def par(S:List Nat):List Nat->List Nat->Option (List Nat×List Nat)
 |_,[]=>none
 |zx,c::r=>if pre S (c::r)=true then some (zx,(c::r).drop S.length)else par S (zx++[c]) r
theorem eD(S:List Nat)(k:Nat)(zx:List Nat):spl S k zx []=[zx]:=by cases k<;>rfl
theorem ie{S zx r:List Nat}{c:Nat}(h:pre S (c::r)=true):spl S 0 zx (c::r)=zx::spl S (S.length - 1) [] r:=by
 show(if pre S (c::r)=true then zx::spl S (S.length - 1) [] r else spl S 0 (zx++[c]) r)=_;rw[if_pos h]
theorem ig{S zx r:List Nat}{c:Nat}(h:pre S (c::r)=false):spl S 0 zx (c::r)=spl S 0 (zx++[c]) r:=by
 show(if pre S (c::r)=true then zx::spl S (S.length - 1) [] r else spl S 0 (zx++[c]) r)=_;rw[if_neg (by rw[h];exact Bool.false_ne_true)]
theorem ij(S:List Nat):∀(k:Nat) (zx l:List Nat),spl S k zx l=spl S 0 zx (l.drop k)
 |0,_,_=>by rw[drop_zero]
 |k+1,zx,[]=>by rw[List.drop_nil,eD,eD]
 |k+1,zx,c::r=>by
  show spl S k zx r=spl S 0 zx (r.drop k);exact ij S k zx r
theorem uF{S zx r:List Nat}{c:Nat}(h:pre S (c::r)=true):par S zx (c::r)=some (zx,(c::r).drop S.length):=by
 show(if pre S (c::r)=true then some (zx,(c::r).drop S.length)else par S (zx++[c]) r)=_;rw[if_pos h]
theorem uG{S zx r:List Nat}{c:Nat}(h:pre S (c::r)=false):par S zx (c::r)=par S (zx++[c]) r:=by
 show(if pre S (c::r)=true then some (zx,(c::r).drop S.length)else par S (zx++[c]) r)=_;rw[if_neg (by rw[h];exact Bool.false_ne_true)]
theorem nq{S:List Nat}(hS:S≠[]):pre S []=false:=by
 cases S with
 |nil=>exact absurd rfl hS
 |cons s S=>rfl
theorem uH{s c:Nat}(S r:List Nat)(h:c≠s):pre (s::S) (c::r)=false:=by
 cases hp:pre (s::S) (c::r)with
 |false=>rfl
 |true =>
 have e:(c::r).take (s::S).length=s::S:=eq_of_beq hp;rw[length_cons,take_succ_cons]at e;injection e with e1 e2;exact absurd e1 h
theorem nu(S r:List Nat):pre S (S++r)=true:=by
 show((S++r).take S.length==S)=true;have e:(S++r).take S.length=S:=List.take_left;rw[e]<;>exact beq_self_eq_true S
theorem nv{L:List Nat}{a:Nat}(h:a<L.length):∃c,L.drop a=c::L.drop (a+1):=⟨L[a],drop_eq_getElem_cons h⟩
theorem fX(S L:List Nat):∀(m a:Nat) (zx:List Nat),a+m<=L.length->(∀k,a<=k->k<a+m->pre S (L.drop k)=false) ->
  spl S 0 zx (L.drop a)=spl S 0 (zx++(L.drop a).take m) (L.drop (a+m))
 |0,a,zx,_,_=>by rw[List.take_zero,append_nil,add_zero]
 |m+1,a,zx,h,hn=>by
  have hlt:a<L.length:=by omega
  obtain⟨c,e⟩:=nv hlt;have h0:=hn a (Nat.le_refl _) (by omega);have ih:=fX S L m (a+1) (zx++[c]) (by omega) (λk h1 h2=>hn k (by omega) (by omega));have e2:a+1+m=a+(m+1):=by omega
  rw[e2]at ih;rw[e]at h0;rw[e,ig h0,ih,take_succ_cons,append_assoc]<;>rfl
theorem ik(S L:List Nat):∀(m a:Nat) (zx:List Nat),a+m<=L.length->(∀k,a<=k->k<a+m->pre S (L.drop k)=false) ->
  par S zx (L.drop a)=par S (zx++(L.drop a).take m) (L.drop (a+m))
 |0,a,zx,_,_=>by rw[List.take_zero,append_nil,add_zero]
 |m+1,a,zx,h,hn=>by
  have hlt:a<L.length:=by omega
  obtain⟨c,e⟩:=nv hlt;have h0:=hn a (Nat.le_refl _) (by omega);have ih:=ik S L m (a+1) (zx++[c]) (by omega) (λk h1 h2=>hn k (by omega) (by omega));have e2:a+1+m=a+(m+1):=by omega
  rw[e2]at ih;rw[e]at h0;rw[e,uG h0,ih,take_succ_cons,append_assoc]<;>rfl
theorem iq(L:List Nat)(a b:Nat):(L.drop a).drop b=L.drop (a+b):=by
 first
  |rw[drop_drop]
  |rw[drop_drop,add_comm]
theorem ny{S L:List Nat}(hS:S≠[]){c:Nat}{zx:List Nat}(h:pre S (L.drop c)=true):spl S 0 zx (L.drop c)=zx::spl S 0 [] (L.drop (c+S.length)):=by
 rw[<- iq];cases e:L.drop c with
 |nil=>rw[e,nq hS]at h;cases h
 |cons d r =>
 rw[e]at h;rw[ie h,ij];cases S with
 |nil=>exact absurd rfl hS
 |cons s S=>rfl
theorem nz{S L:List Nat}(hS:S≠[]){c:Nat}{zx:List Nat}(h:pre S (L.drop c)=true):par S zx (L.drop c)=some (zx,L.drop (c+S.length)):=by
 rw[<- iq];cases e:L.drop c with
 |nil=>rw[e,nq hS]at h;cases h
 |cons d r =>
 rw[e]at h;rw[uF h]
theorem jV{x y:Str}(hy:tl y≠[])(i:Nat):At x y x.length i↔pre (tl y) ((tl x).drop i)=true:=by
 have hx:=dJ x;have hl:=dJ y
 constructor
 ·intro h
  have h2:=h.2;rw[subAt_eq,hl]at h2;exact h2
 intro h;have e:((tl x).drop i).take (tl y).length=tl y:=eq_of_beq h;have e1:=congrArg List.length e;rw[length_take,length_drop]at e1;have e2:0<(tl y).length:=length_pos_iff.mpr hy;refine⟨by omega,?_⟩;rw[subAt_eq,hl];exact h
theorem iu{x y:Str}(hy:tl y≠[]){i:Nat}(h:¬At x y x.length i):pre (tl y) ((tl x).drop i)=false:=by
 cases hp:pre (tl y) ((tl x).drop i)with
 |false=>rfl
 |true=>exact absurd ((jV hy i).mpr hp) h
theorem len1{y:Str}(hy:tl y≠[]):1<=y.length:=by
 have e2:0<(tl y).length:=length_pos_iff.mpr hy;rw[dJ y];exact e2
theorem jW(x:Str)(i j:Nat):tl (strSub x i j)=((tl x).drop i).take (j - i):=strSub_toList x i j
theorem nA(x:Str)(i:Nat):tl (strSub x i x.length)=(tl x).drop i:=by
 rw[jW,dJ x];exact take_of_length_le (by rw[length_drop]<;>omega)
theorem nB{x y:Str}(hy:tl y≠[]):∀(cuts:List Nat) (a f:Nat),a<=(tl x).length->ChainG x y x.length a cuts f->(∀k,f<=k->¬At x y x.length k) ->
  (partsFrom x y.length a cuts).map tl=spl (tl y) 0 [] ((tl x).drop a)
 |[],a,f,ha,h,hn=>by
  have e:f=a:=h;subst e;show[tl (strSub x f x.length)]=_;have run:=fX (tl y) (tl x) ((tl x).length - f) f [] (by omega) (λk h1 _=>iu hy (hn k h1));have e2:f+((tl x).length - f)=(tl x).length:=by omega
  rw[e2,drop_length,eD,nil_append,take_of_length_le (by rw[length_drop]<;>omega)]at run
  rw[run,nA]
 |c::r,a,f,ha,h,hn=>by
  refine x_03 h λh1 h2 h3 h4=>?_;have hc:c+y.length<=x.length:=h2.1;have hx:=dJ x;have hl:=dJ y;have ih:=nB hy r (c+y.length) f (by omega) h4 hn;show tl (strSub x a c)::(partsFrom x y.length (c+y.length) r).map tl=_;have run:=fX (tl y) (tl x) (c - a) a [] (by omega) (λk k1 k2=>iu hy (h3 k k1 (by omega)));have e2:a+(c - a)=c:=by omega
  rw[e2,nil_append,ny hy ((jV hy c).mp h2)]at run;rw[run,ih,jW,hl]
theorem nD(x y:Str)(hy:tl y≠[])(hk:¬Builtin.Str.strKind x<Builtin.Str.strKind y):(Txt.split x y).map tl=spl (tl y) 0 [] (tl x):=by
 obtain⟨f,g,hn⟩:=occ_tight x y (len1 hy);have key:=nB hy _ 0 f (zero_le _) g hn;rw[drop_zero]at key;have none_case:occurrences x y 0 x.length (x.length+1)=[]->[x].map tl=spl (tl y) 0 [] (tl x):=λho=>by
  rw[ho]at key;rw[<- key];show[tl x]=[tl (strSub x 0 x.length)];rw[sub_whole]
 unfold Txt.split;by_cases h1:(decide (x.length<y.length)||decide (Builtin.Str.strKind x<Builtin.Str.strKind y))=true
 ·rw[if_pos h1]
  have hlt:x.length<y.length:=by
   simp only[or_eq_true,decide_eq_true_eq]at h1;rcases h1 with h|h
   ·exact h
   exact absurd h hk
  refine none_case ?_;cases ho:occurrences x y 0 x.length (x.length+1)with
  |nil=>rfl
  |cons c r =>
  rw[ho]at g;have hc:c+y.length<=x.length:=g.2.1.1;omega
 rw[if_neg h1];by_cases h2:(occurrences x y 0 x.length (x.length+1)).isEmpty=true
 ·rw[if_pos h2]
  exact none_case (List.isEmpty_iff.mp h2)
 rw[if_neg h2,partsBetween_eq];exact key
theorem nE{x y:Str}(h:y.cps.all (· < 256)=true):¬Builtin.Str.strKind x<Builtin.Str.strKind y:=by
 have e:Builtin.Str.strKind y=1:=by unfold PySem.Builtin.Str.strKind;rw[if_pos h]
 rw[e];unfold PySem.Builtin.Str.strKind;split
 ·omega
 split<;>omega
theorem uI(x y:Str)(hy:tl y≠[]) :
  Txt.partition x y=(match par (tl y) [] (tl x)with|some (a,b)=>(⟨a.toArray⟩,y,⟨b.toArray⟩)|none=>(x,Str.empty,Str.empty)):=by
 have hx:=dJ x;have hl:=dJ y;rcases PyProof.Rows.partition_whole x y with⟨e,hn⟩|⟨i,e,hi,hn⟩
 ·have run:=ik (tl y) (tl x) (tl x).length 0 [] (by omega) (λk _ _=>iu hy (hn k))
  rw[drop_zero,zero_add,drop_length]at run;rw[e,run]<;>rfl
 have hb:i+y.length<=x.length:=hi.1;have run:=ik (tl y) (tl x) i 0 [] (by omega) (λk _ k2=>iu hy (hn k (by omega)));rw[drop_zero,zero_add,nil_append,nz hy ((jV hy i).mp hi)]at run;rw[e,run];have e1:strSub x 0 i=⟨((tl x).take i).toArray⟩:=cH (by rw[jW,drop_zero,sub_zero]);have e2:strSub x (i+y.length) x.length=⟨((tl x).drop (i+(tl y).length)).toArray⟩:=cH (by rw[nA,hl]);rw[e1,e2]<;>rfl
theorem uJ{S p rest zx:List Nat}(hS:S≠[])(h:∀i,i<p.length->pre S ((p++(S++rest)).drop i)=false) :
  spl S 0 zx (p++(S++rest))=(zx++p)::spl S 0 [] rest:=by
 have run:=fX S (p++(S++rest)) p.length 0 zx (by rw[length_append];omega) (λk _ k2=>h k (by omega));have ed:(p++(S++rest)).drop p.length=S++rest:=drop_left;rw[drop_zero,zero_add,List.take_left]at run;rw[run,ny hS (by rw[ed];exact nu S rest),<- iq,ed,drop_left]
theorem uK{S p zx:List Nat}(h:∀i,i<p.length->pre S (p.drop i)=false):spl S 0 zx p=[zx++p]:=by
 have run:=fX S p p.length 0 zx (by omega) (λk _ k2=>h k (by omega));rw[drop_zero,zero_add,drop_length,eD,take_length]at run;exact run
theorem uL{S p rest zx:List Nat}(hS:S≠[])(h:∀i,i<p.length->pre S ((p++(S++rest)).drop i)=false) :
  par S zx (p++(S++rest))=some (zx++p,rest):=by
 have run:=ik S (p++(S++rest)) p.length 0 zx (by rw[length_append];omega) (λk _ k2=>h k (by omega));have ed:(p++(S++rest)).drop p.length=S++rest:=drop_left;rw[drop_zero,zero_add,List.take_left]at run;rw[run,nz hS (by rw[ed];exact nu S rest),<- iq,ed,drop_left]
theorem jX{s:Nat}{S p q:List Nat}(h:s∉p):∀i,i<p.length->pre (s::S) ((p++q).drop i)=false:=λi hi=>by
 have hlt:i<(p++q).length:=by rw[length_append];omega
 have e:(p++q).drop i=(p++q)[i]::(p++q).drop (i+1):=drop_eq_getElem_cons hlt;rw[e];refine uH _ _ λz=>h ?_;have e1:(p++q)[i]=p[i]:=List.getElem_append_left hi;rw[<- z,e1];exact List.getElem_mem hi
theorem nF{s:Nat}{S p rest zx:List Nat}(h:s∉p):spl (s::S) 0 zx (p++(s::S++rest))=(zx++p)::spl (s::S) 0 [] rest:=
 uJ (by simp) (jX h)
theorem jY{s:Nat}{S p zx:List Nat}(h:s∉p):spl (s::S) 0 zx p=[zx++p]:=uK λi hi=>by
 have z:=jX (S:=S) (q:=[]) h i hi;rw[append_nil]at z;exact z
theorem uM{s:Nat}{S p rest zx:List Nat}(h:s∉p):par (s::S) zx (p++(s::S++rest))=some (zx++p,rest):=uL (by simp) (jX h)
def cu(S:List Nat):List (List Nat)->List Nat
 |[]=>[]
 |[p]=>p
 |p::q::r=>p++(S++cu S (q::r))
theorem iw(y:Str):∀parts:List Str,tl (Str.join y parts)=cu (tl y) (parts.map tl)
 |[]=>rfl
 |[_]=>rfl
 |x::z::r=>by
  show tl (x++y++Str.join y (z::r))=tl x++(tl y++cu (tl y) ((z::r).map tl));rw[fV,fV,iw y (z::r),append_assoc]
theorem nH(y:Str)(parts:List Str):Txt.join y parts=Str.join y parts:=glued_eq_join y parts
theorem uN{y:Str}{s:Nat}{S:List Nat}(ey:tl y=s::S){a b:Str}(h:s∉tl a):Txt.partition (a++y++b) y=(a,y,b):=by
 rw[uI _ y (by rw[ey];simp),fV,fV,append_assoc,ey,uM h];show((⟨([]++tl a).toArray⟩:Str),y,(⟨(tl b).toArray⟩:Str))=_;rw[nil_append,nk,nk]
end TL
namespace L2
open PySem PySem.Spec PyProof.Rows
theorem nI:∀l:List (Str×Tok),Vals ((l.map (·.1)).map V.str) (strValues l)
 |[]=>.nil
 |p::r=>.cons ⟨p.2,rfl⟩ (nI r)
theorem jZ:∀{ys:List Str}{us:List Value},Vals (ys.map V.str) us->StrsAre us ys
 |[],_,.nil=>.nil
 |y::ys,_,.cons r t=>by
  obtain⟨k,rfl⟩:=r;exact .cons y k (jZ t)
def iy(ys:List Str):Hp->VK->Prop:=λH Q=>∀p,H p=none->Q (.ref p) (upd H p (.lst (ys.map V.str)))
section
variable{X:Cx}{zz:zP}{σ:St}{H:Hp}{s:Shared}{Q:VK}
theorem j0{l:List (Str×Tok)}{ys:List Str}{k:Nat}(I:Inv X zz σ H s)(e:l.map (·.1)=ys)(hz:ys.length<=sizeLine)(h:iy ys H Q) :
  EP X zz σ Q (.ref s.heap.objs.size) {s with toks:=k,heap:=s.heap.push {cls:= .type "list",data:= .seq (strValues l).toArray}}:=by
 have hp:=I.hok.fresh (Nat.le_refl _);refine⟨.ref s.heap.objs.size,upd H s.heap.objs.size (.lst (ys.map V.str)),I.laid (λb u q=>get?_push_of_some _ q) (Nat.le_refl _) ⟨by rw[length_map];exact hz,strValues l,_,?_,get?_push_size _ rfl⟩,rfl,h _ hp⟩;rw[<- e];exact nI l
theorem nJ{x y z:Str}{t u v:Tok}{k:Nat}(I:Inv X zz σ H s)(h:∀p,H p=none->Q (.ref p) (upd H p (.tup [.str x,.str y,.str z]))) :
  EP X zz σ Q (.ref s.heap.objs.size) {s with toks:=k,heap:=s.heap.push {cls:= .type "tuple",data:= .seq [Value.str x t,.str y u,.str z v].toArray}}:=by
 have hp:=I.hok.fresh (Nat.le_refl _);exact⟨.ref s.heap.objs.size,upd H s.heap.objs.size (.tup [.str x,.str y,.str z]),I.laid (λb u q=>get?_push_of_some _ q) (Nat.le_refl _)
  ⟨by show 3<=sizeLine;decide,[Value.str x t,.str y u,.str z v],.cons ⟨t,rfl⟩ (.cons ⟨u,rfl⟩ (.cons ⟨v,rfl⟩ .nil)),_,get?_push_size _ rfl,rfl,_,rfl⟩,rfl,h _ hp⟩
end
section
variable{X:Cx}
theorem nM:MtR X "str.split" (λx xs H Q=>∃a b,x=.str a/\xs=[.str b]/\(b.length==0)=false/\a.length+2<=sizeLine/\iy (Txt.split a b) H Q):=by
 intro zz s σ H x xs v us Q I rx rs h;obtain⟨a,b,rfl,rfl,hb,hz,h⟩:=h;obtain⟨t,rfl⟩:=rx;cases rs with
 |cons r1 rs =>
 cases rs;obtain⟨u,rfl⟩:=r1;have hl:(Txt.split a b).length<=sizeLine:=Nat.le_trans (PyProof.Rows.split_le a b) hz;have hn:(Builtin.Str.partsBetween a (Builtin.Str.occurrences a b 0 a.length (a.length+1)) b.length).length<=sizeLine:=by
  have e1:=StrLaws.occ_length_le a b 0 a.length (a.length+1);rw[length_partsBetween];omega
 cases h1:(decide (a.length<b.length)||decide (Builtin.Str.strKind a<Builtin.Str.strKind b))
 ·cases hf:(Builtin.Str.occurrences a b 0 a.length (a.length+1)).isEmpty
  ·refine call_meets F.slot_str_split (typeIs_str _ _ _) F.entry_str_split (F.args_str_split_2 _ _) (meets_str_split_sep a b t u h1 hb hf (by omega) hn) ?_
   show EP X zz σ Q (.ref s.heap.objs.size) {s with toks:=_,heap:=s.heap.push {cls:= .type "list",data:= .seq (strsFrom s.toks (Builtin.Str.partsBetween a (Builtin.Str.occurrences a b 0 a.length (a.length+1)) b.length)).toArray}};rw[strsFrom_eq];exact j0 (ys:=Txt.split a b) I ((numbered_texts _ _).trans ((if_neg (ne_true_of_eq_false h1)).trans (if_neg (ne_true_of_eq_false hf))).symm) hl h
  refine call_meets F.slot_str_split (typeIs_str _ _ _) F.entry_str_split (F.args_str_split_2 _ _) (meets_str_split_not_found a b t u h1 hb hf) ?_;exact j0 (l:=[(a,t)]) (ys:=Txt.split a b) (k:=s.toks) I ((if_neg (ne_true_of_eq_false h1)).trans (if_pos hf)).symm hl h
 refine call_meets F.slot_str_split (typeIs_str _ _ _) F.entry_str_split (F.args_str_split_2 _ _) (meets_str_split_cannot_occur a b t u h1) ?_;exact j0 (l:=[(a,t)]) (ys:=Txt.split a b) (k:=s.toks) I (if_pos h1).symm hl h
theorem uO:MtR X "str.partition" (λx xs H Q=>∃a b,x=.str a/\xs=[.str b]/\(b.length==0)=false/\a.length<=sizeLine /\
  ∀p,H p=none->Q (.ref p) (upd H p (.tup [.str (Txt.partition a b).1,.str (Txt.partition a b).2.1,.str (Txt.partition a b).2.2]))):=by
 intro zz s σ H x xs v us Q I rx rs h;obtain⟨a,b,rfl,rfl,hb,hz,h⟩:=h;obtain⟨t,rfl⟩:=rx;cases rs with
 |cons r1 rs =>
 cases rs;obtain⟨u,rfl⟩:=r1;refine call_meets F.slot_str_partition (typeIs_str _ _ _) F.entry_str_partition (F.args_str_partition_2 _ _) (meets_str_partition a b t u hb hz) ?_;unfold Txt.partition at h;revert h;cases Builtin.Str.occurrences a b 0 a.length 1 with
 |nil=>intro h;exact nJ I h
 |cons i r=>intro h;exact nJ I h
theorem uP:MtR X "str.join" (λx xs H Q=>∃a p,∃ys:List Str,x=.str a/\xs=[.ref p]/\(SqL X.K H p (ys.map V.str)\/SqT X.K H p (ys.map V.str)) /\
  (ys.map (·.length)).sum+ys.length*a.length<=16777216/\Q (.str (Txt.join a ys)) H):=by
 intro zz s σ H x xs v us Q I rx rs h;obtain⟨a,p,ys,rfl,rfl,hp,hz,h⟩:=h;obtain⟨t,rfl⟩:=rx;cases rs with
 |cons r1 rs =>
 cases rs;cases r1;rcases hp with hp|hp
 ·obtain⟨zw,r,⟨o,n,ho,hc,_,hd⟩,_⟩:=I.list hp
  exact PyProof.Rows.join_list (items:=zw.toArray) ⟨o,ho,hc,n,hd⟩ (by rw[List.toList_toArray];exact jZ r) hz λt' k=>⟨.str _,H,I.tok k,⟨t',rfl⟩,h⟩
 obtain⟨zw,r,ht,_⟩:=I.tuple hp;exact PyProof.Rows.join_tuple (items:=zw.toArray) ht (by rw[List.toList_toArray];exact jZ r) hz λt' k=>⟨.str _,H,I.tok k,⟨t',rfl⟩,h⟩
theorem mt1{id:String}{g:Str->Str->V}(rule:∀(a b:Str) (t u:Tok) (s:Shared) (Q:zQ),(∀(v:Value) (k:Nat),RelV (g a b) v->Q v {s with toks:=k}) ->
  wpAny (model X.prog X.w) X.A (call (.builtin id) [.str a t,.str b u]) Q X.xe s):MtR X id (λx xs H Q=>∃a b,x=.str a/\xs=[.str b]/\Q (g a b) H):=by
 intro zz s σ H x xs v us Q I rx rs h;obtain⟨a,b,rfl,rfl,h⟩:=h;obtain⟨t,rfl⟩:=rx;cases rs with
 |cons r1 rs =>
 cases rs;obtain⟨u,rfl⟩:=r1;exact rule a b t u s _ λv k r=>⟨g a b,H,I.tok k,r,h⟩
theorem uQ:MtR X "str.startswith" (λx xs H Q=>∃a b,x=.str a/\xs=[.str b]/\Q (.bl (Txt.startswith a b)) H):=
 mt1 (g:=λa b=>.bl (Txt.startswith a b)) λ_ _ _ _ s _ h=>PySem.SC.startswith (h _ s.toks rfl)
theorem fY:cB X (.type "int") (λxs H Q=>∃a n,xs=[.str a]/\PySem.intText? a=some n/\a.length<=640/\Q (.int n) H):=by
 intro zz s σ H xs us Q I rs h;obtain⟨a,n,rfl,hn,hl,h⟩:=h;cases rs with
 |cons r1 rs =>
 cases rs;obtain⟨t,rfl⟩:=r1;exact PySem.W.KIN.call_text hn hl ⟨.int n,H,I.tok _,⟨_,rfl⟩,h⟩
end
section
variable{X:Cx}{o e:Expr}{to te:TE}
def tM0(r:V->List V->Hp->VK->Prop)(to:TE):TE:=λσ H Q=>to σ H λx H1=>(∃a,x=.str a)/\r x [] H1 Q
def tM1(r:V->List V->Hp->VK->Prop)(to te:TE):TE:=λσ H Q=>to σ H λx H1=>(∃a,x=.str a)/\te σ H1 λy H2=>r x [y] H2 Q
theorem iz{id:String}{name:Str}{zt pos:Pos}{r:V->List V->Hp->VK->Prop}(slot:Slot "str" name id)(ty:typeOf (.builtin id)=pure (.type "method_descriptor"))(rule:MtR X id r)(ho:PE X o to)(he:PE X e te)
  (hs:starEach [e] X.env=[(false,eval e X.env)]:=by rfl)(zk:attributeBase o name X.env (eval o X.env)=eval o X.env:=by rfl)(zl:(zt.endLine==pos.line)=true:=by rfl) :
  PE X (.Call (.Attribute o name zt) [e] [] pos) (tM1 r to te):=by
 intro zz s σ H Q I h;refine PySem.Call_method1 zk hs zl (thn (ho zz s σ H _ I h) λv s1 zq=>?_);refine x_22 zq λx H1 I1 r1 q1=>?_;obtain⟨⟨a,rfl⟩,q1⟩:=q1;obtain⟨t,rfl⟩:=_root_.id r1;refine⟨"str",_,F.plainAttrs_str,slot,ty,typeIs_str _ _ _,(λ_ e=>nomatch e),Calls.callWith_builtin rfl (Calls.evalArgs_plain (Calls.spliced_cons ?_))⟩;exact thn (he zz s1 σ H1 _ I1 q1) λu s2 ⟨y,H2,I2,r2,q2⟩=>Calls.spliced_nil (rule zz s2 σ H2 _ [y] _ [u] Q I2 r1 (.cons r2 .nil) q2)
theorem nN{zt pos:Pos}(ho:PE X o to)(he:PE X e te)(hs:starEach [e] X.env=[(false,eval e X.env)]:=by rfl)(zk:attributeBase o "split" X.env (eval o X.env)=eval o X.env:=by rfl)(zl:(zt.endLine==pos.line)=true:=by rfl) :
  PE X (.Call (.Attribute o "split" zt) [e] [] pos) (tM1 (λx xs H Q=>∃a b,x=.str a/\xs=[.str b]/\(b.length==0)=false/\a.length+2<=sizeLine/\iy (Txt.split a b) H Q) to te):=
 iz F.slot_str_split F.type_str_split nM ho he hs zk zl
theorem uR{zt pos:Pos}(ho:PE X o to)(he:PE X e te)(hs:starEach [e] X.env=[(false,eval e X.env)]:=by rfl)(zk:attributeBase o "partition" X.env (eval o X.env)=eval o X.env:=by rfl)(zl:(zt.endLine==pos.line)=true:=by rfl) :
  PE X (.Call (.Attribute o "partition" zt) [e] [] pos) (tM1 (λx xs H Q=>∃a b,x=.str a/\xs=[.str b]/\(b.length==0)=false/\a.length<=sizeLine /\
   ∀p,H p=none->Q (.ref p) (upd H p (.tup [.str (Txt.partition a b).1,.str (Txt.partition a b).2.1,.str (Txt.partition a b).2.2]))) to te):=
 iz F.slot_str_partition F.type_str_partition uO ho he hs zk zl
theorem nO{zt pos:Pos}(ho:PE X o to)(he:PE X e te)(hs:starEach [e] X.env=[(false,eval e X.env)]:=by rfl)(zk:attributeBase o "join" X.env (eval o X.env)=eval o X.env:=by rfl)(zl:(zt.endLine==pos.line)=true:=by rfl) :
  PE X (.Call (.Attribute o "join" zt) [e] [] pos) (tM1 (λx xs H Q=>∃a p,∃ys:List Str,x=.str a/\xs=[.ref p]/\(SqL X.K H p (ys.map V.str)\/SqT X.K H p (ys.map V.str)) /\
   (ys.map (·.length)).sum+ys.length*a.length<=16777216/\Q (.str (Txt.join a ys)) H) to te):=
 iz F.slot_str_join F.type_str_join uP ho he hs zk zl
end
section
variable{X:Cx}
theorem uS:OpR X (compareOp .In) (λx y H Q=>∃(c:Nat) (z:Str),x=.str ⟨#[c]⟩/\y=.str z/\Q (.bl (decide (c∈z.cps.toList))) H):=by
 intro zz s σ H x y v u Q I rx ry h;refine x_22 h λc z zr2 zr3 q=>?_;subst zr2;subst zr3;obtain⟨t,rfl⟩:=rx;obtain⟨t',rfl⟩:=ry;exact PyProof.Rows.in_str (aZ I q (PySem.StrLaws.found_one z c).symm)
theorem uT:OpR X (compareOp .NotIn) (λx y H Q=>∃(c:Nat) (z:Str),x=.str ⟨#[c]⟩/\y=.str z/\Q (.bl (!decide (c∈z.cps.toList))) H):=by
 intro zz s σ H x y v u Q I rx ry h;refine x_22 h λc z zr2 zr3 q=>?_;subst zr2;subst zr3;obtain⟨t,rfl⟩:=rx;obtain⟨t',rfl⟩:=ry;exact PyProof.Rows.notIn_str (aZ I q (congrArg Bool.not (PySem.StrLaws.found_one z c).symm))
end
theorem IsPart.raw{v:Value}{o:Option Int}(p:IsPart v o):∃l:Option (Int×Tok),v=partValue l/\l.map (·.1)=o:=by
 cases p with
 |none=>exact⟨none,rfl,rfl⟩
 |int i t=>exact⟨some (i,t),rfl,rfl⟩
def fZ(n d:Nat):Option Int->Int
 |none=>(d:Int)
 |some i=>max 0 (min (if i<0 then i+(n:Int)else i) (n:Int))
theorem nQ(n d:Nat)(o:Option Int):fZ n d o=((HT.sIx n d o:Nat):Int):=by
 cases o with
 |none=>rfl
 |some v =>
 show max (0:Int) (min (if v<0 then v+(n:Int)else v) (n:Int))=(((if v<0 then(v+(n:Int)).toNat else min v.toNat n):Nat):Int);by_cases hv:v<0
 ·simp only[if_pos hv]
  omega
 simp only[if_neg hv];omega
theorem uU(a b:Option Int)(n:Nat):Builtin.Str.strSliceIndices a b 1 n=sliceRange (fZ n 0 a) (fZ n n b) 1:=by
 have h1:((1:Int) > 0)=True:=by simp
 cases a<;>cases b<;>first
  |rfl
  |(simp only[Builtin.Str.strSliceIndices,fZ,h1,if_true];rfl)
  |simp[Builtin.Str.strSliceIndices,fZ]
theorem sidx(a b:Option Int)(n:Nat):Builtin.Str.strSliceIndices a b 1 n=(List.range (HT.sIx n n b - HT.sIx n 0 a)).map (λk=>HT.sIx n 0 a+k):=by
 rw[uU,nQ,nQ];generalize HT.sIx n 0 a=p;generalize HT.sIx n n b=q;simp only[sliceRange,show((1:Int) > 0)=True from by simp,if_true];by_cases hlt:(p:Int)<q
 ·have e3:(((q:Int) - p+1 - 1) / 1).toNat=q - p:=by first|omega|(simp;done)|(simp;omega)
  simp only[hlt,if_true,e3];refine List.map_congr_left λk _=>?_;omega
 have:q - p=0:=by omega
 simp[hlt,this]
noncomputable def cutS(z:Str)(lo hi:Option Int):Str:=
 ⟨((z.cps.toList.drop (HT.sIx z.length 0 lo)).take (HT.sIx z.length z.length hi - HT.sIx z.length 0 lo)).toArray⟩
theorem nR(z:Str)(lo hi:Option Int):PySem.StrLaws.sliceText z lo hi=cutS z lo hi:=by
 have h1:HT.sIx z.length 0 lo<=z.length:=HT.sIx_le _ _ (zero_le _) _;have h2:HT.sIx z.length z.length hi<=z.length:=HT.sIx_le _ _ (Nat.le_refl _) _;have hp:HT.sIx z.length 0 lo<=max (HT.sIx z.length 0 lo) (HT.sIx z.length z.length hi):=Nat.le_max_left _ _;have hq:max (HT.sIx z.length 0 lo) (HT.sIx z.length z.length hi)<=z.length:=Nat.max_le.mpr ⟨h1,h2⟩;have hd:max (HT.sIx z.length 0 lo) (HT.sIx z.length z.length hi) - HT.sIx z.length 0 lo=HT.sIx z.length z.length hi - HT.sIx z.length 0 lo:=by omega
 have e:Builtin.Str.strSliceIndices lo hi 1 z.length =
   Builtin.Str.strSliceIndices (some ((HT.sIx z.length 0 lo:Nat):Int)) (some ((max (HT.sIx z.length 0 lo) (HT.sIx z.length z.length hi):Nat):Int)) 1 z.length:=by
  rw[PySem.StrLaws.strSliceIndices_plain hp hq,hd,sidx]
 have e2:PySem.StrLaws.sliceText z lo hi =
   PySem.StrLaws.sliceText z (some ((HT.sIx z.length 0 lo:Nat):Int)) (some ((max (HT.sIx z.length 0 lo) (HT.sIx z.length z.length hi):Nat):Int)):=by
  unfold PySem.StrLaws.sliceText;rw[e]
 rw[e2,PySem.StrLaws.sliceText_nat z hp hq,hd];rfl
theorem uV(z:Str)(lo hi:Option Int):(cutS z lo hi).length<=z.length:=by
 show(((z.cps.toList.drop (HT.sIx z.length 0 lo)).take (HT.sIx z.length z.length hi - HT.sIx z.length 0 lo)).toArray).size<=z.cps.size;rw[size_toArray,length_take,length_drop,Array.length_toList];omega
def rSlS:V->Option Int->Option Int->Hp->VK->Prop:=λx lo hi H Q=>∃z,x=.str z/\z.length<=sizeLine/\Q (.str (cutS z lo hi)) H
theorem nS{X:Cx}:SlR X rSlS:=by
 intro zz s σ H x v vl vu lo hi sl Q I rx hs pl pu h;refine x_12 h λz zr1 hz q=>?_;subst zr1;obtain⟨t,rfl⟩:=rx;refine x_12 hs λos hos hcs hds=>?_;obtain⟨l,rfl,rfl⟩:=IsPart.raw pl;obtain⟨u,rfl,rfl⟩:=IsPart.raw pu;refine⟨"str",_,F.slot_str_getitem.lookup,typeIs_str _ _ _,?_⟩;refine wpAny_getItem_str_slice (l:=l) (u:=u) (st:=none) ⟨os,hos,hcs,hds⟩ rfl ?_;have hl:(PySem.StrLaws.sliceText z (l.map (·.1)) (u.map (·.1))).length<=sizeLine:=by
  rw[nR];exact Nat.le_trans (uV z _ _) hz
 rw[<- nR]at q;unfold PySem.StrLaws.sliceText at q hl;show Made.post (if((1:Int)==1&&(Builtin.Str.strSliceIndices (l.map (·.1)) (u.map (·.1)) 1 z.length).length==z.length)=true then Made.val (.str z t)
  else Made.str ⟨((Builtin.Str.strSliceIndices (l.map (·.1)) (u.map (·.1)) 1 z.length).filterMap (z.cps[·]?)).toArray⟩) (EP X zz σ Q) s
 by_cases c:((1:Int)==1&&(Builtin.Str.strSliceIndices (l.map (·.1)) (u.map (·.1)) 1 z.length).length==z.length)=true
 ·rw[if_pos c]at q ⊢
  exact⟨.str z,H,I,⟨t,rfl⟩,q⟩
 rw[if_neg c]at q hl ⊢;exact⟨hl,.str _,H,I.tok _,⟨_,rfl⟩,q⟩
def cI(s:Stmt)(j:Nat):Stmt:=match s with
 |.ClassDef _ _ _ body _ _ _ _ _ _ _=>body.getD j (.Pass ⟨0,0,0,0⟩)
 |_=>.Pass ⟨0,0,0,0⟩
def dY(s:Stmt):Arguments:=match s with
 |.FunctionDef _ a _ _ _ _ _ _ _ _=>a
 |_=>{posonlyargs:=[],args:=[],vararg:=none,kwonlyargs:=[],kw_defaults:=[],kwarg:=none,defaults:=[]}
noncomputable def cJ(s:Stmt):List Stmt:=match s with
 |.FunctionDef _ _ b _ _ _ _ _ _ _=>b
 |_=>[]
def aq(s:Stmt):Scope:=match s with
 |.FunctionDef _ _ _ _ _ _ sc _ _ _=>sc
 |_=>{kind:= .function,names:=[],isGenerator:=false,isCoroutine:=false}
abbrev CX0:CXT:=λ_ _ _ _ _ _=>False
abbrev E0:XK:=λ_ _ _=>False
theorem ak{X:Cx}:bQ CX0 X E0:=λ_ _ _ _ _ _ _ h=>h.elim
structure Fun(K:Frag)(x qual:Str)(st:Stmt)(f:Addr)(fd:FuncData):Prop where
 ex:∃(oc:Value) (od:Option Addr) (kV doc pm:Value) (an:Option Addr) (cdv ct:Value) (osl:Array (Option Value)),
  fd=fnOf x qual (dY st) (cJ st) (aq st) .none kV doc pm an cdv ct/\K.lookup f=some ⟨oc,od,.func fd,osl⟩/\codeIn K cdv qual=true
 kp:keepIn K (.ref f)=true
section
variable{P:Program}{w:World}{K:Frag}{mg:zM}{base:Heap}
theorem Fun.ok{x qual:Str}{st:Stmt}{f:Addr}{fd:FuncData}{N ps:List Str}{k:Nat}{sp:Sp}(F:Fun K x qual st f fd)(S:FnScope N ps (aq st))
  (hbody:∀(cdv:Value) (A:Around) (outer:List Env) (s:Shared) (H:Hp) (vs:List V) (Q:VK) (E:XK),Room k (A.deeper (envOfC qual (aq st) s.heap.objs.size f cdv))->sp vs H Q E ->
   ∃t,PSs (cxOf CX0 P w K mg base N qual (aq st) f cdv A outer s H E).nox (cJ st) t/\t {nx:=λ_ H'=>Q .non H',rt:=Q} (start N vs) H)(len:∀vs H Q E,sp vs H Q E->vs.length=ps.length:=by intro _ _ _ _ h;repeat first|(cases h;rfl)|(obtain⟨rfl,_⟩:=h;rfl)|(obtain⟨_,h⟩:=h)):FnOk P w K mg base CX0 (k+1) f fd ps sp:=by
 refine x_90 F.ex λoc od kV doc pm an cdv ct osl zy=>x_02 zy λzr9 lk hcd=>?_;subst zr9;refine jG lk hcd S len λA outer s H vs Q E hr hsp=>?_;obtain⟨t,h,q⟩:=hbody cdv A outer s H vs Q E hr hsp;exact⟨t,h.nox,q⟩
theorem Fun.binds{x qual:Str}{st:Stmt}{f:Addr}{fd:FuncData}{ps:List Str}(F:Fun K x qual st f fd)
  (h:∀(kV doc pm:Value) (an:Option Addr) (cdv ct:Value) (us:List Value),us.length=ps.length->bindArgs (fnOf x qual (dY st) (cJ st) (aq st) .none kV doc pm an cdv ct) ⟨us,[]⟩=pure (ps.zip us)):aW K fd ps []:=by
 obtain⟨oc,od,kV,doc,pm,an,cdv,ct,osl,rfl,lk,hcd⟩:=F.ex;exact .all (h kV doc pm an cdv ct)
theorem nU{x qual:Str}{st:Stmt}{f:Addr}{oc:Value}{od an:Option Addr}{osl:Array (Option Value)}{kV doc pm cdv ct:Value}(l:K.lookup f=some ⟨oc,od,.func (fnOf x qual (dY st) (cJ st) (aq st) .none kV doc pm an cdv ct),osl⟩)
  (c:codeIn K cdv qual=true)(k:keepIn K (.ref f)=true):Fun K x qual st f (fnOf x qual (dY st) (cJ st) (aq st) .none kV doc pm an cdv ct):=⟨⟨oc,od,kV,doc,pm,an,cdv,ct,osl,rfl,l,c⟩,k⟩
end
section
variable{X:Cx}
theorem pv(i:Nat){x:Str}{pos:Pos}(hN:X.N[i]? = some x:=by rfl)(hv:Vis X.env.scope x:=by first|exact Or.inl rfl|exact Or.inr (Or.inl rfl)|exact Or.inr (Or.inr rfl))(hd:(x==("__debug__":Str))=false:=by decide)
  (hcd:(x==("__classdict__":Str))=false:=by decide):PE X (.Name x pos) (tVar i):=sR hN hv hd hcd
end
theorem iteF{A B:Prop}(h:B):if false=true then A else B:=by
 rw[if_neg Bool.false_ne_true];exact h
theorem iteT{A B:Prop}(h:A):if true=true then A else B:=by
 rw[if_pos rfl];exact h
theorem ite2{c A B:Prop}[Decidable c](h1:c->A)(h2:¬c->B):if c then A else B:=by
 by_cases h:c
 ·rw[if_pos h]
  exact h1 h
 rw[if_neg h];exact h2 h
def Same(H H':Hp):Prop:=∀b o,H b=some o->H' b=some o
theorem Same.refl(H:Hp):Same H H:=λ_ _ h=>h
theorem Same.trans{H H1 H2:Hp}(a:Same H H1)(b:Same H1 H2):Same H H2:=λc o h=>b c o (a c o h)
theorem Same.seq{K:Frag}{H H':Hp}{a:Addr}{xs:List V}(e:Same H H')(h:SqL K H a xs):SqL K H' a xs:=by
 rcases h with(h|⟨o,h⟩)|h
 ·exact .inl (.inl (e _ _ h))
 ·exact .inl (.inr ⟨o,e _ _ h⟩)
 exact .inr h
noncomputable abbrev dm:List Value:=[.type "Exception",.type "BaseException",.type "object"]
structure XCls(K:Frag)(C f:Addr):Prop where
 obj:∃nm q N bs sn sub ab col dd k0 k1 k2 k3 k5,K.lookup C=some (excClassObj nm q C N bs dm true sn sub ab col dd k0 k1 k2 k3 k5 "Exception.__new__")
 init:PySem.W.findIn K (.ref C) "__init__"=some (some (.ref f))
 fn:isFn K (.ref f)=true
 kp:keepIn K (.ref C)=true
 ga:PySem.W.findIn K (.ref C) "__getattribute__"=some (some (.builtin "BaseException.__getattribute__"))
 gn:PySem.W.findIn K (.ref C) "__getattr__"=some none
 sa:PySem.W.findIn K (.ref C) "__setattr__"=some (some (.builtin "object.__setattr__"))
 hd:hasDictIn K C=true
theorem uW{K:Frag}{C f N:Addr}{nm q:Str}{bs:List Value}{sn:List Str}{sub:List Value}{ab:Bool}{col:Option Bool}{dd:Option Addr}{k0 k1 k2 k3 k5:Option Value}
  (l:K.lookup C=some (excClassObj nm q C N bs dm true sn sub ab col dd k0 k1 k2 k3 k5 "Exception.__new__"))(i:PySem.W.findIn K (.ref C) "__init__"=some (some (.ref f)))(n:isFn K (.ref f)=true)(k:keepIn K (.ref C)=true)
  (g:PySem.W.findIn K (.ref C) "__getattribute__"=some (some (.builtin "BaseException.__getattribute__")))(a:PySem.W.findIn K (.ref C) "__getattr__"=some none)(s:PySem.W.findIn K (.ref C) "__setattr__"=some (some (.builtin "object.__setattr__")))
  (d:hasDictIn K C=true):XCls K C f:=⟨⟨nm,q,N,bs,sn,sub,ab,col,dd,k0,k1,k2,k3,k5,l⟩,i,n,k,g,a,s,d⟩
noncomputable abbrev j5(C t:Addr):Obj:={cls:= .ref C,data:= .fields #[.ref t,.none,.none,.none,.bool false,.none]}
noncomputable def dM(h:Heap)(C:Addr)(us:List Value):Heap:=(h.push {cls:= .type "tuple",data:= .seq us.toArray}).push (j5 C h.objs.size)
theorem nV{h:Heap}{C:Addr}{us:List Value}{b:Addr}{o:Obj}(e:h.get? b=some o):(dM h C us).get? b=some o:=get?_push_of_some _ (get?_push_of_some _ e)
theorem nW{h:Heap}{C:Addr}{us:List Value}:(dM h C us).get? (h.objs.size+1)=some (j5 C h.objs.size):=by
 unfold dM
 heap_get
section
variable{P:Program}{w:World}{A:Around}{K:Frag}{C f:Addr}{R:Result->Shared->Prop}{s:Shared}
theorem uX{us:List Value}(X:K.In s.heap)(c:XCls K C f)(hl:us.length<=sizeLine)
  (go:codeAny (model P w) (A.under (.builtin "type.__call__" ⟨.ref C::us,[]⟩)) (.call (.ref f) ⟨.ref (s.heap.objs.size+1)::us,[]⟩) (PySem.W.InitBack (s.heap.objs.size+1) R) {s with heap:=dM s.heap C us}) :
  codeAny (model P w) A (.call (.ref C) ⟨us,[]⟩) R s:=by
 obtain⟨hp,g,d,t,os⟩:=s;refine x_90 c.obj λnm q N bs sn sub ab col dd zz0=>?_;refine x_50 zz0 λk0 k1 k2 k3 k5 lk=>?_;have atC:=X _ _ lk;have B:=PySem.F.excBase_Exception;have n1:=tc_lookup;have n2:=tc_bind (.ref C);have tyC:(⟨hp,g,d,t,os⟩:Shared).TypeIs (.ref C) "type":=⟨_,atC,rfl⟩;refine codeAny_of_tree ?_;show wpAny _ _ (callAny (.ref C) _) _ _ _
 repeat (any_goals (first|assumption|(with_reducible refine wpAny_loadPart_at atC ?_)|wp_step))
 refine And.intro rfl (codeAny_call_builtin_at (Code.quiet_builtin _ (by left)) entry_typeCall (wpAny_check_type_call_sub atC ?_))
 repeat (first|(with_reducible refine wpAny_loadPart_at atC ?_)|(with_reducible refine wpAny_madeBy_exc atC ?_)|wp_step)
 refine codeAny_call_builtin_code (Code.quiet_builtin _ B.quiet) (wpAny_check_new_sub B atC (codeAny_exc_new_sub B atC ?_ hl));show wpAny _ _ _ _ _ ⟨dM hp C us,g,d,t,os⟩;have X':K.In (dM hp C us):=X.keeps λb o e=>nV e;have atC':=X' _ _ lk;have atE:(dM hp C us).get? (hp.objs.size+1)=some (j5 C hp.objs.size):=nW;have inC:(Value.ref C::dm).contains (.ref C)=true:=by simp
 unfold isInstance
 repeat (first|(with_reducible refine wpAny_loadPart_at atE ?_)|((with_reducible refine wpAny_isSubtype_exc atC' ?_);rw[inC])|wp_step)
 show wpAny _ _ (typeLookup (.ref C) _) _ _ _;refine(looks_findIn X' c.init).at ?_;refine wpAny_holding (wpAny_bind ((PySem.W.bind_fn X' _ (beq_iff_eq.mp c.fn)).at ?_));refine wpAny_bind (wpAny_call (codeAny_mono go λr s' z=>?_));rcases r with e|(_|_|_|v)
 ·exact z
 ·exact z.elim
 ·exact z.elim
 ·exact z.elim
 obtain⟨rfl,z⟩:=z;exact wpAny_pure (wpAny_pure z)
end
section
open PySem.W (InstAt Looks)
section
variable{P:Program}{w:World}{A:Around}{K:Frag}{C f x:Addr}{s:Shared}{ox:Obj}{od:Option Obj}{name:Str}{v:Value}
theorem nX{tk:Tok}{R:Result->Shared->Prop}(X:K.In s.heap)(I:InstAt s.heap x ox C od)(c:XCls K C f)(n:aN K C name)
  (go:∀b,wpAny (model P w) A.in1 (Builtin.ObjectAttr.storeInOwnDict (.ref x) (.ref C) (.str name tk) name v b)
   (λfin s'=>match fin with|.done f=>R (.ok f) s'|.again c'=>c'.quiet=true/\codeAny (model P w) A c' R s') (λe s'=>R (.error e) s') s) :
  codeAny (model P w) A (.call (.builtin "object.__setattr__") ⟨[.ref x,.str name tk,v],[]⟩) R s:=by
 have S:=PySem.F.store_Exception;refine x_90 c.obj λnm q N bs sn sub ab col dd zz0=>?_;refine x_50 zz0 λk0 k1 k2 k3 k5 lk=>?_;have hcd:clsIn K C=some {name:=nm,bases:=bs,mro:= .ref C::dm,ns:=N,qualname:=q,hasDict:=true,slotNames:=sn,subclasses:=sub,abstract:=ab,collection:=col,hasDel:=false}:=by
  unfold clsIn;rw[lk]
 have isO:Looks (model P w) s.heap (isInstance (.ref x) (.type "object")) true:=I.type.andThen (PySem.W.looks_mroIn X (by unfold mroIn;rw[hcd,Option.bind_some];rfl));have mro:Looks (model P w) s.heap (mroOf (.ref C)) (.ref C::dm):=(looks_clsIn X hcd).andThen .now;refine codeAny_call_builtin S.slot.plain S.entry (@PySem.W.check_slot (model P w) _ _ s "object.__setattr__" "object" "__setattr__" (.ref x) [.str name tk,v] [] _ S.kind S.split isO (S.args (.ref x) (.str name tk) v) ?_);rw[PySem.W.osa_eq,refuse_eq];refine wpAny_bind (wpAny_bind (I.type.here (wpAny_bind (mro.here ?_))));rw[refuseLoop_ref,S.passes];refine wpAny_pure (wpAny_bind (I.type.here (wpAny_bind ((looks_findIn X n).here (wpAny_bind (wpAny_pure ?_))))));exact go _
end
def XNew(C p:Addr)(d:Option Addr):HO:= .ext λh=>∃t,h.get? p=some {cls:= .ref C,dict:=d,data:= .fields #[.ref t,.none,.none,.none,.bool false,.none]}
def XDic(p:Addr)(fs:List (Str×V)):HO:= .ext λh=>fs.length<=1000/\∃mA,h.Ns1 p mA/\(∀f,RelO (fs.lookup f) (mA f))/\PySem.Within mA (fs.map (·.1))
theorem nY{H:Hp}{a b:Addr}{o u:HO}(h:a≠b):upd (upd H a o) b u=upd (upd H b u) a o:=by
 funext c
 unfold upd;by_cases h1:c=a
 ·rw[if_pos h1,if_neg (λq=>h (h1.symm.trans q)),if_pos h1]
 rw[if_neg h1,if_neg h1]
theorem j7{P:Program}{w:World}{H:Hp}{h:Heap}{p:Addr}{fs:List (Str×V)}{mA:zM}(l:fs.length<=1000)(n:h.Ns1 p mA)(r:∀f,RelO (fs.lookup f) (mA f))(k:PySem.Within mA (fs.map (·.1))):aO P w H h p (XDic p fs):=by
 obtain⟨o,es,ep,ho,c⟩:=n;exact⟨⟨l,mA,⟨o,es,ep,ho,c⟩,r,k⟩,⟨o,ho⟩,λh1 h2 ⟨l,mA,⟨o,es,ep,ho,c⟩,r⟩ kp=>⟨l,mA,⟨o,es,ep,kp o ho,c⟩,r⟩⟩
theorem nZ{P:Program}{w:World}{H:Hp}{h:Heap}{C p t:Addr}{d:Option Addr}(e:h.get? p=some {cls:= .ref C,dict:=d,data:= .fields #[.ref t,.none,.none,.none,.bool false,.none]}):aO P w H h p (XNew C p d):=
 ⟨⟨t,e⟩,⟨_,e⟩,λh1 h2 ⟨t,e⟩ kp=>⟨t,kp _ e⟩⟩
section
variable{X:Cx}{zz:zP}{σ:St}{H:Hp}{s:Shared}{a C f₀ dx:Addr}{fs:List (Str×V)}{f:Str}{y:V}{u:Value}{A:Around}{E:zQ}{Q:Unit->Shared->Prop}
theorem uY(I:Inv X zz σ H s)(e:H a=some (XNew C a none))(c:XCls X.K C f₀)(n:aN X.K C f)(ry:RelV y u)
  (h:∀dx s',H dx=none->dx≠a->Inv X zz σ (upd (upd H dx (XDic dx [(f,y)])) a (XNew C a (some dx))) s'->Q () s'):wpAny (model X.prog X.w) A (setAttr (.ref a) f u) Q E s:=by
 obtain⟨⟨t,ha⟩,_,_⟩:=(show aO X.prog X.w H s.heap a (XNew C a none)from I.hok a _ e);have J:InstAt s.heap a _ C none:=⟨ha,rfl,rfl,trivial⟩;obtain⟨nm,q,N,bs,sn,sub,ab,col,dd,k0,k1,k2,k3,k5,lk⟩:=c.obj;have hcd:clsIn X.K C=some {name:=nm,bases:=bs,mro:= .ref C::dm,ns:=N,qualname:=q,hasDict:=true,slotNames:=sn,subclasses:=sub,abstract:=ab,collection:=col,hasDel:=false}:=by
  unfold clsIn;rw[lk]
 refine PySem.W.set_plain I.kIn J c.sa (nX (s:={s with toks:=s.toks+1}) I.kIn J c n λb=>?_);refine wpAny_bind (wpAny_pure (wpAny_bind (wpAny_bind (wpAny_loadPart ha (wpAny_bind (PySem.W.Looks.here (s:={s with toks:=s.toks+1}) (looks_clsIn I.kIn hcd) ?_))))));rw[if_neg (by exact Bool.false_ne_true)];dsimp only;rw[if_neg (by exact Bool.false_ne_true)];have hlt:=lt_size ha;have nda:s.heap.objs.size≠a:=ne_of_gt hlt;have ha1:=get?_push_of_some emptyDict ha;have fr:H s.heap.objs.size=none:=I.hok.fresh (Nat.le_refl _);refine wpAny_bind (wpAny_alloc (wpAny_bind (wpAny_update ha1 (wpAny_pure (a:=some s.heap.objs.size) ?_))));have hd2:((s.heap.push emptyDict).update a λo=>{cls:=o.cls,dict:=some s.heap.objs.size,data:=o.data,slots:=o.slots}).get? s.heap.objs.size=some emptyDict:=
  (Heap.get?_update_ne _ _ _ _ nda).trans (get?_push_size s.heap rfl)
 have ha2:=get?_update_self (λo=>{cls:=o.cls,dict:=some s.heap.objs.size,data:=o.data,slots:=o.slots}) ha1 rfl;have hnd:((s.heap.push emptyDict).update a λo=>{cls:=o.cls,dict:=some s.heap.objs.size,data:=o.data,slots:=o.slots}).Ns s.heap.objs.size (λ_=>none):=⟨_,#[],_,hd2,rfl,λe he=>absurd he (by simp),λ_=>rfl⟩;have I1:=I.laid (a:=s.heap.objs.size) (o:=XDic s.heap.objs.size []) (h':=s.heap.push emptyDict) (t':=s.toks+1) (λb u q=>get?_push_of_some _ q) (Nat.le_refl _)
  (j7 (zero_le _) (Heap.Ns1.of_empty ⟨_,#[],_,get?_push_size s.heap rfl,rfl,λe he=>absurd he (by simp),λ_=>rfl⟩) (λ_=>trivial) λy hy=>absurd rfl hy)
 have I2:=I1.write (x:=a) (e:=a) (o:=XNew C a (some s.heap.objs.size)) (t':=s.toks+1) (by rw[ao (Ne.symm nda),e];exact True.intro) (.inl rfl) (λb u hb q=>(Heap.get?_update_ne _ _ _ _ hb).trans q) ⟨_,ha2⟩ (nZ ha2);show wpAny _ _ (Builtin.ObjectAttr.storeInDict s.heap.objs.size (.str f s.toks) f u) _ _ _;unfold Builtin.ObjectAttr.storeInDict Builtin.ObjectAttr.newKeyGuard;refine wpAny_bind (wpAny_pure (wpAny_bind (wpAny_nsSet1 (Heap.Ns1.of_empty hnd) λh' hn' hs=>?_)));refine x_32 (hn'.count (Within.cons f u Within.nil)) λoD esD epD hoD hdD hcD=>?_;refine wpAny_bind (wpAny_lookBehind hoD (by rw[hdD];exact pastItsLine_dict (Nat.le_trans hcD (by rw[length_cons,length_nil,sizeLine_eq];omega))) ?_);refine wpAny_pure (h s.heap.objs.size _ fr nda ?_);have I3:=I2.write (x:=s.heap.objs.size) (e:=s.heap.objs.size) (o:=XDic s.heap.objs.size [(f,y)]) (t':=s.toks+1+1) (by rw[ao nda,ai];exact True.intro) (.inl rfl) (λb u hb q=>(hs.2 b hb).trans q) ⟨_,hoD⟩
  (j7 (by show 1<=1000;decide) hn' (λg=>?_) λg hg=>?_)
 ·rw[nY (Ne.symm nda),fI]at I3
  exact I3
 ·show RelO (([(f,y)]:List (Str×V)).lookup g) (if g=f then some u else none)
  by_cases q:g=f
  ·subst q
   rw[if_pos rfl,List.lookup_cons_self];exact ry
  rw[if_neg q,lookup_cons,beq_eq_false_iff_ne.mpr q];trivial
 by_cases q:g=f
 ·simp[q]
 exact absurd (by show(if g=f then some u else none)=none;rw[if_neg q]) hg
theorem uZ(I:Inv X zz σ H s)(e:H a=some (XNew C a (some dx)))(ed:H dx=some (XDic dx fs))(c:XCls X.K C f₀)(n:aN X.K C f)(hl:fs.length<1000)(ry:RelV y u)
  (h:∀s',Inv X zz σ (upd H dx (XDic dx (putF f y fs))) s'->Q () s'):wpAny (model X.prog X.w) A (setAttr (.ref a) f u) Q E s:=by
 obtain⟨⟨t,ha⟩,_,_⟩:=(show aO X.prog X.w H s.heap a (XNew C a (some dx))from I.hok a _ e);obtain⟨⟨l,mA,hns,rel,wi⟩,⟨od,hod⟩,_⟩:=(show aO X.prog X.w H s.heap dx (XDic dx fs)from I.hok dx _ ed);have J:InstAt s.heap a _ C (some od):=⟨ha,rfl,rfl,hod⟩;obtain⟨nm,q,N,bs,sn,sub,ab,col,dd,k0,k1,k2,k3,k5,lk⟩:=c.obj;have hcd:clsIn X.K C=some {name:=nm,bases:=bs,mro:= .ref C::dm,ns:=N,qualname:=q,hasDict:=true,slotNames:=sn,subclasses:=sub,abstract:=ab,collection:=col,hasDel:=false}:=by
  unfold clsIn;rw[lk]
 refine PySem.W.set_plain I.kIn J c.sa (nX (s:={s with toks:=s.toks+1}) I.kIn J c n λb=>?_);refine wpAny_bind (wpAny_pure (wpAny_bind (wpAny_bind (wpAny_loadPart ha (wpAny_bind (PySem.W.Looks.here (s:={s with toks:=s.toks+1}) (looks_clsIn I.kIn hcd) ?_))))));rw[if_neg (by exact Bool.false_ne_true)];refine wpAny_pure (a:=some dx) ?_;show wpAny _ _ (Builtin.ObjectAttr.storeInDict dx (.str f s.toks) f u) _ _ _;unfold Builtin.ObjectAttr.storeInDict Builtin.ObjectAttr.newKeyGuard;refine wpAny_bind (wpAny_pure (wpAny_bind (wpAny_nsSet1 (s:={s with toks:=s.toks+1}) hns λh' hn' hs=>?_)));refine x_32 (hn'.count (PySem.Within.cons f u wi)) λoD esD epD hoD hdD hcD=>?_;refine wpAny_bind (wpAny_lookBehind hoD (by rw[hdD];exact pastItsLine_dict (Nat.le_trans hcD (by rw[length_cons,length_map,sizeLine_eq];omega))) ?_);refine wpAny_pure (h _ ?_);refine I.write (x:=dx) (e:=dx) (t':=s.toks+1+1) (by rw[ed];exact True.intro) (.inl rfl) (λb u hb q=>(hs.2 b hb).trans q) ⟨_,hoD⟩ (j7 (by have:=gU f y fs;omega) hn' (λg=>?_) λg hg=>?_)
 ·show RelO ((putF f y fs).lookup g) (if g=f then some u else mA g)
  rw[jC];by_cases q:g=f
  ·rw[if_pos q,if_pos q]
   exact ry
  rw[if_neg q,if_neg q];exact rel g
 by_cases q:g=f
 ·rw[q]
  exact(fL f y fs).1
 refine(fL f y fs).2 g (wi g λz=>hg ?_);show(if g=f then some u else mA g)=none;rw[if_neg q];exact z
end
end
section
open PySem.W (InstAt Looks)
def XGot(C p d:Addr):HO:= .ext λh=>∃vs sl,h.get? p=some ⟨.ref C,some d,.fields vs,sl⟩
theorem u0{P:Program}{w:World}{H:Hp}{h:Heap}{C p d:Addr}{vs:Array Value}{sl:Array (Option Value)}(e:h.get? p=some ⟨.ref C,some d,.fields vs,sl⟩):aO P w H h p (XGot C p d):=
 ⟨⟨vs,sl,e⟩,⟨_,e⟩,λh1 h2 ⟨vs,sl,e⟩ kp=>⟨vs,sl,kp _ e⟩⟩
section
variable{X:Cx}{zz:zP}{σ:St}{H:Hp}{s:Shared}{a C f₀ dx:Addr}{fs:List (Str×V)}{f:Str}{v:V}{u:Value}{A:Around}{E:zQ}
theorem u5{b:Bool}{Q:zQ}(I:Inv X zz σ H s)(e:H a=some (XGot C a dx))(ed:H dx=some (XDic dx fs))(c:XCls X.K C f₀)(n:aN X.K C f)(l:fs.lookup f=some v)
  (h:∀u s',Inv X zz σ H s'->RelV v u->Q u s'):wpAny (model X.prog X.w) A (getAttr (.ref a) f b) Q E s:=by
 obtain⟨⟨vs,sl,ha⟩,_,_⟩:=(show aO X.prog X.w H s.heap a (XGot C a dx)from I.hok a _ e);obtain⟨⟨zr,mA,hns,rel,wi⟩,_,_⟩:=(show aO X.prog X.w H s.heap dx (XDic dx fs)from I.hok dx _ ed);obtain⟨od,hod,hlk⟩:=mq hns;have J:InstAt s.heap a _ C (some od):=⟨ha,rfl,rfl,hod⟩;obtain⟨u,hu,ru⟩:=RelO.some_of (v:=v) (o:=mA f) (by rw[<- l];exact rel f);have hf:PySem.W.findObj X.K C (some od) f=some (.value u):=PySem.W.findObj_own c.hd n rfl (by rw[hlk,hu]);have K0:=I.kIn;have I1:=I.tok (s.toks+1);obtain⟨hp,g,d,t,os⟩:=s;have L0:=J.type (M:=model X.prog X.w);have L1:=looks_findIn (M:=model X.prog X.w) K0 c.ga;have L2:=looks_findIn (M:=model X.prog X.w) K0 c.gn;unfold getAttr getAttrBy;refine wpAny_bind (wpAny_mkText (wpAny_holding (wpAny_bind (L0.at (wpAny_bind (L1.at ?_))))));dsimp only;rw[if_neg (by rw[show(Value.builtin "BaseException.__getattribute__"==Value.builtin "object.__getattribute__")=false by left,Bool.and_false];exact Bool.false_ne_true)];unfold getAttrByItsOwn hookBefore;refine wpAny_bind (L2.at ?_);have hb:callGetattribute (Value.ref a) (Value.str f t) (Value.builtin "BaseException.__getattribute__") b=boundAndCalled (Value.builtin "BaseException.__getattribute__") (.ref a) (.str f t):=by cases b<;>rfl
 rw[hb];refine wpAny_bind (wpAny_attempt (wpAny_holding ?_));unfold boundAndCalled;have G:=PySem.F.attr_Exception;rw[G.ga.bind];refine wpAny_bind (wpAny_pure (wpAny_call ?_));refine x_90 c.obj λnm q N bs sn sub ab col dd zz0=>?_;refine x_50 zz0 λk0 k1 k2 k3 k5 lk=>?_;have hcd:clsIn X.K C=some {name:=nm,bases:=bs,mro:= .ref C::dm,ns:=N,qualname:=q,hasDict:=true,slotNames:=sn,subclasses:=sub,abstract:=ab,collection:=col,hasDel:=false}:=by
  unfold clsIn;rw[lk]
 have isB:Looks (model X.prog X.w) hp (isInstance (.ref a) (.type "BaseException")) true:=L0.andThen (PySem.W.looks_mroIn K0 (by unfold mroIn;rw[hcd,Option.bind_some];rfl));refine codeAny_call_builtin G.ga.plain PySem.F.entry_bexc_ga (@PySem.W.check_slot (model X.prog X.w) _ _ ⟨hp,g,d,t+1,os⟩ "BaseException.__getattribute__" "BaseException" "__getattribute__" (.ref a) [.str f t] [] _ (by left) (by left) isB (PySem.F.args_bexc_ga _ _) ?_);have L3:=PySem.W.looks_find (M:=model X.prog X.w) K0 J hf;unfold Builtin.«object.__getattribute__»;refine wpAny_bind (wpAny_pure (wpAny_bind (wpAny_pure (wpAny_bind (L0.at (wpAny_bind (L3.at (wpAny_pure ?_))))))));show wpAny _ _ (handedOut u) _ _ _;rw[PySem.W.handedOut_of (mr ru)];exact wpAny_pure (h u _ I1 ru)
end
def oa(K:Frag)(ta tv:TE)(f:Str):TS:=λD σ H=>tv σ H λy H1=>ta σ H1 λx H2=>∃a C f₀,x=.ref a/\H2 a=some (XNew C a none)/\XCls K C f₀/\aN K C f /\
 ∀dx,H2 dx=none->dx≠a->D.nx σ (upd (upd H2 dx (XDic dx [(f,y)])) a (XNew C a (some dx)))
def og(K:Frag)(ta tv:TE)(f:Str):TS:=λD σ H=>tv σ H λy H1=>ta σ H1 λx H2=>∃a C f₀ dx fs,x=.ref a/\H2 a=some (XNew C a (some dx))/\H2 dx=some (XDic dx fs)/\XCls K C f₀/\aN K C f/\fs.length<1000 /\
 D.nx σ (upd H2 dx (XDic dx (putF f y fs)))
def eE(K:Frag)(ta:TE)(f:Str):TE:=λσ H Q=>ta σ H λx H1=>∃a C f₀ dx fs v,x=.ref a/\H1 a=some (XGot C a dx)/\H1 dx=some (XDic dx fs)/\XCls K C f₀/\aN K C f/\fs.lookup f=some v/\Q v H1
section
variable{X:Cx}{o e value:Expr}{f:Str}{pos pos':Pos}{ta tv:TE}
theorem u6(ha:PE X o ta)(hv:PE X value tv)(hs:swapsWith value (some (.Attribute o f pos')) pos.line X.env=pure false):PS X (.Assign [.Attribute o f pos'] value pos) (oa X.K ta tv f):=by
 intro zz s σ H D I h;refine plainObj_wpAny_Assign_Attribute (thn (hv zz s σ H _ I h) λu s1 ⟨y,H1,I1,ry,q⟩=>thn (ha zz s1 σ H1 _ I1 q) λov s2 zq=>?_) hs;refine x_22 zq λx H2 I2 rx zz0=>?_;refine x_34 zz0 λa C f₀ ex ea c n q2=>?_;subst ex;obtain rfl:ov=Value.ref a:=rx;exact uY I2 ea c n ry λdx s3 h1 h2 I3=>⟨σ,_,I3,q2 dx h1 h2⟩
theorem u7(ha:PE X o ta)(hv:PE X value tv)(hs:swapsWith value (some (.Attribute o f pos')) pos.line X.env=pure false):PS X (.Assign [.Attribute o f pos'] value pos) (og X.K ta tv f):=by
 intro zz s σ H D I h;refine plainObj_wpAny_Assign_Attribute (thn (hv zz s σ H _ I h) λu s1 ⟨y,H1,I1,ry,q⟩=>thn (ha zz s1 σ H1 _ I1 q) λov s2 zq=>?_) hs;refine x_22 zq λx H2 I2 rx zz0=>?_;refine x_50 zz0 λa C f₀ dx fs zy=>x_06 zy λex ea ed c n l q2=>?_;subst ex;obtain rfl:ov=Value.ref a:=rx;exact uZ I2 ea ed c n l ry λs3 I3=>⟨σ,_,I3,q2⟩
theorem iA(he:PE X e ta)(hb:attributeBase e f X.env (eval e X.env)=eval e X.env):PE X (.Attribute e f pos) (eE X.K ta f):=by
 intro zz s σ H Q I h;refine my hb (thn (he zz s σ H _ I h) λu s1 zq=>?_);refine x_22 zq λx H1 I1 rx zz0=>?_;refine x_60 zz0 λa C f₀ dx fs v zy=>x_06 zy λex ea ed c n l q=>?_;subst ex;obtain rfl:u=Value.ref a:=rx;exact u5 I1 ea ed c n l λu' s2 I2 ru=>⟨v,H1,I2,ru,q⟩
end
noncomputable def del(H:Hp)(p:Addr):Hp:=λb=>if b=p then none else H b
theorem iB{H:Hp}{p:Addr}:del H p p=none:=by
 unfold del;rw[if_pos rfl]
theorem c0{H:Hp}{p b:Addr}(h:b≠p):del H p b=H b:=by
 unfold del;rw[if_neg h]
section
variable{M:Model}{A:Around}{E:zQ}{s:Shared}{env:Env}{K:Frag}{C f:Addr}
theorem u9{x:Sem Value}{Q:Flow->Shared->Prop}(hh:A.handled=none)(c:XCls K C f)
  (go:wpAny M A x (λv s₁=>∃e d t,v=.ref e/\K.In s₁.heap/\s₁.heap.get? e=some {cls:= .ref C,dict:=d,data:= .fields #[.ref t,.none,.none,.none,.bool false,.none]}/\E (.ref e) s₁) E s) :
  wpAny M A (raiseStmt env (some x) none) Q E s:=by
 obtain⟨nm,q,N,bs,sn,sub,ab,col,dd,k0,k1,k2,k3,k5,lk⟩:=c.obj;have isB:(Value.ref C::dm).contains (.type "BaseException")=true:=by rw[List.contains_cons,PySem.F.excBase_Exception.hasBase,Bool.or_true]
 unfold raiseStmt;refine wpAny_bind (wpAny_mono go (λv s₁ z=>?_) λ_ _ z=>z);refine x_33 z λe d t zr3 KX atE hE=>?_;subst zr3;have atC:=KX _ _ lk;obtain⟨hp,g,dr,tk,os⟩:=s₁
 repeat (first|(with_reducible refine wpAny_loadPart_at atE ?_)|(with_reducible refine wpAny_loadPart_at atC ?_)|((with_reducible refine wpAny_isSubtype_exc atC ?_);rw[isB])|wp_step)
 exact wpAny_raiseNew_none hh hE
end
def dq(C:Addr)(sp:Sp)(t:TA)(E:XK):TS:=λ_ σ H=>t σ H λvs H1=>vs.length<=sizeLine/\∀a,H1 a=none ->
 sp (.ref a::vs) (upd H1 a (XNew C a none)) (λv H2=>v=.non/\∃dx fs,H2 a=some (XNew C a (some dx))/\H2 dx=some (XDic dx fs)/\E (.ref C) (some dx) (del H2 a)) λ_ _ _=>False
def oh(X:Cx)(E:XK):Prop:=∀(zz:zP) (σ:St) (H:Hp) (s:Shared) (C a dx:Addr) (fs:List (Str×V)),Inv X zz σ H s->X.s_0.heap.objs.size<=a ->
 H a=some (XNew C a (some dx))->H dx=some (XDic dx fs)->E (.ref C) (some dx) (del H a)->X.xe (.ref a) s
theorem Inv.madeX{X:Cx}{zz:zP}{σ:St}{H:Hp}{s:Shared}{C:Addr}{us:List Value}(I:Inv X zz σ H s):Inv X zz σ (upd H (s.heap.objs.size+1) (XNew C (s.heap.objs.size+1) none)) {s with heap:=dM s.heap C us}:=
 I.laid (a:=s.heap.objs.size+1) (o:=XNew C (s.heap.objs.size+1) none) (t':=s.toks) (λb u q=>nV q) (le_succ _) (nZ nW)
section
variable{X:Cx}{k:Nat}{f C:Addr}{fd:FuncData}{ps:List Str}{sp:Sp}{E:XK}{x:Str}{p pos zn:Pos}{e:Expr}{es:List Expr}{t:TA}
theorem runX{zz:zP}{σ:St}{H:Hp}{s:Shared}{us:List Value}{vs:List V}{Q:Addr->Hp->Prop}(c:XCls X.K C f)(F:FnOk X.prog X.w X.K X.mg X.base CX0 k f fd ps sp)(hr:Room (k+1) X.A)(hb:aW X.K fd ps [])
  (I:Inv X zz σ H s)(r:Vals vs us)(hl:vs.length<=sizeLine)(h:∀a,H a=none->sp (.ref a::vs) (upd H a (XNew C a none)) (λv H2=>v=.non/\Q a H2) λ_ _ _=>False) :
  wpAny (model X.prog X.w) X.A (call (.ref C) us) (λv s'=>∃a H',v=.ref a/\X.s_0.heap.objs.size<=a/\Inv X zz σ H' s'/\Q a H') X.xe s:=by
 have hq:=h (s.heap.objs.size+1) (I.hok.fresh (le_succ _));have I2:=Inv.madeX (C:=C) (us:=us) I;have r2:Vals (V.ref (s.heap.objs.size+1)::vs) (Value.ref (s.heap.objs.size+1)::us):= .cons rfl r;have hl2:(Value.ref (s.heap.objs.size+1)::us++[]).length=ps.length:=by
  rw[append_nil,<- r2.length];exact F.len _ _ _ _ hq
 have hb2:=hb {s with heap:=dM s.heap C us} (Value.ref (s.heap.objs.size+1)::us) I2.kIn hl2;rw[append_nil]at hb2;refine wpAny_call (uX (f:=f) I.kIn c (by rw[<- r.length];exact hl) (codeAny_mono (F.run _ X.stack _ _ ⟨Value.ref (s.heap.objs.size+1)::us,[]⟩ (Value.ref (s.heap.objs.size+1)::us) _ _ _ (hr.make C us [])
  (I2.env0.make C us []) hb2 r2 hq) λr s' hq'=>?_))
 cases r with
 |error e=>exact False.elim hq'
 |ok fl =>
 cases fl with
 |ret u =>
  refine x_23 (I2.after hq') λv H' I3 rv ev q3=>?_;subst ev;exact⟨rv,_,H',rfl,Nat.le_trans I.sz (le_succ _),I3,q3⟩
 |next=>exact False.elim hq'
 |brk=>exact False.elim hq'
 |cont=>exact False.elim hq'
theorem dN(c:XCls X.K C f)(F:FnOk X.prog X.w X.K X.mg X.base CX0 k f fd ps sp)(hr:Room (k+1) X.A)(hg:Gl X x)(hm:X.mg x=some (.ref C))(hb:aW X.K fd ps [])(hx:oh X E)(hc:X.calm=true)
  (ha:PA X (e::es) t)(hdb:(x==("__debug__":Str))=false:=by decide)(he:starEach (e::es) X.env=(false,eval e X.env)::starEach es X.env:=by rfl)(hpl:(backTo zn (starEach es X.env)).any (·.1)=false:=by rfl) :
  PS X (.Raise (some (.Call (.Name x p) (e::es) [] zn)) none pos) (dq C sp t E):=by
 intro zz s σ H D I h;have key:wpAny (model X.prog X.w) X.A (eval (.Call (.Name x p) (e::es) [] zn) X.env) (λv s₁=>∃e d t,v=.ref e/\X.K.In s₁.heap/\s₁.heap.get? e=some {cls:= .ref C,dict:=d,data:= .fields #[.ref t,.none,.none,.none,.bool false,.none]}/\X.xe (.ref e) s₁) X.xe s:=by
  refine wpAny_Call_Name_kw (eA I hg hm ?_ hdb);refine callWith_K (h₀:=X.base) I.ok.mod.kin c.kp (thn (ha zn zz s σ H _ I h) λus s1 ⟨vs,H1,I1,r,hl,q⟩=>⟨I1.kIn,?_⟩) he hpl;refine thn (runX c F hr hb I1 r hl q) λv s2 zq=>?_;refine x_23 zq λa H2 ev hs I2 zz0=>?_;refine x_22 zz0 λdx fs h1 h2 h3=>?_;obtain⟨⟨t,hat⟩,_,_⟩:=(show aO X.prog X.w H2 s2.heap a (XNew C a (some dx))from I2.hok a _ h1);exact⟨a,some dx,t,ev,I2.kIn,hat,hx zz σ H2 s2 C a dx fs I2 hs h1 h2 h3⟩
 rw[arm_exec_Raise];exact wpAny_bind (wpAny_standAt (u9 (I.ok.hd hc) c (wpAny_bind (wpAny_mono key (λv s₁ z=>wpAny_bind (wpAny_standAt (wpAny_pure z))) λ_ _ z=>z))))
end
end
section
open PySem.W (InstAt Looks)
structure Noted(l:List Env)(e:Addr)(old:Option Addr)(fl:Value)(h h':Heap):Prop where
 keep:∀b o,b≠e->some b≠old->b∉frs l->h.get? b=some o->h'.get? b=some o
 slot:∀b o,b≠e->some b≠old->h.get? b=some o->∃sl,h'.get? b=some {o with slots:=sl}
 there:∀b o,h.get? b=some o->∃o',h'.get? b=some o'
 exc:∀oe vs,h.get? e=some oe->oe.data=.fields vs->∃vs' T oT ts,h'.get? e=some {oe with data:= .fields vs' }/\vs'[1]? = some (.ref T)/\h.objs.size<=T/\T≠e/\h'.get? T=some oT/\oT.data=.fields ts/\ts[3]? = some fl
section
variable{M:Model}{A:Around}{E:zQ}{s:Shared}
theorem va{o:Obj}{vs:Array Value}(d:o.data=.fields vs)(g:Array Value->Array Value):Obj.mapFields g o={o with data:= .fields (g vs)}:=by
 obtain⟨c,dd,dt,sl⟩:=o;dsimp only at d;subst d;rfl
theorem oj{base:Heap}{env:Env}{outer:List Env}{L e:Addr}{oe:Obj}{vs:Array Value}{head:Value}{nx:Bool}{Q:Unit->Shared->Prop}
  (hfr:A.frames=some (env::outer))(hl:s.heap.FunFrames base (env::outer))(hf:env.frame=some L)(he:s.heap.get? e=some oe)(hd:oe.data=.fields vs)(hz:1<vs.size)
  (go:∀h',Noted (env::outer) e none (rawInt L) s.heap h'->Q () {s with heap:=h' }) :
  wpAny M A (do let a <- frameOf env;let pl <- entryPlaceOf L nx;let b <- EntryCells.newEntry head a .none (rawInt L) .none pl;setField (.ref e) 1 b) Q E s:=by
 have nfr:e∉frs (env::outer):=λhm=>by
  obtain⟨_,o,ho,nf⟩:=hl.mem hm;rw[he]at ho;cases ho;exact nf vs hd
 refine wpAny_bind (wpAny_frameOf_fun hfr hl hf λh₁ so=>wpAny_bind (wpAny_entryPlaceOf λpl hpl=>?_));unfold EntryCells.newEntry newFields;refine wpAny_bind (wpAny_newObj_type ?_ (hpl.sizeOk5 _ _ _ _ _));have e1:h₁.get? e=some oe:=(so.2.1 e nfr).trans he;have e2:=get?_push_of_some {cls:= .type "traceback",dict:=none,data:= .fields ([head,.ref L,.none,rawInt L,.none]++(if pl.isEmpty then List.replicate 6 Value.none else pl)).toArray} e1;have nT:h₁.objs.size≠e:=ne_of_gt (lt_size e1);have hfd:=Obj.isFreed_of_fields (Obj.data_mapFields hd (·.setIfInBounds 1 (Value.ref h₁.objs.size)));refine wpAny_setField e2 hd hz (go _ ⟨λb o hb _ hn q=>?_,λb o hb _ q=>?_,λb o q=>?_,λoe' vs' q1 q2=>?_⟩)
 ·rw[get?_update_other _ _ (Ne.symm hb)]
  exact get?_push_of_some _ ((so.2.1 b hn).trans q)
 ·obtain⟨sl,z⟩:=so.2.2 b o q
  exact⟨sl,by rw[get?_update_other _ _ (Ne.symm hb)];exact get?_push_of_some _ z⟩
 ·by_cases hb:b=e
  ·subst hb
   exact⟨_,get?_update_self _ e2 hfd⟩
  obtain⟨sl,z⟩:=so.2.2 b o q;exact⟨_,by rw[get?_update_other _ _ (Ne.symm hb)];exact get?_push_of_some _ z⟩
 rw[he]at q1;cases q1;rw[hd]at q2;cases q2;have atT:((h₁.push {cls:= .type "traceback",dict:=none,data:= .fields ([head,.ref L,.none,rawInt L,.none]++(if pl.isEmpty then List.replicate 6 Value.none else pl)).toArray}).update e (Obj.mapFields (·.setIfInBounds 1 (Value.ref h₁.objs.size)))).get? h₁.objs.size
   = some {cls:= .type "traceback",dict:=none,data:= .fields ([head,.ref L,.none,rawInt L,.none]++(if pl.isEmpty then List.replicate 6 Value.none else pl)).toArray}:=by
  rw[get?_update_other _ _ (Ne.symm nT)];exact get?_push_size h₁ rfl
 refine⟨vs.setIfInBounds 1 (Value.ref h₁.objs.size),h₁.objs.size,_,([head,.ref L,.none,rawInt L,.none]++(if pl.isEmpty then List.replicate 6 Value.none else pl)).toArray,?_,by simp[hz],Nat.le_of_eq so.1.symm,nT,atT,rfl,?_⟩
 ·rw[<- va hd (·.setIfInBounds 1 (Value.ref h₁.objs.size))]
  exact get?_update_self _ e2 hfd
 first|(simp;done)|(rcases hpl with rfl|⟨_,_,_,_,_,_,_,rfl⟩<;>simp)
def om(h:Heap)(e:Addr)(vs:Array Value)(old:Option Addr):Prop:=
 (old=none/\vs[1]? = some .none)\/∃T oT ts,old=some T/\vs[1]? = some (.ref T)/\T≠e/\h.get? T=some oT/\oT.data=.fields ts/\ts[3]? = some .none
theorem oo{base:Heap}{env:Env}{outer:List Env}{L e:Addr}{oe:Obj}{vs:Array Value}{old:Option Addr}{Q:Unit->Shared->Prop}
  (hfr:A.frames=some (env::outer))(hl:s.heap.FunFrames base (env::outer))(hf:env.frame=some L)(he:s.heap.get? e=some oe)(hd:oe.data=.fields vs)(la:om s.heap e vs old)
  (go:∀h',Noted (env::outer) e old (rawInt L) s.heap h'->Q () {s with heap:=h' }):wpAny M A (noteFrame (.ref e) env) Q E s:=by
 unfold noteFrame;simp only[hf];rcases la with⟨rfl,h1⟩|⟨T,oT,ts,rfl,h1,nTe,hT,dT,h3⟩
 ·refine wpAny_bind (wpAny_field he hd h1 ?_)
  rw[if_neg (by decide)];exact oj hfr hl hf he hd (Array.getElem?_eq_some_iff.mp h1).1 go
 refine wpAny_bind (wpAny_field he hd h1 ?_);rw[if_pos (show(Value.ref T != Value.none)=true by simp)];refine wpAny_bind (wpAny_field hT dT h3 ?_);rw[if_neg (show ¬((Value.none==rawInt L)=true)by simp[rawInt])];refine wpAny_bind (wpAny_setField hT dT (Array.getElem?_eq_some_iff.mp h3).1 ?_);have oth:∀b,b≠T->(s.heap.update T (Obj.mapFields (·.setIfInBounds 3 Value.none))).get? b=s.heap.get? b:=λb hb=>get?_update_other _ _ (Ne.symm hb);have atT:=get?_update_self (Obj.mapFields (·.setIfInBounds 3 Value.none)) hT (Obj.isFreed_of_fields (Obj.data_mapFields dT _));refine oj (s:={s with heap:=s.heap.update T (Obj.mapFields (·.setIfInBounds 3 Value.none))}) hfr (hl.of_keeps λb o hb nf=>⟨o,(oth b λq=>?_).trans hb,rfl⟩) hf ((oth e (Ne.symm nTe)).trans he) hd (Array.getElem?_eq_some_iff.mp h1).1
  λh' n=>go h' ⟨λb o hb ho hn q=>n.keep b o hb (by simp) hn ((oth b λz=>ho (by rw[z])).trans q),λb o hb ho q=>n.slot b o hb (by simp) ((oth b λz=>ho (by rw[z])).trans q),λb o q=>?_,λoe' vs' q1 q2=>?_⟩
 ·subst q
  rw[hT]at hb;cases hb;exact nf ts dT
 ·by_cases hb:b=T
  ·subst hb
   exact n.there b _ atT
  exact n.there b o ((oth b hb).trans q)
 refine x_40 (n.exc oe' vs' ((oth e (Ne.symm nTe)).trans q1) q2) λvs2 T2 oT2 ts2 zy=>x_03 zy λz1 z2 z3 z=>?_;exact⟨vs2,T2,oT2,ts2,z1,z2,Nat.le_trans (Nat.le_of_eq (Heap.size_after_update ..).symm) z3,z⟩
theorem j8{h:Heap}{l:List Env}{e:Addr}{old:Option Addr}{fl:Value}{oe:Obj}{vs:Array Value}{Q:Unit->Shared->Prop}(he:h.get? e=some oe)(hd:oe.data=.fields vs)(n:Noted l e old fl h s.heap)
  (go:∀h',Noted l e old .none h h'->Q () {s with heap:=h' }):wpAny M A (setFlight (.ref e) none) Q E s:=by
 obtain⟨vs',T,oT,ts,z1,z2,z3,z4,z5,z6,z7⟩:=n.exc oe vs he hd;have hz:3<ts.size:=(Array.getElem?_eq_some_iff.mp z7).1;unfold setFlight;refine wpAny_bind (wpAny_field z1 rfl z2 ?_);rw[if_pos (show(Value.ref T != Value.none)=true by simp)];refine wpAny_setField z5 z6 hz (go _ ?_);have oth:∀b,b≠T->(s.heap.update T (Obj.mapFields (·.setIfInBounds 3 ((none:Option Addr).elim Value.none λf=>rawInt f)))).get? b=s.heap.get? b:=λb hb=>get?_update_other _ _ (Ne.symm hb);have ne:∀b o,h.get? b=some o->b≠T:=λb o q=>Nat.ne_of_lt (Nat.lt_of_lt_of_le (lt_size q) z3);refine⟨λb o hb ho hn q=>(oth b (ne b o q)).trans (n.keep b o hb ho hn q),λb o hb ho q=>?_,λb o q=>?_,λoe' vs2 q1 q2=>?_⟩
 ·obtain⟨sl,z⟩:=n.slot b o hb ho q
  exact⟨sl,(oth b (ne b o q)).trans z⟩
 ·obtain⟨o',z⟩:=n.there b o q
  exact⟨o',(oth b (ne b o q)).trans z⟩
 rw[he]at q1;cases q1;rw[hd]at q2;cases q2;exact⟨vs',T,_,_,(oth e (Ne.symm z4)).trans z1,z2,z3,z4,get?_update_self _ z5 (Obj.isFreed_of_fields (Obj.data_mapFields z6 _)),Obj.data_mapFields z6 _,by simp[hz]⟩
end
structure Flown(h₀ h:Heap)(H:Hp)(a C d:Addr):Prop where
 new:h₀.objs.size<=a
 free:H a=none
 at_:∃vs sl T oT ts,h.get? a=some ⟨.ref C,some d,.fields vs,sl⟩/\vs[1]? = some (.ref T)/\T≠a/\h₀.objs.size<=T/\H T=none/\h.get? T=some oT/\oT.data=.fields ts/\ts[3]? = some .none
def CX1(P:Program)(w:World):CXT:=λouter H s E e s'=>∃a C d fs H',e=.ref a/\s'.os=s.os/\AllBare s'.gens/\Un (frs outer) [] H H' s.heap s'.heap/\HOk P w H' s'.heap/\Flown s.heap s'.heap H' a C d /\
 H' d=some (XDic d fs)/\E (.ref C) (some d) H'
theorem HOk.noted{P:Program}{w:World}{H:Hp}{h h':Heap}{l:List Env}{a:Addr}{old:Option Addr}{fl:Value}(x:HOk P w H h)(n:Noted l a old fl h h')(ha:H a=none)(ho:∀T,old=some T->H T=none)(hl:∀b∈frs l,H b=none):HOk P w H h':=λb o e=>by
 have k:∀c u,H c≠none->h.get? c=some u->h'.get? c=some u:=λc u q z=>n.keep c u (λr=>q (by rw[r];exact ha)) (λr=>q (ho c r.symm)) (λr=>q (hl c r)) z;refine(x b o e).stay (λc u hc q=>k c u ?_ q) (λ_ q=>q) λ_ _ q=>q;rcases hc with r|r
 ·rw[r,e]
  simp
 rw[r];simp
theorem Un.noted{fs':List Addr}{H₀ H:Hp}{h₀ h h':Heap}{l:List Env}{a:Addr}{old:Option Addr}{fl:Value}(u:Un fs' [] H₀ H h₀ h)(n:Noted l a old fl h h')(ha:h₀.get? a=none)(ho:∀T,old=some T->h₀.get? T=none)
  (hl:∀b∈frs l,b∈fs'\/h₀.get? b=none):Un fs' [] H₀ H h₀ h':=by
 have na:∀b o,h₀.get? b=some o->b≠a:=λb o q r=>by
  rw[r,ha]at q;cases q
 have no:∀b o,h₀.get? b=some o->some b≠old:=λb o q r=>by
  rw[ho b r.symm]at q;cases q
 refine⟨λb o q z hb hx=>n.keep b o (na b o q) (no b o q) (λr=>?_) (u.keep b o q z hb hx),λb o q z hb hx=>?_,u.free,λb o q hx=>?_,u.tups,u.frzs,u.tbls⟩
 ·rcases hl b r with r|r
  ·exact hb r
  rw[q]at r;cases r
 ·obtain⟨sl,e⟩:=u.slot b o q z hb hx
  obtain⟨sl',e'⟩:=n.slot b _ (na b o q) (no b o q) e;exact⟨sl',e'⟩
 obtain⟨o',e⟩:=u.there b o q hx;exact n.there b o' e
theorem Flown.noted{h₀ h h':Heap}{H:Hp}{P:Program}{w:World}{l:List Env}{a C d:Addr}{old:Option Addr}{vs:Array Value}{sl:Array (Option Value)}(hok:HOk P w H h)(sz:h₀.objs.size<=h.objs.size)(n:Noted l a old .none h h')
  (e:h.get? a=some ⟨.ref C,some d,.fields vs,sl⟩)(ha:h₀.objs.size<=a)(hf:H a=none):Flown h₀ h' H a C d:=by
 obtain⟨vs',T,oT,ts,z1,z2,z3,z4,z5,z6,z7⟩:=n.exc _ vs e rfl;exact⟨ha,hf,vs',sl,T,oT,ts,z1,z2,z4,Nat.le_trans sz z3,hok.fresh z3,z5,z6,z7⟩
end
section
open PySem.W (InstAt Looks)
theorem HOk.del{P:Program}{w:World}{H:Hp}{h:Heap}{a:Addr}{φ:Heap->Prop}(x:HOk P w H h)(e:H a=some (.ext φ)):HOk P w (del H a) h:=λb o q=>by
 have hb:b≠a:=λr=>by
  rw[r,iB]at q;cases q
 rw[c0 hb]at q;refine(x b o q).stay (λ_ _ _ z=>z) (λc z=>?_) λc xs z=>?_
 ·rw[c0 (λr=>by rw[r,e]at z;cases z)]
  exact z
 rw[c0 (λr=>by rw[r,e]at z;cases z)];exact z
theorem Un.del{fs ex:List Addr}{H₀ H:Hp}{h₀ h:Heap}{a:Addr}{φ:Heap->Prop}(u:Un fs ex H₀ H h₀ h)(e:H a=some (.ext φ)):Un fs ex H₀ (del H a) h₀ h:=by
 refine⟨u.keep,u.slot,λb o q z hx=>?_,u.there,λb xs q=>?_,λb o xs q=>?_,λb ps q=>?_⟩
 ·by_cases hb:b=a
  ·rw[hb,iB]
  rw[c0 hb];exact u.free b o q z hx
 ·have z:=u.tups b xs q
  rw[c0 (λr=>by rw[r,e]at z;cases z)];exact z
 ·have z:=u.frzs b o xs q
  rw[c0 (λr=>by rw[r,e]at z;cases z)];exact z
 obtain⟨m,z⟩:=u.tbls b ps q;rw[c0 (λr=>by rw[r,e]at z;cases z)];exact⟨m,z⟩
theorem j9{H:Hp}{a b:Addr}(h:H b=none):del H a b=none:=by
 by_cases hb:b=a
 ·rw[hb,iB]
 rw[c0 hb];exact h
theorem Inv.del{X:Cx}{zz:zP}{σ:St}{H:Hp}{s:Shared}{a:Addr}{φ:Heap->Prop}(I:Inv X zz σ H s)(e:H a=some (.ext φ)):Inv X zz σ (L2.del H a) s:=
 ⟨I.ok,I.os,I.bare,I.base.del e,I.loc,I.cell,j9 I.free,λx c q=>j9 (I.freeC x c q),λp hp=>let⟨h1,h2,h3⟩:=I.pin p hp;⟨h1,j9 h2,h3⟩,I.hok.del e,I.len⟩
section
variable{P:Program}{w:World}{K:Frag}{mg:zM}{base:Heap}{N:List Str}{qual:Str}{scope:Scope}{f:Addr}{cd:Value}{A:Around}{outer:List Env}{s₀:Shared}{H₀:Hp}{E:XK}
theorem oq{zz:zP}{σ:St}{H:Hp}{s:Shared}{a C d:Addr}{vs:Array Value}{sl:Array (Option Value)}{old:Option Addr}{fs:List (Str×V)}(I:Inv (cxOf (CX1 P w) P w K mg base N qual scope f cd A outer s₀ H₀ E) zz σ H s)
  (ha:s₀.heap.objs.size<=a)(hat:s.heap.get? a=some ⟨.ref C,some d,.fields vs,sl⟩)(la:om s.heap a vs old)(ho:∀T,old=some T->s₀.heap.objs.size<=T/\H T=none)(hf:H a=none)(hd:H d=some (XDic d fs))(q:E (.ref C) (some d) H) :
  (cxOf (CX1 P w) P w K mg base N qual scope f cd A outer s₀ H₀ E).xe (.ref a) s:=by
 have b1:Un (frs outer) [] H₀ H s₀.heap s.heap:=I.base;show wpAny _ _ (leaving _ (.ref a)) _ _ s;unfold leaving;refine wpAny_bind (oo (s:=s) I.ok.frames I.stack rfl hat rfl la λh1 n1=>?_);refine j8 (s:={s with heap:=h1}) (h:=s.heap) hat rfl n1 λh2 n2=>?_;refine⟨a,C,d,fs,H,rfl,I.os,I.bare,?_,?_,?_,hd,q⟩
 ·refine b1.noted n2 (get?_none_of_le ha) (λT z=>get?_none_of_le (ho T z).1) λb hb=>?_
  rcases mem_cons.mp (I.stkSub b hb)with e|hb
  ·refine .inr ?_
   rw[e];exact get?_none_of_le (Nat.le_refl _)
  exact .inl hb
 ·exact I.hok.noted n2 hf (λT z=>(ho T z).2) λb hb=>I.stkFree b hb
 exact Flown.noted I.hok I.sz n2 hat ha hf
theorem dP:oh (cxOf (CX1 P w) P w K mg base N qual scope f cd A outer s₀ H₀ E) E:=λzz σ H s C a dx fs I hs h1 h2 q=>by
 obtain⟨⟨t,hat⟩,_,_⟩:=(show aO P w H s.heap a (XNew C a (some dx))from I.hok a _ h1);have nd:dx≠a:=λz=>by
  obtain⟨_,mA,⟨o,es,ep,ho,hd,_⟩,_⟩:=(show aO P w H s.heap dx (XDic dx fs)from I.hok dx _ h2).1;rw[z,hat]at ho;cases ho;cases hd
 exact oq (old:=none) (I.del h1) hs hat (.inl ⟨rfl,rfl⟩) (λT z=>nomatch z) iB (by rw[c0 nd];exact h2) q
theorem bS:bQ (CX1 P w) (cxOf (CX1 P w) P w K mg base N qual scope f cd A outer s₀ H₀ E) E:=λzz σ H s e s' I z=>by
 refine x_50 z λa C d fs H' zy=>x_07 zy λzr5 os bare un hok zn10 hd q=>?_;subst zr5;obtain⟨new,free,vs,sl,T,oT,ts,hat,h1,nT,nT0,fT,hT,dT,h3⟩:=zn10;have I':=I.call' (ch:=[]) os un hok bare (λb z=>absurd z (by simp));exact oq (old:=some T) I' (Nat.le_trans I.sz new) hat (.inr ⟨T,oT,ts,rfl,h1,nT,hT,dT,h3⟩) (λT' z=>by cases z;exact⟨Nat.le_trans I.sz nT0,fT⟩) free hd q
theorem iC:PassesOwn (model P w) (cxOf (CX1 P w) P w K mg base N qual scope f cd A outer s₀ H₀ E).A (cxOf (CX1 P w) P w K mg base N qual scope f cd A outer s₀ H₀ E).env (cxOf (CX1 P w) P w K mg base N qual scope f cd A outer s₀ H₀ E).xe:=PassesOwn.leaving
theorem Fun.okX{x:Str}{st:Stmt}{fd:FuncData}{ps:List Str}{k:Nat}{sp:Sp}(F:Fun K x qual st f fd)(S:FnScope N ps (aq st))
  (hbody:∀(cdv:Value) (A:Around) (outer:List Env) (s:Shared) (H:Hp) (vs:List V) (Q:VK) (E:XK),Room k (A.deeper (envOfC qual (aq st) s.heap.objs.size f cdv))->sp vs H Q E ->
   ∃t,PSs (cxOf (CX1 P w) P w K mg base N qual (aq st) f cdv A outer s H E) (cJ st) t/\t {nx:=λ_ H'=>Q .non H',rt:=Q} (start N vs) H)(len:∀vs H Q E,sp vs H Q E->vs.length=ps.length:=by intro _ _ _ _ h;repeat first|(cases h;rfl)|(obtain⟨rfl,_⟩:=h;rfl)|(obtain⟨_,h⟩:=h)):FnOk P w K mg base (CX1 P w) (k+1) f fd ps sp:=by
 refine x_90 F.ex λoc od kV doc pm an cdv ct osl zy=>x_02 zy λzr9 lk hcd=>?_;subst zr9;exact jG lk hcd S len λA outer s H vs Q E hr hsp=>hbody cdv A outer s H vs Q E hr hsp
end
end
section
open PySem.W (InstAt Looks)
abbrev Cx.pinned(X:Cx)(pn:zP)(E:zQ):Cx:={X with pn:=pn,xe:=E}
abbrev Cx.hand(X:Cx)(a:Addr):Cx:={X with A:=X.A.mark (some (.ref a)),calm:=false,xe:=λ_ _=>False}
section
variable{X:Cx}{zz:zP}{σ:St}{H:Hp}{s:Shared}{E:zQ}{a:Addr}
theorem Inv.pin_in(I:Inv X zz σ H s):Inv (X.pinned (X.pn++zz) E) [] σ H s:=
 ⟨⟨I.ok.mod,I.ok.kind,I.ok.glob,I.ok.blt,I.ok.above,I.ok.inj,I.ok.has,I.ok.cab,I.ok.hd,I.ok.frames,I.ok.stk,I.ok.exf,I.ok.bs,I.ok.bsz,I.ok.noex,I.ok.exfs,I.ok.funs,I.ok.frf⟩,I.os,I.bare,I.base,I.loc,I.cell,I.free,I.freeC,λp hp=>I.pin p (by simpa using hp),I.hok,I.len⟩
theorem Inv.pin_out{pins':zP}(I:Inv (X.pinned (X.pn++zz) E) pins' σ H s):Inv X zz σ H s:=
 ⟨⟨I.ok.mod,I.ok.kind,I.ok.glob,I.ok.blt,I.ok.above,I.ok.inj,I.ok.has,I.ok.cab,I.ok.hd,I.ok.frames,I.ok.stk,I.ok.exf,I.ok.bs,I.ok.bsz,I.ok.noex,I.ok.exfs,I.ok.funs,I.ok.frf⟩,I.os,I.bare,I.base,I.loc,I.cell,I.free,I.freeC,λp hp=>I.pin p (mem_append_left _ hp),I.hok,I.len⟩
theorem Inv.hand_in(I:Inv X zz σ H s)(a:Addr):Inv (X.hand a) zz σ H s:=
 ⟨⟨I.ok.mod,I.ok.kind,I.ok.glob,I.ok.blt,I.ok.above,I.ok.inj,I.ok.has,I.ok.cab,λz=>Bool.noConfusion z,I.ok.frames,I.ok.stk,I.ok.exf,I.ok.bs,I.ok.bsz,I.ok.noex,I.ok.exfs,I.ok.funs,I.ok.frf⟩,I.os,I.bare,I.base,I.loc,I.cell,I.free,I.freeC,I.pin,I.hok,I.len⟩
theorem Inv.hand_out(ok:X.Ok)(I:Inv (X.hand a) zz σ H s):Inv X zz σ H s:=⟨ok,I.os,I.bare,I.base,I.loc,I.cell,I.free,I.freeC,I.pin,I.hok,I.len⟩
theorem SP.pin_out{D:Ends}{f:Flow}(h:SP (X.pinned (X.pn++zz) E) [] D f s):SP X zz D f s:=by
 cases f with
 |next=>obtain⟨σ',H',I,q⟩:=h;exact⟨σ',H',I.pin_out,q⟩
 |brk=>obtain⟨σ',H',I,q⟩:=h;exact⟨σ',H',I.pin_out,q⟩
 |cont=>obtain⟨σ',H',I,q⟩:=h;exact⟨σ',H',I.pin_out,q⟩
 |ret u=>obtain⟨v,σ',H',I,r,q⟩:=h;exact⟨v,σ',H',I.pin_out,r,q⟩
theorem Inv.noted{old:Option Addr}{fl:Value}{h':Heap}{t':Nat}(I:Inv X zz σ H s)(n:Noted X.stack a old fl s.heap h')(ha:H a=none)(ho:∀T,old=some T->H T=none)
  (hx:∀b,b=a\/some b=old->X.s_0.heap.objs.size<=b/\b≠X.env.locals/\(∀x c,X.env.cells.lookup x=some c->c≠b)/\∀p∈X.pn++zz,p.1≠b):Inv X zz σ H {s with heap:=h',toks:=t' }:=by
 have mem:∀b,b∈a::old.toList->b=a\/some b=old:=λb hb=>by
  rcases mem_cons.mp hb with e|e
  ·exact .inl e
  cases old with
  |none=>simp at e
  |some T=>exact .inr (by simpa using e)
 have nch:∀b,b∉a::old.toList->b≠a/\some b≠old:=λb hb=>⟨λz=>hb (by simp[z]),λz=>hb (by rw[<- z];simp)⟩;refine I.step (g':=s.gens) (d':=s.drawn) (ch:=a::old.toList) (λb hb=>let⟨h1,h2,h3,h4⟩:=hx b (mem b hb);⟨.inr h1,h2,h3,h4⟩) (λb o hL hb hc q _=>n.keep b o (nch b hc).1 (nch b hc).2 (λz=>?_) q)
  (λb o _ _ hc q _=>n.slot b o (nch b hc).1 (nch b hc).2 q) (λb o _ _ z=>z) (λb o _ q=>n.there b o q) (λ_ _ z=>z) (λ_ _ _ z=>z) (λb ps z=>⟨#[],by rw[z];simp⟩) (λm hm=>?_)
  (I.hok.noted n ha ho λb hb=>I.stkFree b hb) I.bare
 ·rcases mem_cons.mp (I.stkSub b z)with e|e
  ·exact hL e
  exact hb e
 obtain⟨o,es,ep,ho',r⟩:=hm;have nl:X.env.locals≠a/\some X.env.locals≠old:=⟨λz=>(hx _ (.inl z)).2.1 rfl,λz=>(hx _ (.inr z)).2.1 rfl⟩;obtain⟨sl,e⟩:=n.slot _ o nl.1 nl.2 ho';exact⟨_,es,ep,e,r⟩
theorem Inv.unbound{h':Heap}{m':zM}{t':Nat}(I:Inv X zz σ H s)(hn:h'.Ns X.env.locals m')(sb:Heap.SameBut X.env.locals s.heap h'):Inv X zz (List.replicate X.N.length none) H {s with heap:=h',toks:=t' }:=by
 have old:∀b o,X.s_0.heap.get? b=some o->h'.get? b=s.heap.get? b:=λb o q=>sb.2 b (Nat.ne_of_lt (Nat.lt_of_lt_of_le (lt_size q) I.ok.above));refine⟨I.ok,I.os,I.bare,⟨λb o q z hb hx=>(old b o q).trans (I.base.keep b o q z hb hx),λb o q z hb hx=>?_,I.base.free,λb o q hx=>?_,I.base.tups,I.base.frzs,I.base.tbls⟩,⟨m',hn,λi x v _ e2 _=>?_⟩,λx c e=>?_,I.free,I.freeC,λp hp=>?_,λb ob e=>?_,by simp⟩
 ·obtain⟨sl,e⟩:=I.base.slot b o q z hb hx
  exact⟨sl,(old b o q).trans e⟩
 ·obtain⟨o',e⟩:=I.base.there b o q hx
  exact⟨o',(old b o q).trans e⟩
 ·rw[List.getElem?_replicate]at e2
  split at e2<;>cases e2
 ·obtain⟨v,z⟩:=I.cell x c e
  exact⟨v,z.sameBut sb (I.cne x c e)⟩
 ·refine x_03 (I.pin p hp) λh1 h2 h3 h4=>?_
  exact⟨(sb.2 p.1 h3).trans h1,h2,h3,h4⟩
 refine(I.hok b ob e).stay (λc u hc q=>(sb.2 c λz=>?_).trans q) (λ_ q=>q) λ_ _ q=>q;rcases hc with r|r
 ·rw[<- r,z,I.free]at e
  cases e
 rw[z,I.free]at r;cases r
theorem Inv.track{o:HO}(I:Inv X zz σ H s)(hn:H a=none)(hx:X.s_0.heap.objs.size<=a/\a≠X.env.locals/\(∀x c,X.env.cells.lookup x=some c->c≠a)/\∀p∈X.pn++zz,p.1≠a)(ok:aO X.prog X.w (upd H a o) s.heap a o):Inv X zz σ (upd H a o) s:=by
 have na:∀b u,H b=some u->b≠a:=λb u q=>aF q hn;refine⟨I.ok,I.os,I.bare,⟨I.base.keep,I.base.slot,λb u q z hb=>?_,I.base.there,λb xs q=>?_,λb u xs q=>?_,λb ps q=>?_⟩,I.loc,I.cell,?_,λx c e=>?_,λp hp=>?_,λb u q=>?_,I.len⟩
 ·rw[ao (Nat.ne_of_lt (Nat.lt_of_lt_of_le (lt_size q) hx.1))]
  exact I.base.free b u q z hb
 ·have z:=I.base.tups b xs q
  rw[ao (na _ _ z)];exact z
 ·have z:=I.base.frzs b u xs q
  rw[ao (na _ _ z)];exact z
 ·obtain⟨m,z⟩:=I.base.tbls b ps q
  exact⟨m,by rw[ao (na _ _ z)];exact z⟩
 ·rw[ao (Ne.symm hx.2.1)]
  exact I.free
 ·rw[ao (hx.2.2.1 x c e)]
  exact I.freeC x c e
 ·obtain⟨h1,h2,h3⟩:=I.pin p hp
  exact⟨h1,by rw[ao (hx.2.2.2 p hp)];exact h2,h3⟩
 by_cases hb:b=a
 ·subst hb
  rw[ai]at q;cases q;exact ok
 rw[ao hb]at q;exact(I.hok b u q).stay (λ_ _ _ z=>z) (λc z=>by rw[ao (na _ _ z)];exact z) λc xs z=>by rw[ao (na _ _ z)];exact z
end
def ot(X:Cx)(C:Addr)(i:Nat)(ts:TS)(D:Ends):XK:=λcls d H=>cls=.ref C/\∀a dx,d=some dx->H a=none->ts {nx:=λ_ _=>False,rt:=D.rt} ((List.replicate X.N.length none).set i (some (.ref a))) (upd H a (XGot C a dx))
section
variable{X:Cx}{C f:Addr}{i:Nat}{cx nm:Str}{np hpos pos:Pos}{body suite:List Stmt}{b₀:Stmt}{ts:TS}{tb:Ends->TS}
theorem ou{hn:Option Str}{hE:Ends->XK}(hC:∀D cls d H,hE D cls d H->cls=.ref C)(c:XCls X.K C f)(hg:Gl X cx)(hm:X.mg cx=some (.ref C))(hstk:X.stack=X.env::X.outer)(hfr:X.env.frame=some X.env.locals)
  (hb:∀(pn:zP) (E:zQ) (D:Ends),bQ (CX1 X.prog X.w) (X.pinned pn E) (hE D)->PSs (X.pinned pn E) body (tb D))
  (hz:∀(D:Ends) (zz:zP) (a d:Addr) (H:Hp) (s:Shared) (Q:Flow->Shared->Prop) (E:zQ) {σ0:St}{H0:Hp}{s0:Shared},Inv X zz σ0 H0 s0->hE D (.ref C) (some d) H->H a=none ->
   (∀(Q':Unit->Shared->Prop) (E':zQ),(∀s4,Inv X zz (List.replicate X.N.length none) (upd H a (XGot C a d)) s4->Q' () s4)->wpAny (model X.prog X.w) (X.A.mark (some (.ref a))) (setFlight (.ref a) none) Q' E' s) ->
   (∀u s6,(∃v σ H7,Inv X zz σ H7 s6/\RelV v u/\D.rt v H7)->Q (.ret u) s6) ->
   codeAny (model X.prog X.w) (X.A.mark (some (.ref a))) (.handlers (.ref a) [.ExceptHandler none hn (b₀::suite) hpos] X.env) (λr s₂=>match r with
    |.ok f=>(match hn with
     |none=>Q f s₂
     |some n=>wpAny (model X.prog X.w) X.A (do bindName X.env n Value.none;unbindBehindTheSuite X.env n hpos) (λ_ s₃=>Q f s₃) E s₂)
    |.error x=>cameBackBy (model X.prog X.w) X.A X.env E x s₂) s)
  (hdb:(cx==("__debug__":Str))=false:=by decide) :
  PS X (.Try body [.ExceptHandler (some (.Name cx np)) hn (b₀::suite) hpos] [] [] pos) (λD σ H=>tb D D σ H):=by
 intro zz s σ H D I h;refine wpAny_Try_except ?_;refine wpAny_mono (hb (X.pn++zz) (λe s'=>∃pins' σ' H₁ s₁,Inv (X.pinned (X.pn++zz) λ_ _=>False) pins' σ' H₁ s₁/\CX1 X.prog X.w X.stack H₁ s₁ (hE D) e s') D (λpins' σ' H₁ s₁ e s' J z=>⟨pins',σ',H₁,s₁,?_,z⟩) [] s σ H D I.pin_in h) (λfl s₁ q=>?_) λe s' q=>?_
 ·exact⟨⟨J.ok.mod,J.ok.kind,J.ok.glob,J.ok.blt,J.ok.above,J.ok.inj,J.ok.has,J.ok.cab,J.ok.hd,J.ok.frames,J.ok.stk,J.ok.exf,J.ok.bs,J.ok.bsz,J.ok.noex,J.ok.exfs,J.ok.funs,J.ok.frf⟩,J.os,J.bare,J.base,J.loc,J.cell,J.free,J.freeC,J.pin,J.hok,J.len⟩
 ·have q':=SP.pin_out q
  cases fl with
  |next=>exact wpAny_execs_nil q'
  |brk=>exact q'
  |cont=>exact q'
  |ret u=>exact q'
 obtain⟨pins',σ',H₁,s₁,J,a,C',d,fs,H',rfl,os,bare,un,hok,⟨new,free,vs,sl,T,oT,tv,hat,h1,nT,nT0,fT,hT,dT,h3⟩,hd,q⟩:=q;have hCe:=hC D _ _ _ q;cases hCe;have J1:=J.pin_out;have J2:=J1.call' (ch:=[]) os un hok bare (λb z=>absurd z (by simp));have hx:∀b,b=a\/some b=some T->X.s_0.heap.objs.size<=b/\b≠X.env.locals/\(∀x c,X.env.cells.lookup x=some c->c≠b)/\∀p∈X.pn++zz,p.1≠b:=λb hb=>by
  have big:s₁.heap.objs.size<=b:=by
   rcases hb with e|e
   ·rw[e];exact new
   cases e;exact nT0
  refine⟨Nat.le_trans J1.sz big,ne_of_gt (Nat.lt_of_lt_of_le J1.lt big),λx c e=>?_,λp hp=>Nat.ne_of_lt (Nat.lt_of_lt_of_le (lt_size (J1.pin p hp).1) big)⟩;obtain⟨v,z⟩:=J1.cell x c e;exact Nat.ne_of_lt (Nat.lt_of_lt_of_le z.lt big)
 have stk:=J2.stack;have frm:=J2.ok.frames;rw[hstk]at stk frm;refine oo (s:=s') frm stk hfr hat rfl (.inr ⟨T,oT,tv,rfl,h1,nT,hT,dT,h3⟩) λh2 n2=>?_;refine j8 (s:={s' with heap:=h2}) (h:=s'.heap) hat rfl n2 λh3 n3=>?_;refine wpAny_handleBy_cons (codeAny_handlers_test ?_) (by intro z;cases z);have n3':Noted X.stack a (some T) Value.none s'.heap h3:=by rw[hstk];exact n3
 have J3:=J2.noted (t':=s'.toks) n3' free (λT' z=>by cases z;exact fT) hx;refine eA (J3.hand_in a) hg hm ?_ hdb;obtain⟨nm',q',N',bs,sn,sub,ab,col,dd,k0,k1,k2,k3,k5,lk⟩:=c.obj;obtain⟨vs2,T2,oT2,tv2,z1,z2,z3,z4,z5,z6,z7⟩:=n3.exc _ vs hat rfl;refine wpAny_excMatches_sub_self (J3.kIn _ _ lk) z1 rfl PySem.F.excBase_Exception.hasBase ?_;refine hz D zz a d H' _ _ _ I q free (λQ' E' k=>?_) λu s6 z=>z;refine j8 (s:={s' with heap:=h3}) (h:=s'.heap) hat rfl n3 λh4 n4=>k _ ?_;have n4':Noted X.stack a (some T) Value.none s'.heap h4:=by rw[hstk];exact n4
 have J4:=J2.noted (t':=s'.toks) n4' free (λT' z=>by cases z;exact fT) hx;obtain⟨vs4,T4,oT4,tv4,y1,_⟩:=n4.exc _ vs hat rfl;refine Inv.weak (σ:=σ') ?_ (by rw[List.length_replicate];exact J4.len.symm) λj v e=>?_
 ·exact J4.track free (hx a (.inl rfl)) (u0 y1)
 rw[List.getElem?_replicate]at e;split at e<;>cases e
theorem ow(c:XCls X.K C f)(hg:Gl X cx)(hm:X.mg cx=some (.ref C))(hN:X.N.Nodup)(hi:X.N[i]? = some nm)(hk:X.env.scope.names.lookup nm=some .local)(hstk:X.stack=X.env::X.outer)(hfr:X.env.frame=some X.env.locals)
  (hb:∀(pn:zP) (E:zQ) (D:Ends),bQ (CX1 X.prog X.w) (X.pinned pn E) (ot X C i ts D)->PSs (X.pinned pn E) body (tb D))(hs:∀a,PSs (X.hand a) (b₀::suite) ts)
  (hdb:(cx==("__debug__":Str))=false:=by decide) :
  PS X (.Try body [.ExceptHandler (some (.Name cx np)) (some nm) (b₀::suite) hpos] [] [] pos) (λD σ H=>tb D D σ H):=by
 refine ou (hE:=ot X C i ts) (λD cls d H z=>z.1) c hg hm hstk hfr hb (λD zz a d H s Q E σ0 H0 s0 I q free fl hQ=>?_) hdb;refine codeAny_handlers_suite_as (fl _ _ λs4 J5=>?_);refine gM (X:=X) J5 hN hi (.inl hk) (v:= .ref a) rfl (λs5 J6=>?_) (.inr hk);refine wpAny_mono (hs a zz s5 _ _ {nx:=λ_ _=>False,rt:=D.rt} (J6.hand_in a) (q.2 a d rfl free)) (λfl s6 r=>?_) λ_ _ z=>False.elim z;cases fl with
 |next=>obtain⟨_,_,_,z⟩:=r;exact z.elim
 |brk=>obtain⟨_,_,_,z⟩:=r;exact z.elim
 |cont=>obtain⟨_,_,_,z⟩:=r;exact z.elim
 |ret u =>
 refine x_32 r λv σ7 H7 J7 rv r=>?_;have J8:=J7.hand_out I.ok;obtain⟨m,hm8,_⟩:=id J8.loc;refine wpAny_nameGoes hk hm8 (by rw[I.ok.kind];rfl) λh9 m9 hn9 sb=>?_;exact hQ _ _ ⟨v,_,H7,J8.unbound hn9 sb,rv,r⟩
end
end
theorem lenS{A:Type}{n:Nat}{l:List A}(h:l.length=n+1):∃a r,l=a::r/\r.length=n:=by
 cases l with
 |nil=>cases h
 |cons a r=>exact⟨a,r,rfl,Nat.succ.inj h⟩
theorem len0{A:Type}{l:List A}(h:l.length=0):l=[]:=List.length_eq_zero_iff.mp h
theorem len1{A:Type}{l:List A}(h:l.length=1):∃a,l=[a]:=by
 obtain⟨a,r,rfl,q⟩:=lenS h;exact⟨a,by rw[len0 q]⟩
theorem len2{A:Type}{l:List A}(h:l.length=2):∃a b,l=[a,b]:=by
 obtain⟨a,r,rfl,q⟩:=lenS h;obtain⟨b,rfl⟩:=len1 q;exact⟨a,b,rfl⟩
theorem len3{A:Type}{l:List A}(h:l.length=3):∃a b c,l=[a,b,c]:=by
 refine x_21 (lenS h) λa r zr2 q=>?_;subst zr2;obtain⟨b,c,rfl⟩:=len2 q;exact⟨a,b,c,rfl⟩
theorem len4{A:Type}{l:List A}(h:l.length=4):∃a b c d,l=[a,b,c,d]:=by
 refine x_21 (lenS h) λa r zr2 q=>?_;subst zr2;refine x_30 (len3 q) λb c d zr3=>?_;subst zr3;exact⟨a,b,c,d,rfl⟩
theorem len5{A:Type}{l:List A}(h:l.length=5):∃a b c d e,l=[a,b,c,d,e]:=by
 refine x_21 (lenS h) λa r zr2 q=>?_;subst zr2;refine x_40 (len4 q) λb c d e zr4=>?_;subst zr4;exact⟨a,b,c,d,e,rfl⟩
theorem oy{i:Nat}{σ:L2.St}{H:Hp}{Q:VK}{v:V}(e:σ[i]? = some (some v))(h:Q v H):tVar i σ H Q:=by
 unfold tVar;rw[e];exact h
section
variable{X:Cx}{CX:CXT}{k:Nat}{E:XK}{x:Str}{p pos:Pos}{e:Expr}{es:List Expr}{t:TA}
def fh(X:Cx)(CX:CXT)(k i:Nat)(E:XK)(t:TA):TE:=λσ H Q=>∃f fd ps sp,σ[i]? = some (some (.ref f))/\FnOk X.prog X.w X.K X.mg X.base CX k f fd ps sp/\aW X.K fd ps []/\keepIn X.K (.ref f)=true /\
 t σ H λvs H1=>sp vs H1 Q E
theorem f6(i:Nat)(hr:Room k X.A)(hx:bQ CX X E)(ha:PA X (e::es) t)(hN:X.N[i]? = some x:=by rfl)
  (hv:Vis X.env.scope x:=by first|exact Or.inl rfl|exact Or.inr (Or.inl rfl)|exact Or.inr (Or.inr rfl))(hd:(x==("__debug__":Str))=false:=by decide)(hcd:(x==("__classdict__":Str))=false:=by decide)
  (he:starEach (e::es) X.env=(false,eval e X.env)::starEach es X.env:=by rfl)(hpl:(backTo pos (starEach es X.env)).any (·.1)=false:=by rfl) :
  PE X (.Call (.Name x p) (e::es) [] pos) (fh X CX k i E t):=by
 intro zz s σ H Q I h;refine x_40 h λf fd ps sp zy=>x_04 zy λh1 F hb hk h2=>?_;refine wpAny_Call_Name_kw (thn (pv (X:=X) i hN hv hd hcd zz s σ H (λv H'=>v=.ref f/\H'=H) I (oy h1 ⟨rfl,rfl⟩)) λu s1 zq=>?_);refine x_23 zq λv H1 I1 r1 ev eH=>?_;subst ev eH;cases r1;refine callWith_K (h₀:=X.base) I1.ok.mod.kin hk (thn (ha pos zz s1 σ _ _ I1 h2) λus s2 ⟨vs,H2,I2,r,q⟩=>⟨I2.kIn,?_⟩) he hpl;exact fM (dvs:=[]) F hr hb .nil hx I2 r (by rw[append_nil];exact q)
end
section
variable{X:Cx}
theorem pe_g{x:Str}{v:V}{pos:Pos}(h:∃u,X.mg x=some u/\RelV v u)(hg:Gl X x:=by rfl)(hd:(x==("__debug__":Str))=false:=by decide):PE X (.Name x pos) (tC v):=by
 obtain⟨u,h1,h2⟩:=h;exact lT hg h1 h2 hd
def oz(i j:Int):Prop:=0<j/\j.natAbs.log2<9000
theorem oA:OpR X (binaryOp .FloorDiv) (rI oz λi j=>.int (i / j)):=opI λi j _ _ _ _ _ hc q=>by
 have hj:j≠0:=by have:=hc.1;omega
 refine floordiv_int hj ?_ (.inl (PyProof.noPylong_of_log2 hc.2));rw[Int.fdiv_eq_ediv_of_nonneg _ (Int.le_of_lt hc.1)];exact q
theorem vb{n:Nat}(h:n<2 ^ 200):n.log2<9000:=by
 by_cases h0:n=0
 ·subst h0;decide
 exact Nat.lt_trans ((Nat.log2_lt h0).mpr h) (by decide)
theorem vc:OpR X (binaryOp .Mult) (λx y H Q=>∃a n,x=.str a/\y=.int n/\MulOk a n/\Q (.str (Txt.mul a n)) H):=by
 intro zz s σ H x y v u Q I rx ry h;obtain⟨a,n,rfl,rfl,hm,h⟩:=h;obtain⟨t1,rfl⟩:=rx;obtain⟨t2,rfl⟩:=ry;exact SB.mul hm λt' k=>⟨.str (Txt.mul a n),H,I.tok _,⟨_,rfl⟩,h⟩
end
def PET(X:Cx)(e:Expr)(t:TE):Prop:=
 ∀(zz:zP) (s:Shared) (σ:St) (H:Hp) (Q:VK),Inv X zz σ H s->1<=s.toks->t σ H Q->wpAny (model X.prog X.w) X.A (eval e X.env) (EP X zz σ Q) X.xe s
def PEp(X:Cx)(e:Expr)(t:TE):Prop:=
 ∀(zz:zP) (s:Shared) (σ:St) (H:Hp) (Q:VK),Inv X zz σ H s->t σ H Q->wpAny (model X.prog X.w) X.A (eval e X.env) (λu s'=>1<=s'.toks/\EP X zz σ Q u s') X.xe s
def PTT(X:Cx)(e:Expr)(t:TT):Prop:=
 ∀(zz:zP) (s:Shared) (σ:St) (H:Hp) (Q:Bool->Hp->Prop),Inv X zz σ H s->1<=s.toks->t σ H Q->wpAny (model X.prog X.w) X.A (isTrue e X.env (eval e X.env)) (TP X zz σ Q) X.xe s
def PTp(X:Cx)(e:Expr)(t:TT):Prop:=
 ∀(zz:zP) (s:Shared) (σ:St) (H:Hp) (Q:Bool->Hp->Prop),Inv X zz σ H s->t σ H Q->wpAny (model X.prog X.w) X.A (isTrue e X.env (eval e X.env)) (λu s'=>1<=s'.toks/\TP X zz σ Q u s') X.xe s
def PSsT(X:Cx)(st:List Stmt)(t:TS):Prop:=
 ∀(zz:zP) (s:Shared) (σ:St) (H:Hp) (D:Ends),Inv X zz σ H s->1<=s.toks->t D σ H->wpAny (model X.prog X.w) X.A (execs st X.env) (SP X zz D) X.xe s
def PST(X:Cx)(st:Stmt)(t:TS):Prop:=
 ∀(zz:zP) (s:Shared) (σ:St) (H:Hp) (D:Ends),Inv X zz σ H s->1<=s.toks->t D σ H->wpAny (model X.prog X.w) X.A (exec st X.env) (SP X zz D) X.xe s
def PIT(X:Cx)(tg iter:Expr)(wi:TI):Prop:=
 ∀(zz:zP) (s:Shared) (σ:St) (H:Hp) (R:It->Hp->Prop),Inv X zz σ H s->1<=s.toks->wi σ H R ->
  wpAny (model X.prog X.w) X.A (eval iter X.env) (λv s1=>wpAny (model X.prog X.w) X.A (pyIter v) (PIE X zz σ tg R) X.xe s1) X.xe s
structure FnOkT(P:Program)(w:World)(K:Frag)(mg:zM)(base:Heap)(CX:CXT)(k:Nat)(f:Addr)(fd:FuncData)(ps:List Str)(sp:Sp):Prop where
 len:∀vs H Q E,sp vs H Q E->vs.length=ps.length
 run:∀(A:Around) (outer:List Env) (s:Shared) (H:Hp) (args:Args) (us:List Value) (vs:List V) (Q:VK) (E:XK),1<=s.toks->Room k A->Env0 P w K mg base A outer s H->BindsTo s fd args (ps.zip us)->Vals vs us->sp vs H Q E ->
  codeAny (model P w) A (.call (.ref f) args) (CR CX outer P w H s Q E) s
section
variable{X:Cx}{CX:CXT}{k:Nat}{E:XK}{x:Str}{p pos zt:Pos}{a b c e o:Expr}{es:List Expr}{ta tb te to:TE}{t:TA}{tA tB':TT}{st:Stmt}{rest:List Stmt}{tS u:TS}{f:Addr}{fd:FuncData}{ps:List Str}{sp:Sp}
theorem vd{op:CmpOp}{r:R2}(ho:OpR X (compareOp op) r)(ha:PE X a ta)(hb:PEp X b tb)(hm:behindInMarks op b=false):PTp X (.Compare a [op] [b] pos) (gR (tOp r ta tb)):=by
 intro zz s σ H Q I h;refine wpAny_isTrue_Compare1 (thn (ha zz s σ H _ I h) λv s1 ⟨x,H1,I1,r1,q1⟩=>thn (hb zz s1 σ H1 _ I1 q1) λu s2 ⟨tk,y,H2,I2,r2,q2⟩ =>
  thn (wpAny_toks_of tk (ho zz s2 σ H2 x y v u _ I2 r1 r2 q2) |> λz=>wpAny_mono z (λ_ _ q=>q) λ_ _ q=>q.2) λc s3 ⟨tk3,z,H3,I3,r3,q3⟩=>?_) hm
 obtain⟨k,e,q3⟩:=jA q3;subst e;cases r3;exact wpAny_truthy_bool ⟨tk3,H3,I3,q3⟩
theorem ve(hg:Gl X "len")(hm:X.mg "len"=none)(ha:PE X a ta)(hs:starEach [a] X.env=[(false,eval a X.env)]:=by rfl) :
  PEp X (.Call (.Name "len" p) [a] [] pos) (λσ H Q=>ta σ H λx H1=>∃q ys,x=.ref q/\SqL X.K H1 q ys/\Q (.int ys.length) H1):=by
 intro zz s σ H Q I h;refine wpAny_Call_Name_kw (dW I hg hm PySem.boot_len ?_);have he:starEach (a::[]) X.env=(false,eval a X.env)::starEach [] X.env:=by rw[hs];rfl
 refine PyProof.Rows.callWith_builtin1 (thn (aa ha ae he pos zz s σ H (λvs H1=>∃x,vs=[x]/\∃q ys,x=.ref q/\SqL X.K H1 q ys/\Q (.int ys.length) H1) I ?_) λus s1 ⟨vs,H1,I1,r1,x,ex,q,ys,exq,hq,qq⟩=>?_) he rfl
 ·have h':ta σ H λx H1=>∃q ys,x=V.ref q/\SqL X.K H1 q ys/\Q (.int ys.length) H1:=h
  show ta σ H λx H1=>∃x_1,[x]=[x_1]/\_;have e:(λ(x:V) (H1:Hp)=>∃x_1,[x]=[x_1]/\∃q ys,x_1=V.ref q/\SqL X.K H1 q ys/\Q (.int ys.length) H1)=λx H1=>∃q ys,x=V.ref q/\SqL X.K H1 q ys/\Q (.int ys.length) H1:=by
   funext x H1
   exact propext ⟨λ⟨y,e,z⟩=>by cases e;exact z,λz=>⟨x,rfl,z⟩⟩
  rw[e];exact h'
 subst ex exq;obtain⟨u,rfl,rx⟩:=dX r1;cases rx;have hn:=dF;refine x_12 (I1.list hq) λzw r' pl hz=>?_;have zr:=r'.length;exact Calls.call_len_list pl.isList (by simp only[size_toArray]<;>omega) ⟨by show 1<=_ ;simp;try omega,.int ys.length,H1,I1.tok _,⟨_,by rw[size_toArray,zr]⟩,qq⟩
theorem pw_orP(ha:PTp X a tA)(hb:∀whole (zz:zP) (s:Shared) (σ:St) (H:Hp) (Q:Bool->Hp->Prop),Inv X zz σ H s->1<=s.toks->tB' σ H Q->wpAny (model X.prog X.w) X.A (isTrue (.BoolOp .Or [b] pos) X.env whole) (TP X zz σ Q) X.xe s):PT X (.BoolOp .Or [a,b] pos) (tOr tA tB'):=by
 intro zz s σ H Q I h;refine isTrue_or (thn (ha zz s σ H _ I h) λc s1 ⟨tk,H1,I1,q1⟩=>?_);cases c with
 |true=>exact⟨H1,I1,q1⟩
 |false=>exact hb _ zz s1 σ H1 Q I1 tk q1
theorem pw_or1T(ha:PTT X a tA):∀whole (zz:zP) (s:Shared) (σ:St) (H:Hp) (Q:Bool->Hp->Prop),Inv X zz σ H s->1<=s.toks->tA σ H Q->wpAny (model X.prog X.w) X.A (isTrue (.BoolOp .Or [a] pos) X.env whole) (TP X zz σ Q) X.xe s:=by
 intro wh zz s σ H Q I tk h;refine isTrue_or (thn (ha zz s σ H Q I tk h) λc s1 e=>?_);cases c with
 |false=>exact isTrue_or_nil e
 |true=>exact e
theorem vf(ha:PTT X a tA):PTT X (.UnaryOp .Not a pos) (tNot tA):=by
 intro zz s σ H Q I tk h;exact isTrue_not (ha zz s σ H (λc H1=>Q (!c) H1) I tk h)
theorem vg{e:Expr}{t:TE}(h:PET X e t)(he:∀whole,isTrue e X.env whole=(do let v <- whole;standAt e.pos;holding [v] (truthy v)):=by intro _;rfl):PTT X e (tB t):=by
 intro zz s σ H Q I tk hw;refine isTrue_plain (thn (h zz s σ H _ I tk hw) λv s1 zq=>?_) (he _);obtain⟨x,H1,I1,r1,q1⟩:=zq;obtain⟨d,rfl,q⟩:=q1;cases r1;exact wpAny_truthy_bool ⟨H1,I1,q⟩
theorem vh{zz:zP}{σ:St}{H:Hp}{s:Shared}{Q:VK}{us:List Value}{vs:List V}(F:FnOkT X.prog X.w X.K X.mg X.base CX k f fd ps sp)(hr:Room k X.A)(hb:aW X.K fd ps [])(hx:bQ CX X E)
  (I:Inv X zz σ H s)(tk:1<=s.toks)(r:Vals vs us)(h:sp vs H Q E):wpAny (model X.prog X.w) X.A (call (.ref f) us) (EP X zz σ Q) X.xe s:=by
 have hl:(us++[]).length=ps.length:=by rw[append_nil,<- r.length];exact F.len _ _ _ _ h
 have hb2:=hb s us I.kIn hl;rw[append_nil]at hb2;refine wpAny_call (codeAny_mono (F.run X.A X.stack s H ⟨us,[]⟩ us vs Q E tk hr I.env0 hb2 r h) λr s' hq=>?_);cases r with
 |error e=>exact hx zz σ H s e s' I hq
 |ok fl =>
 cases fl with
 |ret u=>exact I.after hq
 |next=>exact False.elim hq
 |brk=>exact False.elim hq
 |cont=>exact False.elim hq
theorem vi(F:FnOkT X.prog X.w X.K X.mg X.base CX k f fd ps sp)(hr:Room k X.A)(hg:Gl X x)(hm:X.mg x=some (.ref f))(hk:keepIn X.K (.ref f)=true)(hb:aW X.K fd ps [])(hx:bQ CX X E)
  (ha:PA X (e::es) t)(hdb:(x==("__debug__":Str))=false:=by decide)(he:starEach (e::es) X.env=(false,eval e X.env)::starEach es X.env:=by rfl)(hpl:(backTo pos (starEach es X.env)).any (·.1)=false:=by rfl) :
  PET X (.Call (.Name x p) (e::es) [] pos) (eY sp [] E t):=by
 intro zz s σ H Q I tk h;refine wpAny_Call_Name_kw (eA I hg hm ?_ hdb);refine callWith_K (h₀:=X.base) I.ok.mod.kin hk (wpAny_mono (wpAny_toks_of tk (ha pos zz s σ H _ I h)) (λus s1 ⟨tk1,vs,H1,I1,r,q⟩=>⟨I1.kIn,?_⟩) λ_ _ z=>z.2) he hpl;have q':sp (vs++[]) H1 Q E:=q;rw[append_nil]at q';exact vh F hr hb hx I1 tk1 r q'
theorem vj(h1:PST X st tS)(h2:PSs X rest u):PSsT X (st::rest) (tSeq tS u):=by
 intro zz s σ H D I tk h;refine wpAny_execs_cons (thn (h1 zz s σ H {D with nx:=u D} I tk h) λf s1 q=>?_);cases f with
 |next =>
  refine x_21 q λσ' H' I' q=>?_;exact h2 zz s1 σ' H' D I' q
 |ret v=>exact q
 |brk=>exact q
 |cont=>exact q
theorem vk{tg l:Expr}{tl:TE}(hl:PET X l tl):PIT X tg l (gO X.K tl):=by
 intro zz s σ H R I tk h;refine thn (hl zz s σ H _ I tk h) λv s1 zq=>?_;obtain⟨x,H1,I1,r1,q1⟩:=zq;obtain⟨a,e,⟨xs,hq⟩,q⟩:=q1;subst e;cases r1;refine x_12 (I1.list hq) λzw rv p hz=>?_;refine wpAny_pyIter_list p.isList ?_;refine⟨s1.heap.objs.size,[s1.heap.objs.size],_,_,H1,rfl,I1.kept (t':=s1.toks) λb o e=>get?_push_of_some _ e,l9 a _,⟨_,get?_push_size _ rfl,rfl,rfl⟩,λb hb=>?_,q⟩;have e:b=s1.heap.objs.size:=by simpa using hb
 subst e;exact I1.fpOk (Nat.le_refl _) (I1.hok.fresh (Nat.le_refl _))
theorem vm{id:String}{name:Str}{r:V->List V->Hp->VK->Prop}(slot:Slot "str" name id)(ty:typeOf (.builtin id)=pure (.type "method_descriptor"))(rule:MtR X id r)(ho:PET X o to)(he:PE X e te)
  (hs:starEach [e] X.env=[(false,eval e X.env)]:=by rfl)(zk:attributeBase o name X.env (eval o X.env)=eval o X.env:=by rfl)(zl:(zt.endLine==pos.line)=true:=by rfl) :
  PET X (.Call (.Attribute o name zt) [e] [] pos) (tM1 r to te):=by
 intro zz s σ H Q I tk h;refine PySem.Call_method1 zk hs zl (thn (ho zz s σ H _ I tk h) λv s1 zq=>?_);refine x_22 zq λx H1 I1 r1 q1=>?_;obtain⟨⟨a,rfl⟩,q1⟩:=q1;obtain⟨t,rfl⟩:=_root_.id r1;refine⟨"str",_,F.plainAttrs_str,slot,ty,typeIs_str _ _ _,(λ_ e=>nomatch e),Calls.callWith_builtin rfl (Calls.evalArgs_plain (Calls.spliced_cons ?_))⟩;exact thn (he zz s1 σ H1 _ I1 q1) λu s2 ⟨y,H2,I2,r2,q2⟩=>Calls.spliced_nil (rule zz s2 σ H2 _ [y] _ [u] Q I2 r1 (.cons r2 .nil) q2)
theorem vn{y z:Str}{j1 j2:Nat}{p1 p2:Pos}(ho:PE X (.Name x p) to)(hyz:(y==z)=false:=by decide)(hz:z.length<=14:=by decide)
  (hs:starEach [.Constant (.str y) j1 p1,.Constant (.str z) j2 p2] X.env=[(false,eval (.Constant (.str y) j1 p1) X.env),(false,eval (.Constant (.str z) j2 p2) X.env)]:=by rfl)
  (zk:attributeBase (.Name x p) "replace" X.env (eval (.Name x p) X.env)=eval (.Name x p) X.env:=by rfl)(zl:(zt.endLine==pos.line)=true:=by rfl) :
  PET X (.Call (.Attribute (.Name x p) "replace" zt) [.Constant (.str y) j1 p1,.Constant (.str z) j2 p2] [] pos) (λσ H Q=>to σ H λv H1=>∃a,v=.str a/\a.length<=1048576/\Q (.str (Txt.replace a y z)) H1):=by
 intro zz s σ H Q I tk h;refine PySem.Call_method2 zk hs zl (wpAny_mono (wpAny_toks_of tk (ho zz s σ H _ I h)) (λv s1 ⟨tk1,x,H1,I1,r1,q1⟩=>?_) λ_ _ z=>z.2);obtain⟨a,rfl,ha,q1⟩:=q1;obtain⟨t,rfl⟩:=_root_.id r1;refine⟨"str",_,F.plainAttrs_str,F.slot_str_replace,F.type_str_replace,typeIs_str _ _ _,(λ_ e=>nomatch e),Calls.callWith_builtin rfl (Calls.evalArgs_plain (Calls.spliced_cons ?_))⟩;refine Calls.Constant_str (Calls.spliced_cons (Calls.Constant_str (Calls.spliced_nil ?_)));refine SC.replaceW ?_ ?_ ?_ hyz ha hz λt' k=>⟨.str (Txt.replace a y z),H1,((I1.tok _).tok _).tok _,⟨_,rfl⟩,q1⟩
 ·exact ne_of_gt tk1
 ·exact Nat.succ_ne_zero _
 exact Nat.ne_of_lt (lt_succ_self _)
theorem vo{tg iter:Expr}{body:List Stmt}{wi:TI}{g:TG}{tb:TS}(hp:PassesOwn (model X.prog X.w) X.A X.env X.xe)(hc:X.calm=true)(hi:PIT X tg iter wi)(hg:PG X tg g)(hb:PSs X body tb)
  (hs:∀x,foldedSetIterable iter X.env x=pure x:=by intro _;rfl):PST X (.For tg iter body [] pos) (tFor wi g tb):=by
 intro zz s σ H D I tk h;refine wpAny_For (thn (hi zz s σ H _ I tk h) λv s1 h1=>thn h1 λitv s2 h2=>?_) hs;refine x_50 h2 λit fp tn J H2 zy=>x_05 zy λe I2 T st2 f2 zz0=>?_;refine x_11 zz0 λW zn11 turn=>?_;obtain⟨m0,w0⟩:=zn11;subst e;have stat:∀{H':Hp},(∀b∈fp,H' b=none)->∀b∈fp,FpOk X zz H' b:=λhn b hb=>⟨hn b hb,(f2 b hb).2⟩;refine codeAny_forLoop_any (λn s'=>∃i σ' H',Inv X zz σ' H' s'/\tn i s'.heap/\(∀b∈fp,H' b=none)/\W i n σ' H') ?_ m0 ⟨0,σ,H2,I2,st2,λb hb=>(f2 b hb).1,w0⟩
 rintro n s3 ⟨i,σ3,H3,I3,st3,fr3,w3⟩
 rcases turn i n σ3 H3 w3 with⟨stop,qn⟩|⟨go,N,hN,step⟩
 ·refine wpAny_passesOwn hp (thn (T.done X rfl rfl rfl hc i zz s3 σ3 H3 X.xe I3 (stat fr3) st3 stop) λr s4 ⟨hr,I4⟩=>?_)
  subst hr;exact wpAny_execs_nil ⟨σ3,H3,I4,qn⟩
 refine wpAny_passesOwn hp (thn (T.item X rfl rfl rfl hc i zz s3 σ3 H3 X.xe I3 (stat fr3) st3 go) λr s4 ⟨u,hr,h4⟩=>?_);subst hr;refine wpAny_passesOwn hp (thn h4 λ_ s5 zq=>?_);refine x_24 zq λx H5 I5 r5 y5 st5 fr5=>?_;have I5':=I5.pinned (stat fr5) (T.obj _ _ st5);refine wpAny_passesOwn hp (thn (hg _ s5 σ3 H5 x u _ I5' r5 (step x H5 y5)) λ_ s6 ⟨σ6,H6,I6,q6⟩=>?_);refine wpAny_passesOwn hp (thn (hb _ s6 σ6 H6 _ I6 q6) λf s7 q7=>?_);have again:∀{σ7:St}{H7:Hp},Inv X (zz++eT fp s5.heap) σ7 H7 s7->N σ7 H7->∃m,m<n/\∃i σ' H',Inv X zz σ' H' s7/\tn i s7.heap/\(∀b∈fp,H' b=none)/\W i m σ' H':=λ{σ7 H7} I7 n7=>by
  obtain⟨m',hm,w7⟩:=hN σ7 H7 n7;refine⟨m',hm,i+1,σ7,H7,I7.unpinned,T.keep _ _ _ st5 λb hb o e=>(I7.pin (b,o) (mem_append_right _ (mem_append_right _ (fK hb e)))).1,λb hb=>?_,w7⟩;obtain⟨o,e,d⟩:=T.obj _ _ st5 b hb;exact(I7.pin (b,o) (mem_append_right _ (mem_append_right _ (fK hb e)))).2.1
 cases f with
 |next=>obtain⟨σ7,H7,I7,n7⟩:=q7;exact again I7 n7
 |cont=>obtain⟨σ7,H7,I7,n7⟩:=q7;exact again I7 n7
 |brk=>obtain⟨σ7,H7,I7,q7⟩:=q7;exact⟨σ7,H7,I7.unpinned,q7⟩
 |ret v=>obtain⟨x7,σ7,H7,I7,r7,q7⟩:=q7;exact⟨x7,σ7,H7,I7.unpinned,r7,q7⟩
theorem PSsT.nox{st:List Stmt}{t:TS}(h:PSsT X.nox st t):PSsT X st t:=λzz s σ H D I tk hw =>
 wpAny_mono (h zz s σ H D (I.wish _) tk hw) (λ_ _ q=>q.unwish) λ_ _ q=>q.elim
end
theorem vp{CX:CXT}{P:Program}{w:World}{K:Frag}{mg:zM}{base:Heap}{k:Nat}{f:Addr}{name qual:Str}{params:Arguments}{body:List Stmt}{scope:Scope}{dV kV doc pm cdv ct oc:Value}{an od:Option Addr}
  {osl:Array (Option Value)}{N ps:List Str}{sp:Sp}(lk:K.lookup f=some ⟨oc,od,.func (fnOf name qual params body scope dV kV doc pm an cdv ct),osl⟩)(hcd:codeIn K cdv qual=true)(S:FnScope N ps scope)
  (len:∀vs H Q E,sp vs H Q E->vs.length=ps.length)
  (hbody:∀(A:Around) (outer:List Env) (s:Shared) (H:Hp) (vs:List V) (Q:VK) (E:XK),Room k (A.deeper (envOfC qual scope s.heap.objs.size f cdv))->sp vs H Q E ->
   ∃t,PSsT (cxOf CX P w K mg base N qual scope f cdv A outer s H E) body t/\t {nx:=λ_ H'=>Q .non H',rt:=Q} (start N vs) H) :
  FnOkT P w K mg base CX (k+1) f (fnOf name qual params body scope dV kV doc pm an cdv ct) ps sp:=by
 refine⟨len,λA outer s H args us vs Q E tk hr e0 hb r hsp=>?_⟩;have hl:=len _ _ _ _ hsp;have KX:K.In s.heap:=e0.mod.kin.keeps λb o e=>(e0.bs b o e).1;have lim:s.heap.NoLimit:=e0.mod.nolimit.keeps λb o e=>(e0.bs b o e).1;have hkind:∀y∈ps.zip us,scope.names.lookup y.1=some .local\/(scope.names.lookup y.1=some .cell/\((cellsFrom (s.heap.objs.size+1) scope.names []).lookup y.1).isSome=true):=λ⟨n,v⟩ hy=>by
  rcases S.par n (of_mem_zip hy).1 with q|q
  ·exact .inl q
  exact .inr ⟨q,PySem.W.cellsFrom_some _ _ _ (.inl q)⟩
 refine codeAny_call_function hr.depth (KX _ _ lk) rfl S.co S.gen rfl (PySem.W.codeRec_of KX hcd) (hb _ _ _ _ ?_);refine wpAny_with_toks tk ?_;refine wpAny_newFunctionEnv_cells S.kind hkind λenv he s1 x=>?_;subst he;intro tk1;refine⟨lim.keeps x.toInCall.keep,codeAny_func ?_⟩;obtain⟨t,ht,hq⟩:=hbody A outer s H vs Q E (hr.deeper _) hsp;have I:Inv (cxOf CX P w K mg base N qual scope f cdv A outer s H E) [] (start N vs) H s1:=mG S hr.hd e0 hl r x;refine wpAny_mono (ht [] s1 (start N vs) H _ I tk1 hq) (λfl s' hs=>?_) λe s' hs=>hs;have fin:∀{σ':St}{H':Hp}{v:V}{u:Value},Inv (cxOf CX P w K mg base N qual scope f cdv A outer s H E) [] σ' H' s'->RelV v u->Q v H'->CE outer P w H s Q u s':=
  λ{σ' H' v u} J rv q=>⟨v,H',J.os,J.bare,J.base,J.hok,rv,q⟩
 cases fl with
 |ret u =>
  refine x_32 hs λv σ' H' J rv q=>?_;exact fin J rv q
 |next =>
  refine x_21 hs λσ' H' J q=>?_;exact fin (v:=V.non) (u:=Value.none) J rfl q
 |brk =>
  refine x_21 hs λ_ _ _ q=>?_;exact False.elim q
 |cont =>
 refine x_21 hs λ_ _ _ q=>?_;exact False.elim q
theorem Fun.okT{P:Program}{w:World}{K:Frag}{mg:zM}{base:Heap}{x qual:Str}{st:Stmt}{f:Addr}{fd:FuncData}{N ps:List Str}{k:Nat}{sp:Sp}(F:Fun K x qual st f fd)(S:FnScope N ps (aq st))(len:∀vs H Q E,sp vs H Q E->vs.length=ps.length)
  (hbody:∀(cdv:Value) (A:Around) (outer:List Env) (s:Shared) (H:Hp) (vs:List V) (Q:VK) (E:XK),Room k (A.deeper (envOfC qual (aq st) s.heap.objs.size f cdv))->sp vs H Q E ->
   ∃t,PSsT (cxOf CX0 P w K mg base N qual (aq st) f cdv A outer s H E).nox (cJ st) t/\t {nx:=λ_ H'=>Q .non H',rt:=Q} (start N vs) H):FnOkT P w K mg base CX0 (k+1) f fd ps sp:=by
 refine x_90 F.ex λoc od kV doc pm an cdv ct osl zy=>x_02 zy λzr9 lk hcd=>?_;subst zr9;refine vp lk hcd S len λA outer s H vs Q E hr hsp=>?_;obtain⟨t,h,q⟩:=hbody cdv A outer s H vs Q E hr hsp;exact⟨t,h.nox,q⟩
open PySem PySem.Spec PyProof.Rows TL
structure FG(K:Frag)(mg:zM)(x:Str)(st:Stmt)(ps:List Str)(f:Addr)(fd:FuncData):Prop where
 mg:mg x=some (.ref f)
 fn:Fun K x x st f fd
 b:aW K fd ps []
theorem Room.m{j k:Nat}{A:Around}(r:Room k A)(h:j<=k:=by decide):Room j A:=r.mono h
theorem pla:PlainAttrs "list":=PySem.F.plainAttrs_list
theorem sla:Slot "list" "append" "list.append":=PySem.F.slot_list_append
theorem tla:typeOf (.builtin "list.append")=pure (.type "method_descriptor"):=PySem.F.type_list_append
theorem slp:Slot "list" "pop" "list.pop":=PySem.F.slot_list_pop
theorem tlp:typeOf (.builtin "list.pop")=pure (.type "method_descriptor"):=PySem.F.type_list_pop
theorem aD{X:Cx}{CX:CXT}{k:Nat}{E:XK}{x:Str}{p pos:Pos}{e:Expr}{es:List Expr}{t:TA}{f:Addr}{fd:FuncData}{ps:List Str}{sp:Sp}{st:Stmt}(F:FG X.K X.mg x st ps f fd)(G:FnOk X.prog X.w X.K X.mg X.base CX k f fd ps sp)(hr:Room k X.A)(hx:bQ CX X E)(ha:PA X (e::es) t)
  (hg:Gl X x:=by rfl)(hdb:(x==("__debug__":Str))=false:=by decide)(he:starEach (e::es) X.env=(false,eval e X.env)::starEach es X.env:=by rfl)(hpl:(backTo pos (starEach es X.env)).any (·.1)=false:=by rfl):PE X (.Call (.Name x p) (e::es) [] pos) (eY sp [] E t):=cq G hr hg F.mg F.fn.kp F.b .nil hx ha hdb he hpl
theorem aA{X:Cx}{pos pos':Pos}(i:Nat){x:Str}{e:Expr}{te:TE}(hN:X.N.Nodup)(he:PE X e te)(hi:X.N[i]? = some x:=by rfl)(hx:Loc X.env.scope x:=by exact Or.inl rfl)(hs:swapsWith e (some (.Name x pos')) pos.line X.env=pure false:=by rfl)(hf:X.fn x=true\/X.env.scope.names.lookup x=some .local:=by first|exact .inl rfl|exact .inr rfl|assumption):PS X (.Assign [.Name x pos'] e pos) (tAsg te (ck i)):=eB hN hi hx he hs hf
theorem pg_q{X:Cx}{pos:Pos}(i:Nat){x:Str}(hN:X.N.Nodup)(hi:X.N[i]? = some x:=by rfl)(hx:Loc X.env.scope x:=by exact Or.inl rfl)(hf:X.fn x=true\/X.env.scope.names.lookup x=some .local:=by first|exact .inl rfl|exact .inr rfl|assumption):PG X (.Name x pos) (ck i):=lY hN hi hx hf
theorem iD:bootBuiltins "ord"=some (.builtin "ord"):=by left
theorem oB:bootBuiltins "all"=some (.builtin "all"):=by left
theorem vq:bootBuiltins "max"=some (.builtin "max"):=by left
theorem f7:bootBuiltins "int"=some (.type "int"):=by left
theorem f':bootBuiltins "str"=some (.type "str"):=by left
def bs(t:List Nat):List V:=t.map λ(n:Nat)=>V.int (n:Int)
def S(l:List Nat):Str:=⟨l.toArray⟩
theorem tl_S(l:List Nat):tl (S l)=l:=rfl
theorem aS(l:List Nat):(S l).length=l.length:=by rw[dJ,tl_S]
theorem cg(t:List Nat):(bs t).length=t.length:=by unfold bs;rw[length_map]
theorem dZ{t:List Nat}{i c:Nat}(h:t[i]? = some c):(bs t)[i]? = some (V.int (c:Int)):=by unfold bs;rw[getElem?_map,h];rfl
theorem vt(t:List Nat)(i:Nat):(bs t).drop i=bs (t.drop i):=by unfold bs;rw[List.map_drop]
theorem vv(t:List Nat)(i:Nat):(bs t).take i=bs (t.take i):=by unfold bs;rw[List.map_take]
def spB(b:Nat->Bool):Sp:=λvs H Q _=>∃n:Nat,vs=[.int (n:Int)]/\Q (.bl (b n)) H
def gd(P:Program)(w:World)(K:Frag)(mg:zM)(base:Heap)(k:Nat)(f:Addr)(b:Nat->Bool):Prop:=
 ∃fd ps,FnOk P w K mg base CX0 k f fd ps (spB b)/\aW K fd ps []/\keepIn K (.ref f)=true
theorem Same.upd{H:Hp}{a:Addr}{o:HO}(h:H a=none):Same H (L2.upd H a o):=λb u e=>by rw[ao (aF e h)];exact e
theorem eF{b:Bool}{A B:Prop}(h1:b=true->A)(h2:b=false->B):if b=true then A else B:=by
 cases b with
 |true=>exact iteT (h1 rfl)
 |false=>exact iteF (h2 rfl)
theorem vw{J:It}{g:TG}{tt:TT}{te:TE}{vs:List Nat}{σ:St}{H1:Hp}{D:Addr}{Qd:Hp->Prop}(xs:List V)(f:V->V)(hD:H1 D=none)(hn:xs.length<=sizeLine)
  (hgo:∀i x H,Same H1 H->xs[i]? = some x->J.go i H/\∀y H',J.yld i H y H'->H'=H/\y=x)(hst:∀H,Same H1 H->J.stop xs.length H)
  (hs:∀x H zx (Nx:Hp->Prop),x∈xs->Same H1 H->H D=some (.lst zx)->zx.length<sizeLine->(∀H',Same H H'->Nx (upd H' D (.lst (zx++[f x])))) ->
   g x (wipe σ vs) H λσ2 H2=>wipe σ2 vs=wipe σ vs/\tt σ2 H2 λb H3=>if b=true then te σ2 H3 λy H4=>∃zx,H4 D=some (.lst zx)/\zx.length<sizeLine/\Nx (upd H4 D (.lst (zx++[y])))else Nx H3)
  (hd:∀H,Same H1 H->H D=some (.lst (xs.map f))->Qd H) :
  ∃W:Nat->Nat->Hp->Prop,(∃m,W 0 m (upd H1 D (.lst [])))/\∀i m H,W i m H ->
   (J.stop i H/\Qd H)\/(J.go i H/\∃Nx:Hp->Prop,(∀H',Nx H'->∃m',m'<m/\W (i+1) m' H')/\∀x H',J.yld i H x H'->g x (wipe σ vs) H' λσ2 H2=>wipe σ2 vs=wipe σ vs/\tt σ2 H2 λb H3 =>
    if b=true then te σ2 H3 λy H4=>∃zx,H4 D=some (.lst zx)/\zx.length<sizeLine/\Nx (upd H4 D (.lst (zx++[y])))else Nx H3):=by
 refine⟨λi m H=>m=xs.length - i/\i<=xs.length/\Same H1 H/\H D=some (.lst ((xs.take i).map f)),⟨_,rfl,zero_le _,Same.upd hD,ai⟩,?_⟩
 rintro i m H ⟨rfl,hi,sm,hd1⟩
 by_cases hlt:i<xs.length
 ·have hx:xs[i]? = some xs[i]:=getElem?_eq_getElem hlt
  obtain⟨go,yl⟩:=hgo i xs[i] H sm hx;refine .inr ⟨go,λH'=>Same H1 H'/\H' D=some (.lst ((xs.take (i+1)).map f)),λH' z=>⟨_,by omega,rfl,hlt,z.1,z.2⟩,λy H' q=>?_⟩;obtain⟨rfl,rfl⟩:=yl y H' q;refine hs _ H' _ _ (List.getElem_mem hlt) sm hd1 (by rw[length_map,length_take];omega) λH2 s2=>⟨λb o e=>?_,?_⟩
  ·rw[ao (aF e hD)]
   exact s2 _ _ (sm _ _ e)
  rw[ai,take_succ,hx,map_append];rfl
 have e:i=xs.length:=by omega
 subst e;rw[take_length]at hd1;exact .inl ⟨hst H sm,hd H sm hd1⟩
theorem oC{K:Frag}{a:Addr}{xs:List V}{H1:Hp}(h:SqL K H1 a xs):(∀i x H,Same H1 H->xs[i]? = some x->(Itl K a).go i H/\∀y H',(Itl K a).yld i H y H'->H'=H/\y=x)/\∀H,Same H1 H->(Itl K a).stop xs.length H:=
 ⟨λi x H sm e=>⟨⟨xs,x,sm.seq h,e⟩,λy H' ⟨e1,e2⟩=>⟨e1,Option.some.inj ((e2 xs (by subst e1;exact sm.seq h)).symm.trans e)⟩⟩,λH sm=>⟨xs,sm.seq h,Nat.le_refl _⟩⟩
theorem j'{x:Str}{H1:Hp}:(∀i y H,Same H1 H->((tl x).map λc=>V.str ⟨#[c]⟩)[i]? = some y->(Its x).go i H/\∀z H',(Its x).yld i H z H'->H'=H/\z=y)/\∀H,Same H1 H->(Its x).stop ((tl x).map λc=>V.str ⟨#[c]⟩).length H:=by
 refine⟨λi y H sm e=>?_,λH sm=>?_⟩
 ·rw[getElem?_map]at e
  cases q:(tl x)[i]? with
  |none=>rw[q]at e;cases e
  |some c =>
  rw[q]at e;cases e;have q':x.cps[i]? = some c:=by rw[<- Array.getElem?_toList];exact q
  refine⟨?_,?_⟩
  ·show i<x.cps.size
   exact(Array.getElem?_eq_some_iff.mp q').1
  rintro z H' ⟨e1,c',e2,e3⟩
  rw[q']at e2;cases e2;exact⟨e1,e3⟩
 show x.cps.size<=_;simp
theorem cx_K{CX:CXT}{P:Program}{w:World}{K:Frag}{mg:zM}{base:Heap}{N:List Str}{qual:Str}{scope:Scope}{f:Addr}{cd:Value}{A:Around}{outer:List Env}{s:Shared}{H:Hp}{E:XK}:(cxOf CX P w K mg base N qual scope f cd A outer s H E).K=K:=rfl
theorem cx_P{CX:CXT}{P:Program}{w:World}{K:Frag}{mg:zM}{base:Heap}{N:List Str}{qual:Str}{scope:Scope}{f:Addr}{cd:Value}{A:Around}{outer:List Env}{s:Shared}{H:Hp}{E:XK}:(cxOf CX P w K mg base N qual scope f cd A outer s H E).prog=P:=rfl
theorem cx_w{CX:CXT}{P:Program}{w:World}{K:Frag}{mg:zM}{base:Heap}{N:List Str}{qual:Str}{scope:Scope}{f:Addr}{cd:Value}{A:Around}{outer:List Env}{s:Shared}{H:Hp}{E:XK}:(cxOf CX P w K mg base N qual scope f cd A outer s H E).w=w:=rfl
theorem vx{CX:CXT}{P:Program}{w:World}{K:Frag}{mg:zM}{base:Heap}{N:List Str}{qual:Str}{scope:Scope}{f:Addr}{cd:Value}{A:Around}{outer:List Env}{s:Shared}{H:Hp}{E:XK}:(cxOf CX P w K mg base N qual scope f cd A outer s H E).mg=mg:=rfl
theorem vy{CX:CXT}{P:Program}{w:World}{K:Frag}{mg:zM}{base:Heap}{N:List Str}{qual:Str}{scope:Scope}{f:Addr}{cd:Value}{A:Around}{outer:List Env}{s:Shared}{H:Hp}{E:XK}:(cxOf CX P w K mg base N qual scope f cd A outer s H E).base=base:=rfl
theorem cx_N{CX:CXT}{P:Program}{w:World}{K:Frag}{mg:zM}{base:Heap}{N:List Str}{qual:Str}{scope:Scope}{f:Addr}{cd:Value}{A:Around}{outer:List Env}{s:Shared}{H:Hp}{E:XK}:(cxOf CX P w K mg base N qual scope f cd A outer s H E).N=N:=rfl
theorem aI(s:String):ofString s=S (Vaunid.txt s):=cH (by rw[uE,tl_S];rfl)
theorem bB{l m:List Nat}:(S l=S m)=(l=m):=propext ⟨λe=>by have:=congrArg tl e;exact this,λe=>by rw[e]⟩
theorem S_eq(l:List Nat)(s:String):(S l=ofString s)=(l=Vaunid.txt s):=by rw[aI,bB]
theorem vz(c:Nat):(⟨#[c]⟩:Str).length=1:=rfl
theorem vA(c:Nat):(⟨#[c]⟩:Str).cps.getD 0 0=c:=rfl
theorem du(l:List Nat):(S l).cps.toList=l:=rfl
theorem ka(n c:Nat):decide ((n:Int)=(c:Int))=(n==c):=by
 rw[Bool.eq_iff_iff];simp;omega
theorem gf{wi:TI}{g:TG}{tt:TT}{te:TE}{vs:List Nat}{σ:St}{H H1:Hp}{Q:VK}(J:It)(xs:List V)(f:V->V)(hw:∀R:It->Hp->Prop,R J H1->wi σ H R)(hn:xs.length<=sizeLine)
  (hgo:(∀i x H,Same H1 H->xs[i]? = some x->J.go i H/\∀y H',J.yld i H y H'->H'=H/\y=x)/\∀H,Same H1 H->J.stop xs.length H)
  (hs:∀x H D zx (Nx:Hp->Prop),x∈xs->Same H1 H->H D=some (.lst zx)->zx.length<sizeLine->(∀H',Same H H'->Nx (upd H' D (.lst (zx++[f x])))) ->
   g x (wipe σ vs) H λσ2 H2=>wipe σ2 vs=wipe σ vs/\tt σ2 H2 λb H3=>if b=true then te σ2 H3 λy H4=>∃zx,H4 D=some (.lst zx)/\zx.length<sizeLine/\Nx (upd H4 D (.lst (zx++[y])))else Nx H3)
  (hd:∀D H,H1 D=none->Same H1 H->H D=some (.lst (xs.map f))->Q (.ref D) H):tLc wi g tt te vs σ H Q:=
 hw _ λD hD=>vw xs f hD hn hgo.1 hgo.2 (λx H zx Nx h1 h2 h3 h4 h5=>hs x H D zx Nx h1 h2 h3 h4 h5) λH s e=>hd D H hD s e
theorem dv{c:TT}{tb:TS}{D:Ends}{σ:St}{H:Hp}(Pv:Nat->St->Hp->Prop)(m0:Nat)(h0:Pv m0 σ H)
  (hs:∀m σ H,Pv m σ H->c σ H λb H1=>if b=true then ∃N:St->Hp->Prop,(∀σ' H',N σ' H'->∃m',m'<m/\Pv m' σ' H')/\tb {D with nx:=N,ct:=N,bk:=D.nx} σ H1 else D.nx σ H1):l8 c tb D σ H:=
 ⟨Pv,⟨m0,h0⟩,hs⟩
end L2
namespace M
open PySem PySem.Spec PyProof.Rows L2 TL
open Vaunid (isSmall isDigit inWord)
def bq(l:List Nat):Bool:= !l.isEmpty&&(decide (l.length<=12)&&(isSmall (l.headD 0)&&l.all inWord))
noncomputable def bV(b:List Nat):Bool:=let d:=if b.head? = some 45 then b.tail else b;!d.isEmpty&&(decide (d.length<=2)&&d.all isDigit)
noncomputable def bg(f:List Nat):Bool:=f==[49]||(if f.contains 94=true then bq (f.takeWhile (· != 94))&&bV ((f.dropWhile (· != 94)).drop 1)else bq f)
def sep(c:Nat):Bool:=c==46||c==47
def nsep(c:Nat):Bool:= !sep c
def cut(p:Nat->Bool):List Nat->List Nat->List (List Nat)
 |zx,[]=>[zx]
 |zx,c::r=>if p c=true then zx::cut p [] r else cut p (zx++[c]) r
def dw(c:Nat):Nat:=if c=47 then 46 else c
theorem kc(S:List Nat):∀(k:Nat) (zx l:List Nat),spl S k zx l≠[]
 |k,zx,[]=>by rw[eD];simp
 |0,zx,c::r=>by
  cases h:pre S (c::r)with
  |true=>rw[ie h];simp
  |false=>rw[ig h];exact kc S 0 _ r
 |k+1,zx,c::r=>by
  rw[ij];show spl S 0 zx (r.drop k)≠[];rw[<- ij];exact kc S k zx r
theorem iE(s c:Nat)(r:List Nat):pre [s] (c::r)=(c==s):=by
 unfold pre;show([c]==[s])=_;simp
theorem vB(S p:List Nat){q:List (List Nat)}(h:q≠[]):cu S (p::q)=p++(S++cu S q):=by
 cases q with
 |nil=>exact absurd rfl h
 |cons a r=>rfl
theorem kf:∀(l zx:List Nat),cu [46] (spl [47] 0 zx l)=zx++l.map dw
 |[],zx=>by rw[eD];simp[cu]
 |c::r,zx=>by
  by_cases h:c=47
  ·subst h
   rw[ie (by rw[iE];rfl),vB _ _ (kc _ _ _ _)];show zx++([46]++cu [46] (spl [47] 0 [] r))=_;rw[kf r []];rfl
  rw[ig (by rw[iE];simpa using h),kf r,append_assoc];show zx++(c::r.map dw)=zx++(dw c::r.map dw);rw[show dw c=c from if_neg h]
theorem oE(x:Str):¬Builtin.Str.strKind x<Builtin.Str.strKind (ofString "/"):=nE (by left)
theorem vC(x:Str):¬Builtin.Str.strKind x<Builtin.Str.strKind (ofString "."):=nE (by left)
theorem oF(l:List Nat):(Txt.split (S l) (ofString "/")).map tl=spl [47] 0 [] l:=nD (S l) (ofString "/") (by left) (oE _)
theorem kg(l:List Nat):(Txt.split (S l) (ofString ".")).map tl=spl [46] 0 [] l:=nD (S l) (ofString ".") (by left) (vC _)
theorem oG(l:List Nat):Txt.replace (S l) (ofString "/") (ofString ".")=S (l.map dw):=by
 cases l with
 |nil=>left
 |cons c r =>
 have e:Txt.replace (S (c::r)) (ofString "/") (ofString ".")=Str.join (ofString ".") (Txt.split (S (c::r)) (ofString "/")):=by
  unfold Txt.replace Txt.split;have h1:(decide ((S (c::r)).length<(ofString "/").length)||decide (Builtin.Str.strKind (S (c::r))<Builtin.Str.strKind (ofString "/")))=false:=by
   rw[decide_eq_false (oE _),aS,decide_eq_false]
   ·rfl
   rw[length_cons,show(ofString "/").length=1 by left];omega
  have h2:((ofString "/").length==0&&(ofString ".").length==0)=false:=by left
  rw[h1,h2,Bool.or_false];cases hc:(Builtin.Str.occurrences (S (c::r)) (ofString "/") 0 (S (c::r)).length ((S (c::r)).length+1)).isEmpty with
  |true=>rfl
  |false =>
  simp only[false_eq_true,if_false];exact StrLaws.glued_eq_join _ _
 refine cH ?_;rw[e,iw,oF];show cu [46] _=_;rw[kf];rfl
theorem kh:∀(l zx:List Nat),spl [46] 0 zx (l.map dw)=cut sep zx l
 |[],zx=>by rw[map_nil,eD];rfl
 |c::r,zx=>by
  rw[map_cons];show _=if sep c=true then zx::cut sep [] r else cut sep (zx++[c]) r;by_cases h:sep c=true
  ·have hu:dw c=46:=by
    unfold sep at h;unfold dw;rcases or_eq_true_iff.mp h with q|q
    ·rw[eq_of_beq q];rfl
    rw[eq_of_beq q];rfl
   rw[if_pos h,hu,ie (by rw[iE];rfl)];exact congrArg (zx:: ·) (kh r [])
  have h2:¬c=46/\¬c=47:=by
   unfold sep at h;simpa using h
  rw[if_neg h,show dw c=c from if_neg h2.2,ig (by rw[iE];simpa using h2.1)];exact kh r _
theorem oH:∀(l zx:List Nat),cut sep zx l=(zx++l.takeWhile nsep)::(match l.dropWhile nsep with|[]=>[]|_::r=>cut sep [] r)
 |[],zx=>by simp[cut]
 |c::r,zx=>by
  show(if sep c=true then zx::cut sep [] r else cut sep (zx++[c]) r)=_;by_cases h:sep c=true
  ·have h2:nsep c=false:=by unfold nsep;rw[h];rfl
   rw[if_pos h,takeWhile_cons,dropWhile_cons,h2];simp
  have h2:nsep c=true:=by unfold nsep;simpa using h
  rw[if_neg h,oH r,takeWhile_cons,dropWhile_cons,h2];simp
theorem oI{c:Nat}(h:inWord c=true):nsep c=true:=by
 unfold nsep sep;by_cases h1:c=46
 ·subst h1;revert h;decide
 by_cases h2:c=47
 ·subst h2;revert h;decide
 simp[h1,h2]
theorem vD{c:Nat}(h:isDigit c=true):nsep c=true:=oI (by unfold inWord;rw[h];simp)
theorem oJ{c:Nat}(h:inWord c=true):c≠94:=by
 intro e;subst e;revert h;decide
theorem d5{p:Nat->Bool}(l:List Nat):∀x∈l.takeWhile p,p x=true:=λx hx=>by
 induction l with
 |nil=>simp at hx
 |cons c r ih =>
 rw[takeWhile_cons]at hx;split at hx
 ·rcases mem_cons.mp hx with e|e
  ·subst e;assumption
  exact ih e
 simp at hx
theorem gg{p:Nat->Bool}:∀(l:List Nat) {e:Nat}{s:List Nat},l.dropWhile p=e::s->p e=false
 |[],e,s,h=>by simp at h
 |c::r,e,s,h=>by
  rw[dropWhile_cons]at h;split at h
  ·exact gg r h
  cases h;rename_i q;simpa using q
def goes(K:List Nat->Bool)(o:Option (List Nat)):Bool:=match o with
 |none=>false
 |some []=>true
 |some (c::r)=>sep c&&K r
def after(K:List Nat->Bool)(l:List Nat):Bool:=match l with
 |[]=>true
 |_::r=>K r
theorem ki(K:List Nat->Bool)(s:List Nat) :
  goes K (if(s.takeWhile isDigit).length=1\/(s.takeWhile isDigit).length=2 then some (s.dropWhile isDigit)else none) =
   ((!(s.takeWhile nsep).isEmpty&&(decide ((s.takeWhile nsep).length<=2)&&(s.takeWhile nsep).all isDigit))&&after K (s.dropWhile nsep)):=by
 have hs:s=s.takeWhile isDigit++s.dropWhile isDigit:=takeWhile_append_dropWhile.symm;have hd:=d5 (p:=isDigit) s;generalize hdd:s.takeWhile isDigit=d at hs hd;generalize hrr:s.dropWhile isDigit=rest at hs;have hn:∀x∈d,nsep x=true:=λx hx=>vD (hd x hx);have e1:s.takeWhile nsep=d++rest.takeWhile nsep:=by rw[hs,takeWhile_append_of_pos hn]
 have e2:s.dropWhile nsep=rest.dropWhile nsep:=by rw[hs,List.dropWhile_append_of_pos hn]
 rw[e1,e2];have hall:d.all isDigit=true:=all_eq_true.mpr hd;have small:(!d.isEmpty&&decide (d.length<=2))=decide (d.length=1\/d.length=2):=by
  match d with
  |[]=>rfl
  |[_]=>rfl
  |[_,_]=>rfl
  |_::_::_::r=>simp
 cases rest with
 |nil =>
  rw[List.takeWhile_nil,List.dropWhile_nil,append_nil,hall,Bool.and_true,small];by_cases q:d.length=1\/d.length=2
  ·rw[if_pos q,decide_eq_true q];rfl
  rw[if_neg q,decide_eq_false q];rfl
 |cons e r =>
 have he:isDigit e=false:=gg s hrr;by_cases hs2:sep e=true
 ·have hn2:nsep e=false:=by unfold nsep;rw[hs2];rfl
  rw[takeWhile_cons,dropWhile_cons,hn2];simp only[false_eq_true,if_false,append_nil];rw[hall,Bool.and_true,small];by_cases q:d.length=1\/d.length=2
  ·rw[if_pos q,decide_eq_true q]
   show(sep e&&K r)=_;rw[hs2];rfl
  rw[if_neg q,decide_eq_false q];rfl
 have hn2:nsep e=true:=by unfold nsep;simpa using hs2
 have ha:(d++(e::r).takeWhile nsep).all isDigit=false:=by
  rw[takeWhile_cons,hn2,List.all_append];simp[he]
 rw[ha];simp only[Bool.and_false,Bool.false_and];by_cases q:d.length=1\/d.length=2
 ·rw[if_pos q]
  show(sep e&&K r)=false;simp[hs2]
 rw[if_neg q];rfl
theorem vE(K:List Nat->Bool)(s:List Nat):goes K (powerText s)=(bV (s.takeWhile nsep)&&after K (s.dropWhile nsep)):=by
 match s with
 |[]=>exact ki K []
 |c::r =>
  by_cases h:c=45
  ·subst h
   have e:=ki K r;have e1:(45::r).takeWhile nsep=45::r.takeWhile nsep:=rfl;have e2:(45::r).dropWhile nsep=r.dropWhile nsep:=rfl;rw[e1,e2];exact e
  have e:=ki K (c::r);have e3:powerText (c::r)=if((c::r).takeWhile isDigit).length=1\/((c::r).takeWhile isDigit).length=2 then some ((c::r).dropWhile isDigit)else none:=by
   unfold powerText;dsimp only;split
   ·rename_i q;cases q;exact absurd rfl h
   rfl
  rw[e3,e];have e4:bV ((c::r).takeWhile nsep)=(!((c::r).takeWhile nsep).isEmpty&&(decide (((c::r).takeWhile nsep).length<=2)&&((c::r).takeWhile nsep).all isDigit)):=by
   unfold bV;have hh:¬((c::r).takeWhile nsep).head? = some 45:=by
    rw[takeWhile_cons];split
    ·simpa using h
    simp
   simp only[if_neg hh]
  rw[e4]
theorem iG{c:Nat}(h:isSmall c=true):inWord c=true:=by unfold inWord;rw[h];rfl
theorem oK{l:List Nat}{e:Nat}(h:e∈l)(he:inWord e=false):bq l=false:=by
 unfold bq;have:l.all inWord=false:=List.all_eq_false.mpr ⟨e,h,by rw[he];simp⟩;rw[this];simp
theorem iH{c:Nat}{r:List Nat}(h:isSmall c=false):bq (c::r)=false:=by
 unfold bq;rw[headD_cons,h];simp
theorem vF(K:List Nat->Bool)(t:List Nat):goes K (factorText t)=(bg (t.takeWhile nsep)&&after K (t.dropWhile nsep)):=by
 match t with
 |[]=>rfl
 |c::r =>
  unfold factorText;dsimp only;by_cases h49:c=49
  ·subst h49
   simp only[if_true];have e1:(49::r).takeWhile nsep=49::r.takeWhile nsep:=rfl;have e2:(49::r).dropWhile nsep=r.dropWhile nsep:=rfl;rw[e1,e2];cases r with
   |nil=>rfl
   |cons d r2 =>
   by_cases hs:sep d=true
   ·have hn:nsep d=false:=by unfold nsep;rw[hs];rfl
    rw[takeWhile_cons,dropWhile_cons,hn];show(sep d&&K r2)=(bg [49]&&K r2);rw[hs];rfl
   have hn:nsep d=true:=by unfold nsep;simpa using hs
   have hf:bg (49::(d::r2).takeWhile nsep)=false:=by
    unfold bg;rw[takeWhile_cons,hn];simp only[if_true];have h1:((49::d::r2.takeWhile nsep)==[49])=false:=by simp
    rw[h1,Bool.false_or];split
    ·have:(49::d::r2.takeWhile nsep).takeWhile (· != 94)=49::(d::r2.takeWhile nsep).takeWhile (· != 94):=rfl
     rw[this,iH (by decide)];rfl
    exact iH (by decide)
   rw[hf];show(sep d&&K r2)=_;simp[hs]
  rw[if_neg h49];cases hsm:isSmall c with
  |false =>
   simp only[if_true];show false=_;by_cases hs:sep c=true
   ·have hn:nsep c=false:=by unfold nsep;rw[hs];rfl
    rw[takeWhile_cons,hn];rfl
   have hn:nsep c=true:=by unfold nsep;simpa using hs
   have hf:bg ((c::r).takeWhile nsep)=false:=by
    rw[takeWhile_cons,hn];simp only[if_true];unfold bg;have h1:((c::r.takeWhile nsep)==[49])=false:=by simp[h49]
    rw[h1,Bool.false_or];split
    ·rw[takeWhile_cons]
     split
     ·rw[iH hsm];rfl
     rfl
    exact iH hsm
   rw[hf];rfl
  |true =>
  simp only[Bool.true_eq_false,if_false];have hs:c::r=(c::r).takeWhile inWord++(c::r).dropWhile inWord:=takeWhile_append_dropWhile.symm;have hw:(c::r).takeWhile inWord=c::r.takeWhile inWord:=by rw[takeWhile_cons,iG hsm];rfl
  have hd:=d5 (p:=inWord) (c::r);have hrest:=λ{e s}=>gg (p:=inWord) (c::r) (e:=e) (s:=s);generalize hww:(c::r).takeWhile inWord=ww at hs hd hw;generalize(c::r).dropWhile inWord=rest at hs hrest;have hn:∀x∈ww,nsep x=true:=λx hx=>oI (hd x hx);have e1:(c::r).takeWhile nsep=ww++rest.takeWhile nsep:=by rw[hs,takeWhile_append_of_pos hn]
  have e2:(c::r).dropWhile nsep=rest.dropWhile nsep:=by rw[hs,List.dropWhile_append_of_pos hn]
  have hall:ww.all inWord=true:=all_eq_true.mpr hd;have h94:∀x∈ww,(x != 94)=true:=λx hx=>by simpa using oJ (hd x hx)
  have hshort:bq ww=decide (ww.length<=12):=by
   unfold bq;rw[hall,hw,headD_cons,hsm];simp
  have hno:ww.contains 94=false:=by
   cases q:ww.contains 94 with
   |false=>rfl
   |true=>exact absurd rfl (oJ (hd 94 (List.contains_iff_mem.mp q)))
  have h1:∀x,((ww++x)==[49])=false:=λx=>by
   rw[hw];simp[h49]
  have hfw:bg ww=decide (ww.length<=12):=by
   unfold bg;have:=h1 [];rw[append_nil]at this;rw[this,Bool.false_or,hno];simp[hshort]
  rw[e1,e2];cases rest with
  |nil =>
   rw[List.takeWhile_nil,List.dropWhile_nil,append_nil,hfw];by_cases q:12<ww.length
   ·rw[if_pos (show MOSTSIGNS<ww.length from q),decide_eq_false (by omega)];rfl
   rw[if_neg (show ¬MOSTSIGNS<ww.length from q),decide_eq_true (by omega)];rfl
  |cons e s =>
  have he:inWord e=false:=hrest rfl;by_cases hs2:sep e=true
  ·have hn2:nsep e=false:=by unfold nsep;rw[hs2];rfl
   have ne94:e≠94:=by intro z;subst z;revert hs2;decide
   rw[takeWhile_cons,dropWhile_cons,hn2];simp only[false_eq_true,if_false,append_nil];rw[hfw];by_cases q:12<ww.length
   ·rw[if_pos (show MOSTSIGNS<ww.length from q),decide_eq_false (by omega)];rfl
   rw[if_neg (show ¬MOSTSIGNS<ww.length from q),decide_eq_true (by omega)];split
   ·rename_i z;cases z;exact absurd rfl ne94
   show(sep e&&K s)=_;rw[hs2];rfl
  have hn2:nsep e=true:=by unfold nsep;simpa using hs2
  rw[takeWhile_cons,dropWhile_cons,hn2];simp only[if_true];by_cases h94e:e=94
  ·subst h94e
   have hf:bg (ww++94::s.takeWhile nsep)=(decide (ww.length<=12)&&bV (s.takeWhile nsep)):=by
    unfold bg;rw[h1,Bool.false_or,if_pos (by simp),takeWhile_append_of_pos h94,List.dropWhile_append_of_pos h94];simp[hshort]
   rw[hf];by_cases q:12<ww.length
   ·rw[if_pos (show MOSTSIGNS<ww.length from q),decide_eq_false (by omega)];rfl
   rw[if_neg (show ¬MOSTSIGNS<ww.length from q),decide_eq_true (by omega)];simp only[Bool.true_and];exact vE K s
  have hf:bg (ww++e::s.takeWhile nsep)=false:=by
   unfold bg;rw[h1,Bool.false_or];split
   ·have hne:(e != 94)=true:=by simpa using h94e
    rw[takeWhile_append_of_pos h94,takeWhile_cons,hne];rw[oK (e:=e) (by simp) he];rfl
   exact oK (e:=e) (by simp) he
  rw[hf];by_cases q:12<ww.length
  ·rw[if_pos (show MOSTSIGNS<ww.length from q)];rfl
  rw[if_neg (show ¬MOSTSIGNS<ww.length from q)];split
  ·rename_i z;cases z;exact absurd rfl h94e
  show(sep e&&K s)=_;simp[hs2]
theorem gh:∀(n:Nat) (t:List Nat),t.length<n->measureText n t=(cut sep [] t).all bg
 |0,t,h=>by omega
 |n+1,t,h=>by
  have e:measureText (n+1) t=goes (measureText n) (factorText t):=by
   show(match factorText t with|none=>false|some []=>true|some (c::r)=>(c==46||c==47)&&measureText n r)=_
   cases factorText t with
   |none=>rfl
   |some l=>cases l<;>rfl
  rw[e,vF,oH,nil_append,all_cons];have hl:t.length=(t.takeWhile nsep).length+(t.dropWhile nsep).length:=by rw[<- length_append,takeWhile_append_dropWhile]
  cases q:t.dropWhile nsep with
  |nil=>rfl
  |cons c r =>
  rw[q,length_cons]at hl;show(_&&measureText n r)=_;rw[gh n r (by omega)]
theorem kj(p:Nat->Bool):∀(l zx:List Nat),∀f∈cut p zx l,f.length<=zx.length+l.length
 |[],zx,f,h=>by
  rw[mem_singleton.mp h];omega
 |c::r,zx,f,h=>by
  have h':f∈(if p c=true then zx::cut p [] r else cut p (zx++[c]) r):=h;rw[length_cons];split at h'
  ·rcases mem_cons.mp h' with e|e
   ·rw[e];omega
   have:=kj p r [] f e;rw[length_nil]at this;omega
  have:=kj p r _ f h';rw[length_append,length_singleton]at this;omega
theorem vG{p:List Nat->Bool}{l:List (List Nat)}{i:Nat}{x:List Nat}(h:l[i]? = some x):(l.take (i+1)).all p=((l.take i).all p&&p x):=by
 rw[take_succ,h,List.all_append];simp
theorem vH{p:List Nat->Bool}{l:List (List Nat)}{i:Nat}{x:List Nat}(h:l[i]? = some x)(hx:p x=false):l.all p=false:=List.all_eq_false.mpr ⟨x,mem_of_getElem? h,by rw[hx];simp⟩
theorem vI(l:List Nat):NumText.digitsVal l=digitsValue l:=by
 unfold NumText.digitsVal digitsValue;have e:(λ(zx c:Nat)=>zx*10+(c - 48))=λn c=>10*n+(c - 48):=by
  funext x y
  rw[mul_comm]
 rw[e]
theorem oM{l:List Nat}(h:∀c∈l,isDigit c=true):NumText.AllDigits l:=λc hc=>by
 have:=h c hc;unfold isDigit at this;simpa using this
theorem oN:∀(l:List Nat) (n:Nat),(∀c∈l,isDigit c=true)->l.foldl (λn c=>10*n+(c - 48)) n<(n+1)*10 ^ l.length
 |[],n,_=>by simp
 |c::r,n,h=>by
  have hc:=oM h c (mem_cons_self ..);have ih:=oN r (10*n+(c - 48)) λx hx=>h x (mem_cons_of_mem _ hx);rw[foldl_cons,length_cons,Nat.pow_succ];refine Nat.lt_of_lt_of_le ih ?_;rw[mul_comm (10 ^ r.length) 10,<- Nat.mul_assoc];exact Nat.mul_le_mul_right _ (by omega)
theorem vJ{l:List Nat}(h:∀c∈l,isDigit c=true):digitsValue l<10 ^ l.length:=by
 have:=oN l 0 h;rw[zero_add,one_mul]at this;exact this
theorem oO{a b:Nat}(h:a<=b):10 ^ a<=10 ^ b:=Nat.pow_le_pow_right (by decide) h
theorem vK{l:List Nat}{k:Nat}(h:∀c∈l,isDigit c=true)(hk:l.length<=k):digitsValue l<10 ^ k:=Nat.lt_of_lt_of_le (vJ h) (oO hk)
theorem gi{l:List Nat}(h:∀c∈l,isDigit c=true)(h1:l≠[])(h2:l.length<=4300):intText? (S l)=some ((digitsValue l:Nat):Int):=by
 have e:=PySem.intText_digits (x:=S l) (oM h) h1 (by rw[aS];exact h2);rw[show(S l).cps.toList=l from rfl,vI]at e;exact e
theorem vL(n:Nat):∀k,(List.replicate n 48).foldl (λn c=>10*n+(c - 48)) k=k*10 ^ n:=by
 induction n with
 |zero=>intro k;simp
 |succ n ih =>
 intro k;rw[replicate_succ,foldl_cons,ih,Nat.pow_succ];show(10*k+0)*10 ^ n=k*(10 ^ n*10);rw[add_zero,mul_comm 10 k,Nat.mul_assoc,mul_comm 10]
theorem vM(n:Nat):digitsValue (49::List.replicate n 48)=10 ^ n:=by
 unfold digitsValue;rw[foldl_cons,vL];show(10*0+1)*10 ^ n=_;simp
theorem oP(x:Array Nat):∀(n:Nat) (zx:Array Nat),(List.replicate n x).foldl (· ++ ·) zx=zx++((List.replicate n x.toList).flatten).toArray
 |0,zx=>by simp
 |n+1,zx=>by
  rw[replicate_succ,foldl_cons,oP x n,replicate_succ,List.flatten_cons];apply Array.ext';simp
theorem vN(n c:Nat):(List.replicate n [c]).flatten=List.replicate n c:=by
 induction n with
 |zero=>rfl
 |succ n ih=>rw[replicate_succ,List.flatten_cons,ih];rfl
theorem vO(n:Nat):Txt.mul (ofString "0") (n:Int)=S (List.replicate n 48):=by
 unfold Txt.mul;by_cases h:(n:Int)<1
 ·have:n=0:=by omega
  subst this;rw[if_pos h];rfl
 rw[if_neg h];have e0:((ofString "0").length==0)=false:=by left
 rw[e0,Bool.or_false];by_cases h1:((n:Int)==1)=true
 ·have:n=1:=by have:=eq_of_beq h1;omega
  subst this;rw[if_pos h1]
  left
 rw[if_neg h1];refine cH ?_;rw[Int.toNat_natCast];show(List.foldl (λx1 x2=>x1++x2) #[] (List.replicate n (ofString "0").cps)).toList=List.replicate n 48;rw[oP];rw[show(ofString "0").cps.toList=[48]by left,vN];simp
noncomputable def frac(a:List Nat)(c:Nat)(b:List Nat):Option (Nat×Nat):=
 let top:=if c=46 then digitsValue (a++b)else digitsValue a
 let low:=if c=47 then digitsValue b else if c=46 then 10 ^ b.length else 1
 let g:=Nat.gcd top low
 let good:=decide (a.length<=MOSTSIGNS)&&(decide (b.length<=MOSTSIGNS)&&(low != 0&&(fits (top / g)&&fits (low / g))))
 if good=true then some (top / g,low / g)else none
def iI(o u:Nat):Option (Nat×Nat):=if u=0 then none else if 10 ^ 12<=o / Nat.gcd o u\/10 ^ 12<=u / Nat.gcd o u then none else some (o / Nat.gcd o u,u / Nat.gcd o u)
theorem kl{a b:List Nat}{c:Nat}(ha:a.length<=12)(hb:b.length<=12) :
  frac a c b=iI (if c=46 then digitsValue (a++b)else digitsValue a) (if c=47 then digitsValue b else if c=46 then 10 ^ b.length else 1):=by
 unfold frac iI;dsimp only;generalize(if c=46 then digitsValue (a++b)else digitsValue a)=o;generalize(if c=47 then digitsValue b else if c=46 then 10 ^ b.length else 1)=u;rw[decide_eq_true (show a.length<=MOSTSIGNS from ha),decide_eq_true (show b.length<=MOSTSIGNS from hb)];unfold fits;by_cases h0:u=0
 ·subst h0
  simp
 rw[if_neg h0];by_cases h1:10 ^ 12<=o / o.gcd u\/10 ^ 12<=u / o.gcd u
 ·rw[if_pos h1,if_neg]
  simp only[Bool.true_and,and_eq_true,bne_iff_ne,decide_eq_true_eq];omega
 rw[if_neg h1,if_pos];simp only[Bool.true_and,and_eq_true,bne_iff_ne,decide_eq_true_eq];omega
theorem km{a b:List Nat}{c:Nat}(h:12<a.length\/12<b.length):frac a c b=none:=by
 unfold frac;dsimp only;rw[if_neg];simp only[and_eq_true,decide_eq_true_eq];have:MOSTSIGNS=12:=rfl;omega
noncomputable def afs(o u:Int)(m:Str):List (Str×V):=[("over",.int o),("under",.int u),("measure",.str m)]
def bT(C:Addr)(H:Hp)(a:Addr)(o u:Int)(m:List Nat):Prop:=∃dx,H a=some (.ins C dx (afs o u (S m)))
theorem bT.same{C:Addr}{H H':Hp}{a:Addr}{o u:Int}{m:List Nat}(h:bT C H a o u m)(s:Same H H'):bT C H' a o u m:=let⟨dx,e⟩:=h;⟨dx,s _ _ e⟩
def bR(C:Addr)(names:List Str):Sp:=λvs H Q _=>∃(p dx:Addr) (args:List V),vs=.ref p::args/\args.length=names.length/\H p=some (.ins C dx [])/\Q .non (upd H p (.ins C dx (names.zip args)))
theorem bW{H:Hp}{x dx:Addr}{o1 o2:HO}(h1:H x=none)(h2:H dx=none):Same H (upd (upd H dx o1) x o2):=λb o e=>by rw[ao (aF e h1),ao (aF e h2)];exact e
def gj(C:Addr)(H:Hp)(Q:VK)(r:Option (Nat×Nat)):Prop:=match r with
 |none=>∀H',Same H H'->Q .non H'
 |some (x,y)=>∀(p:Addr) (H':Hp),Same H H'->bT C H' p (x:Int) (y:Int) []->Q (.ref p) H'
theorem gj.mono{C:Addr}{H H1:Hp}{Q:VK}{r:Option (Nat×Nat)}(h:gj C H Q r)(s:Same H H1):gj C H1 Q r:=by
 cases r with
 |none=>exact λH' s'=>h H' (s.trans s')
 |some p=>exact λa H' s' q=>h a H' (s.trans s') q
end M
namespace L2
open PySem PySem.Spec PyProof.Rows TL
theorem pe_r{X:Cx}{x:Str}{a:Addr}{pos:Pos}(h:X.mg x=some (.ref a))(hg:Gl X x:=by rfl)(hd:(x==("__debug__":Str))=false:=by decide):PE X (.Name x pos) (tC (.ref a)):=lT hg h rfl hd
theorem few0{n:Nat}(h:n<1000:=by decide):n<1000:=h
theorem few{f:Str}{v:V}{fs:List (Str×V)}{n:Nat}(h:fs.length<=n):(putF f v fs).length<=n+1:=Nat.le_trans (gU f v fs) (Nat.add_le_add_right h 1)
theorem few1{f1:Str}{v1:V}:(putF f1 v1 []).length<1000:=Nat.lt_of_le_of_lt (few (n:=0) (Nat.le_refl _)) (by decide)
theorem few2{f1 f2:Str}{v1 v2:V}:(putF f2 v2 (putF f1 v1 [])).length<1000:=Nat.lt_of_le_of_lt (few (few (n:=0) (Nat.le_refl _))) (by decide)
theorem few3{f1 f2 f3:Str}{v1 v2 v3:V}:(putF f3 v3 (putF f2 v2 (putF f1 v1 []))).length<1000:=Nat.lt_of_le_of_lt (few (few (few (n:=0) (Nat.le_refl _)))) (by decide)
theorem few4{f1 f2 f3 f4:Str}{v1 v2 v3 v4:V}:(putF f4 v4 (putF f3 v3 (putF f2 v2 (putF f1 v1 [])))).length<1000:=Nat.lt_of_le_of_lt (few (few (few (few (n:=0) (Nat.le_refl _))))) (by decide)
theorem vP(x:Int)(l:List Int):inV (.int x) (l.map V.int)=l.contains x:=by
 unfold inV
 induction l with
 |nil=>rfl
 |cons a r ih =>
 rw[map_cons,any_cons,ih,List.contains_cons];congr 1;show(a==x)=(x==a);exact Bool.beq_comm
theorem vQ(x:Str)(l:List Str):inV (.str x) (l.map V.str)=l.any (· == x):=by
 unfold inV;rw[any_map];rfl
theorem flat_strs(l:List Str):(l.map V.str).all di=true:=by
 rw[all_map];exact all_eq_true.mpr λ_ _=>rfl
end L2
namespace M
open PySem PySem.Spec PyProof.Rows L2 TL
open Vaunid (isSmall isDigit inWord)
theorem cK(p:Nat->Bool):∀l:List Nat,l.dropWhile p=l.drop (l.takeWhile p).length
 |[]=>rfl
 |c::r=>by
  rw[dropWhile_cons,takeWhile_cons];split
  ·rw[cK p r,length_cons,drop_succ_cons]
  rfl
theorem cM(p:Nat->Bool)(l:List Nat):(l.takeWhile p).length<=l.length:=List.Sublist.length_le (List.takeWhile_sublist p)
theorem fi{t:List Nat}{i c:Nat}(h:t[i]? = some c):t.drop i=c::t.drop (i+1):=by
 obtain⟨h1,h2⟩:=List.getElem?_eq_some_iff.mp h;rw[drop_eq_getElem_cons h1,h2]
theorem gm(s:List Nat):(numberText s).1=(match s.drop (s.takeWhile isDigit).length with
  |c::d::r=>if(c=47\/c=46)/\isDigit d=true then(s.takeWhile isDigit).length+(1+((d::r).takeWhile isDigit).length)else(s.takeWhile isDigit).length
  |_=>(s.takeWhile isDigit).length):=by
 unfold numberText;dsimp only;rw[cK];generalize(s.takeWhile isDigit).length=n;generalize s.drop n=l
 match l with
 |[]=>rfl
 |[c]=>rfl
 |c::d::r =>
  unfold secondRow;dsimp only;by_cases h:(c=47\/c=46)/\isDigit d=true
  ·simp only[if_pos h]
   rw[if_neg (by omega)]
  simp only[if_neg h,if_true,add_zero]
theorem vR{t:List Nat}{p:Nat}(h:¬p+((t.drop p).takeWhile isDigit).length+1<t.length):(numberText (t.drop p)).1=((t.drop p).takeWhile isDigit).length:=by
 rw[gm,drop_drop];have hl:(t.drop (p+((t.drop p).takeWhile isDigit).length)).length<=1:=by rw[length_drop];omega
 generalize t.drop (p+((t.drop p).takeWhile isDigit).length)=l at hl
 match l,hl with
 |[],_=>rfl
 |[c],_=>rfl
 |_::_::_,hl=>simp at hl
theorem vS{t:List Nat}{p c d:Nat}(h1:t[p+((t.drop p).takeWhile isDigit).length]? = some c)(h2:t[p+((t.drop p).takeWhile isDigit).length+1]? = some d) :
  (numberText (t.drop p)).1=if(c=47\/c=46)/\isDigit d=true then((t.drop p).takeWhile isDigit).length+(1+((t.drop (p+((t.drop p).takeWhile isDigit).length+1)).takeWhile isDigit).length)else((t.drop p).takeWhile isDigit).length:=by
 rw[gm,drop_drop,fi h1,fi h2]
theorem vT(c:Nat):inV (.int (c:Int)) [V.int 46,V.int 47]=decide (c=46\/c=47):=by
 have e:=vP (c:Int) [46,47];rw[show[V.int 46,V.int 47]=[46,47].map V.int from rfl,e];rw[Bool.eq_iff_iff];simp;omega
theorem vU{a b:List Nat}(h:∀x∈a,isDigit x=true)(h2:∀x∈b,isDigit x=true):Txt.split (S (a++47::b)) (ofString "/")=[S a,S b]:=by
 refine fW ?_;rw[oF];have na:47∉a:=λm=>by have:=h _ m;revert this;decide
 have nb:47∉b:=λm=>by have:=h2 _ m;revert this;decide
 have e:=nF (s:=47) (S:=[]) (rest:=b) (zx:=[]) na;rw[jY nb]at e;exact e
theorem vV{a b:List Nat}(h:∀x∈a,isDigit x=true)(h2:∀x∈b,isDigit x=true):Txt.split (S (a++46::b)) (ofString ".")=[S a,S b]:=by
 refine fW ?_;rw[kg];have na:46∉a:=λm=>by have:=h _ m;revert this;decide
 have nb:46∉b:=λm=>by have:=h2 _ m;revert this;decide
 have e:=nF (s:=46) (S:=[]) (rest:=b) (zx:=[]) na;rw[jY nb]at e;exact e
theorem vW{a:List Nat}(h:∀x∈a,isDigit x=true):Txt.split (S a) (ofString ".")=[S a]:=by
 refine fW ?_;rw[kg];have na:46∉a:=λm=>by have:=h _ m;revert this;decide
 rw[jY na];rfl
theorem kn{K:Frag}{x0 x1 x3:Option V}{H:Hp}{p:Addr}{ys:List Str}{R:VK}(hp:H p=some (.lst (ys.map V.str)))(hy:∀y∈ys,y.length<=sizeLine)(hl:ys.length<=sizeLine)
  (k:∀(D:Addr) (H':Hp),Same H H'->H' D=some (.lst ((ys.map λy=>(y.length:Int)).map V.int))->R (.ref D) H') :
  tLc (gO K (tVar 2)) (ck 3) tYes (tCB (λxs H Q=>∃z,xs=[V.str z]/\z.length<=sizeLine/\Q (V.int ↑z.length) H) (cC (tVar 3) tNil)) [3] [x0,x1,some (.ref p),x3] H R:=by
 refine gf (Itl K p) (ys.map V.str) (λv=>match v with|.str z=>V.int z.length|_=>.non) (H1:=H) (λR h=>?_) (by rw[length_map];exact hl) (oC (SqL.of hp)) (λx H' D zx Nx hx sm hD hacc nx=>?_) λD H' hD sm e=>?_
 ·exact⟨p,rfl,⟨_,SqL.of hp⟩,h⟩
 ·obtain⟨d,hd,rfl⟩:=mem_map.mp hx
  refine⟨rfl,?_⟩;unfold tYes;simp only[if_true];exact⟨d,rfl,hy d hd,zx,hD,hacc,nx H' (Same.refl _)⟩
 refine k D H' sm ?_;rw[e,map_map,map_map];rfl
theorem vX:ofString "/"=(⟨#[47]⟩:Str):=by left
theorem dQ(a b:List Nat):S a++S b=S (a++b):=cH (by rw[fV];rfl)
theorem vY(n:Nat)(h:n<=12):MulOk (ofString "0") (n:Int):=by
 have key:∀m:Fin 13,MulOk (ofString "0") (m.1:Int):=by
  unfold MulOk
  left
 exact key ⟨n,by omega⟩
theorem vZ:ofString "1"=S [49]:=by left
theorem v5(n:Nat)(h:n<=12):intText? (ofString "1"++Txt.mul (ofString "0") (n:Int))=some ((10 ^ n:Nat):Int)/\(ofString "1"++Txt.mul (ofString "0") (n:Int)).length<=640/\(ofString "1").length+(Txt.mul (ofString "0") (n:Int)).length<=sizeLine:=by
 rw[vO,vZ,dQ,aS,aS,aS];have e:=gi (l:=[49]++List.replicate n 48) (λc hc=>by
  rcases mem_append.mp hc with q|q
  ·rw[mem_singleton.mp q];decide
  rw[(List.mem_replicate.mp q).2];decide) (by simp) (by simp;omega)
 refine⟨?_,by simp;omega,?_⟩
 ·rw[e]
  congr 2;exact vM n
 rw[List.length_replicate];exact Nat.le_trans (show 1+n<=13 by omega) (by decide)
theorem v7(l:List Nat)(k:Nat):cutS (S l) (some (k:Int)) none=S (l.drop k):=by
 refine cH ?_;unfold cutS;rw[nj,tl_S,HT.sIx_nat,HT.sIx_none,du,aS];by_cases h:k<=l.length
 ·rw[Nat.min_eq_left h]
  exact take_of_length_le (by rw[length_drop];omega)
 rw[Nat.min_eq_right (by omega),drop_eq_nil_of_le (Nat.le_refl _),drop_eq_nil_of_le (by omega)];simp
theorem v8(l:List Nat)(k:Nat):cutS (S l) none (some (k:Int))=S (l.take k):=by
 refine cH ?_;unfold cutS;rw[nj,tl_S,HT.sIx_nat,HT.sIx_none,du,aS,drop_zero,sub_zero];rw[Nat.min_def];split
 ·rfl
 rw[take_length,take_of_length_le (by omega)]
theorem iJ(t:List Nat)(i j:Nat)(hi:i<=t.length):cutV (bs t) (some (i:Int)) (some (j:Int))=bs ((t.drop i).take (j - i)):=by
 unfold cutV;rw[HT.sIx_nat,HT.sIx_nat,cg,Nat.min_eq_left hi,vt,vv];by_cases h:j<=t.length
 ·rw[Nat.min_eq_left h]
 rw[Nat.min_eq_right (by omega),take_of_length_le (by rw[length_drop];exact Nat.le_refl _),take_of_length_le (l:=t.drop i) (by rw[length_drop];omega)]
theorem v9(l:List Nat):Txt.startswith (S l) (ofString "-")=decide (l.head? = some 45):=by
 match l with
 |[]=>left
 |c::r =>
  unfold Txt.startswith
  have e1:(ofString "-").length=1:=by left
  rw[aS,e1,length_cons,decide_eq_true (by omega),Bool.true_and];have e2:Builtin.Str.subAt (S (c::r)) (ofString "-") 0=decide (c=45):=by
   rw[StrLaws.subAt_eq,e1,du,show(ofString "-").cps.toList=[45]by left];show([c]==[45])=_;rw[Bool.eq_iff_iff];simp
  rw[e2];simp
theorem wa{b:Nat->Bool}{x0 x2:Option V}{H:Hp}{l:List Nat}{R:VK}(hl:l.length<=sizeLine)(k:∀(D:Addr) (H':Hp),Same H H'->H' D=some (.lst ((l.map b).map V.bl))->R (.ref D) H') :
  tLc (iStr (tVar 1)) (ck 2) tYes (eY (spB b) [] E0 (cC (tCB (λxs H Q=>∃x,xs=[V.str x]/\x.length=1/\Q (V.int ↑(x.cps.getD 0 0)) H) (cC (tVar 2) tNil)) tNil)) [2] [x0,some (.str (S l)),x2] H R:=by
 refine gf (Its (S l)) (l.map λd=>V.str ⟨#[d]⟩) (λv=>match v with|.str x=>V.bl (b (x.cps.getD 0 0))|_=>.non) (H1:=H) (λR h=>?_) (by rw[length_map];exact hl) (j' (x:=S l)) (λx H' D zx Nx hx sm hD hacc nx=>?_) λD H' hD sm e=>?_
 ·exact⟨_,rfl,h⟩
 ·obtain⟨d,hd,rfl⟩:=mem_map.mp hx
  refine⟨rfl,?_⟩;unfold tYes;simp only[if_true];exact⟨_,rfl,rfl,d,rfl,zx,hD,hacc,nx H' (Same.refl _)⟩
 refine k D H' sm ?_;rw[e,map_map,map_map];rfl
theorem wb:ofString "^"=(⟨#[94]⟩:Str):=by left
theorem wc{l:List Nat}(h:94∈l):Txt.partition (S l) (ofString "^")=(S (l.takeWhile (· != 94)),ofString "^",S ((l.dropWhile (· != 94)).drop 1)):=by
 have hl:l=l.takeWhile (· != 94)++l.dropWhile (· != 94):=takeWhile_append_dropWhile.symm;have hn:94∉l.takeWhile (· != 94):=λm=>by have:=d5 _ _ m;simp at this
 cases q:l.dropWhile (· != 94)with
 |nil =>
  rw[q,append_nil]at hl;rw[hl]at h;exact absurd h hn
 |cons e s =>
 have he:e=94:=by have:=gg _ q;simpa using this
 subst he;rw[q]at hl;have e:=uN (y:=ofString "^") (s:=94) (S:=[]) (by left) (a:=S (l.takeWhile (· != 94))) (b:=S s) hn;have e2:S (l.takeWhile (· != 94))++ofString "^"++S s=S l:=by
  rw[show ofString "^"=S [94]by left,dQ,dQ,append_assoc];exact congrArg S hl.symm
 rw[e2]at e;rw[e];rfl
end M
namespace L2
open PySem PySem.Spec PyProof.Rows TL
def gp(g:TG)(tb:TS)(D:Ends)(σ:St)(J:It)(H1:Hp):Prop:=∃W:Nat->Nat->St->Hp->Prop,(∃m,W 0 m σ H1)/\∀i m σ H,W i m σ H ->
 (J.stop i H/\D.nx σ H)\/(J.go i H/\∃N:St->Hp->Prop,(∀σ' H',N σ' H'->∃m',m'<m/\W (i+1) m' σ' H')/\∀x H',J.yld i H x H'->g x σ H' λσ2 H2=>tb {D with nx:=N,ct:=N,bk:=D.nx} σ2 H2)
theorem dy{wi:TI}{g:TG}{tb:TS}{D:Ends}{σ:St}{H:Hp}(h:wi σ H (gp g tb D σ)):tFor wi g tb D σ H:=h
theorem oQ{K:Frag}{a:Addr}{g:TG}{tb:TS}{D:Ends}{σ:St}{H1:Hp}(xs:List V)(Pv:Nat->St->Hp->Prop)(h0:Pv 0 σ H1)(hl:∀i σ H,i<=xs.length->Pv i σ H->SqL K H a xs)
  (hs:∀i x σ H,xs[i]? = some x->Pv i σ H->g x σ H λσ2 H2=>tb {D with nx:=Pv (i+1),ct:=Pv (i+1),bk:=D.nx} σ2 H2)(hd:∀σ H,Pv xs.length σ H->D.nx σ H):gp g tb D σ (Itl K a) H1:=
 tq Pv h0 hl hs hd
end L2
namespace M
open PySem PySem.Spec PyProof.Rows L2 TL
open Vaunid (isSmall isDigit inWord inComment)
def sgn(c:Nat):Nat:=if(32<=c/\c<=126)/\c≠37 then c else 63
theorem oS(c:Nat):sgn c=c\/(sgn c=63/\¬((32<=c/\c<=126)/\c≠37)):=by
 unfold sgn;by_cases h:(32<=c/\c<=126)/\c≠37
 ·rw[if_pos h];exact .inl rfl
 rw[if_neg h];exact .inr ⟨rfl,h⟩
theorem iK{q:Nat->Bool}(h63:q 63=false)(hq:∀c,q c=true->(32<=c/\c<=126)/\c≠37)(c:Nat):q (sgn c)=q c:=by
 rcases oS c with e|⟨e,h⟩
 ·rw[e]
 rw[e,h63];cases r:q c with
 |false=>rfl
 |true=>exact absurd (hq c r) h
theorem oU{c:Nat}(h:isSmall c=true):97<=c/\c<=122:=by unfold isSmall at h;simpa using h
theorem iL{c:Nat}(h:isDigit c=true):48<=c/\c<=57:=by unfold isDigit at h;simpa using h
theorem kr{c:Nat}(h:inWord c=true):(97<=c/\c<=122)\/(48<=c/\c<=57)\/c=95:=by
 unfold inWord at h;rcases or_eq_true_iff.mp h with q|q
 ·exact .inl (oU q)
 rcases or_eq_true_iff.mp q with q|q
 ·exact .inr (.inl (iL q))
 exact .inr (.inr (eq_of_beq q))
theorem we(c:Nat):isSmall (sgn c)=isSmall c:=iK (by decide) (λc h=>by have:=oU h;omega) c
theorem oV(c:Nat):isDigit (sgn c)=isDigit c:=iK (by decide) (λc h=>by have:=iL h;omega) c
theorem wg(c:Nat):inWord (sgn c)=inWord c:=iK (by decide) (λc h=>by have:=kr h;omega) c
theorem fj(d:Nat)(h:(32<=d/\d<=126)/\d≠37/\d≠63)(c:Nat):(sgn c==d)=(c==d):=iK (q:=λc=>c==d) (by simp;omega) (λc e=>by have:=eq_of_beq e;omega) c
theorem wj(c:Nat):sep (sgn c)=sep c:=by unfold sep;rw[fj 46 (by decide),fj 47 (by decide)]
theorem wm{c:Nat}(h:(32<=c/\c<=126)/\c≠37):sgn c=c:=if_pos h
theorem fk{l:List Nat}(h:∀c∈l,(32<=c/\c<=126)/\c≠37):l.map sgn=l:=by
 induction l with
 |nil=>rfl
 |cons c r ih=>rw[map_cons,wm (h c (mem_cons_self ..)),ih λx hx=>h x (mem_cons_of_mem _ hx)]
theorem oW{l:List Nat}(h:∀c∈l,inWord c=true):l.map sgn=l:=fk λc hc=>by have:=kr (h c hc);omega
theorem ku{q:Nat->Bool}(h:∀c,q (sgn c)=q c)(l:List Nat):(l.map sgn).all q=l.all q:=by
 rw[all_map];congr 1
 funext c
 exact h c
theorem oX{q:Nat->Bool}(h:∀c,q (sgn c)=q c):∀l:List Nat,(l.map sgn).takeWhile q=(l.takeWhile q).map sgn
 |[]=>rfl
 |c::r=>by
  rw[map_cons,takeWhile_cons,takeWhile_cons,h c];split
  ·rw[oX h r,map_cons]
  rfl
theorem oY{q:Nat->Bool}(h:∀c,q (sgn c)=q c):∀l:List Nat,(l.map sgn).dropWhile q=(l.dropWhile q).map sgn
 |[]=>rfl
 |c::r=>by
  rw[map_cons,dropWhile_cons,dropWhile_cons,h c];split
  ·exact oY h r
  rfl
theorem ky(l:List Nat):bq (l.map sgn)=bq l:=by
 unfold bq;rw[ku wg,length_map];cases l with
 |nil=>rfl
 |cons c r =>
 rw[map_cons,headD_cons,headD_cons,we];rfl
theorem wo(l:List Nat):bV (l.map sgn)=bV l:=by
 unfold bV;have e:((l.map sgn).head? = some 45)=(l.head? = some 45):=by
  cases l with
  |nil=>rfl
  |cons c r =>
  have:=fj 45 (by decide) c;rw[map_cons,List.head?_cons,List.head?_cons];rw[Bool.eq_iff_iff]at this;simpa using this
 simp only[e];split
 ·cases l with
  |nil=>rfl
  |cons c r =>
   rw[map_cons,List.tail_cons,List.tail_cons,ku oV,length_map];cases r<;>rfl
 rw[ku oV,length_map];simp
theorem wq(l:List Nat):bg (l.map sgn)=bg l:=by
 unfold bg;have n94:∀c,(sgn c != 94)=(c != 94):=λc=>by unfold bne;rw[fj 94 (by decide)]
 have e1:(l.map sgn==[49])=(l==[49]):=by
  match l with
  |[]=>rfl
  |[c] =>
   have:=fj 49 (by decide) c;show([sgn c]==[49])=([c]==[49]);rw[Bool.eq_iff_iff]at this ⊢;simpa using this
  |c::d::r=>simp
 have e2:(l.map sgn).contains 94=l.contains 94:=by
  rw[List.contains_eq_any_beq,List.contains_eq_any_beq,any_map];congr 1
  funext c
  show(94==sgn c)=(94==c);rw[Bool.beq_comm,fj 94 (by decide),Bool.beq_comm]
 rw[e1,e2,oX n94,oY n94,<- List.map_drop,ky,ky,wo]
theorem kz:∀(l zx:List Nat),cut sep (zx.map sgn) (l.map sgn)=(cut sep zx l).map (List.map sgn)
 |[],zx=>rfl
 |c::r,zx=>by
  show(if sep (sgn c)=true then zx.map sgn::cut sep [] (r.map sgn)else cut sep (zx.map sgn++[sgn c]) (r.map sgn))=(if sep c=true then zx::cut sep [] r else cut sep (zx++[c]) r).map (List.map sgn);rw[wj];split
  ·rw[map_cons]
   exact congrArg _ (kz r [])
  have:=kz r (zx++[c]);rw[map_append]at this;exact this
theorem wu(l:List Nat):measureText ((l.map sgn).length+1) (l.map sgn)=measureText (l.length+1) l:=by
 rw[gh _ _ (by omega),gh _ _ (by omega)];have e:=kz l [];rw[map_nil]at e;rw[e,all_map];congr 1
 funext f
 exact wq f
def mch(c:Nat):Bool:=inWord c||(c==94||(c==45||(c==46||c==47)))
theorem wx{c:Nat}(h:mch c=true):(32<=c/\c<=126)/\c≠37:=by
 unfold mch at h;rcases or_eq_true_iff.mp h with q|q
 ·have:=kr q;omega
 simp at q;omega
theorem oZ{c:Nat}(h:isDigit c=true):inWord c=true:=by unfold inWord;rw[h];simp
theorem kC{c:Nat}(h:inWord c=true):mch c=true:=by unfold mch;rw[h];rfl
theorem o4{l:List Nat}(h:bq l=true):∀c∈l,mch c=true:=λc hc=>by
 unfold bq at h;simp only[and_eq_true]at h;exact kC (all_eq_true.mp h.2.2.2 c hc)
theorem wy{l:List Nat}(h:bV l=true):∀c∈l,mch c=true:=λc hc=>by
 unfold bV at h;by_cases q:l.head? = some 45
 ·simp only[if_pos q,and_eq_true]at h
  cases l with
  |nil=>cases q
  |cons d r =>
  cases q;rcases mem_cons.mp hc with e|e
  ·subst e;rfl
  exact kC (oZ (all_eq_true.mp h.2.2 c e))
 simp only[if_neg q,and_eq_true]at h;exact kC (oZ (all_eq_true.mp h.2.2 c hc))
theorem o5{l:List Nat}(h:bg l=true):∀c∈l,mch c=true:=λc hc=>by
 unfold bg at h;rcases or_eq_true_iff.mp h with q|q
 ·rw[eq_of_beq q]at hc
  rw[mem_singleton.mp hc];rfl
 by_cases r:l.contains 94=true
 ·rw[if_pos r,and_eq_true]at q
  have hl:l=l.takeWhile (· != 94)++l.dropWhile (· != 94):=takeWhile_append_dropWhile.symm;rw[hl]at hc;rcases mem_append.mp hc with e|e
  ·exact o4 q.1 c e
  cases z:l.dropWhile (· != 94)with
  |nil=>rw[z]at e;simp at e
  |cons d s =>
  have hd:d=94:=by have:=gg _ z;simpa using this
  rw[z]at e q;rcases mem_cons.mp e with e|e
  ·rw[e,hd];rfl
  exact wy q.2 c e
 rw[if_neg r]at q;exact o4 q c hc
theorem kD:∀(l zx:List Nat),(cut sep zx l).all bg=true->∀c∈zx++l,mch c=true
 |[],zx,h,c,hc=>by
  have h':bg zx=true:=by
   have:=h;simpa[cut]using this
  rw[append_nil]at hc;exact o5 h' c hc
 |d::r,zx,h,c,hc=>by
  have h':(if sep d=true then zx::cut sep [] r else cut sep (zx++[d]) r).all bg=true:=h;by_cases q:sep d=true
  ·rw[if_pos q,all_cons,and_eq_true]at h'
   rcases mem_append.mp hc with e|e
   ·exact o5 h'.1 c e
   rcases mem_cons.mp e with e|e
   ·subst e
    unfold sep at q;unfold mch;rw[q];simp
   exact kD r [] h'.2 c (by simpa using e)
  rw[if_neg q]at h';exact kD r (zx++[d]) h' c (by simpa using hc)
theorem wz{m:List Nat}(h:measureText (m.length+1) m=true):m.map sgn=m:=by
 rw[gh _ _ (by omega)]at h;exact fk λc hc=>wx (kD m [] h c (by simpa using hc))
theorem wA{m:List Nat}(h:measureText (m.length+1) m=true):m≠[]:=by
 intro e;subst e;revert h;decide
theorem kE(s:List Nat):(numberText s).2.2=s.drop (numberText s).1/\(numberText s).1<=s.length:=by
 have hs:(s.takeWhile isDigit).length<=s.length:=cM _ _;rw[gm];unfold numberText;dsimp only;rw[cK];have hd:∀l,s.drop (s.takeWhile isDigit).length=l->s.length=(s.takeWhile isDigit).length+l.length:=λl e=>by rw[<- e,length_drop];omega
 cases q:s.drop (s.takeWhile isDigit).length with
 |nil=>exact⟨q.symm,hs⟩
 |cons c l =>
 have:=hd _ q;cases l with
 |nil=>exact⟨q.symm,hs⟩
 |cons d r =>
 unfold secondRow;dsimp only;rw[length_cons,length_cons]at this;by_cases h:(c=47\/c=46)/\isDigit d=true
 ·simp only[if_pos h]
  have tl2:=cM isDigit (d::r);rw[length_cons]at tl2;have key:(s.takeWhile isDigit).length+(1+((d::r).takeWhile isDigit).length)<=s.length:=by omega
  refine⟨?_,key⟩;rw[cK,<- add_assoc,<- drop_drop,<- drop_drop,q];rfl
 simp only[if_neg h];exact⟨q.symm,hs⟩
theorem o6{s:List Nat}{c:Nat}{r:List Nat}(e:s=c::r)(h:isDigit c=true):1<=(numberText s).1:=by
 rw[gm];have:1<=(s.takeWhile isDigit).length:=by
  rw[e,takeWhile_cons,h];simp
 split
 ·split
  ·exact Nat.le_trans this (le_add_right _ _)
  exact this
 exact this
theorem gu(p:Nat->Bool):∀s:List Nat,s.take (s.takeWhile p).length=s.takeWhile p
 |[]=>rfl
 |c::r=>by
  rw[takeWhile_cons];split
  ·rw[length_cons,take_succ_cons,gu p r]
  rfl
theorem wB(s:List Nat)(n k:Nat):s.take (n+k)=s.take n++(s.drop n).take k:=List.take_add
theorem wC(s:List Nat):∃(b:List Nat) (c:Nat),s.take (numberText s).1=s.takeWhile isDigit++(if c=0 then[]else c::b) /\
  ((c=0/\b=[])\/((c=46\/c=47)/\b≠[]/\∀x∈b,isDigit x=true))/\(numberText s).2.1=frac (s.takeWhile isDigit) c b/\(s.takeWhile isDigit).length+b.length<=s.length:=by
 have hs:(s.takeWhile isDigit).length<=s.length:=cM _ _;have ht:=gu isDigit s;have hd:∀l,s.drop (s.takeWhile isDigit).length=l->s.length=(s.takeWhile isDigit).length+l.length:=λl e=>by rw[<- e,length_drop];omega
 rw[gm];have plain:secondRow (s.dropWhile isDigit)=(0,[],s.dropWhile isDigit)->s.take (s.takeWhile isDigit).length=s.takeWhile isDigit++(if 0=0 then[]else 0::[])/\(numberText s).2.1=frac (s.takeWhile isDigit) 0 []:=λe=>by
  refine⟨by rw[ht];simp,?_⟩;unfold numberText;dsimp only;rw[e];rfl
 cases q:s.drop (s.takeWhile isDigit).length with
 |nil =>
  obtain⟨p1,p2⟩:=plain (by rw[cK,q];rfl);exact⟨[],0,p1,.inl ⟨rfl,rfl⟩,p2,hs⟩
 |cons c l =>
 have:=hd _ q;cases l with
 |nil =>
  obtain⟨p1,p2⟩:=plain (by rw[cK,q];rfl);exact⟨[],0,p1,.inl ⟨rfl,rfl⟩,p2,hs⟩
 |cons d r =>
 dsimp only;rw[length_cons,length_cons]at this;by_cases h:(c=47\/c=46)/\isDigit d=true
 ·rw[if_pos h]
  have tl2:=cM isDigit (d::r);rw[length_cons]at tl2;have hc0:c≠0:=by omega
  refine⟨(d::r).takeWhile isDigit,c,?_,.inr ⟨by omega,?_,λx hx=>d5 _ x hx⟩,?_,by omega⟩
  ·rw[wB,ht,q,if_neg hc0,add_comm 1,take_succ_cons,gu]
  ·rw[takeWhile_cons,h.2]
   simp
  have e:secondRow (s.dropWhile isDigit)=(c,(d::r).takeWhile isDigit,(d::r).dropWhile isDigit):=by
   rw[cK,q];unfold secondRow;dsimp only;rw[if_pos h]
  unfold numberText;dsimp only;rw[e];rfl
 rw[if_neg h];obtain⟨p1,p2⟩:=plain (by
  rw[cK,q];unfold secondRow;dsimp only;rw[if_neg h])
 exact⟨[],0,p1,.inl ⟨rfl,rfl⟩,p2,hs⟩
structure TokFact(p:Nat)(s:List Nat)(k:Vaunid.Token)(r:List Nat):Prop where
 start:k.start=p
 lt:p<k.halt_
 le:k.halt_<=p+s.length
 rest:r=s.drop (k.halt_ - p)
theorem wD{p:Nat}{s r:List Nat}{k:Vaunid.Token}{c:Nat}{s':List Nat}(e:s=c::s')(hc:isSmall c=true)(h:wordToken p s=.ok (k,r)):TokFact p s k r:=by
 unfold wordToken at h;dsimp only at h;split at h
 ·cases h
 cases h;have h1:1<=(s.takeWhile inWord).length:=by
  rw[e,takeWhile_cons,iG hc];simp
 exact⟨rfl,Nat.lt_add_of_pos_right h1,add_le_add_left (cM _ _) _,by rw[add_sub_cancel_left,cK]⟩
theorem o7{p:Nat}{s r:List Nat}{k:Vaunid.Token}{neg:Bool}{c:Nat}{s':List Nat}(e:(if neg=true then s.drop 1 else s)=c::s')(hc:isDigit c=true)(h:numberToken neg p s=.ok (k,r)):TokFact p s k r:=by
 unfold numberToken at h;dsimp only at h;have hpos:=o6 e hc;obtain⟨hrest,hle⟩:=kE (if neg=true then s.drop 1 else s);generalize hx:numberText (if neg=true then s.drop 1 else s)=x at h hpos hrest hle;obtain⟨n,o,rest⟩:=x;dsimp only at h hpos hrest hle;have hn:n+(if neg=true then 1 else 0)<=s.length:=by
  cases neg with
  |false=>simpa using hle
  |true =>
  simp only[if_true]at e hle ⊢;rw[length_drop]at hle;have:s≠[]:=by intro z;subst z;simp at e
  have:1<=s.length:=length_pos_iff.mpr this;omega
 have hr:rest=s.drop (n+(if neg=true then 1 else 0)):=by
  rw[hrest];cases neg with
  |false=>rfl
  |true =>
  simp only[if_true];rw[drop_drop,add_comm]
 generalize hm:n+(if neg=true then 1 else 0)=sz at h hn hr;have hsz:1<=sz:=by omega
 cases o with
 |none=>cases h
 |some tl =>
 obtain⟨top,low⟩:=tl;dsimp only at h;split at h
 ·rename_i r2
  split at h
  ·cases h
  rename_i hne;cases h;have hl:s.length=sz+(r2.length+1):=by
   have:=congrArg List.length hr;rw[length_cons,length_drop]at this;omega
  have hm2:(r2.takeWhile λc=>c != 93).length<r2.length:=by
   have h1:=cM (λc=>c != 93) r2;have h2:(r2.takeWhile λc=>c != 93).length≠r2.length:=λz=>hne (.inl z);omega
  refine⟨rfl,?_,?_,?_⟩
  ·show p<p+sz+_+2
   omega
  ·show p+sz+_+2<=_
   omega
  show r2.drop _=s.drop (p+sz+_+2 - p);have e1:p+sz+(r2.takeWhile λc=>c != 93).length+2 - p=sz+(1+((r2.takeWhile λc=>c != 93).length+1)):=by omega
  have e2:s.drop (sz+(1+((r2.takeWhile λc=>c != 93).length+1)))=((s.drop sz).drop 1).drop ((r2.takeWhile λc=>c != 93).length+1):=by
   rw[drop_drop,drop_drop,<- add_assoc]
  rw[e1,e2,<- hr];rfl
 cases h;exact⟨rfl,Nat.lt_add_of_pos_right hsz,add_le_add_left hn _,by rw[add_sub_cancel_left];exact hr⟩
theorem wF{p:Nat}{s r:List Nat}{k:Vaunid.Token}{L:List (List Nat)}(hL:∀x∈L,x≠[])(h:signToken L p s=.ok (k,r)):TokFact p s k r:=by
 unfold signToken at h;split at h
 ·rename_i x hx
  cases h;have hm:=mem_of_find?_eq_some hx;have hp:=List.find?_some hx;have hpos:1<=x.length:=length_pos_iff.mpr (hL x hm);have hpre:x <+: s:=List.isPrefixOf_iff_prefix.mp hp;exact⟨rfl,Nat.lt_add_of_pos_right hpos,add_le_add_left hpre.length_le _,by rw[add_sub_cancel_left]⟩
 cases h
theorem gv{core:Bool}{p:Nat}{s r:List Nat}{k:Vaunid.Token}(h:token core p s=.ok (k,r)):TokFact p s k r:=by
 unfold token at h;cases s with
 |nil=>cases h
 |cons c s' =>
 dsimp only at h;split at h
 ·exact wD rfl (by assumption) h
 split at h
 ·exact o7 (neg:=false) rfl (by assumption) h
 split at h
 ·rename_i hc
  obtain⟨_,hm⟩:=hc;unfold minusDigit at hm;split at hm
  ·rename_i z
   cases z;exact o7 (neg:=true) rfl hm h
  cases hm
 refine wF (λx hx=>?_) h;cases core with
 |true =>
  intro e;subst e;revert hx
  left
 |false =>
 intro e;subst e;revert hx
 left
noncomputable def gap(core:Bool):Nat->Nat->List Nat->Res (Nat×List Nat)
 |_,p,[]=>.ok (p,[])
 |0,p,s=>.ok (p,s)
 |n+1,p,c::r =>
  if c=32\/(core=false/\c=10)then gap core n (p+1) r
  else if core=false/\c=123 then
   (match r.dropWhile inComment with
   |[]=>fault 2 p
   |125::s=>gap core n (p+(r.takeWhile inComment).length+2) s
   |_=>fault 1 (p+1+(r.takeWhile inComment).length))
  else .ok (p,c::r)
theorem kF(q:Nat->Bool)(l:List Nat):(l.dropWhile q).length<=l.length:=by rw[cK,length_drop];omega
theorem o8(core:Bool):∀(n m p:Nat) (s:List Nat),s.length<n->s.length<m->gap core n p s=gap core m p s
 |n,m,p,[],_,_=>by cases n<;>cases m<;>rfl
 |0,_,_,_::_,h,_=>by simp at h
 |_,0,_,_::_,_,h=>by simp at h
 |n+1,m+1,p,c::r,h1,h2=>by
  rw[length_cons]at h1 h2;unfold gap;split
  ·exact o8 core n m _ r (by omega) (by omega)
  split
  ·have hl:=kF inComment r
   cases q:r.dropWhile inComment with
   |nil=>rfl
   |cons d s =>
   rw[q,length_cons]at hl;by_cases hd:d=125
   ·subst hd
    exact o8 core n m _ s (by omega) (by omega)
   split
   ·rename_i z;cases z
   ·rename_i z;cases z;exact absurd rfl hd
   rfl
  rfl
noncomputable def gapT(core:Bool)(p:Nat)(s:List Nat):Res (Nat×List Nat):=gap core (s.length+1) p s
theorem o9{core:Bool}{p c:Nat}{r:List Nat}(h:c=32\/(core=false/\c=10)):gapT core p (c::r)=gapT core (p+1) r:=by
 unfold gapT;rw[length_cons]
 conv=>lhs;unfold gap
 rw[if_pos h]
theorem wG{core:Bool}{p c:Nat}{r:List Nat}(h:¬(c=32\/(core=false/\c=10)))(h2:¬(core=false/\c=123)):gapT core p (c::r)=.ok (p,c::r):=by
 unfold gapT;rw[length_cons];unfold gap;rw[if_neg h,if_neg h2]
theorem gw(core:Bool):∀(n m p:Nat) (s:List Nat),s.length<n->s.length<m->tokens core n p s=tokens core m p s
 |n,m,p,[],_,_=>by cases n<;>cases m<;>rfl
 |0,_,_,_::_,h,_=>by simp at h
 |_,0,_,_::_,_,h=>by simp at h
 |n+1,m+1,p,c::r,h1,h2=>by
  rw[length_cons]at h1 h2;unfold tokens;split
  ·exact gw core n m _ r (by omega) (by omega)
  split
  ·have hl:=kF inComment r
   cases q:r.dropWhile inComment with
   |nil=>rfl
   |cons d s =>
   rw[q,length_cons]at hl;by_cases hd:d=125
   ·subst hd
    exact gw core n m _ s (by omega) (by omega)
   split
   ·rename_i z;cases z
   ·rename_i z;cases z;exact absurd rfl hd
   rfl
  cases q:token core p (c::r)with
  |error e=>rfl
  |ok x =>
  obtain⟨k,s⟩:=x;have hf:=gv q;have hs:s.length<=r.length:=by
   have h3:=hf.lt;rw[hf.rest,length_drop,length_cons];omega
  dsimp only;rw[gw core n m k.halt_ s (by omega) (by omega)]
def cN(core:Bool)(p:Nat)(s:List Nat):Res (List Vaunid.Token):=tokens core (s.length+1) p s
noncomputable def bP(core:Bool)(x:Nat×List Nat):Res (List Vaunid.Token):=match x.2 with
 |[]=>.ok []
 |c::r=>match token core x.1 (c::r)with
  |.error e=>.error e
  |.ok (k,s)=>match cN core k.halt_ s with
   |.error e=>.error e
   |.ok l=>.ok (k::l)
theorem kG(core:Bool):∀(n p:Nat) (s:List Nat),s.length<n->cN core p s=(match gap core n p s with|.error e=>.error e|.ok x=>bP core x)
 |n,p,[],_=>by cases n<;>rfl
 |0,p,_::_,h=>by simp at h
 |n+1,p,c::r,h=>by
  rw[length_cons]at h;unfold cN gap;rw[length_cons]
  conv=>lhs;unfold tokens
  split
  ·exact kG core n (p+1) r (by omega)
  split
  ·have hl:=kF inComment r
   cases q:r.dropWhile inComment with
   |nil=>rfl
   |cons d s =>
   rw[q,length_cons]at hl;by_cases hd:d=125
   ·subst hd
    show tokens core (r.length+1) _ s=_;rw[gw core (r.length+1) (s.length+1) _ s (by omega) (by omega)];exact kG core n _ s (by omega)
   have e2:(match d::s with
     |[]=>(fault 2 p:Res (Nat×List Nat))
     |125::s=>gap core n (p+(List.takeWhile inComment r).length+2) s
     |x=>fault 1 (p+1+(List.takeWhile inComment r).length))=fault 1 (p+1+(List.takeWhile inComment r).length):=by
    split
    ·rename_i z;cases z
    ·rename_i z;cases z;exact absurd rfl hd
    rfl
   refine Eq.trans ?_ (congrArg (λ(o:Res (Nat×List Nat))=>(match o with|.error e=>.error e|.ok x=>bP core x:Res (List Vaunid.Token))) e2).symm
   split
   ·rename_i z;cases z
   ·rename_i z;cases z;exact absurd rfl hd
   rfl
  show _=bP core (p,c::r);unfold bP;dsimp only;cases q:token core p (c::r)with
  |error e=>rfl
  |ok x =>
  obtain⟨k,s⟩:=x;have hf:=gv q;have hs:s.length<=r.length:=by
   have h3:=hf.lt;rw[hf.rest,length_drop,length_cons];omega
  dsimp only;unfold cN;rw[gw core (r.length+1) (s.length+1) _ s (by omega) (by omega)];rfl
theorem kH(core:Bool)(p:Nat)(s:List Nat):cN core p s=(match gapT core p s with|.error e=>.error e|.ok x=>bP core x):=kG core _ p s (lt_succ_self _)
theorem iM(core:Bool):∀(n p:Nat) (s:List Nat) (x:Nat×List Nat),gap core n p s=.ok x->p<=x.1/\x.1<=p+s.length/\x.2=s.drop (x.1 - p)
 |n,p,[],x,h=>by
  have:x=(p,[]):=by
   cases n<;>(cases h;rfl)
  subst this;simp
 |0,p,c::r,x,h=>by
  cases h;simp
 |n+1,p,c::r,x,h=>by
  unfold gap at h;split at h
  ·obtain⟨h1,h2,h3⟩:=iM core n (p+1) r x h
   rw[length_cons];refine⟨by omega,by omega,?_⟩;rw[h3,show x.1 - p=(x.1 - (p+1))+1 by omega,drop_succ_cons]
  split at h
  ·have hl:=cK inComment r
   have hl2:=cM inComment r;cases q:r.dropWhile inComment with
   |nil=>rw[q]at h;cases h
   |cons d s =>
   rw[q]at h hl;by_cases hd:d=125
   ·subst hd
    obtain⟨h1,h2,h3⟩:=iM core n _ s x h;have hs:r.length=(r.takeWhile inComment).length+(s.length+1):=by
     have:=congrArg List.length hl;rw[length_cons,length_drop]at this;omega
    rw[length_cons];refine⟨by omega,by omega,?_⟩;have e:x.1 - p=(x.1 - (p+(r.takeWhile inComment).length+2))+1+(r.takeWhile inComment).length+1:=by omega
    have e2:r.drop (x.1 - (p+(r.takeWhile inComment).length+2)+1+(r.takeWhile inComment).length)=(r.drop (r.takeWhile inComment).length).drop (x.1 - (p+(r.takeWhile inComment).length+2)+1):=by rw[drop_drop,add_comm]
    rw[h3,e,drop_succ_cons,e2,<- hl,drop_succ_cons]
   split at h
   ·rename_i z;cases z
   ·rename_i z;cases z;exact absurd rfl hd
   cases h
  cases h;simp
theorem wH:∀(s:List Nat) (p:Nat),gapT false p s=gapT false (p+(s.takeWhile λc=>c==32||c==10).length) (s.drop (s.takeWhile λc=>c==32||c==10).length)
 |[],p=>rfl
 |c::r,p=>by
  rw[takeWhile_cons];cases h:(c==32||c==10)with
  |false=>rfl
  |true =>
  simp only[if_true];rw[length_cons,drop_succ_cons,o9 (by simpa using h),wH r (p+1)];congr 1;omega
theorem pb:∀(s:List Nat) (p:Nat),gapT true p s=.ok (p+(s.takeWhile λc=>c==32).length,s.drop (s.takeWhile λc=>c==32).length)
 |[],p=>rfl
 |c::r,p=>by
  rw[takeWhile_cons];cases h:(c==32)with
  |false=>exact wG (by simpa using h) (by simp)
  |true =>
  simp only[if_true];rw[length_cons,drop_succ_cons,o9 (by simpa using h),pb r (p+1)];congr 2;omega
theorem wI{t:List Nat}{p:Nat}{s:List Nat}(h:t.drop p=s)(k:Nat):t.drop (p+k)=s.drop k:=by rw[<- h,drop_drop]
theorem ph{t:List Nat}{p:Nat}{s:List Nat}(h:t.drop p=s)(hp:p<=t.length):t.length=p+s.length:=by rw[<- h,length_drop];omega
theorem iO{t:List Nat}{p c:Nat}{r:List Nat}(h:t.drop p=c::r):p<t.length:=by
 have:=congrArg List.length h;rw[length_drop,length_cons]at this;omega
theorem kI{n:Nat}(t:List Nat):∀(L:List (List Nat)),(∀x∈L,x.length=n)->L.find? (λs=>s.isPrefixOf t)=if t.take n∈L then some (t.take n)else none
 |[],_=>by simp
 |x::r,h=>by
  have hx:=h x (mem_cons_self ..);have ih:=kI t r λy hy=>h y (mem_cons_of_mem _ hy);rw[find?_cons];by_cases hp:x.isPrefixOf t=true
  ·rw[hp]
   have e:x=t.take n:=by rw[<- hx];exact(List.prefix_iff_eq_take.mp (List.isPrefixOf_iff_prefix.mp hp))
   dsimp only;rw[<- e,if_pos (mem_cons_self ..)]
  have hp':x.isPrefixOf t=false:=Bool.eq_false_iff.mpr hp;rw[hp'];dsimp only;rw[ih];have ne:t.take n≠x:=λe=>hp (List.isPrefixOf_iff_prefix.mpr (e ▸ List.take_prefix n t));by_cases hm:t.take n∈r
  ·rw[if_pos hm,if_pos (mem_cons_of_mem _ hm)]
  rw[if_neg hm,if_neg];intro z;rcases mem_cons.mp z with q|q
  ·exact ne q
  exact hm q
structure GoodSigns(L:List (List Nat)):Prop where
 parts:∃L2 L1,L=L2++L1/\(∀x∈L2,x.length=2)/\∀x∈L1,x.length=1
 plain:∀x∈L,∀c∈x,((32<=c/\c<=126)/\c≠37)/\c≠63
theorem wJ:GoodSigns coreSigns:=⟨⟨[],coreSigns,rfl,by decide,by left⟩,by left⟩
theorem wK{L:List (List Nat)}(g:GoodSigns L)(l:List Nat):l.map sgn∈L↔l∈L:=by
 constructor
 ·intro h
  have e:l.map sgn=l:=fk λc hc=>by
   have:=g.plain _ h (sgn c) (mem_map.mpr ⟨c,hc,rfl⟩);rcases oS c with q|⟨q,_⟩
   ·rw[q]at this;exact this.1
   rw[q]at this;exact absurd rfl this.2
  rwa[e]at h
 intro h;rw[fk λc hc=>(g.plain _ h c hc).1];exact h
noncomputable def kJ(L:List (List Nat))(t:List Nat):Option (List Nat):=if t.take 2∈L then some (t.take 2)else if t.take 1∈L then some (t.take 1)else none
theorem wL{L:List (List Nat)}(g:GoodSigns L)(t:List Nat):L.find? (λs=>s.isPrefixOf t)=kJ L t:=by
 obtain⟨L2,L1,rfl,h2,h1⟩:=g.parts;rw[List.find?_append,kI t L2 h2,kI t L1 h1];unfold kJ;by_cases m2:t.take 2∈L2
 ·rw[if_pos m2,if_pos (mem_append_left _ m2)]
  rfl
 rw[if_neg m2];by_cases m1:t.take 1∈L1
 ·rw[if_pos m1]
  by_cases m:t.take 2∈L2++L1
  ·have m':t.take 2∈L1:=(mem_append.mp m).resolve_left m2
   have e:=h1 _ m';have e3:t.take 1=t.take 2:=by
    rw[length_take]at e;have:t.length<=1:=by omega
    rw[take_of_length_le this,take_of_length_le (by omega)]
   rw[if_pos m,e3];rfl
  rw[if_neg m,if_pos (mem_append_right _ m1)];rfl
 rw[if_neg m1];have n1:¬t.take 1∈L2++L1:=λz=>by
  rcases mem_append.mp z with q|q
  ·have:=h2 _ q
   rw[length_take]at this;omega
  exact m1 q
 by_cases m:t.take 2∈L2++L1
 ·have m':t.take 2∈L1:=(mem_append.mp m).resolve_left m2
  have e:=h1 _ m';have e3:t.take 1=t.take 2:=by
   rw[length_take]at e;have:t.length<=1:=by omega
   rw[take_of_length_le this,take_of_length_le (by omega)]
  rw[<- e3]at m';exact absurd m' m1
 rw[if_neg m,if_neg n1];rfl
noncomputable def kK(k p:Int):List (Str×V):=[("kind",.int k),("place",.int p)]
def ExF(C:Addr)(E:XK)(H:Hp)(k p:Int):Prop:=∀(dx:Addr) (H':Hp),Same H H'->H' dx=some (XDic dx (kK k p))->E (.ref C) (some dx) H'
theorem ExF.mono{C:Addr}{E:XK}{H H1:Hp}{k p:Int}(h:ExF C E H k p)(s:Same H H1):ExF C E H1 k p:=λdx H' s' e=>h dx H' (s.trans s') e
def RES{A:Type}(C:Addr)(H:Hp)(Q:VK)(E:XK)(r:Res A)(post:A->V->Hp->Prop):Prop:=match r with
 |.ok a=>∀(v:V) (H':Hp),Same H H'->post a v H'->Q v H'
 |.error e=>ExF C E H (e.kind:Int) (e.place:Int)
def pj(C:Addr):Sp:=λvs H Q _=>∃(p:Addr) (k q:V),vs=[.ref p,k,q]/\H p=some (XNew C p none)/\∀dx,H dx=none->dx≠p->Q .non (upd (upd H dx (XDic dx [("kind",k),("place",q)])) p (XNew C p (some dx)))
theorem dz{C:Addr}{E:XK}{H:Hp}{k p:Int}{E':XK}(h:ExF C E H k p):∀a,H a=none->pj C [.ref a,.int k,.int p] (upd H a (XNew C a none))
  (λv H2=>v=.non/\∃dx,H2 a=some (XNew C a (some dx))/\∃fs,H2 dx=some (XDic dx fs)/\E (.ref C) (some dx) (del H2 a)) E':=λa ha=>by
 refine⟨a,_,_,rfl,ai,λdx hdx hne=>⟨rfl,dx,ai,_,by rw[ao hne];exact ai,?_⟩⟩;have hdx':H dx=none:=by rw[ao hne]at hdx;exact hdx
 refine h dx _ (λb o e=>?_) ?_
 ·have nb:b≠a:=aF e ha
  rw[c0 nb,ao nb,ao (aF e hdx'),ao nb];exact e
 rw[c0 hne,ao hne];exact ai
noncomputable def cO(g:Int)(k:Str)(b e:Int)(c:V):List (Str×V):=[("group",.int g),("kind",.str k),("begin",.int b),("end",.int e),("content",c)]
noncomputable def kindOf:Vaunid.Tok->List Nat
 |.word w=>if isTaken w=true then w else Vaunid.txt "name"
 |.num _ d=>if d.isSome=true then Vaunid.txt "digit"else Vaunid.txt "number"
 |.sign s=>s
def gy(Ca:Addr)(H:Hp)(c:V):Vaunid.Tok->Prop
 |.word w=>c=.str (S w)
 |.num v _=>∃a,c=.ref a/\bT Ca H a v.top (v.low:Int) (v.measure.getD [])
 |.sign s=>c=.str (S s)
def bU(Ca Ct:Addr)(H:Hp)(a:Addr)(k:Vaunid.Token):Prop:=∃dx c,H a=some (.ins Ct dx (cO (Vaunid.sortOf k.tok) (S (kindOf k.tok)) (k.start:Int) (k.halt_:Int) c))/\gy Ca H c k.tok
theorem gy.same{Ca:Addr}{H H':Hp}{c:V}{k:Vaunid.Tok}(h:gy Ca H c k)(s:Same H H'):gy Ca H' c k:=by
 cases k with
 |word w=>exact h
 |num v d=>obtain⟨a,e,q⟩:=h;exact⟨a,e,q.same s⟩
 |sign x=>exact h
theorem bU.same{Ca Ct:Addr}{H H':Hp}{a:Addr}{k:Vaunid.Token}(h:bU Ca Ct H a k)(s:Same H H'):bU Ca Ct H' a k:=by
 obtain⟨dx,c,e,q⟩:=h;exact⟨dx,c,s _ _ e,q.same s⟩
theorem pk:[V.str "fn",V.str "let",V.str "rec",V.str "if",V.str "cons",V.str "case",V.str "pair",V.str "fst",V.str "snd",V.str "fold",V.str "root",V.str "floor",V.str "rest",V.str "true",V.str "false",V.str "nil",V.str "truth",V.str "num",V.str "list",V.str "base",V.str "unit",V.str "def",V.str "fun",V.str "in",V.str "then",V.str "else",V.str "match",V.str "with",V.str "and",V.str "or",V.str "not"]=(Vaunid.taken.map S).map V.str:=by left
theorem wM:[V.str "(",V.str ")",V.str "+",V.str "-",V.str "*",V.str "/",V.str "^",V.str "<",V.str "="]=(Vaunid.coreSigns.map S).map V.str:=by left
theorem in_S(l:List Nat)(L:List (List Nat)):inV (.str (S l)) ((L.map S).map V.str)=decide (l∈L):=by
 rw[vQ,any_map,Bool.eq_iff_iff];simp only[any_eq_true,decide_eq_true_eq,Function.comp_def,beq_iff_eq,bB]
 constructor
 ·rintro⟨x,hx,rfl⟩;exact hx
 intro h;exact⟨l,h,rfl⟩
theorem px(w:List Nat):isTaken w=decide (w∈Vaunid.taken):=by
 unfold isTaken;rw[Bool.eq_iff_iff];simp only[any_eq_true,decide_eq_true_eq,beq_iff_eq]
 constructor
 ·rintro⟨x,hx,rfl⟩;exact hx
 intro h;exact⟨w,h,rfl⟩
end M
namespace L2
theorem wN{a b:Int}:scal (.int a) (.int b)=true:=rfl
theorem wO{a b:PySem.Str}:scal (.str a) (.str b)=true:=rfl
theorem wQ{a b:Bool}:scal (.bl a) (.bl b)=true:=rfl
theorem fm{c:TT}{t u:TS}{D:Ends}{σ:St}{H:Hp}(h:∀A B:Hp->Prop,(∀H1,t D σ H1->A H1)->(∀H1,u D σ H1->B H1)->c σ H λb H1=>if b=true then A H1 else B H1):tIfS c t u D σ H:=h _ _ (λ_ z=>z) (λ_ z=>z)
theorem c6{t u:TS}{D:Ends}{σ:St}{H:Hp}(R:St->Hp->Prop)(ht:∀X:St->Hp->Prop,(∀σ' H',R σ' H'->X σ' H')->t {D with nx:=X} σ H)(hc:∀σ' H',R σ' H'->u D σ' H'):tSeq t u D σ H:=ht _ hc
end L2
namespace M
open PySem PySem.Spec PyProof.Rows L2 TL
def cP(H H':Hp):Prop:=∀a C dx fs,H a=some (.ins C dx fs)->H' a=some (.ins C dx fs)
theorem Same.insts{H H':Hp}(s:Same H H'):cP H H':=λa C dx fs e=>s _ _ e
theorem cP.trans{H H1 H2:Hp}(s:cP H H1)(r:cP H1 H2):cP H H2:=λa C dx fs e=>r _ _ _ _ (s _ _ _ _ e)
theorem cP.lst{H:Hp}{b:Addr}{xs:List V}{o:HO}(h:H b=some (.lst xs)):cP H (upd H b o):=λa C dx fs e=>by rw[ao (aB e h (by intro z;cases z))];exact e
theorem bT.sameI{C:Addr}{H H':Hp}{a:Addr}{o u:Int}{m:List Nat}(h:bT C H a o u m)(s:cP H H'):bT C H' a o u m:=let⟨dx,e⟩:=h;⟨dx,s _ _ _ _ e⟩
theorem bU.sameI{Ca Ct:Addr}{H H':Hp}{a:Addr}{k:Vaunid.Token}(h:bU Ca Ct H a k)(s:cP H H'):bU Ca Ct H' a k:=by
 obtain⟨dx,c,e,q⟩:=h;refine⟨dx,c,s _ _ _ _ e,?_⟩;cases hk:k.tok with
 |word w=>rw[hk]at q;exact q
 |num v d=>rw[hk]at q;obtain⟨a,e,q⟩:=q;exact⟨a,e,q.sameI s⟩
 |sign x=>rw[hk]at q;exact q
abbrev cQ(Ca Ct:Addr)(H:Hp)(as:List Addr)(l:List Vaunid.Token):Prop:=Paired (λa k=>bU Ca Ct H a k) as l
theorem cQ.sameI{Ca Ct:Addr}{H H':Hp}{as:List Addr}{l:List Vaunid.Token}(h:cQ Ca Ct H as l)(s:cP H H'):cQ Ca Ct H' as l:=Paired.mapP h λa k z=>z.sameI s
theorem cQ.snoc{Ca Ct:Addr}{H:Hp}:∀{as:List Addr}{l:List Vaunid.Token}{a:Addr}{k:Vaunid.Token},cQ Ca Ct H as l->bU Ca Ct H a k->cQ Ca Ct H (as++[a]) (l++[k])
 |_,_,_,_,.nil,q=>.cons q .nil
 |_,_,_,_,.cons r t,q=>.cons r (cQ.snoc t q)
def preR{A:Type}(l:List A)(r:Res (List A)):Res (List A):=match r with
 |.error e=>.error e
 |.ok m=>.ok (l++m)
abbrev Toks:=List Vaunid.Token
def bC(hl:Nat)(d:Nat)(ts:Toks):Res Core:=coreTerm hl (2*ts.length+1) d ts
theorem wR{hl:Nat}{w:Vaunid.Tok}{ts r:Toks}(h:want hl w ts=.ok r):r.length+1=ts.length:=by
 unfold want at h;split at h
 ·split at h
  ·cases h;rfl
  cases h
 cases h
theorem pz{hl:Nat}{ts r:Toks}{x:List Nat}(h:wantName hl ts=.ok (x,r)):r.length+1=ts.length:=by
 unfold wantName at h;split at h
 ·split at h
  ·cases h;rfl
  cases h
 ·cases h
 cases h
theorem pA{hl:Nat}{ts r:Toks}{x:Int}(h:wantDigit hl ts=.ok (x,r)):r.length+1=ts.length:=by
 unfold wantDigit at h;split at h
 ·cases h;rfl
 ·cases h
 cases h
inductive Kind where
 |name|part|power
 deriving DecidableEq
inductive Fm where
 |fn|rec_|let_|if_|app|pair|fst|snd|cons|case|fold|plus|minus|times|over|less|equal|floor|rest|root|pow
 deriving DecidableEq
noncomputable def Fm.word:Fm->String
 |.fn=>"fn"|.rec_=>"rec"|.let_=>"let"|.if_=>"if"|.app=>"apply"|.pair=>"pair"|.fst=>"fst"|.snd=>"snd"|.cons=>"cons"|.case=>"case"|.fold=>"fold"
 |.plus=>"+"|.minus=>"-"|.times=>"*"|.over=>"/"|.less=>"<"|.equal=>"="|.floor=>"floor"|.rest=>"rest"|.root=>"root"|.pow=>"^"
noncomputable def Fm.kinds:Fm->List Kind
 |.fn=>[.name,.part]|.rec_=>[.name,.name,.part]|.let_=>[.name,.part,.part]|.if_=>[.part,.part,.part]|.app=>[.part,.part]|.pair=>[.part,.part]|.fst=>[.part]|.snd=>[.part]|.cons=>[.part,.part]
 |.case=>[.part,.part,.name,.name,.part]|.fold=>[.part,.part,.part]|.plus=>[.part,.part]|.minus=>[.part,.part]|.times=>[.part,.part]|.over=>[.part,.part]|.less=>[.part,.part]|.equal=>[.part,.part]
 |.floor=>[.part,.part]|.rest=>[.part,.part]|.root=>[.part]|.pow=>[.part,.power]
inductive Item where
 |w (x:List Nat)
 |n (m:Int)
 |p (t:Term) (l:List Nat)
noncomputable def Fm.mk:Fm->List Item->Term
 |.fn,[.w x,.p a _]=>.fn x a
 |.rec_,[.w f,.w x,.p a _]=>.rec_ f x a
 |.let_,[.w x,.p a _,.p b _]=>.let_ x a b
 |.if_,[.p a _,.p b _,.p c _]=>.three .cond a b c
 |.app,[.p a _,.p b _]=>.two .app a b
 |.pair,[.p a _,.p b _]=>.two .pair a b
 |.fst,[.p a _]=>.one .fst a
 |.snd,[.p a _]=>.one .snd a
 |.cons,[.p a _,.p b _]=>.two .cons a b
 |.case,[.p l _,.p a _,.w h,.w t,.p b _]=>.case l a h t b
 |.fold,[.p a _,.p b _,.p c _]=>.three .fold a b c
 |.plus,[.p a _,.p b _]=>.two .plus a b
 |.minus,[.p a _,.p b _]=>.two .minus a b
 |.times,[.p a _,.p b _]=>.two .times a b
 |.over,[.p a _,.p b _]=>.two .over a b
 |.less,[.p a _,.p b _]=>.two .less a b
 |.equal,[.p a _,.p b _]=>.two .equal a b
 |.floor,[.p a _,.p b _]=>.two .floor a b
 |.rest,[.p a _,.p b _]=>.two .rest a b
 |.root,[.p a _]=>.one .root a
 |.pow,[.p a _,.n m]=>.one (.pow m) a
 |_,_=>.leaf .nil
def dA:List Item->List Nat
 |[]=>[]
 |.p _ l::r=>l++dA r
 |_::r=>dA r
noncomputable def aU(hl:Nat)(term:Toks->Res Core):List Kind->Toks->Res (List Item×Toks)
 |[],ts=>.ok ([],ts)
 |.name::ks,ts=>match wantName hl ts with
  |.error e=>.error e
  |.ok (x,r)=>match aU hl term ks r with
   |.error e=>.error e
   |.ok (is,q)=>.ok (.w x::is,q)
 |.part::ks,ts=>match term ts with
  |.error e=>.error e
  |.ok (a,pa,r)=>match aU hl term ks r with
   |.error e=>.error e
   |.ok (is,q)=>.ok (.p a pa::is,q)
 |.power::ks,ts=>match wantDigit hl ts with
  |.error e=>.error e
  |.ok (m,r)=>match aU hl term ks r with
   |.error e=>.error e
   |.ok (is,q)=>.ok (.n m::is,q)
open Vaunid (word sign)
noncomputable def cw:Vaunid.Two->Fm
 |.app=>.app|.pair=>.pair|.cons=>.cons|.plus=>.plus|.minus=>.minus|.times=>.times|.over=>.over|.less=>.less|.equal=>.equal|.floor=>.floor|.rest=>.rest
noncomputable def fq:Vaunid.One->Fm
 |.fst=>.fst|.snd=>.snd|.root=>.root|.pow _=>.pow
noncomputable def fm3(a:Option Vaunid.One)(b:Option Vaunid.Two)(c:Option Vaunid.Three):Option Fm:=match a,b,c with
 |some o,_,_=>some (fq o)
 |_,some o,_=>some (cw o)
 |_,_,some o=>some (match o with|.cond=>.if_|.fold=>.fold)
 |_,_,_=>none
noncomputable def fmOf(k:Vaunid.Tok):Option Fm:=
 if k=word "fn"then some .fn else if k=word "rec"then some .rec_ else if k=word "let"then some .let_ else if k=word "case"then some .case else if k=sign "^"then some .pow
 else fm3 (formOne k) (formTwo k) (formThree k)
noncomputable def iP(hl p:Nat)(f:Fm)(x:Res (List Item×Toks)):Res Core:=match x with
 |.error e=>.error e
 |.ok (is,r)=>match want hl (sign ")") r with
  |.error e=>.error e
  |.ok q=>.ok (f.mk is,p::dA is,q)
noncomputable def aK(ts:Toks):Fm×Toks:=match ts with
 |[]=>(.app,[])
 |k::r=>match fmOf k.tok with
  |some f=>(f,r)
  |none=>(.app,k::r)
noncomputable def c7(hl:Nat)(term:Toks->Res Core)(p:Nat)(ts:Toks):Res Core:=iP hl p (aK ts).1 (aU hl term (aK ts).1.kinds (aK ts).2)
noncomputable def cps(hl:Nat)(T:Toks->Res Core):List Kind->Toks->(List Item->Toks->Res Core)->Res Core
 |[],ts,k=>k [] ts
 |.name::ks,ts,k=>(wantName hl ts).bind λy=>cps hl T ks y.2 λis q=>k (.w y.1::is) q
 |.part::ks,ts,k=>(T ts).bind λy=>cps hl T ks y.2.2 λis q=>k (.p y.1 y.2.1::is) q
 |.power::ks,ts,k=>(wantDigit hl ts).bind λy=>cps hl T ks y.2 λis q=>k (.n y.1::is) q
theorem iQ(hl:Nat)(T:Toks->Res Core):∀(ks:List Kind) (ts:Toks) (k:List Item->Toks->Res Core),cps hl T ks ts k=(aU hl T ks ts).bind λy=>k y.1 y.2
 |[],_,_=>rfl
 |.name::ks,ts,k=>by
  unfold cps aU;cases wantName hl ts with
  |error e=>rfl
  |ok y =>
  refine(iQ hl T ks y.2 _).trans ?_;show _=Except.bind (match aU hl T ks y.2 with|.error e=>.error e|.ok (is,q)=>.ok (Item.w y.1::is,q)) _
  cases aU hl T ks y.2<;>rfl
 |.part::ks,ts,k=>by
  unfold cps aU;cases T ts with
  |error e=>rfl
  |ok y =>
  refine(iQ hl T ks y.2.2 _).trans ?_;show _=Except.bind (match aU hl T ks y.2.2 with|.error e=>.error e|.ok (is,q)=>.ok (Item.p y.1 y.2.1::is,q)) _
  cases aU hl T ks y.2.2<;>rfl
 |.power::ks,ts,k=>by
  unfold cps aU;cases wantDigit hl ts with
  |error e=>rfl
  |ok y =>
  refine(iQ hl T ks y.2 _).trans ?_;show _=Except.bind (match aU hl T ks y.2 with|.error e=>.error e|.ok (is,q)=>.ok (Item.n y.1::is,q)) _
  cases aU hl T ks y.2<;>rfl
def pl2(l:List Nat):List (List Nat)->List Nat
 |[]=>l
 |m::r=>l++pl2 m r
def pls:List Item->List (List Nat)
 |[]=>[]
 |.p _ l::r=>l::pls r
 |_::r=>pls r
def pl1(is:List Item):List Nat:=match pls is with
 |[]=>[]
 |l::r=>pl2 l r
theorem pB:∀(r:List (List Nat)) (l:List Nat),pl2 l r=l++r.flatten
 |[],l=>(append_nil l).symm
 |m::r,l=>congrArg (l++ ·) (pB r m)
theorem iR:∀is:List Item,(pls is).flatten=dA is
 |[]=>rfl
 |.p _ l::r=>congrArg (l++ ·) (iR r)
 |.w _::r=>iR r
 |.n _::r=>iR r
theorem wU(is:List Item):pl1 is=dA is:=by
 rw[<- iR];unfold pl1;cases pls is with
 |nil=>rfl
 |cons l r=>exact pB r l
theorem pC(hl p:Nat)(f:Fm)(T:Toks->Res Core)(ks:List Kind)(ts:Toks):cps hl T ks ts (λis r=>(want hl (sign ")") r).bind λq=>.ok (f.mk is,p::pl1 is,q))=iP hl p f (aU hl T ks ts):=by
 rw[iQ];cases aU hl T ks ts with
 |error e=>rfl
 |ok y =>
 show(want hl (sign ")") y.2).bind (λq=>.ok (f.mk y.1,p::pl1 y.1,q))=match want hl (sign ")") y.2 with|.error e=>.error e|.ok q=>.ok (f.mk y.1,p::dA y.1,q)
 rw[wU];cases want hl (sign ")") y.2<;>rfl
theorem beg(hl p:Nat)(T:Toks->Res Core)(k:Vaunid.Token)(r:Toks){f:Fm}(h:fmOf k.tok=some f):cps hl T f.kinds r (λis r=>(want hl (sign ")") r).bind λq=>.ok (f.mk is,p::pl1 is,q))=c7 hl T p (k::r):=by
 rw[pC];unfold c7 aK;dsimp only;rw[h]
theorem iT(hl n d p:Nat)(k:Vaunid.Token)(r:Toks):coreForm hl (n+1) d p (k::r)=c7 hl (coreTerm hl n d) p (k::r):=by
 unfold coreForm;dsimp only;generalize coreTerm hl n d=T;by_cases g0:k.tok=word "fn"
 ·rw[if_pos g0];exact beg hl p T k r (f:= .fn) (by rw[g0];left)
 rw[if_neg g0];by_cases g1:k.tok=word "rec"
 ·rw[if_pos g1];exact beg hl p T k r (f:= .rec_) (by rw[g1];left)
 rw[if_neg g1];by_cases g2:k.tok=word "let"
 ·rw[if_pos g2];exact beg hl p T k r (f:= .let_) (by rw[g2];left)
 rw[if_neg g2];by_cases g3:k.tok=word "case"
 ·rw[if_pos g3];exact beg hl p T k r (f:= .case) (by rw[g3];left)
 rw[if_neg g3];by_cases g4:k.tok=sign "^"
 ·rw[if_pos g4];exact beg hl p T k r (f:= .pow) (by rw[g4];left)
 rw[if_neg g4];have q:fmOf k.tok=fm3 (formOne k.tok) (formTwo k.tok) (formThree k.tok):=by unfold fmOf;rw[if_neg g0,if_neg g1,if_neg g2,if_neg g3,if_neg g4]
 cases e1:formOne k.tok with
 |some o =>
  rw[e1]at q;cases o with
  |pow n =>
   unfold formOne at e1
   repeat' split at e1
   all_goals cases e1
  |_=>exact beg hl p T k r q
 |none =>
 rw[e1]at q;cases e2:formTwo k.tok with
 |some o =>
  rw[e2]at q;cases o<;>exact beg hl p T k r q
 |none =>
 rw[e2]at q;cases e3:formThree k.tok with
 |some o =>
  rw[e3]at q;cases o<;>exact beg hl p T k r q
 |none =>
 rw[e3]at q;have q:fmOf k.tok=none:=q;unfold c7 aK;dsimp only;rw[q];exact pC hl p .app T [.part,.part] (k::r)
def gz(T:Toks->Res Core):Prop:=∀r a pa q,T r=.ok (a,pa,q)->q.length<r.length
theorem iU{hl:Nat}{T:Toks->Res Core}(hT:gz T):∀(ks:List Kind) (ts:Toks) (is:List Item) (q:Toks),aU hl T ks ts=.ok (is,q)->q.length<=ts.length
 |[],ts,is,q,h=>by
  cases h;exact Nat.le_refl _
 |.name::ks,ts,is,q,h=>by
  unfold aU at h;cases h1:wantName hl ts with
  |error e=>rw[h1]at h;cases h
  |ok v =>
  obtain⟨x,r⟩:=v;rw[h1]at h;dsimp only at h;cases h2:aU hl T ks r with
  |error e=>rw[h2]at h;cases h
  |ok v =>
  obtain⟨is2,q2⟩:=v;rw[h2]at h;cases h;have:=iU hT ks r is2 q h2;have:=pz h1;omega
 |.part::ks,ts,is,q,h=>by
  unfold aU at h;cases h1:T ts with
  |error e=>rw[h1]at h;cases h
  |ok v =>
  obtain⟨a,pa,r⟩:=v;rw[h1]at h;dsimp only at h;cases h2:aU hl T ks r with
  |error e=>rw[h2]at h;cases h
  |ok v =>
  obtain⟨is2,q2⟩:=v;rw[h2]at h;cases h;have:=iU hT ks r is2 q h2;have:=hT _ _ _ _ h1;omega
 |.power::ks,ts,is,q,h=>by
  unfold aU at h;cases h1:wantDigit hl ts with
  |error e=>rw[h1]at h;cases h
  |ok v =>
  obtain⟨x,r⟩:=v;rw[h1]at h;dsimp only at h;cases h2:aU hl T ks r with
  |error e=>rw[h2]at h;cases h
  |ok v =>
  obtain⟨is2,q2⟩:=v;rw[h2]at h;cases h;have:=iU hT ks r is2 q h2;have:=pA h1;omega
theorem kL(ts:Toks):(aK ts).2.length<=ts.length:=by
 unfold aK;cases ts with
 |nil=>exact Nat.le_refl _
 |cons k r =>
 dsimp only;split
 ·exact le_succ _
 exact Nat.le_refl _
theorem wV{hl p:Nat}{T:Toks->Res Core}(hT:gz T){ts q:Toks}{a:Term}{pa:List Nat}(h:c7 hl T p ts=.ok (a,pa,q)):q.length<ts.length:=by
 unfold c7 iP at h;cases h1:aU hl T (aK ts).1.kinds (aK ts).2 with
 |error e=>rw[h1]at h;cases h
 |ok v =>
 obtain⟨is,r⟩:=v;rw[h1]at h;dsimp only at h;cases h2:want hl (sign ")") r with
 |error e=>rw[h2]at h;cases h
 |ok q2 =>
 rw[h2]at h;cases h;have:=iU hT _ _ _ _ h1;have:=wR h2;have:=kL ts;omega
theorem wW(hl n d p:Nat):∃e,coreForm hl n d p []=.error e:=by
 cases n with
 |zero=>exact⟨_,rfl⟩
 |succ n =>
 unfold coreForm;dsimp only;split
 ·exact⟨_,rfl⟩
 exact⟨_,rfl⟩
theorem kM(hl:Nat):∀(n d:Nat),gz (coreTerm hl n d)
 |0,d,r,a,pa,q,h=>by cases h
 |1,d,r,a,pa,q,h=>by
  unfold coreTerm at h;split at h
  ·cases h
  cases r with
  |nil=>cases h
  |cons k r =>
  dsimp only at h;split at h
  ·cases h
  split at h
  ·cases h;exact lt_succ_self _
  cases h
 |n+2,d,r,a,pa,q,h=>by
  unfold coreTerm at h;split at h
  ·cases h
  cases r with
  |nil=>cases h
  |cons k r =>
  dsimp only at h;split at h
  ·cases r with
   |nil =>
    obtain⟨e,he⟩:=wW hl (n+1) (d - 1) k.start;rw[he]at h;cases h
   |cons k2 r2 =>
    rw[iT]at h;have:=wV (kM hl n (d - 1)) h;rw[length_cons];omega
  split at h
  ·cases h;exact lt_succ_self _
  cases h
theorem iV{hl:Nat}{T T':Toks->Res Core}(hT:gz T)(L:Nat)(hE:∀r,r.length<=L->T r=T' r):∀(ks:List Kind) (ts:Toks),ts.length<=L->aU hl T ks ts=aU hl T' ks ts
 |[],ts,_=>rfl
 |.name::ks,ts,h=>by
  unfold aU;cases h1:wantName hl ts with
  |error e=>rfl
  |ok v =>
  obtain⟨x,r⟩:=v;have:=pz h1;dsimp only;rw[iV hT L hE ks r (by omega)]
 |.part::ks,ts,h=>by
  unfold aU;rw[<- hE ts h];cases h1:T ts with
  |error e=>rfl
  |ok v =>
  obtain⟨a,pa,r⟩:=v;have:=hT _ _ _ _ h1;dsimp only;rw[iV hT L hE ks r (by omega)]
 |.power::ks,ts,h=>by
  unfold aU;cases h1:wantDigit hl ts with
  |error e=>rfl
  |ok v =>
  obtain⟨x,r⟩:=v;have:=pA h1;dsimp only;rw[iV hT L hE ks r (by omega)]
theorem pD{hl p:Nat}{T T':Toks->Res Core}(hT:gz T){ts:Toks}(hE:∀r,r.length<=ts.length->T r=T' r):c7 hl T p ts=c7 hl T' p ts:=by
 unfold c7;rw[iV hT ts.length hE _ _ (kL ts)]
theorem kN(hl:Nat):∀(L:Nat) (ts:Toks) (n m d:Nat),ts.length<=L->2*ts.length+1<=n->2*ts.length+1<=m->coreTerm hl n d ts=coreTerm hl m d ts
 |L,[],0,_,_,_,h,_=>by omega
 |L,[],_+1,0,_,_,_,h=>by omega
 |L,[],n+1,m+1,d,_,_,_=>by
  unfold coreTerm;rfl
 |0,k::r,_,_,_,h,_,_=>by simp at h
 |L+1,k::r,n,m,d,h,hn,hm=>by
  rw[length_cons]at h hn hm;obtain⟨n,rfl⟩:∃n',n=n'+2:=⟨n - 2,by omega⟩;obtain⟨m,rfl⟩:∃m',m=m'+2:=⟨m - 2,by omega⟩;unfold coreTerm;split
  ·rfl
  dsimp only;split
  ·cases r with
   |nil =>
    unfold coreForm;rfl
   |cons k2 r2 =>
    rw[iT,iT];rw[length_cons]at h hn hm;exact pD (kM hl n (d - 1)) λr' hr'=>kN hl L r' n m (d - 1) (by rw[length_cons]at hr';omega) (by rw[length_cons]at hr';omega) (by rw[length_cons]at hr';omega)
  rfl
theorem wX(hl:Nat)(ts:Toks):bC hl 0 ts=fault 8 (Vaunid.placeOf hl ts):=by
 unfold bC coreTerm;rfl
theorem wY(hl d:Nat):bC hl (d+1) []=fault 6 hl:=rfl
theorem wZ{hl d:Nat}{k:Vaunid.Token}{r:Toks}(h:¬k.tok=sign "("):bC hl (d+1) (k::r)=(match Vaunid.leafOf k.tok with|some l=>.ok (.leaf l,[k.start],r)|none=>fault 6 k.start):=by
 unfold bC coreTerm;rw[if_neg (by omega)];dsimp only;rw[if_neg h]<;>rfl
theorem w6{hl d:Nat}{k:Vaunid.Token}{r:Toks}(h:k.tok=sign "("):bC hl (d+1) (k::r)=c7 hl (bC hl d) k.start r:=by
 unfold bC;rw[length_cons,show 2*(r.length+1)+1=2*r.length+2+1 by omega];unfold coreTerm;rw[if_neg (by omega)];dsimp only;rw[if_pos h,Nat.add_sub_cancel];cases r with
 |nil =>
  unfold coreForm;dsimp only;by_cases h0:d=0
  ·subst h0;rfl
  obtain⟨d,rfl⟩:∃d',d=d'+1:=⟨d - 1,by omega⟩;rfl
 |cons k2 r2 =>
 rw[show 2*(k2::r2).length+2=2*(k2::r2).length+1+1 from rfl,iT];refine pD (kM hl _ d) λr' hr'=>?_;exact kN hl _ r' _ _ d (Nat.le_refl _) (by omega) (Nat.le_refl _)
theorem w8(t:List Nat):readCore t=(match allTokens true t with
  |.error e=>.error e
  |.ok ts=>match bC t.length 40 ts with
   |.error e=>.error e
   |.ok (a,places,r)=>match r with
    |k::_=>fault 6 k.start
    |[]=>if 300<places.length then fault 9 (places.getD 300 0)else .ok a):=by
 unfold readCore;cases h1:allTokens true t with
 |error e=>rfl
 |ok ts =>
 show(coreTerm t.length (2*ts.length+2) 40 ts >>= _)=_;rw[kN t.length ts.length ts (2*ts.length+2) (2*ts.length+1) 40 (Nat.le_refl _) (by omega) (Nat.le_refl _)];show(bC t.length 40 ts >>= _)=(match bC t.length 40 ts with
  |.error e=>.error e
  |.ok (a,places,r)=>match r with
   |k::_=>fault 6 k.start
   |[]=>if 300<places.length then fault 9 (places.getD 300 0)else .ok a)
 cases h2:bC t.length 40 ts with
 |error e=>rfl
 |ok v =>
 obtain⟨a,places,r⟩:=v;cases r with
 |nil=>rfl
 |cons k r=>rfl
end M
end Internal
open Internal
namespace PySem
namespace F
theorem pE:Manifest.owners.lookup (String.ofList ['d', 'e', 's', 'r', 'e', 'v', 'e', 'r'].reverse)=some Manifest.sig_reversed:=by kernel_rfl
theorem slot_rvd_next:Slot "reversed" "__next__" "reversed.__next__":=
 .of (owner:="reversed") (n:="__next__") (by rw[typeLookup_type,builtinLookup_eq_fast];kernel_rfl) (by left) (by left) (by left)
  (by first|exact .inl (by left)|exact .inr (by left)) (by rw[isSubtype_type];kernel_rfl)
theorem entry_rvd_next:entryFor table "reversed.__next__"=some Builtin.«reversed.__next__» := entryFor_of_tree (by kernel_rfl)
theorem args_rvd_next_1(a:Value):argsOk "reversed.__next__" ⟨[a],[]⟩:=by
 unfold argsOk;rw[signature?_of (id:="reversed.__next__") (n:=['_', '_', 't', 'x', 'e', 'n', '_', '_']) (o:=['d', 'e', 's', 'r', 'e', 'v', 'e', 'r']) (by kernel_rfl) pE];kernel_rfl
theorem slot_rvd_iter:Slot "reversed" "__iter__" "reversed.__iter__":=
 .of (owner:="reversed") (n:="__iter__") (by rw[typeLookup_type,builtinLookup_eq_fast];kernel_rfl) (by left) (by left) (by left)
  (by first|exact .inl (by left)|exact .inr (by left)) (by rw[isSubtype_type];kernel_rfl)
theorem args_rvd_iter_1(a:Value):argsOk "reversed.__iter__" ⟨[a],[]⟩:=by
 unfold argsOk;rw[signature?_of (id:="reversed.__iter__") (n:=['_', '_', 'r', 'e', 't', 'i', '_', '_']) (o:=['d', 'e', 's', 'r', 'e', 'v', 'e', 'r']) (by kernel_rfl) pE];kernel_rfl
theorem entry_rvd_iter:entryFor table "reversed.__iter__"=some Builtin.«dict_keyiterator.__iter__» :=
 entryFor_alias (id':="dict_keyiterator.__iter__") (by kernel_rfl) (by first|rfl|left|(unfold String.splitOn;simp +decide [String.splitOnAux])) (by left) (by kernel_rfl)
theorem w9:Slot "reversed" "__init__" "object.__init__":=
 .of (owner:="object") (n:="__init__") (by rw[typeLookup_type,builtinLookup_eq_fast];kernel_rfl) (by left) (by left) (by left)
  (by first|exact .inl (by left)|exact .inr (by left)) (by rw[isSubtype_type];kernel_rfl)
theorem called_rvd:TypeCalled "reversed" "reversed.__new__" "object.__init__":=
 ⟨by left,by left,⟨_,_,mro_reversed⟩,made_reversed,by left,sub_reversed_self,w9⟩
theorem tuple_no_rev:typeLookup (.type "tuple") "__reversed__"=pure none:=am_miss_of_fast (by first|left|rfl)
end F
open PyProof.Rows
def pF(l:Addr)(i:Int):Obj:={cls:= .type "reversed",data:= .fields #[.ref l,rawInt i]}
def Heap.IsRvd(h:Heap)(a l:Addr)(i:Int):Prop:=∃o,h.get? a=some o/\o.cls=.type "reversed"/\o.data=.fields #[.ref l,rawInt i]
section
variable{prog:Program}{w:World}{A:Around}{E:zQ}{s:Shared}
theorem Heap.IsRvd.typeIs{a l:Addr}{i:Int}(x:s.heap.IsRvd a l i):s.TypeIs (.ref a) "reversed":=let⟨o,ho,hc,_⟩:=x;⟨o,ho,hc⟩
theorem Heap.IsRvd.at{h h':Heap}{a l:Addr}{i:Int}(x:h.IsRvd a l i)(e:∀o,h.get? a=some o->h'.get? a=some o):h'.IsRvd a l i:=let⟨o,ho,r⟩:=x;⟨o,e _ ho,r⟩
theorem xa:isSubtype (.type "tuple") (.type "dict")=pure false:=by rw[isSubtype_type];kernel_rfl
theorem xb(t:Addr)(items:Array Value) :
  Meets (Builtin.«reversed.__new__» ⟨[.type "reversed",.ref t],[]⟩) (λ_ R s=>IsTup s.heap t items/\((items.size:Int)<2 ^ 63)/\∀k,R (.ok (.ret (.ref s.heap.objs.size))) {s with heap:=s.heap.push (pF t ((items.size:Int) - 1)),toks:=k}):=
 .of_wp λprog w A R s h=>by
  obtain⟨ht,hz,h⟩:=h;have hT:=ht.typeIs;unfold Builtin.«reversed.__new__»;refine wpAny_bind (wpAny_of_eq (newClass_reversed _) ?_)
  try dsimp only
  refine wpAny_bind (wpAny_of_eq (a:=()) (by first|rfl|kernel_rfl) ?_);refine wpAny_bind (wpAny_of_eq (a:=()) (by first|rfl|kernel_rfl) ?_)
  try dsimp only
  refine wpAny_bind (wpAny_specialOf hT F.tuple_no_rev ?_)
  try dsimp only
  refine wpAny_bind ?_;show wpAny _ _ (isInstance (.ref t) (.type "dict") >>= _) _ _ _;refine wpAny_bind (wpAny_isInstance (T:="tuple") (b:=false) hT xa ?_);show wpAny _ _ (specialOf (.ref t) "__getitem__" >>= _) _ _ _;refine wpAny_bind (wpAny_specialOf hT slot_tuple_getitem.lookup ?_);refine wpAny_of_eq (a:=true) rfl ?_;rw[if_neg (by decide)];refine wpAny_bind (len_tuple ht hz ?_);refine wpAny_bind (wpAny_of_eq (a:=some ((items.size:Nat):Int)) rfl ?_);dsimp only;refine wpAny_bind ?_;show wpAny _ _ (newObj (.type "reversed") (.fields #[Value.ref t,rawInt ((items.size:Int) - 1)])) _ _ _;exact wpAny_newObj_type (wpAny_pure ⟨_,rfl,h _⟩)
theorem xc{t:Addr}{items:Array Value}{Q:zQ}(ht:IsTup s.heap t items)(hz:(items.size:Int)<2 ^ 63)
  (h:∀k,Q (.ref s.heap.objs.size) {s with heap:=s.heap.push (pF t ((items.size:Int) - 1)),toks:=k}):wpAny (model prog w) A (call (.type "reversed") [.ref t]) Q E s:=
 callType_new F.called_rvd (by decide) (F.typeCall_reversed_1 _) (F.newCall_reversed_1 _) (λobj=>F.args_object_init_2 obj _) F.entry_reversed_new (xb t items) ⟨ht,hz,λk=>⟨⟨_,get?_push_size _ rfl,rfl⟩,h k⟩⟩
theorem pG{it l:Addr}{i:Int}{Q:zQ}(hit:s.heap.IsRvd it l i)(h:Q (.ref it) s):wpAny (model prog w) A (pyIter (.ref it)) Q E s:=by
 refine wpAny_pyIter_slot hit.typeIs F.slot_rvd_iter (wpAny_call_entry F.slot_rvd_iter hit.typeIs F.entry_rvd_iter ?_ (F.args_rvd_iter_1 _));show wpAny _ _ (ret (.ref it)) _ _ s;exact wpAny_pure ⟨_,rfl,"reversed",_,hit.typeIs,F.slot_rvd_next.lookup,h⟩
theorem xf{it l:Addr}{i:Nat}{items:Array Value}{x:Value}{Q:Option Value->Shared->Prop}(hit:s.heap.IsRvd it l (i:Int))(hl:IsTup s.heap l items)(hne:l≠it)(hz:(items.size:Int)<2 ^ 63)(hx:items[i]? = some x)
  (hQ:∀h' k,h'.IsRvd it l ((i:Int) - 1)->Heap.SameBut it s.heap h'->Q (some x) {s with heap:=h',toks:=k}):wpAny (model prog w) A (pyNext (.ref it)) Q E s:=by
 obtain⟨o,ho,hc,hd⟩:=id hit;have hlt:i<items.size:=(Array.getElem?_eq_some_iff.mp hx).1;unfold pyNext;refine wpAny_bind (wpAny_attempt (wpAny_callSpecial?_slot (name:=ofString "__next__") hit.typeIs F.slot_rvd_next
  (wpAny_call_entry F.slot_rvd_next hit.typeIs F.entry_rvd_next ?_ (F.args_rvd_next_1 _))))
 unfold Builtin.«reversed.__next__»;refine wpAny_bind (wpAny_of_eq (a:=(Value.ref it,[])) rfl ?_)
 try dsimp only
 refine wpAny_bind (wpAny_field ho hd (x:= .ref l) rfl ?_);refine wpAny_bind (wpAny_field ho hd (x:=rawInt (i:Int)) rfl ?_);show wpAny _ _ (if(i:Int)<0 then _ else _) _ _ s;rw[if_neg (by omega)];refine wpAny_bind (wpAny_specialOf hl.typeIs slot_tuple_getitem.lookup ?_);rw[if_neg (by decide)];refine wpAny_bind (wpAny_mkInt ?_);refine wpAny_bind (wpAny_attempt (getItem_tuple (j:=i) (x:=x) hl (by omega) (by omega) (by unfold seqIndex?;simp;omega) hx ?_));refine wpAny_bind (wpAny_field (s:={s with toks:=s.toks+1}) ho hd (x:=rawInt (i:Int)) rfl ?_);refine wpAny_bind (wpAny_setField (s:={s with toks:=s.toks+1}) ho hd (by simp) ?_);refine wpAny_pure ⟨x,rfl,wpAny_pure (hQ _ _ ?_ (Heap.SameBut.update ..))⟩;exact⟨_,get?_update_self _ ho (Obj.isFreed_of_fields (Obj.data_mapFields hd _)),(Obj.cls_mapFields ..).trans hc,by
  rw[Obj.data_mapFields hd];simp⟩
theorem xg{it l:Addr}{Q:Option Value->Shared->Prop}(hh:A.handled=none)(hit:s.heap.IsRvd it l (-1))
  (hQ:∀h',Heap.ExtBut it s.heap h'->Q none {s with heap:=h' }):wpAny (model prog w) A (pyNext (.ref it)) Q E s:=by
 obtain⟨o,ho,hc,hd⟩:=id hit;unfold pyNext;refine wpAny_bind (wpAny_attempt (wpAny_callSpecial?_slot (name:=ofString "__next__") hit.typeIs F.slot_rvd_next
  (wpAny_call_entry F.slot_rvd_next hit.typeIs F.entry_rvd_next ?_ (F.args_rvd_next_1 _))))
 unfold Builtin.«reversed.__next__»;refine wpAny_bind (wpAny_of_eq (a:=(Value.ref it,[])) rfl ?_)
 try dsimp only
 refine wpAny_bind (wpAny_field ho hd (x:= .ref l) rfl ?_);refine wpAny_bind (wpAny_field ho hd (x:=rawInt (-1)) rfl ?_);show wpAny _ _ (if(-1:Int)<0 then _ else _) _ _ s;rw[if_pos (by decide)];refine wpAny_bind (wpAny_rule ?_);refine wpAny_bind ?_;show wpAny _ _ (setField (.ref it) 1 (rawInt (-1)) >>= _) _ _ _;refine wpAny_bind (wpAny_setField ho hd (by simp) ?_);have ho2:=get?_update_self (Obj.mapFields (·.setIfInBounds 1 (rawInt (-1)))) ho (Obj.isFreed_of_fields (Obj.data_mapFields hd _));have hd2:(Obj.mapFields (·.setIfInBounds 1 (rawInt (-1))) o).data=.fields #[Value.ref l,rawInt (-1)]:=by rw[Obj.data_mapFields hd];simp
 have sb2:Heap.SameBut it s.heap (s.heap.update it (Obj.mapFields (·.setIfInBounds 1 (rawInt (-1))))):=Heap.SameBut.update ..;generalize s.heap.update it (Obj.mapFields (·.setIfInBounds 1 (rawInt (-1))))=h2 at ho2 sb2 ⊢;refine wpAny_setField (s:={s with heap:=h2}) ho2 hd2 (by simp) ?_;have sb3:Heap.SameBut it h2 (h2.update it (Obj.mapFields (·.setIfInBounds 0 .none))):=Heap.SameBut.update ..;show wpAny _ _ (Builtin.SmallTypes.stopIteration >>= _) _ _ {s with heap:=h2.update it (Obj.mapFields (·.setIfInBounds 0 .none))};generalize h2.update it (Obj.mapFields (·.setIfInBounds 0 .none))=h3 at sb3 ⊢;refine wpAny_bind ?_;show wpAny _ _ (newExc (.type "StopIteration") [] >>= _) _ _ _;refine wpAny_bind ?_;simp only[newExc,newTuple];refine wpAny_bind (wpAny_newObj_type ?_ (by size_fits));refine wpAny_bind (m:=firstArgMember _ _) (wpAny_of_eq (a:=Value.none) (by first|rfl|(simp only[firstArgMember];rfl)) ?_);refine wpAny_newObj_type ?_ (by size_fits);simp only[raiseNew];refine wpAny_bind (wpAny_handled ?_)
 first|rw[show A.in1.handled=none from hh]|rw[hh]
 refine wpAny_bind (wpAny_pure (wpAny_throw ?_));refine wpAny_bind (wpAny_isInstance (T:="StopIteration") (b:=true) ⟨_,get?_push_size _ rfl,rfl⟩ isSubtype_stop ?_);exact wpAny_pure (hQ _ ((((sb2.trans sb3).extBut).push _).push _))
end
end PySem
namespace Internal
namespace L2
open PySem PySem.Spec PyProof.Rows TL
def Itw(K:Frag)(a:Addr)(n:Nat):It:=
 ⟨λi H=>i<n/\∃(xs:List V) (x:V),SqT K H a xs/\xs.length=n/\xs[n - 1 - i]? = some x,λi H x H'=>H'=H/\∀xs,SqT K H a xs->xs[n - 1 - i]? = some x,λi _=>n<=i⟩
theorem xh{P:Program}{w:World}{K:Frag}{tg:Expr}(a it:Addr)(n:Nat):Turn P w K tg (Itw K a n) [it] it (λi h=>i<=n/\h.IsRvd it a ((n:Int) - 1 - (i:Nat))) where
 mem:=by simp
 obj:=λi h st b hb=>by
  have e:b=it:=by simpa using hb
  subst e;refine x_01 st λ_ zz0=>?_;refine x_12 zz0 λo e c d=>?_;exact⟨o,e,λv z=>by rw[d]at z;cases z⟩
 keep:=λi h h' st k=>⟨st.1,st.2.at λo e=>k it (by simp) o e⟩
 item:=by
  intro X hP hw hK hc i zz s σ H E I hf st hg;subst hP hw hK;refine x_01 hg λhin zz0=>?_;refine x_22 zz0 λxs x hq hxl hx=>?_;refine x_12 (I.tuple hq) λzw rv p hz=>?_;obtain⟨u,hu,ru⟩:=rv.get hx;obtain⟨f0,f1,f2,f3,f4,f5⟩:=hf it (by simp);obtain⟨_,hit⟩:=st;have e1:(n:Int) - 1 - ((i:Nat):Int)=((n - 1 - i:Nat):Int):=by omega
  rw[e1]at hit;have hl:=rv.length;have hn:=dF;have nla:a≠it:=λz=>by
   obtain⟨o,e,c,d⟩:=hit;obtain⟨ob,e2,c2,nn,d2⟩:=p;rw[z,e]at e2;cases e2;rw[d]at d2;cases d2
  refine xf hit p nla (by rw[size_toArray];omega) (x:=u) (by simpa using hu) λh' k st' sb=>?_;have e2:((n - 1 - i:Nat):Int) - 1=(n:Int) - 1 - ((i+1:Nat):Int):=by omega
  rw[e2]at st';have I1:Inv X zz σ H {s with heap:=h',toks:=k}:=I.turned (t':=k) (λb o hb e=>(sb.2 b hb).trans e) f0 f1 f3 f4 f5;refine x_12 (id st') λo e c d=>?_;exact⟨u,rfl,fJ (s:={s with heap:=h',toks:=k}) e c d (by decide) ⟨x,H,I1,ru,⟨rfl,λys hy=>by rw[I.tuple_inj hy hq];exact hx⟩,⟨hin,st'⟩,λb hb=>(hf b hb).1⟩⟩
 done:=by
  intro X hP hw hK hc i zz s σ H E I hf st hg;subst hP hw hK;obtain⟨f0,f1,f2,f3,f4,f5⟩:=hf it (by simp);obtain⟨hin,hit⟩:=st;have hge:n<=i:=hg;have e1:(n:Int) - 1 - ((i:Nat):Int)= -1:=by omega
  rw[e1]at hit;exact xg (I.ok.hd hc) hit λh' eb=>⟨rfl,I.turned (t':=s.toks) (λb o hb e=>eb b o hb e) f0 f1 f3 f4 f5⟩
 self:=λA i s Q E st h=>pG st.2 h
def pH(K:Frag)(ta:TA):TI:=λσ H R=>ta σ H λvs H1=>∃(a:Addr) (xs:List V),vs=[.ref a]/\SqT K H1 a xs/\R (Itw K a xs.length) H1
theorem xi{X:Cx}{tg:Expr}{e:Expr}{ta:TA}{p pos:Pos}(hg:Gl X "reversed")(hm:X.mg "reversed"=none)(ha:PA X [e] ta)(hs:starEach [e] X.env=[(false,eval e X.env)]:=by rfl):PI X tg (.Call (.Name "reversed" p) [e] [] pos) (pH X.K ta):=by
 intro zz s σ H R I h;refine Call_ (dW I hg hm ng (PyProof.Rows.callWith_type1 (thn (ha pos zz s σ H _ I h) λus s1 zq=>?_) hs rfl));refine x_22 zq λvs H1 I1 r1 q1=>?_;refine x_22 q1 λa xs e hq q=>?_;subst e;cases r1 with
 |cons r rr =>
 cases rr;cases r;refine x_12 (I1.tuple hq) λzw rv p' hz=>?_;have hl:=rv.length;have hn:=dF;have e1:((zw.toArray.size:Nat):Int) - 1=(xs.length:Int) - 1 - ((0:Nat):Int):=by simp only[size_toArray];omega
 refine xc p' (by rw[size_toArray];omega) λk=>pG (l:=a) (i:=((zw.toArray.size:Nat):Int) - 1) ⟨_,get?_push_size _ rfl,rfl,rfl⟩ ?_;refine h7 (tk:=k) I1 _ (xh a _ xs.length) ⟨zero_le _,?_⟩ q;rw[<- e1];exact⟨_,get?_push_size _ rfl,rfl,rfl⟩
theorem gA{K:Frag}{a:Addr}{g:TG}{tb:TS}{D:Ends}{σ:St}{H1:Hp}(xs:List V)(Pv:Nat->St->Hp->Prop)(h0:Pv 0 σ H1)(hl:∀i σ H,i<=xs.length->Pv i σ H->SqL K H a xs)
  (hs:∀i x σ H,xs.reverse[i]? = some x->Pv i σ H->g x σ H λσ2 H2=>tb {D with nx:=Pv (i+1),ct:=Pv (i+1),bk:=D.nx} σ2 H2)(hd:∀σ H,Pv xs.length σ H->D.nx σ H):gp g tb D σ (Itv K a xs.length) H1:=by
 refine⟨λi m σ H=>m=xs.length - i/\i<=xs.length/\Pv i σ H,⟨xs.length,by simp,zero_le _,h0⟩,?_⟩
 rintro i m σ H ⟨rfl,hi,p⟩
 have q:=hl i σ H hi p;by_cases hlt:i<xs.length
 ·have hx:xs[xs.length - 1 - i]? = some xs[xs.length - 1 - i]:=getElem?_eq_getElem (by omega)
  refine .inr ⟨⟨hlt,xs,_,q,hx⟩,Pv (i+1),λσ' H' p'=>⟨xs.length - (i+1),by omega,rfl,hlt,p'⟩,λx H' y=>?_⟩;obtain⟨e,y⟩:=y;subst e;refine hs i x σ _ ?_ p;rw[getElem?_reverse hlt];exact y xs q
 have e:i=xs.length:=by omega
 subst e;exact .inl ⟨Nat.le_refl _,hd σ H p⟩
theorem xj{K:Frag}{a:Addr}{g:TG}{tb:TS}{D:Ends}{σ:St}{H1:Hp}(xs:List V)(Pv:Nat->St->Hp->Prop)(h0:Pv 0 σ H1)(hl:∀i σ H,i<=xs.length->Pv i σ H->SqT K H a xs)
  (hs:∀i x σ H,xs.reverse[i]? = some x->Pv i σ H->g x σ H λσ2 H2=>tb {D with nx:=Pv (i+1),ct:=Pv (i+1),bk:=D.nx} σ2 H2)(hd:∀σ H,Pv xs.length σ H->D.nx σ H):gp g tb D σ (Itw K a xs.length) H1:=by
 refine⟨λi m σ H=>m=xs.length - i/\i<=xs.length/\Pv i σ H,⟨xs.length,by simp,zero_le _,h0⟩,?_⟩
 rintro i m σ H ⟨rfl,hi,p⟩
 have q:=hl i σ H hi p;by_cases hlt:i<xs.length
 ·have hx:xs[xs.length - 1 - i]? = some xs[xs.length - 1 - i]:=getElem?_eq_getElem (by omega)
  refine .inr ⟨⟨hlt,xs,_,q,rfl,hx⟩,Pv (i+1),λσ' H' p'=>⟨xs.length - (i+1),by omega,rfl,hlt,p'⟩,λx H' y=>?_⟩;obtain⟨e,y⟩:=y;subst e;refine hs i x σ _ ?_ p;rw[getElem?_reverse hlt];exact y xs q
 have e:i=xs.length:=by omega
 subst e;exact .inl ⟨Nat.le_refl _,hd σ H p⟩
theorem xk{K:Frag}{a:Addr}{g:TG}{tb:TS}{D:Ends}{σ:St}{H1:Hp}(xs:List V)(Pv:Nat->St->Hp->Prop)(h0:Pv 0 σ H1)(hl:∀i σ H,i<=xs.length->Pv i σ H->SqL K H a xs)
  (hs:∀i x σ H (T:Addr),xs[i]? = some x->Pv i σ H->H T=none->g (.ref T) σ (upd H T (.tup [.int (i:Nat),x])) λσ2 H2=>tb {D with nx:=Pv (i+1),ct:=Pv (i+1),bk:=D.nx} σ2 H2)(hd:∀σ H,Pv xs.length σ H->D.nx σ H):gp g tb D σ (Ite K a) H1:=by
 refine⟨λi m σ H=>m=xs.length - i/\i<=xs.length/\Pv i σ H,⟨xs.length,by simp,zero_le _,h0⟩,?_⟩
 rintro i m σ H ⟨rfl,hi,p⟩
 have q:=hl i σ H hi p;by_cases hlt:i<xs.length
 ·have hx:xs[i]? = some xs[i]:=getElem?_eq_getElem hlt
  refine .inr ⟨⟨xs,_,q,hx⟩,Pv (i+1),λσ' H' p'=>⟨xs.length - (i+1),by omega,rfl,hlt,p'⟩,λv H' y=>?_⟩;refine x_23 y λT x zr2 hT zr4 hy=>?_;subst zr2;subst zr4;exact hs i x σ H T (hy xs q) p hT
 have e:i=xs.length:=by omega
 subst e;exact .inl ⟨⟨xs,q,Nat.le_refl _⟩,hd σ H p⟩
def kO(w:World)(p:Str×V)(e:DictEntry):Prop:=e.hash=PyData.keyHash w.params p.1/\(∃t,e.key=.str p.1 t)/\RelV p.2 e.val
structure MDict(w:World)(K:Frag)(a:Addr)(tab:List (Str×V)):Prop where
 ex:∃(es:Array DictEntry) (ep:Nat),K.lookup a=some {cls:= .type "dict",data:= .dict es ep}/\Paired (kO w) tab es.toList
 nd:(tab.map (·.1)).Nodup
 ns:(a==sysModules)=false
def tkv(tab:List (Str×V)):List (Key×V):=tab.map λp=>(Sum.inr p.1,p.2)
def cR(tab:List (Str×V))(x:Str):Option V:=(tab.find? λp=>decide (p.1=x)).map (·.2)
theorem iW(x:Str):∀tab:List (Str×V),valV (tkv tab) (Sum.inr x)=cR tab x
 |[]=>rfl
 |p::r=>by
  have ih:=iW x r;show valV ((Sum.inr p.1,p.2)::tkv r) _=_;unfold cR;by_cases h:p.1=x
  ·rw[cF (by rw[h]),find?_cons]
   simp[h]
  rw[cG (λe=>h (Sum.inr.inj e)),find?_cons,decide_eq_false h];exact ih
theorem pI{P:Program}{w:World}:∀{tab:List (Str×V)}{es:List DictEntry},Paired (kO w) tab es->∃vs:List (Key×Value),KV (tkv tab) vs/\Pairs (bE P w) es vs/\(∀e∈es,∃k,(bE P w).is k e.key=true/\e.hash=(bE P w).hash k)/\vs.map (·.1)=(tkv tab).map (·.1)
 |_,_,.nil=>⟨[],.nil,.nil,λe he=>by simp at he,rfl⟩
 |p::tab,e::es,.cons ⟨h1,⟨t,h2⟩,h3⟩ r=>by
  refine x_13 (pI (P:=P) r) λvs k1 k2 k3 k4=>?_;have hk:(bE P w).is (Sum.inr p.1) e.key=true:=by rw[h2];exact lP P w p.1 t
  refine⟨(Sum.inr p.1,e.val)::vs,.cons ⟨rfl,h3⟩ k1,.cons hk rfl k2,λe' he'=>?_,?_⟩
  ·rcases mem_cons.mp he' with z|z
   ·subst z
    exact⟨Sum.inr p.1,hk,h1⟩
   exact k3 e' z
  show Sum.inr p.1::vs.map (·.1)=Sum.inr p.1::(tkv tab).map (·.1);rw[k4]
theorem pJ:∀{l:List Str},l.Nodup->(l.map λx=>(Sum.inr x:Key)).Nodup
 |[],_=>.nil
 |x::r,h=>by
  obtain⟨h1,h2⟩:=nodup_cons.mp h;refine nodup_cons.mpr ⟨λm=>?_,pJ h2⟩;obtain⟨y,hy,e⟩:=mem_map.mp m;exact h1 (Sum.inr.inj e ▸ hy)
theorem MDict.dictOf{P:Program}{w:World}{K:Frag}{a:Addr}{tab:List (Str×V)}(m:MDict w K a tab){h:Heap}(X:K.In h):∃vs:List (Key×Value),KV (tkv tab) vs/\h.DictOf (bE P w) a vs:=by
 refine x_21 m.ex λes ep lk pr=>?_;refine x_13 (pI (P:=P) pr) λvs k1 k2 k3 k4=>?_;refine⟨vs,k1,_,es,ep,X _ _ lk,⟨rfl,rfl,rfl⟩,rfl,λe he=>k3 e (Array.mem_toList_iff.mpr he),k2,?_⟩;rw[k4];unfold tkv;rw[map_map];have:=m.nd;have e:((·.1) ∘ λ(p:Str×V)=>((Sum.inr p.1:Key),p.2))=(λx=>(Sum.inr x:Key)) ∘ (·.1):=rfl;rw[e,<- map_map];exact pJ this
section
variable{X:Cx}{o i e f:Expr}{pos zt zn:Pos}{td ty tx:TE}
def pK(w:World)(K:Frag)(td ty:TE):TE:=λσ H Q=>td σ H λx H1=>ty σ H1 λy H2=>∃a tab z v,x=.ref a/\y=.str z/\MDict w K a tab/\cR tab z=some v/\Q v H2
def kP(w:World)(K:Frag)(ty td:TE):TE:=λσ H Q=>ty σ H λy H1=>td σ H1 λx H2=>∃a tab z,x=.ref a/\y=.str z/\MDict w K a tab/\Q (.bl (cR tab z).isSome) H2
def pL(w:World)(K:Frag)(td ty tx:TE):TE:=λσ H Q=>td σ H λx H1=>∃a tab,x=.ref a/\MDict w K a tab/\ty σ H1 λy H2=>tx σ H2 λd H3=>∃z,y=.str z/\Q ((cR tab z).getD d) H3
theorem xl(ho:PE X o td)(hi:PE X i ty)(hs:NoSl i:=by intro _ _;rfl):PE X (.Subscript o i pos) (pK X.w X.K td ty):=by
 intro zz s σ H Q I h;refine uv PySem.F.slot_dict_getitem.lookup hs (thn (ho zz s σ H _ I h) λu s1 ⟨x,H1,I1,rx,q1⟩=>thn (hi zz s1 σ H1 _ I1 q1) λiv s2 zq=>?_);refine x_22 zq λy H2 I2 ry zz0=>?_;refine x_40 zz0 λa tab z v zy=>x_04 zy λex ey md hv q2=>?_;subst ex ey;obtain rfl:u=Value.ref a:=rx;obtain⟨vs,rel,dd⟩:=md.dictOf (P:=X.prog) I2.kIn;refine⟨dd.typeIs,?_⟩;obtain⟨w',hw,rw'⟩:=RelO.some_of (v:=v) (o:=valueAt vs (Sum.inr z)) (by rw[<- hv,<- iW];exact rel.val _);exact wpAny_getItem_of (fg (k:=Sum.inr z) ry) dd.mapOf hw ⟨v,H2,I2.tok _,rw',q2⟩
theorem xm(hi:PE X i ty)(ho:PE X o td):PC X .In i o (kP X.w X.K ty td):=by
 intro zz s σ H Q I h;refine thn (hi zz s σ H _ I h) λiv s1 ⟨y,H1,I1,ry,q1⟩=>thn (ho zz s1 σ H1 _ I1 q1) λu s2 zq=>?_;refine x_22 zq λx H2 I2 rx zz0=>?_;refine x_33 zz0 λa tab z ex ey md q2=>?_;subst ex ey;obtain rfl:u=Value.ref a:=rx;obtain⟨vs,rel,dd⟩:=md.dictOf (P:=X.prog) I2.kIn;refine wpAny_in_of (fg (k:=Sum.inr z) ry) md.ns dd.mapOf ?_;rw[<- (rel.val (Sum.inr z)).isSome_eq,iW];exact⟨.bl (cR tab z).isSome,H2,I2.tok _,rfl,q2⟩
theorem xn(hi:PE X i ty)(ho:PE X o td)(h1:behindInMarks .In o=false:=by rfl):PT X (.Compare i [.In] [o] pos) (tB (kP X.w X.K ty td)):=lU (xm hi ho) h1
theorem xo(ho:PE X o td)(he:PE X e ty)(hf:PE X f tx)(m:M2 X o "get" zt e f zn):PE X (.Call (.Attribute o "get" zt) [e,f] [] zn) (pL X.w X.K td ty tx):=by
 intro zz s σ H Q I h;refine wpAny_Call_method m.base m.few m.line PySem.F.plainAttrs_dict slot_dict_get PySem.F.type_dict_get (thn (ho zz s σ H _ I h) λu s1 zq=>?_);refine x_22 zq λx H1 I1 rx zz0=>?_;refine x_22 zz0 λa tab ex md q1=>?_;subst ex;obtain rfl:u=Value.ref a:=rx;obtain⟨vs,rel,dd⟩:=md.dictOf (P:=X.prog) I1.kIn;refine⟨dd.typeIs,λb q=>?_,?_⟩
 ·cases q
  refine x_32 dd λob _ _ h1 h2 _=>?_;exact⟨ob,h1,h2.2.1⟩
 rw[m.trees];refine Calls.callWith_builtin rfl (Calls.evalArgs_plain (Calls.spliced_cons (thn (he zz s1 σ H1 _ I1 q1) λiv s2 ⟨y,H2,I2,ry,q2⟩=>Calls.spliced_cons (thn (hf zz s2 σ H2 _ I2 q2) λfv s3 ⟨d,H3,I3,rd,z,ey,q3⟩=>Calls.spliced_nil ?_))));subst ey;obtain⟨vs,rel,dd⟩:=md.dictOf (P:=X.prog) I3.kIn;refine call_meetsIn slot_dict_get dd.typeIs PySem.F.entry_dict_get (PySem.F.args_dict_get_3 _ _ _) (meets_dict_get_default (bE X.prog X.w) a (fg (k:=Sum.inr z) ry) md.ns fv) ⟨_,dd.mapOf,⟨_,H3,I3.tok _,?_,q3⟩⟩;rw[<- iW];exact(rel.val (Sum.inr z)).getD rd
end
end L2
namespace M
open PySem PySem.Spec PyProof.Rows L2 TL
inductive Tr where
 |mk (form:List Nat) (words:List (List Nat)) (b e:Nat) (parts:List Tr)
noncomputable def Tr.form:Tr->List Nat
 |.mk f _ _ _ _=>f
noncomputable def Tr.b:Tr->Nat
 |.mk _ _ b _ _=>b
noncomputable def Tr.parts:Tr->List Tr
 |.mk _ _ _ _ p=>p
noncomputable def bh(f:Str)(w p:Addr)(b e:Int):List (Str×V):=[("form",.str f),("words",.ref w),("parts",.ref p),("begin",.int b),("end",.int e)]
mutual
inductive TreeAt(Cn:Addr)(H:Hp):Addr->Tr->List Addr->Prop
 |mk {a dx w p:Addr}{f:List Nat}{ws:List (List Nat)}{b e:Nat}{as:List Addr}{ps:List Tr}{F:List Addr} :
  H a=some (.ins Cn dx (bh (S f) w p (b:Int) (e:Int)))->H w=some (.lst ((ws.map S).map V.str))->H p=some (.lst (as.map V.ref))->TreesAt Cn H as ps F->TreeAt Cn H a (.mk f ws b e ps) (a::w::p::F)
inductive TreesAt(Cn:Addr)(H:Hp):List Addr->List Tr->List Addr->Prop
 |nil:TreesAt Cn H [] [] []
 |cons {a:Addr}{t:Tr}{F G:List Addr}{as:List Addr}{ts:List Tr}:TreeAt Cn H a t F->TreesAt Cn H as ts G->TreesAt Cn H (a::as) (t::ts) (F++G)
end
theorem pM{Cn:Addr}{H H':Hp}:(∀{a:Addr}{t:Tr}{F:List Addr},TreeAt Cn H a t F->(∀b∈F,∀o,H b=some o->H' b=some o)->TreeAt Cn H' a t F)/\∀{as:List Addr}{ts:List Tr}{F:List Addr},TreesAt Cn H as ts F->(∀b∈F,∀o,H b=some o->H' b=some o)->TreesAt Cn H' as ts F:=by
 refine⟨λh=>TreeAt.rec (motive_1:=λa t F _=>(∀b∈F,∀o,H b=some o->H' b=some o)->TreeAt Cn H' a t F) (motive_2:=λas ts F _=>(∀b∈F,∀o,H b=some o->H' b=some o)->TreesAt Cn H' as ts F) ?_ ?_ ?_ h,λh=>TreesAt.rec (motive_1:=λa t F _=>(∀b∈F,∀o,H b=some o->H' b=some o)->TreeAt Cn H' a t F) (motive_2:=λas ts F _=>(∀b∈F,∀o,H b=some o->H' b=some o)->TreesAt Cn H' as ts F) ?_ ?_ ?_ h⟩
 all_goals first
  |exact λh1 h2 h3 _ ih k=>.mk (k _ (by simp) _ h1) (k _ (by simp) _ h2) (k _ (by simp) _ h3) (ih λb hb=>k b (by simp[hb]))
  |exact λ_=>.nil
  |exact λ_ _ i1 i2 k=>.cons (i1 λb hb=>k b (mem_append_left _ hb)) (i2 λb hb=>k b (mem_append_right _ hb))
theorem TreeAt.keep{Cn:Addr}{H H':Hp}{a:Addr}{t:Tr}{F:List Addr}(h:TreeAt Cn H a t F)(k:∀b∈F,∀o,H b=some o->H' b=some o):TreeAt Cn H' a t F:=pM.1 h k
theorem TreesAt.keep{Cn:Addr}{H H':Hp}{as:List Addr}{ts:List Tr}{F:List Addr}(h:TreesAt Cn H as ts F)(k:∀b∈F,∀o,H b=some o->H' b=some o):TreesAt Cn H' as ts F:=pM.2 h k
theorem pN{Cn:Addr}{H:Hp}:(∀{a:Addr}{t:Tr}{F:List Addr},TreeAt Cn H a t F->∀b∈F,∃o,H b=some o)/\∀{as:List Addr}{ts:List Tr}{F:List Addr},TreesAt Cn H as ts F->∀b∈F,∃o,H b=some o:=by
 refine⟨λh=>TreeAt.rec (motive_1:=λ_ _ F _=>∀b∈F,∃o,H b=some o) (motive_2:=λ_ _ F _=>∀b∈F,∃o,H b=some o) ?_ ?_ ?_ h,λh=>TreesAt.rec (motive_1:=λ_ _ F _=>∀b∈F,∃o,H b=some o) (motive_2:=λ_ _ F _=>∀b∈F,∃o,H b=some o) ?_ ?_ ?_ h⟩
 all_goals first
  |exact λh1 h2 h3 _ ih b hb=>(by simp only[mem_cons]at hb;rcases hb with rfl|rfl|rfl|hb;exact⟨_,h1⟩;exact⟨_,h2⟩;exact⟨_,h3⟩;exact ih b hb)
  |exact λ_ _ i1 i2 b hb=>(mem_append.mp hb).elim (i1 b) (i2 b)
  |exact λ_ hb=>absurd hb (not_mem_nil)
theorem TreeAt.here{Cn:Addr}{H:Hp}{a:Addr}{t:Tr}{F:List Addr}(h:TreeAt Cn H a t F):∀b∈F,∃o,H b=some o:=pN.1 h
theorem TreesAt.here{Cn:Addr}{H:Hp}{as:List Addr}{ts:List Tr}{F:List Addr}(h:TreesAt Cn H as ts F):∀b∈F,∃o,H b=some o:=pN.2 h
theorem TreeAt.same{Cn:Addr}{H H':Hp}{a:Addr}{t:Tr}{F:List Addr}(h:TreeAt Cn H a t F)(s:Same H H'):TreeAt Cn H' a t F:=h.keep λb _ o e=>s b o e
theorem TreesAt.snoc{Cn:Addr}{H:Hp}{as:List Addr}{ts:List Tr}{F:List Addr}{a:Addr}{t:Tr}{G:List Addr}(h:TreesAt Cn H as ts F)(q:TreeAt Cn H a t G):TreesAt Cn H (as++[a]) (ts++[t]) (F++G):=by
 refine TreesAt.rec (motive_1:=λ_ _ _ _=>True) (motive_2:=λas ts F _=>TreesAt Cn H (as++[a]) (ts++[t]) (F++G)) (λ_ _ _ _ _=>trivial) ?_ (λh1 _ _ ih=>?_) h
 ·have:=TreesAt.cons q .nil
  rw[append_nil]at this;exact this
 have:=TreesAt.cons h1 ih;rw[<- append_assoc]at this;exact this
theorem TreesAt.length{Cn:Addr}{H:Hp}{as:List Addr}{ts:List Tr}{F:List Addr}(h:TreesAt Cn H as ts F):as.length=ts.length:=
 TreesAt.rec (motive_1:=λ_ _ _ _=>True) (motive_2:=λas ts _ _=>as.length=ts.length) (λ_ _ _ _ _=>trivial) rfl (λ_ _ _ ih=>congrArg (· + 1) ih) h
noncomputable def dB:Leaf->String
 |.name _=>"name"
 |.num _=>"number"
 |.truth b=>if b=true then "true"else "false"
 |.nil=>"nil"
def iX:Leaf->List (List Nat)
 |.name x=>[x]
 |.num v=>[shownLit v]
 |_=>[]
noncomputable def a9:Term->List Nat
 |.leaf l=>Vaunid.txt (dB l)
 |.one o _=>Vaunid.txt (fq o).word
 |.two o _ _=>Vaunid.txt (cw o).word
 |.three o _ _ _=>Vaunid.txt (match o with|.cond=>Fm.if_.word|.fold=>Fm.fold.word)
 |.fn _ _=>Vaunid.txt Fm.fn.word
 |.rec_ _ _ _=>Vaunid.txt Fm.rec_.word
 |.let_ _ _ _=>Vaunid.txt Fm.let_.word
 |.case _ _ _ _ _=>Vaunid.txt Fm.case.word
noncomputable def aM:Term->List (List Nat)
 |.leaf l=>iX l
 |.one (.pow n) _=>[decimalInt n]
 |.fn x _=>[x]
 |.rec_ f x _=>[f,x]
 |.let_ x _ _=>[x]
 |.case _ _ h t _=>[h,t]
 |_=>[]
noncomputable def aX:Term->List Term
 |.leaf _=>[]
 |.one _ a=>[a]
 |.two _ a b=>[a,b]
 |.three _ a b c=>[a,b,c]
 |.fn _ a=>[a]
 |.rec_ _ _ a=>[a]
 |.let_ _ a b=>[a,b]
 |.case l a _ _ b=>[l,a,b]
mutual
inductive Rep:Term->Tr->Prop
 |mk {t:Term}{b e:Nat}{ps:List Tr}:Reps (aX t) ps->Rep t (.mk (a9 t) (aM t) b e ps)
inductive Reps:List Term->List Tr->Prop
 |nil:Reps [] []
 |cons {t:Term}{r:Tr}{ts:List Term}{rs:List Tr}:Rep t r->Reps ts rs->Reps (t::ts) (r::rs)
end
mutual
noncomputable def c8:Tr->List Nat
 |.mk _ _ b _ ps=>b::d6 ps
noncomputable def d6:List Tr->List Nat
 |[]=>[]
 |t::r=>c8 t++d6 r
end
noncomputable def eG:List Fm:=[.fn,.rec_,.let_,.if_,.app,.pair,.fst,.snd,.cons,.case,.fold,.plus,.minus,.times,.over,.less,.equal,.floor,.rest,.root,.pow]
noncomputable def Fm.kt:Fm->List String
 |.fn=>["name","body"]|.rec_=>["name","name","body"]|.let_=>["name","part","body"]|.if_=>["part","part","part"]|.app=>["part","part"]|.pair=>["part","part"]|.fst=>["part"]|.snd=>["part"]|.cons=>["part","part"]
 |.case=>["part","part","name","name","body"]|.fold=>["part","part","part"]|.plus=>["part","part"]|.minus=>["part","part"]|.times=>["part","part"]|.over=>["part","part"]|.less=>["part","part"]|.equal=>["part","part"]
 |.floor=>["part","part"]|.rest=>["part","part"]|.root=>["part"]|.pow=>["part","power"]
noncomputable def c9(ad:Fm->Addr):List (Str×V):=[("fn",.ref (ad .fn)),("rec",.ref (ad .rec_)),("let",.ref (ad .let_)),("if",.ref (ad .if_)),("apply",.ref (ad .app)),("pair",.ref (ad .pair)),("fst",.ref (ad .fst)),("snd",.ref (ad .snd)),("cons",.ref (ad .cons)),("case",.ref (ad .case)),("fold",.ref (ad .fold)),
 ("+",.ref (ad .plus)),("-",.ref (ad .minus)),("*",.ref (ad .times)),("/",.ref (ad .over)),("<",.ref (ad .less)),("=",.ref (ad .equal)),("floor",.ref (ad .floor)),("rest",.ref (ad .rest)),("root",.ref (ad .root)),("^",.ref (ad .pow))]
theorem xp{ad:Fm->Addr}:((c9 ad).map (·.1)).Nodup:=by
 have e:(c9 ad).map (·.1)=eG.map λf=>ofString f.word:=rfl;rw[e]
 left
theorem pO(ad:Fm->Addr)(f:Fm):cR (c9 ad) (ofString f.word)=some (.ref (ad f)):=by
 cases f<;>rfl
noncomputable def d7(x:List Nat):Bool:=eG.any λf=>Vaunid.txt f.word==x
theorem pP{A:Type}(p:A->Bool):∀l:List A,(l.find? p).isSome=l.any p
 |[]=>rfl
 |x::r=>by
  rw[find?_cons,any_cons,<- pP p r];cases p x<;>rfl
theorem pQ(ad:Fm->Addr)(x:List Nat):(cR (c9 ad) (S x)).isSome=d7 x:=by
 unfold cR d7;rw[Option.isSome_map,pP];have e2:(c9 ad).any (λp=>decide (p.1=S x))=((c9 ad).map (·.1)).any λs=>decide (s=S x):=by rw[any_map];rfl
 rw[e2,show(c9 ad).map (·.1)=eG.map λf=>ofString f.word from rfl,any_map];congr 1
 funext f
 show decide (ofString f.word=S x)=_;rw[aI,Bool.eq_iff_iff];simp only[decide_eq_true_eq,beq_iff_eq,bB]
open Vaunid (Token txt word sign)
inductive SK where
 |n|p (body:Bool)|pw
 deriving DecidableEq
noncomputable def SK.w:SK->String
 |.n=>"name"|.p false=>"part"|.p true=>"body"|.pw=>"power"
def SK.k:SK->Kind
 |.n=>.name|.p _=>.part|.pw=>.power
noncomputable def Fm.sk:Fm->List SK
 |.fn=>[.n,.p true]|.rec_=>[.n,.n,.p true]|.let_=>[.n,.p false,.p true]|.if_=>[.p false,.p false,.p false]|.app=>[.p false,.p false]|.pair=>[.p false,.p false]|.fst=>[.p false]|.snd=>[.p false]|.cons=>[.p false,.p false]
 |.case=>[.p false,.p false,.n,.n,.p true]|.fold=>[.p false,.p false,.p false]|.plus=>[.p false,.p false]|.minus=>[.p false,.p false]|.times=>[.p false,.p false]|.over=>[.p false,.p false]|.less=>[.p false,.p false]|.equal=>[.p false,.p false]
 |.floor=>[.p false,.p false]|.rest=>[.p false,.p false]|.root=>[.p false]|.pow=>[.p false,.pw]
theorem kQ(f:Fm):f.sk.map SK.w=f.kt:=by cases f<;>rfl
theorem xq(f:Fm):f.sk.map SK.k=f.kinds:=by cases f<;>rfl
structure PF where
 form:List Nat
 ws:List (List Nat)
 b:Nat
 ts:List Tr
 ks:List SK
 c:String
 d:Nat
structure MS where
 fs:List PF
 l:Toks
 res:List Tr
noncomputable def sent(hl:Nat):Token:={tok:= .sign (txt "end"),start:=hl,halt_:=hl}
noncomputable def gB(t:Token)(x:Leaf):Tr:= .mk (txt (dB x)) (iX x) t.start t.halt_ []
noncomputable def fu:Vaunid.Tok->List Nat
 |.word w=>w
 |_=>[]
def eI:Vaunid.Tok->List Nat
 |.num v _=>shownLit v
 |_=>[]
noncomputable def PF.done(pf:PF)(e:Nat):Tr:= .mk pf.form pf.ws pf.b e pf.ts
noncomputable def ee(b d:Nat)(l:Toks):PF:={form:=txt (aK l).1.word,ws:=[],b:=b,ts:=[],ks:=(aK l).1.sk,c:=")",d:=d}
noncomputable def bN:MS->Option (Res MS)
 |⟨pf::fs,t::l,res⟩=>match pf.ks with
  |[]=>some (if kindOf t.tok=txt pf.c then(match fs with
   |[]=>.ok ⟨[],l,[pf.done t.halt_]⟩
   |g::fs=>.ok ⟨{g with ts:=g.ts++[pf.done t.halt_]}::fs,l,res⟩)else fault 6 t.start)
  |.p _::ks =>
   if pf.d=40 then some (fault 8 t.start)
   else if kindOf t.tok=txt "("then(if l.isEmpty=true then none else some (.ok ⟨ee t.start (pf.d+1) l::{pf with ks:=ks}::fs,(aK l).2,res⟩))
   else match Vaunid.leafOf t.tok with
    |some x=>some (.ok ⟨{pf with ks:=ks,ts:=pf.ts++[gB t x]}::fs,l,res⟩)
    |none=>some (fault 6 t.start)
  |.n::ks=>some (if kindOf t.tok=txt "name"then .ok ⟨{pf with ks:=ks,ws:=pf.ws++[fu t.tok]}::fs,l,res⟩else fault 6 t.start)
  |.pw::ks=>some (if kindOf t.tok=txt "digit"then .ok ⟨{pf with ks:=ks,ws:=pf.ws++[eI t.tok]}::fs,l,res⟩else fault 6 t.start)
 |_=>none
inductive Run:MS->Res Tr->Nat->Prop
 |done {l:Toks}{tr:Tr}:Run ⟨[],l,[tr]⟩ (.ok tr) 0
 |bad {s:MS}{e:Vaunid.Fault}:bN s=some (.error e)->Run s (.error e) 1
 |go {s s':MS}{R:Res Tr}{n:Nat}:bN s=some (.ok s')->Run s' R n->Run s R (n+1)
def Goes(s s':MS):Prop:=∀R n,Run s' R n->∃m,Run s R m
theorem Goes.refl(s:MS):Goes s s:=λR n h=>⟨n,h⟩
theorem Goes.trans{a b c:MS}(h:Goes a b)(g:Goes b c):Goes a c:=λR n r=>let⟨m,q⟩:=g R n r;h R m q
theorem Goes.one{s s':MS}(h:bN s=some (.ok s')):Goes s s':=λR n r=>⟨n+1,.go h r⟩
def Dl(c:Nat):Prop:=c≠32/\c≠41
def NoD(w:List Nat):Prop:=∀c∈w,Dl c
def bJ:Vaunid.Tok->Prop
 |.word w=>Vaunid.isWord w=true/\w.length<=12
 |.num v d=>(∀m,v.measure=some m->m≠[]/\m.length<=10000)/\v.top.natAbs<10 ^ 12/\v.low<10 ^ 12/\(∀n,d=some n->v=⟨n,1,none⟩)/\∀m,v.measure=some m->NoD m
 |.sign s=>s∈coreSigns\/s=txt "end"
theorem iY{k:Vaunid.Tok}(g:bJ k):kindOf k=txt "name"↔∃w,k=.word w/\isName w=true:=by
 cases k with
 |word w =>
  simp only[kindOf];by_cases h:isTaken w=true
  ·rw[if_pos h]
   constructor
   ·intro e
    subst e;exact absurd h (by left)
   rintro⟨w',e,q⟩
   cases e;unfold isName at q;rw[h]at q;simp at q
  rw[if_neg h];refine⟨λ_=>⟨w,rfl,?_⟩,λ_=>rfl⟩;unfold isName;rw[g.1,Bool.eq_false_iff.mpr h];simp only[MOSTSIGNS,Bool.not_false,Bool.and_true,Bool.true_and];exact decide_eq_true g.2
 |num v d =>
  constructor
  ·intro e
   simp only[kindOf]at e;split at e
   ·exact absurd e (by left)
   exact absurd e (by left)
  rintro⟨w,e,_⟩;cases e
 |sign s =>
 constructor
 ·intro e
  have e:s=txt "name":=e;subst e;rcases g with q|q
  ·exact absurd q (by left)
  exact absurd q (by left)
 rintro⟨w,e,_⟩;cases e
theorem kR{k:Vaunid.Tok}(g:bJ k):kindOf k=txt "digit"↔∃v n,k=.num v (some n):=by
 cases k with
 |word w =>
  simp only[kindOf]
  constructor
  ·intro e
   split at e
   ·rename_i h
    subst e;exact absurd h (by left)
   exact absurd e (by left)
  rintro⟨v,n,e⟩;cases e
 |num v d =>
  simp only[kindOf];cases d with
  |none=>exact⟨λe=>absurd e (by left),λ⟨_,_,e⟩=>by cases e⟩
  |some n=>exact⟨λ_=>⟨v,n,rfl⟩,λ_=>rfl⟩
 |sign s =>
 constructor
 ·intro e
  have e:s=txt "digit":=e;subst e;rcases g with q|q
  ·exact absurd q (by left)
  exact absurd q (by left)
 rintro⟨v,n,e⟩;cases e
theorem kS{k:Vaunid.Tok}(g:bJ k){x:String}(h:isTaken (txt x)=false)(h1:¬txt "name"=txt x)(h2:¬txt "digit"=txt x)(h3:¬txt "number"=txt x):kindOf k=txt x↔k=sign x:=by
 cases k with
 |word w =>
  simp only[kindOf]
  constructor
  ·intro e
   split at e
   ·rename_i q
    subst e;rw[h]at q;cases q
   exact absurd e h1
  intro e;cases e
 |num v d =>
  simp only[kindOf]
  constructor
  ·intro e
   split at e
   ·exact absurd e h2
   exact absurd e h3
  intro e;cases e
 |sign s=>exact⟨λe=>by show Vaunid.Tok.sign s=Vaunid.Tok.sign _;rw[show s=txt x from e],λe=>by cases e;rfl⟩
theorem kT{k:Vaunid.Tok}(g:bJ k):kindOf k=txt "("↔k=sign "(":=kS g (by left) (by left) (by left) (by left)
theorem xr{k:Vaunid.Tok}(g:bJ k):kindOf k=txt ")"↔k=sign ")":=kS g (by left) (by left) (by left) (by left)
theorem xt{k:Vaunid.Tok}(g:bJ k):kindOf k=txt "end"↔k=sign "end":=kS g (by left) (by left) (by left) (by left)
noncomputable def Fm.tok:Fm->Vaunid.Tok
 |.plus=>sign "+"|.minus=>sign "-"|.times=>sign "*"|.over=>sign "/"|.less=>sign "<"|.equal=>sign "="|.pow=>sign "^"
 |f=>Vaunid.word f.word
theorem bL{α:Type}(F:α->Fm){k t:Vaunid.Tok}{a o:α}{r:Option α}(h:(if k=t then some a else r)=some o)(e:t=(F a).tok)(n:r=some o->k=(F o).tok):k=(F o).tok:=by
 by_cases q:k=t
 ·rw[if_pos q]at h;cases h;exact q.trans e
 rw[if_neg q]at h;exact n h
theorem xu{k:Vaunid.Tok}{f:Fm}(h:fmOf k=some f):k=f.tok:=by
 unfold fmOf at h;refine bL id h rfl λh=>bL id h rfl λh=>bL id h rfl λh=>bL id h rfl λh=>bL id h rfl λh=>?_;cases e1:formOne k with
 |some o =>
  rw[e1]at h;cases h;revert e1;exact λh=>bL fq h rfl λh=>bL fq h rfl λh=>bL fq h rfl λh=>by cases h
 |none =>
 rw[e1]at h;cases e2:formTwo k with
 |some o =>
  rw[e2]at h;cases h;revert e2;exact λh=>bL cw h rfl λh=>bL cw h rfl λh=>bL cw h rfl λh=>bL cw h rfl λh=>bL cw h rfl λh=>bL cw h rfl λh=>bL cw h rfl λh=>bL cw h rfl λh=>bL cw h rfl λh=>bL cw h rfl λh=>by cases h
 |none =>
 rw[e2]at h;cases e3:formThree k with
 |some o =>
  rw[e3]at h;cases h;revert e3;exact λh=>bL (λo=>match o with|.cond=>.if_|.fold=>.fold) h rfl λh=>bL (λo=>match o with|.cond=>.if_|.fold=>.fold) h rfl λh=>by cases h
 |none=>rw[e3]at h;cases h
theorem pR{k:Vaunid.Tok}{f:Fm}(h:fmOf k=some f):kindOf k=txt f.word:=by
 have e:=xu h;rw[e];rw[e]at h;cases f<;>first|(left)|exact absurd h (by left)
theorem xw(x:List Nat):d7 x=true↔∃f∈eG,txt f.word=x:=by
 unfold d7;rw[any_eq_true];simp only[beq_iff_eq]
theorem xx:∀f∈eG,isTaken (txt f.word)=true->fmOf (word f.word)=some f:=by
 intro f hf;cases f<;>first|(intro _;left)|(intro h;exact absurd h (by left))
theorem kU:∀f∈eG,¬txt f.word=txt "name"/\¬txt f.word=txt "digit"/\¬txt f.word=txt "number":=by
 intro f hf;cases f<;>left
theorem xy:∀f∈eG,(txt f.word∈coreSigns\/txt f.word=txt "end")->fmOf (sign f.word)=some f:=by
 intro f hf;cases f<;>first|(intro _;left)|(intro h;exact absurd h (by left))
theorem xA{k:Vaunid.Tok}(g:bJ k):d7 (kindOf k)=(fmOf k).isSome:=by
 rw[Bool.eq_iff_iff,xw]
 constructor
 ·rintro⟨f,hf,e⟩
  cases k with
  |word w =>
   simp only[kindOf]at e;split at e
   ·rename_i q
    rw[<- e]at q;have:=xx f hf q;have e2:Vaunid.Tok.word w=word f.word:=by show _=Vaunid.Tok.word _;rw[e]
    rw[e2,this];rfl
   exact absurd e (kU f hf).1
  |num v d =>
   simp only[kindOf]at e;split at e
   ·exact absurd e (kU f hf).2.1
   exact absurd e (kU f hf).2.2
  |sign s =>
  have e:txt f.word=s:=e;have g:s∈coreSigns\/s=txt "end":=g;rw[<- e]at g;have:=xy f hf g;have e2:Vaunid.Tok.sign s=sign f.word:=by show _=Vaunid.Tok.sign _;rw[e]
  rw[e2,this];rfl
 intro h;cases q:fmOf k with
 |none=>rw[q]at h;cases h
 |some f=>exact⟨f,by cases f<;>decide,(pR q).symm⟩
mutual
noncomputable def dR:Tr->Nat
 |.mk _ _ _ _ ps=>1+dC ps
noncomputable def dC:List Tr->Nat
 |[]=>0
 |t::r=>max (dR t) (dC r)
end
def iZ:List Item->List Term
 |[]=>[]
 |.p t _::r=>t::iZ r
 |_::r=>iZ r
noncomputable def eJ:List Item->List (List Nat)
 |[]=>[]
 |.w x::r=>x::eJ r
 |.n m::r=>decimalInt m::eJ r
 |.p _ _::r=>eJ r
inductive ItemsOk:List Kind->List Item->Prop
 |nil:ItemsOk [] []
 |name {x:List Nat}{ks:List Kind}{is:List Item}:ItemsOk ks is->ItemsOk (.name::ks) (.w x::is)
 |part {t:Term}{l:List Nat}{ks:List Kind}{is:List Item}:ItemsOk ks is->ItemsOk (.part::ks) (.p t l::is)
 |power {m:Int}{ks:List Kind}{is:List Item}:ItemsOk ks is->ItemsOk (.power::ks) (.n m::is)
theorem fw{ks:List Kind}{is:List Item}(h:ItemsOk (.name::ks) is):∃x r,is=.w x::r/\ItemsOk ks r:=by
 cases h with
 |name h=>exact⟨_,_,rfl,h⟩
theorem aV{ks:List Kind}{is:List Item}(h:ItemsOk (.part::ks) is):∃t l r,is=.p t l::r/\ItemsOk ks r:=by
 cases h with
 |part h=>exact⟨_,_,_,rfl,h⟩
theorem xB{ks:List Kind}{is:List Item}(h:ItemsOk (.power::ks) is):∃m r,is=.n m::r/\ItemsOk ks r:=by
 cases h with
 |power h=>exact⟨_,_,rfl,h⟩
theorem bK{is:List Item}(h:ItemsOk [] is):is=[]:=by
 cases h;rfl
theorem xC(f:Fm)(is:List Item)(h:ItemsOk f.kinds is):a9 (f.mk is)=txt f.word/\aM (f.mk is)=eJ is/\aX (f.mk is)=iZ is:=by
 cases f with
 |fn=>obtain⟨x0,i0,rfl,g0⟩:=fw h;obtain⟨t1,l1,i1,rfl,g1⟩:=aV g0;cases bK g1;exact⟨rfl,rfl,rfl⟩
 |rec_=>obtain⟨x0,i0,rfl,g0⟩:=fw h;obtain⟨x1,i1,rfl,g1⟩:=fw g0;obtain⟨t2,l2,i2,rfl,g2⟩:=aV g1;cases bK g2;exact⟨rfl,rfl,rfl⟩
 |let_=>obtain⟨x0,i0,rfl,g0⟩:=fw h;obtain⟨t1,l1,i1,rfl,g1⟩:=aV g0;obtain⟨t2,l2,i2,rfl,g2⟩:=aV g1;cases bK g2;exact⟨rfl,rfl,rfl⟩
 |if_=>obtain⟨t0,l0,i0,rfl,g0⟩:=aV h;obtain⟨t1,l1,i1,rfl,g1⟩:=aV g0;obtain⟨t2,l2,i2,rfl,g2⟩:=aV g1;cases bK g2;exact⟨rfl,rfl,rfl⟩
 |app=>obtain⟨t0,l0,i0,rfl,g0⟩:=aV h;obtain⟨t1,l1,i1,rfl,g1⟩:=aV g0;cases bK g1;exact⟨rfl,rfl,rfl⟩
 |pair=>obtain⟨t0,l0,i0,rfl,g0⟩:=aV h;obtain⟨t1,l1,i1,rfl,g1⟩:=aV g0;cases bK g1;exact⟨rfl,rfl,rfl⟩
 |fst=>obtain⟨t0,l0,i0,rfl,g0⟩:=aV h;cases bK g0;exact⟨rfl,rfl,rfl⟩
 |snd=>obtain⟨t0,l0,i0,rfl,g0⟩:=aV h;cases bK g0;exact⟨rfl,rfl,rfl⟩
 |cons=>obtain⟨t0,l0,i0,rfl,g0⟩:=aV h;obtain⟨t1,l1,i1,rfl,g1⟩:=aV g0;cases bK g1;exact⟨rfl,rfl,rfl⟩
 |case=>obtain⟨t0,l0,i0,rfl,g0⟩:=aV h;obtain⟨t1,l1,i1,rfl,g1⟩:=aV g0;obtain⟨x2,i2,rfl,g2⟩:=fw g1;obtain⟨x3,i3,rfl,g3⟩:=fw g2;obtain⟨t4,l4,i4,rfl,g4⟩:=aV g3;cases bK g4;exact⟨rfl,rfl,rfl⟩
 |fold=>obtain⟨t0,l0,i0,rfl,g0⟩:=aV h;obtain⟨t1,l1,i1,rfl,g1⟩:=aV g0;obtain⟨t2,l2,i2,rfl,g2⟩:=aV g1;cases bK g2;exact⟨rfl,rfl,rfl⟩
 |plus=>obtain⟨t0,l0,i0,rfl,g0⟩:=aV h;obtain⟨t1,l1,i1,rfl,g1⟩:=aV g0;cases bK g1;exact⟨rfl,rfl,rfl⟩
 |minus=>obtain⟨t0,l0,i0,rfl,g0⟩:=aV h;obtain⟨t1,l1,i1,rfl,g1⟩:=aV g0;cases bK g1;exact⟨rfl,rfl,rfl⟩
 |times=>obtain⟨t0,l0,i0,rfl,g0⟩:=aV h;obtain⟨t1,l1,i1,rfl,g1⟩:=aV g0;cases bK g1;exact⟨rfl,rfl,rfl⟩
 |over=>obtain⟨t0,l0,i0,rfl,g0⟩:=aV h;obtain⟨t1,l1,i1,rfl,g1⟩:=aV g0;cases bK g1;exact⟨rfl,rfl,rfl⟩
 |less=>obtain⟨t0,l0,i0,rfl,g0⟩:=aV h;obtain⟨t1,l1,i1,rfl,g1⟩:=aV g0;cases bK g1;exact⟨rfl,rfl,rfl⟩
 |equal=>obtain⟨t0,l0,i0,rfl,g0⟩:=aV h;obtain⟨t1,l1,i1,rfl,g1⟩:=aV g0;cases bK g1;exact⟨rfl,rfl,rfl⟩
 |floor=>obtain⟨t0,l0,i0,rfl,g0⟩:=aV h;obtain⟨t1,l1,i1,rfl,g1⟩:=aV g0;cases bK g1;exact⟨rfl,rfl,rfl⟩
 |rest=>obtain⟨t0,l0,i0,rfl,g0⟩:=aV h;obtain⟨t1,l1,i1,rfl,g1⟩:=aV g0;cases bK g1;exact⟨rfl,rfl,rfl⟩
 |root=>obtain⟨t0,l0,i0,rfl,g0⟩:=aV h;cases bK g0;exact⟨rfl,rfl,rfl⟩
 |pow=>obtain⟨t0,l0,i0,rfl,g0⟩:=aV h;obtain⟨m,i1,rfl,g1⟩:=xB g0;cases bK g1;exact⟨rfl,rfl,rfl⟩
theorem xD(n:Int):shownLit ⟨n,1,none⟩=decimalInt n:=by
 unfold shownLit;simp
theorem xE{hl:Nat}{t:Token}{l:Toks}(g:bJ t.tok):wantName hl (t::l)=if kindOf t.tok=txt "name"then .ok (fu t.tok,l)else fault 6 t.start:=by
 have q:=iY g;obtain⟨k,s,h⟩:=t;cases k with
 |word w =>
  by_cases e:kindOf (.word w)=txt "name"
  ·obtain⟨w',e1,e2⟩:=q.mp e
   cases e1;rw[if_pos e];show(if isName w=true then _ else _)=_;rw[if_pos e2];rfl
  have:¬isName w=true:=λz=>e (q.mpr ⟨w,rfl,z⟩);rw[if_neg e];show(if isName w=true then _ else _)=_;rw[if_neg this]
 |num v d =>
  rw[if_neg λe=>by obtain⟨_,z,_⟩:=q.mp e;cases z];rfl
 |sign x =>
 rw[if_neg λe=>by obtain⟨_,z,_⟩:=q.mp e;cases z];rfl
theorem xF{hl:Nat}{t:Token}{l:Toks}(g:bJ t.tok)(e:kindOf t.tok=txt "digit"):∃n,wantDigit hl (t::l)=.ok (n,l)/\eI t.tok=decimalInt n:=by
 obtain⟨v,n,z⟩:=(kR g).mp e;obtain⟨k,s,h⟩:=t;dsimp only at z g;subst z;have:=g.2.2.2.1 n rfl;subst this;exact⟨n,rfl,xD n⟩
theorem xG{hl:Nat}{t:Token}{l:Toks}(g:bJ t.tok)(e:¬kindOf t.tok=txt "digit"):wantDigit hl (t::l)=fault 6 t.start:=by
 have q:=kR g;obtain⟨k,s,h⟩:=t;cases k with
 |word w=>rfl
 |num v d =>
  cases d with
  |none=>rfl
  |some n=>exact absurd (q.mpr ⟨v,n,rfl⟩) e
 |sign x=>rfl
theorem xH{hl:Nat}{x:String}{t:Token}{l:Toks}(h:kindOf t.tok=txt x↔t.tok=sign x):want hl (sign x) (t::l)=if kindOf t.tok=txt x then .ok l else fault 6 t.start:=by
 show(if t.tok=sign x then _ else _)=_;by_cases e:t.tok=sign x
 ·rw[if_pos e,if_pos (h.mpr e)]
 rw[if_neg e,if_neg λz=>e (h.mp z)]
theorem xI(hl:Nat):bJ (sent hl).tok:= .inr rfl
def ba(l:Toks):Prop:=∀k∈l,bJ k.tok
theorem ba.suf{p r:Toks}(h:ba (p++r)):ba r:=λk hk=>h k (mem_append_right _ hk)
theorem ba.sent{l:Toks}(h:ba l)(hl:Nat):ba (l++[sent hl]):=λk hk=>by
 rcases mem_append.mp hk with q|q
 ·exact h k q
 rw[mem_singleton.mp q];exact xI hl
def pS(hl d:Nat)(ts:Toks):Prop:=∀(form:List Nat) (ws:List (List Nat)) (b:Nat) (tr:List Tr) (bb:Bool) (ks:List SK) (c:String) (fs:List PF) (res:List Tr),match bC hl d ts with
 |.error e=>∃n,Run ⟨⟨form,ws,b,tr,.p bb::ks,c,40 - d⟩::fs,ts++[sent hl],res⟩ (.error e) n
 |.ok (a,pl,r)=>∃t,Rep a t/\c8 t=pl/\dR t<=d/\pl.length+r.length<=ts.length/\(∃pre,ts=pre++r) /\
  Goes ⟨⟨form,ws,b,tr,.p bb::ks,c,40 - d⟩::fs,ts++[sent hl],res⟩ ⟨⟨form,ws,b,tr++[t],ks,c,40 - d⟩::fs,r++[sent hl],res⟩
def xJ(hl d:Nat)(sks:List SK)(ts:Toks):Prop:=∀(form:List Nat) (ws:List (List Nat)) (b:Nat) (tr:List Tr) (c:String) (fs:List PF) (res:List Tr),match aU hl (bC hl d) (sks.map SK.k) ts with
 |.error e=>∃n,Run ⟨⟨form,ws,b,tr,sks,c,40 - d⟩::fs,ts++[sent hl],res⟩ (.error e) n
 |.ok (is,r)=>∃trs,Reps (iZ is) trs/\d6 trs=dA is/\dC trs<=d/\(dA is).length+r.length<=ts.length/\(∃pre,ts=pre++r)/\ItemsOk (sks.map SK.k) is /\
  Goes ⟨⟨form,ws,b,tr,sks,c,40 - d⟩::fs,ts++[sent hl],res⟩ ⟨⟨form,ws++eJ is,b,tr++trs,[],c,40 - d⟩::fs,r++[sent hl],res⟩
theorem i8{hl d N:Nat}(IH:∀ts,ts.length<=N->ba ts->pS hl d ts):∀(sks:List SK) (ts:Toks),ts.length<=N->ba ts->xJ hl d sks ts
 |[],ts,hN,hg=>λform ws b tr c fs res=>by
  refine⟨[],.nil,rfl,zero_le _,by show 0+_<=_;omega,⟨[],rfl⟩,.nil,?_⟩;show Goes _ ⟨⟨form,ws++[],b,tr++[],[],c,40 - d⟩::fs,ts++[sent hl],res⟩;rw[append_nil,append_nil];exact Goes.refl _
 |.n::sks,[],hN,hg=>λform ws b tr c fs res=>⟨1,.bad rfl⟩
 |.n::sks,t::l,hN,hg=>λform ws b tr c fs res=>by
  have gt:=hg t (mem_cons_self ..);have gl:ba l:=λk hk=>hg k (mem_cons_of_mem _ hk);rw[length_cons]at hN;have ih:=i8 IH sks l (by omega) gl;show match aU hl (bC hl d) (.name::sks.map SK.k) (t::l)with|.error e=>_|.ok (is,r)=>_
  unfold aU;rw[xE gt];by_cases e:kindOf t.tok=txt "name"
  ·rw[if_pos e]
   dsimp only;have g1:Goes ⟨⟨form,ws,b,tr,.n::sks,c,40 - d⟩::fs,(t::l)++[sent hl],res⟩ ⟨⟨form,ws++[fu t.tok],b,tr,sks,c,40 - d⟩::fs,l++[sent hl],res⟩:=Goes.one (by
    show some (if kindOf t.tok=txt "name"then _ else _)=_;rw[if_pos e];rfl)
   have ih:=ih form (ws++[fu t.tok]) b tr c fs res;cases h2:aU hl (bC hl d) (sks.map SK.k) l with
   |error e2 =>
    rw[h2]at ih;obtain⟨n,hn⟩:=ih;exact g1 _ _ hn
   |ok v =>
   obtain⟨is,r⟩:=v;rw[h2]at ih;refine x_10 ih λtrs zy=>x_06 zy λi1 i2 i3 i4 zn5 i6 i7=>?_;obtain⟨pre,i5⟩:=zn5;refine⟨trs,i1,i2,i3,Nat.le_trans i4 (le_succ _),⟨t::pre,by rw[i5];rfl⟩,.name i6,g1.trans ?_⟩;rw[append_assoc]at i7;exact i7
  rw[if_neg e];exact⟨1,.bad (by
   show some (if kindOf t.tok=txt "name"then _ else _)=_;rw[if_neg e];rfl)⟩
 |.pw::sks,[],hN,hg=>λform ws b tr c fs res=>⟨1,.bad rfl⟩
 |.pw::sks,t::l,hN,hg=>λform ws b tr c fs res=>by
  have gt:=hg t (mem_cons_self ..);have gl:ba l:=λk hk=>hg k (mem_cons_of_mem _ hk);rw[length_cons]at hN;have ih:=i8 IH sks l (by omega) gl;show match aU hl (bC hl d) (.power::sks.map SK.k) (t::l)with|.error e=>_|.ok (is,r)=>_
  unfold aU;by_cases e:kindOf t.tok=txt "digit"
  ·obtain⟨m,e1,e2⟩:=xF (hl:=hl) (l:=l) gt e
   rw[e1];dsimp only;have g1:Goes ⟨⟨form,ws,b,tr,.pw::sks,c,40 - d⟩::fs,(t::l)++[sent hl],res⟩ ⟨⟨form,ws++[eI t.tok],b,tr,sks,c,40 - d⟩::fs,l++[sent hl],res⟩:=Goes.one (by
    show some (if kindOf t.tok=txt "digit"then _ else _)=_;rw[if_pos e];rfl)
   have ih:=ih form (ws++[eI t.tok]) b tr c fs res;cases h2:aU hl (bC hl d) (sks.map SK.k) l with
   |error e2 =>
    rw[h2]at ih;obtain⟨n,hn⟩:=ih;exact g1 _ _ hn
   |ok v =>
   obtain⟨is,r⟩:=v;rw[h2]at ih;refine x_10 ih λtrs zy=>x_06 zy λi1 i2 i3 i4 zn5 i6 i7=>?_;obtain⟨pre,i5⟩:=zn5;refine⟨trs,i1,i2,i3,Nat.le_trans i4 (le_succ _),⟨t::pre,by rw[i5];rfl⟩,.power i6,g1.trans ?_⟩;rw[append_assoc,e2]at i7;rw[e2];exact i7
  rw[xG gt e];exact⟨1,.bad (by
   show some (if kindOf t.tok=txt "digit"then _ else _)=_;rw[if_neg e];rfl)⟩
 |.p bb::sks,ts,hN,hg=>λform ws b tr c fs res=>by
  have it:=IH ts hN hg form ws b tr bb sks c fs res;show match aU hl (bC hl d) (.part::sks.map SK.k) ts with|.error e=>_|.ok (is,r)=>_
  unfold aU;cases h1:bC hl d ts with
  |error e=>rw[h1]at it;exact it
  |ok v =>
  obtain⟨a,pl,r⟩:=v;rw[h1]at it;refine x_10 it λt zy=>x_05 zy λt1 t2 t3 t4 zn5 t6=>?_;obtain⟨pre,t5⟩:=zn5;dsimp only;have hr:r.length<=N:=by omega
  have gr:ba r:=by rw[t5]at hg;exact hg.suf
  have ih:=i8 IH sks r hr gr form ws b (tr++[t]) c fs res;cases h2:aU hl (bC hl d) (sks.map SK.k) r with
  |error e2 =>
   rw[h2]at ih;obtain⟨n,hn⟩:=ih;exact t6 _ _ hn
  |ok v =>
  obtain⟨is,r2⟩:=v;rw[h2]at ih;refine x_10 ih λtrs zy=>x_06 zy λi1 i2 i3 i4 zn5 i6 i7=>?_;obtain⟨pre2,i5⟩:=zn5;refine⟨t::trs,.cons t1 i1,?_,Nat.max_le.mpr ⟨t3,i3⟩,?_,⟨pre++pre2,by rw[t5,i5,append_assoc]⟩,.part i6,t6.trans ?_⟩
  ·show c8 t++d6 trs=pl++dA is
   rw[t2,i2]
  ·show(pl++dA is).length+_<=_
   rw[length_append];omega
  rw[append_assoc]at i7;exact i7
theorem kW(hl:Nat):kindOf (sent hl).tok=txt "end":=rfl
theorem pT(hl:Nat)(r:Toks):aK (r++[sent hl])=((aK r).1,(aK r).2++[sent hl]):=by
 cases r with
 |nil=>rfl
 |cons k r =>
 show aK (k::(r++[sent hl]))=_;unfold aK;dsimp only;cases fmOf k.tok<;>rfl
theorem kX(r:Toks):∃pre,r=pre++(aK r).2:=by
 cases r with
 |nil=>exact⟨[],rfl⟩
 |cons k r =>
 unfold aK;dsimp only;cases fmOf k.tok with
 |none=>exact⟨[],rfl⟩
 |some f=>exact⟨[k],rfl⟩
theorem xK(hl:Nat)(ts:Toks):∃t l,ts++[sent hl]=t::l/\t.start=Vaunid.placeOf hl ts:=by
 cases ts with
 |nil=>exact⟨_,_,rfl,rfl⟩
 |cons k r=>exact⟨_,_,rfl,rfl⟩
theorem pU(hl:Nat):∀(N:Nat) (ts:Toks) (d:Nat),ts.length<=N->d<=40->ba ts->pS hl d ts
 |N,ts,0,hN,hd,hg=>λform ws b tr bb ks c fs res=>by
  rw[wX];refine x_21 (xK hl ts) λt l e1 e2=>?_;exact⟨1,.bad (by rw[e1,<- e2];rfl)⟩
 |N,[],d+1,hN,hd,hg=>λform ws b tr bb ks c fs res=>by
  rw[wY];refine⟨1,.bad ?_⟩;show(if 40 - (d+1)=40 then _ else if kindOf (sent hl).tok=txt "("then _ else some (fault 6 hl))=_;rw[if_neg (by omega),if_neg (by rw[kW];left)];rfl
 |0,k::r,d+1,hN,hd,hg=>by simp at hN
 |N+1,k::r,d+1,hN,hd,hg=>λform ws b tr bb ks c fs res=>by
  have gk:=hg k (mem_cons_self ..);have gr:ba r:=λk hk=>hg k (mem_cons_of_mem _ hk);rw[length_cons]at hN;by_cases hp:k.tok=sign "("
  ·rw[w6 hp]
   obtain⟨pre,epre⟩:=kX r;have gb:ba (aK r).2:=by rw[epre]at gr;exact gr.suf
   have lb:=kL r;have st:=i8 (λts h g=>pU hl N ts d h (by omega) g) (aK r).1.sk (aK r).2 (by omega) gb (txt (aK r).1.word) [] k.start [] ")" (⟨form,ws,b,tr,ks,c,40 - (d+1)⟩::fs) res;have g1:Goes ⟨⟨form,ws,b,tr,.p bb::ks,c,40 - (d+1)⟩::fs,k::r++[sent hl],res⟩ ⟨⟨txt (aK r).1.word,[],k.start,[],(aK r).1.sk,")",40 - d⟩::⟨form,ws,b,tr,ks,c,40 - (d+1)⟩::fs,(aK r).2++[sent hl],res⟩:=Goes.one (by
    show(if 40 - (d+1)=40 then _ else if kindOf k.tok=txt "("then(if(r++[sent hl]).isEmpty=true then none else some (Except.ok ⟨ee k.start (40 - (d+1)+1) (r++[sent hl])::_::fs,(aK (r++[sent hl])).2,res⟩:Res MS))else _)=_;rw[if_neg (by omega),if_pos ((kT gk).mpr hp),if_neg (by cases r<;>simp),pT,show 40 - (d+1)+1=40 - d by omega]
    unfold ee;rw[pT])
   unfold c7;rw[xq]at st;cases h1:aU hl (bC hl d) (aK r).1.kinds (aK r).2 with
   |error e =>
    rw[h1]at st;obtain⟨n,hn⟩:=st;exact g1 _ _ hn
   |ok v =>
   obtain⟨is,q⟩:=v;rw[h1]at st;refine x_10 st λtrs zy=>x_06 zy λi1 i2 i3 i4 zn5 i6 i7=>?_;obtain⟨pre2,i5⟩:=zn5;rw[nil_append,nil_append]at i7;have g2:=g1.trans i7;have gq:ba q:=by rw[i5]at gb;exact gb.suf
   obtain⟨m1,m2,m3⟩:=xC _ _ i6;unfold iP;dsimp only;cases q with
   |nil =>
    obtain⟨m,hm⟩:=g2 (.error ⟨6,hl⟩) 1 (.bad (by
     show some (if kindOf (sent hl).tok=txt ")"then _ else fault 6 hl)=_;rw[if_neg (by rw[kW];left)];rfl))
    exact⟨m,hm⟩
   |cons x q =>
   have gx:=gq x (mem_cons_self ..);rw[xH (xr gx)];by_cases hx:kindOf x.tok=txt ")"
   ·rw[if_pos hx]
    dsimp only;have g3:=g2.trans (Goes.one (s':=⟨⟨form,ws,b,tr++[.mk (txt (aK r).1.word) (eJ is) k.start x.halt_ trs],ks,c,40 - (d+1)⟩::fs,q++[sent hl],res⟩) (by
     show some (if kindOf x.tok=txt ")"then _ else _)=_;rw[if_pos hx];rfl))
    refine⟨.mk (txt (aK r).1.word) (eJ is) k.start x.halt_ trs,?_,?_,?_,?_,?_,g3⟩
    ·rw[<- m1,<- m2]
     rw[<- m3]at i1;exact .mk i1
    ·show k.start::d6 trs=_
     rw[i2]
    ·show 1+dC trs<=d+1
     omega
    ·rw[length_cons]at i4 ⊢
     rw[length_cons];omega
    exact⟨k::(pre++(pre2++[x])),by
     rw[cons_append,append_assoc,append_assoc];show _=k::(pre++(pre2++x::q));rw[<- i5,<- epre]⟩
   rw[if_neg hx];obtain⟨m,hm⟩:=g2 (.error ⟨6,x.start⟩) 1 (.bad (by
    show some (if kindOf x.tok=txt ")"then _ else fault 6 x.start)=_;rw[if_neg hx];rfl))
   exact⟨m,hm⟩
  rw[wZ hp];cases h1:Vaunid.leafOf k.tok with
  |none =>
   refine⟨1,.bad ?_⟩;show(if 40 - (d+1)=40 then _ else if kindOf k.tok=txt "("then _ else match Vaunid.leafOf k.tok with|some x=>_|none=>some (fault 6 k.start))=_
   rw[if_neg (by omega),if_neg (λz=>hp ((kT gk).mp z)),h1];rfl
  |some x =>
  refine⟨gB k x,?_,rfl,?_,?_,⟨[k],rfl⟩,Goes.one ?_⟩
  ·exact Rep.mk (t:= .leaf x) .nil
  ·show 1+0<=d+1
   omega
  ·show 1+r.length<=r.length+1
   omega
  show(if 40 - (d+1)=40 then _ else if kindOf k.tok=txt "("then _ else match Vaunid.leafOf k.tok with|some x=>_|none=>some (fault 6 k.start))=_
  rw[if_neg (by omega),if_neg (λz=>hp ((kT gk).mp z)),h1];rfl
noncomputable def fz(hl:Nat)(ts:Toks):MS:=⟨[⟨txt "whole",[],0,[],[.p false],"end",0⟩],ts++[sent hl],[]⟩
theorem xM(hl:Nat)(ts:Toks)(hg:ba ts)(h0:∀k∈ts,¬k.tok=sign "end"):match bC hl 40 ts with
  |.error e=>∃n,Run (fz hl ts) (.error e) n
  |.ok (a,pl,r)=>match r with
   |k::_=>∃n,Run (fz hl ts) (.error ⟨6,k.start⟩) n
   |[]=>∃t n e,Rep a t/\c8 t=pl/\dR t<=40/\pl.length<=ts.length/\Run (fz hl ts) (.ok (.mk (txt "whole") [] 0 e [t])) n:=by
 have h:=pU hl ts.length ts 40 (Nat.le_refl _) (Nat.le_refl _) hg (txt "whole") [] 0 [] false [] "end" [] [];cases h1:bC hl 40 ts with
 |error e=>rw[h1]at h;exact h
 |ok v =>
 obtain⟨a,pl,r⟩:=v;rw[h1]at h;refine x_10 h λt zy=>x_05 zy λt1 t2 t3 t4 zn5 t6=>?_;obtain⟨pre,t5⟩:=zn5;cases r with
 |nil =>
  obtain⟨m,hm⟩:=t6 (.ok (.mk (txt "whole") [] 0 hl [t])) 1 (.go (s':=⟨[],[],[.mk (txt "whole") [] 0 hl [t]]⟩) (by
   show some (if kindOf (sent hl).tok=txt "end"then _ else _)=_;rw[if_pos (kW hl)];rfl) .done)
  exact⟨t,m,hl,t1,t2,t3,by have:([]:Toks).length=0:=rfl;omega,hm⟩
 |cons k q =>
 have gk:bJ k.tok:=hg k (by rw[t5];exact mem_append_right _ (mem_cons_self ..));have hk:¬kindOf k.tok=txt "end":=λz=>h0 k (by rw[t5];exact mem_append_right _ (mem_cons_self ..)) ((xt gk).mp z);obtain⟨m,hm⟩:=t6 (.error ⟨6,k.start⟩) 1 (.bad (by
  show some (if kindOf k.tok=txt "end"then _ else fault 6 k.start)=_;rw[if_neg hk];rfl))
 exact⟨m,hm⟩
open Vaunid (Token txt word sign isDigit isSmall inWord)
theorem xN{s:List Nat}{c:Nat}{r:List Nat}(e:s=c::r)(hc:isDigit c=true){o u:Nat}(h:(numberText s).2.1=some (o,u)):o<10 ^ 12/\u<10 ^ 12/\((numberText s).1=1->u=1):=by
 have key:∀(b:Bool) (T L o u:Nat),(if b=true then some (T / T.gcd L,L / T.gcd L)else none)=some (o,u)->b=true/\T / T.gcd L=o/\L / T.gcd L=u:=by
  intro b T L o u h;cases b with
  |true=>rw[if_pos rfl]at h;cases h;exact⟨rfl,rfl,rfl⟩
  |false=>cases h
 unfold numberText at h ⊢;dsimp only at h ⊢;obtain⟨hg,e1,e2⟩:=key _ _ _ _ _ h;rw[e1,e2]at hg;simp only[and_eq_true,decide_eq_true_eq,fits]at hg;refine⟨hg.2.2.2.1,hg.2.2.2.2,λh1=>?_⟩;have ha:1<=(s.takeWhile isDigit).length:=by
  rw[e,takeWhile_cons,hc];exact Nat.succ_le_succ (zero_le _)
 by_cases hx:(secondRow (s.dropWhile isDigit)).1=0
 ·rw[hx]at e2
  simp at e2;exact e2.symm
 rw[if_neg hx]at h1;omega
theorem all0{α:Type}{P:α->Prop}:∀x∈([]:List α),P x:=λ_ m=>absurd m not_mem_nil
theorem allc{α:Type}{P:α->Prop}{i:α}{l:List α}(h:P i)(t:∀x∈l,P x):∀x∈i::l,P x:=forall_mem_cons.mpr ⟨h,t⟩
theorem pV{c:Nat}(h:Vaunid.inWord c=true):Dl c/\c≠40:=by
 unfold Vaunid.inWord Vaunid.isSmall Vaunid.isDigit at h;simp only[or_eq_true,and_eq_true,decide_eq_true_eq,beq_iff_eq]at h;exact⟨⟨by omega,by omega⟩,by omega⟩
theorem NoD.app{v w:List Nat}(a:NoD v)(b:NoD w):NoD (v++w):=λc m=>(mem_append.mp m).elim (a c) (b c)
theorem NoD.cons{c:Nat}{w:List Nat}(a:Dl c)(b:NoD w):NoD (c::w):=allc a b
def Ahd(t s:List Nat):Prop:=∃p,t=p++s/\NoD p
theorem xO(c:Nat)(h:Vaunid.isDigit c=true):Dl c:=by
 unfold Vaunid.isDigit at h;rw[and_eq_true,decide_eq_true_eq,decide_eq_true_eq]at h;exact⟨by omega,by omega⟩
theorem Ahd.tw{p:Nat->Bool}(hp:∀c,p c=true->Dl c)(t:List Nat):Ahd t (t.dropWhile p):=⟨_,takeWhile_append_dropWhile.symm,λc m=>hp c (d5 t c m)⟩
theorem Ahd.trans{a b c:List Nat}(h:Ahd a b)(g:Ahd b c):Ahd a c:=by
 obtain⟨p,e1,n1⟩:=h;obtain⟨q,e2,n2⟩:=g;exact⟨p++q,by rw[e1,e2,append_assoc],n1.app n2⟩
theorem Ahd.one{c:Nat}(h:Dl c)(s:List Nat):Ahd (c::s) s:=⟨[c],rfl,NoD.cons h all0⟩
theorem xP{t s:List Nat}(h:powerText t=some s):Ahd t s:=by
 unfold powerText at h;have key:∀u:List Nat,(if(u.takeWhile Vaunid.isDigit).length=1\/(u.takeWhile Vaunid.isDigit).length=2 then some (u.dropWhile Vaunid.isDigit)else none)=some s->Ahd u s:=λu h=>by
  split at h
  ·injection h with h
   subst h;exact Ahd.tw xO _
  cases h
 dsimp only at h;split at h
 ·exact(Ahd.one ⟨by decide,by decide⟩ _).trans (key _ h)
 exact key _ h
theorem xQ{t s:List Nat}(h:factorText t=some s):Ahd t s:=by
 unfold factorText at h;cases t with
 |nil=>cases h
 |cons c r =>
 dsimp only at h;split at h
 ·rename_i e
  injection h with h;subst h;exact .one (by rw[e];exact⟨by decide,by decide⟩) _
 split at h
 ·cases h
 split at h
 ·cases h
 have a:=Ahd.tw (λc h=>(pV h).1) (c::r);split at h
 ·rename_i s' e
  rw[e]at a;exact a.trans ((Ahd.one ⟨by decide,by decide⟩ _).trans (xP h))
 injection h with h;subst h;exact a
theorem xR:∀(n:Nat) (t:List Nat),measureText n t=true->NoD t:=by
 intro n
 induction n with
 |zero=>intro t h;cases h
 |succ n ih =>
 intro t h;unfold measureText at h;cases q:factorText t with
 |none=>rw[q]at h;cases h
 |some s =>
 obtain⟨p,e,np⟩:=xQ q;rw[q]at h;rw[e];refine np.app ?_;cases s with
 |nil=>exact all0
 |cons c r =>
 have h:((c==46||c==47)&&measureText n r)=true:=h;rw[and_eq_true,or_eq_true,beq_iff_eq,beq_iff_eq]at h;exact NoD.cons ⟨by omega,by omega⟩ (ih r h.2)
theorem xS{p:Nat}{s r:List Nat}{k:Token}(hl:s.length<=10000)(h:token true p s=.ok (k,r)):bJ k.tok/\¬k.tok=sign "end":=by
 unfold token at h;cases s with
 |nil=>cases h
 |cons c s =>
 dsimp only at h;split at h
 ·rename_i hc
  unfold wordToken at h;dsimp only at h;split at h
  ·cases h
  rename_i hn;cases h;refine⟨⟨?_,by simp only[MOSTSIGNS]at hn;omega⟩,by intro z;cases z⟩;rw[takeWhile_cons,iG hc];show(isSmall c&&(s.takeWhile inWord).all inWord)=true;rw[hc];exact all_eq_true.mpr (d5 _)
 have num:∀neg:Bool,(∃c' s',(if neg=true then(c::s).drop 1 else c::s)=c'::s'/\isDigit c'=true)->numberToken neg p (c::s)=.ok (k,r)->bJ k.tok/\¬k.tok=sign "end":=by
  rintro neg ⟨c',s',e1,e2⟩ h
  unfold numberToken at h;dsimp only at h;cases h1:(numberText (if neg=true then(c::s).drop 1 else c::s)).2.1 with
  |none=>rw[h1]at h;cases h
  |some v =>
  obtain⟨o,u⟩:=v;rw[h1]at h;dsimp only at h;obtain⟨b1,b2,b3⟩:=xN e1 e2 h1;have bt:(if neg=true then -(o:Int)else(o:Int)).natAbs<10 ^ 12:=by
   split
   ·rw[Int.natAbs_neg];exact b1
   exact b1
  have nr:=kE (if neg=true then(c::s).drop 1 else c::s);split at h
  ·rename_i r' hr
   split at h
   ·cases h
   rename_i hm;cases h;have hm2:measureText ((r'.takeWhile λc=>c != 93).length+1) (r'.takeWhile λc=>c != 93)=true:=Bool.of_not_eq_false λq=>hm (.inr q);refine⟨⟨λm e=>?_,bt,b2,λn e=>(by cases e),λm e=>(by cases e;exact xR _ _ hm2)⟩,by intro z;cases z⟩;cases e;refine⟨wA hm2,?_⟩;have l1:=cM (λc=>c != 93) r';have l2:r'.length+1=((if neg=true then(c::s).drop 1 else c::s).drop (numberText (if neg=true then(c::s).drop 1 else c::s)).1).length:=by rw[<- nr.1,hr];rfl
   rw[length_drop]at l2;have l3:(if neg=true then(c::s).drop 1 else c::s).length<=(c::s).length:=by
    split
    ·rw[length_drop];omega
    exact Nat.le_refl _
   omega
  cases h;refine⟨⟨λm e=>(by cases e),bt,b2,λn e=>?_,λm e=>(by cases e)⟩,by intro z;cases z⟩;by_cases h1:(numberText (if neg=true then(c::s).drop 1 else c::s)).1=1
  ·rw[if_pos h1]at e
   cases e;rw[b3 h1]
  rw[if_neg h1]at e;cases e
 split at h
 ·rename_i hd
  exact num false ⟨c,s,rfl,hd⟩ h
 split at h
 ·rename_i hm
  refine num true ?_ h;obtain⟨_,hm⟩:=hm;unfold minusDigit at hm;split at hm
  ·rename_i d s' e
   cases e;exact⟨d,s',rfl,hm⟩
  cases hm
 unfold signToken at h;rw[if_pos rfl]at h;cases h1:Vaunid.coreSigns.find? (λx=>x.isPrefixOf (c::s))with
 |none=>rw[h1]at h;cases h
 |some x =>
 rw[h1]at h;cases h;have hm:=mem_of_find?_eq_some h1;refine⟨.inl hm,λz=>?_⟩;have z:Vaunid.Tok.sign x=Vaunid.Tok.sign _:=z;injection z with z;rw[z]at hm;exact absurd hm (by left)
theorem kY:∀(n p:Nat) (s:List Nat) (l:List Token),s.length<=10000->tokens true n p s=.ok l->∀k∈l,bJ k.tok/\¬k.tok=sign "end"
 |n,p,[],l,hl,h=>by
  have:l=[]:=by cases n<;>(cases h;rfl)
  subst this;simp
 |0,p,c::r,l,hl,h=>by
  cases h;simp
 |n+1,p,c::r,l,hl,h=>by
  unfold tokens at h;have hl':r.length+1<=10000:=hl;split at h
  ·exact kY n _ r l (by omega) h
  split at h
  ·rename_i hz
   cases hz.1
  cases q:token true p (c::r)with
  |error e=>rw[q]at h;cases h
  |ok x =>
  obtain⟨k,s⟩:=x;rw[q]at h;dsimp only at h;have tf:=gv q;have hs:s.length<=r.length:=by
   have h3:=tf.lt;rw[tf.rest,length_drop,length_cons];omega
  cases q2:tokens true n k.halt_ s with
  |error e=>rw[q2]at h;cases h
  |ok l2 =>
  rw[q2]at h;cases h;have:=kY n _ s l2 (by omega) q2;intro y hy;rcases mem_cons.mp hy with e|e
  ·rw[e];exact xS hl q
  exact this y e
noncomputable def eK(la:Addr)(i:Int):List (Str×V):=[("ahead",.ref la),("index",.int i)]
noncomputable def fA(k:Str)(o:Addr)(d:Int):List (Str×V):=[("kind",.str k),("owner",.ref o),("depth",.int d)]
def af(xs:List Addr)(H H':Hp):Prop:=∀a o,a∉xs->H a=some o->H' a=some o
theorem af.of{xs:List Addr}{H H':Hp}(s:Same H H'):af xs H H':=λa o _ e=>s a o e
theorem af.trans{xs:List Addr}{H H1 H2:Hp}(s:af xs H H1)(r:af xs H1 H2):af xs H H2:=λa o n e=>r a o n (s a o n e)
theorem af.more{xs ys:List Addr}{H H':Hp}(s:af xs H H')(h:∀a∈xs,a∈ys):af ys H H':=λa o n e=>s a o (λm=>n (h a m)) e
theorem af.upd{xs:List Addr}{H:Hp}{a:Addr}{o:HO}(h:a∈xs):af xs H (L2.upd H a o):=λb u n e=>by rw[ao (λ(z:b=a)=>n (z ▸ h))];exact e
theorem af.base{xs:List Addr}{H0 H H':Hp}(s:af xs H H')(b:Same H0 H)(h:∀a∈xs,H0 a=none):Same H0 H':=λa o e=>s a o (λm=>by rw[h a m]at e;cases e) (b a o e)
structure Imm(H H':Hp):Prop where
 tok:∀a C dx g k b e c,H a=some (.ins C dx (cO g k b e c))->H' a=some (.ins C dx (cO g k b e c))
 amt:∀a C dx o u m,H a=some (.ins C dx (afs o u m))->H' a=some (.ins C dx (afs o u m))
theorem xT{g:Int}{k:Str}{b e:Int}{c:V}{la:Addr}{i:Int}:cO g k b e c≠eK la i:=λh=>by
 have:=congrArg (List.map Prod.fst) h;have q:([("group":Str),"kind","begin","end","content"]:List Str)=[("ahead":Str),"index"]:=this;exact absurd q (by left)
theorem xU{g:Int}{k:Str}{b e:Int}{c:V}{f:Str}{w p:Addr}{b' e':Int}:cO g k b e c≠bh f w p b' e':=λh=>by
 have:=congrArg (List.map Prod.fst) h;have q:([("group":Str),"kind","begin","end","content"]:List Str)=[("form":Str),"words","parts","begin","end"]:=this;exact absurd q (by left)
theorem xV{o u:Int}{m:Str}{la:Addr}{i:Int}:afs o u m≠eK la i:=λh=>by
 have:=congrArg (List.map Prod.fst) h;have q:([("over":Str),"under","measure"]:List Str)=[("ahead":Str),"index"]:=this;exact absurd q (by left)
theorem xW{o u:Int}{m:Str}{f:Str}{w p:Addr}{b' e':Int}:afs o u m≠bh f w p b' e':=λh=>by
 have:=congrArg (List.map Prod.fst) h;have q:([("over":Str),"under","measure"]:List Str)=[("form":Str),"words","parts","begin","end"]:=this;exact absurd q (by left)
inductive NT(H:Hp)(x:Addr):Prop
 |lst {l:List V}:H x=some (.lst l)->NT H x
 |row {C dx la:Addr}{i:Int}:H x=some (.ins C dx (eK la i))->NT H x
 |node {C dx:Addr}{f:Str}{w p:Addr}{b e:Int}:H x=some (.ins C dx (bh f w p b e))->NT H x
theorem NT.tok{H:Hp}{x C dx:Addr}{g:Int}{k:Str}{b e:Int}{c:V}(h:NT H x)(q:H x=some (.ins C dx (cO g k b e c))):False:=by
 rcases h with h|h|h
 ·rw[h]at q;cases q
 ·rw[h]at q;injection q with q;injection q with _ _ q;exact xT q.symm
 rw[h]at q;injection q with q;injection q with _ _ q;exact xU q.symm
theorem NT.amt{H:Hp}{x C dx:Addr}{o u:Int}{m:Str}(h:NT H x)(q:H x=some (.ins C dx (afs o u m))):False:=by
 rcases h with h|h|h
 ·rw[h]at q;cases q
 ·rw[h]at q;injection q with q;injection q with _ _ q;exact xV q.symm
 rw[h]at q;injection q with q;injection q with _ _ q;exact xW q.symm
theorem Imm.of{xs:List Addr}{H H':Hp}(s:af xs H H')(h:∀x∈xs,NT H x):Imm H H':=
 ⟨λa C dx g k b e c q=>s a _ (λm=>(h a m).tok q) q,λa C dx o u m q=>s a _ (λn=>(h a n).amt q) q⟩
def xX(Ca:Addr)(H:Hp)(c:V):Vaunid.Tok->Prop
 |.sign _=>True
 |k=>gy Ca H c k
def TokB(Ca Ct:Addr)(H:Hp)(a:Addr)(k:Token):Prop:=∃dx c,H a=some (.ins Ct dx (cO (Vaunid.sortOf k.tok) (S (kindOf k.tok)) (k.start:Int) (k.halt_:Int) c))/\xX Ca H c k.tok
theorem bU.b{Ca Ct:Addr}{H:Hp}{a:Addr}{k:Token}(h:bU Ca Ct H a k):TokB Ca Ct H a k:=by
 obtain⟨dx,c,e,q⟩:=h;refine⟨dx,c,e,?_⟩;cases hk:k.tok with
 |word w=>rw[hk]at q;exact q
 |num v d=>rw[hk]at q;exact q
 |sign x=>trivial
theorem TokB.imm{Ca Ct:Addr}{H H':Hp}{a:Addr}{k:Token}(h:TokB Ca Ct H a k)(s:Imm H H'):TokB Ca Ct H' a k:=by
 obtain⟨dx,c,e,q⟩:=h;refine⟨dx,c,s.tok _ _ _ _ _ _ _ _ e,?_⟩;cases hk:k.tok with
 |word w=>rw[hk]at q;exact q
 |num v d=>rw[hk]at q;obtain⟨b,e1,dx',e2⟩:=q;exact⟨b,e1,dx',s.amt _ _ _ _ _ _ e2⟩
 |sign x=>trivial
def bf(Ca Ct Cr:Addr)(H:Hp)(row la:Addr)(l:Toks):Prop:=∃(dx:Addr) (as:List Addr) (i:Nat),H row=some (.ins Cr dx (eK la (i:Int)))/\H la=some (.lst (as.map V.ref))/\Paired (λa k=>TokB Ca Ct H a k) (as.drop i) l
theorem bf.keep{Ca Ct Cr:Addr}{H H':Hp}{row la:Addr}{l:Toks}(h:bf Ca Ct Cr H row la l){xs:List Addr}(s:af xs H H')(nt:∀x∈xs,NT H x)(n1:row∉xs)(n2:la∉xs):bf Ca Ct Cr H' row la l:=by
 obtain⟨dx,as,i,h1,h2,h3⟩:=h;exact⟨dx,as,i,s _ _ n1 h1,s _ _ n2 h2,Paired.mapP h3 λa k z=>z.imm (Imm.of s nt)⟩
theorem bf.same{Ca Ct Cr:Addr}{H H':Hp}{row la:Addr}{l:Toks}(h:bf Ca Ct Cr H row la l)(s:Same H H'):bf Ca Ct Cr H' row la l:=h.keep (xs:=[]) (af.of s) (by simp) (by simp) (by simp)
theorem bf.nt{Ca Ct Cr:Addr}{H:Hp}{row la:Addr}{l:Toks}(h:bf Ca Ct Cr H row la l):NT H row:=let⟨_,_,_,h1,_,_⟩:=h;.row h1
def bX(Cs:Addr)(H:Hp)(ss:List Addr)(ks:List String)(o:Addr)(d:Nat):Prop:=Paired (λs k=>∃dx,H s=some (.ins Cs dx (fA (ofString k) o (d:Int)))) ss ks
def Kp(xs:List Addr)(H H':Hp):Prop:=∀a∈xs,∀o,H a=some o->H' a=some o
theorem Kp.sub{xs ys:List Addr}{H H':Hp}(k:Kp xs H H')(h:∀a∈ys,a∈xs):Kp ys H H':=λa m=>k a (h a m)
theorem Kp.of{xs ys:List Addr}{H H':Hp}(s:af ys H H')(d:∀a∈xs,a∉ys):Kp xs H H':=λa m o e=>s a o (d a m) e
theorem xY{A B:Type}{R S:A->B->Prop}{l:List A}{m:List B}(h:Paired R l m)(k:∀a∈l,∀b,R a b->S a b):Paired S l m:=by
 induction h with
 |nil=>exact .nil
 |cons h t ih=>exact .cons (k _ (mem_cons_self ..) _ h) (ih λa m=>k a (mem_cons_of_mem _ m))
theorem bX.keep{Cs:Addr}{H H':Hp}{ss:List Addr}{ks:List String}{o:Addr}{d:Nat}(h:bX Cs H ss ks o d)(k:Kp ss H H'):bX Cs H' ss ks o d:=xY h λa m b ⟨dx,e⟩=>⟨dx,k a m _ e⟩
theorem bX.here{Cs:Addr}{H:Hp}{o:Addr}{d:Nat}{ss:List Addr}{ks:List String}(h:bX Cs H ss ks o d):∀a∈ss,∃u,H a=some u:=by
 unfold bX at h
 induction h with
 |nil=>intro a m;cases m
 |cons h t ih =>
 obtain⟨dx,e⟩:=h;intro a m;rcases mem_cons.mp m with q|q
 ·exact⟨_,q ▸ e⟩
 exact ih a q
structure FrAt(Cn Cs:Addr)(H:Hp)(n:Addr)(pf:PF)(next ss:List Addr)(dx wl pl:Addr)(as F:List Addr)(e:Nat):Prop where
 node:H n=some (.ins Cn dx (bh (S pf.form) wl pl (pf.b:Int) (e:Int)))
 words:H wl=some (.lst ((pf.ws.map S).map V.str))
 parts:H pl=some (.lst ((as++next).map V.ref))
 trees:TreesAt Cn H as pf.ts F
 steps:bX Cs H ss (pf.ks.map SK.w++[pf.c]) n pf.d
theorem FrAt.keep{Cn Cs:Addr}{H H':Hp}{n:Addr}{pf:PF}{next ss:List Addr}{dx wl pl:Addr}{as F:List Addr}{e:Nat}(h:FrAt Cn Cs H n pf next ss dx wl pl as F e)(k:Kp ((n::wl::pl::F)++ss) H H'):FrAt Cn Cs H' n pf next ss dx wl pl as F e:=
 ⟨k n (by simp) _ h.node,k wl (by simp) _ h.words,k pl (by simp) _ h.parts,h.trees.keep λb m o q=>k b (by simp[m]) o q,h.steps.keep λa m o q=>k a (by simp[m]) o q⟩
theorem FrAt.here{Cn Cs:Addr}{H:Hp}{n:Addr}{pf:PF}{next ss:List Addr}{dx wl pl:Addr}{as F:List Addr}{e:Nat}(h:FrAt Cn Cs H n pf next ss dx wl pl as F e):∀a∈(n::wl::pl::F)++ss,∃u,H a=some u:=λa m=>by
 rcases mem_append.mp m with m|m
 ·rcases mem_cons.mp m with q|m
  ·exact⟨_,q ▸ h.node⟩
  rcases mem_cons.mp m with q|m
  ·exact⟨_,q ▸ h.words⟩
  rcases mem_cons.mp m with q|m
  ·exact⟨_,q ▸ h.parts⟩
  exact h.trees.here a m
 exact h.steps.here a m
inductive Stk(Cn Cs:Addr)(H:Hp)(wh:Addr):List PF->List Addr->List Addr->List Addr->Prop
 |bot {pf:PF}{next ss:List Addr}{dx wl pl:Addr}{as F:List Addr}{e:Nat}:FrAt Cn Cs H wh pf next ss dx wl pl as F e->Stk Cn Cs H wh [pf] next ss (wh::wl::pl::F)
 |cons {n:Addr}{pf g:PF}{r:List PF}{next ss ss2 zp:List Addr}{dx wl pl:Addr}{as F:List Addr}{e:Nat}:FrAt Cn Cs H n pf next ss dx wl pl as F e->Stk Cn Cs H wh (g::r) [n] ss2 zp->Stk Cn Cs H wh (pf::g::r) next (ss++ss2) ((n::wl::pl::F)++zp)
theorem Stk.keep{Cn Cs:Addr}{H H':Hp}{wh:Addr}{fs:List PF}{next ss own:List Addr}(h:Stk Cn Cs H wh fs next ss own)(k:Kp (own++ss) H H'):Stk Cn Cs H' wh fs next ss own:=by
 induction h with
 |bot h=>exact .bot (h.keep k)
 |cons h t ih=>exact .cons (h.keep (k.sub λa m=>by simp at m ⊢;rcases m with m|m|m|m|m<;>simp[m])) (ih (k.sub λa m=>by simp at m ⊢;rcases m with m|m<;>simp[m]))
theorem Stk.here{Cn Cs:Addr}{H:Hp}{wh:Addr}{fs:List PF}{next ss own:List Addr}(h:Stk Cn Cs H wh fs next ss own):∀a∈own++ss,∃u,H a=some u:=by
 induction h with
 |bot h=>exact h.here
 |cons h t ih =>
 intro a m;rw[mem_append,mem_append,mem_append]at m;rcases m with(m|m)|(m|m)
 ·exact h.here a (mem_append_left _ m)
 ·exact ih a (mem_append_left _ m)
 ·exact h.here a (mem_append_right _ m)
 exact ih a (mem_append_right _ m)
def cnt(pf:PF):Nat:=pf.ts.length+pf.ws.length+pf.ks.length
def LvB:List PF->Prop
 |[]=>True
 |pf::r=>cnt pf<=4/\(pf.c=")"\/pf.c="end")/\pf.d=r.length/\pf.d<=40/\LvB r
def Lv:List PF->Prop
 |[]=>True
 |pf::r=>cnt pf<=5/\(pf.c=")"\/pf.c="end")/\pf.d=r.length/\pf.d<=40/\LvB r
theorem pW(f:Fm):f.sk.length<=5:=by cases f<;>decide
theorem bX.length{Cs:Addr}{H:Hp}{ss:List Addr}{ks:List String}{o:Addr}{d:Nat}(h:bX Cs H ss ks o d):ss.length=ks.length:=Paired.length h
theorem Stk.len{Cn Cs:Addr}{H:Hp}{wh:Addr}{fs:List PF}{next ss own:List Addr}(h:Stk Cn Cs H wh fs next ss own)(k:LvB fs):ss.length<=6*fs.length:=by
 induction h with
 |bot h =>
  have:=h.steps.length;rw[length_append,length_map]at this;have h1:=k.1;unfold cnt at h1;simp at this ⊢;omega
 |cons h t ih =>
 have:=h.steps.length;rw[length_append,length_map]at this;have h1:=k.1;unfold cnt at h1;have:=ih k.2.2.2.2;simp at *;omega
theorem xZ{s s':MS}(h:Lv s.fs)(e:bN s=some (.ok s')):Lv s'.fs:=by
 obtain⟨fs,l,res⟩:=s;cases fs with
 |nil=>cases e
 |cons pf fs =>
 cases l with
 |nil=>cases e
 |cons t l =>
 obtain⟨form,ws,b,ts,ks,c,d⟩:=pf;obtain⟨h1,hc,h2,h3,h4⟩:=h;simp only[cnt]at h1;cases ks with
 |nil =>
  simp only[bN]at e;split at e
  ·cases fs with
   |nil=>cases e;trivial
   |cons g r =>
    cases e;obtain⟨g1,gc,g2,g3,g4⟩:=h4;refine⟨?_,gc,g2,g3,g4⟩;simp only[cnt,length_append,length_singleton]at g1 ⊢;omega
  cases e
 |cons k ks =>
 rw[length_cons]at h1;cases k with
 |n =>
  simp only[bN]at e;split at e
  ·cases e
   refine⟨?_,hc,h2,h3,h4⟩;simp only[cnt,length_append,length_singleton];omega
  cases e
 |pw =>
  simp only[bN]at e;split at e
  ·cases e
   refine⟨?_,hc,h2,h3,h4⟩;simp only[cnt,length_append,length_singleton];omega
  cases e
 |p bb =>
 simp only[bN]at e;split at e
 ·cases e
 rename_i hd;split at e
 ·split at e
  ·cases e
  cases e;have:=pW (aK l).1;refine⟨?_,.inl rfl,?_,?_,⟨?_,hc,h2,h3,h4⟩⟩
  ·simp only[cnt,ee,length_nil]
   omega
  ·simp only[ee,length_cons]
   simp only at h2;omega
  ·simp only[ee]
   simp only at h3;omega
  simp only[cnt];omega
 split at e
 ·cases e
  refine⟨?_,hc,h2,h3,h4⟩;simp only[cnt,length_append,length_singleton];omega
 cases e
theorem x'(a b:String):Vaunid.txt (a++b)=Vaunid.txt a++Vaunid.txt b:=by
 unfold Vaunid.txt;rw[String.toList_append,map_append]
theorem pX(n:Nat):Vaunid.txt (Nat.repr n)=decimal n:=by
 unfold Vaunid.txt decimal Nat.repr;rw[String.toList_ofList]
theorem ya(z:Int):Vaunid.txt (toString z)=decimalInt z:=by
 unfold decimalInt;cases z with
 |ofNat m =>
  rw[if_neg (show ¬(Int.ofNat m<0)from Int.not_lt.mpr (Int.natCast_nonneg m))];exact pX m
 |negSucc m =>
 rw[if_pos (by omega)];show Vaunid.txt ("-"++Nat.repr (m+1))=_;rw[x',pX];rfl
theorem str_int(z:Int):ofString (toString z)=S (decimalInt z):=by rw[aI,ya]
theorem kZ{z:Int}(h:z.natAbs<10 ^ 12):z.natAbs.log2<1920:=by
 by_cases h0:z.natAbs=0
 ·rw[h0];decide
 exact Nat.lt_trans ((Nat.log2_lt h0).mpr (Nat.lt_trans h (show 10 ^ 12<2 ^ 40 by decide))) (by decide)
theorem i9{n:Nat}(h:n<10 ^ 12):(decimal n).length<=12:=by
 unfold decimal;rw[length_map];exact(Nat.length_toDigits_le_iff (by decide) (by decide)).mpr h
theorem pY{z:Int}(h:z.natAbs<10 ^ 12):(decimalInt z).length<=13:=by
 unfold decimalInt;have:=i9 h;split
 ·rw[length_cons];omega
 omega
theorem k6(n:Nat):decimalInt (n:Int)=decimal n:=by
 unfold decimalInt;rw[if_neg (by omega)];rfl
def i'(v:Vaunid.Lit):Prop:=(∀m,v.measure=some m->m≠[]/\m.length<=10000)/\v.top.natAbs<10 ^ 12/\v.low<10 ^ 12
theorem pZ:ofString "/"=S [47]:=by left
theorem yb:ofString "["=S [91]:=by left
theorem yc:ofString "]"=S [93]:=by left
theorem yd:ofString ""=S []:=by left
theorem p9(v:Vaunid.Lit)(g:i' v):shownLit v=(decimalInt v.top++(if v.low=1 then[]else 47::decimal v.low))++(if v.measure.getD []=[]then[]else 91::(v.measure.getD []++[93])):=by
 unfold shownLit;rw[append_assoc];congr 2;cases h:v.measure with
 |none=>rfl
 |some m =>
 show 91::(m++[93])=if m=[]then[]else 91::(m++[93]);rw[if_neg (g.1 m h).1]
theorem bZ{C:Addr}{names:List Str}{vs:List V}{H:Hp}{E:XK}{R:Addr->Hp->Prop}(hl:vs.length=names.length)(k:∀x dx H1,H x=none->Same H H1->H1 x=some (.ins C dx (names.zip vs))->R x H1) :
  ∀x dx,H x=none->H dx=none->dx≠x->bR C names (.ref x::vs) (upd (upd H dx (.own x)) x (.ins C dx [])) (λv H2=>v=.non/\R x H2) E:=λx dx hx hdx hne=>by
 refine⟨x,dx,vs,rfl,hl,ai,rfl,?_⟩;rw[fI];exact k x dx _ hx (bW hx hdx) ai
theorem none_of{H H1:Hp}{a:Addr}(s:Same H H1)(h:H1 a=none):H a=none:=by
 cases q:H a with
 |none=>rfl
 |some o=>rw[s _ _ q]at h;cases h
theorem eg{xs:List Addr}{H H1:Hp}{a:Addr}(s:af xs H H1)(n:a∉xs)(h:H1 a=none):H a=none:=by
 cases q:H a with
 |none=>rfl
 |some o=>rw[s _ _ n q]at h;cases h
theorem nin{a b:Addr}(h:a≠b):a∉[b]:=λm=>h (mem_singleton.mp m)
theorem cS{A B:Type}{R:A->B->Prop}{l:List A}{m:List B}{a:A}{b:B}(h:Paired R l m)(r:R a b):Paired R (l++[a]) (m++[b]):=by
 induction h with
 |nil=>exact .cons r .nil
 |cons h t ih=>exact .cons h ih
structure BI(Ca Ct Cr Cn Cs:Addr)(H:Hp)(row la todo:Addr)(xs:List V)(r:Toks)(n dx wl pl:Addr)(f:Str)(b:Int)(d:Nat)(H':Hp)(ss:List Addr)(ks:List String):Prop where
 sx:af [row,todo] H H'
 row:bf Ca Ct Cr H' row la r
 todo:H' todo=some (.lst (xs++ss.reverse.map V.ref))
 steps:bX Cs H' ss ks n d
 node:H' n=some (.ins Cn dx (bh f wl pl b b))
 words:H' wl=some (.lst [])
 parts:H' pl=some (.lst [])
 nd:(n::wl::pl::ss).Nodup
 fr:∀a∈n::wl::pl::ss,H a=none
theorem BI.add{Ca Ct Cr Cn Cs:Addr}{H:Hp}{row la todo:Addr}{xs:List V}{r:Toks}{n dx wl pl:Addr}{f:Str}{b:Int}{d:Nat}{H' H2:Hp}{ss:List Addr}{ks:List String}(h:BI Ca Ct Cr Cn Cs H row la todo xs r n dx wl pl f b d H' ss ks)(ht:H todo=some (.lst xs))(nla:la≠todo){s dxs:Addr}{k:String}
  (hs:H' s=none)(sm:Same H' H2)(e:H2 s=some (.ins Cs dxs (fA (ofString k) n (d:Int)))):BI Ca Ct Cr Cn Cs H row la todo xs r n dx wl pl f b d (upd H2 todo (.lst (xs++ss.reverse.map V.ref++[.ref s]))) (s::ss) (k::ks):=by
 have ht2:=sm _ _ h.todo;have sx2:af [todo] H' (upd H2 todo (.lst (xs++ss.reverse.map V.ref++[.ref s]))):=(af.of sm).trans (af.upd (mem_singleton.mpr rfl));have fr:∀a∈n::wl::pl::ss,a∉[todo]:=λa ha m=>by
  rw[mem_singleton.mp m]at ha;have:=h.fr _ ha;rw[ht]at this;cases this
 have ns:s≠todo:=λz=>by rw[z,h.todo]at hs;cases hs
 have nt:∀x∈[todo],NT H' x:=λx hx=>by rw[mem_singleton.mp hx];exact .lst h.todo
 have nrow:row≠todo:=λz=>by
  obtain⟨_,_,_,q,_,_⟩:=h.row;rw[z,h.todo]at q;cases q
 have nr:∀a,H' a=none->a≠row:=λa ha z=>by
  obtain⟨_,_,_,q,_,_⟩:=h.row;rw[z,q]at ha;cases ha
 refine⟨h.sx.trans (sx2.more (by simp)),h.row.keep sx2 nt (nin nrow) (nin nla),?_,?_,sx2 _ _ (fr n (by simp)) h.node,sx2 _ _ (fr wl (by simp)) h.words,sx2 _ _ (fr pl (by simp)) h.parts,?_,?_⟩
 ·rw[ai,reverse_cons,map_append,<- append_assoc]
  rfl
 ·refine .cons ⟨dxs,by rw[ao ns];exact e⟩ (h.steps.keep (Kp.of sx2 λa ha=>fr a (by simp[ha])))
 ·have n1:∀a∈n::wl::pl::ss,a≠s:=λa ha z=>by
   have q:∃o,H' a=some o:=by
    simp at ha;rcases ha with rfl|rfl|rfl|ha
    ·exact⟨_,h.node⟩
    ·exact⟨_,h.words⟩
    ·exact⟨_,h.parts⟩
    exact h.steps.here a ha
   obtain⟨o,q⟩:=q;rw[z,hs]at q;cases q
  have nd:=h.nd;simp only[nodup_cons,mem_cons,not_or]at nd ⊢;have m1:=n1 n (by simp);have m2:=n1 wl (by simp);have m3:=n1 pl (by simp);exact⟨⟨nd.1.1,nd.1.2.1,m1,nd.1.2.2⟩,⟨nd.2.1.1,m2,nd.2.1.2⟩,⟨m3,nd.2.2.1⟩,⟨λz=>n1 s (by simp[z]) rfl,nd.2.2.2⟩⟩
 intro a ha;rw[mem_cons,mem_cons,mem_cons,mem_cons]at ha;rcases ha with q|q|q|q|q
 ·exact h.fr a (by simp[q])
 ·exact h.fr a (by simp[q])
 ·exact h.fr a (by simp[q])
 ·rw[q]
  exact eg h.sx (by simp[nr s hs,ns]) hs
 exact h.fr a (by simp[q])
def cT(Cn Cs:Addr)(H:Hp)(wh n:Addr)(fs:List PF)(ss own:List Addr):Prop:=match fs with
 |[]=>n=wh/\ss=[]/\own=[]
 |g::r=>Stk Cn Cs H wh (g::r) [n] ss own
theorem cT.keep{Cn Cs:Addr}{H H':Hp}{wh n:Addr}{fs:List PF}{ss own:List Addr}(h:cT Cn Cs H wh n fs ss own)(k:Kp (own++ss) H H'):cT Cn Cs H' wh n fs ss own:=by
 cases fs with
 |nil=>exact h
 |cons g r=>exact Stk.keep h k
theorem Stk.top{Cn Cs:Addr}{H:Hp}{wh:Addr}{pf:PF}{fs:List PF}{next ss own:List Addr}(h:Stk Cn Cs H wh (pf::fs) next ss own):∃n ss1 ss2 zp dx wl pl as F e,FrAt Cn Cs H n pf next ss1 dx wl pl as F e/\cT Cn Cs H wh n fs ss2 zp/\ss=ss1++ss2/\own=(n::wl::pl::F)++zp:=by
 cases h with
 |bot h=>exact⟨_,_,[],[],_,_,_,_,_,_,h,⟨rfl,rfl,rfl⟩,by simp,by simp⟩
 |cons h t=>exact⟨_,_,_,_,_,_,_,_,_,_,h,t,rfl,rfl⟩
theorem Stk.mk{Cn Cs:Addr}{H:Hp}{wh n:Addr}{pf:PF}{fs:List PF}{next ss1 ss2 zp:List Addr}{dx wl pl:Addr}{as F:List Addr}{e:Nat}(h:FrAt Cn Cs H n pf next ss1 dx wl pl as F e)(b:cT Cn Cs H wh n fs ss2 zp):Stk Cn Cs H wh (pf::fs) next (ss1++ss2) ((n::wl::pl::F)++zp):=by
 cases fs with
 |nil =>
  obtain⟨rfl,rfl,rfl⟩:=b;rw[append_nil,append_nil];exact .bot h
 |cons g r=>exact .cons h b
structure AtM(Ca Ct Cr Cn Cs:Addr)(H0 H:Hp)(row la todo wh:Addr)(s:MS):Prop where
 same:Same H0 H
 rowAt:bf Ca Ct Cr H row la s.l
 goods:ba s.l
 lv:Lv s.fs
 frames:(s.fs≠[]/\∃ss own,Stk Cn Cs H wh s.fs [] ss own/\H todo=some (.lst (ss.reverse.map V.ref))/\(row::todo::la::(own++ss)).Nodup/\∀a∈row::todo::own,H0 a=none)\/(s.fs=[]/\H todo=some (.lst [])/\∃tr F,s.res=[tr]/\TreeAt Cn H wh tr F)
structure Dj(row todo la n wl pl:Addr)(rest:List Addr):Prop where
 out:∀a∈rest,a∉[row,todo,n,wl,pl]
 rt:row≠todo
 rla:row≠la
 tla:todo≠la
 ra:row∉[n,wl,pl]
 ta:todo∉[n,wl,pl]
 laa:la∉[n,wl,pl]
 nw:n≠wl
 np:n≠pl
 wp:wl≠pl
 nd:rest.Nodup
theorem ja{row todo la n wl pl:Addr}{F zp ss:List Addr}(h:(row::todo::la::(((n::wl::pl::F)++zp)++ss)).Nodup):Dj row todo la n wl pl (F++(zp++ss)):=by
 simp only[cons_append,append_assoc,nodup_cons,mem_cons,not_or]at h;obtain⟨⟨a1,a2,a3,a4,a5,a6⟩,⟨b1,b2,b3,b4,b5⟩,⟨c1,c2,c3,c4⟩,⟨d1,d2,d3⟩,⟨e1,e2⟩,f1,g⟩:=h;refine⟨λa ha m=>?_,a1,a2,b1,by simp[a3,a4,a5],by simp[b2,b3,b4],by simp[c1,c2,c3],d1,d2,e1,g⟩;simp only[mem_cons,not_mem_nil,or_false]at m;rcases m with rfl|rfl|rfl|rfl|rfl
 ·exact a6 ha
 ·exact b5 ha
 ·exact d3 ha
 ·exact e2 ha
 exact f1 ha
theorem k7{X Y Z:List Addr}(hX:X.Nodup)(hY:Y.Nodup)(h:∀a∈Y,a∉X)(p:Z.Perm (Y++X)):Z.Nodup:=
 p.nodup_iff.mpr (List.nodup_append.mpr ⟨hY,hX,λa ha b hb e=>h a ha (e ▸ hb)⟩)
section
variable{Ca Ct Cr Cn Cs:Addr}{H0 H H':Hp}{row la todo wh n dx wl pl st:Addr}{pf pf':PF}{fs:List PF}{l:Toks}{res:List Tr}{as F zp ss1 ss2:List Addr}{e e':Nat}
theorem cT.len{fs:List PF}{ss own:List Addr}(h:cT Cn Cs H wh n fs ss own)(k:LvB fs):ss.length<=6*fs.length:=by
 cases fs with
 |nil =>
  obtain⟨_,rfl,_⟩:=h;exact zero_le _
 |cons g r=>exact Stk.len h k
theorem qd{r:Toks}(hrow:bf Ca Ct Cr H row la r){xs:List V}(hto:H todo=some (.lst xs)){next:List Addr}(hf:FrAt Cn Cs H n pf next ss1 dx wl pl as F e)(hb:cT Cn Cs H wh n fs ss2 zp):∀a∈row::todo::la::(((n::wl::pl::F)++zp)++(ss1++ss2)),∃o,H a=some o:=λa ha=>by
 obtain⟨_,_,_,q1,q2,_⟩:=hrow;rw[mem_cons,mem_cons,mem_cons]at ha;rcases ha with rfl|rfl|rfl|ha
 ·exact⟨_,q1⟩
 ·exact⟨_,hto⟩
 ·exact⟨_,q2⟩
 exact(Stk.mk hf hb).here a ha
theorem k8(sm0:Same H0 H)(hto:H todo=some (.lst ((ss1++ss2).reverse.map V.ref))){r:Toks}(hrow0:bf Ca Ct Cr H row la r){next:List Addr}(hf:FrAt Cn Cs H n pf next (st::ss1) dx wl pl as F e)(hb:cT Cn Cs H wh n fs ss2 zp)
  (hnd:(row::todo::la::(((n::wl::pl::F)++zp)++(st::ss1++ss2))).Nodup)(hfr:∀a∈row::todo::((n::wl::pl::F)++zp),H0 a=none)
  (sx:af [row,n,wl,pl] H H')(hrow:bf Ca Ct Cr H' row la l)(gl:ba l)(lv:Lv (pf'::fs)){as' G:List Addr}(node:H' n=some (.ins Cn dx (bh (S pf'.form) wl pl (pf'.b:Int) (e':Int))))(words:H' wl=some (.lst ((pf'.ws.map S).map V.str)))
  (parts:H' pl=some (.lst (as'.map V.ref)))(trees:TreesAt Cn H' as' pf'.ts (F++G))(hG:G.Nodup)(fG:∀a∈G,H a=none)(steps:bX Cs H ss1 (pf'.ks.map SK.w++[pf'.c]) n pf'.d):AtM Ca Ct Cr Cn Cs H0 H' row la todo wh ⟨pf'::fs,l,res⟩:=by
 have dj:=ja hnd;have sx5:af [row,todo,n,wl,pl] H H':=sx.more (by simp);have keep:∀a,a∈F++(zp++(st::ss1++ss2))->∀o,H a=some o->H' a=some o:=λa ha o q=>sx5 a o (dj.out a ha) q;have hh:=qd hrow0 hto hf hb;refine⟨sx.base sm0 (λa ha=>hfr a (by simp at ha ⊢;rcases ha with h|h|h|h<;>simp[h])),hrow,gl,lv,.inl ⟨by simp,ss1++ss2,(n::wl::pl::(F++G))++zp,Stk.mk (e:=e') (next:=[]) (as:=as') ⟨node,words,by rw[append_nil];exact parts,trees,steps.keep λa ha=>keep a (by simp[ha])⟩ (hb.keep λa ha=>keep a ?_),?_,?_,?_⟩⟩
 ·simp at ha ⊢
  rcases ha with h|h<;>simp[h]
 ·exact sx _ _ (by have:=dj.ta;have:=dj.rt;simp at *;exact⟨Ne.symm dj.rt,this.1,this.2.1,this.2.2⟩) hto
 ·refine k7 (X:=row::todo::la::(((n::wl::pl::F)++zp)++(ss1++ss2))) (Y:=G) ?_ hG (λa ha m=>?_) ?_
  ·refine hnd.sublist ?_
   simp only[cons_append,append_assoc];refine List.Sublist.cons_cons _ (List.Sublist.cons_cons _ (List.Sublist.cons_cons _ (List.Sublist.cons_cons _ (List.Sublist.cons_cons _ (List.Sublist.cons_cons _ (List.Sublist.append_left (List.Sublist.append_left (List.sublist_cons_self ..) _) _))))))
  ·obtain⟨o,q⟩:=hh a (by simp at m ⊢;rcases m with h|h|h|h|h|h|h|h|h|h<;>simp[h])
   rw[fG a ha]at q;cases q
  refine List.perm_iff_count.mpr λa=>?_;simp only[cons_append,append_assoc,List.count_cons,List.count_append];omega
 intro a ha;rw[mem_cons,mem_cons,mem_append,mem_cons,mem_cons,mem_cons,mem_append]at ha;rcases ha with h|h|(h|h|h|h|h)|h
 ·exact hfr a (by simp[h])
 ·exact hfr a (by simp[h])
 ·exact hfr a (by simp[h])
 ·exact hfr a (by simp[h])
 ·exact hfr a (by simp[h])
 ·exact hfr a (by simp[h])
 ·exact none_of sm0 (fG a h)
 exact hfr a (by simp[h])
theorem ye(sm0:Same H0 H)(hto:H todo=some (.lst ((ss1++ss2).reverse.map V.ref))){r:Toks}(hrow0:bf Ca Ct Cr H row la r)(hf:FrAt Cn Cs H n pf [] (st::ss1) dx wl pl as F e)(hb:cT Cn Cs H wh n fs ss2 zp)
  (hnd:(row::todo::la::(((n::wl::pl::F)++zp)++(st::ss1++ss2))).Nodup)(hfr:∀a∈row::todo::((n::wl::pl::F)++zp),H0 a=none){pn:PF}(lv:Lv (pn::pf'::fs))
  {n' dx' wl' pl':Addr}{ss':List Addr}(sx:af [row,todo,pl] H H')(hrow:bf Ca Ct Cr H' row la l)(gl:ba l)(hto':H' todo=some (.lst ((ss1++ss2).reverse.map V.ref++ss'.reverse.map V.ref)))(steps':bX Cs H' ss' (pn.ks.map SK.w++[pn.c]) n' pn.d)(parts:H' pl=some (.lst (as.map V.ref++[.ref n'])))
  (node':H' n'=some (.ins Cn dx' (bh (S pn.form) wl' pl' (pn.b:Int) (e':Int))))(words':H' wl'=some (.lst []))(parts':H' pl'=some (.lst []))(w0:pn.ws=[])(t0:pn.ts=[])(nd':(n'::wl'::pl'::ss').Nodup)(fr':∀a∈n'::wl'::pl'::ss',H a=none)
  (f1:pf'.form=pf.form)(f2:pf'.ws=pf.ws)(f3:pf'.b=pf.b)(f4:pf'.ts=pf.ts)(steps:bX Cs H ss1 (pf'.ks.map SK.w++[pf'.c]) n pf'.d):AtM Ca Ct Cr Cn Cs H0 H' row la todo wh ⟨pn::pf'::fs,l,res⟩:=by
 have dj:=ja hnd;have sx5:af [row,todo,n,wl,pl] H H':=sx.more (by simp);have keep:∀a,a∈F++(zp++(st::ss1++ss2))->∀o,H a=some o->H' a=some o:=λa ha o q=>sx5 a o (dj.out a ha) q;have hh:=qd hrow0 hto hf hb;have nn:n∉[row,todo,pl]:=by
  have h1:=dj.ra;have h2:=dj.ta;simp at h1 h2 ⊢;exact⟨Ne.symm h1.1,Ne.symm h2.1,dj.np⟩
 have nw:wl∉[row,todo,pl]:=by
  have h1:=dj.ra;have h2:=dj.ta;simp at h1 h2 ⊢;exact⟨Ne.symm h1.2.1,Ne.symm h2.2.1,dj.wp⟩
 have par:FrAt Cn Cs H' n pf' [n'] ss1 dx wl pl as F e:=⟨by rw[f1,f3];exact sx _ _ nn hf.node,by rw[f2];exact sx _ _ nw hf.words,by rw[map_append];exact parts,by rw[f4];exact hf.trees.keep λa ha=>keep a (by simp[ha]),steps.keep λa ha=>keep a (by simp[ha])⟩;have top:FrAt Cn Cs H' n' pn [] ss' dx' wl' pl' [] [] e':=⟨node',by rw[w0];exact words',parts',by rw[t0];exact .nil,steps'⟩;have bel:cT Cn Cs H' wh n fs ss2 zp:=hb.keep λa ha=>keep a (by simp at ha ⊢;rcases ha with h|h<;>simp[h])
 refine⟨sx.base sm0 (λa ha=>hfr a (by simp at ha ⊢;rcases ha with h|h|h<;>simp[h])),hrow,gl,lv,.inl ⟨by simp,ss'++(ss1++ss2),(n'::wl'::pl'::[])++((n::wl::pl::F)++zp),.cons top (Stk.mk par bel),?_,?_,?_⟩⟩
 ·rw[hto']
  simp only[reverse_append,map_append,append_assoc]
 ·refine k7 (X:=row::todo::la::(((n::wl::pl::F)++zp)++(ss1++ss2))) (Y:=n'::wl'::pl'::ss') ?_ nd' (λa ha m=>?_) ?_
  ·refine hnd.sublist ?_
   simp only[cons_append,append_assoc];refine List.Sublist.cons_cons _ (List.Sublist.cons_cons _ (List.Sublist.cons_cons _ (List.Sublist.cons_cons _ (List.Sublist.cons_cons _ (List.Sublist.cons_cons _ (List.Sublist.append_left (List.Sublist.append_left (List.sublist_cons_self ..) _) _))))))
  ·obtain⟨o,q⟩:=hh a (by simp at m ⊢;rcases m with h|h|h|h|h|h|h|h|h|h<;>simp[h])
   rw[fr' a ha]at q;cases q
  refine List.perm_iff_count.mpr λa=>?_;simp only[cons_append,nil_append,append_assoc,List.count_cons,List.count_append];omega
 intro a ha;rw[mem_cons,mem_cons,mem_append,mem_cons,mem_cons,mem_cons]at ha;rcases ha with h|h|(h|h|h|h)|h
 ·exact hfr a (by simp[h])
 ·exact hfr a (by simp[h])
 ·exact none_of sm0 (fr' a (by simp[h]))
 ·exact none_of sm0 (fr' a (by simp[h]))
 ·exact none_of sm0 (fr' a (by simp[h]))
 ·simp at h
 exact hfr a (by simp only[mem_cons,mem_append]at h ⊢;exact .inr (.inr h))
theorem yf(sm0:Same H0 H)(hto:H todo=some (.lst (ss2.reverse.map V.ref))){r:Toks}(hrow0:bf Ca Ct Cr H row la r)(hf:FrAt Cn Cs H n pf [] [st] dx wl pl as F e)(hb:cT Cn Cs H wh n fs ss2 zp)
  (hnd:(row::todo::la::(((n::wl::pl::F)++zp)++([st]++ss2))).Nodup)(hfr:∀a∈row::todo::((n::wl::pl::F)++zp),H0 a=none)
  (sx:af [row,n] H H')(hrow:bf Ca Ct Cr H' row la l)(gl:ba l)(node:H' n=some (.ins Cn dx (bh (S pf.form) wl pl (pf.b:Int) (e':Int)))) :
  match fs with
  |[]=>AtM Ca Ct Cr Cn Cs H0 H' row la todo wh ⟨[],l,[pf.done e']⟩
  |g::fs=>Lv ({g with ts:=g.ts++[pf.done e']}::fs)->AtM Ca Ct Cr Cn Cs H0 H' row la todo wh ⟨{g with ts:=g.ts++[pf.done e']}::fs,l,res⟩:=by
 have dj:=ja hnd;have sx5:af [row,todo,n,wl,pl] H H':=sx.more (by simp);have keep:∀a,a∈F++(zp++([st]++ss2))->∀o,H a=some o->H' a=some o:=λa ha o q=>sx5 a o (dj.out a ha) q;have base:Same H0 H':=sx.base sm0 (λa ha=>hfr a (by simp at ha ⊢;rcases ha with h|h<;>simp[h]))
 have ra:=dj.ra;have ta:=dj.ta;simp at ra ta;have nw:wl∉[row,n]:=by simp;exact⟨Ne.symm ra.2.1,Ne.symm dj.nw⟩
 have np:pl∉[row,n]:=by simp;exact⟨Ne.symm ra.2.2,Ne.symm dj.np⟩
 have tt:todo∉[row,n]:=by simp;exact⟨Ne.symm dj.rt,ta.1⟩
 have tree:TreeAt Cn H' n (pf.done e') (n::wl::pl::F):=by
  refine .mk (as:=as) node (sx _ _ nw hf.words) ?_ (hf.trees.keep λa ha=>keep a (by simp[ha]));rw[sx _ _ np hf.parts,append_nil]
 cases fs with
 |nil =>
  obtain⟨rfl,rfl,rfl⟩:=hb;exact⟨base,hrow,gl,trivial,.inr ⟨rfl,sx _ _ tt hto,_,_,rfl,tree⟩⟩
 |cons g fs =>
 intro lv;have hb':Stk Cn Cs H' wh (g::fs) [n] ss2 zp:=Stk.keep hb λa ha=>keep a (by simp at ha ⊢;rcases ha with h|h<;>simp[h])
 refine x_90 hb'.top λn2 s1 s2 own3 dx2 wl2 pl2 as2 F2 zz0=>?_;refine x_13 zz0 λe2 hf2 hb2 zr12 zr13=>?_;subst zr12;subst zr13;have par:FrAt Cn Cs H' n2 {g with ts:=g.ts++[pf.done e']} [] s1 dx2 wl2 pl2 (as2++[n]) (F2++(n::wl::pl::F)) e2:=⟨hf2.node,hf2.words,by rw[append_nil];exact hf2.parts,hf2.trees.snoc tree,hf2.steps⟩;refine⟨base,hrow,gl,lv,.inl ⟨by simp,s1++s2,(n2::wl2::pl2::(F2++(n::wl::pl::F)))++own3,Stk.mk par hb2,sx _ _ tt hto,?_,?_⟩⟩
 ·refine k7 (X:=row::todo::la::(((n::wl::pl::F)++((n2::wl2::pl2::F2)++own3))++(s1++s2))) (Y:=[]) ?_ .nil (λa ha=>by simp at ha) ?_
  ·refine hnd.sublist ?_
   simp only[cons_append,append_assoc,nil_append];refine List.Sublist.cons_cons _ (List.Sublist.cons_cons _ (List.Sublist.cons_cons _ (List.Sublist.cons_cons _ (List.Sublist.cons_cons _ (List.Sublist.cons_cons _ (List.Sublist.append_left (List.Sublist.cons_cons _ (List.Sublist.cons_cons _ (List.Sublist.cons_cons _ (List.Sublist.append_left (List.Sublist.append_left (List.sublist_cons_self ..) _) _)))) _))))))
  refine List.perm_iff_count.mpr λa=>?_;simp only[cons_append,nil_append,append_assoc,List.count_cons,List.count_append];omega
 intro a ha;refine hfr a ?_;simp only[mem_cons,mem_append]at ha ⊢;rcases ha with h|h|(h|h|h|h|h|h|h|h)|h<;>simp[h]
end
mutual
noncomputable def aQ(d:Nat):Tr->List (Nat×Tr)
 |.mk f ws b e ps=>(d,.mk f ws b e ps)::bO (d+1) ps
noncomputable def bO(d:Nat):List Tr->List (Nat×Tr)
 |[]=>[]
 |t::r=>aQ d t++bO d r
end
mutual
theorem k9(d:Nat):∀t:Tr,(aQ d t).map (λp=>p.2.b)=c8 t
 |.mk f ws b e ps=>by
  show b::(bO (d+1) ps).map (λp=>p.2.b)=b::d6 ps;rw[qe (d+1) ps]
theorem qe(d:Nat):∀ts:List Tr,(bO d ts).map (λp=>p.2.b)=d6 ts
 |[]=>rfl
 |t::r=>by
  show(aQ d t++bO d r).map (λp=>p.2.b)=c8 t++d6 r;rw[map_append,k9 d t,qe d r]
end
mutual
theorem qf(d:Nat):∀(t:Tr) (p:Nat×Tr),p∈aQ d t->p.1+1<=d+dR t
 |.mk f ws b e ps,p,h=>by
  have h:p∈(d,Tr.mk f ws b e ps)::bO (d+1) ps:=h;show p.1+1<=d+(1+dC ps);rcases mem_cons.mp h with q|q
  ·rw[q]
   show d+1<=_;omega
  have:=qh (d+1) ps p q;omega
theorem qh(d:Nat):∀(ts:List Tr) (p:Nat×Tr),p∈bO d ts->p.1+1<=d+dC ts
 |[],p,h=>by
  have h:p∈([]:List (Nat×Tr)):=h;simp at h
 |t::r,p,h=>by
  have h:p∈aQ d t++bO d r:=h;show p.1+1<=d+max (dR t) (dC r);rcases mem_append.mp h with q|q
  ·have:=qf d t p q
   omega
  have:=qh d r p q;omega
end
theorem yg(d:Nat)(t:Tr):1<=(aQ d t).length:=by
 cases t with
 |mk f ws b e ps =>
 show 1<=(_::_:List (Nat×Tr)).length;rw[length_cons];omega
noncomputable def limT:Nat->List (Nat×Tr)->Option (Nat×Nat)
 |_,[]=>none
 |i,p::r=>if 40<p.1 then some (8,p.2.b)else if i=300 then some (9,p.2.b)else limT (i+1) r
theorem qj:∀(l:List (Nat×Tr)) (i:Nat),i<=300->(∀p∈l,p.1<=40)->limT i l=if 300<i+l.length then some (9,(l.map (λp=>p.2.b)).getD (300 - i) 0)else none
 |[],i,hi,h=>by
  rw[if_neg (by simp;omega)];rfl
 |p::r,i,hi,h=>by
  unfold limT;have hp:=h p (mem_cons_self ..);rw[if_neg (by omega)];by_cases e:i=300
  ·subst e
   rw[if_pos rfl,if_pos (by rw[length_cons];omega)];rfl
  rw[if_neg e,qj r (i+1) (by omega) λq hq=>h q (mem_cons_of_mem _ hq),length_cons];by_cases h3:300<i+1+r.length
  ·rw[if_pos h3,if_pos (by omega),map_cons,show 300 - i=300 - (i+1)+1 by omega]
   rfl
  rw[if_neg h3,if_neg (by omega)]
def cy(Cn:Addr)(H H':Hp)(it:Addr)(p:Nat×Tr):Prop:=∃a F,H' it=some (.tup [.ref a,.int (p.1:Int)])/\TreeAt Cn H a p.2 F
noncomputable def cj(sl:List (Nat×Tr)):List (Nat×Tr):=sl.reverse.flatMap λp=>aQ p.1 p.2
theorem jb(sl:List (Nat×Tr))(p:Nat×Tr):cj (sl++[p])=aQ p.1 p.2++cj sl:=by
 unfold cj;rw[reverse_append];rfl
theorem ql(d:Nat):∀ps:List Tr,bO d ps=ps.flatMap λt=>aQ d t
 |[]=>rfl
 |t::r=>by
  show aQ d t++bO d r=_;rw[ql d r];rfl
theorem lh(sl:List (Nat×Tr))(d:Nat)(ps:List Tr):cj (sl++(ps.reverse.map λt=>(d,t)))=bO d ps++cj sl:=by
 unfold cj;rw[reverse_append,flatMap_append,<- map_reverse,reverse_reverse,List.flatMap_map,ql]
theorem yh:∀sl:List (Nat×Tr),sl.length<=(cj sl).length:=by
 intro sl;unfold cj;rw[<- length_reverse];generalize sl.reverse=m
 induction m with
 |nil=>exact zero_le _
 |cons p r ih =>
 rw[List.flatMap_cons,length_append,length_cons];have:=yg p.1 p.2;omega
theorem TreesAt.get{Cn:Addr}{H:Hp}{as:List Addr}{ts:List Tr}{F:List Addr}(h:TreesAt Cn H as ts F){i:Nat}{a:Addr}(e:as[i]? = some a):∃t G,ts[i]? = some t/\TreeAt Cn H a t G:=
 TreesAt.rec (motive_1:=λ_ _ _ _=>True) (motive_2:=λas ts _ _=>∀(i:Nat) (a:Addr),as[i]? = some a->∃t G,ts[i]? = some t/\TreeAt Cn H a t G) (λ_ _ _ _ _=>trivial) (λi a h=>by simp at h) (λh1 _ _ ih i a h=>by
  cases i with
  |zero=>cases h;exact⟨_,_,rfl,h1⟩
  |succ i=>exact ih i a h) h i a e
theorem lj{A B:Type}{R:A->B->Prop}{l:List A}{m:List B}(h:Paired R l m)(hn:l≠[]):∃l' a m' b,l=l'++[a]/\m=m'++[b]/\Paired R l' m'/\R a b:=by
 induction h with
 |nil=>exact absurd rfl hn
 |@cons a b l m r t ih =>
 cases t with
 |nil=>exact⟨[],a,[],b,rfl,rfl,.nil,r⟩
 |cons r2 t2 =>
 obtain⟨l',a',m',b',e1,e2,p,q⟩:=ih (by simp);exact⟨a::l',a',b::m',b',by rw[e1];rfl,by rw[e2];rfl,.cons r p,q⟩
end M
namespace L2
open PySem PySem.Spec PyProof.Rows TL
def bH(K:Frag)(b:Addr)(ys:List Str):Prop:=∃(zw:Array Value) (n:Nat) (sl:Array (Option Value)),K.lookup b=some ⟨.type "tuple",none,.seq zw n,sl⟩/\Vals (ys.map V.str) zw.toList
end L2
namespace M
open PySem PySem.Spec PyProof.Rows L2 TL
def yi(w:World)(K:Frag)(a:Addr):Prop:=∃ad:Fm->Addr,MDict w K a (c9 ad)/\(∀f H,SqT K H (ad f) ((f.kt.map λs=>ofString s).map V.str))/\∀f,bH K (ad f) (f.kt.map λs=>ofString s)
theorem yj(d:Nat)(t:Term):depths d t=d::(aX t).flatMap (depths (d+1)):=by
 cases t<;>simp[depths,aX]
theorem qm{x:Term}{tr:Tr}(h:Rep x tr):∀d,(aQ d tr).map (·.1)=depths d x:=
 Rep.rec (motive_1:=λx tr _=>∀d,(aQ d tr).map (·.1)=depths d x) (motive_2:=λxs ts _=>∀d,(bO d ts).map (·.1)=xs.flatMap (depths d)) (λ_ ih d=>by
  rw[yj];show d::(bO (d+1) _).map (·.1)=_;rw[ih (d+1)]) (λ_=>rfl) (λ_ _ i1 i2 d=>by
  show(aQ d _++bO d _).map (·.1)=_;rw[map_append,i1 d,i2 d];rfl) h
end M
namespace L2
open PySem PySem.Spec PyProof.Rows TL
def qo(K:Frag)(te:TE):TE:=λσ H Q=>te σ H λx H1=>∃t b,TyOf K H1 x t/\kitOne K t (.type "str")=some b/\Q (.bl b) H1
theorem yk:bootBuiltins "isinstance"=some (.builtin "isinstance"):=by left
section
variable{X:Cx}{e:Expr}{te:TE}{p1 p2 pos:Pos}
theorem ym(he:PE X e te)(hg:Gl X "isinstance")(hm:X.mg "isinstance"=none)(hg2:Gl X "str")(hm2:X.mg "str"=none)
  (hs:starEach [e,.Name "str" p2] X.env=[(false,eval e X.env),(false,eval (.Name "str" p2) X.env)]:=by rfl)(hpl:(backTo pos (starEach [.Name "str" p2] X.env)).any (·.1)=false:=by rfl)
  (hs2:starEach [.Name "str" p2] X.env=[(false,eval (.Name "str" p2) X.env)]:=by rfl)(hs1:starEach [e,.Name "str" p2] X.env=(false,eval e X.env)::starEach [.Name "str" p2] X.env:=by rfl):PE X (.Call (.Name "isinstance" p1) [e,.Name "str" p2] [] pos) (qo X.K te):=by
 intro zz s σ H Q I h;refine wpAny_Call_Name_kw (dW I hg hm yk ?_ (by decide) (by decide));refine PyProof.Rows.callWith_builtin1 ?_ hs1 hpl;rw[hs];show wpAny _ _ (spliced ((false,eval e X.env)::[(false,eval (.Name "str" p2) X.env)])) _ _ s;refine Calls.spliced_cons (thn (he zz s σ H _ I h) λu s1 ⟨x,H1,I1,r1,t,b,ty,ke,q1⟩=>Calls.spliced_cons ?_);refine dW I1 hg2 hm2 f' (Calls.spliced_nil ?_) (by decide) (by decide);exact tP I1 r1 ty ke λtk=>⟨.bl b,H1,I1.tok tk,rfl,q1⟩
end
end L2
namespace M
open PySem PySem.Spec PyProof.Rows L2 TL
open Vaunid (Token txt word sign)
structure NotStr(K:Frag)(C:Addr):Prop where
 ha:PySem.W.findIn K (.ref C) "__class__"=some (some (.builtin "object.__class__"))
 hn:PySem.W.specialIn K (.builtin "object.__class__") "__get__"=some (some (.builtin "getset_descriptor.__get__"))
 htk:PySem.W.takesIn K (.builtin "object.__class__")=some true
 hm:mroIn K C (.type "object")=some true
 ks:kitOne K (.ref C) (.type "str")=some false
abbrev Pc(A:Type):=Sum (List Nat) A
inductive Fits{A:Type}:List SK->List (List Nat)->List A->Prop
 |nil {ws:List (List Nat)}{ts:List A}:Fits [] ws ts
 |part {b:Bool}{ks:List SK}{ws:List (List Nat)}{t:A}{ts:List A}:Fits ks ws ts->Fits (.p b::ks) ws (t::ts)
 |name {ks:List SK}{w:List Nat}{ws:List (List Nat)}{ts:List A}:Fits ks ws ts->Fits (.n::ks) (w::ws) ts
 |pow {ks:List SK}{w:List Nat}{ws:List (List Nat)}{ts:List A}:Fits ks ws ts->Fits (.pw::ks) (w::ws) ts
noncomputable def cU{A:Type}:List SK->List (List Nat)->List A->List (SK×Pc A)
 |.p b::ks,ws,t::ts=>(.p b,.inr t)::cU ks ws ts
 |.n::ks,w::ws,ts=>(.n,.inl w)::cU ks ws ts
 |.pw::ks,w::ws,ts=>(.pw,.inl w)::cU ks ws ts
 |_,_,_=>[]
noncomputable def fmX:Term->Option Fm
 |.leaf _=>none
 |.one o _=>some (fq o)
 |.two o _ _=>some (cw o)
 |.three o _ _ _=>some (match o with|.cond=>.if_|.fold=>.fold)
 |.fn _ _=>some .fn
 |.rec_ _ _ _=>some .rec_
 |.let_ _ _ _=>some .let_
 |.case _ _ _ _ _=>some .case
noncomputable def skX(x:Term):List SK:=match fmX x with
 |none=>[]
 |some f=>f.sk
noncomputable def aL(x:Term):List (SK×Pc Term):=match fmX x with
 |none=>[]
 |some f=>cU f.sk (aM x) (aX x)
theorem gC{x:Term}{f:Fm}(h:fmX x=some f):a9 x=txt f.word:=by
 cases x with
 |leaf l=>cases h
 |one o a=>cases h;rfl
 |two o a b=>cases h;rfl
 |three o a b c=>cases o<;>(cases h;rfl)
 |fn=>cases h;rfl
 |rec_=>cases h;rfl
 |let_=>cases h;rfl
 |case=>cases h;rfl
theorem yn{x:Term}{f:Fm}(h:fmX x=some f):Fits f.sk (aM x) (aX x):=by
 cases x with
 |leaf l=>cases h
 |one o a =>
  cases h;cases o with
  |pow n=>exact .part (.pow .nil)
  |_=>exact .part .nil
 |two o a b =>
  cases h;cases o<;>exact .part (.part .nil)
 |three o a b c=>cases o<;>(cases h;exact .part (.part (.part .nil)))
 |fn=>cases h;exact .name (.part .nil)
 |rec_=>cases h;exact .name (.name (.part .nil))
 |let_=>cases h;exact .name (.part (.part .nil))
 |case=>cases h;exact .part (.part (.name (.name (.part .nil))))
theorem yo(x:Term):Fits (skX x) (aM x) (aX x):=by
 unfold skX;cases h:fmX x with
 |none=>exact .nil
 |some f=>exact yn h
theorem gD(x:Term):aL x=cU (skX x) (aM x) (aX x):=by
 unfold skX aL;cases h:fmX x with
 |none=>rfl
 |some f=>rfl
theorem yp(l:Leaf):d7 (txt (dB l))=false:=by
 cases l with
 |truth b=>cases b<;>left
 |nil=>left
 |name x =>
  show d7 (txt "name")=false
  left
 |num v =>
 show d7 (txt "number")=false
 left
noncomputable def bc{A:Type}(zx:List (Pc A))(c:Pc A):List (Pc A):=(if 1<zx.length then zx++[.inl [32]]else zx)++[c]
noncomputable def pcs0{A:Type}(f:Fm):List (Pc A):=if f=.app then[.inl [40]]else[.inl [40],.inl (txt f.word)]
noncomputable def pcsX(x:Term):List (Pc Term):=match fmX x with
 |none=>[.inl (match x with|.leaf l=>shownLeaf l|_=>[])]
 |some f=>((aL x).map (·.2)).foldl bc (pcs0 f)++[.inl [41]]
noncomputable def pcT{A:Type}(tx:A->List Nat):Pc A->List Nat
 |.inl w=>w
 |.inr a=>tx a
noncomputable def pcsT{A:Type}(tx:A->List Nat)(l:List (Pc A)):List Nat:=l.flatMap (pcT tx)
noncomputable def jn:List (List Nat)->List Nat
 |[]=>[]
 |[x]=>x
 |x::y::l=>x++32::jn (y::l)
theorem qp(l:List (List Nat)):∀x,jn (x::l)=x++l.flatMap λy=>32::y:=by
 induction l with
 |nil=>exact λx=>(append_nil x).symm
 |cons y l ih=>exact λx=>congrArg (λz=>x++32::z) (ih y)
noncomputable def hdT(f:Fm):List Nat:=if f=.app then[]else txt f.word++[32]
noncomputable def txX(x:Term):List (List Nat):=(aL x).map λc=>pcT coreText c.2
theorem qr{x:Term}{f:Fm}(h:fmX x=some f):coreText x=40::((hdT f++jn (txX x))++[41])/\∃c l,aL x=c::l:=by
 have br:∀{u v t:List Nat}{p:Prop},u=v->p->40::((u++t)++[41])=40::((v++t)++[41])/\p:=λe h=>⟨by rw[e],h⟩;cases x<;>cases h
 case' one o a=>cases o
 case' two o a b=>cases o
 case' three o a b c=>cases o
 all_goals
  refine br ?_ ⟨_,_,rfl⟩
  first|left|exact(by left:txt "^ "=hdT .pow)
theorem yq{A:Type}(tx:A->List Nat)(l:List (Pc A)):∀zx:List (Pc A),1<zx.length->pcsT tx (l.foldl bc zx)=pcsT tx zx++l.flatMap λc=>32::pcT tx c:=by
 induction l with
 |nil=>intro zx _;exact(append_nil _).symm
 |cons c l ih =>
 intro zx h;have e:bc zx c=zx++[.inl [32],c]:=by unfold bc;rw[if_pos h,append_assoc];rfl
 show pcsT tx (l.foldl bc (bc zx c))=_;rw[ih _ (by rw[e,length_append];omega),e];simp[pcsT,pcT]
theorem yr(x:Term):coreText x=pcsT coreText (pcsX x):=by
 cases h:fmX x with
 |none =>
  cases x with
  |leaf l=>exact(append_nil _).symm
  |_=>cases h
 |some f =>
 obtain⟨q,c,l,e⟩:=qr h;rw[q];unfold pcsX txX;rw[h,e];rw[map_cons,qp];have k:∀zx:List (Pc Term),1<zx.length->pcsT coreText ((l.map (·.2)).foldl bc zx++[.inl [41]])=pcsT coreText zx++((l.map λc=>pcT coreText c.2).flatMap (λy=>32::y)++[41]):=λzx ha=>by
  unfold pcsT;rw[flatMap_append];have:=yq coreText (l.map (·.2)) zx ha;unfold pcsT at this;rw[this,append_assoc,List.flatMap_map,List.flatMap_map];rfl
 show _=pcsT coreText ((l.map (·.2)).foldl bc (bc (pcs0 f) c.2)++[.inl [41]]);by_cases hf:f=.app
 ·rw[hf,k _ (by simp[bc,pcs0])]
  simp[hdT,pcsT,pcT,bc,pcs0]
 have:bc (pcs0 f) c.2=[.inl [40],.inl (txt f.word),.inl [32],c.2]:=by unfold bc pcs0;rw[if_neg hf];rfl
 rw[this,k _ (by simp),hdT,if_neg hf];simp[pcsT,pcT]
noncomputable def szX:Term->Nat
 |.leaf _=>1
 |.one _ a=>1+szX a
 |.two _ a b=>1+szX a+szX b
 |.three _ a b c=>1+szX a+szX b+szX c
 |.fn _ a=>1+szX a
 |.rec_ _ _ a=>1+szX a
 |.let_ _ a b=>1+szX a+szX b
 |.case l a _ _ b=>1+szX l+szX a+szX b
theorem yt(x:Term):∀d:Nat,(depths d x).length=szX x:=by
 have ad:∀{m n k:Nat},m=n->m+1+k=1+n+k:=λh=>by rw[h,add_comm 1]
 have key:∀{l m:List Nat}{n k:Nat},l.length=n->m.length=k->(l++m).length=n+k:=λh q=>by rw[length_append,h,q]
 induction x with
 |leaf l=>exact λd=>rfl
 |one o a ih=>exact λd=>ad (k:=0) (ih _)
 |fn x a ih=>exact λd=>ad (k:=0) (ih _)
 |rec_ f x a ih=>exact λd=>ad (k:=0) (ih _)
 |two o a b i j=>exact λd=>(congrArg (· + 1) (key (i _) (j _))).trans (by show _=1+szX a+szX b;omega)
 |let_ x a b i j=>exact λd=>(congrArg (· + 1) (key (i _) (j _))).trans (by show _=1+szX a+szX b;omega)
 |three o a b c i j k=>exact λd=>(congrArg (· + 1) (key (i _) (key (j _) (k _)))).trans (by show _=1+szX a+szX b+szX c;omega)
 |case l a y t b i j k=>exact λd=>(congrArg (· + 1) (key (i _) (key (j _) (k _)))).trans (by show _=1+szX l+szX a+szX b;omega)
theorem jc{x:Term}{tr:Tr}(h:Rep x tr)(d:Nat):(aQ d tr).length=szX x:=by
 rw[<- yt x d,<- qm h d,length_map]
def pcC{A:Type}(c:A->Nat):Pc A->Nat
 |.inl _=>1
 |.inr a=>c a
def pcsC{A:Type}(c:A->Nat)(l:List (Pc A)):Nat:=(l.map (pcC c)).sum
theorem yu{A:Type}(g:Pc A->Nat)(l:List (Pc A)):∀zx:List (Pc A),((l.foldl bc zx).map g).sum<=(zx.map g).sum+(l.map λc=>g (.inl [32])+g c).sum:=by
 induction l with
 |nil=>exact λ_=>Nat.le_refl _
 |cons c l ih =>
 intro zx;have h:=ih (bc zx c);have q:((bc zx c).map g).sum<=(zx.map g).sum+(g (.inl [32])+g c):=by
  unfold bc;split<;>simp<;>omega
 rw[foldl_cons,map_cons,sum_cons];omega
theorem yw{A:Type}(g:Pc A->Nat)(ks:List SK):∀(ws:List (List Nat)) (ts:List A),((cU ks ws ts).map λc=>g c.2).sum<=(ws.map λw=>g (.inl w)).sum+(ts.map λt=>g (.inr t)).sum:=by
 induction ks with
 |nil=>exact λ_ _=>zero_le _
 |cons k ks ih =>
 intro ws ts;cases k with
 |p b=>cases ts with
  |nil=>exact zero_le _
  |cons t ts =>
   have:=ih ws ts;show(((.p b,.inr t)::cU ks ws ts).map λc=>g c.2).sum<=_;rw[map_cons,sum_cons,map_cons,sum_cons];dsimp only;omega
 |_=>cases ws with
  |nil=>exact zero_le _
  |cons w ws =>
   have:=ih ws ts;show(((_,.inl w)::cU ks ws ts).map λc=>g c.2).sum<=_;rw[map_cons,sum_cons,map_cons,sum_cons];dsimp only;omega
theorem yx{A:Type}{g:A->Nat}{m:Nat}{l:List A}(q:∀x∈l,g x<=m):(l.map g).sum<=m*l.length:=by
 induction l with
 |nil=>exact zero_le _
 |cons x l ih=>exact Nat.le_trans (Nat.add_le_add (q x (mem_cons_self ..)) (ih λy m=>q y (mem_cons_of_mem _ m))) (Nat.le_of_eq (add_comm ..))
theorem yy{k c:Nat}{g:Term->Nat}{l:List Term}(q:∀x∈l,g x<=k*szX x+c):(l.map g).sum<=k*(l.map szX).sum+c*l.length:=by
 induction l with
 |nil=>exact zero_le _
 |cons x l ih =>
 have h:=ih λy m=>q y (mem_cons_of_mem _ m);have:=q x (mem_cons_self ..);rw[map_cons,sum_cons,map_cons,sum_cons,length_cons,Nat.mul_add,Nat.mul_succ];omega
theorem qu(x:Term):szX x=1+((aX x).map szX).sum:=by
 cases x<;>simp[szX,aX,add_assoc]
theorem few(x:Term):(aM x).length<=2/\(aX x).length<=3:=by
 cases x
 case' leaf l=>cases l
 case' one o a=>cases o
 all_goals exact⟨le_of_ble_eq_true rfl,le_of_ble_eq_true rfl⟩
theorem jd{g:Pc Term->Nat}{m k c:Nat}{x:Term}(hw:∀w∈aM x,g (.inl w)<=m)(hp:∀y∈aX x,g (.inr y)<=k*szX y+c):((aL x).map λc=>g c.2).sum+k<=m*2+c*3+k*szX x:=by
 have h:=yw g (skX x) (aM x) (aX x);rw[<- gD]at h;obtain⟨e1,e2⟩:=few x;have h1:=Nat.le_trans (yx hw) (Nat.mul_le_mul_left m e1);have h2:=yy hp;have h3:=Nat.mul_le_mul_left c e2;rw[qu x,Nat.mul_add];omega
theorem qv(o:Vaunid.Two)(a b:Term):aL (.two o a b)=[(.p false,.inr a),(.p false,.inr b)]:=by cases o<;>rfl
theorem qw(o:Vaunid.Three)(a b c:Term):aL (.three o a b c)=[(.p false,.inr a),(.p false,.inr b),(.p false,.inr c)]:=by cases o<;>rfl
theorem ll{A:Type}{c:SK×Pc A}(ks:List SK):∀(ws:List (List Nat)) (ts:List A),c∈cU ks ws ts->(∃b t,c=(.p b,.inr t)/\t∈ts)\/∃k w,c=(k,.inl w)/\∀b,k≠.p b:=by
 induction ks with
 |nil=>intro ws ts h;cases h
 |cons s ks ih =>
 intro ws ts h;cases s with
 |p b=>cases ts with
  |nil=>cases h
  |cons u ts =>
   rcases mem_cons.mp h with e|h
   ·exact .inl ⟨_,_,e,mem_cons_self ..⟩
   exact(ih ws ts h).imp (λ⟨b,t,e,m⟩=>⟨b,t,e,mem_cons_of_mem _ m⟩) id
 |_=>cases ws with
  |nil=>cases h
  |cons u ws =>
   rcases mem_cons.mp h with e|h
   ·exact .inr ⟨_,_,e,λ_ z=>by cases z⟩
   exact ih ws ts h
theorem yz{x:Term}{b:Bool}{t:Term}(h:(SK.p b,Sum.inr t)∈aL x):szX t+1<=szX x:=by
 rw[gD]at h;rcases ll _ _ _ h with⟨b,u,e,m⟩|⟨k,w,e,_⟩
 ·cases e
  have key:∀l:List Term,t∈l->szX t<=(l.map szX).sum:=λl=>by
   induction l with
   |nil=>intro m;cases m
   |cons a l ih =>
   intro m;rw[map_cons,sum_cons];rcases mem_cons.mp m with rfl|m
   ·omega
   have:=ih m;omega
  have:=key _ m;rw[qu x];omega
 cases e
theorem lq(x:Term):(aL x).length<=5:=by
 have h:=jd (g:=λ_=>1) (m:=1) (k:=0) (c:=1) (x:=x) (λ_ _=>Nat.le_refl _) λ_ _=>by omega
 have e:∀l:List (SK×Pc Term),(l.map λ_=>1).sum=l.length:=λl=>by
  induction l with
  |nil=>rfl
  |cons c l ih=>rw[map_cons,sum_cons,ih,length_cons,add_comm]
 rw[e]at h;omega
theorem yA(x:Term):1+pcsC (λy=>14*szX y) (pcsX x)<=14*szX x:=by
 cases h:fmX x with
 |none =>
  cases x with
  |leaf l=>show 1+(1+0)<=14*1;omega
  |_=>cases h
 |some f =>
 have q:=jd (g:=λc=>1+pcC (λy=>14*szX y) c) (m:=2) (k:=14) (c:=1) (x:=x) (λ_ _=>Nat.le_refl 2) λy _=>(by show 1+14*szX y<=_;omega);have r:=yu (pcC λy:Term=>14*szX y) ((aL x).map (·.2)) (pcs0 f);have z:((pcs0 f).map (pcC λy:Term=>14*szX y)).sum<=2:=by
  unfold pcs0;split<;>simp[pcC]
 unfold pcsX pcsC;rw[h,map_append,sum_append];rw[map_map]at r;show 1+(_+(1+0))<=_;have r:_<=_+(List.map (λc=>1+pcC (λy=>14*szX y) c.2) (aL x)).sum:=r;omega
theorem je{n c:Nat}(h:c∈decimal n):48<=c/\c<=57:=by
 unfold decimal at h;obtain⟨d,m,rfl⟩:=mem_map.mp h;have q:=Nat.isDigit_of_mem_toDigits (by decide) (by decide) m;unfold Char.isDigit at q;rw[and_eq_true,decide_eq_true_eq,decide_eq_true_eq]at q;exact⟨q.1,q.2⟩
def Fg(c:Nat):Prop:=c=45\/(48<=c/\c<=57)
theorem qx{c:Nat}(h:Fg c):Dl c:=⟨by unfold Fg at h;omega,by unfold Fg at h;omega⟩
theorem yB(z:Int):∀c∈decimalInt z,Fg c:=λc h=>by
 unfold decimalInt at h;split at h
 ·exact(mem_cons.mp h).elim .inl λm=>.inr (je m)
 exact .inr (je h)
theorem yC(z:Int):NoD (decimalInt z):=λc m=>qx (yB z c m)
theorem yD{x:List Nat}(h:isName x=true):(∃c r,x=c::r/\Vaunid.isSmall c=true)/\(∀c∈x,Vaunid.inWord c=true)/\x.length<=12/\isTaken x=false:=by
 unfold isName at h;rw[and_eq_true,and_eq_true,Bool.not_eq_true',decide_eq_true_eq]at h;obtain⟨h1,h2,h3⟩:=h;cases x with
 |nil=>cases h1
 |cons c r =>
 have h1:(Vaunid.isSmall c&&r.all Vaunid.inWord)=true:=h1;rw[and_eq_true,all_eq_true]at h1;exact⟨⟨c,r,rfl,h1.1⟩,allc (iG h1.1) h1.2,h2,h3⟩
def GW(f w:List Nat):Prop:=w.length<=10100/\NoD w/\(f=txt "name"->isName w=true)
theorem dS{w:List Nat}(h:isName w=true)(f:List Nat):GW f w:=by
 obtain⟨_,h1,h2,_⟩:=yD h;exact⟨by omega,λc m=>(pV (h1 c m)).1,λ_=>h⟩
theorem qy{k:Vaunid.Tok}(g:bJ k){f:List Nat}(hf:f≠txt "name"):GW f (eI k):=by
 cases k with
 |num v d =>
  obtain⟨h1,h2,h3,_,h5⟩:=g;have q1:=pY h2;have q2:=i9 h3;show GW f (shownLit v);rw[p9 v ⟨h1,h2,h3⟩];have q3:(v.measure.getD []).length<=10000/\NoD (v.measure.getD []):=by
   cases e:v.measure with
   |none=>exact⟨zero_le _,all0⟩
   |some m=>exact⟨(h1 m e).2,h5 m e⟩
  have q4:(if v.low=1 then[]else 47::decimal v.low).length<=13/\NoD (if v.low=1 then[]else 47::decimal v.low):=by
   split
   ·exact⟨zero_le _,all0⟩
   exact⟨by rw[length_cons];omega,.cons ⟨by decide,by decide⟩ λc m=>qx (.inr (je m))⟩
  have q5:(if v.measure.getD []=[]then[]else 91::(v.measure.getD []++[93])).length<=10002/\NoD (if v.measure.getD []=[]then[]else 91::(v.measure.getD []++[93])):=by
   split
   ·exact⟨zero_le _,all0⟩
   exact⟨by simp only[length_cons,length_append,length_nil];omega,.cons ⟨by decide,by decide⟩ (q3.2.app (.cons ⟨by decide,by decide⟩ all0))⟩
  exact⟨by simp only[length_append];omega,((yC _).app q4.2).app q5.2,λe=>absurd e hf⟩
 |_=>exact⟨zero_le _,all0,λe=>absurd e hf⟩
def GL(l:Leaf):Prop:=∀w∈iX l,GW (txt (dB l)) w
theorem yE{k:Vaunid.Tok}(g:bJ k){l:Leaf}(h:Vaunid.leafOf k=some l):GL l:=by
 unfold Vaunid.leafOf at h;split at h
 ·cases h;exact allc (qy g (show txt "number"≠_ by left)) all0
 ·split at h
  ·cases h;exact all0
  split at h
  ·cases h;exact all0
  split at h
  ·cases h;exact all0
  split at h
  ·rename_i q;cases h;exact allc (dS q _) all0
  cases h
 cases h
inductive GT:Term->Prop
 |mk {x:Term}:(∀w∈aM x,GW (a9 x) w)->(∀y∈aX x,GT y)->GT x
inductive GR:Tr->Prop
 |mk {f:List Nat}{ws:List (List Nat)}{b e:Nat}{ps:List Tr}:(∀w∈ws,GW f w)->(∀t∈ps,GR t)->GR (.mk f ws b e ps)
theorem yF{x:Term}{tr:Tr}(h:Rep x tr):GR tr->GT x:=
 Rep.rec (motive_1:=λx tr _=>GR tr->GT x) (motive_2:=λxs ts _=>(∀t∈ts,GR t)->∀y∈xs,GT y) (λ_ ih g=>by
  cases g with
  |mk h1 h2=>exact .mk h1 (ih h2)) (λ_=>all0) (λ_ _ i1 i2 g=>allc (i1 (g _ (mem_cons_self ..))) (i2 λt q=>g t (mem_cons_of_mem _ q))) h
theorem yG(f:Fm):(hdT f).length<=6:=by cases f<;>left
theorem yH(l:List (List Nat)):(jn l).length<=(l.map λt=>t.length+1).sum:=by
 cases l with
 |nil=>exact Nat.le_refl _
 |cons x l =>
 rw[qp,length_append,List.length_flatMap];exact Nat.add_le_add (le_succ _) (Nat.le_refl _)
theorem qz{x:Term}(h:GT x):(coreText x).length<=20400*szX x:=by
 induction h with
 |@mk x hw hp ih =>
 cases e:fmX x with
 |none =>
  cases x with
  |leaf l =>
   show(shownLeaf l).length<=20400*1;cases l with
   |name x=>have:=(hw x (mem_cons_self ..)).1;show x.length<=_;omega
   |num v=>have:=(hw _ (mem_cons_self ..)).1;show(shownLit v).length<=_;omega
   |truth b=>cases b<;>decide
   |nil=>decide
  |_=>cases e
 |some f =>
 have q:=jd (g:=λc=>(pcT coreText c).length+1) (m:=10101) (k:=20400) (c:=1) (λw m=>Nat.succ_le_succ (hw w m).1) λy m=>Nat.succ_le_succ (ih y m);have r:=yH (txX x);have z:=yG f;rw[(qr e).1,length_cons,length_append,length_append,length_singleton];unfold txX at r ⊢;rw[map_map]at r;have r:_<=(List.map (λc=>(pcT coreText c.2).length+1) (aL x)).sum:=r;omega
structure FB(pf:PF):Prop where
 f:pf.form≠txt "name"
 w:∀w∈pf.ws,GW pf.form w
 t:∀t∈pf.ts,GR t
structure MB(s:MS):Prop where
 fs:∀pf∈s.fs,FB pf
 l:ba s.l
 res:∀t∈s.res,GR t
theorem yI{l:Toks}(h:ba l):ba (aK l).2:=by
 obtain⟨pre,e⟩:=kX l;rw[e]at h;exact h.suf
theorem snoc{α:Type}{P:α->Prop}{l:List α}{a:α}(h:∀x∈l,P x)(q:P a):∀x∈l++[a],P x:=List.forall_mem_append.mpr ⟨h,allc q all0⟩
theorem yJ(f:Fm):txt f.word≠txt "name":=by cases f<;>left
theorem MB.step{s s':MS}(h:MB s)(e:bN s=some (.ok s')):MB s':=by
 obtain⟨fs,l,res⟩:=s;obtain⟨h1,h2,h3⟩:=h;cases fs with
 |nil=>cases e
 |cons pf fs =>
 cases l with
 |nil=>cases e
 |cons t l =>
 have g:=h2 t (mem_cons_self ..);have hl:ba l:=λk hk=>h2 k (mem_cons_of_mem _ hk);obtain⟨⟨f1,f2,f3⟩,hfs⟩:=forall_mem_cons.mp h1;simp only[bN]at e;split at e
 ·split at e
  ·cases fs with
   |nil =>
    cases e;exact⟨all0,hl,allc (.mk f2 f3) all0⟩
   |cons q fs =>
    cases e;obtain⟨⟨q1,q2,q3⟩,hfs⟩:=forall_mem_cons.mp hfs;exact⟨allc ⟨q1,q2,snoc q3 (.mk f2 f3)⟩ hfs,hl,h3⟩
  cases e
 ·split at e
  ·cases e
  split at e
  ·split at e
   ·cases e
   cases e;exact⟨allc ⟨yJ _,all0,all0⟩ (allc ⟨f1,f2,f3⟩ hfs),yI hl,h3⟩
  split at e
  ·rename_i x hx
   cases e;exact⟨allc ⟨f1,f2,snoc f3 (.mk (yE g hx) all0)⟩ hfs,hl,h3⟩
  cases e
 ·split at e
  ·rename_i hk
   cases e;obtain⟨w,e1,e2⟩:=(iY g).mp hk;exact⟨allc ⟨f1,snoc f2 (by rw[e1];exact dS e2 _),f3⟩ hfs,hl,h3⟩
  cases e
 split at e
 ·cases e
  exact⟨allc ⟨f1,snoc f2 (qy g f1),f3⟩ hfs,hl,h3⟩
 cases e
theorem yK{s:MS}{R:Res Tr}{n:Nat}(h:Run s R n):MB s->∀tr,R=.ok tr->GR tr:=by
 induction h with
 |done=>intro h tr e;cases e;exact h.res _ (mem_cons_self ..)
 |bad _=>intro _ _ e;cases e
 |go h1 _ ih=>exact λh=>ih (h.step h1)
end M
namespace L2
open PySem PySem.Spec PyProof.Rows TL
section
variable{X:Cx}
def qA(K:Frag):R2:=λx y H Q=>∃a b xs ys,x=.ref a/\y=.ref b/\SqT K H a xs/\SqT K H b ys/\xs.length+ys.length<=sizeLine/\∀p H',Same H H'->SqT K H' p (xs++ys)->Q (.ref p) H'
theorem yL:OpR X (binaryOp .Add) (qA X.K):=by
 intro zz s σ H x y v u Q I rx ry h;refine x_40 h λa b xs ys zy=>x_05 zy λzr4 zr5 ha hb hz q=>?_;subst zr4;subst zr5;by_cases hx:xs=[]
 ·subst hx
  cases rx;cases ry;refine x_12 (I.tuple ha) λzw r1 p1 _=>?_;refine x_12 (I.tuple hb) λits2 r2 p2 _=>?_;have e1:zw=[]:=r1.nil_iff.mpr rfl;subst e1;refine x_12 (id p1) λzn0 ho hc zz0=>?_;refine x_10 zz0 λn hd=>?_;obtain⟨cls,dd,data,sl⟩:=zn0;refine x_12 (id p2) λzn0 ho2 hc2 zz0=>?_;refine x_10 zz0 λn2 hd2=>?_;obtain⟨cls2,dd2,data2,sl2⟩:=zn0;simp only at hc hd hc2 hd2;subst hc hd hc2 hd2;exact concat_meets ⟨_,ho,rfl⟩ ⟨_,ho2,rfl⟩ noFill_tuple_add seq_tuple_add PySem.F.slot_tuple_add PySem.F.entry_tuple_add (PySem.F.args_tuple_add_2 _ _)
   (tuple_addW0 a b #[] its2.toArray n n2 dd dd2 sl sl2 rfl) ⟨ho,ho2,⟨.ref b,H,I,rfl,q b H (Same.refl _) hb⟩⟩
 refine tW zz s σ H _ _ v u Q I rx ry ⟨a,b,xs,ys,rfl,rfl,ha,hb,hx,hz,λe=>?_,λe p hp=>?_⟩
 ·subst e
  rw[append_nil]at q;exact q a H (Same.refl _) ha
 exact q p _ (Same.upd hp) (SqT.of ai)
theorem yM(hcalm:X.calm=true):cB X (.type "list") (λxs H Q=>∃a zu,xs=[.ref a]/\H a=some (.dK zu)/\∀l,H l=none->Q (.ref l) (upd H l (.lst (zu.map λp=>kV p.1)))):=by
 intro zz s σ H xs us Q I r h;refine x_22 h λa zu zr2 ha q=>?_;subst zr2;obtain⟨u,rfl,rx⟩:=dX r;cases rx;refine x_02 (mW I.hok ha) λz hd zz0=>?_;refine x_11 zz0 λvs rel dd=>?_;obtain⟨ep,dat⟩:=dd.dictAt;have zr:zu.length=vs.length:=Paired.length rel;refine PySem.W.kdl_call (PySem.W.kdl_dict (knd:=bE X.prog X.w) (ep:=ep) hd) (I.ok.hd hcalm) dat (by rw[<- zr];exact z) λh' tk zx c hk hS hacc=>?_;refine⟨.ref s.heap.objs.size,_,I.laid (t':=tk) hk (Nat.le_refl _) (show aO X.prog X.w _ h' _ (.lst (zu.map λp=>kV p.1))from⟨by rw[length_map];exact z,zx.toList,c,?_,by rw[Array.toArray_toList];exact hS⟩),rfl,q _ (I.hok.fresh (Nat.le_refl _))⟩;have key:∀(l:List (Key×V)) (m:List (Key×Value)) (ws:List Value),KV l m->ws.length=m.length->(∀(i:Nat) (v:Value),ws[i]? = some v->∃(k:Key) (x:Value),m[i]? = some (k,x)/\(bE X.prog X.w).is k v=true)->Vals (l.map λp=>kV p.1) ws:=by
  intro l
  induction l with
  |nil =>
   intro m ws h1 h2 h3;cases h1;cases ws with
   |nil=>exact .nil
   |cons _ _=>cases h2
  |cons p l ih =>
  intro m ws h1 h2 h3;cases h1 with
  |@cons _ q0 _ m r t =>
  cases ws with
  |nil=>cases h2
  |cons v ws =>
  refine x_21 (h3 0 v rfl) λk x e1 e2=>?_;have e3:q0=(k,x):=by injection e1
  subst e3;refine .cons ?_ (ih m ws t (by simpa using h2) λi v hv=>h3 (i+1) v hv);obtain⟨k0,v0⟩:=p;have e4:k0=k:=r.1;subst e4;show RelV (kV k0) v;rcases da (show ez k0 v=true from e2)with⟨i,t,rfl,rfl⟩|⟨y,t,rfl,rfl⟩
  ·exact⟨t,rfl⟩
  exact⟨t,rfl⟩
 refine key zu vs zx.toList rel (by rw[Array.length_toList];exact hacc.1) λi v hv=>?_;exact hacc.2 i v (by rw[<- Array.getElem?_toList];exact hv)
end
theorem Room.u1{k:Nat}{A:Around}(r:Room k A):A.units+1<cLine:=by
 have:=r.un;omega
theorem yN:bootBuiltins "list"=some (.type "list"):=by left
theorem yO:bootBuiltins "tuple"=some (.type "tuple"):=by left
theorem boot_dict1:bootBuiltins "dict"=some (.type "dict"):=by left
end L2
namespace M
open PySem PySem.Spec PyProof.Rows L2 TL
open Vaunid (Token txt word sign freeIn once)
def insO(got:List (List Nat))(z:List Nat):List (List Nat):=if z∈got then got else got++[z]
def cz(got l:List (List Nat)):List (List Nat):=l.foldl insO got
theorem eL(l:List (List Nat))(x:List Nat):(l.any λy=>y==x)=decide (x∈l):=by
 rw[Bool.eq_iff_iff];simp
theorem lr:∀(l g g':List (List Nat)),(∀y,y∈g↔y∈g')->cz g l=g++once g' l
 |[],g,g',_=>by
  show g=g++[];rw[append_nil]
 |x::r,g,g',h=>by
  show cz (insO g x) r=_;unfold once insO;rw[eL];by_cases hx:x∈g
  ·rw[if_pos hx,if_pos (by rw[decide_eq_true ((h x).mp hx)]),lr r g g' h]
  rw[if_neg hx,if_neg (by rw[decide_eq_false λz=>hx ((h x).mpr z)];simp),lr r (g++[x]) (x::g') (λy=>by simp[h y];exact or_comm)];simp
theorem qB(x:Term):Vaunid.free x=cz [] (freeIn [] x):=(lr (freeIn [] x) [] [] λ_=>Iff.rfl).symm
theorem b9:∀(x:Term) (b b':List (List Nat)),(∀y,y∈b↔y∈b')->freeIn b x=freeIn b' x
 |.leaf (.name y),b,b',h=>by
  unfold freeIn;rw[eL,eL,decide_eq_decide.mpr (h y)]
 |.leaf (.num _),b,b',h=>rfl
 |.leaf (.truth _),b,b',h=>rfl
 |.leaf .nil,b,b',h=>rfl
 |.one _ a,b,b',h=>b9 a b b' h
 |.two _ a c,b,b',h=>by unfold freeIn;rw[b9 a b b' h,b9 c b b' h]
 |.three _ a c d,b,b',h=>by unfold freeIn;rw[b9 a b b' h,b9 c b b' h,b9 d b b' h]
 |.fn x a,b,b',h=>by unfold freeIn;rw[b9 a (x::b) (x::b') λy=>by simp[h y]]
 |.rec_ f x a,b,b',h=>by unfold freeIn;rw[b9 a (x::f::b) (x::f::b') λy=>by simp[h y]]
 |.let_ x a c,b,b',h=>by unfold freeIn;rw[b9 a b b' h,b9 c (x::b) (x::b') λy=>by simp[h y]]
 |.case l a hh t c,b,b',h=>by unfold freeIn;rw[b9 l b b' h,b9 a b b' h,b9 c (t::hh::b) (t::hh::b') λy=>by simp[h y]]
abbrev FI:=Term×List (List Nat)
noncomputable def fiOf(b ws:List (List Nat)):SK×Pc Term->Option FI
 |(.p false,.inr t)=>some (t,b)
 |(.p true,.inr t)=>some (t,b++ws)
 |_=>none
noncomputable def fis(b:List (List Nat))(x:Term):List FI:=(aL x).filterMap (fiOf b (aM x))
def eM(l:List FI):List (List Nat):=l.flatMap λi=>freeIn i.2 i.1
theorem yP(x:Term)(b:List (List Nat))(h:∀y,¬x=.leaf (.name y)):freeIn b x=eM (fis b x):=by
 have c1:∀(x:List Nat) (a:Term),freeIn (x::b) a=freeIn (b++[x]) a:=λx a=>b9 _ _ _ λy=>by simp[or_comm]
 have c2:∀(f x:List Nat) (a:Term),freeIn (x::f::b) a=freeIn (b++[f,x]) a:=λf x a=>b9 _ _ _ λy=>by simp;constructor<;>(rintro(h|h|h)<;>simp[h])
 cases x with
 |leaf l =>
  cases l with
  |name y=>exact absurd rfl (h y)
  |_=>rfl
 |one o a=>cases o<;>exact(append_nil (freeIn b a)).symm
 |two o a c =>
  unfold fis;rw[qv];show _=freeIn b a++(freeIn b c++[]);rw[append_nil];rfl
 |three o a c d =>
  unfold fis;rw[qw];show _=freeIn b a++(freeIn b c++(freeIn b d++[]));rw[append_nil];rfl
 |fn x a=>exact(c1 x a).trans (append_nil _).symm
 |rec_ f x a=>exact(c2 f x a).trans (append_nil _).symm
 |let_ x a c =>
  show freeIn b a++freeIn (x::b) c=freeIn b a++(freeIn (b++[x]) c++[]);rw[append_nil,c1]
 |case l a hh t c =>
 show freeIn b l++(freeIn b a++freeIn (t::hh::b) c)=freeIn b l++(freeIn b a++(freeIn (b++[hh,t]) c++[]));rw[append_nil,c2]
noncomputable def szF(l:List FI):Nat:=(l.map λi=>szX i.1).sum
theorem qC(x:Term):1<=szX x:=by cases x<;>simp only[szX]<;>omega
theorem yQ(x:Term)(b:List (List Nat)):szF (fis b x)+1=szX x:=by
 unfold fis;cases x with
 |leaf l=>rfl
 |one o a=>cases o<;>exact add_comm ..
 |two o a c=>rw[qv];show szX a+(szX c+0)+1=1+szX a+szX c;omega
 |three o a c d=>rw[qw];show szX a+(szX c+(szX d+0))+1=1+szX a+szX c+szX d;omega
 |fn x a=>exact add_comm ..
 |rec_ f x a=>exact add_comm ..
 |let_ x a c=>show szX a+(szX c+0)+1=1+szX a+szX c;omega
 |case l a hh t c=>show szX l+(szX a+(szX c+0))+1=1+szX l+szX a+szX c;omega
theorem gE(l m:List FI):szF (l++m)=szF l+szF m:=by
 unfold szF;rw[map_append,sum_append]
theorem lu:∀l:List FI,szF l.reverse=szF l
 |[]=>rfl
 |x::r=>by
  rw[reverse_cons,gE,lu r];unfold szF;simp;omega
theorem qD:∀l:List FI,l.length<=szF l
 |[]=>Nat.le_refl _
 |x::r=>by
  have ih:=qD r;have hx:=qC x.1;unfold szF at ih ⊢;rw[map_cons,sum_cons,length_cons];omega
theorem qE{x:Term}:(aM x).length<=2:=(few x).1
def dk(got:List (List Nat)):List (Key×V):=got.map λn=>(Sum.inr (S n),V.bl true)
theorem yR(got:List (List Nat))(z:List Nat):putK (dk got) (Sum.inr (S z)) (V.bl true)=dk (insO got z):=by
 unfold putK insO;have e:((dk got).any λkv=>decide (kv.1=Sum.inr (S z)))=decide (z∈got):=by
  unfold dk;rw[any_map,Bool.eq_iff_iff];simp only[any_eq_true,Function.comp_def,decide_eq_true_eq,Sum.inr.injEq,bB]
  constructor
  ·rintro⟨y,hy,rfl⟩;exact hy
  exact λh=>⟨z,h,rfl⟩
 rw[e];by_cases h:z∈got
 ·rw[if_pos (decide_eq_true h),if_pos h]
  unfold dk;rw[map_map];refine List.map_congr_left λy hy=>?_;show(if(Sum.inr (S y):Key)=Sum.inr (S z)then((Sum.inr (S y):Key),V.bl true)else(Sum.inr (S y),V.bl true))=_;split<;>rfl
 rw[if_neg (by rw[decide_eq_false h];simp),if_neg h];unfold dk;rw[map_append];rfl
theorem qF(got:List (List Nat))(z:List Nat):(insO got z).length<=got.length+1:=by
 unfold insO;split
 ·omega
 simp
def Mut(H:Hp)(x:Addr):Prop:=(∃l,H x=some (.lst l))\/∃l,H x=some (.dK l)
theorem SqT.keepX{K:Frag}{H H':Hp}{xs:List Addr}{a:Addr}{vs:List V}(h:SqT K H a vs)(s:af xs H H')(n:∀x∈xs,Mut H x):SqT K H' a vs:=by
 have key:∀o,H a=some o->(∀l,o≠.lst l)->(∀l,o≠.dK l)->H' a=some o:=λo e n1 n2=>s _ _ (λm=>by
  rcases n a m with⟨l,q⟩|⟨l,q⟩
  ·rw[q]at e;injection e with e;exact n1 l e.symm
  rw[q]at e;injection e with e;exact n2 l e.symm) e
 rcases h with h|h
 ·rcases h with h|⟨o,h⟩
  ·exact .inl (.inl (key _ h (by intro l z;cases z) (by intro l z;cases z)))
  exact .inl (.inr ⟨o,key _ h (by intro l z;cases z) (by intro l z;cases z)⟩)
 exact .inr h
open Vaunid (txt renamed bindings vName vNames)
abbrev RE:=List (List Nat×List Nat)
noncomputable def goF(env:RE):List (SK×Pc Term)->RE->List (List Nat)->List (List Nat)->List Term->List (List Nat)×List Term×List (List Nat)
 |[],_,new,ws,ts=>(ws,ts,new)
 |(.n,.inl x)::r,wi,new,ws,ts=>goF env r ((x,new.headD [])::wi) (new.drop 1) (ws++[new.headD []]) ts
 |(_,.inl x)::r,wi,new,ws,ts=>goF env r wi new (ws++[x]) ts
 |(.p false,.inr t)::r,wi,new,ws,ts=>goF env r wi (renamed env new t).2 ws (ts++[(renamed env new t).1])
 |(_,.inr t)::r,wi,new,ws,ts=>goF env r wi (renamed wi new t).2 ws (ts++[(renamed wi new t).1])
theorem yS(env:RE)(new:List (List Nat)){x:Term}{f:Fm}(h:fmX x=some f):a9 (renamed env new x).1=a9 x/\goF env (aL x) env new [] []=(aM (renamed env new x).1,aX (renamed env new x).1,(renamed env new x).2):=by
 cases x with
 |leaf l=>cases h
 |one o a=>cases o<;>exact⟨rfl,rfl⟩
 |two o a b=>cases o<;>exact⟨rfl,rfl⟩
 |three o a b c=>cases o<;>exact⟨rfl,rfl⟩
 |fn=>exact⟨rfl,rfl⟩
 |rec_ y z a =>
  refine⟨rfl,?_⟩;show goF env [(.p true,.inr a)] _ ((new.drop 1).drop 1) _ _=_;rw[drop_drop];rfl
 |let_=>exact⟨rfl,rfl⟩
 |case l a y z b =>
 refine⟨rfl,?_⟩;show goF env [(.p true,.inr b)] _ (((renamed env (renamed env new l).2 a).2.drop 1).drop 1) _ _=_;rw[drop_drop];rfl
theorem eh(x:Term):∀(env:RE) (new:List (List Nat)),(renamed env new x).2=new.drop (bindings x):=by
 induction x with
 |leaf l=>intro env new;cases l<;>rfl
 |one o a ih=>exact ih
 |two o a b ia ib =>
  intro env new;show(renamed env (renamed env new a).2 b).2=new.drop (bindings a+bindings b);rw[ib,ia,drop_drop]
 |three o a b c ia ib ic =>
  intro env new;show(renamed env (renamed env (renamed env new a).2 b).2 c).2=new.drop (bindings a+bindings b+bindings c);rw[ic,ib,ia,drop_drop,drop_drop,add_assoc]
 |fn x a ia =>
  intro env new;show(renamed _ (new.drop 1) a).2=new.drop (1+bindings a);rw[ia,drop_drop]
 |rec_ f x a ia =>
  intro env new;show(renamed _ (new.drop 2) a).2=new.drop (2+bindings a);rw[ia,drop_drop]
 |let_ x a b ia ib =>
  intro env new;show(renamed _ (renamed env (new.drop 1) a).2 b).2=new.drop (1+bindings a+bindings b);rw[ib,ia,drop_drop,drop_drop,add_assoc]
 |case l a h t b il ia ib =>
 intro env new;show(renamed _ ((renamed env (renamed env new l).2 a).2.drop 2) b).2=new.drop (2+bindings l+bindings a+bindings b);rw[ib,ia,il,drop_drop,drop_drop,drop_drop];congr 1;omega
def ej:List (SK×Pc Term)->Nat
 |[]=>0
 |(.n,.inl _)::r=>1+ej r
 |(_,.inl _)::r=>ej r
 |(_,.inr t)::r=>bindings t+ej r
theorem yT(x:Term):ej (aL x)=bindings x:=by
 cases x with
 |leaf l=>cases l<;>rfl
 |one o a=>cases o<;>(show bindings a+0=bindings a;omega)
 |two o a b=>cases o<;>(show bindings a+(bindings b+0)=bindings a+bindings b;omega)
 |three o a b c=>cases o<;>(show bindings a+(bindings b+(bindings c+0))=bindings a+bindings b+bindings c;omega)
 |fn _ a=>show 1+(bindings a+0)=1+bindings a;omega
 |rec_ _ _ a=>show 1+(1+(bindings a+0))=2+bindings a;omega
 |let_ _ a b=>show 1+(bindings a+(bindings b+0))=1+bindings a+bindings b;omega
 |case l a _ _ b=>show bindings l+(bindings a+(1+(1+(bindings b+0))))=2+bindings l+bindings a+bindings b;omega
inductive Fr(away:List (List Nat))(B:Nat):Nat->List (List Nat)->Prop
 |nil {i:Nat}:Fr away B i []
 |skip {i:Nat}{l:List (List Nat)}:vName i∈away->i<B->Fr away B (i+1) l->Fr away B i l
 |take {i:Nat}{l:List (List Nat)}:¬vName i∈away->i<B->Fr away B (i+1) l->Fr away B i (vName i::l)
theorem jf(away:List (List Nat)):∀(n i k:Nat),Fr away (i+n) i (vNames away n i k)
 |0,_,_=>.nil
 |n+1,i,k=>by
  unfold vNames;have ih:=λk=>jf away n (i+1) k;rw[show i+1+n=i+(n+1)by omega]at ih;by_cases h:k=0
  ·rw[if_pos h];exact .nil
  rw[if_neg h,eL];by_cases q:vName i∈away
  ·rw[decide_eq_true q,if_pos rfl];exact .skip q (by omega) (ih k)
  rw[decide_eq_false q,if_neg (by simp)];exact .take q (by omega) (ih (k - 1))
theorem yU{away:List (List Nat)}{B i:Nat}{l':List (List Nat)}(h:Fr away B i l'):∀{v:List Nat}{l:List (List Nat)},l'=v::l->∃j,i<=j/\j<B/\(∀m,i<=m->m<j->vName m∈away)/\¬vName j∈away/\v=vName j/\Fr away B (j+1) l:=by
 induction h with
 |nil=>intro v l e;cases e
 |@skip i l' h1 h2 _ ih =>
  intro v l e;refine x_13 (ih e) λj q1 q2 q3 q4=>?_;refine⟨j,by omega,q2,λm a b=>?_,q4⟩;by_cases z:m=i
  ·rw[z];exact h1
  exact q3 m (by omega) b
 |@take i l' h1 h2 h3 ih =>
 intro v l e;cases e;exact⟨i,Nat.le_refl _,h2,λm a b=>absurd a (by omega),h1,rfl,h3⟩
def yV(l:List Nat):Nat:=l.foldl (λa c=>10*a+(c - 48)) 0
theorem qG:∀i<2000,yV (decimal i)=i:=by left
theorem yW{i j:Nat}(hi:i<2000)(hj:j<2000)(h:vName i=vName j):i=j:=by
 unfold vName at h;injection h with _ h;rw[<- qG i hi,h,qG j hj]
theorem gF(away:List (List Nat)):∀(n i k:Nat) (aw:List (List Nat)),i+n<=2000->(∀j,i<=j->j<2000->vName j∈away->vName j∈aw)->aw.length+k<=n->(vNames away n i k).length=k
 |0,i,k,aw,_,_,h=>by
  have:k=0:=by omega
  rw[this];rfl
 |n+1,i,k,aw,h0,h1,h=>by
  unfold vNames;by_cases hk:k=0
  ·rw[if_pos hk,hk];rfl
  rw[if_neg hk,eL];by_cases q:vName i∈away
  ·rw[decide_eq_true q,if_pos rfl]
   have hm:=h1 i (Nat.le_refl _) (by omega) q;have hl:=List.length_erase_of_mem hm;have hp:0<aw.length:=List.length_pos_of_mem hm;refine gF away n (i+1) k (aw.erase (vName i)) (by omega) (λj a b c=>?_) (by omega);refine(List.mem_erase_of_ne λz=>?_).mpr (h1 j (by omega) b c);have:=yW b (by omega) z;omega
  rw[decide_eq_false q,if_neg (by simp),length_cons,gF away n (i+1) (k - 1) aw (by omega) (λj a b c=>h1 j (by omega) b c) (by omega)];omega
theorem lx(x:Term):∀(env:RE) (new:List (List Nat)),szX (renamed env new x).1=szX x:=by
 induction x with
 |leaf l=>intro env new;cases l<;>rfl
 |one o a ih=>exact λenv new=>congrArg (1+ ·) (ih env new)
 |two o a b ia ib =>
  intro env new;show 1+szX (renamed env new a).1+szX (renamed env _ b).1=1+szX a+szX b;rw[ia,ib]
 |three o a b c ia ib ic =>
  intro env new;show 1+szX (renamed env new a).1+szX (renamed env _ b).1+szX (renamed env _ c).1=1+szX a+szX b+szX c;rw[ia,ib,ic]
 |fn x a ih=>exact λenv new=>congrArg (1+ ·) (ih _ _)
 |rec_ f x a ih=>exact λenv new=>congrArg (1+ ·) (ih _ _)
 |let_ x a b ia ib =>
  intro env new;show 1+szX (renamed env _ a).1+szX (renamed _ _ b).1=1+szX a+szX b;rw[ia,ib]
 |case l a h t b il ia ib =>
 intro env new;show 1+szX (renamed env new l).1+szX (renamed env _ a).1+szX (renamed _ _ b).1=1+szX l+szX a+szX b;rw[il,ia,ib]
def NE(env:RE):Prop:=∀p∈env,isName p.2=true
def NW(l:List (List Nat)):Prop:=∀w∈l,isName w=true
theorem NE.cons{x v:List Nat}{env:RE}(h:isName v=true)(e:NE env):NE ((x,v)::env):=allc h e
theorem NW.head{l:List (List Nat)}(h:NW l)(n:0<l.length):isName (l.headD [])=true:=by
 cases l with
 |nil=>cases n
 |cons v r=>exact h v (mem_cons_self ..)
theorem NW.drop{l:List (List Nat)}(h:NW l)(k:Nat):NW (l.drop k):=λw m=>h w (List.mem_of_mem_drop m)
theorem GT.inv{x:Term}(h:GT x):(∀w∈aM x,GW (a9 x) w)/\∀y∈aX x,GT y:=by
 cases h with
 |mk h1 h2=>exact⟨h1,h2⟩
theorem GT.p{x a:Term}{l:List Term}(h:GT x)(e:aX x=a::l):GT a/\∀y∈l,GT y:=forall_mem_cons.mp (e ▸ h.inv.2)
theorem qH(x:Term):∀(env:RE) (new:List (List Nat)),NE env->NW new->bindings x<=new.length->GT x->GT (renamed env new x).1:=by
 have nd:∀{l:List (List Nat)}{k m:Nat},k+m<=l.length->m<=(l.drop k).length:=λ{l k m} h=>by rw[length_drop];omega
 induction x with
 |leaf l =>
  intro env new he hn _ h;cases l with
  |name y =>
   refine .mk (allc (dS (?_:isName (((env.find? λp=>p.1==y).map λp=>p.2).getD y)=true) _) all0) all0;cases q:env.find? λp=>p.1==y with
   |none=>exact(h.inv.1 y (mem_cons_self ..)).2.2 rfl
   |some p=>exact he p (mem_of_find?_eq_some q)
  |_=>exact h
 |one o a ih =>
  intro env new he hn hb h;have q:=allc (ih env new he hn hb (h.p rfl).1) all0;cases o<;>exact .mk h.inv.1 q
 |two o a b ia ib =>
  intro env new he hn hb h;have hb:bindings a+bindings b<=new.length:=hb;obtain⟨h1,h2⟩:=h.p rfl;refine .mk all0 (allc (ia env new he hn (by omega) h1) (allc ?_ all0));rw[eh];exact ib env _ he (hn.drop _) (nd hb) (h2 b (mem_cons_self ..))
 |three o a b c ia ib ic =>
  intro env new he hn hb h;have hb:bindings a+bindings b+bindings c<=new.length:=hb;obtain⟨h1,h2⟩:=h.p rfl;obtain⟨h2,h3⟩:=forall_mem_cons.mp h2;refine .mk all0 (allc (ia env new he hn (by omega) h1) ?_);rw[eh,eh];exact allc (ib env _ he (hn.drop _) (nd (by omega)) h2) (allc (ic env _ he ((hn.drop _).drop _) (nd (nd (by omega))) (h3 c (mem_cons_self ..))) all0)
 |fn y a ia =>
  intro env new he hn hb h;have hb:1+bindings a<=new.length:=hb;have n1:=hn.head (by omega);exact .mk (allc (dS n1 _) all0) (allc (ia _ _ (he.cons n1) (hn.drop 1) (nd hb) (h.p rfl).1) all0)
 |rec_ f y a ia =>
  intro env new he hn hb h;have hb:2+bindings a<=new.length:=hb;have n1:=hn.head (by omega);have n2:=(hn.drop 1).head (nd (by omega));exact .mk (allc (dS n1 _) (allc (dS n2 _) all0)) (allc (ia _ _ ((he.cons n1).cons n2) (hn.drop 2) (nd hb) (h.p rfl).1) all0)
 |let_ y a b ia ib =>
  intro env new he hn hb h;have hb:1+bindings a+bindings b<=new.length:=hb;have n1:=hn.head (by omega);obtain⟨h1,h2⟩:=h.p rfl;refine .mk (allc (dS n1 _) all0) (allc (ia _ _ he (hn.drop 1) (nd (by omega)) h1) (allc ?_ all0));rw[eh];exact ib _ _ (he.cons n1) ((hn.drop 1).drop _) (nd (nd (by omega))) (h2 b (mem_cons_self ..))
 |case l a y z b il ia ib =>
 intro env new he hn hb h;have hb:2+bindings l+bindings a+bindings b<=new.length:=hb;obtain⟨h1,h2⟩:=h.p rfl;obtain⟨h2,h3⟩:=forall_mem_cons.mp h2;have e:(renamed env (renamed env new l).2 a).2=(new.drop (bindings l)).drop (bindings a):=by rw[eh,eh]
 have hd:NW (renamed env (renamed env new l).2 a).2:=e ▸ (hn.drop _).drop _;have hq:2+bindings b<=(renamed env (renamed env new l).2 a).2.length:=e ▸ nd (nd (by omega));have n1:=hd.head (by omega);have n2:=(hd.drop 1).head (nd (by omega));refine .mk (allc (dS n1 _) (allc (dS n2 _) all0)) (allc (il _ _ he hn (by omega) h1) (allc ?_ (allc (ib _ _ ((he.cons n1).cons n2) (hd.drop 2) (nd hq) (h3 b (mem_cons_self ..))) all0)));rw[eh];exact ia _ _ he (hn.drop _) (nd (by omega)) h2
theorem ly(x:Term):bindings x<=2*szX x:=by
 induction x with
 |leaf l=>exact zero_le _
 |_=>simp only[bindings,szX];omega
theorem yX(i:Nat)(h:i<2000):isName (vName i)=true:=by
 unfold isName vName;have h1:(decimal i).length<=4:=by
  unfold decimal;rw[length_map];exact(Nat.length_toDigits_le_iff (by decide) (by decide)).mpr (by omega)
 have h2:isTaken (118::decimal i)=false:=by
  have q:∀t∈Vaunid.taken,t.headD 0≠118:=by left
  refine List.any_eq_false.mpr λt m e=>q t m ?_;rw[beq_iff_eq.mp e];rfl
 have h3:Vaunid.isWord (118::decimal i)=true:=by
  show(Vaunid.isSmall 118&&(decimal i).all Vaunid.inWord)=true;refine Bool.and_eq_true_iff.mpr ⟨rfl,all_eq_true.mpr λc m=>?_⟩;have d:=je m;unfold Vaunid.inWord Vaunid.isDigit;rw[decide_eq_true d.1,decide_eq_true d.2];cases Vaunid.isSmall c<;>rfl
 rw[h2,h3,decide_eq_true (show(118::decimal i).length<=MOSTSIGNS by rw[length_cons];unfold MOSTSIGNS;omega)];rfl
theorem Fr.nw{away:List (List Nat)}{B i:Nat}{l:List (List Nat)}(hB:B<=2000)(h:Fr away B i l):NW l:=by
 induction h with
 |nil=>exact all0
 |skip _ _ _ ih=>exact ih
 |take _ q _ ih=>exact allc (yX _ (by omega)) ih
section
variable{X:Cx}
theorem yY:cB X (.type "dict") (λxs H Q=>∃a zu,xs=[.ref a]/\H a=some (.dK zu)/\∀l,H l=none->Q (.ref l) (upd H l (.dK zu))):=by
 intro zz s σ H xs us Q I r h;refine x_22 h λa zu zr2 ha q=>?_;subst zr2;obtain⟨u,rfl,rx⟩:=dX r;cases rx;exact uA I (.inl ha) λp s' hp I'=>⟨.ref p,_,I',rfl,q p hp⟩
theorem boot_dict1:bootBuiltins "dict"=some (.type "dict"):=by left
end
end M
section
set_option maxHeartbeats 2000000
namespace L2
open PySem PySem.Spec PyProof.Rows
open PySem.W (WData Codec OpenSpec Well WellAll ReadsW ReadsAllW)
mutual
inductive Dw(K:Frag)(H:Hp):V->WData->Prop
 |non:Dw K H .non .none
 |bl (b:Bool):Dw K H (.bl b) (.bool b)
 |int (i:Int):Dw K H (.int i) (.int i)
 |str (x:Str):Dw K H (.str x) (.str x)
 |byt (b:Array UInt8):Dw K H (.byt b) (.bytes b.toList)
 |lst {a:Addr}{xs:List V}{ds:List WData}:SqL K H a xs->DwAll K H xs ds->Dw K H (.ref a) (.list ds)
 |tup {a:Addr}{xs:List V}{ds:List WData}:SqT K H a xs->DwAll K H xs ds->Dw K H (.ref a) (.tuple ds)
inductive DwAll(K:Frag)(H:Hp):List V->List WData->Prop
 |nil:DwAll K H [] []
 |cons {v:V}{vs:List V}{d:WData}{ds:List WData}:Dw K H v d->DwAll K H vs ds->DwAll K H (v::vs) (d::ds)
end
theorem qI{K:Frag}{H:Hp}:∀ns:List Int,DwAll K H (ns.map V.int) (ns.map WData.int)
 |[]=>.nil
 |n::r=>.cons (.int n) (qI r)
theorem jg{K:Frag}{H:Hp}:∀(ns:List Int) (xs:List V),DwAll K H xs (ns.map WData.int)->xs=ns.map V.int
 |[],xs,h=>by
  cases h;rfl
 |n::r,xs,h=>by
  cases h with
  |cons h1 h2 =>
  cases h1;rw[jg r _ h2]<;>rfl
section
variable{P:Program}{w:World}{K:Frag}{H:Hp}{h:Heap}{R:PySem.W.WRecords}{cl:Str->Option Addr}
theorem yZ{a:Addr}{xs:List V}(hok:HOk P w H h)(KX:K.In h)(q:SqL K H a xs):∃(zw:List Value) (o:Obj) (n:Nat),Vals xs zw/\h.get? a=some o/\o.cls=.type "list"/\o.data=.seq zw.toArray n:=by
 rcases q with q|⟨o,zw,n,e,hc,_,hd,_,hv⟩
 ·refine x_01 ((show aO P w H h a (.lst xs)from q.ok hok)) λ_ zz0=>?_
  refine x_21 zz0 λzw n hv e=>?_;exact⟨zw,_,n,hv,e,rfl,rfl⟩
 exact⟨zw.toList,o,n,hv,KX _ _ e,hc,by simp[hd]⟩
theorem y0{a:Addr}{xs:List V}(hok:HOk P w H h)(KX:K.In h)(q:SqT K H a xs):∃(zw:List Value) (o:Obj) (n:Nat),Vals xs zw/\h.get? a=some o/\o.cls=.type "tuple"/\o.data=.seq zw.toArray n:=by
 rcases q with q|⟨o,zw,n,e,hc,hd,_,hv⟩
 ·obtain⟨_,zw,hv,o,e,hc,n,hd⟩:=(show aO P w H h a (.tup xs)from q.ok hok)
  exact⟨zw,o,n,hv,e,hc,hd⟩
 exact⟨zw.toList,o,n,hv,KX _ _ e,hc,by simp[hd]⟩
mutual
theorem Dw.reads(hok:HOk P w H h)(KX:K.In h):∀(d:WData) (v:V) (u:Value),Dw K H v d->RelV v u->∃as,ReadsW R cl h u d as
 |.none,_,_,x,r=>by
  cases x;cases r;exact⟨_,ReadsW.none⟩
 |.bool b,_,_,x,r=>by
  cases x;cases r;exact⟨_,ReadsW.bool b⟩
 |.int i,_,_,x,r=>by
  cases x;obtain⟨t,rfl⟩:=r;exact⟨_,ReadsW.int i t⟩
 |.str s,_,_,x,r=>by
  cases x;obtain⟨t,rfl⟩:=r;exact⟨_,ReadsW.str s t⟩
 |.bytes b,_,_,x,r=>by
  cases x;obtain⟨t,rfl⟩:=r;exact⟨_,ReadsW.bytes _ t⟩
 |.list ds,_,_,x,r=>by
  cases x with
  |lst hs ha =>
  cases r;obtain⟨zw,o,n,rv,ho,hc,hd⟩:=yZ hok KX hs;obtain⟨as,hr⟩:=Dw.readsAll hok KX ds _ zw ha rv;exact⟨_,ReadsW.list ho hc hd hr⟩
 |.tuple ds,_,_,x,r=>by
  cases x with
  |tup hs ha =>
  cases r;obtain⟨zw,o,n,rv,ho,hc,hd⟩:=y0 hok KX hs;obtain⟨as,hr⟩:=Dw.readsAll hok KX ds _ zw ha rv;exact⟨_,ReadsW.tuple ho hc hd hr⟩
 |.float _,_,_,x,_=>by cases x
 |.dict _,_,_,x,_=>by cases x
 |.bytearray _,_,_,x,_=>by cases x
 |.set _,_,_,x,_=>by cases x
 |.frozenset _,_,_,x,_=>by cases x
 |.obj _ _,_,_,x,_=>by cases x
theorem Dw.readsAll(hok:HOk P w H h)(KX:K.In h):∀(ds:List WData) (vs:List V) (us:List Value),DwAll K H vs ds->Vals vs us->∃as,ReadsAllW R cl h us ds as
 |[],_,_,x,r=>by
  cases x;cases r;exact⟨_,ReadsAllW.nil⟩
 |d::ds,_,_,x,r=>by
  cases x with
  |cons h1 h2 =>
  cases r with
  |cons r1 r2 =>
  obtain⟨as,q1⟩:=Dw.reads hok KX d _ _ h1 r1;obtain⟨bs,q2⟩:=Dw.readsAll hok KX ds _ _ h2 r2;exact⟨_,ReadsAllW.cons q1 q2⟩
end
end
mutual
def plW:WData->Bool
 |.none=>true
 |.bool _=>true
 |.int _=>true
 |.str _=>true
 |.bytes _=>true
 |.list xs=>plWs xs
 |.tuple xs=>plWs xs
 |_=>false
def plWs:List WData->Bool
 |[]=>true
 |x::r=>plW x&&plWs r
end
theorem qJ{α:Type}{f:α->WData}(h:∀a,plW (f a)=true):∀l:List α,plWs (l.map f)=true
 |[]=>rfl
 |x::r=>by
  show(plW (f x)&&plWs (r.map f))=true;rw[h x,qJ h r]<;>rfl
theorem er:∀(c:Codec) (a:c.denote),plW (c.enc a)=true
 |.unit,_=>rfl
 |.bool,_=>rfl
 |.int _ _,_=>rfl
 |.nat _ _,_=>rfl
 |.u8,_=>rfl
 |.bytes _ _,_=>rfl
 |.text _ _ _ _,_=>rfl
 |.list _ _ c,a=>qJ (λx=>er c x) a
 |.pair c d,a=>by
  show(plW (c.enc a.1)&&(plW (d.enc a.2)&&true))=true;rw[er c a.1,er d a.2]<;>rfl
 |.triple c d e,a=>by
  show(plW (c.enc a.1)&&(plW (d.enc a.2.1)&&(plW (e.enc a.2.2)&&true)))=true;rw[er c a.1,er d a.2.1,er e a.2.2]<;>rfl
 |.option c,none=>rfl
 |.option c,some x=>er c x
theorem qK:∀(cs:List Codec) (a:Codec.denoteAll cs),plWs (Codec.encAll cs a)=true
 |[],_=>rfl
 |c::cs,a=>by
  show(plW (c.enc a.1)&&plWs (Codec.encAll cs a.2))=true;rw[er c a.1,qK cs a.2]<;>rfl
theorem lz:∀{xs:List WData}{d:WData},d∈xs->d.weight<=WData.weightAll xs
 |[],d,h=>absurd h (by simp)
 |x::r,d,h=>by
  show d.weight<=x.weight+1+WData.weightAll r;rcases mem_cons.mp h with e|m
  ·rw[e]
   omega
  have z:=lz m;omega
noncomputable def toV:Value->V
 |.none=>.non
 |.bool b=>.bl b
 |.int i _=>.int i
 |.str x _=>.str x
 |.bytes b _=>.byt b
 |.ref a=>.ref a
 |_=>.non
def OkU(A:List Addr):Value->Prop
 |.none=>True
 |.bool _=>True
 |.int _ _=>True
 |.str _ _=>True
 |.bytes _ _=>True
 |.ref a=>a∈A
 |_=>False
theorem OkU.mono{A B:List Addr}(h:∀a∈A,a∈B):∀{u:Value},OkU A u->OkU B u:=λ{u} x=>by
 cases u with
 |ref a=>exact h a x
 |none=>trivial
 |bool b=>trivial
 |int i t=>trivial
 |str s t=>trivial
 |bytes b t=>trivial
 |_=>exact False.elim x
theorem y3{A:List Addr}{u:Value}(x:OkU A u):RelV (toV u) u:=by
 cases u with
 |ref a=>rfl
 |none=>rfl
 |bool b=>rfl
 |int i t=>exact⟨t,rfl⟩
 |str s t=>exact⟨t,rfl⟩
 |bytes b t=>exact⟨t,rfl⟩
 |_=>exact False.elim x
theorem fB{A:List Addr}:∀{vs:List Value},(∀u∈vs,OkU A u)->Vals (vs.map toV) vs
 |[],_=>.nil
 |u::r,h=>.cons (y3 (h u (mem_cons_self ..))) (fB λx hx=>h x (mem_cons_of_mem _ hx))
def cV(h:Heap)(A:List Addr)(a:Addr):Prop:=∃vs:List Value,vs.length<=sizeLine/\(∀u∈vs,OkU A u) /\
 (h.get? a=some {cls:= .type "list",data:= .seq vs.toArray}\/h.get? a=some {cls:= .type "tuple",data:= .seq vs.toArray})
theorem cV.mono{h:Heap}{A B:List Addr}{a:Addr}(k:∀a∈A,a∈B)(x:cV h A a):cV h B a:=by
 obtain⟨vs,h1,h2,h3⟩:=x;exact⟨vs,h1,λu hu=>(h2 u hu).mono k,h3⟩
theorem jh{P:Params}{h:Heap}:∀{vs:List Value}{ds:List WData},WellAll P h vs ds->vs.length=ds.length
 |_,_,.nil=>rfl
 |_,_,.cons _ b=>by
  show _+1=_+1;rw[jh b]
theorem qL{P:Params}{h:Heap}{v:Value}{ds:List WData}(x:Well P h v (.list ds)):∃(a:Addr) (vs:List Value),v=.ref a/\h.get? a=some {cls:= .type "list",data:= .seq vs.toArray}/\WellAll P h vs ds:=by
 cases x with
 |list ho hall=>exact⟨_,_,rfl,ho,hall⟩
theorem qM{P:Params}{h:Heap}{v:Value}{ds:List WData}(x:Well P h v (.tuple ds)):∃(a:Addr) (vs:List Value),v=.ref a/\h.get? a=some {cls:= .type "tuple",data:= .seq vs.toArray}/\WellAll P h vs ds:=by
 cases x with
 |tuple ho hall=>exact⟨_,_,rfl,ho,hall⟩
theorem qN{P:Params}{h:Heap}{us:List Value}{d:WData}{ds:List WData}(x:WellAll P h us (d::ds)):∃(v:Value) (vs:List Value),us=v::vs/\Well P h v d/\WellAll P h vs ds:=by
 cases x with
 |cons a b=>exact⟨_,_,rfl,a,b⟩
theorem qO{n:Nat}(h:n<=1048576):n<=sizeLine:=Nat.le_trans h (by decide)
section
variable{P:Params}{h:Heap}
mutual
theorem y4:∀(d:WData) (v:Value),Well P h v d->plW d=true->d.weight<=1048576->∃A:List Addr,OkU A v/\∀a∈A,cV h A a
 |.none,_,x,_,_=>by
  cases x;exact⟨[],trivial,λa m=>absurd m (by simp)⟩
 |.bool b,_,x,_,_=>by
  cases x;exact⟨[],trivial,λa m=>absurd m (by simp)⟩
 |.int i,_,x,_,_=>by
  cases x;exact⟨[],trivial,λa m=>absurd m (by simp)⟩
 |.str s,_,x,_,_=>by
  cases x;exact⟨[],trivial,λa m=>absurd m (by simp)⟩
 |.bytes b,_,x,_,_=>by
  cases x;exact⟨[],trivial,λa m=>absurd m (by simp)⟩
 |.list ds,_,x,p,z=>by
  refine x_22 (qL x) λa vs zr2 ho hall=>?_;subst zr2;have z2:WData.weightAll ds<=1048576:=z;obtain⟨A,h1,h2⟩:=ji ds _ hall p λd hd=>Nat.le_trans (lz hd) z2;have k:∀b∈A,b∈a::A:=λb hb=>mem_cons_of_mem _ hb;refine⟨a::A,mem_cons_self ..,λb hb=>?_⟩;rcases mem_cons.mp hb with e|m
  ·rw[e]
   exact⟨vs,qO (by rw[jh hall];exact Nat.le_trans (PySem.W.length_le_weightAllW ds) z2),λu hu=>(h1 u hu).mono k,.inl ho⟩
  exact(h2 b m).mono k
 |.tuple ds,_,x,p,z=>by
  refine x_22 (qM x) λa vs zr2 ho hall=>?_;subst zr2;have z2:WData.weightAll ds<=1048576:=z;obtain⟨A,h1,h2⟩:=ji ds _ hall p λd hd=>Nat.le_trans (lz hd) z2;have k:∀b∈A,b∈a::A:=λb hb=>mem_cons_of_mem _ hb;refine⟨a::A,mem_cons_self ..,λb hb=>?_⟩;rcases mem_cons.mp hb with e|m
  ·rw[e]
   exact⟨vs,qO (by rw[jh hall];exact Nat.le_trans (PySem.W.length_le_weightAllW ds) z2),λu hu=>(h1 u hu).mono k,.inr ho⟩
  exact(h2 b m).mono k
 |.float _,_,_,p,_=>Bool.noConfusion (show false=true from p)
 |.dict _,_,_,p,_=>Bool.noConfusion (show false=true from p)
 |.bytearray _,_,_,p,_=>Bool.noConfusion (show false=true from p)
 |.set _,_,_,p,_=>Bool.noConfusion (show false=true from p)
 |.frozenset _,_,_,p,_=>Bool.noConfusion (show false=true from p)
 |.obj _ _,_,_,p,_=>Bool.noConfusion (show false=true from p)
theorem ji:∀(ds:List WData) (vs:List Value),WellAll P h vs ds->plWs ds=true->(∀d∈ds,d.weight<=1048576)->∃A:List Addr,(∀u∈vs,OkU A u)/\∀a∈A,cV h A a
 |[],_,x,_,_=>by
  cases x;exact⟨[],λu m=>absurd m (by simp),λa m=>absurd m (by simp)⟩
 |d::ds,_,x,p,z=>by
  refine x_22 (qN x) λv vs zr2 x1 x2=>?_;subst zr2;have q:plW d=true/\plWs ds=true:=Bool.and_eq_true_iff.mp p;obtain⟨A,a1,a2⟩:=y4 d v x1 q.1 (z d (mem_cons_self ..));obtain⟨B,b1,b2⟩:=ji ds vs x2 q.2 λe he=>z e (mem_cons_of_mem _ he);have kA:∀b∈A,b∈A++B:=λb hb=>mem_append.mpr (.inl hb);have kB:∀b∈B,b∈A++B:=λb hb=>mem_append.mpr (.inr hb);refine⟨A++B,λu hu=>?_,λb hb=>?_⟩
  ·rcases mem_cons.mp hu with e|m
   ·rw[e]
    exact a1.mono kA
   exact(b1 u m).mono kB
  rcases mem_append.mp hb with m|m
  ·exact(a2 b m).mono kA
  exact(b2 b m).mono kB
end
end
noncomputable def hoOf(o:Obj):Option HO:=match o.data with
 |.seq vs _=>if(o.cls==Value.type "list")=true then some (.frz o (.lst (vs.toList.map toV)))else some (.frz o (.tup (vs.toList.map toV)))
 |_=>none
noncomputable def argH(K:Frag)(h:Heap)(A:List Addr):Hp:=λb=>if b∈A then(if(K.lookup b).isNone=true then(h.get? b).bind hoOf else none)else none
def qP(H:Hp):Prop:=∀b,H b=none\/∃o u,H b=some (.frz o u)
theorem qQ(vs:List Value):hoOf {cls:= .type "list",data:= .seq vs.toArray}=some (.frz {cls:= .type "list",data:= .seq vs.toArray} (.lst (vs.map toV))):=by
 show(if(Value.type "list"==Value.type "list")=true then some (HO.frz {cls:= .type "list",data:= .seq vs.toArray} (.lst (vs.toArray.toList.map toV)))else some (HO.frz {cls:= .type "list",data:= .seq vs.toArray} (.tup (vs.toArray.toList.map toV))))=_;rw[if_pos (beq_self_eq_true _)]
theorem qR(vs:List Value):hoOf {cls:= .type "tuple",data:= .seq vs.toArray}=some (.frz {cls:= .type "tuple",data:= .seq vs.toArray} (.tup (vs.map toV))):=by
 show(if(Value.type "tuple"==Value.type "list")=true then some (HO.frz {cls:= .type "tuple",data:= .seq vs.toArray} (.lst (vs.toArray.toList.map toV)))else some (HO.frz {cls:= .type "tuple",data:= .seq vs.toArray} (.tup (vs.toArray.toList.map toV))))=_;rw[if_neg (by decide)]
section
variable{P:Program}{w:World}{K:Frag}{h:Heap}{A:List Addr}
theorem jj{b:Addr}{o:Obj}(hb:b∈A)(hk:K.lookup b=none)(e:h.get? b=some o):argH K h A b=hoOf o:=by
 unfold argH;rw[if_pos hb,hk,if_pos (show(none:Option Obj).isNone=true from rfl),e]<;>rfl
theorem y6{b:Addr}{u:HO}(q:argH K h A b=some u):b∈A/\K.lookup b=none:=by
 unfold argH at q;by_cases hb:b∈A
 ·rw[if_pos hb]at q
  cases hk:K.lookup b with
  |none=>exact⟨hb,rfl⟩
  |some o =>
  rw[hk,if_neg (by simp)]at q;cases q
 rw[if_neg hb]at q;cases q
theorem jk(ar:∀a∈A,cV h A a){b:Addr}{u:HO}(q:argH K h A b=some u):K.lookup b=none/\∃vs:List Value,vs.length<=sizeLine/\(∀u∈vs,OkU A u) /\
  ((h.get? b=some {cls:= .type "list",data:= .seq vs.toArray}/\u=.frz {cls:= .type "list",data:= .seq vs.toArray} (.lst (vs.map toV))) \/
   (h.get? b=some {cls:= .type "tuple",data:= .seq vs.toArray}/\u=.frz {cls:= .type "tuple",data:= .seq vs.toArray} (.tup (vs.map toV)))):=by
 obtain⟨hb,hk⟩:=y6 q;refine x_12 (ar b hb) λvs h1 h2 h3=>?_;refine⟨hk,vs,h1,h2,?_⟩;rcases h3 with e|e
 ·rw[jj hb hk e,qQ]at q
  exact .inl ⟨e,(Option.some.inj q).symm⟩
 rw[jj hb hk e,qR]at q;exact .inr ⟨e,(Option.some.inj q).symm⟩
theorem y8(ar:∀a∈A,cV h A a):qP (argH K h A):=λb=>by
 cases q:argH K h A b with
 |none=>exact .inl rfl
 |some u =>
 refine x_01 (jk ar q) λ_ zz0=>?_;refine x_12 zz0 λvs _ _ zn4=>?_;obtain⟨_,e⟩|⟨_,e⟩:=zn4
 ·exact .inr ⟨_,_,by rw[e]⟩
 exact .inr ⟨_,_,by rw[e]⟩
theorem y9(ar:∀a∈A,cV h A a):HOk P w (argH K h A) h:=λb u q=>by
 obtain⟨_,vs,h1,h2,⟨e,rfl⟩|⟨e,rfl⟩⟩:=jk ar q
 ·exact⟨e,by rw[length_map];exact h1,vs,_,fB h2,e⟩
 exact⟨e,by rw[length_map];exact h1,vs,fB h2,_,e,rfl,_,rfl⟩
theorem jl{c c':Value}{vs us:List Value}(e:(some {cls:=c,data:= .seq vs.toArray}:Option Obj)=some {cls:=c',data:= .seq us.toArray}):c=c'/\vs=us:=by
 have e1:=Option.some.inj e;have e2:c=c':=congrArg Obj.cls e1;have e3:Data.seq vs.toArray=Data.seq us.toArray:=congrArg Obj.data e1;injection e3 with e4;refine⟨e2,?_⟩;have e5:=congrArg Array.toList e4;simpa using e5
theorem argL(KX:K.In h)(ar:∀a∈A,cV h A a){a:Addr}{vs:List Value}(ha:a∈A)(e:h.get? a=some {cls:= .type "list",data:= .seq vs.toArray}):(∀u∈vs,OkU A u)/\SqL K (argH K h A) a (vs.map toV):=by
 refine x_12 (ar a ha) λus h1 h2 h3=>?_;have hu:us=vs:=by
  rcases h3 with q|q
  ·rw[e]at q
   exact(jl q).2.symm
  rw[e]at q;exact absurd (Value.type.inj (jl q).1) (by decide)
 subst hu;refine⟨h2,?_⟩;cases hk:K.lookup a with
 |none=>exact .inl (.inr ⟨_,by rw[jj ha hk e,qQ]⟩)
 |some o =>
 have e2:=KX a o hk;rw[e]at e2;obtain rfl:=Option.some.inj e2;exact .inr ⟨_,us.toArray,_,hk,rfl,rfl,rfl,by rw[size_toArray];exact h1,by simpa using fB h2⟩
theorem argT(KX:K.In h)(ar:∀a∈A,cV h A a){a:Addr}{vs:List Value}(ha:a∈A)(e:h.get? a=some {cls:= .type "tuple",data:= .seq vs.toArray}):(∀u∈vs,OkU A u)/\SqT K (argH K h A) a (vs.map toV):=by
 refine x_12 (ar a ha) λus h1 h2 h3=>?_;have hu:us=vs:=by
  rcases h3 with q|q
  ·rw[e]at q
   exact absurd (Value.type.inj (jl q).1) (by decide)
  rw[e]at q;exact(jl q).2.symm
 subst hu;refine⟨h2,?_⟩;cases hk:K.lookup a with
 |none=>exact .inl (.inr ⟨_,by rw[jj ha hk e,qR]⟩)
 |some o =>
 have e2:=KX a o hk;rw[e]at e2;obtain rfl:=Option.some.inj e2;exact .inr ⟨_,us.toArray,_,hk,rfl,rfl,by rw[size_toArray];exact h1,by simpa using fB h2⟩
mutual
theorem y'{Pm:Params}(KX:K.In h)(ar:∀a∈A,cV h A a):∀(d:WData) (v:Value),Well Pm h v d->plW d=true->OkU A v->Dw K (argH K h A) (toV v) d
 |.none,_,x,_,_=>by
  cases x;exact .non
 |.bool b,_,x,_,_=>by
  cases x;exact .bl b
 |.int i,_,x,_,_=>by
  cases x;exact .int i
 |.str s,_,x,_,_=>by
  cases x;exact .str s
 |.bytes b,_,x,_,_=>by
  cases x;have z:=Dw.byt (K:=K) (H:=argH K h A) b.toArray;exact z
 |.list ds,_,x,p,hu=>by
  obtain⟨a,vs,rfl,ho,hall⟩:=qL x;obtain⟨h2,hs⟩:=argL KX ar hu ho;exact .lst hs (jm KX ar ds _ hall p h2)
 |.tuple ds,_,x,p,hu=>by
  obtain⟨a,vs,rfl,ho,hall⟩:=qM x;obtain⟨h2,hs⟩:=argT KX ar hu ho;exact .tup hs (jm KX ar ds _ hall p h2)
 |.float _,_,_,p,_=>Bool.noConfusion (show false=true from p)
 |.dict _,_,_,p,_=>Bool.noConfusion (show false=true from p)
 |.bytearray _,_,_,p,_=>Bool.noConfusion (show false=true from p)
 |.set _,_,_,p,_=>Bool.noConfusion (show false=true from p)
 |.frozenset _,_,_,p,_=>Bool.noConfusion (show false=true from p)
 |.obj _ _,_,_,p,_=>Bool.noConfusion (show false=true from p)
theorem jm{Pm:Params}(KX:K.In h)(ar:∀a∈A,cV h A a):∀(ds:List WData) (vs:List Value),WellAll Pm h vs ds->plWs ds=true->(∀u∈vs,OkU A u)->DwAll K (argH K h A) (vs.map toV) ds
 |[],_,x,_,_=>by
  cases x;exact .nil
 |d::ds,_,x,p,hu=>by
  obtain⟨v,vs,rfl,x1,x2⟩:=qN x;have q:plW d=true/\plWs ds=true:=Bool.and_eq_true_iff.mp p;exact .cons (y' KX ar d v x1 q.1 (hu _ (mem_cons_self ..))) (jm KX ar ds vs x2 q.2 λu m=>hu u (mem_cons_of_mem _ m))
end
end
theorem za{ds:List WData}(h:WData.layableAll ds=true):∀d∈ds,d.weight<=1048576:=λd hd =>
 (PySem.W.layableW_iff.mp (all_eq_true.mp h d hd)).2.2
theorem qS:∀(cs:List Codec) (a:Codec.denoteAll cs),(Codec.encAll cs a).length=cs.length
 |[],_=>rfl
 |c::cs,a=>by
  show(Codec.encAll cs a.2).length+1=cs.length+1;rw[qS cs a.2]
end L2
end
set_option maxHeartbeats 2000000
namespace L2
open PySem PySem.Spec PyProof.Rows
section
open PySem.W (kla_obj kla_fn envX tabObj CodeHd)
structure Clo(base:Heap)(f:Addr)(qual:Str)(lp:Arguments)(lb:Expr)(ls:Scope)(x:Str)(v:V):Prop where
 ex:∃(c c':Addr) (pm ct u:Value),base.get? f=some (kla_obj "<lambda>" qual lp lb ls [(x,c)] pm c' ct)/\base.CodeRec (.ref c') qual/\base.IsCell c (some u)/\RelV v u
noncomputable def cxL(P:Program)(w:World)(K:Frag)(mg:zM)(base:Heap)(N:List Str)(qual:Str)(ls:Scope)(f:Addr)(cd:Value)(cl:List (Str×Addr))(A:Around)(outer:List Env)(s:Shared)(H:Hp):Cx where
 prog:=P
 w:=w
 K:=K
 mg:=mg
 base:=base
 A:=A.deeper (envX qual ls s.heap.objs.size f cd cl)
 N:=N
 s_0:=s
 H_0:=H
 env:=envX qual ls s.heap.objs.size f cd cl
 outer:=outer
 stack:=envX qual ls s.heap.objs.size f cd cl::outer
 ex:=[]
 calm:=true
 fn:=λ_=>false
 pn:=[]
 xe:=λ_ _=>False
structure LScope(N ps:List Str)(x:Str)(ls:Scope):Prop where
 kind:ls.kind=.function
 co:ls.isCoroutine=false
 gen:ls.isGenerator=false
 nocell:∀y∈ls.names,y.2≠.cell
 par:∀y∈ps,ls.names.lookup y=some .local
 free:∀y,ls.names.lookup y=some .free->y=x
 keeps:ls.names.lookup x=some .free
 eq:N=ps++[x]
 get:∀us:List Value,us.length=ps.length->∀(i:Nat) (y:Str) (u:Value),ps[i]? = some y->us[i]? = some u->(ps.zip us).reverse.lookup y=some u
theorem zc{P:Program}{w:World}{K:Frag}{mg:zM}{base:Heap}{f:Addr}{qual:Str}{lp:Arguments}{lb:Expr}{ls:Scope}{x:Str}{v:V}{N ps:List Str}{k:Nat}{sp:Sp}(C:Clo base f qual lp lb ls x v)(S:LScope N ps x ls)
  (hb:∀(cl:List (Str×Addr)) (pm cdv ct:Value) (us:List Value),us.length=ps.length->bindArgs (kla_fn "<lambda>" qual lp lb ls cl pm cdv ct) ⟨us,[]⟩=pure (ps.zip us))(len:∀vs H Q E,sp vs H Q E->vs.length=ps.length)
  (hbody:∀(cd:Value) (cl:List (Str×Addr)) (A:Around) (outer:List Env) (s:Shared) (H:Hp) (vs:List V) (Q:VK) (E:XK),Room k (A.deeper (envX qual ls s.heap.objs.size f cd cl))->sp vs H Q E ->
   ∃t,PE (cxL P w K mg base N qual ls f cd cl A outer s H) lb t/\t ((vs++[v]).map some) H Q) :
  ∃fd,FnOk P w K mg base CX0 (k+1) f fd ps sp/\aW K fd ps []/\∃oc od sl,base.get? f=some ⟨oc,od,.func fd,sl⟩:=by
 refine x_50 C.ex λc c' pm ct u zy=>x_03 zy λhf hcd hc rv=>?_;refine⟨_,⟨len,λA outer s H args us vs Q E hr e0 hbt r hsp=>?_⟩,aW.all λus hl=>hb _ _ _ _ us hl,_,_,_,hf⟩;have hl:=len _ _ _ _ hsp;have lim:s.heap.NoLimit:=e0.mod.nolimit.keeps λb o e=>(e0.bs b o e).1;have kb:∀b o,base.get? b=some o->s.heap.get? b=some o:=λb o e=>(e0.bs b o e).1;refine PySem.W.kla_callFunE hr.depth (kb _ _ hf) rfl S.co S.gen rfl (hcd.keeps kb) (hbt _ _ _ _ ?_);refine wpAny_newFunctionEnv S.nocell (λy hy=>S.par _ (of_mem_zip hy).1) (λh1 hns hsb=>?_) S.kind;have hk1:∀b o,s.heap.get? b=some o->h1.get? b=some o:=λb o e=>hsb.extBut b o (Nat.ne_of_lt (lt_size e)) (get?_push_of_some _ e);refine⟨lim.keeps hk1,?_⟩;show codeAny _ _ (.expr lb (envX qual ls s.heap.objs.size f (.ref c') [(x,c)])) _ _;obtain⟨t,ht,hq⟩:=hbody (.ref c') [(x,c)] A outer s H vs Q E (hr.deeper _) hsp;have noA:∀b:Addr,b∉(cxL P w K mg base N qual ls f (.ref c') [(x,c)] A outer s H).ex:=λb z=>absurd (show b∈([]:List Addr)from z) (by simp);have one:∀{y:Str}{d:Addr},List.lookup y [(x,c)]=some d->y=x/\d=c:=λ{y d} h=>by
  unfold List.lookup at h;split at h
  ·rename_i q
   exact⟨eq_of_beq q,(Option.some.inj h).symm⟩
  cases h
 have self:List.lookup x [(x,c)]=some c:=by unfold List.lookup;rw[beq_self_eq_true]
 have hfr:=e0.bs;have icell:∃o,base.get? c=some o:=by
  obtain⟨o,e,_⟩:=hc;exact⟨o,e⟩
 have I:Inv (cxL P w K mg base N qual ls f (.ref c') [(x,c)] A outer s H) [] ((vs++[v]).map some) H {s with heap:=h1,toks:=s.toks+(ps.zip us).length}:=by
  refine⟨⟨e0.mod,S.kind,rfl,rfl,Nat.le_refl _,λy z d h1 h2=>(one h1).1.trans (one h2).1.symm,λy hy=>?_,λy d h=>(Bool.noConfusion (show false=true from h)),λ_=>hr.hd,Around.frames_deeper e0.frames,.inr ⟨rfl,rfl⟩,λb z=>absurd z (noA b),e0.bs,e0.bsz,λb _ _=>noA b,λb z=>absurd z (noA b),e0.funs,e0.frf⟩,
   rfl,e0.bare,Un.kept hk1,⟨_,hns,λi y v' h1 h2 h3=>?_⟩,λy d h=>?_,e0.hok.fresh (Nat.le_refl _),λy d h=>?_,λp hp=>absurd (show p∈([]:zP)from hp) (by simp),e0.hok.kept hk1,?_⟩
  ·rcases hy with hy|hy
   ·exact absurd rfl (S.nocell _ (PySem.mem_of_lookup (show ls.names.lookup y=some .cell from hy)))
   rw[S.free y hy];exact⟨c,self⟩
  ·have e1:N[i]? = some y:=h1
   rw[S.eq]at e1;rw[getElem?_map]at h2;by_cases hi:i<ps.length
   ·rw[List.getElem?_append_left hi]at e1
    rw[List.getElem?_append_left (by rw[hl];exact hi)]at h2;cases q:vs[i]? with
    |none=>rw[q]at h2;cases h2
    |some a =>
    rw[q]at h2;cases h2;obtain⟨u',hu,ru⟩:=r.get q;exact⟨u',ru,.inl ⟨S.par _ (mem_of_getElem? e1),S.get us (by rw[<- r.length];exact hl) i y u' e1 hu⟩⟩
   have ei:i=ps.length:=by
    have:=(List.getElem?_eq_some_iff.mp e1).1;rw[length_append]at this;simp at this;omega
   subst ei;rw[List.getElem?_append_right (Nat.le_refl _),Nat.sub_self]at e1;rw[List.getElem?_append_right (by rw[hl];exact Nat.le_refl _),hl,Nat.sub_self]at h2;cases e1;cases h2;exact⟨u,rv,.inr ⟨.inr S.keeps,c,self,(hc.keeps kb).keeps hk1⟩⟩
  ·obtain⟨_,rfl⟩:=one h
   exact⟨_,(hc.keeps kb).keeps hk1⟩
  ·obtain⟨_,rfl⟩:=one h
   obtain⟨o,e⟩:=icell;exact(e0.bs _ _ e).2
  show _=N.length;rw[S.eq,length_map,length_append,length_append,hl];rfl
 refine PySem.W.kla_codeExpr (wpAny_mono (ht [] _ _ H _ I hq) (λu' s' hs=>?_) λe s' hs=>False.elim hs);obtain⟨v',H',J,rv',q⟩:=hs;exact⟨v',H',J.os,J.bare,J.base,J.hok,rv',q⟩
section
variable{X:Cx}{zz:zP}{σ:St}{H:Hp}{s:Shared}
def fC(X:Cx)(H:Hp)(h:Heap):Heap:=PySem.W.hideAll (hidT h H) (frs X.stack)
theorem lA{h:Heap}{b:Addr}{o:Obj}(e:h.get? b=some o)(n:H b=none)(q:b∉frs X.stack):(fC X H h).get? b=some o:=PySem.W.hideAll_get _ (lR e n) q
theorem zd{h:Heap}{b:Addr}{o:Obj}(e:(fC X H h).get? b=some o):h.get? b=some o/\H b=none:=lS (PySem.W.of_hideAll _ e)
theorem qT{h base base':Heap}:∀{l:List Env},h.FunFrames base l->(∀b∈frs l,base'.get? b=none)->h.FunFrames base' l
 |[],_,_=>trivial
 |env::l,⟨k,⟨L,o,hf,hn,ho,hd⟩,r⟩,q=>⟨k,⟨L,o,hf,q L (by unfold frs;rw[filterMap_cons,hf];exact mem_cons_self ..),ho,hd⟩,qT r λb hb=>q b (by
  unfold frs at hb ⊢;rw[filterMap_cons,hf];exact mem_cons_of_mem _ hb)⟩
theorem Inv.old(I:Inv X zz σ H s):∀b o,X.base.get? b=some o->(fC X H s.heap).get? b=some o:=λb o e =>
 lA (I.bs b o e).1 (I.bs b o e).2 λhb=>by
  have:=(I.stack.mem hb).1;rw[e]at this;cases this
theorem Mod.keeps{K:Frag}{mg:zM}{b b':Heap}(m:Mod K mg b)(k:∀a o,b.get? a=some o->b'.get? a=some o):Mod K mg b':=
 ⟨m.kin.keeps k,m.glob.keeps k,let⟨mb,h1,h2⟩:=m.blt;⟨mb,h1.keeps k,h2⟩,m.nolimit.keeps k⟩
theorem Inv.re(I:Inv X zz σ H s):Env0 X.prog X.w X.K X.mg (fC X H s.heap) X.A X.stack s H:=
 ⟨I.ok.frames,I.ok.mod.keeps I.old,λb o e=>zd e,Nat.le_of_eq ((PySem.W.hideAll_size _ _).trans (lQ _ _)),qT I.stack λb hb=>PySem.W.hideAll_none _ hb,I.stkFree,I.hok,I.bare⟩
end
def qU(X:Cx)(sp:Heap->Sp)(Pt:Addr)(i:Nat)(lp:Arguments)(lb:Expr)(ls:Scope)(y:Str)(E:XK)(t1 t2:TE):TE:=λσ H Q=>t1 σ H λv1 H1=>t2 σ H1 λv2 H2=>H2 Pt=some (.tbl #[])/\∃v,σ[i]? = some (some v) /\
 ∀base f ps,Mod X.K X.mg base->Clo base f (X.env.qual++"<lambda>") lp lb ls y v->sp base [v1,v2,.ref f] (upd H2 Pt (.tbl ps)) Q E
theorem ze{X:Cx}{CX:CXT}{k:Nat}{g:Addr}{fd:FuncData}{gs:List Str}{sp:Heap->Sp}{E:XK}{x y:Str}{p pos lpos:Pos}{e1 e2 lb:Expr}{t1 t2:TE}{lp:Arguments}{ls:Scope}{c cc Pt:Addr}{i:Nat}
  (F:∀base,Mod X.K X.mg base->FnOk X.prog X.w X.K X.mg base CX k g fd gs (sp base))(hr:Room k X.A)(hg:Gl X x)(hm:X.mg x=some (.ref g))(hk:keepIn X.K (.ref g)=true)(hb:aW X.K fd gs [])(hx:bQ CX X E)
  (h1:PE X e1 t1)(h2:PE X e2 t2)(hcode:X.env.code=.ref cc)(hC:CodeHd X.base cc Pt)(hbm:X.base.BuiltinsAt X.mg Pt)(hfn:X.fn y=true)
  (hyc:X.env.cells.lookup y=some c)(hcl:closureFor ls X.env=pure [(y,c)])(hky:X.env.kindOf y=some .cell:=by rfl)(hN:X.N[i]? = some y:=by rfl)(hd0:defaultsOf lp X.env=([],[]):=by rfl)
  (hdb:(x==("__debug__":Str))=false:=by decide)
  (hst:starEach [e1,e2,.Lambda lp lb ls lpos] X.env=[(false,eval e1 X.env),(false,eval e2 X.env),(false,eval (.Lambda lp lb ls lpos) X.env)]:=by rfl)(hs2:starEach [e2,.Lambda lp lb ls lpos] X.env=[(false,eval e2 X.env),(false,eval (.Lambda lp lb ls lpos) X.env)]:=by rfl)
  (hpl:(backTo pos (starEach [e2,.Lambda lp lb ls lpos] X.env)).any (·.1)=false:=by rfl) :
  PE X (.Call (.Name x p) [e1,e2,.Lambda lp lb ls lpos] [] pos) (qU X sp Pt i lp lb ls y E t1 t2):=by
 intro zz s σ H Q I h;refine wpAny_Call_Name_kw (eA I hg hm ?_ hdb);refine callWith_K (h₀:=X.base) I.ok.mod.kin hk ?_ (by rw[hst,hs2]) hpl;rw[hst];show wpAny _ _ (spliced ((false,eval e1 X.env)::_)) _ _ s;refine Calls.spliced_cons (thn (h1 zz s σ H _ I h) λu1 s1 zq=>?_);refine x_22 zq λv1 H1 I1 r1 q1=>?_;show wpAny _ _ (spliced ((false,eval e2 X.env)::_)) _ _ s1;refine Calls.spliced_cons (thn (h2 zz s1 σ H1 _ I1 q1) λu2 s2 zq=>?_);refine x_23 zq λv2 H2 I2 r2 hP zz0=>?_;refine x_11 zz0 λv hv q2=>?_;have gP:s2.heap.get? Pt=some (tabObj #[]):=I2.hok Pt _ hP;have nG:mainGlobals≠Pt:=λz=>by
  obtain⟨o,es,ep,e,hd,_⟩:=I2.mod.glob.keeps I2.bk;rw[z,gP]at e;cases e;cases hd
 have nL:X.env.locals≠Pt:=aF hP I2.free |>.symm;show wpAny _ _ (spliced ((false,eval (.Lambda lp lb ls lpos) X.env)::_)) _ _ s2;refine Calls.spliced_cons (PySem.W.kla_eval hd0 (PySem.W.kla_makeFunction hcl I2.ok.glob (I2.mod.glob.keeps I2.bk) hcode (hC.keeps I2.bk) gP trivial rfl nG (by
  obtain⟨bm,ob,b1,b2,b3,b4,b5,b6⟩:=hbm;exact⟨bm,ob,b1,b2,b3,b4,I2.bk _ _ b5,b6⟩) λc' ctv h' tk hxb hge hlt hrec htb=>?_))
 have htb:h'.get? Pt=some (tabObj (#[]++ #[rawInt lpos.line,rawInt lpos.col,.ref c'])):=htb;generalize(#[]++ #[rawInt lpos.line,rawInt lpos.col,Value.ref c'])=ps at htb;have ltP:Pt<h'.objs.size:=lt_size htb;have hsz:s2.heap.objs.size<=h'.objs.size:=Nat.le_trans hge (Nat.le_of_lt hlt);have nP:∀{b:Addr},H2 b=none->b≠Pt:=λ{b} e z=>by rw[z,hP]at e;cases e
 have keep:∀{b:Addr}{o:Obj}{fo:Obj},b≠Pt->s2.heap.get? b=some o->(h'.push fo).get? b=some o:=λ{b o fo} n e=>get?_push_of_some _ (hxb b o n e);generalize hfo:kla_obj "<lambda>" (X.env.qual++"<lambda>") lp lb ls [(y,c)] ((X.mg "__name__").getD .none) c' ctv=fo;have I3:Inv X zz σ (upd H2 Pt (.tbl ps)) {s2 with heap:=h'.push fo,toks:=tk}:=by
  refine I2.step (g':=s2.gens) (d':=s2.drawn) (t':=tk) (ch:=[]) (λ_ z=>nomatch z) (λb o _ _ _ e n=>keep (nP n) e) (λb o _ _ _ e n=>⟨o.slots,keep (nP n) e⟩) (λb o _ e n=>by rw[ao (nP n)];exact n) (λb o _ e=>?_)
   (λb xs e=>?_) (λb o u e=>?_) (λb qs e=>?_) (λm hn=>(hn.extBut hxb nL).push _) (λa o e=>?_) I2.bare
  ·by_cases z:b=Pt
   ·subst z
    exact⟨_,get?_push_of_some _ htb⟩
   exact⟨_,keep z e⟩
  ·rw[ao (λz=>by rw[z,hP]at e;cases e)];exact e
  ·rw[ao (λz=>by rw[z,hP]at e;cases e)];exact e
  ·by_cases z:b=Pt
   ·subst z
    rw[hP]at e;cases e;exact⟨ps,by rw[ai];simp⟩
   exact⟨#[],by rw[ao z,e];simp⟩
  by_cases z:a=Pt
  ·subst z
   rw[ai]at e;cases e;exact get?_push_of_some _ htb
  rw[ao z]at e;refine(I2.hok a o e).stay (λb u hc q=>keep (λzb=>?_) q) (λb q=>by rw[ao (λzb=>by rw[zb,hP]at q;cases q)];exact q) λb xs q=>by rw[ao (λzb=>by rw[zb,hP]at q;cases q)];exact q
  rcases hc with hc|hc
  ·exact z (hc.symm.trans zb)
  rw[zb,hP]at hc;cases hc
 refine Calls.spliced_nil ⟨I3.kIn,?_⟩;have nfr:∀{b:Addr},s2.heap.objs.size<=b->b∉frs X.stack:=λ{b} hs hb=>by
  obtain⟨_,o,ho,_⟩:=I2.stack.mem hb;exact absurd (Nat.lt_of_lt_of_le (lt_size ho) hs) (Nat.lt_irrefl _)
 have new:∀{b:Addr}{o:Obj},s2.heap.objs.size<=b->(h'.push fo).get? b=some o->(fC X (upd H2 Pt (.tbl ps)) (h'.push fo)).get? b=some o:=λ{b o} hs e=>by
  have hn:H2 b=none:=I2.hok.fresh hs;exact lA e (by rw[ao (nP hn)];exact hn) (nfr hs)
 have C:Clo (fC X (upd H2 Pt (.tbl ps)) (h'.push fo)) h'.objs.size (X.env.qual++"<lambda>") lp lb ls y v:=by
  obtain⟨m,hns,loc⟩:=I3.loc;obtain⟨u,ru,lk⟩:=loc i y v hN hv (.inr (.inl hky));rcases lk with⟨z,_⟩|⟨_,c2,e2,hc⟩
  ·rw[hky]at z;cases z
  rw[hyc]at e2;cases e2;refine⟨c,c',_,_,u,new hsz (by rw[hfo];exact get?_push_size _ (by rw[<- hfo];rfl)),?_,?_,ru⟩
  ·refine x_40 hrec λc3 o vs t zy=>x_03 zy λe3 hoc hd hq=>?_
   cases e3;exact⟨c',o,vs,t,rfl,new hge (get?_push_of_some _ hoc),hd,hq⟩
  obtain⟨o,ho,hd⟩:=hc;refine⟨o,lA ho (I3.freeC y c hyc) λhb=>?_,hd⟩;rcases mem_cons.mp (I3.stkSub c hb)with z|z
  ·obtain⟨o',es,ep,e',hd',_⟩:=hns
   rw[<- z]at e';have:=ho.symm.trans e';cases this;rw[hd]at hd';cases hd'
  obtain⟨_,o',ho',_⟩:=I3.ok.funs.mem z;exact absurd (Nat.lt_of_lt_of_le (lt_size ho') (I3.ok.cab y c hfn hyc)) (Nat.lt_irrefl _)
 have hsp:=q2 _ _ ps (I3.ok.mod.keeps I3.old) C;have r3:Vals [v1,v2,.ref h'.objs.size] [u1,u2,.ref h'.objs.size]:= .cons r1 (.cons r2 (.cons rfl .nil));have FF:=F _ (I3.ok.mod.keeps I3.old);have hl:([u1,u2,Value.ref h'.objs.size]++[]).length=gs.length:=by
  have:=FF.len _ _ _ _ hsp;rw[append_nil,<- r3.length];exact this
 refine wpAny_call (codeAny_mono (FF.run X.A X.stack _ _ ⟨[u1,u2,.ref h'.objs.size],[]⟩ ([u1,u2,.ref h'.objs.size]++[]) _ Q E hr I3.re (hb _ _ I3.kIn hl) (by rw[append_nil];exact r3) hsp) λr s' hq=>?_);cases r with
 |error e=>exact hx zz σ _ _ e s' I3 hq
 |ok fl =>
 cases fl with
 |ret u=>exact I3.after hq
 |next=>exact False.elim hq
 |brk=>exact False.elim hq
 |cont=>exact False.elim hq
section
open PySem.W (WData Codec OpenSpec Well WellAll ReadsW ReadsAllW)
theorem zf{P:Program}{w:World}{K:Frag}{mg mb:zM}{CX:CXT}{k:Nat}{fa cc Pt:Addr}{fd:FuncData}{ps:List Str}{sp:Sp}{s₁:Shared}{vals:List Value}{ds:List WData}{R:PySem.W.WRecords}{cl:Str->Option Addr}{d0:WData}
  (KX:K.In s₁.heap)(hns:s₁.heap.Ns mainGlobals mg)(hb:s₁.heap.Ns builtinsNs mb)(hbb:∀x:Str,x≠"__name__"->mb x=bootBuiltins x)(hlim:s₁.heap.NoLimit)(hg:s₁.gens= #[])
  (hwl:WellAll w.params s₁.heap vals ds)(hpl:plWs ds=true)(hwt:∀d∈ds,d.weight<=1048576)(hr:Room k callerA)(hKP:K.lookup Pt=none)(hP:s₁.heap.get? Pt=some (tabObj #[]))(hC:CodeHd s₁.heap cc Pt)(hbm:s₁.heap.BuiltinsAt mg Pt)
  (F:∀base:Heap,K.In base->base.Ns mainGlobals mg->CodeHd base cc Pt->base.BuiltinsAt mg Pt->FnOk P w K mg base CX k fa fd ps sp)(hbind:∀(s:Shared) (us:List Value),us.length=ps.length->BindsTo s fd ⟨us,[]⟩ (ps.zip us))(zr:ds.length=ps.length)
  (hsp:∀(H:Hp) (xs:List V),H Pt=none->DwAll K H xs ds->sp xs (upd H Pt (.tbl #[])) (λv H'=>Dw K H' v d0) λ_ _ _=>False)
  (hCX:∀H e s',CX [] H s₁ (λ_ _ _=>False) e s'->False) :
  codeAny (model P w) callerA (.call (.ref fa) ⟨vals,[]⟩) (λr s'=>∃u as,r=.ok (.ret u)/\ReadsW R cl s'.heap u d0 as/\OldK s₁.heap s'.heap/\s'.os=s₁.os/\AllBare s'.gens) s₁:=by
 obtain⟨A,ho,ar⟩:=ji ds vals hwl hpl hwt;have hO:qP (argH K s₁.heap A):=y8 ar;have hok:HOk P w (argH K s₁.heap A) s₁.heap:=y9 ar;have hS:=jm KX ar ds vals hwl hpl ho;have hV:=fB ho;have hK:∀b u,argH K s₁.heap A b=some u->K.lookup b=none:=λb u q=>(jk ar q).1;have noA:∀{b:Addr}{o:Obj},s₁.heap.get? b=some o->(∀vs n,o.data≠.seq vs n)->argH K s₁.heap A b=none:=λ{b o} e d=>by
  cases q:argH K s₁.heap A b with
  |none=>rfl
  |some u =>
  obtain⟨_,vs,_,_,⟨e2,_⟩|⟨e2,_⟩⟩:=jk ar q
  ·rw[e2]at e
   cases e;exact absurd rfl (d _ _)
  rw[e2]at e;cases e;exact absurd rfl (d _ _)
 generalize argH K s₁.heap A=H0 at hO hok hS hK noA;have n0:H0 Pt=none:=noA hP λ_ _ z=>nomatch z;obtain⟨H,eH⟩:∃H,H=upd H0 Pt (.tbl #[]):=⟨_,rfl⟩;have hHP:H Pt=some (.tbl #[]):=by rw[eH];exact ai
 have hne:∀{b:Addr},b≠Pt->H b=H0 b:=λ{b} z=>by rw[eH];exact ao z
 have hno:∀{b:Addr}{o:Obj},s₁.heap.get? b=some o->b≠Pt->(∀vs n,o.data≠.seq vs n)->H b=none:=λ{b o} e z d=>(hne z).trans (noA e d);have hok1:HOk P w H s₁.heap:=λa o e=>by
  by_cases z:a=Pt
  ·subst z
   rw[hHP]at e;cases e;exact hP
  rw[hne z]at e;exact(hok a o e).stay (λb u _ q=>q) (λb q=>by rw[hne (λzb=>by rw[zb,n0]at q;cases q)];exact q) λb xs q=>by rw[hne (λzb=>by rw[zb,n0]at q;cases q)];exact q
 have base_of:∀{b:Addr}{o:Obj},s₁.heap.get? b=some o->H b=none->(hidT s₁.heap H).get? b=some o:=λe n=>lR e n;have nsK:∀{b:Addr}{m:zM},s₁.heap.Ns b m->(hidT s₁.heap H).Ns b m:=λ{b m} ⟨o,es,ep,e,d,r⟩=>⟨o,es,ep,base_of e (hno e (λz=>by
  rw[z,hP]at e;cases e;cases d) (λ_ _ z=>by rw[d]at z;cases z)),d,r⟩
 have nK:∀b o,K.lookup b=some o->H b=none:=λb o e=>by
  have z:b≠Pt:=λz=>by rw[z,hKP]at e;cases e
  rw[hne z];cases q:H0 b with
  |none=>rfl
  |some u =>
  rw[hK b u q]at e;cases e
 have hKb:K.In (hidT s₁.heap H):=λb o e=>base_of (KX b o e) (nK b o e);have hCb:CodeHd (hidT s₁.heap H) cc Pt:=by
  obtain⟨o,vs,file,tf,flags,tg,inF,text,tt,e,c1,c2,r⟩:=hC;have z:cc≠Pt:=r.2.2.2.2.2.2;exact⟨o,vs,file,tf,flags,tg,inF,text,tt,base_of e (hno e z λ_ _ y=>by rw[c2]at y;cases y),c1,c2,r⟩
 have hBb:(hidT s₁.heap H).BuiltinsAt mg Pt:=by
  obtain⟨bm,ob,b1,b2,b3,b4,b5,b6,b7,b8⟩:=hbm;exact⟨bm,ob,b1,b2,b3,b4,base_of b5 (hno b5 b4 λ_ _ y=>by rw[b8]at y;cases y),b6,b7,b8⟩
 have hM:Mod K mg (hidT s₁.heap H):=⟨hKb,nsK hns,⟨mb,nsK hb,hbb⟩,let⟨mc,h1,h2⟩:=hlim;⟨mc,nsK h1,h2⟩⟩;have e0:Env0 P w K mg (hidT s₁.heap H) callerA [] s₁ H:=⟨rfl,hM,λb o e=>lS e,Nat.le_of_eq (lQ _ _),trivial,λb hb=>absurd (show b∈([]:List Addr)from hb) (by simp),hok1,.of_eq hg⟩;have hl:vals.length=ps.length:=by rw[jh hwl];exact zr
 have hs2:=hsp H0 _ n0 hS;rw[<- eH]at hs2;refine codeAny_mono ((F _ hKb (nsK hns) hCb hBb).run callerA [] s₁ H ⟨vals,[]⟩ vals (vals.map toV) _ _ hr e0 (hbind s₁ vals hl) hV hs2) λr s' x=>?_;cases r with
 |error e=>exact(hCX H e s' x).elim
 |ok fl =>
 cases fl with
 |next=>exact False.elim x
 |brk=>exact False.elim x
 |cont=>exact False.elim x
 |ret u =>
 refine x_20 x λv H' zy=>x_05 zy λos bare un hok' r' q=>?_;have kept:∀b o,b≠Pt->s₁.heap.get? b=some o->s'.heap.get? b=some o:=λb o z e=>by
  cases q2:H b with
  |none=>exact un.keep b o e q2 (by intro z;exact absurd (show b∈([]:List Addr)from z) (by simp)) (by simp)
  |some u2 =>
  rw[hne z]at q2;rcases hO b with z1|⟨ob,u3,z1⟩
  ·rw[q2]at z1
   cases z1
  have z2:=un.frzs b ob _ ((hne z).trans z1);obtain⟨e1,_⟩:=hok b _ z1;obtain⟨e2,_⟩:=hok' b _ z2;rw[e]at e1;cases e1;exact e2
 obtain⟨more,eP⟩:=un.tbls Pt #[] hHP;have gP:s'.heap.get? Pt=some (tabObj (#[]++more)):=hok' Pt _ eP;have KX':K.In s'.heap:=λb o e=>kept b o (λz=>by rw[z,hKP]at e;cases e) (KX b o e);obtain⟨as,hrd⟩:=Dw.reads (R:=R) (cl:=cl) hok' KX' d0 v u q r';refine⟨u,as,rfl,hrd,⟨λb o e=>?_,λb o e=>?_⟩,os,bare⟩
 ·by_cases z:b=Pt
  ·subst z
   rw[hP]at e;cases e;obtain⟨oc,vs,file,tf,flags,tg,inF,text,tt,e1,c1,c2,c3,_⟩:=hC;exact .inr (.inl ⟨⟨cc,oc,vs,e1,c1,c2,c3⟩,rfl,#[],more,rfl,gP⟩)
  exact .inl (kept b o z e)
 by_cases z:b=Pt
 ·subst z
  exact⟨_,gP⟩
 exact⟨o,kept b o z e⟩
theorem zg{r:OpenSpec}{k:Nat}{q:Program}{loose:List Str}{XP:(zM)->Heap->Prop}{YP:World->Heap->Prop}{d:DefRec}{K:Params->Frag}{CX:CXT}{ps:List Str}{sp:Frag->Addr->Sp}
  (hwell:r.wellSaid=true)(hdf:d.params.defaults=[])(zr:r.args.length=ps.length)(hr:Room k callerA)(hd:d∈recsOf q)(hnt:∀w:World,PySem.W.noTabs (K w.params)=true)
  (hY:∀(w:World) (h:Heap),YP w h->(K w.params).In h)
  (F:∀(w:World) (mg:zM) (fa:Addr) (h:Heap),YP w h->(K w.params).In h->h.Ns mainGlobals mg->mg d.name=some (.ref fa) ->
   ∃fd:FuncData,(∀(s:Shared) (us:List Value),us.length=ps.length->BindsTo s fd ⟨us,[]⟩ (ps.zip us))/\(∃oc od sl,(K w.params).lookup fa=some ⟨oc,od,.func fd,sl⟩) /\
    ∀(base:Heap) (cc Pt:Addr),fd.code=.ref cc->(K w.params).In base->base.Ns mainGlobals mg->CodeHd base cc Pt->base.BuiltinsAt mg Pt->FnOk r.prog w (K w.params) mg base CX k fa fd ps (sp (K w.params) Pt))
  (hsp:∀(K:Frag) (Pt:Addr) (H:Hp) (xs:List V) (a:Codec.denoteAll r.args),H Pt=none->Codec.withinAll r.args a=true->Codec.app r.args r.asked a=true->DwAll K H xs (Codec.encAll r.args a) ->
   sp K Pt xs (upd H Pt (.tbl #[])) (λv H'=>Dw K H' v (r.ret.enc (Codec.app r.args r.f a))) λ_ _ _=>False)
  (hCX:∀(H:Hp) (s:Shared) (e:Value) (s':Shared),CX [] H s (λ_ _ _=>False) e s'->False) :
  PySem.W.WalkOS q loose XP YP r d [] (λf vs=>PySem.call f vs):=by
 intro w s_0 s₁ mg mb G Y fa o pm cd doc dV kV ho hdd hcd hD hmg hg args vals as hpre hlay hrd hwl hlo;obtain⟨a,e1,e2⟩:=PySem.W.os_pre_some hpre;obtain⟨e3,hwi⟩:=Codec.encAll_of_decAll r.args args a e1;subst e3;have KX:=hY w _ Y;refine x_12 (F w mg fa _ Y KX G.T.g hmg) λfd hb zn2 hF=>?_;obtain⟨oc,od,sl,lk⟩:=zn2;refine x_50 (G.T.tab d hd) λa' o' fd' cc Pt zy=>x_05 zy λt1 t2 t3 t4 t5 t6=>?_;rw[hmg]at t1;cases t1;rw[KX _ _ lk]at t2;cases t2;cases t3;have hC:CodeHd s₁.heap cc Pt:=PySem.W.CodeHd.of t5 t6;have hP:s₁.heap.get? Pt=some (tabObj #[]):=t6.2;have hKP:(K w.params).lookup Pt=none:=by
  cases q2:(K w.params).lookup Pt with
  |none=>rfl
  |some o2 =>
  have z:=KX _ _ q2;rw[hP]at z;cases z;have:=all_eq_true.mp (hnt w) _ (PySem.W.mem_of_lookupK q2);cases this
 have hbm:s₁.heap.BuiltinsAt mg Pt:=by
  obtain⟨bm,ob,b1,b2,b3,b4,b5,b6⟩:=G.T.bmain;have g1:bm≠mainGlobals:=λz=>by
   obtain⟨o3,es,ep,e,hd3,_⟩:=G.T.g;rw[z,e]at b3;cases b3;rw[hd3]at b6;cases b6
  have g2:bm≠Pt:=λz=>by
   rw[z,hP]at b3;cases b3;cases b4
  exact⟨bm,ob,b1,b2,g1,g2,b3,b4,b5,b6⟩
 refine PySem.W.enter_call (codeAny_mono (zf (R:=[]) (cl:=classAt s_0.heap) (d0:=r.ret.enc (Codec.app r.args r.f a)) KX G.T.g G.T.b G.T.builtins G.T.nolimit hg hwl (qK _ _) (za hlay) hr hKP hP hC hbm (λbase k1 k2 k3 k4=>hF base cc Pt t4 k1 k2 k3 k4) hb (by rw[qS];exact zr)
  (λH xs hO hS=>hsp (K w.params) Pt H xs a hO hwi e2 hS) λH e s'=>hCX H s₁ e s') λr' s' hq=>?_)
 obtain⟨u,as',rfl,h1,h2,h3,h4⟩:=hq;exact⟨.inl ⟨u,_,as',rfl,λ_=>rfl,h1,(OpenSpec.post_iff hwell hwi _ _).mpr rfl,λz=>Bool.noConfusion (show false=true from z)⟩,h2,h3,h4⟩
end
section
variable{X:Cx}{CX:CXT}{k:Nat}{E:XK}{x:Str}{p pos:Pos}{e:Expr}{es:List Expr}{t:TA}
def qV(X:Cx)(CX:CXT)(k i:Nat)(E:XK)(t:TA):TE:=λσ H Q=>∃f fd ps sp,σ[i]? = some (some (.ref f))/\FnOk X.prog X.w X.K X.mg X.base CX k f fd ps sp/\aW X.K fd ps []/\PySem.W.FnAt f X.base /\
 t σ H λvs H1=>sp vs H1 Q E
theorem qW{f:Addr}{h h':Heap}(q:PySem.W.FnAt f h)(k:∀b o,h.get? b=some o->h'.get? b=some o):PySem.W.FnAt f h':=let⟨a,b,c,d,e⟩:=q;⟨a,b,c,d,k _ _ e⟩
theorem zh(i:Nat)(hr:Room k X.A)(hx:bQ CX X E)(ha:PA X (e::es) t)(hN:X.N[i]? = some x:=by rfl)
  (hv:Vis X.env.scope x:=by first|exact Or.inl rfl|exact Or.inr (Or.inl rfl)|exact Or.inr (Or.inr rfl))(hd:(x==("__debug__":Str))=false:=by decide)(hcd:(x==("__classdict__":Str))=false:=by decide)
  (he:starEach (e::es) X.env=(false,eval e X.env)::starEach es X.env:=by rfl)(hpl:(backTo pos (starEach es X.env)).any (·.1)=false:=by rfl) :
  PE X (.Call (.Name x p) (e::es) [] pos) (qV X CX k i E t):=by
 intro zz s σ H Q I h;refine x_40 h λf fd ps sp zy=>x_04 zy λh1 F hb hk h2=>?_;refine wpAny_Call_Name_kw (thn (pv (X:=X) i hN hv hd hcd zz s σ H (λv H'=>v=.ref f/\H'=H) I (oy h1 ⟨rfl,rfl⟩)) λu s1 zq=>?_);refine x_23 zq λv H1 I1 r1 ev eH=>?_;subst ev eH;cases r1;refine PySem.W.callWith_F (qW hk I1.bk) (thn (ha pos zz s1 σ _ _ I1 h2) λus s2 ⟨vs,H2,I2,r,q⟩=>⟨qW hk I2.bk,?_⟩) he hpl;exact fM (dvs:=[]) F hr hb .nil hx I2 r (by rw[append_nil];exact q)
end
theorem Fun.okC{P:Program}{w:World}{K:Frag}{mg:zM}{base:Heap}{x qual:Str}{st:Stmt}{f cc:Addr}{fd:FuncData}{N ps:List Str}{k:Nat}{sp:Sp}(F:Fun K x qual st f fd)(hcc:fd.code=.ref cc)(S:FnScope N ps (aq st))
  (hbody:∀(A:Around) (outer:List Env) (s:Shared) (H:Hp) (vs:List V) (Q:VK) (E:XK),Room k (A.deeper (envOfC qual (aq st) s.heap.objs.size f (.ref cc)))->sp vs H Q E ->
   ∃t,PSs (cxOf CX0 P w K mg base N qual (aq st) f (.ref cc) A outer s H E).nox (cJ st) t/\t {nx:=λ_ H'=>Q .non H',rt:=Q} (start N vs) H)(len:∀vs H Q E,sp vs H Q E->vs.length=ps.length):FnOk P w K mg base CX0 (k+1) f fd ps sp:=by
 refine x_90 F.ex λoc od kV doc pm an cdv ct osl zy=>x_02 zy λzr9 lk hcd=>?_;subst zr9;have e:cdv=.ref cc:=hcc;subst e;refine jG lk hcd S len λA outer s H vs Q E hr hsp=>?_;obtain⟨t,h,q⟩:=hbody A outer s H vs Q E hr hsp;exact⟨t,h.nox,q⟩
theorem zi{l:List (Str×NameKind)}{x:Str}(h:l.all (λp=> !(p.2==.free)||p.1==x)=true):∀y,l.lookup y=some .free->y=x:=λy e=>by
 have:=all_eq_true.mp h _ (PySem.mem_of_lookup e);simpa using this
theorem qX{K:Frag}{H:Hp}{a Pt:Addr}{xs:List V}{ps qs:Array Value}(h:H Pt=some (.tbl ps))(q:SqL K H a xs):SqL K (upd H Pt (.tbl qs)) a xs:=by
 rcases q with(q|⟨o,q⟩)|q
 ·exact .inl (.inl (by rw[ao (λz=>by rw[z,h]at q;cases q)];exact q))
 ·exact .inl (.inr ⟨o,by rw[ao (λz=>by rw[z,h]at q;cases q)];exact q⟩)
 exact .inr q
theorem lB{K:Frag}{H:Hp}{a Pt:Addr}{xs:List V}{qs:Array Value}(h:H Pt=none)(q:SqL K H a xs):SqL K (upd H Pt (.tbl qs)) a xs:=by
 rcases q with(q|⟨o,q⟩)|q
 ·exact .inl (.inl (by rw[ao (λz=>by rw[z,h]at q;cases q)];exact q))
 ·exact .inl (.inr ⟨o,by rw[ao (λz=>by rw[z,h]at q;cases q)];exact q⟩)
 exact .inr q
end
section
open PySem.W (InstAt Looks)
def qY(X:Cx)(C:Addr)(ts:TS)(D:Ends):XK:=λcls d H=>cls=.ref C/\∀a dx,d=some dx->H a=none->ts {nx:=λ_ _=>False,rt:=D.rt} (List.replicate X.N.length none) (upd H a (XGot C a dx))
section
variable{X:Cx}{C f:Addr}{cx:Str}{np hpos pos:Pos}{body suite:List Stmt}{b₀:Stmt}{ts:TS}{tb:Ends->TS}
theorem zj(c:XCls X.K C f)(hg:Gl X cx)(hm:X.mg cx=some (.ref C))(hstk:X.stack=X.env::X.outer)(hfr:X.env.frame=some X.env.locals)
  (hb:∀(pn:zP) (E:zQ) (D:Ends),bQ (CX1 X.prog X.w) (X.pinned pn E) (qY X C ts D)->PSs (X.pinned pn E) body (tb D))(hs:∀a,PSs (X.hand a) (b₀::suite) ts)
  (hdb:(cx==("__debug__":Str))=false:=by decide) :
  PS X (.Try body [.ExceptHandler (some (.Name cx np)) none (b₀::suite) hpos] [] [] pos) (λD σ H=>tb D D σ H):=by
 refine ou (hn:=none) (hE:=qY X C ts) (λD cls d H z=>z.1) c hg hm hstk hfr hb (λD zz a d H s Q E σ0 H0 s0 I q free fl hQ=>?_) hdb;refine codeAny_handlers_suite (fl _ _ λs4 J5=>?_);refine wpAny_mono (hs a zz _ _ _ {nx:=λ_ _=>False,rt:=D.rt} (J5.hand_in a) (q.2 a d rfl free)) (λfl s6 r=>?_) λ_ _ z=>False.elim z;cases fl with
 |next=>obtain⟨_,_,_,z⟩:=r;exact z.elim
 |brk=>obtain⟨_,_,_,z⟩:=r;exact z.elim
 |cont=>obtain⟨_,_,_,z⟩:=r;exact z.elim
 |ret u =>
 obtain⟨v,σ7,H7,J7,rv,r⟩:=r;exact hQ _ _ ⟨v,σ7,H7,J7.hand_out I.ok,rv,r⟩
end
theorem zA{p q:Str}(n:(p==q)=false):∀us:List Value,us.length=[p,q].length->∀(i:Nat) (y:Str) (u:Value),[p,q][i]? = some y->us[i]? = some u->([p,q].zip us).reverse.lookup y=some u:=λus e i y u h1 h2=>by
 obtain⟨a,b,rfl⟩:=len2 e;show List.lookup y [(q,b),(p,a)]=some u;cases i with
 |zero =>
  cases h1;cases h2;rw[lookup_cons,n];exact List.lookup_cons_self
 |succ i =>
 cases i with
 |zero =>
  cases h1;cases h2;exact List.lookup_cons_self
 |succ i=>cases h1
theorem zB{Q:List Value->Prop}(h:∀a b,Q [a,b])(us:List Value)(e:us.length=2):Q us:=by
 obtain⟨a,b,rfl⟩:=len2 e;exact h a b
end
end L2
namespace M
open PySem PySem.Spec PyProof.Rows L2 TL
set_option hygiene false
local macro_rules
 | `(tactic| simp![$l,*])=> `(tactic| ((try dsimp only[tRet,sW,jy,jB,tC,tVar,tOp,tUn,rI0,rI,rU,gR,isB,tB,tIfS,tIf,tAnd,tOr,tNot,lV,tOrV,sV,tAsg,tCB,cC,tNil,eY,lX,tAug,ipI,tSl,mI,mH,tM0,tM1,rEq,rNe,tIsN,sT,rIxS,rIxL,rIxT,rAll,rMax,rSum,rSlL,rSlS,rIn,tLst,tTup,iStr,gO,iTup,tYes,if_true,if_false,ite_true,ite_false,ck,cx_K,cx_P,cx_w,vx,vy,cx_N,wipe,L2.start,map_cons,map_nil,cons_append,nil_append,List.getElem?_cons_zero,List.getElem?_cons_succ,List.set_cons_zero,List.set_cons_succ,$(⟨l.elemsAndSeps⟩),*]);(try simp only[wN,wO,wQ,map_cons,map_nil,length_cons,length_nil,List.replicate,cons_append,nil_append,append_nil,List.getElem?_cons_zero,List.getElem?_cons_succ,List.set_cons_zero,List.set_cons_succ,Nat.reduceSub,Nat.reduceAdd,add_zero,zero_add,Option.some.injEq,V.int.injEq,V.bl.injEq,V.str.injEq,V.ref.injEq,List.cons.injEq,and_true,true_and,exists_eq_left,exists_eq_left',exists_and_left,exists_eq,exists_eq',reduceCtorEq,false_and,false_eq_true,if_true,if_false,ite_true,ite_false,decide_eq_true_eq,vz,vA,S_eq,aS,and_assoc,natCast_inj,ai,fI,HO.ins.injEq,List.zip_cons_cons,List.zip_nil_left,List.zip_nil_right,$l,*])))
set_option hygiene true
def top(i:Nat):Stmt:=PySem.Challenge.pw_measuretext_s11_put.main.body.getD i (.Pass ⟨0,0,0,0⟩)
abbrev s_Q:Stmt:=top 10
theorem sc_Q:FnScope ["term","found","todo","item","part"] ["term"] (aq s_Q):=by right
abbrev s_I:Stmt:=top 11
theorem sc_I:FnScope ["term","number","item"] ["term"] (aq s_I):=by right
abbrev s_at:Stmt:=top 12
theorem sc_at:FnScope ["term"] ["term"] (aq s_at):=by right
abbrev s_R:Stmt:=top 13
theorem sc_R:FnScope ["whole","pieces_of","shown","todo","item","piece"] ["whole","pieces_of"] (aq s_R):=by right
abbrev s_S:Stmt:=top 14
theorem sc_S:FnScope ["node","pieces","content"] ["node"] (aq s_S):=by right
abbrev s_z:Stmt:=top 15
theorem sc_z:FnScope ["node","found","words","kind"] ["node"] (aq s_z):=by right
abbrev s_w:Stmt:=top 17
theorem sc_w:FnScope ["term","found","todo","item","node","bound","content"] ["term"] (aq s_w):=by right
abbrev s_au:Stmt:=top 20
theorem sc_au:FnScope ["term"] ["term"] (aq s_au):=by right
abbrev s_D:Stmt:=top 21
theorem sc_D:FnScope ["term","away","fresh","whole","todo","item","name"] ["term","away"] (aq s_D):=by right
abbrev s_M:Stmt:=top 22
theorem sc_M:FnScope ["todo","item","node","copied","within","content","renamed"] ["todo","item"] (aq s_M):=by right
abbrev s_av:Stmt:=top 23
theorem sc_av:FnScope ["node","renamed"] ["node","renamed"] (aq s_av):=by right
abbrev s_Z:Stmt:=top 24
theorem sc_Z:FnScope ["name","term","other","away"] ["name","term","other"] (aq s_Z):=by right
abbrev s_E:Stmt:=top 25
theorem sc_E:FnScope ["term","name","other","whole","todo","item","node","owner","copied","part"] ["term","name","other"] (aq s_E):=by right
abbrev s_T:Stmt:=top 37
theorem sc_T:FnScope ["byte"] ["byte"] (aq s_T):=by right
abbrev s_r:Stmt:=top 38
theorem sc_r:FnScope ["byte"] ["byte"] (aq s_r):=by right
abbrev s_N:Stmt:=top 39
theorem sc_N:FnScope ["byte"] ["byte"] (aq s_N):=by right
abbrev s_J:Stmt:=top 40
theorem sc_J:FnScope ["text","sign"] ["text"] (aq s_J):=by right
abbrev s_al:Stmt:=top 41
theorem sc_al:FnScope ["text"] ["text"] (aq s_al):=by right
abbrev s_aa:Stmt:=top 42
theorem sc_aa:FnScope ["byte"] ["byte"] (aq s_aa):=by right
abbrev s_ab:Stmt:=top 43
theorem sc_ab:FnScope ["byte"] ["byte"] (aq s_ab):=by right
abbrev s_s:Stmt:=top 44
theorem sc_s:FnScope ["text","place","belongs"] ["text","place","belongs"] (aq s_s):=by right
abbrev s_aw:Stmt:=top 45
theorem sc_aw:FnScope ["byte"] ["byte"] (aq s_aw):=by right
abbrev s_p:Stmt:=top 46
theorem sc_p:FnScope ["some_bytes","byte"] ["some_bytes"] (aq s_p):=by right
abbrev s_am:Stmt:=top 52
theorem sc_am:FnScope ["text","begin","end"] ["text","begin"] (aq s_am):=by right
abbrev s_U:Stmt:=top 53
theorem sc_U:FnScope ["spelling","divided","rows","row"] ["spelling"] (aq s_U):=by right
abbrev s_F:Stmt:=top 54
theorem sc_F:FnScope ["over","under","divisor"] ["over","under"] (aq s_F):=by right
abbrev s_ac:Stmt:=top 55
theorem sc_ac:FnScope ["first","second","remainder"] ["first","second"] (aq s_ac):=by right
abbrev s_ad:Stmt:=top 56
theorem sc_ad:FnScope ["measure","factor"] ["measure"] (aq s_ad):=by right
abbrev s_ae:Stmt:=top 57
theorem sc_ae:FnScope ["factor","halves"] ["factor"] (aq s_ae):=by right
abbrev s_af:Stmt:=top 58
theorem sc_af:FnScope ["power","digits","sign"] ["power"] (aq s_af):=by right
abbrev s_ax:Stmt:=top 59
theorem sc_ax:FnScope ["amount","measure"] ["amount","measure"] (aq s_ax):=by right
abbrev s_ay:Stmt:=top 60
theorem sc_ay:FnScope ["amount"] ["amount"] (aq s_ay):=by right
abbrev s_O:Stmt:=top 61
theorem sc_O:FnScope ["amount","shown"] ["amount"] (aq s_O):=by right
abbrev s_az:Stmt:=top 69
theorem sc_az:FnScope ["text"] ["text"] (aq s_az):=by right
abbrev s_V:Stmt:=top 70
theorem sc_V:FnScope ["text","gap_end","token_at","found","place","token"] ["text","gap_end","token_at"] (aq s_V):=by right
abbrev s_ag:Stmt:=top 71
theorem sc_ag:FnScope ["text","place"] ["text","place"] (aq s_ag):=by right
abbrev s_W:Stmt:=top 72
theorem sc_W:FnScope ["text","begin","digits"] ["text","begin"] (aq s_W):=by right
abbrev s_ah:Stmt:=top 73
theorem sc_ah:FnScope ["text","begin","end","word","kind"] ["text","begin"] (aq s_ah):=by right
abbrev s_G:Stmt:=top 74
theorem sc_G:FnScope ["text","begin","digits","end","amount","measure","kind"] ["text","begin","digits"] (aq s_G):=by right
abbrev s_an:Stmt:=top 75
theorem sc_an:FnScope ["text","begin","end","measure"] ["text","begin"] (aq s_an):=by right
abbrev s_ao:Stmt:=top 76
theorem sc_ao:FnScope ["text","begin","signs","sign"] ["text","begin","signs"] (aq s_ao):=by right
abbrev s_t:Stmt:=top 79
theorem sc_t:FnScope ["text","row","whole","todo","term"] ["text"] (aq s_t):=by right
abbrev s_as:Stmt:=top 80
theorem sc_as:FnScope ["row","todo","step","owner"] ["row","todo","step"] (aq s_as):=by right
abbrev s_ai:Stmt:=top 81
theorem sc_ai:FnScope ["row","todo","step","node","kind"] ["row","todo","step"] (aq s_ai):=by right
abbrev s_aj:Stmt:=top 82
theorem sc_aj:FnScope ["row","begin","form"] ["row"] (aq s_aj):=by right
abbrev s_aA:Stmt:=top 83
theorem sc_aA:FnScope ["token"] ["token"] (aq s_aA):=by right
abbrev s_j:Stmt:=top 90
theorem sc_j:FnScope ["name","first","second","word"] ["name","first","second"] (aq s_j):=by right
abbrev s_ap:Stmt:=top 91
theorem sc_ap:FnScope ["first","second"] ["first","second"] (aq s_ap):=by right
abbrev s_K:Stmt:=top 92
theorem sc_K:FnScope ["first","second","answering","term","fault","other"] ["first","second","answering"] (aq s_K):=by right
abbrev s_aq:Stmt:=top 93
theorem sc_aq:FnScope ["term"] ["term"] (aq s_aq):=by right
abbrev s_ak:Stmt:=top 94
theorem sc_ak:FnScope ["name","term","other","outcome"] ["name","term","other"] (aq s_ak):=by right
abbrev s_aB:Stmt:=top 95
theorem sc_aB:FnScope ["shown"] ["shown"] (aq s_aB):=by right
abbrev s_ar:Stmt:=top 96
theorem sc_ar:FnScope ["shown","sign"] ["shown"] (aq s_ar):=by right
abbrev s_m:Stmt:=cI (top 1) 0
theorem sc_m:FnScope ["self","kind","place"] ["self","kind","place"] (aq s_m):=by right
abbrev s_n:Stmt:=cI (top 9) 0
theorem sc_n:FnScope ["self","form","words","parts","begin","end"] ["self","form","words","parts","begin","end"] (aq s_n):=by right
abbrev s_A:Stmt:=cI (top 18) 0
theorem sc_A:FnScope ["self","away"] ["self","away"] (aq s_A):=by right
abbrev s_q:Stmt:=cI (top 18) 1
theorem sc_q:FnScope ["self","name"] ["self"] (aq s_q):=by right
abbrev s_y:Stmt:=cI (top 19) 0
theorem sc_y:FnScope ["self","kind","content","owner","renamed"] ["self","kind","content","owner","renamed"] (aq s_y):=by right
abbrev s_x:Stmt:=cI (top 51) 0
theorem sc_x:FnScope ["self","over","under","measure"] ["self","over","under","measure"] (aq s_x):=by right
abbrev s_u:Stmt:=cI (top 67) 0
theorem sc_u:FnScope ["self","group","kind","begin","end","content"] ["self","group","kind","begin","end","content"] (aq s_u):=by right
abbrev s_B:Stmt:=cI (top 68) 0
theorem sc_B:FnScope ["self","found","length"] ["self","found","length"] (aq s_B):=by right
abbrev s_k:Stmt:=cI (top 68) 1
theorem sc_k:FnScope ["self"] ["self"] (aq s_k):=by right
abbrev s_l:Stmt:=cI (top 68) 2
theorem sc_l:FnScope ["self","token"] ["self"] (aq s_l):=by right
abbrev s_o:Stmt:=cI (top 68) 3
theorem sc_o:FnScope ["self","kind"] ["self","kind"] (aq s_o):=by right
abbrev s_v:Stmt:=cI (top 78) 0
theorem sc_v:FnScope ["self","kind","owner","depth"] ["self","kind","owner","depth"] (aq s_v):=by right
set_option genInjectivity false in
set_option genSizeOfSpec false in
set_option genSizeOf false in
structure TA where
 (a_X a_H a_C a_b a_Y a_L a_P C_c f_m C_a f_n C_i f_A f_q C_h f_y C_e f_x C_d f_u C_f f_B f_k f_l f_o C_g f_v f_Q f_I f_at f_R f_S f_z f_w f_au f_D f_M f_av f_Z f_E f_T f_r f_N f_J f_al f_aa f_ab f_s f_aw f_p f_am f_U f_F f_ac f_ad f_ae f_af f_ax f_ay f_O f_az f_V f_ag f_W f_ah f_G f_an f_ao f_t f_as f_ai f_aj f_aA f_j f_ap f_K f_aq f_ak f_aB f_ar:Addr)
 (d_m d_n d_A d_q d_y d_x d_u d_B d_k d_l d_o d_v d_Q d_I d_at d_R d_S d_z d_w d_au d_D d_M d_av d_Z d_E d_T d_r d_N d_J d_al d_aa d_ab d_s d_aw d_p d_am d_U d_F d_ac d_ad d_ae d_af d_ax d_ay d_O d_az d_V d_ag d_W d_ah d_G d_an d_ao d_t d_as d_ai d_aj d_aA d_j d_ap d_K d_aq d_ak d_aB d_ar:FuncData)
structure TX(w:World)(K:Frag)(mg:zM)(J:TA):Prop where
 g_aP:∃u,mg "MOST_DEPTH"=some u/\RelV (.int 40) u
 g_a2:∃u,mg "MOST_NODES"=some u/\RelV (.int 300) u
 g_X:mg "SPELLED_FORMS"=some (.ref J.a_X)
 t_X:∀H,SqT K H J.a_X [V.str "name",V.str "number"]
 g_H:mg "PLAIN_FORMS"=some (.ref J.a_H)
 t_H:∀H,SqT K H J.a_H [V.str "true",V.str "false",V.str "nil"]
 g_C:mg "PART_KINDS"=some (.ref J.a_C)
 t_C:∀H,SqT K H J.a_C [V.str "part",V.str "body"]
 g_b:mg "FORMS"=some (.ref J.a_b)
 t_b:yi w K J.a_b
 g_a3:∃u,mg "BLANK"=some u/\RelV (.int 32) u
 g_a4:∃u,mg "MEASURE_BEGIN"=some u/\RelV (.int 91) u
 g_a5:∃u,mg "MEASURE_END"=some u/\RelV (.int 93) u
 g_a6:∃u,mg "MINUS"=some u/\RelV (.int 45) u
 g_Y:mg "FRACTION_SIGNS"=some (.ref J.a_Y)
 t_Y:∀H,SqT K H J.a_Y [V.int 46,V.int 47]
 g_aQ:∃u,mg "FIRST_PRINTED"=some u/\RelV (.int 32) u
 g_a7:∃u,mg "LAST_PRINTED"=some u/\RelV (.int 126) u
 g_aR:∃u,mg "MOST_SIGNS"=some u/\RelV (.int 12) u
 g_a8:∃u,mg "PRINTED"=some u/\RelV (.str " !\"#$?&'()*+,-./0123456789:;<=>?@ABCDEFGHIJKLMNOPQRSTUVWXYZ[\\]^_`abcdefghijklmnopqrstuvwxyz{|}~") u
 g_L:mg "TAKEN_WORDS"=some (.ref J.a_L)
 t_L:∀H,SqT K H J.a_L [V.str "fn",V.str "let",V.str "rec",V.str "if",V.str "cons",V.str "case",V.str "pair",V.str "fst",V.str "snd",V.str "fold",V.str "root",V.str "floor",V.str "rest",V.str "true",V.str "false",V.str "nil",V.str "truth",V.str "num",V.str "list",V.str "base",V.str "unit",V.str "def",V.str "fun",V.str "in",V.str "then",V.str "else",V.str "match",V.str "with",V.str "and",V.str "or",V.str "not"]
 g_a9:∃u,mg "MOST_DIGITS"=some u/\RelV (.int 12) u
 g_aS:∃u,mg "FIRST_TOO_GREAT"=some u/\RelV (.int 1000000000000) u
 g_ba:∃u,mg "MOST_POWER_DIGITS"=some u/\RelV (.int 2) u
 g_bb:∃u,mg "WORD_GROUP"=some u/\RelV (.int 0) u
 g_bc:∃u,mg "NUMBER_GROUP"=some u/\RelV (.int 1) u
 g_aT:∃u,mg "SIGN_GROUP"=some u/\RelV (.int 2) u
 g_P:mg "CORE_SIGNS"=some (.ref J.a_P)
 t_P:∀H,SqT K H J.a_P [V.str "(",V.str ")",V.str "+",V.str "-",V.str "*",V.str "/",V.str "^",V.str "<",V.str "="]
 g_aL:∃u,mg "MOST_BYTES"=some u/\RelV (.int 2000) u
 g_bd:∃u,mg "TEXT_TOO_LONG"=some u/\RelV (.int (-1)) u
 g_be:∃u,mg "NO_NAME"=some u/\RelV (.int (-3)) u
 g_aU:∃u,mg "TOO_GREAT"=some u/\RelV (.int (-4)) u
 g_bf:∃u,mg "IN_SECOND_TEXT"=some u/\RelV (.int 20) u
 b_all:mg "all"=none
 b_dict:mg "dict"=none
 b_enumerate:mg "enumerate"=none
 b_int:mg "int"=none
 b_isinstance:mg "isinstance"=none
 b_len:mg "len"=none
 b_list:mg "list"=none
 b_max:mg "max"=none
 b_ord:mg "ord"=none
 b_reversed:mg "reversed"=none
 b_str:mg "str"=none
 b_tuple:mg "tuple"=none
 G_c:mg "Fault"=some (.ref J.C_c)
 F_m:Fun K "__init__" "Fault.__init__" s_m J.f_m J.d_m
 b_m:aW K J.d_m ["self","kind","place"] []
 X_c:XCls K J.C_c J.f_m
 n_bg:aN K J.C_c "kind"
 n_bh:aN K J.C_c "place"
 G_a:mg "Node"=some (.ref J.C_a)
 F_n:Fun K "__init__" "Node.__init__" s_n J.f_n J.d_n
 b_n:aW K J.d_n ["self","form","words","parts","begin","end"] []
 cl_a:Cls K J.C_a
 M_a:Mk K J.C_a J.f_n
 ns_a:NotStr K J.C_a
 n_aD:aN K J.C_a "form"
 n_aC:aN K J.C_a "words"
 n_aF:aN K J.C_a "parts"
 n_aH:aN K J.C_a "begin"
 n_aI:aN K J.C_a "end"
 G_i:mg "FreshNames"=some (.ref J.C_i)
 F_A:Fun K "__init__" "FreshNames.__init__" s_A J.f_A J.d_A
 b_A:aW K J.d_A ["self","away"] []
 F_q:Fun K "take" "FreshNames.take" s_q J.f_q J.d_q
 b_q:aW K J.d_q ["self"] []
 m_q:Meth K J.C_i "take" J.f_q
 cl_i:Cls K J.C_i
 M_i:Mk K J.C_i J.f_A
 n_bk:aN K J.C_i "away"
 n_aM:aN K J.C_i "tried"
 G_h:mg "Uncopied"=some (.ref J.C_h)
 F_y:Fun K "__init__" "Uncopied.__init__" s_y J.f_y J.d_y
 b_y:aW K J.d_y ["self","kind","content","owner","renamed"] []
 cl_h:Cls K J.C_h
 M_h:Mk K J.C_h J.f_y
 n_aV:aN K J.C_h "kind"
 n_aW:aN K J.C_h "content"
 n_aX:aN K J.C_h "owner"
 n_aN:aN K J.C_h "renamed"
 G_e:mg "Amount"=some (.ref J.C_e)
 F_x:Fun K "__init__" "Amount.__init__" s_x J.f_x J.d_x
 b_x:aW K J.d_x ["self","over","under","measure"] []
 cl_e:Cls K J.C_e
 M_e:Mk K J.C_e J.f_x
 n_aY:aN K J.C_e "over"
 n_aO:aN K J.C_e "under"
 n_aZ:aN K J.C_e "measure"
 G_d:mg "Token"=some (.ref J.C_d)
 F_u:Fun K "__init__" "Token.__init__" s_u J.f_u J.d_u
 b_u:aW K J.d_u ["self","group","kind","begin","end","content"] []
 cl_d:Cls K J.C_d
 M_d:Mk K J.C_d J.f_u
 n_bm:aN K J.C_d "group"
 n_aE:aN K J.C_d "kind"
 n_aJ:aN K J.C_d "begin"
 n_a0:aN K J.C_d "end"
 n_aK:aN K J.C_d "content"
 G_f:mg "Row"=some (.ref J.C_f)
 F_B:Fun K "__init__" "Row.__init__" s_B J.f_B J.d_B
 b_B:aW K J.d_B ["self","found","length"] []
 F_k:Fun K "upcoming" "Row.upcoming" s_k J.f_k J.d_k
 b_k:aW K J.d_k ["self"] []
 m_k:Meth K J.C_f "upcoming" J.f_k
 F_l:Fun K "take" "Row.take" s_l J.f_l J.d_l
 b_l:aW K J.d_l ["self"] []
 m_l:Meth K J.C_f "take" J.f_l
 F_o:Fun K "take_kind" "Row.take_kind" s_o J.f_o J.d_o
 b_o:aW K J.d_o ["self","kind"] []
 m_o:Meth K J.C_f "take_kind" J.f_o
 cl_f:Cls K J.C_f
 M_f:Mk K J.C_f J.f_B
 n_bl:aN K J.C_f "ahead"
 n_bi:aN K J.C_f "index"
 G_g:mg "Step"=some (.ref J.C_g)
 F_v:Fun K "__init__" "Step.__init__" s_v J.f_v J.d_v
 b_v:aW K J.d_v ["self","kind","owner","depth"] []
 cl_g:Cls K J.C_g
 M_g:Mk K J.C_g J.f_v
 n_aG:aN K J.C_g "kind"
 n_bj:aN K J.C_g "owner"
 n_a1:aN K J.C_g "depth"
 F_Q:FG K mg "numbered" s_Q ["term"] J.f_Q J.d_Q
 F_I:FG K mg "check_limits" s_I ["term"] J.f_I J.d_I
 F_at:FG K mg "core_text" s_at ["term"] J.f_at J.d_at
 F_R:FG K mg "unfolded" s_R ["whole","pieces_of"] J.f_R J.d_R
 F_S:FG K mg "core_pieces" s_S ["node"] J.f_S J.d_S
 F_z:FG K mg "contents" s_z ["node"] J.f_z J.d_z
 F_w:FG K mg "free_names" s_w ["term"] J.f_w J.d_w
 F_au:FG K mg "plain_form" s_au ["term"] J.f_au J.d_au
 F_D:FG K mg "plain_form_away" s_D ["term","away"] J.f_D J.d_D
 F_M:FG K mg "copy_node" s_M ["todo","item"] J.f_M J.d_M
 F_av:FG K mg "leaf_words" s_av ["node","renamed"] J.f_av J.d_av
 F_Z:FG K mg "put_for" s_Z ["name","term","other"] J.f_Z J.d_Z
 F_E:FG K mg "with_name_replaced" s_E ["term","name","other"] J.f_E J.d_E
 F_T:FG K mg "is_letter" s_T ["byte"] J.f_T J.d_T
 F_r:FG K mg "is_digit" s_r ["byte"] J.f_r J.d_r
 F_N:FG K mg "is_in_word" s_N ["byte"] J.f_N J.d_N
 F_J:FG K mg "is_short_word" s_J ["text"] J.f_J J.d_J
 F_al:FG K mg "is_name" s_al ["text"] J.f_al J.d_al
 F_aa:FG K mg "is_blank" s_aa ["byte"] J.f_aa J.d_aa
 F_ab:FG K mg "is_before_measure_end" s_ab ["byte"] J.f_ab J.d_ab
 F_s:FG K mg "run_end" s_s ["text","place","belongs"] J.f_s J.d_s
 F_aw:FG K mg "sign_of" s_aw ["byte"] J.f_aw J.d_aw
 F_p:FG K mg "signs_of" s_p ["some_bytes"] J.f_p J.d_p
 F_am:FG K mg "number_end" s_am ["text","begin"] J.f_am J.d_am
 F_U:FG K mg "fraction_of" s_U ["spelling"] J.f_U J.d_U
 F_F:FG K mg "lowest" s_F ["over","under"] J.f_F J.d_F
 F_ac:FG K mg "common_divisor" s_ac ["first","second"] J.f_ac J.d_ac
 F_ad:FG K mg "is_measure" s_ad ["measure"] J.f_ad J.d_ad
 F_ae:FG K mg "is_factor" s_ae ["factor"] J.f_ae J.d_ae
 F_af:FG K mg "is_power" s_af ["power"] J.f_af J.d_af
 F_ax:FG K mg "measured" s_ax ["amount","measure"] J.f_ax J.d_ax
 F_ay:FG K mg "negated" s_ay ["amount"] J.f_ay J.d_ay
 F_O:FG K mg "amount_text" s_O ["amount"] J.f_O J.d_O
 F_az:FG K mg "core_tokens" s_az ["text"] J.f_az J.d_az
 F_V:FG K mg "tokens_between" s_V ["text","gap_end","token_at"] J.f_V J.d_V
 F_ag:FG K mg "core_gap_end" s_ag ["text","place"] J.f_ag J.d_ag
 F_W:FG K mg "core_token" s_W ["text","begin"] J.f_W J.d_W
 F_ah:FG K mg "word_token" s_ah ["text","begin"] J.f_ah J.d_ah
 F_G:FG K mg "number_token" s_G ["text","begin","digits"] J.f_G J.d_G
 F_an:FG K mg "measure_at" s_an ["text","begin"] J.f_an J.d_an
 F_ao:FG K mg "sign_token" s_ao ["text","begin","signs"] J.f_ao J.d_ao
 F_t:FG K mg "core_term" s_t ["text"] J.f_t J.d_t
 F_as:FG K mg "go_on" s_as ["row","todo","step"] J.f_as J.d_as
 F_ai:FG K mg "begin_term" s_ai ["row","todo","step"] J.f_ai J.d_ai
 F_aj:FG K mg "bracket_begin" s_aj ["row"] J.f_aj J.d_aj
 F_aA:FG K mg "leaf" s_aA ["token"] J.f_aA J.d_aA
 F_j:FG K mg "put" s_j ["name","first","second"] J.f_j J.d_j
 F_ap:FG K mg "is_either_too_long" s_ap ["first","second"] J.f_ap J.d_ap
 F_K:FG K mg "both_answered" s_K ["first","second","answering"] J.f_K J.d_K
 F_aq:FG K mg "plain_answer" s_aq ["term"] J.f_aq J.d_aq
 F_ak:FG K mg "put_answer" s_ak ["name","term","other"] J.f_ak J.d_ak
 F_aB:FG K mg "text_answer" s_aB ["shown"] J.f_aB J.d_aB
 F_ar:FG K mg "bytes_of" s_ar ["shown"] J.f_ar J.d_ar
def jo(f:List Int->List Int->List Int->List Int)(K:Frag)(Pt:Addr):Sp:=λvs H Q _=>∃(c a b:Addr) (nm ns ms:List Int),vs=[.ref c,.ref a,.ref b]/\H Pt=some (.tbl #[])/\SqL K H c (nm.map V.int)/\SqL K H a (ns.map V.int)/\SqL K H b (ms.map V.int)/\nm.length<=10000/\ns.length<=10000/\ms.length<=10000/\(∀n∈nm,0<=n/\n<=255)/\(∀n∈ns,0<=n/\n<=255)/\(∀n∈ms,0<=n/\n<=255)/\∀(H':Hp) (p:Addr),H' p=some (.lst ((f nm ns ms).map V.int))->Q (.ref p) H'
set_option genInjectivity false in
set_option genSizeOfSpec false in
set_option genSizeOf false in
structure Ev where
 P:Program
 w:World
 K:Frag
 mg:Str->Option Value
 J:TA
def Ev.main(e:Ev):Prop:=∀(base:Heap) (cc Pt:Addr),PySem.W.CodeHd base cc Pt->base.BuiltinsAt e.mg Pt->e.J.d_j.code=.ref cc->FnOk e.P e.w e.K e.mg base CX0 22 e.J.f_j e.J.d_j ["name","first","second"] (jo PyVaunid.put e.K Pt)
theorem qZ:Nonempty Ev:=have d:FuncData:=default;⟨default,PySem.W.aWorld 1,[],λ_=>none,⟨0,0,0,0,0,0,0,0,0,0,0,0,0,0,0,0,0,0,0,0,0,0,0,0,0,0,0,0,0,0,0,0,0,0,0,0,0,0,0,0,0,0,0,0,0,0,0,0,0,0,0,0,0,0,0,0,0,0,0,0,0,0,0,0,0,0,0,0,0,0,0,0,0,0,0,0,0,0,0,0,d,d,d,d,d,d,d,d,d,d,d,d,d,d,d,d,d,d,d,d,d,d,d,d,d,d,d,d,d,d,d,d,d,d,d,d,d,d,d,d,d,d,d,d,d,d,d,d,d,d,d,d,d,d,d,d,d,d,d,d,d,d,d,d,d⟩⟩
@[irreducible] noncomputable def E9:Ev:= @Classical.epsilon Ev qZ λe=>TX e.w e.K e.mg e.J/\¬e.main
theorem zC(h:∃e:Ev,TX e.w e.K e.mg e.J/\¬e.main):TX E9.w E9.K E9.mg E9.J/\¬E9.main:=by
 unfold E9;exact @Classical.epsilon_spec_aux Ev qZ (λe=>TX e.w e.K e.mg e.J/\¬e.main) h
theorem zD(h:TX E9.w E9.K E9.mg E9.J->E9.main)(e:Ev)(T:TX e.w e.K e.mg e.J):e.main:=Classical.byContradiction λn=>have z:=zC ⟨e,T,n⟩;z.2 (h z.1)
noncomputable def P:Program:=E9.P
noncomputable def w:World:=E9.w
noncomputable def K:Frag:=E9.K
noncomputable def mg:zM:=E9.mg
noncomputable def J:TA:=E9.J
noncomputable abbrev TZ:=TX w K mg J
noncomputable abbrev FO(base:Heap):=FnOk P w K mg base CX0
noncomputable abbrev FX(base:Heap):=FnOk P w K mg base (CX1 P w)
section
variable{base:Heap}
theorem gG{C:Addr}{names:List Str}{vs:List V}{H:Hp}{Q:VK}{E:XK}(h:bR C names vs H Q E):vs.length=names.length+1:=by
 obtain⟨p,dx,args,rfl,hl,_⟩:=h;rw[length_cons,hl]
theorem ok_T(T:TZ):FO base 1 J.f_T J.d_T ["byte"] (spB Vaunid.isSmall):=by
 refine T.F_T.fn.ok sc_T λ_ _ _ _ H _ Q E hr h=>?_;obtain⟨n,rfl,k⟩:=h;refine⟨_,(ah (az (ml eW eW au (pv 0) au))),?_⟩;simp![tSeq];have e:Vaunid.isSmall n=(decide ((97:Int)<=n)&&decide ((n:Int)<=122)):=by unfold Vaunid.isSmall;congr 1<;>exact decide_eq_decide.mpr (by omega)
 rw[e]at k;split<;>rename_i q<;>simpa[q]using k
theorem ok_r(T:TZ):FO base 1 J.f_r J.d_r ["byte"] (spB Vaunid.isDigit):=by
 refine T.F_r.fn.ok sc_r λ_ _ _ _ H _ Q E hr h=>?_;obtain⟨n,rfl,k⟩:=h;refine⟨_,(ah (az (ml eW eW au (pv 0) au))),?_⟩;simp![tSeq];have e:Vaunid.isDigit n=(decide ((48:Int)<=n)&&decide ((n:Int)<=57)):=by unfold Vaunid.isDigit;congr 1<;>exact decide_eq_decide.mpr (by omega)
 rw[e]at k;split<;>rename_i q<;>simpa[q]using k
theorem ok_N(T:TZ):FO base 2 J.f_N J.d_N ["byte"] (spB Vaunid.inWord):=by
 refine T.F_N.fn.ok sc_N λ_ _ _ _ H _ Q E hr h=>?_;obtain⟨n,rfl,k⟩:=h;refine⟨_,(ah (az (jx (aD T.F_T (ok_T T) hr.m ak (aa (pv 0) ae)) (jx (aD T.F_r (ok_r T) hr.m ak (aa (pv 0) ae)) (gN (eC bj (pv 0) au (aH _))))))),?_⟩;simp![tSeq,spB,natCast_inj];have e:decide ((n:Int)=95)=(n==95):=ka n 95;unfold Vaunid.inWord at k;rw[e];cases h1:Vaunid.isSmall n<;>cases h2:Vaunid.isDigit n<;>rw[h1,h2]at k<;>simpa using k
def rb:Sp:=λvs H Q _=>∃l:List Nat,vs=[.str (S l)]/\l.length<=sizeLine/\∀H',Same H H'->Q (.bl (bq l)) H'
theorem ok_J(T:TZ):FO base 3 J.f_J J.d_J ["text"] rb:=by
 refine T.F_J.fn.ok sc_J λ_ _ _ _ H _ Q E hr h=>?_;obtain⟨l,rfl,hl,k⟩:=h;refine⟨_,(ag (aG (PW.pt (pw_or (aC bj (pv 0) aE (aH _)) (pw_or (aC dE (bx dI rfl T.b_len PySem.boot_len (aa (pv 0) ae)) (pe_g T.g_aR) (aH _)) (pw_or1 (jw (cA (aD T.F_T (ok_T T) hr.m ak (aa (bx gT rfl T.b_ord iD (aa (aJ mK (pv 0) au (λ_ _=>rfl)) ae)) ae)))))))) (ah (az eR)) aP)
  (ah (az (bx (mO rfl) rfl T.b_all oB (aa (fR rfl sc_J.nd (jU (pv 0)) (fS (own:=[("sign",1)]) (by kernel_rfl)) (λ_ _ _ _ _=>pg_q 1 sc_J.nd) (λ_ _ _ _ _=>fQ) (λ_ _ _ _ _=>(aD T.F_N (ok_N T) hr.m ak (aa (bx gT rfl T.b_ord iD (aa (pv 1) ae)) ae)))) ae))))),?_⟩
 simp![tSeq,spB,natCast_inj];have k0:=k H (Same.refl H)
 match l,hl,k,k0 with
 |[],hl,k,k0 =>
  exact ite2 (λ_=>k0) λz=>absurd rfl z
 |c::r,hl,k,k0 =>
  rw[if_neg (by intro z;cases z)];refine⟨hl,ite2 (λh=>?_) λh=>⟨hl,c,cf (j:=0) rfl,ite2 (λh2=>?_) λh2=>?_⟩⟩
  ·have e:bq (c::r)=false:=by
    unfold bq;rw[decide_eq_false (by omega)];simp
   rw[e]at k0;exact k0
  ·have e:bq (c::r)=false:=by
    have h3:Vaunid.isSmall c=false:=by simpa using h2
    unfold bq;rw[headD_cons,h3];simp
   rw[e]at k0;exact k0
  have h3:Vaunid.isSmall c=true:=by simpa using h2
  refine gf (Its (S (c::r))) ((c::r).map λd=>V.str ⟨#[d]⟩) (λv=>match v with|.str x=>V.bl (Vaunid.inWord (x.cps.getD 0 0))|_=>.non) (H1:=H) (λR h=>?_) (by rw[length_map];exact hl) (j' (x:=S (c::r))) (λx H' D zx Nx hx sm hD hacc nx=>?_) λD H' hD sm e=>?_
  ·simp![tSeq]
   exact h
  ·obtain⟨d,hd,rfl⟩:=mem_map.mp hx
   simp![tSeq,spB,natCast_inj];exact⟨zx,hD,hacc,nx H' (Same.refl _)⟩
  simp![tSeq];refine⟨(c::r).map Vaunid.inWord,SqL.of ?_,?_⟩
  ·rw[e,map_map,map_map]
   rfl
  have e2:bq (c::r)=((c::r).map Vaunid.inWord).all id:=by
   unfold bq;rw[headD_cons,h3,decide_eq_true (by omega),all_map];rfl
  rw[<- e2];exact k H' sm
theorem ok_aa(T:TZ):FO base 1 J.f_aa J.d_aa ["byte"] (spB λc=>c==32):=by
 refine T.F_aa.fn.ok sc_aa λ_ _ _ _ H _ Q E hr h=>?_;obtain⟨n,rfl,k⟩:=h;refine⟨_,(ah (az (eC bj (pv 0) (pe_g T.g_a3) (aH _)))),?_⟩;simp![tSeq];have e:decide ((n:Int)=32)=(n==32):=ka n 32;rw[e];exact k
theorem ok_ab(T:TZ):FO base 1 J.f_ab J.d_ab ["byte"] (spB λc=>c != 93):=by
 refine T.F_ab.fn.ok sc_ab λ_ _ _ _ H _ Q E hr h=>?_;obtain⟨n,rfl,k⟩:=h;refine⟨_,(ah (az (eC eU (pv 0) (pe_g T.g_a5) (aH _)))),?_⟩;simp![tSeq];have e:decide ((n:Int)=93)=(n==93):=ka n 93;rw[e];exact k
def gH(P:Program)(w:World)(K:Frag)(mg:zM)(base:Heap):Sp:=λvs H Q _=>∃(a f:Addr) (t:List Nat) (p:Nat) (b:Nat->Bool),vs=[.ref a,.int (p:Int),.ref f]/\SqL K H a (bs t)/\gd P w K mg base 2 f b /\
 Q (.int ((p+((t.drop p).takeWhile b).length:Nat):Int)) H
theorem ok_s(T:TZ):FO base 3 J.f_s J.d_s ["text","place","belongs"] (gH P w K mg base):=by
 refine T.F_s.fn.ok sc_s λ_ _ _ _ H _ Q E hr h=>?_;obtain⟨a,f,t,p,b,rfl,ht,⟨fd,ps,F,hb,hk⟩,k⟩:=h;refine⟨_,(ag (df PassesOwn.never (PW.pt (pw_and (aC eV (pv 1) (bx cZ rfl T.b_len PySem.boot_len (aa (pv 0) ae)) (aH _)) (pw_and1 (cA (f6 (CX:=CX0) (k:=2) 2 hr.m ak (aa (aJ bu (pv 0) (pv 1) (λ_ _=>rfl)) ae)))))) (ah (l6 (i:=1) sc_s.nd rfl (Or.inl rfl) au l7)))
  (ah (az (pv 1)))),?_⟩
 simp![tSeq];obtain⟨Pv,hPv⟩:∃Pv:Nat->L2.St->Hp->Prop,Pv=λm σ H'=>H'=H/\∃j,m=t.length - (p+j)/\σ=[some (.ref a),some (.int ((p+j:Nat):Int)),some (.ref f)]/\((t.drop p).takeWhile b).length=j+((t.drop (p+j)).takeWhile b).length:=⟨_,rfl⟩;refine dv Pv _ (by rw[hPv];exact⟨rfl,0,rfl,rfl,by simp⟩) λm σ H' hp=>?_;rw[hPv]at hp;obtain⟨rfl,j,rfl,rfl,hj⟩:=hp;simp![tSeq,fh];refine⟨bs t,.inl ht,ite2 (λh=>?_) λh=>?_⟩
 ·rw[cg]at h
  have hlt:p+j<t.length:=by omega
  refine⟨fd,ps,spB b,F,hb,hk,bs t,ht,_,cf (dZ (getElem?_eq_getElem hlt)),?_⟩;simp![tSeq,spB,natCast_inj];have hd:t.drop (p+j)=t[p+j]::t.drop (p+j+1):=drop_eq_getElem_cons hlt;rw[hd,takeWhile_cons]at hj;refine eF (λq=>⟨_,λ_ _ z=>z,t.length - (p+(j+1)),by omega,?_⟩) λq=>?_
  ·rw[hPv]
   refine⟨rfl,j+1,rfl,?_,?_⟩
   ·have e:((p+j:Nat):Int)+1=((p+(j+1):Nat):Int):=by omega
    rw[e]
   rw[q,if_pos rfl,length_cons]at hj;rw[hj,show p+(j+1)=p+j+1 by omega];omega
  rw[q,if_neg (by simp)]at hj;have e:p+(List.takeWhile b (List.drop p t)).length=p+j:=by rw[hj];rfl
  rw[e]at k;exact k
 rw[cg]at h;have hd:t.drop (p+j)=[]:=drop_eq_nil_of_le (by omega);rw[hd]at hj;have e:p+(List.takeWhile b (List.drop p t)).length=p+j:=by rw[hj];rfl
 rw[e]at k;exact k
def rf:Sp:=λvs H Q _=>∃n:Nat,vs=[.int (n:Int)]/\Q (.str ⟨#[sgn n]⟩) H
theorem zE(n:Nat)(h1:32<=n)(h2:n<=126):(tl (ofString " !\"#$?&'()*+,-./0123456789:;<=>?@ABCDEFGHIJKLMNOPQRSTUVWXYZ[\\]^_`abcdefghijklmnopqrstuvwxyz{|}~"))[n - 32]? = some (sgn n):=by
 have key:∀m:Fin 95,(tl (ofString " !\"#$?&'()*+,-./0123456789:;<=>?@ABCDEFGHIJKLMNOPQRSTUVWXYZ[\\]^_`abcdefghijklmnopqrstuvwxyz{|}~"))[m.1]? = some (sgn (m.1+32)):=by left
 have e:=key ⟨n - 32,by omega⟩;rw[show n=n - 32+32 by omega];simpa using e
theorem ok_aw(T:TZ):FO base 1 J.f_aw J.d_aw ["byte"] rf:=by
 refine T.F_aw.fn.ok sc_aw λ_ _ _ _ H _ Q E hr h=>?_;obtain⟨n,rfl,k⟩:=h;refine⟨_,(ag (aG (tH eW eW (pe_g T.g_aQ) (pv 0) (pe_g T.g_a7)) (ah (az (aJ mK (pe_g T.g_a8) (aY gQ (pv 0) (pe_g T.g_aQ)) (λ_ _=>rfl)))) aP)
  (ah (az aE))),?_⟩
 simp![tSeq];refine ite2 (λh1=>ite2 (λh2=>?_) λh2=>?_) λh1=>?_
 ·refine⟨by left,sgn n,?_,k⟩
  have e:(n:Int) - 32=((n - 32:Nat):Int):=by omega
  rw[e];exact cf (zE n (by omega) (by omega))
 ·have e:sgn n=63:=by unfold sgn;rw[if_neg (by omega)]
  rw[e]at k;exact k
 have e:sgn n=63:=by unfold sgn;rw[if_neg (by omega)]
 rw[e]at k;exact k
def fD(K:Frag):Sp:=λvs H Q _=>∃(a:Addr) (t:List Nat),vs=[.ref a]/\SqL K H a (bs t)/\t.length<=1000000/\∀H',Same H H'->Q (.str (S (t.map sgn))) H'
theorem rg:∀l:List Nat,cu [] (l.map λc=>[c])=l
 |[]=>rfl
 |[c]=>rfl
 |c::d::r=>by
  have ih:=rg (d::r);show c::([]++cu [] ((d::r).map λc=>[c]))=_;rw[ih];rfl
theorem rh:∀l:List Nat,((l.map λc=>(⟨#[c]⟩:Str)).map (·.length)).sum=l.length
 |[]=>rfl
 |c::r=>by
  have ih:=rh r;simp only[map_cons,sum_cons,length_cons,ih];show 1+r.length=r.length+1;omega
theorem ok_p(T:TZ):FO base 2 J.f_p J.d_p ["some_bytes"] (fD K):=by
 refine T.F_p.fn.ok sc_p λ_ _ _ _ H _ Q E hr h=>?_;obtain⟨a,t,rfl,ht,hl,k⟩:=h;refine⟨_,(ah (az (nO aE (fR rfl sc_p.nd (jz (pv 0)) (fS (own:=[("byte",1)]) (by kernel_rfl)) (λ_ _ _ _ _=>pg_q 1 sc_p.nd) (λ_ _ _ _ _=>fQ) (λ_ _ _ _ _=>(aD T.F_aw (ok_aw T) hr.m ak (aa (pv 1) ae))))))),?_⟩;simp![tSeq];refine gf (Itl K a) (bs t) (λv=>match v with|.int n=>V.str ⟨#[sgn n.toNat]⟩|_=>.non) (H1:=H) (λR h=>?_) (by rw[cg];exact Nat.le_trans hl (by decide)) (oC ht) (λx H' D zx Nx hx sm hD hacc nx=>?_) λD H' hD sm e=>?_
 ·simp![tSeq]
  exact⟨⟨_,ht⟩,h⟩
 ·obtain⟨d,hd,rfl⟩:=mem_map.mp hx
  simp![tSeq,rf,natCast_inj];exact⟨zx,hD,hacc,nx H' (Same.refl _)⟩
 simp![tSeq];refine⟨t.map λc=>⟨#[sgn c]⟩,.inl (SqL.of ?_),?_,?_⟩
 ·rw[e]
  unfold bs;rw[map_map,map_map];rfl
 ·have e1:(t.map λc=>(⟨#[sgn c]⟩:Str))=(t.map sgn).map λc=>(⟨#[c]⟩:Str):=by rw[map_map];rfl
  rw[e1,rh,length_map,length_map];show t.length+t.length*0<=16777216;omega
 have e1:Txt.join (ofString "") (t.map λc=>(⟨#[sgn c]⟩:Str))=S (t.map sgn):=by
  refine cH ?_;rw[nH,iw,map_map];have e2:(t.map (tl ∘ λc=>(⟨#[sgn c]⟩:Str)))=(t.map sgn).map λc=>[c]:=by rw[map_map];rfl
  rw[e2];exact rg _
 rw[e1];exact k H' sm
end
section
variable{base:Heap}
theorem ok_e(T:TZ):FO base 1 J.f_x J.d_x ["self","over","under","measure"] (bR J.C_e ["over","under","measure"]):=by
 refine T.F_x.ok sc_x (λ_ _ _ _ H _ Q E hr h=>?_) λ_ _ _ _ h=>gG h;refine x_33 h λp dx args zr3 hl hp k=>?_;subst zr3;refine x_30 (len3 hl) λa b c zr3=>?_;subst zr3;refine⟨_,(ag (bw (pv 0) (pv 1) rfl)
  (ag (bw (pv 0) (pv 2) rfl)
  (ah (bw (pv 0) (pv 3) rfl)))),?_⟩
 simp![tSeq,sFld];refine⟨_,_,_,hp,T.cl_e,T.n_aY,(by decide),T.cl_e,T.n_aO,few1,T.cl_e,T.n_aZ,few2,?_⟩;exact k
def rj(K:Frag):Sp:=λvs H Q _=>∃(a:Addr) (t:List Nat) (p:Nat),vs=[.ref a,.int (p:Int)]/\SqL K H a (bs t)/\p<=t.length/\∀H',Same H H'->Q (.int ((p+(numberText (t.drop p)).1:Nat):Int)) H'
theorem ok_am(T:TZ):FO base 4 J.f_am J.d_am ["text","begin"] (rj K):=by
 have PD:gd P w K mg base 2 J.f_r Vaunid.isDigit:=⟨_,_,(ok_r T).mono (by decide),T.F_r.b,T.F_r.fn.kp⟩;refine T.F_am.fn.ok sc_am λ_ _ _ _ H _ Q E hr h=>?_;refine x_33 h λa t p zr3 ht hp k=>?_;subst zr3;refine⟨_,(ag (aA 2 sc_am.nd (aD T.F_s (ok_s T) hr.m ak (aa (pv 0) (aa (pv 1) (aa (pe_r T.F_r.mg) ae)))))
  (ag (aG (PW.pt (pw_and (aC eV (aY cn (pv 2) au) (bx cZ rfl T.b_len PySem.boot_len (aa (pv 0) ae)) (aH _)) (pw_and (aC dH (aJ bu (pv 0) (pv 2) (λ_ _=>rfl)) (pe_r T.g_Y) rfl) (pw_and1 (cA (aD T.F_r (ok_r T) hr.m ak (aa (aJ bu (pv 0) (aY cn (pv 2) au) (λ_ _=>rfl)) ae))))))) (ah (aA 2 sc_am.nd (aD T.F_s (ok_s T) hr.m ak (aa (pv 0) (aa (aY cn (pv 2) au) (aa (pe_r T.F_r.mg) ae)))))) aP)
  (ah (az (pv 2))))),?_⟩
 simp![tSeq,gH];refine⟨t,ht,Vaunid.isDigit,PD,bs t,.inl ht,?_⟩;rw[cg];have k0:=k H (Same.refl H);refine ite2 (λh=>?_) λh=>?_
 ·have hlt:p+((t.drop p).takeWhile Vaunid.isDigit).length+1<t.length:=by omega
  have h1:t[p+((t.drop p).takeWhile Vaunid.isDigit).length]? = some _:=getElem?_eq_getElem (by omega);have h2:t[p+((t.drop p).takeWhile Vaunid.isDigit).length+1]? = some _:=getElem?_eq_getElem hlt;refine⟨bs t,ht,_,cf (dZ h1),_,.inr (T.t_Y H),rfl,rfl,?_⟩;rw[vT];have nl:=vS h1 h2;refine ite2 (λq=>⟨bs t,ht,_,cf (dZ h2),?_⟩) λq=>?_
  ·simp![tSeq,spB]
   have q':=of_decide_eq_true q;refine eF (λr=>?_) λr=>?_
   ·rw[if_pos ⟨q'.symm,r⟩]at nl
    refine⟨_,_,_,rfl,rfl,ht,_,PD,?_⟩;rw[nl,<- add_assoc,<- add_assoc]at k0;exact k0
   rw[if_neg (by rw[r];simp)]at nl;rw[nl]at k0;exact k0
  rw[if_neg (λz=>q (decide_eq_true z.1.symm))]at nl;rw[nl]at k0;exact k0
 rw[vR (by omega)]at k0;exact k0
def rk:Sp:=λvs H Q _=>∃o u:Nat,vs=[.int (o:Int),.int (u:Int)]/\Q (.int (Nat.gcd o u:Int)) H
theorem ok_ac(T:TZ):FO base 1 J.f_ac J.d_ac ["first","second"] rk:=by
 refine T.F_ac.fn.ok sc_ac λ_ _ _ _ H _ Q E hr h=>?_;refine x_21 h λo u zr2 k=>?_;subst zr2;refine⟨_,(ag (df PassesOwn.never (aC eU (pv 1) au (aH _)) (ag (aA 2 sc_ac.nd (aY tF (pv 0) (pv 1)))
  (ag (aA 0 sc_ac.nd (pv 1))
  (ah (aA 1 sc_ac.nd (pv 2))))))
  (ah (az (pv 0)))),?_⟩
 simp![tSeq];obtain⟨Pv,hPv⟩:∃Pv:Nat->L2.St->Hp->Prop,Pv=λm σ H'=>H'=H/\∃(x y:Nat) (z:Option V),m=y/\σ=[some (.int (x:Int)),some (.int (y:Int)),z]/\Nat.gcd x y=Nat.gcd o u:=⟨_,rfl⟩;refine dv Pv _ (by rw[hPv];exact⟨rfl,o,u,none,rfl,rfl,rfl⟩) λm σ H' hp=>?_;rw[hPv]at hp;refine x_01 hp λzr0 zz0=>?_;refine x_32 zz0 λx y z zr4 zr5 hg=>?_;subst zr0;subst zr4;subst zr5;simp![tSeq];refine ite2 (λh=>⟨_,λ_ _ q=>q,?_,x % m,?_,?_⟩) λh=>?_
 ·simp at h
  omega
 ·have:m≠0:=by
   intro e;subst e;simp at h
  exact Nat.mod_lt _ (Nat.pos_of_ne_zero this)
 ·rw[hPv]
  refine⟨rfl,m,x % m,_,rfl,by rw[<- Int.natCast_emod],?_⟩;rw[<- hg,Nat.gcd_comm x m,Nat.gcd_rec m x,Nat.gcd_comm]
 have e:m=0:=by simp at h;omega
 subst e;rw[Nat.gcd_zero_right]at hg;rw[hg];exact k
def zF(C:Addr):Sp:=λvs H Q _=>∃o u:Nat,vs=[.int (o:Int),.int (u:Int)]/\u<2 ^ 200/\gj C H Q (M.iI o u)
theorem ok_F(T:TZ):FO base 3 J.f_F J.d_F ["over","under"] (zF J.C_e):=by
 refine T.F_F.fn.ok sc_F λ_ _ _ _ H _ Q E hr h=>?_;refine x_22 h λo u zr2 hu k=>?_;subst zr2;refine⟨_,(ag (aG (aC bj (pv 1) au (aH _)) (ah (az jv)) aP)
  (ag (aA 2 sc_F.nd (aD T.F_ac (ok_ac T) hr.m ak (aa (pv 0) (aa (pv 1) ae))))
  (ag (aA 0 sc_F.nd (aY oA (pv 0) (pv 2)))
  (ag (aA 1 sc_F.nd (aY oA (pv 1) (pv 2)))
  (ag (aG (PW.pt (pw_or (aC mj (pv 0) (pe_g T.g_aS) (aH _)) (pw_or1 (aC mj (pv 1) (pe_g T.g_aS) (aH _))))) (ah (az jv)) aP)
  (ah (az (bF T.M_e (ok_e T) hr.m rfl T.G_e T.b_x .nil ak (aa (pv 0) (aa (pv 1) (aa aE ae))))))))))),?_⟩
 simp![tSeq,rk,bp,bR];unfold M.iI at k;refine ite2 (λh=>?_) λh=>?_
 ·rw[if_pos (by omega)]at k
  exact k H (Same.refl H)
 have hu0:u≠0:=by omega
 have hg:0<o.gcd u:=Nat.gcd_pos_of_pos_right _ (Nat.pos_of_ne_zero hu0);have hg2:o.gcd u<=u:=Nat.gcd_le_right _ (Nat.pos_of_ne_zero hu0);have cd:∀i:Int,oz i ((o.gcd u:Nat):Int):=λi=>⟨by omega,vb (by rw[Int.natAbs_natCast];omega)⟩;rw[if_neg hu0]at k;refine⟨cd _,cd _,?_⟩;rw[<- Int.natCast_ediv,<- Int.natCast_ediv];refine ite2 (λh1=>?_) λh1=>ite2 (λh2=>?_) λh2=>?_
 ·rw[if_pos (.inl (by omega))]at k
  exact k H (Same.refl H)
 ·rw[if_pos (.inr (by omega))]at k
  exact k H (Same.refl H)
 rw[if_neg (by omega)]at k;intro x dx hx hdx hne;exact k x _ (bW hx hdx) ⟨dx,ai⟩
def zG(C:Addr):Sp:=λvs H Q _=>∃(a b:List Nat) (c:Nat),vs=[.str (S (a++(if c=0 then[]else c::b)))]/\(∀x∈a,Vaunid.isDigit x=true)/\a≠[]/\a.length+b.length<=100000 /\
 ((c=0/\b=[])\/((c=46\/c=47)/\b≠[]/\∀x∈b,Vaunid.isDigit x=true))/\gj C H Q (frac a c b)
theorem ok_U(T:TZ):FO base 4 J.f_U J.d_U ["spelling"] (zG J.C_e):=by
 refine T.F_U.fn.ok sc_U λ_ _ _ _ H _ Q E hr h=>?_;refine x_30 h λa b c zy=>x_05 zy λzr3 ha hne hl hc k=>?_;subst zr3;refine⟨_,(ag (aA 1 sc_U.nd (eC uS aE (pv 0) rfl))
  (ag (aA 2 sc_U.nd (eS (cA (pv 1)) (nN (pv 0) aE) (nN (pv 0) aE)))
  (ag (aG (aC dE (bx (ue rfl) rfl T.b_max vq (aa (fR rfl sc_U.nd (jz (pv 2)) (fS (own:=[("row",3)]) (by kernel_rfl)) (λ_ _ _ _ _=>pg_q 3 sc_U.nd) (λ_ _ _ _ _=>fQ) (λ_ _ _ _ _=>(bx dI rfl T.b_len PySem.boot_len (aa (pv 3) ae)))) ae)) (pe_g T.g_a9) (aH _)) (ah (az jv)) aP)
  (ag (aG (cA (pv 1)) (ah (az (aD T.F_F (ok_F T) hr.m ak (aa (cE fY rfl T.b_int f7 (aa (aJ bu (pv 2) au (λ_ _=>rfl)) ae)) (aa (cE fY rfl T.b_int f7 (aa (aJ bu (pv 2) au (λ_ _=>rfl)) ae)) ae))))) aP)
  (ag (aG (aC bj (bx cZ rfl T.b_len PySem.boot_len (aa (pv 2) ae)) au (aH _)) (ah (az (aD T.F_F (ok_F T) hr.m ak (aa (cE fY rfl T.b_int f7 (aa (aY dG (aJ bu (pv 2) au (λ_ _=>rfl)) (aJ bu (pv 2) au (λ_ _=>rfl))) ae)) (aa (cE fY rfl T.b_int f7 (aa (aY dG aE (aY vc aE (bx dI rfl T.b_len PySem.boot_len (aa (aJ bu (pv 2) au (λ_ _=>rfl)) ae)))) ae)) ae))))) aP)
  (ah (az (aD T.F_F (ok_F T) hr.m ak (aa (cE fY rfl T.b_int f7 (aa (aJ bu (pv 2) au (λ_ _=>rfl)) ae)) (aa au ae)))))))))),?_⟩
 simp![tSeq];refine⟨47,vX,?_⟩;have big:∀n:Nat,n<=100001->n+2<=sizeLine:=λn h=>Nat.le_trans (Nat.add_le_add_right h 2) (by decide);have big2:∀n:Nat,n<=100001->n<=sizeLine:=λn h=>Nat.le_trans (le_add_right n 2) (big n h);have p12:(10:Nat) ^ 12<2 ^ 200:=by decide
 have n47:47∉a:=λm=>by have:=ha _ m;revert this;decide
 have dotne:((ofString ".").length==0)=false:=by left
 have slane:((ofString "/").length==0)=false:=by left
 rcases hc with⟨rfl,rfl⟩|⟨rfl|rfl,hb,hbd⟩
 ·simp only[if_true,append_nil]
  rw[if_neg (by rw[du];exact n47)];refine⟨dotne,big _ (by simp at hl;omega),?_⟩;rw[vW ha];intro p hp;refine kn ai (by intro y hy;rw[mem_singleton.mp hy,aS];exact big2 _ (by simp at hl;omega)) (by show 1<=sizeLine;decide) λD H' sm e=>?_;have hpp:H' p=some (.lst [.str (S a)]):=sm _ _ ai;have sm2:Same H H':=(Same.upd hp).trans sm;simp![tSeq];refine⟨[((S a).length:Int)],SqL.of e,by simp,λm hm hmax=>?_⟩;rw[mem_singleton.mp hm,aS];refine ite2 (λh=>?_) λh=>?_
  ·rw[km (.inl (by omega))]at k
   exact k _ sm2
  rw[if_neg (by rw[du];exact n47)];refine⟨_,.inl (SqL.of hpp),?_⟩;rw[if_neg (by simp)];refine⟨_,SqL.of hpp,_,rfl,_,rfl,_,gi ha hne (by omega),by rw[aS];omega,?_⟩;rw[kl (by omega) (by decide)]at k;exact⟨_,1,rfl,by decide,k.mono sm2⟩
 ·have e0:(a++if 46=0 then[]else 46::b)=a++46::b:=rfl
  rw[e0];have n47b:47∉a++46::b:=λm=>by
   rcases mem_append.mp m with q|q
   ·exact n47 q
   rcases mem_cons.mp q with q|q
   ·cases q
   have:=hbd _ q;revert this;decide
  have zr:(a++46::b).length<=100001:=by rw[length_append,length_cons];omega
  rw[if_neg (by rw[du];exact n47b)];refine⟨dotne,big _ zr,?_⟩;rw[vV ha hbd];intro p hp;refine kn ai (by intro y hy;exact(mem_cons.mp hy).elim (λq=>by rw[q,aS];exact big2 _ (by omega)) λq=>by rw[mem_singleton.mp q,aS];exact big2 _ (by omega)) (by show 2<=sizeLine;decide) λD H' sm e=>?_;have hpp:H' p=some (.lst [.str (S a),.str (S b)]):=sm _ _ ai;have sm2:Same H H':=(Same.upd hp).trans sm;simp![tSeq];refine⟨[((S a).length:Int),((S b).length:Int)],SqL.of e,by simp,λm hm hmax=>?_⟩;have m1:=hmax ((S a).length:Int) (by simp);have m2:=hmax ((S b).length:Int) (by simp);rw[aS]at m1 m2;have m3:m=(a.length:Int)\/m=(b.length:Int):=by
   rcases mem_cons.mp hm with q|q
   ·rw[q,aS];exact .inl rfl
   rw[mem_singleton.mp q,aS];exact .inr rfl
  refine ite2 (λh=>?_) λh=>?_
  ·rw[km (by omega)]at k
   exact k _ sm2
  rw[if_neg (by rw[du];exact n47b)];refine⟨_,.inl (SqL.of hpp),?_⟩;rw[if_pos (by simp)];have hl24:(a++b).length<=24:=by rw[length_append];omega
  have hab:∀x∈a++b,Vaunid.isDigit x=true:=λx hx=>(mem_append.mp hx).elim (ha x) (hbd x);obtain⟨t1,t2,t3⟩:=v5 b.length (by omega);refine⟨_,SqL.of hpp,_,rfl,_,SqL.of hpp,_,rfl,_,rfl,_,rfl,?_⟩;rw[dQ,aS,aS,aS];refine⟨big2 _ (by omega),_,gi hab (by simp[hne]) (by omega),by omega,_,SqL.of hpp,_,rfl,_,rfl,?_⟩;rw[aS];refine⟨big2 _ (by omega),vY _ (by omega),t3,_,t1,t2,?_⟩;rw[kl (by omega) (by omega)]at k;exact⟨_,10 ^ b.length,rfl,Nat.lt_of_le_of_lt (oO (by omega)) p12,k.mono sm2⟩
 have e0:(a++if 47=0 then[]else 47::b)=a++47::b:=rfl;rw[e0];have i47:47∈a++47::b:=by simp
 have zr:(a++47::b).length<=100001:=by rw[length_append,length_cons];omega
 rw[if_pos (by rw[du];exact i47)];refine⟨slane,big _ zr,?_⟩;rw[vU ha hbd];intro p hp;refine kn ai (by intro y hy;exact(mem_cons.mp hy).elim (λq=>by rw[q,aS];exact big2 _ (by omega)) λq=>by rw[mem_singleton.mp q,aS];exact big2 _ (by omega)) (by show 2<=sizeLine;decide) λD H' sm e=>?_;have hpp:H' p=some (.lst [.str (S a),.str (S b)]):=sm _ _ ai;have sm2:Same H H':=(Same.upd hp).trans sm;simp![tSeq];refine⟨[((S a).length:Int),((S b).length:Int)],SqL.of e,by simp,λm hm hmax=>?_⟩;have m1:=hmax ((S a).length:Int) (by simp);have m2:=hmax ((S b).length:Int) (by simp);rw[aS]at m1 m2;have m3:m=(a.length:Int)\/m=(b.length:Int):=by
  rcases mem_cons.mp hm with q|q
  ·rw[q,aS];exact .inl rfl
  rw[mem_singleton.mp q,aS];exact .inr rfl
 refine ite2 (λh=>?_) λh=>?_
 ·rw[km (by omega)]at k
  exact k _ sm2
 rw[if_pos (by rw[du];exact i47)];refine⟨_,SqL.of hpp,_,rfl,_,rfl,_,gi ha hne (by omega),by rw[aS];omega,_,SqL.of hpp,_,rfl,_,rfl,_,gi hbd hb (by omega),by rw[aS];omega,?_⟩;rw[kl (by omega) (by omega)]at k;exact⟨_,_,rfl,Nat.lt_trans (vK hbd (by omega)) p12,k.mono sm2⟩
def zH:Sp:=λvs H Q _=>∃l:List Nat,vs=[.str (S l)]/\l.length<=sizeLine/\∀H',Same H H'->Q (.bl (bV l)) H'
theorem ok_af(T:TZ):FO base 2 J.f_af J.d_af ["power"] zH:=by
 refine T.F_af.fn.ok sc_af λ_ _ _ _ H _ Q E hr h=>?_;refine x_12 h λl zr1 hl k=>?_;subst zr1;refine⟨_,(ag (aA 1 sc_af.nd (eS (cA (iz F.slot_str_startswith F.type_str_startswith uQ (pv 0) aE)) (eZ nS (pv 0) (dh au) mJ) (pv 0)))
  (ag (aG (PW.pt (pw_or (aC bj (pv 1) aE (aH _)) (pw_or1 (aC dE (bx dI rfl T.b_len PySem.boot_len (aa (pv 1) ae)) (pe_g T.g_ba) (aH _))))) (ah (az eR)) aP)
  (ah (az (bx (mO rfl) rfl T.b_all oB (aa (fR rfl sc_af.nd (jU (pv 1)) (fS (own:=[("sign",2)]) (by kernel_rfl)) (λ_ _ _ _ _=>pg_q 2 sc_af.nd) (λ_ _ _ _ _=>fQ) (λ_ _ _ _ _=>(aD T.F_r (ok_r T) hr.m ak (aa (bx gT rfl T.b_ord iD (aa (pv 2) ae)) ae)))) ae)))))),?_⟩
 simp![tSeq];have k0:=k H (Same.refl H);have part:∀d:List Nat,bV l=(!d.isEmpty&&(decide (d.length<=2)&&d.all Vaunid.isDigit))->d.length<=sizeLine->(if S d=ofString ""then Q (V.bl false) H else(S d).length<=sizeLine/\if 2<((S d).length:Int)then Q (V.bl false) H else
   tLc (iStr (tVar 1)) (ck 2) tYes (eY (spB Vaunid.isDigit) [] E0 (cC (tCB (λxs H Q=>∃x,xs=[V.str x]/\x.length=1/\Q (V.int ↑(x.cps.getD 0 0)) H) (cC (tVar 2) tNil)) tNil)) [2] [some (V.str (S l)),some (V.str (S d)),none] H λx H1 =>
    ∃a,x=V.ref a/\∃x,SqL K H1 a (List.map V.bl x)/\Q (V.bl (x.all id)) H1):=λd hd hdl=>by
  rw[hd]at k0 k;rw[aS];refine ite2 (λz=>?_) λz=>⟨hdl,ite2 (λz2=>?_) λz2=>?_⟩
  ·have e:d=[]:=by rw[S_eq]at z;exact z
   subst e;exact k0
  ·rw[decide_eq_false (by omega)]at k0
   simpa using k0
  refine wa hdl λD H' sm e=>⟨D,rfl,d.map Vaunid.isDigit,SqL.of e,?_⟩;have k1:=k H' sm;have e2:(!d.isEmpty&&(decide (d.length<=2)&&d.all Vaunid.isDigit))=(d.map Vaunid.isDigit).all id:=by
   rw[decide_eq_true (by omega),all_map];cases d with
   |nil=>exact absurd (by rw[S_eq];rfl) z
   |cons c r=>rfl
  rw[e2]at k1;exact k1
 have ec:cutS (S l) (some 1) none=S (l.drop 1):=v7 l 1;rw[v9,ec];refine ite2 (λh=>?_) λh=>?_
 ·have hh:=of_decide_eq_true h
  refine⟨hl,part (l.drop 1) ?_ (by rw[length_drop];omega)⟩;unfold bV;rw[if_pos hh];cases l with
  |nil=>cases hh
  |cons c r=>rfl
 have hh:¬l.head? = some 45:=λz=>h (decide_eq_true z);have:=part l (by unfold bV;rw[if_neg hh]) hl;simp only[S_eq,aS]at this;exact this
def zI:Sp:=λvs H Q _=>∃l:List Nat,vs=[.str (S l)]/\l.length<=sizeLine/\∀H',Same H H'->Q (.bl (bg l)) H'
theorem ok_ae(T:TZ):FO base 4 J.f_ae J.d_ae ["factor"] zI:=by
 refine T.F_ae.fn.ok sc_ae λ_ _ _ _ H _ Q E hr h=>?_;refine x_12 h λl zr1 hl k=>?_;subst zr1;refine⟨_,(ag (aG (aC bj (pv 0) aE (aH _)) (ah (az eR)) aP)
  (ag (aG (aC uT aE (pv 0) rfl) (ah (az (aD T.F_J (ok_J T) hr.m ak (aa (pv 0) ae)))) aP)
  (ag (aA 1 sc_ae.nd (uR (pv 0) aE))
  (ah (az (lW (aD T.F_J (ok_J T) hr.m ak (aa (aJ bM (pv 1) au (λ_ _=>rfl)) ae)) (gN (aD T.F_af (ok_af T) hr.m ak (aa (aJ bM (pv 1) au (λ_ _=>rfl)) ae))))))))),?_⟩
 simp![tSeq];have k0:=k H (Same.refl H);refine ite2 (λh=>?_) λh=>⟨94,wb,?_⟩
 ·have e:bg l=true:=by rw[h];left
  rw[e]at k0;exact k0
 have h1:(l==[49])=false:=by
  cases q:l==[49]with
  |false=>rfl
  |true=>exact absurd ((eq_of_beq q).trans (by left)) h
 rw[du];have hc:l.contains 94=decide (94∈l):=by rw[Bool.eq_iff_iff];simp
 refine ite2 (λq=>?_) λq=>?_
 ·have q':¬94∈l:=by simpa using q
  have e:bg l=bq l:=by
   unfold bg;rw[h1,hc,decide_eq_false q'];rfl
  refine⟨l,rfl,hl,?_⟩;rw[e]at k;exact k
 have q':94∈l:=by simpa using q
 have e:bg l=(bq (l.takeWhile (· != 94))&&bV ((l.dropWhile (· != 94)).drop 1)):=by
  unfold bg;rw[h1,hc,decide_eq_true q'];rfl
 rw[e]at k;refine⟨by left,hl,λp hp=>⟨_,SqT.of ai,_,rfl,?_⟩⟩;rw[wc q'];refine⟨_,rfl,Nat.le_trans (cM _ _) hl,λH' sm=>⟨_,rfl,?_⟩⟩;have sm2:Same H H':=(Same.upd hp).trans sm;refine eF (λr=>?_) λr=>?_
 ·refine⟨_,SqT.of (sm _ _ ai),_,rfl,_,rfl,?_,λH2 s2=>?_⟩
  ·rw[length_drop,cK,length_drop]
   omega
  have:=k H2 (sm2.trans s2);rw[r]at this;exact this
 have:=k H' sm2;rw[r]at this;exact this
def zJ:Sp:=λvs H Q _=>∃l:List Nat,vs=[.str (S l)]/\l.length<=1000000/\∀H',Same H H'->Q (.bl (measureText (l.length+1) l)) H'
theorem ok_ad(T:TZ):FnOkT P w K mg base CX0 5 J.f_ad J.d_ad ["measure"] zJ:=by
 refine T.F_ad.fn.okT sc_ad (λ_ _ _ _ h=>?_) (λ_ _ _ _ H _ Q E hr h=>?_)
 ·obtain⟨n,rfl,_⟩:=h
  rfl
 refine x_12 h λl zr1 hl k=>?_;subst zr1;refine⟨_,(vj (vo PassesOwn.never rfl (vk (vm PySem.F.slot_str_split PySem.F.type_str_split nM (vn (pv 0)) aE)) (lY (i:=1) (sc_ad).nd rfl (Or.inl rfl)) (ah (aG (jw (cA (cq (ok_ae T) (hr.mono (by decide)) rfl T.F_ae.mg T.F_ae.fn.kp T.F_ae.b .nil ak (aa (pv 1) ae)))) (ah (az eR)) aP)))
  (ah (az eR))),?_⟩
 have ea:(Txt.split (Txt.replace (S l) (ofString "/") (ofString ".")) (ofString ".")).map tl=cut sep [] l:=by rw[oG,kg,kh]
 have ea2:Txt.split (Txt.replace (S l) (ofString "/") (ofString ".")) (ofString ".")=(cut sep [] l).map S:=by
  refine fW ?_;rw[ea,map_map];exact(List.map_id _).symm
 refine dy ?_;simp![tSeq,iy];rw[ea2];have me:=gh (l.length+1) l (by omega);rw[me]at k;have sz:(1000000:Nat)+2<=sizeLine:=by decide
 refine⟨by omega,by left,by rw[oG,aS,length_map];omega,λp hp=>⟨⟨_,SqL.of ai⟩,?_⟩⟩;refine oQ (((cut sep [] l).map S).map V.str) (λi σ H'=>Same (upd H p (HO.lst (List.map V.str (List.map S (cut sep [] l))))) H'/\(∃z,σ=[some (.str (S l)),z])/\((cut sep [] l).take i).all bg=true) ⟨Same.refl _,⟨_,rfl⟩,rfl⟩ (λi σ H' _ hp=>SqL.of (hp.1 _ _ ai)) (λi x σ H' hx hp=>?_) λσ H' hp=>?_
 ·obtain⟨sm,⟨z,rfl⟩,hall⟩:=hp
  rw[getElem?_map,getElem?_map]at hx;cases q:(cut sep [] l)[i]? with
  |none=>rw[q]at hx;cases hx
  |some f =>
  rw[q]at hx;cases hx;simp![tSeq];have hf:=kj sep l [] f (mem_of_getElem? q);rw[length_nil]at hf;refine⟨f,rfl,by omega,λH2 s2=>⟨_,rfl,?_⟩⟩;have sm2:Same H H2:=((Same.upd hp).trans sm).trans s2;cases r:bg f with
  |false =>
   have k1:=k H2 sm2;rw[vH q r]at k1;exact iteT k1
  |true =>
  refine iteF ⟨sm.trans s2,?_⟩;rw[vG q,hall,r];rfl
 obtain⟨sm,⟨z,rfl⟩,hall⟩:=hp;rw[length_map,length_map,take_length]at hall;have k1:=k H' ((Same.upd hp).trans sm);rw[hall]at k1;exact k1
def rl(C:Addr):Sp:=λvs H Q _=>∃(a:Addr) (o u:Int) (m l:List Nat),vs=[.ref a,.str (S l)]/\bT C H a o u m/\∀(b:Addr) (H':Hp),Same H H'->bT C H' b o u l->Q (.ref b) H'
theorem ok_ax(T:TZ):FO base 3 J.f_ax J.d_ax ["amount","measure"] (rl J.C_e):=by
 refine T.F_ax.fn.ok sc_ax λ_ _ _ _ H _ Q E hr h=>?_;refine x_50 h λa o u m l zy=>x_02 zy λzr5 zn6 k=>?_;subst zr5;obtain⟨dx,ha⟩:=zn6;refine⟨_,(ah (az (bF T.M_e (ok_e T) hr.m rfl T.G_e T.b_x .nil ak (aa (aj (pv 0) rfl) (aa (aj (pv 0) rfl) (aa (pv 1) ae)))))),?_⟩;simp![tSeq,tFld,bp,bR,ha];refine⟨T.cl_e,T.n_aY,_,rfl,T.cl_e,T.n_aO,_,rfl,λx dx hx hdx hne=>?_⟩;exact k x _ (bW hx hdx) ⟨dx,ai⟩
def rm(C:Addr):Sp:=λvs H Q _=>∃(a:Addr) (o u:Int) (m:List Nat),vs=[.ref a]/\bT C H a o u m/\∀(b:Addr) (H':Hp),Same H H'->bT C H' b (-o) u m->Q (.ref b) H'
theorem ok_ay(T:TZ):FO base 3 J.f_ay J.d_ay ["amount"] (rm J.C_e):=by
 refine T.F_ay.fn.ok sc_ay λ_ _ _ _ H _ Q E hr h=>?_;refine x_40 h λa o u m zy=>x_02 zy λzr4 zn5 k=>?_;subst zr4;obtain⟨dx,ha⟩:=zn5;refine⟨_,(ah (az (bF T.M_e (ok_e T) hr.m rfl T.G_e T.b_x .nil ak (aa (tE tG (aj (pv 0) rfl)) (aa (aj (pv 0) rfl) (aa (aj (pv 0) rfl) ae)))))),?_⟩;simp![tSeq,tFld,bp,bR,ha];refine⟨T.cl_e,T.n_aY,_,rfl,_,rfl,T.cl_e,T.n_aO,_,rfl,T.cl_e,T.n_aZ,_,rfl,λx dx hx hdx hne=>?_⟩;exact k x _ (bW hx hdx) ⟨dx,ai⟩
end
section
variable{base:Heap}
theorem ok_c(T:TZ):FO base 1 J.f_m J.d_m ["self","kind","place"] (pj J.C_c):=by
 refine T.F_m.ok sc_m λ_ _ _ _ H _ Q E hr h=>?_;refine x_32 h λp k q zr3 hp kk=>?_;subst zr3;refine⟨_,(ag (u6 (pv 0) (pv 1) rfl)
  (ah (u7 (pv 0) (pv 2) rfl))),?_⟩
 simp![tSeq,oa,og];refine⟨_,hp,_,T.X_c,T.n_bg,λdx hdx hne=>⟨_,_,_,rfl,_,(by rw[ao hne];exact ai),T.X_c,T.n_bh,(by show 1<1000;decide),?_⟩⟩;have e:upd (upd (upd H dx (XDic dx [(ofString "kind",k)])) p (XNew J.C_c p (some dx))) dx (XDic dx (putF (ofString "place") q [(ofString "kind",k)]))=upd (upd H dx (XDic dx [("kind",k),("place",q)])) p (XNew J.C_c p (some dx)):=by
  rw[nY (λz=>hne z.symm),fI];rfl
 rw[e];exact kk dx hdx hne
theorem ok_d(T:TZ):FO base 1 J.f_u J.d_u ["self","group","kind","begin","end","content"] (bR J.C_d ["group","kind","begin","end","content"]):=by
 refine T.F_u.ok sc_u (λ_ _ _ _ H _ Q E hr h=>?_) λ_ _ _ _ h=>gG h;refine x_33 h λp dx args zr3 hl hp k=>?_;subst zr3;refine x_50 (len5 hl) λa b c d e zr5=>?_;subst zr5;refine⟨_,(ag (bw (pv 0) (pv 1) rfl)
  (ag (bw (pv 0) (pv 2) rfl)
  (ag (bw (pv 0) (pv 3) rfl)
  (ag (bw (pv 0) (pv 4) rfl)
  (ah (bw (pv 0) (pv 5) rfl)))))),?_⟩
 simp![tSeq,sFld];refine⟨_,_,_,hp,T.cl_d,T.n_bm,few0,T.cl_d,T.n_aE,few1,T.cl_d,T.n_aJ,few2,T.cl_d,T.n_a0,few3,T.cl_d,T.n_aK,few4,?_⟩;exact k
def ro(core:Bool)(C:Addr)(K:Frag):Sp:=λvs H Q E=>∃(a:Addr) (t:List Nat) (p:Nat),vs=[.ref a,.int (p:Int)]/\SqL K H a (bs t)/\p<=t.length/\RES C H Q E (gapT core p (t.drop p)) (λx v _=>v=.int (x.1:Int))
inductive IWord(Ca Ct C:Addr)(K:Frag)(H:Hp)(Q:VK)(E:XK):List V->Prop
 |mk (a:Addr) (t:List Nat) (p:Nat):SqL K H a (bs t)->p<=t.length->t.length<=10000->RES C H Q E (wordToken p (t.drop p)) (λx v H'=>∃b,v=.ref b/\bU Ca Ct H' b x.1)->IWord Ca Ct C K H Q E [.ref a,.int (p:Int)]
def zK(Ca Ct C:Addr)(K:Frag):Sp:=λvs H Q E=>IWord Ca Ct C K H Q E vs
theorem ok_ah(T:TZ):FX base 4 J.f_ah J.d_ah ["text","begin"] (zK J.C_e J.C_d J.C_c K):=by
 have PD:gd P w K mg base 2 J.f_N Vaunid.inWord:=⟨_,_,(ok_N T),T.F_N.b,T.F_N.fn.kp⟩;refine T.F_ah.fn.okX sc_ah λ_ _ _ _ H _ Q E hr h=>?_;obtain⟨a,t,p,ht,hp,hl,k⟩:=h;refine⟨_,(ag (aA 2 sc_ah.nd (aD T.F_s (ok_s T) hr.m ak (aa (pv 0) (aa (pv 1) (aa (pe_r T.F_N.mg) ae)))))
  (ag (aG (aC dE (aY gQ (pv 2) (pv 1)) (pe_g T.g_aR) (aH _)) (ah (dN T.X_c (ok_c T) hr.m rfl T.G_c T.b_m dP rfl (aa au (aa (pv 1) ae)))) aP)
  (ag (aA 3 sc_ah.nd (aD T.F_p (ok_p T) hr.m ak (aa (eZ gX (pv 0) (dh (pv 1)) (dh (pv 2))) ae)))
  (ag (aA 4 sc_ah.nd (eS (aC dH (pv 3) (pe_r T.g_L) rfl) (pv 3) aE))
  (ah (az (bF T.M_d (ok_d T) hr.m rfl T.G_d T.b_u .nil ak (aa (pe_g T.g_bb) (aa (pv 4) (aa (pv 1) (aa (pv 2) (aa (pv 3) ae)))))))))))),?_⟩
 simp![tSeq,gH,dq,fD];refine⟨t,ht,_,PD,?_⟩;unfold wordToken at k;dsimp only at k;have hw:=d5 (p:=Vaunid.inWord) (t.drop p);have htk:=gu Vaunid.inWord (t.drop p);have hle:=cM Vaunid.inWord (t.drop p);rw[length_drop]at hle;generalize(t.drop p).takeWhile Vaunid.inWord=wd at k hw htk hle ⊢;refine ite2 (λh=>?_) λh=>⟨bs t,ht,λq hq=>?_⟩
 ·rw[if_pos (show MOSTSIGNS<wd.length by show 12<_;omega)]at k
  exact⟨by decide,dz k⟩
 rw[if_neg (show ¬MOSTSIGNS<wd.length by show ¬12<_;omega)]at k;rw[iJ t p _ hp,add_sub_cancel_left,htk];refine⟨wd,SqL.of ai,by omega,λH' sm=>⟨_,.inr (T.t_L H'),rfl,rfl,?_⟩⟩;rw[pk,oW hw,in_S,<- px];have sm2:Same H H':=(Same.upd hq).trans sm;refine eF (λr=>?_) λr=>?_
 ·simp![tSeq,bp,bR]
  intro x dx hx hdx hne;refine k _ _ (sm2.trans (bW hx hdx)) ⟨x,rfl,dx,.str (S wd),?_,rfl⟩;rw[ai];have hk:kindOf (.word wd)=wd:=if_pos r;show _=some (HO.ins J.C_d dx (cO 0 (S (kindOf (.word wd))) _ _ _));rw[hk];rfl
 simp![tSeq,bp,bR];intro x dx hx hdx hne;refine k _ _ (sm2.trans (bW hx hdx)) ⟨x,rfl,dx,.str (S wd),?_,rfl⟩;rw[ai];have hk:kindOf (.word wd)=Vaunid.txt "name":=if_neg (by rw[r];simp);show _=some (HO.ins J.C_d dx (cO 0 (S (kindOf (.word wd))) _ _ _));rw[hk,<- aI];rfl
def zL(C:Addr)(K:Frag):Sp:=λvs H Q E=>∃(a:Addr) (t:List Nat) (p:Nat) (r:List Nat),vs=[.ref a,.int (p:Int)]/\SqL K H a (bs t)/\t.drop p=91::r/\t.length<=10000 /\
 RES C H Q E (if(r.takeWhile λc=>c != 93).length=r.length\/measureText ((r.takeWhile λc=>c != 93).length+1) (r.takeWhile λc=>c != 93)=false then fault 5 p else(.ok (r.takeWhile λc=>c != 93):Res (List Nat))) (λm v _=>v=.str (S m))
theorem ok_an(T:TZ):FX base 6 J.f_an J.d_an ["text","begin"] (zL J.C_c K):=by
 have PD:gd P w K mg base 2 J.f_ab (λc=>c != 93):=⟨_,_,(ok_ab T).mono (by decide),T.F_ab.b,T.F_ab.fn.kp⟩;refine T.F_an.fn.okX sc_an λ_ _ _ _ H _ Q E hr h=>?_;refine x_40 h λa t p r zy=>x_04 zy λzr4 ht hd hl k=>?_;subst zr4;refine⟨_,(ag (eB (i:=2) (sc_an).nd rfl (Or.inl rfl) (cq (ok_s T) (hr.mono (by decide)) rfl T.F_s.mg T.F_s.fn.kp T.F_s.b .nil ak (aa (pv 0) (aa (pv 1) (aa (pe_r T.F_ab.mg) ae)))))
  (ag (eB (i:=3) (sc_an).nd rfl (Or.inl rfl) (cq (ok_p T) (hr.mono (by decide)) rfl T.F_p.mg T.F_p.fn.kp T.F_p.b .nil ak (aa (eZ gX (pv 0) (dh (aY cn (pv 1) au)) (dh (pv 2))) ae)))
  (ag (aG (pw_orP (vd bj (pv 2) (ve rfl T.b_len (pv 0)) (aH _)) (pw_or1T (vf (vg (vi (ok_ad T) (hr.mono (by decide)) rfl T.F_ad.mg T.F_ad.fn.kp T.F_ad.b ak (aa (pv 3) ae))))))
    (ah (dN T.X_c (ok_c T) (hr.mono (by decide)) rfl T.G_c T.b_m dP rfl (aa au (aa (pv 1) ae)))) aP)
  (ah (az (pv 3)))))),?_⟩
 simp![tSeq,gH,dq,fD];refine⟨t,ht,_,PD,bs t,ht,λq hq=>?_⟩;have e1:((t.drop p).takeWhile λc=>c != 93)=91::r.takeWhile λc=>c != 93:=by rw[hd];rfl
 have hp:=iO hd;have zr:=ph hd (Nat.le_of_lt hp);rw[length_cons]at zr;have hm:=wu (r.takeWhile λc=>c != 93);have hmm:=wz (m:=r.takeWhile λc=>c != 93);have htk:=gu (λc=>c != 93) r;have hle:=cM (λc=>c != 93) r;rw[e1,length_cons];generalize(r.takeWhile λc=>c != 93)=m at k hm hmm htk hle ⊢;have ec:cutV (bs t) (some ((p:Int)+1)) (some ((p+(m.length+1):Nat):Int))=bs m:=by
  have:=iJ t (p+1) (p+(m.length+1)) (by omega);rw[show((p:Int)+1)=((p+1:Nat):Int)by omega,this,show p+(m.length+1) - (p+1)=m.length by omega,wI hd];show bs (r.take m.length)=_;rw[htk]
 rw[ec];refine⟨m,SqL.of ai,by omega,λH' sm=>?_⟩;have sm2:Same H H':=(Same.upd hq).trans sm;refine⟨bs t,sm2.seq ht,?_⟩;rw[cg];refine ite2 (λh=>?_) λh=>?_
 ·rw[if_pos (.inl (by omega))]at k
  exact⟨by decide,dz (ExF.mono k sm2)⟩
 refine⟨m.map sgn,rfl,by rw[length_map];omega,λH2 s2=>⟨_,rfl,?_⟩⟩;rw[hm];cases q2:measureText (m.length+1) m with
 |false =>
  rw[if_pos (.inr q2)]at k;exact iteT ⟨by decide,dz (ExF.mono k (sm2.trans s2))⟩
 |true =>
 rw[if_neg (λz=>z.elim (by omega) (by rw[q2];simp))]at k;refine iteF ?_;rw[hmm q2];exact k _ H2 (sm2.trans s2) rfl
inductive ISignTok(Ca Ct C:Addr)(K:Frag)(H:Hp)(Q:VK)(E:XK):List V->Prop
 |mk (a b:Addr) (t:List Nat) (p:Nat) (L:List (List Nat)):SqL K H a (bs t)->p<t.length->t.length<=10000->GoodSigns L->(∀H,SqT K H b ((L.map S).map V.str))->RES C H Q E (signToken L p (t.drop p)) (λx v H'=>∃b,v=.ref b/\bU Ca Ct H' b x.1)->ISignTok Ca Ct C K H Q E [.ref a,.int (p:Int),.ref b]
def rq(Ca Ct C:Addr)(K:Frag):Sp:=λvs H Q E=>ISignTok Ca Ct C K H Q E vs
theorem ok_ao(T:TZ):FX base 3 J.f_ao J.d_ao ["text","begin","signs"] (rq J.C_e J.C_d J.C_c K):=by
 refine T.F_ao.fn.okX sc_ao λ_ _ _ _ H _ Q E hr h=>?_;obtain⟨a,b,t,p,L,ht,hp,hl,hL,hb,k⟩:=h;refine⟨_,(ag (aA 3 sc_ao.nd (aD T.F_p (ok_p T) hr.m ak (aa (eZ gX (pv 0) (dh (pv 1)) (dh (aY cn (pv 1) au))) ae)))
  (ag (aG (aC gY (pv 3) (pv 2) rfl) (ah (aA 3 sc_ao.nd (eZ nS (pv 3) mJ (dh au)))) aP)
  (ag (aG (aC gY (pv 3) (pv 2) rfl) (ah (dN T.X_c (ok_c T) hr.m rfl T.G_c T.b_m dP rfl (aa au (aa (pv 1) ae)))) aP)
  (ah (az (bF T.M_d (ok_d T) hr.m rfl T.G_d T.b_u .nil ak (aa (pe_g T.g_aT) (aa (pv 3) (aa (pv 1) (aa (aY cn (pv 1) (bx dI rfl T.b_len PySem.boot_len (aa (pv 3) ae))) (aa (pv 3) ae))))))))))),?_⟩
 simp![tSeq,dq,fD];refine⟨bs t,ht,λq hq=>?_⟩;have ec:cutV (bs t) (some (p:Int)) (some ((p:Int)+2))=bs ((t.drop p).take 2):=by
  have:=iJ t p (p+2) (by omega);rw[show((p:Int)+2)=((p+2:Nat):Int)by omega,this,add_sub_cancel_left]
 rw[ec];refine⟨(t.drop p).take 2,SqL.of ai,by rw[length_take];omega,λH' sm=>?_⟩;have sm2:Same H H':=(Same.upd hq).trans sm;unfold signToken at k;rw[wL hL]at k;unfold kJ at k;have et:((t.drop p).take 2).take 1=(t.drop p).take 1:=by rw[List.take_take];rfl
 have ec2:cutS (S (((t.drop p).take 2).map sgn)) none (some 1)=S (((t.drop p).take 1).map sgn):=by
  have:=v8 (((t.drop p).take 2).map sgn) 1;rw[<- List.map_take,et]at this;exact this
 have l2:(((t.drop p).take 2).map sgn).length<=sizeLine:=by
  rw[length_map,length_take];exact Nat.le_trans (Nat.min_le_left _ _) (by decide)
 rw[ec2];have plain:∀{x},x∈L->x.map sgn=x:=λhx=>fk λc hc=>(hL.plain _ hx c hc).1;generalize(t.drop p).take 2=s2 at k l2 ⊢;generalize(t.drop p).take 1=s1 at k ⊢;have inL:∀l:List Nat,inV (.str (S (l.map sgn))) ((L.map S).map V.str)=decide (l∈L):=λl=>by
  rw[in_S,decide_eq_decide];exact wK hL l
 refine⟨_,.inr (hb H'),rfl,flat_strs _,?_⟩;rw[inL];by_cases m2:s2∈L
 ·rw[if_pos m2]at k
  rw[decide_eq_true m2];refine iteF ⟨_,.inr (hb H'),rfl,flat_strs _,?_⟩;rw[inL,decide_eq_true m2];refine iteF ?_;rw[plain m2];simp![tSeq,bp,bR,dI];refine⟨by rw[<- plain m2];exact l2,λx dx hx hdx hne=>?_⟩;refine k _ _ (sm2.trans (bW hx hdx)) ⟨x,rfl,dx,.str (S s2),?_,rfl⟩;rw[ai];rfl
 rw[if_neg m2]at k;rw[decide_eq_false m2];refine iteT ⟨l2,_,.inr (hb H'),rfl,flat_strs _,?_⟩;rw[inL];by_cases m1:s1∈L
 ·rw[if_pos m1]at k
  rw[decide_eq_true m1];refine iteF ?_;rw[plain m1];simp![tSeq,bp,bR,dI];refine⟨?_,λx dx hx hdx hne=>?_⟩
  ·have:s1.length=1\/s1.length=2:=by
    refine x_22 hL.parts λL2 L1 zr2 h2 h1=>?_;subst zr2;rcases mem_append.mp m1 with z|z
    ·exact .inr (h2 _ z)
    exact .inl (h1 _ z)
   exact Nat.le_trans (show s1.length<=2 by omega) (by decide)
  refine k _ _ (sm2.trans (bW hx hdx)) ⟨x,rfl,dx,.str (S s1),?_,rfl⟩;rw[ai];rfl
 rw[if_neg m1]at k;rw[decide_eq_false m1];exact iteT ⟨by decide,dz (ExF.mono k sm2)⟩
inductive INumTok(Ca Ct C:Addr)(K:Frag)(H:Hp)(Q:VK)(E:XK):List V->Prop
 |mk (a:Addr) (t:List Nat) (p d c:Nat) (r:List Nat) (neg:Bool):SqL K H a (bs t)->t.length<=10000->d=p+(if neg=true then 1 else 0)->t.drop d=c::r->Vaunid.isDigit c=true->RES C H Q E (numberToken neg p (t.drop p)) (λx v H'=>∃b,v=.ref b/\bU Ca Ct H' b x.1)->INumTok Ca Ct C K H Q E [.ref a,.int (p:Int),.int (d:Int)]
def zN(Ca Ct C:Addr)(K:Frag):Sp:=λvs H Q E=>INumTok Ca Ct C K H Q E vs
theorem ok_G(T:TZ):FX base 7 J.f_G J.d_G ["text","begin","digits"] (zN J.C_e J.C_d J.C_c K):=by
 refine T.F_G.fn.okX sc_G λ_ _ _ _ H _ Q E hr h=>?_;obtain⟨a,t,p,d,c,r,neg,ht,hl,hd,hdr,hc,k⟩:=h;refine⟨_,(ag (aA 3 sc_G.nd (aD T.F_am (ok_am T) hr.m ak (aa (pv 0) (aa (pv 2) ae))))
  (ag (aA 4 sc_G.nd (aD T.F_U (ok_U T) hr.m ak (aa (aD T.F_p (ok_p T) hr.m ak (aa (eZ gX (pv 0) (dh (pv 2)) (dh (pv 3))) ae)) ae)))
  (ag (aG (lU (sU (pv 4))) (ah (dN T.X_c (ok_c T) hr.m rfl T.G_c T.b_m dP rfl (aa au (aa (pv 1) ae)))) aP)
  (ag (aG (PW.pt (pw_and (aC eV (pv 3) (bx cZ rfl T.b_len PySem.boot_len (aa (pv 0) ae)) (aH _)) (pw_and1 (aC bj (aJ bu (pv 0) (pv 3) (λ_ _=>rfl)) (pe_g T.g_a4) (aH _))))) (ag (aA 5 sc_G.nd (aD T.F_an (ok_an T) hr.m bS (aa (pv 0) (aa (pv 3) ae))))
  (ag (aA 4 sc_G.nd (aD T.F_ax (ok_ax T) hr.m ak (aa (pv 4) (aa (pv 5) ae))))
  (ah (aA 3 sc_G.nd (aY cn (aY cn (pv 3) (bx dI rfl T.b_len PySem.boot_len (aa (pv 5) ae))) au))))) aP)
  (ag (aG (aC eV (pv 1) (pv 2) (aH _)) (ah (aA 4 sc_G.nd (aD T.F_ay (ok_ay T) hr.m ak (aa (pv 4) ae)))) aP)
  (ag (aA 6 sc_G.nd (eS (aC bj (aY gQ (pv 3) (pv 2)) au (aH _)) aE aE))
  (ah (az (bF T.M_d (ok_d T) hr.m rfl T.G_d T.b_u .nil ak (aa (pe_g T.g_bc) (aa (pv 6) (aa (pv 1) (aa (pv 3) (aa (pv 4) ae)))))))))))))),?_⟩
 have es:(if neg=true then(t.drop p).drop 1 else t.drop p)=t.drop d:=by
  cases neg with
  |false=>rw[hd];rfl
  |true=>rw[hd,if_pos rfl,drop_drop];rfl
 unfold numberToken at k;dsimp only at k;rw[es]at k;obtain⟨hrest,hsz⟩:=kE (t.drop d);have hpos:=o6 hdr hc;refine x_23 (wC (t.drop d)) λb2 c2 sp1 sp2 sp3 sp4=>?_;have hdlt:=iO hdr;generalize hx:numberText (t.drop d)=x at k hrest hsz hpos sp1 sp3;obtain⟨n,o,rest⟩:=x;dsimp only at k hrest hsz hpos sp1 sp3;rw[length_drop]at hsz sp4;refine c6 (λσ' H'=>Same H H'/\σ'=[some (.ref a),some (.int (p:Int)),some (.int (d:Int)),some (.int ((d+n:Nat):Int)),none,none,none]) (λX hX=>?_) ?_
 ·simp![tSeq,rj]
  refine⟨t,ht,by omega,λH' sm=>?_⟩;rw[hx];exact hX _ _ ⟨sm,rfl⟩
 rintro σ' H1 ⟨sm1,rfl⟩
 have ht1:=sm1.seq ht;refine c6 (λσ' H'=>Same H H'/\∃am,σ'=[some (.ref a),some (.int (p:Int)),some (.int (d:Int)),some (.int ((d+n:Nat):Int)),some am,none,none]/\(match o with|none=>am=.non|some (tp,lw)=>∃b,am=.ref b/\bT J.C_e H' b (tp:Int) (lw:Int) [])) (λX hX=>?_) ?_
 ·simp![tSeq,fD]
  refine⟨bs t,ht1,λq hq=>?_⟩;rw[iJ t d (d+n) (by omega),add_sub_cancel_left];refine⟨_,SqL.of ai,by rw[length_take];omega,λH2 s2=>?_⟩;have sm2:Same H H2:=sm1.trans ((Same.upd hq).trans s2);rw[sp1];have hall:=d5 (p:=Vaunid.isDigit) (t.drop d);have hpl:((t.drop d).takeWhile Vaunid.isDigit++(if c2=0 then[]else c2::b2)).map sgn=(t.drop d).takeWhile Vaunid.isDigit++(if c2=0 then[]else c2::b2):=fk λy hy=>by
   rcases mem_append.mp hy with z|z
   ·have:=iL (hall y z);omega
   rcases sp2 with⟨rfl,rfl⟩|⟨h46,_,hbd⟩
   ·simp at z
   rw[if_neg (by omega)]at z;rcases mem_cons.mp z with z|z
   ·omega
   have:=iL (hbd y z);omega
  rw[hpl];refine⟨_,b2,c2,rfl,hall,?_,by omega,sp2,?_⟩
  ·rw[hdr,takeWhile_cons,hc]
   simp
  rw[<- sp3];cases o with
  |none=>exact λH3 s3=>hX _ _ ⟨sm2.trans s3,.non,rfl,rfl⟩
  |some tp=>exact λb H3 s3 hb=>hX _ _ ⟨sm2.trans s3,.ref b,rfl,b,rfl,hb⟩
 rintro σ' H2 ⟨sm2,am,rfl,ham⟩
 have ht2:=sm2.seq ht;cases o with
 |none =>
  subst ham;simp![tSeq,dq];exact⟨by decide,dz (ExF.mono k sm2)⟩
 |some tl =>
 obtain⟨tp,lw⟩:=tl;obtain⟨b,rfl,hb⟩:=ham;dsimp only at k;refine c6 (λσ' H'=>H'=H2/\σ'=[some (.ref a),some (.int (p:Int)),some (.int (d:Int)),some (.int ((d+n:Nat):Int)),some (.ref b),none,none]) (λX hX=>?_) ?_
 ·simp![tSeq,dq]
  exact hX _ _ ⟨rfl,rfl⟩
 rintro σ' H2' ⟨rfl,rfl⟩
 have hrest':rest=t.drop (d+n):=by rw[hrest,drop_drop]
 have hpd:p+(n+if neg=true then 1 else 0)=d+n:=by omega
 rw[hpd]at k;refine c6 (λσ' H'=>Same H H'/\∃(am:Addr) (m:Option (List Nat)) (e:Nat) (dg:Option Int) (mz:Option V),σ'=[some (.ref a),some (.int (p:Int)),some (.int (d:Int)),some (.int (e:Int)),some (.ref am),mz,none]/\bT J.C_e H' am (tp:Int) (lw:Int) (m.getD [])/\(dg.isSome=decide (e=d+1))/\d<e /\
   (∀v H',Same H H'->(∃b,v=.ref b/\bU J.C_e J.C_d H' b {tok:= .num {top:=if neg=true then -(tp:Int)else(tp:Int),low:=lw,measure:=m} dg,start:=p,halt_:=e})->Q v H')) (λX hX=>?_) ?_
 ·simp![tSeq]
  refine⟨bs t,.inl ht2,?_⟩;rw[cg];have nomeas:(∀r2,rest≠91::r2)->X [some (.ref a),some (.int (p:Int)),some (.int (d:Int)),some (.int ((d+n:Nat):Int)),some (.ref b),none,none] H2':=λhno=>by
   refine hX _ _ ⟨sm2,b,none,d+n,(if n=1 then some (if neg=true then -(tp:Int)else(tp:Int))else none),none,rfl,hb,?_,by omega,?_⟩
   ·by_cases h1:n=1
    ·subst h1
     simp
    rw[if_neg h1,decide_eq_false (by omega)];rfl
   split at k
   ·exact absurd rfl (hno _)
   exact λv H' s' q=>k v H' s' q
  refine ite2 (λhlt=>?_) λhlt=>nomeas λr2 z=>?_
  ·have hlt':d+n<t.length:=by omega
   have hg1:t[d+n]? = some t[d+n]:=getElem?_eq_getElem hlt';have hd1:=fi hg1;generalize t[d+n]=c3 at hg1 hd1;refine⟨bs t,ht2,_,cf (dZ hg1),rfl,ite2 (λh=>?_) λh=>nomeas λr2 z=>?_⟩
   ·have hc3:c3=91:=by injection h with h;omega
    subst hc3;rw[<- hrest']at hd1;rw[hd1]at k;change RES J.C_c H Q E (if _\/_ then _ else _) _ at k;refine⟨a,t,d+n,_,rfl,ht2,by rw[<- hrest'];exact hd1,hl,?_⟩;generalize t.drop (d+n+1)=r2 at k hd1 ⊢;by_cases hbad:(r2.takeWhile λc=>c != 93).length=r2.length\/measureText ((r2.takeWhile λc=>c != 93).length+1) (r2.takeWhile λc=>c != 93)=false
    ·rw[if_pos hbad]at k ⊢
     exact ExF.mono k sm2
    rw[if_neg hbad]at k ⊢
    rintro v H3 s3 rfl
    simp![tSeq,rl];refine⟨_,_,_,_,rfl,hb.same s3,λb3 H4 s4 hb4=>⟨?_,?_⟩⟩
    ·have h1:=cM (λc=>c != 93) r2
     have h2:=iO (hrest'.symm.trans hd1);have h3:=ph (hrest'.symm.trans hd1) (Nat.le_of_lt h2);rw[length_cons]at h3;exact Nat.le_trans (show _<=10000 by omega) (by decide)
    refine hX _ _ ⟨sm2.trans (s3.trans s4),b3,some (r2.takeWhile λc=>c != 93),d+n+(r2.takeWhile λc=>c != 93).length+2,none,_,rfl,hb4,?_,by omega,?_⟩
    ·rw[decide_eq_false (by omega)]
     rfl
    exact λv H' s' q=>k v H' s' q
   rw[hrest',hd1]at z;cases z;exact h rfl
  rw[hrest']at z;exact absurd (iO z) (by omega)
 rintro σ' H3 ⟨sm3,am,m,e,dg,mz,rfl,ham,hdg,hde,k⟩
 refine c6 (λσ' H'=>Same H H'/\∃(am:Addr) (mz:Option V),σ'=[some (.ref a),some (.int (p:Int)),some (.int (d:Int)),some (.int (e:Int)),some (.ref am),mz,none]/\bT J.C_e H' am (if neg=true then -(tp:Int)else(tp:Int)) (lw:Int) (m.getD [])) (λX hX=>?_) ?_
 ·simp![tSeq,rm]
  refine ite2 (λh=>?_) λh=>?_
  ·have hn:neg=true:=by
    cases neg with
    |true=>rfl
    |false=>simp at hd;omega
   rw[if_pos hn]at hX;exact⟨_,_,_,ham,λb4 H4 s4 hb4=>hX _ _ ⟨sm3.trans s4,_,_,rfl,hb4⟩⟩
  have hn:neg=false:=by
   cases neg with
   |false=>rfl
   |true=>simp at hd;omega
  rw[if_neg (by rw[hn];simp)]at hX;exact hX _ _ ⟨sm3,_,_,rfl,ham⟩
 rintro σ' H4 ⟨sm4,am,mz,rfl,ham⟩
 simp![tSeq,bp,bR];refine ite2 (λh=>?_) λh=>?_
 ·intro x dx hx hdx hne
  refine k _ _ (sm4.trans (bW hx hdx)) ⟨x,rfl,dx,.ref am,?_,am,rfl,ham.same (bW hx hdx)⟩;rw[ai];have hk:kindOf (.num {top:=if neg=true then -(tp:Int)else(tp:Int),low:=lw,measure:=m} dg)=Vaunid.txt "digit":=if_pos (by rw[hdg];exact decide_eq_true (by omega));show _=some (HO.ins J.C_d dx (cO 1 (S (kindOf (.num _ dg))) _ _ _));rw[hk,<- aI];rfl
 intro x dx hx hdx hne;refine k _ _ (sm4.trans (bW hx hdx)) ⟨x,rfl,dx,.ref am,?_,am,rfl,ham.same (bW hx hdx)⟩;rw[ai];have hk:kindOf (.num {top:=if neg=true then -(tp:Int)else(tp:Int),low:=lw,measure:=m} dg)=Vaunid.txt "number":=if_neg (by rw[hdg,decide_eq_true_eq];omega);show _=some (HO.ins J.C_d dx (cO 1 (S (kindOf (.num _ dg))) _ _ _));rw[hk,<- aI];rfl
def rA(core:Bool)(Ca Ct C:Addr)(K:Frag):Sp:=λvs H Q E=>∃(a:Addr) (t:List Nat) (p:Nat),vs=[.ref a,.int (p:Int)]/\SqL K H a (bs t)/\p<t.length/\t.length<=10000 /\
 RES C H Q E (token core p (t.drop p)) (λx v H'=>∃b,v=.ref b/\bU Ca Ct H' b x.1)
theorem ok_ag(T:TZ):FX base 5 J.f_ag J.d_ag ["text","place"] (ro true J.C_c K):=by
 have PD:gd P w K mg base 2 J.f_aa (λc=>c==32):=⟨_,_,(ok_aa T).mono (by decide),T.F_aa.b,T.F_aa.fn.kp⟩;refine T.F_ag.fn.okX sc_ag λ_ _ _ _ H _ Q E hr h=>?_;refine x_33 h λa t p zr3 ht hp k=>?_;subst zr3;refine⟨_,(ah (az (aD T.F_s (ok_s T) hr.m ak (aa (pv 0) (aa (pv 1) (aa (pe_r T.F_aa.mg) ae)))))),?_⟩;simp![tSeq,gH];refine⟨t,ht,_,PD,?_⟩;rw[pb]at k;exact k _ H (Same.refl H) rfl
theorem zO{t:List Nat}{p c:Nat}(hd:t.drop p=c::t.drop (p+1)):(minusDigit (t.drop p)=true)↔(c=45/\∃d r,t.drop (p+1)=d::r/\Vaunid.isDigit d=true):=by
 rw[hd];unfold minusDigit
 constructor
 ·intro h
  split at h
  ·rename_i d r e
   injection e with e1 e2;exact⟨e1,d,r,e2,h⟩
  cases h
 rintro⟨rfl,d,r,e,h⟩
 rw[e];exact h
theorem ok_W(T:TZ):FX base 8 J.f_W J.d_W ["text","begin"] (rA true J.C_e J.C_d J.C_c K):=by
 refine T.F_W.fn.okX sc_W λ_ _ _ _ H _ Q E hr h=>?_;refine x_34 h λa t p zr3 ht hp hl k=>?_;subst zr3;refine⟨_,(ag (aG (cA (aD T.F_T (ok_T T) hr.m ak (aa (aJ bu (pv 0) (pv 1) (λ_ _=>rfl)) ae))) (ah (az (aD T.F_ah (ok_ah T) hr.m bS (aa (pv 0) (aa (pv 1) ae))))) aP)
  (ag (aA 2 sc_W.nd (eS (aC bj (aJ bu (pv 0) (pv 1) (λ_ _=>rfl)) (pe_g T.g_a6) (aH _)) (aY cn (pv 1) au) (pv 1)))
  (ag (aG (PW.pt (pw_and (aC eV (pv 2) (bx cZ rfl T.b_len PySem.boot_len (aa (pv 0) ae)) (aH _)) (pw_and1 (cA (aD T.F_r (ok_r T) hr.m ak (aa (aJ bu (pv 0) (pv 2) (λ_ _=>rfl)) ae)))))) (ah (az (aD T.F_G (ok_G T) hr.m bS (aa (pv 0) (aa (pv 1) (aa (pv 2) ae)))))) aP)
  (ah (az (aD T.F_ao (ok_ao T) hr.m bS (aa (pv 0) (aa (pv 1) (aa (pe_r T.g_P) ae))))))))),?_⟩
 simp![tSeq];have hg1:t[p]? = some t[p]:=getElem?_eq_getElem hp;have hd1:=fi hg1;generalize t[p]=c at hg1 hd1;have md:=zO hd1;rw[hd1]at k;unfold token at k;dsimp only at k;rw[<- hd1]at k;refine⟨bs t,ht,_,cf (dZ hg1),?_⟩;simp![tSeq,spB];refine eF (λh=>?_) λh=>⟨bs t,ht,_,cf (dZ hg1),?_⟩
 ·rw[if_pos h]at k
  exact⟨a,t,p,ht,Nat.le_of_lt hp,hl,k⟩
 rw[if_neg (by rw[h];simp)]at k;have signs:¬Vaunid.isDigit c=true->¬minusDigit (t.drop p)=true->rq J.C_e J.C_d J.C_c K [.ref a,.int (p:Int),.ref J.a_P] H Q E:=λh2 h3=>by
  rw[if_neg h2,if_neg (λz=>h3 z.2)]at k;refine⟨a,_,t,p,coreSigns,ht,hp,hl,wJ,λH'=>?_,k⟩;rw[<- wM];exact T.t_P H'
 simp![tSeq,spB];refine ite2 (λh45=>?_) λh45=>?_
 ·have e45:c=45:=by omega
  subst e45;refine⟨bs t,.inl ht,?_⟩;rw[cg];refine ite2 (λh2=>?_) λh2=>?_
  ·have h2':p+1<t.length:=by omega
   have hg2:t[p+1]? = some t[p+1]:=getElem?_eq_getElem h2';have hd2:=fi hg2;generalize t[p+1]=d at hg2 hd2;refine⟨bs t,ht,_,cf (dZ hg2),?_⟩;simp![tSeq,spB];refine eF (λh3=>?_) λh3=>?_
   ·rw[if_neg (by decide),if_pos ⟨rfl,md.mpr ⟨rfl,d,_,hd2,h3⟩⟩]at k
    exact⟨a,t,p,p+1,d,_,true,ht,hl,rfl,hd2,h3,k⟩
   exact signs (by decide) (λz=>by
    obtain⟨_,d',r',e1,e2⟩:=md.mp z;rw[hd2]at e1;cases e1;rw[h3]at e2;cases e2)
  exact signs (by decide) (λz=>by
   obtain⟨_,d',r',e1,e2⟩:=md.mp z;rw[drop_eq_nil_of_le (by omega)]at e1;cases e1)
 have e45:¬c=45:=by omega
 refine⟨bs t,.inl ht,?_⟩;rw[cg];refine ite2 (λh2=>?_) λh2=>?_
 ·refine⟨bs t,ht,_,cf (dZ hg1),?_⟩
  simp![tSeq,spB];refine eF (λh3=>?_) λh3=>?_
  ·rw[if_pos h3]at k
   exact⟨a,t,p,p,c,_,false,ht,hl,rfl,hd1,h3,k⟩
  exact signs (by rw[h3];simp) (λz=>e45 (md.mp z).1)
 omega
end
section
variable{base:Heap}
def GapF(P:Program)(w:World)(K:Frag)(mg:zM)(base:Heap)(k:Nat)(C f:Addr)(core:Bool):Prop:=∃fd ps,FnOk P w K mg base (CX1 P w) k f fd ps (ro core C K)/\aW K fd ps []/\keepIn K (.ref f)=true
def TokF(P:Program)(w:World)(K:Frag)(mg:zM)(base:Heap)(k:Nat)(Ca Ct C f:Addr)(core:Bool):Prop:=∃fd ps,FnOk P w K mg base (CX1 P w) k f fd ps (rA core Ca Ct C K)/\aW K fd ps []/\keepIn K (.ref f)=true
def rB(Ca Ct:Addr)(l:List Vaunid.Token)(v:V)(H:Hp):Prop:=∃(b:Addr) (as:List Addr),v=.ref b/\H b=some (.lst (as.map V.ref))/\cQ Ca Ct H as l
def zR(P:Program)(w:World)(K:Frag)(mg:zM)(base:Heap)(Ca Ct C:Addr):Sp:=λvs H Q E=>∃(a f g:Addr) (t:List Nat) (core:Bool),vs=[.ref a,.ref f,.ref g]/\SqL K H a (bs t)/\t.length<=10000/\GapF P w K mg base 8 C f core/\TokF P w K mg base 8 Ca Ct C g core /\
 RES C H Q E (cN core 0 t) (rB Ca Ct)
theorem ok_V(T:TZ):FX base 9 J.f_V J.d_V ["text","gap_end","token_at"] (zR P w K mg base J.C_e J.C_d J.C_c):=by
 refine T.F_V.fn.okX sc_V λ_ _ _ _ H _ Q E hr h=>?_;obtain⟨a,f,g,t,core,rfl,ht,hl,⟨fd1,ps1,F1,b1,k1⟩,⟨fd2,ps2,F2,b2,k2⟩,k⟩:=h;refine⟨_,(ag (aA 3 sc_V.nd (aR ae))
  (ag (aA 4 sc_V.nd (f6 (CX:=CX1 P w) (k:=8) 1 hr.m bS (aa (pv 0) (aa au ae))))
  (ag (df iC (aC eV (pv 4) (bx cZ rfl T.b_len PySem.boot_len (aa (pv 0) ae)) (aH _)) (ag (aA 5 sc_V.nd (f6 (CX:=CX1 P w) (k:=8) 2 hr.m bS (aa (pv 0) (aa (pv 4) ae))))
  (ag (a8 (bz pla sla tla bA (pv 3) (aa (pv 5) ae)))
  (ah (aA 4 sc_V.nd (f6 (CX:=CX1 P w) (k:=8) 1 hr.m bS (aa (pv 0) (aa (aj (pv 5) rfl) ae))))))))
  (ah (az (pv 3)))))),?_⟩
 simp![tSeq,fh];refine⟨zero_le _,λb hb=>⟨fd1,ps1,_,F1,b1,k1,a,t,0,rfl,(Same.upd hb).seq ht,zero_le _,?_⟩⟩;rw[drop_zero];cases q0:gapT core 0 t with
 |error e =>
  rw[kH,q0]at k;exact ExF.mono k (Same.upd hb)
 |ok x =>
 obtain⟨g1,g2,g3⟩:=iM core _ _ _ _ q0;rw[sub_zero]at g3;rw[zero_add]at g2
 rintro v H1 s1 rfl
 have hk0:cN core 0 t=preR [] (bP core (x.1,t.drop x.1)):=by
  rw[kH,q0];show bP core x=_;rw[<- g3];show bP core (x.1,x.2)=_;cases bP core (x.1,x.2)<;>rfl
 obtain⟨Pv,hPv⟩:∃Pv:Nat->L2.St->Hp->Prop,Pv=λm σ H'=>Same H H'/\∃(q:Nat) (as:List Addr) (l:List Vaunid.Token) (z:Option V),m=t.length - q/\q<=t.length/\as.length<=q/\σ=[some (.ref a),some (.ref f),some (.ref g),some (.ref b),some (.int (q:Int)),z] /\
  H' b=some (.lst (as.map V.ref))/\cQ J.C_e J.C_d H' as l/\cN core 0 t=preR l (bP core (q,t.drop q)):=⟨_,rfl⟩
 refine dv Pv _ (by rw[hPv];exact⟨(Same.upd hb).trans s1,x.1,[],[],none,rfl,g2,zero_le _,rfl,s1 _ _ ai,.nil,hk0⟩) λm σ H' hp=>?_;rw[hPv]at hp;obtain⟨sm,q,as,l,z,rfl,hq,hal,rfl,hbl,hto,hk⟩:=hp;have ht':=sm.seq ht;simp![tSeq,fh];refine⟨bs t,.inl ht',?_⟩;rw[cg];refine ite2 (λhlt=>?_) λhlt=>?_
 ·have hlt':q<t.length:=by omega
  have hg1:t[q]? = some t[q]:=getElem?_eq_getElem hlt';have hd1:=fi hg1;generalize t[q]=c at hg1 hd1;refine⟨_,λ_ _ z=>z,fd2,ps2,_,F2,b2,k2,a,t,q,rfl,ht',hlt',hl,?_⟩;cases qt:token core q (t.drop q)with
  |error e =>
   have e1:cN core 0 t=.error e:=by
    rw[hk];unfold bP;rw[hd1]at qt;rw[hd1];dsimp only;rw[qt];rfl
   rw[e1]at k;exact ExF.mono k sm
  |ok y =>
  obtain⟨kt,rest⟩:=y;have tf:=gv qt;have hhl:kt.halt_<=t.length:=by have:=tf.le;rw[length_drop]at this;omega
  have hqh:q<kt.halt_:=tf.lt;have hrest:rest=t.drop kt.halt_:=by rw[tf.rest,drop_drop];congr 1;omega
  rintro v H2 s2 ⟨bt,rfl,htk⟩
  have hk2:cN core 0 t=preR l (match gapT core kt.halt_ (t.drop kt.halt_)with|.error e=>.error e|.ok y=>preR [kt] (bP core y)):=by
   rw[hk];congr 1;have e2:bP core (q,t.drop q)=(match cN core kt.halt_ rest with|.error e=>.error e|.ok l=>.ok (kt::l)):=by
    unfold bP;rw[hd1]at qt ⊢;dsimp only;rw[qt]<;>rfl
   rw[e2,hrest,kH];cases gapT core kt.halt_ (t.drop kt.halt_)with
   |error e=>rfl
   |ok y =>
   show(match bP core y with|.error e=>.error e|.ok l=>.ok (kt::l))=preR [kt] (bP core y)
   cases bP core y<;>rfl
  simp![tSeq,tBM,bG,tFld,fh];have hbl2:=s2 _ _ hbl;obtain⟨dt,ct,hins,hcont⟩:=htk;have nbt:bt≠b:=aB hins hbl2 (by intro z;cases z);have sI:cP H2 (upd H2 b (.lst (as.map V.ref++[.ref bt]))):=cP.lst hbl2;have sH:Same H (upd H2 b (.lst (as.map V.ref++[.ref bt]))):=λc o e=>by
   rw[ao (aF e hb)];exact s2 _ _ (sm _ _ e)
  refine⟨.inl ⟨rfl,_,SqL.of hbl2⟩,_,hbl2,?_,?_⟩
  ·rw[length_map]
   exact Nat.lt_of_le_of_lt (show as.length<=10000 by omega) (by decide)
  refine⟨fd1,ps1,_,F1,b1,k1,J.C_d,dt,_,by rw[ao nbt];exact hins,T.cl_d,T.n_a0,_,rfl,a,t,kt.halt_,rfl,sH.seq ht,hhl,?_⟩;cases qg:gapT core kt.halt_ (t.drop kt.halt_)with
  |error e =>
   rw[qg]at hk2;rw[hk2]at k;exact ExF.mono k sH
  |ok y =>
  obtain⟨g1,g2,g3⟩:=iM core _ _ _ _ qg;rw[length_drop]at g2
  rintro v H3 s3 rfl
  refine⟨t.length - y.1,by omega,?_⟩;rw[hPv];refine⟨sH.trans s3,y.1,as++[bt],l++[kt],_,rfl,by omega,by rw[length_append,length_singleton];omega,rfl,?_,?_,?_⟩
  ·rw[map_append]
   exact s3 _ _ ai
  ·exact cQ.snoc (cQ.sameI hto ((Same.insts s2).trans (sI.trans (Same.insts s3)))) (bU.sameI ⟨dt,ct,hins,hcont⟩ (sI.trans (Same.insts s3)))
  rw[hk2,qg];dsimp only;have e3:y=(y.1,t.drop y.1):=by
   have:y.2=t.drop y.1:=by rw[g3,drop_drop];congr 1;omega
   rw[<- this]
  rw[<- e3];cases bP core y with
  |error e=>rfl
  |ok l2 =>
  show Except.ok _=Except.ok _;rw[append_assoc]
 have e0:t.drop q=[]:=drop_eq_nil_of_le (by omega);rw[e0]at hk;have e1:cN core 0 t=.ok l:=by
  rw[hk];show Except.ok (l++[])=_;rw[append_nil]
 rw[e1]at k;exact k _ H' sm ⟨b,as,rfl,hbl,hto⟩
def rC(core:Bool)(Ca Ct C:Addr)(K:Frag):Sp:=λvs H Q E=>∃(a:Addr) (t:List Nat),vs=[.ref a]/\SqL K H a (bs t)/\t.length<=10000/\RES C H Q E (allTokens core t) (rB Ca Ct)
theorem ok_az(T:TZ):FX base 10 J.f_az J.d_az ["text"] (rC true J.C_e J.C_d J.C_c K):=by
 have GF:GapF P w K mg base 8 J.C_c J.f_ag true:=⟨_,_,(ok_ag T).mono (by decide),T.F_ag.b,T.F_ag.fn.kp⟩;have TF:TokF P w K mg base 8 J.C_e J.C_d J.C_c J.f_W true:=⟨_,_,ok_W T,T.F_W.b,T.F_W.fn.kp⟩;refine T.F_az.fn.okX sc_az λ_ _ _ _ H _ Q E hr h=>?_;obtain⟨a,t,rfl,ht,hl,k⟩:=h;refine⟨_,(ah (az (aD T.F_V (ok_V T) hr.m bS (aa (pv 0) (aa (pe_r T.F_ag.mg) (aa (pe_r T.F_W.mg) ae)))))),?_⟩;simp![tSeq];exact⟨a,_,_,t,true,rfl,ht,hl,GF,TF,k⟩
end
section
variable{base:Heap}
def zS(Ca:Addr):Sp:=λvs H Q _=>∃(a:Addr) (v:Vaunid.Lit),vs=[.ref a]/\bT Ca H a v.top (v.low:Int) (v.measure.getD [])/\i' v/\Q (.str (S (shownLit v))) H
theorem ok_O(T:TZ):FO base 1 J.f_O J.d_O ["amount"] (zS J.C_e):=by
 refine T.F_O.fn.ok sc_O λ_ _ _ _ H _ Q E hr h=>?_;refine x_23 h λa v zr2 zn3 g k=>?_;subst zr2;obtain⟨dx,ha⟩:=zn3;refine⟨_,(ag (aA 1 sc_O.nd (cE gS rfl T.b_str f' (aa (aj (pv 0) rfl) ae)))
  (ag (aG (aC eU (aj (pv 0) rfl) au (aH _)) (ah (aA 1 sc_O.nd (aY dG (aY dG (pv 1) aE) (cE gS rfl T.b_str f' (aa (aj (pv 0) rfl) ae))))) aP)
  (ag (aG (aC eU (aj (pv 0) rfl) aE (aH _)) (ah (aA 1 sc_O.nd (aY dG (aY dG (aY dG (pv 1) aE) (aj (pv 0) rfl)) aE))) aP)
  (ah (az (pv 1)))))),?_⟩
 have big:∀n:Nat,n<=20000->n<=sizeLine:=λn h=>Nat.le_trans h (by decide);have d1:=pY g.2.1;have d2:=i9 g.2.2;have lm:(v.measure.getD []).length<=10000:=by
  cases h:v.measure with
  |none=>exact zero_le _
  |some m=>exact(g.1 m h).2
 rw[p9 v g]at k;simp![tSeq,tFld,ha];refine⟨T.cl_e,T.n_aY,_,rfl,_,rfl,kZ g.2.1,?_⟩;refine⟨T.cl_e,T.n_aO,_,rfl,rfl,?_⟩;rw[str_int];generalize hm:v.measure.getD []=m at *;have tail:∀l:List Nat,l.length<=1000->Q (.str (S (l++(if m=[]then[]else 91::(m++[93]))))) H->Cls K J.C_e/\aN K J.C_e (ofString "measure")/\∃x,List.lookup (ofString "measure") (afs v.top (↑v.low) (S m))=some x/\scal x (V.str (ofString ""))=true /\
   if(!decide (x=V.str (ofString "")))=true then(S l).length+(ofString "[").length<=sizeLine/\Cls K J.C_e/\aN K J.C_e (ofString "measure")/\∃x,List.lookup (ofString "measure") (afs v.top (↑v.low) (S m))=some x/\∃x_1,x=V.str x_1 /\
    (S l++ofString "[").length+x_1.length<=sizeLine/\(S l++ofString "["++x_1).length+(ofString "]").length<=sizeLine/\Q (V.str (S l++ofString "["++x_1++ofString "]")) H
   else Q (V.str (S l)) H:=λl hl q=>by
  refine⟨T.cl_e,T.n_aZ,_,rfl,rfl,?_⟩;simp only[yb,yc,yd,V.str.injEq,bB,dQ,aS,length_append,length_singleton];by_cases hm0:m=[]
  ·rw[if_pos hm0,append_nil]at q
   rw[decide_eq_true hm0];exact q
  rw[if_neg hm0]at q;rw[decide_eq_false hm0];refine⟨big _ (by omega),T.cl_e,T.n_aZ,_,rfl,S m,rfl,big _ (by rw[aS];omega),?_⟩;simp only[dQ,aS,length_append,length_singleton,append_assoc,List.singleton_append];exact⟨big _ (by simp only[length_cons];omega),q⟩
 by_cases h1:v.low=1
 ·rw[if_pos h1,append_nil]at k
  rw[if_neg (by simp[h1])];exact tail _ (by omega) k
 rw[if_neg h1]at k;rw[if_pos (by simp;omega)];refine⟨by rw[aS,pZ,aS];exact big _ (by simp;omega),T.cl_e,T.n_aO,_,rfl,_,rfl,kZ (by rw[Int.natAbs_natCast];exact g.2.2),?_⟩;rw[str_int,pZ,dQ,dQ,k6,append_assoc];refine⟨by simp only[aS,length_append,length_singleton];exact big _ (by omega),?_⟩;exact tail _ (by simp;omega) k
theorem ok_a(T:TZ):FO base 1 J.f_n J.d_n ["self","form","words","parts","begin","end"] (bR J.C_a ["form","words","parts","begin","end"]):=by
 refine T.F_n.ok sc_n (λ_ _ _ _ H _ Q E hr h=>?_) λ_ _ _ _ h=>gG h;refine x_33 h λp dx args zr3 hl hp k=>?_;subst zr3;refine x_50 (len5 hl) λa b c d e zr5=>?_;subst zr5;refine⟨_,(ag (bw (pv 0) (pv 1) rfl)
  (ag (bw (pv 0) (pv 2) rfl)
  (ag (bw (pv 0) (pv 3) rfl)
  (ag (bw (pv 0) (pv 4) rfl)
  (ah (bw (pv 0) (pv 5) rfl)))))),?_⟩
 simp![tSeq,sFld];refine⟨_,_,_,hp,T.cl_a,T.n_aD,few0,T.cl_a,T.n_aC,few1,T.cl_a,T.n_aF,few2,T.cl_a,T.n_aH,few3,T.cl_a,T.n_aI,few4,?_⟩;exact k
theorem ok_g(T:TZ):FO base 1 J.f_v J.d_v ["self","kind","owner","depth"] (bR J.C_g ["kind","owner","depth"]):=by
 refine T.F_v.ok sc_v (λ_ _ _ _ H _ Q E hr h=>?_) λ_ _ _ _ h=>gG h;refine x_33 h λp dx args zr3 hl hp k=>?_;subst zr3;refine x_30 (len3 hl) λa b c zr3=>?_;subst zr3;refine⟨_,(ag (bw (pv 0) (pv 1) rfl)
  (ag (bw (pv 0) (pv 2) rfl)
  (ah (bw (pv 0) (pv 3) rfl)))),?_⟩
 simp![tSeq,sFld];refine⟨_,_,_,hp,T.cl_g,T.n_aG,few0,T.cl_g,T.n_bj,few1,T.cl_g,T.n_a1,few2,?_⟩;exact k
inductive IRowInit(Ca Ct Cr:Addr)(H:Hp)(Q:VK):List V->Prop
 |mk (p dx b:Addr) (as:List Addr) (l:Toks) (hl:Nat):H p=some (.ins Cr dx [])->H b=some (.lst (as.map V.ref))->as.length<=10000->cQ Ca Ct H as l->(∀(la:Addr) (H':Hp),H la=none->af [p] H H'->bf Ca Ct Cr H' p la (l++[sent hl])->Q .non H')->IRowInit Ca Ct Cr H Q [.ref p,.ref b,.int (hl:Int)]
def zT(Ca Ct Cr:Addr):Sp:=λvs H Q _=>IRowInit Ca Ct Cr H Q vs
theorem ok_f(T:TZ):FO base 3 J.f_B J.d_B ["self","found","length"] (zT J.C_e J.C_d J.C_f):=by
 refine T.F_B.ok sc_B λ_ _ _ _ H _ Q E hr h=>?_;obtain⟨p,dx,b,as,l,hl,hp,hb,hn,hto,k⟩:=h;refine⟨_,(ag (bw (pv 0) (aY gZ (pv 1) (aR (aa (bF T.M_d (ok_d T) hr.m rfl T.G_d T.b_u .nil ak (aa (pe_g T.g_aT) (aa aE (aa (pv 2) (aa (pv 2) (aa aE ae)))))) ae))) rfl)
  (ah (bw (pv 0) au rfl))),?_⟩
 simp![tSeq,sFld,bp,rCat];refine bZ rfl λx dx1 H1 hx s1 e1=>⟨by decide,λq hq=>?_⟩;have s2:Same H1 (upd H1 q (.lst [.ref x])):=Same.upd hq;have e2:upd H1 q (.lst [.ref x]) q=some (.lst [.ref x]):=ai;generalize upd H1 q (.lst [.ref x])=H2 at s2 e2 ⊢;have s12:Same H H2:=s1.trans s2;refine⟨_,s12 _ _ hb,_,rfl,?_,λla hla=>?_⟩
 ·rw[length_map]
  exact Nat.le_trans (show as.length+1<=10001 by omega) (by decide)
 have hla0:=none_of s12 hla;have nla:la≠p:=λz=>by rw[z,s12 _ _ hp]at hla;cases hla
 have s3:Same H2 (upd H2 la (.lst (as.map V.ref++[.ref x]))):=Same.upd hla;have e3:upd H2 la (.lst (as.map V.ref++[.ref x])) la=some (.lst (as.map V.ref++[.ref x])):=ai;generalize upd H2 la (.lst (as.map V.ref++[.ref x]))=H3 at s3 e3 ⊢;have s13:Same H H3:=s12.trans s3;have hp3:=s13 _ _ hp;refine⟨_,_,_,hp3,T.cl_f,T.n_bl,few0,T.cl_f,T.n_bi,few1,?_⟩;have im:Imm H3 (upd H3 p (.ins J.C_f dx (eK la 0))):=⟨λa C dx' g k b e c q=>by
   rw[ao (aB q hp3 (by intro z;injection z with _ _ z;cases z))];exact q,λa C dx' o u m q=>by
   rw[ao (aB q hp3 (by intro z;injection z with _ _ z;cases z))];exact q⟩
 refine k la (upd H3 p (.ins J.C_f dx (eK la 0))) hla0 (λa o n e=>?_) ⟨dx,as++[x],0,ai,?_,?_⟩
 ·rw[ao (λz=>n (by rw[z];exact mem_singleton.mpr rfl))]
  exact s13 _ _ e
 ·rw[ao nla,e3,map_append]
  rfl
 rw[drop_zero];refine cS (Paired.mapP hto λa k z=>((z.same s13).b).imm im) ?_;refine TokB.imm ⟨dx1,.str (ofString ""),?_,trivial⟩ im;rw[s3 _ _ (s2 _ _ e1)];show some (HO.ins J.C_d dx1 (cO 2 (ofString "end") (hl:Int) (hl:Int) (.str (ofString ""))))=_;rw[aI];rfl
def eN(Ca Ct Cr:Addr):Sp:=λvs H Q _=>∃(row la:Addr) (t:Vaunid.Token) (l:Toks),vs=[.ref row]/\bf Ca Ct Cr H row la (t::l)/\∀b,TokB Ca Ct H b t->Q (.ref b) H
theorem rD{Ca Ct:Addr}{H:Hp}{as:List Addr}{i:Nat}{t:Vaunid.Token}{l:Toks}(h:Paired (λa k=>TokB Ca Ct H a k) (as.drop i) (t::l)):∃b,as[i]? = some b/\TokB Ca Ct H b t/\Paired (λa k=>TokB Ca Ct H a k) (as.drop (i+1)) l:=by
 cases q:as.drop i with
 |nil=>rw[q]at h;cases h
 |cons b r =>
 rw[q]at h;cases h with
 |cons h1 h2 =>
 refine⟨b,?_,h1,?_⟩
 ·rw[<- List.head?_drop,q]
  rfl
 rw[<- List.tail_drop,q];exact h2
theorem eO(T:TZ):FO base 1 J.f_k J.d_k ["self"] (eN J.C_e J.C_d J.C_f):=by
 refine T.F_k.ok sc_k λ_ _ _ _ H _ Q E hr h=>?_;refine x_40 h λrow la t l zy=>x_02 zy λzr4 zn5 k=>?_;subst zr4;obtain⟨dx,as,i,h1,h2,h3⟩:=zn5;refine x_12 (rD h3) λb hb htk _=>?_;refine⟨_,(ah (az (aJ bu (aj (pv 0) rfl) (aj (pv 0) rfl) (λ_ _=>rfl)))),?_⟩;simp![tSeq,tFld,h1];refine⟨T.cl_f,T.n_bl,_,rfl,T.cl_f,T.n_bi,_,rfl,_,rfl,_,_,rfl,SqL.of h2,_,cf (by rw[getElem?_map,hb];rfl),?_⟩;exact k b htk
def gI(Ca Ct Cr:Addr):Sp:=λvs H Q _=>∃(row la:Addr) (t:Vaunid.Token) (l:Toks),vs=[.ref row]/\bf Ca Ct Cr H row la (t::l)/\∀b H',TokB Ca Ct H' b t->af [row] H H'->bf Ca Ct Cr H' row la l->Q (.ref b) H'
theorem jq(T:TZ):FO base 2 J.f_l J.d_l ["self"] (gI J.C_e J.C_d J.C_f):=by
 refine T.F_l.ok sc_l λ_ _ _ _ H _ Q E hr h=>?_;refine x_40 h λrow la t l zy=>x_02 zy λzr4 hrow k=>?_;subst zr4;have hr0:=hrow;refine x_32 hrow λdx as i h1 h2 h3=>?_;refine x_12 (rD h3) λb hb htk hrest=>?_;refine⟨_,(ag (aA 1 sc_l.nd (cD (pv 0) T.cl_f T.m_k (eO T) hr.m T.b_k .nil ak))
  (ag (jD (pv 0) au jE)
  (ah (az (pv 1))))),?_⟩
 simp![tSeq,cp,eN,gW,rAdd,h1];refine⟨rfl,la,t,l,hr0,λb' hb'=>⟨T.cl_f,T.n_bi,_,rfl,_,rfl,(by show 2<1000;decide),?_⟩⟩;have sx:af [row] H (upd H row (.ins J.C_f dx (eK la ((i+1:Nat):Int)))):=af.upd (mem_singleton.mpr rfl);have nt:∀x∈[row],NT H x:=λx hx=>by rw[mem_singleton.mp hx];exact hr0.nt
 have im:=Imm.of sx nt;have nla:la≠row:=aB h2 h1 (by intro z;cases z);exact k b' _ (hb'.imm im) sx ⟨dx,as,i+1,ai,by rw[ao nla];exact h2,Paired.mapP hrest λa k z=>z.imm im⟩
def jr(Ca Ct Cr C:Addr):Sp:=λvs H Q E=>∃(row la:Addr) (t:Vaunid.Token) (l:Toks) (x:List Nat),vs=[.ref row,.str (S x)]/\bf Ca Ct Cr H row la (t::l) /\
 if kindOf t.tok=x then(∀b H',TokB Ca Ct H' b t->af [row] H H'->bf Ca Ct Cr H' row la l->Q (.ref b) H')else ExF C E H 6 (t.start:Int)
theorem lC(T:TZ):FX base 3 J.f_o J.d_o ["self","kind"] (jr J.C_e J.C_d J.C_f J.C_c):=by
 refine T.F_o.okX sc_o λ_ _ _ _ H _ Q E hr h=>?_;refine x_50 h λrow la t l x zy=>x_02 zy λzr5 hrow k=>?_;subst zr5;have hr0:=hrow;refine x_32 hrow λdx as i h1 h2 h3=>?_;refine⟨_,(ag (aG (aC eU (aj (cD (pv 0) T.cl_f T.m_k (eO T) hr.m T.b_k .nil ak) rfl) (pv 1) (aH _)) (ah (dN T.X_c (ok_c T) hr.m rfl T.G_c T.b_m dP rfl (aa au (aa (aj (cD (pv 0) T.cl_f T.m_k (eO T) hr.m T.b_k .nil ak) rfl) ae)))) aP)
  (ah (az (cD (pv 0) T.cl_f T.m_l (jq T) hr.m T.b_l .nil ak)))),?_⟩
 simp![tSeq,cp,eN,gI,dq,tFld,h1];refine⟨rfl,la,t,l,hr0,λb ⟨dt,ct,e1,_⟩=>?_⟩;refine⟨J.C_d,dt,_,e1,T.cl_d,T.n_aE,_,rfl,rfl,?_⟩;by_cases hk:kindOf t.tok=x
 ·rw[if_pos hk]at k
  rw[if_neg (by rw[hk];simp)];exact⟨rfl,la,t,l,hr0,k⟩
 rw[if_neg hk]at k;rw[if_pos (by simp only[V.str.injEq,bB];simp[hk])];refine⟨rfl,la,t,l,hr0,λb2 ⟨dt2,ct2,e2,_⟩=>⟨J.C_d,dt2,_,e2,T.cl_d,T.n_aJ,_,rfl,by decide,?_⟩⟩;exact dz k
theorem zU{k:Vaunid.Tok}(g:bJ k):(∃w,k=.word w/\kindOf k=Vaunid.txt "name"/\Vaunid.leafOf k=some (.name w))\/(∃v d,k=.num v d/\(kindOf k=Vaunid.txt "number"\/kindOf k=Vaunid.txt "digit")/\Vaunid.leafOf k=some (.num v)) \/
  (¬kindOf k=Vaunid.txt "name"/\¬kindOf k=Vaunid.txt "number"/\¬kindOf k=Vaunid.txt "digit"/\((kindOf k∈[Vaunid.txt "true",Vaunid.txt "false",Vaunid.txt "nil"]/\∃x,Vaunid.leafOf k=some x/\Vaunid.txt (dB x)=kindOf k/\iX x=[])\/(¬kindOf k∈[Vaunid.txt "true",Vaunid.txt "false",Vaunid.txt "nil"]/\Vaunid.leafOf k=none))):=by
 cases k with
 |word w =>
  by_cases h:isTaken w=true
  ·have e:kindOf (.word w)=w:=by simp only[kindOf];rw[if_pos h]
   rw[e];refine .inr (.inr ⟨λz=>?_,λz=>?_,λz=>?_,?_⟩)
   ·rw[z]at h;exact absurd h (by left)
   ·rw[z]at h;exact absurd h (by left)
   ·rw[z]at h;exact absurd h (by left)
   by_cases h1:w=Vaunid.txt "true"
   ·refine .inl ⟨by rw[h1];simp,.truth true,?_,h1.symm,rfl⟩
    simp only[Vaunid.leafOf];rw[if_pos h1]
   by_cases h2:w=Vaunid.txt "false"
   ·refine .inl ⟨by rw[h2];simp,.truth false,?_,h2.symm,rfl⟩
    simp only[Vaunid.leafOf];rw[if_neg h1,if_pos h2]
   by_cases h3:w=Vaunid.txt "nil"
   ·refine .inl ⟨by rw[h3];simp,.nil,?_,h3.symm,rfl⟩
    simp only[Vaunid.leafOf];rw[if_neg h1,if_neg h2,if_pos h3]
   refine .inr ⟨by simp[h1,h2,h3],?_⟩;simp only[Vaunid.leafOf];rw[if_neg h1,if_neg h2,if_neg h3,if_neg];unfold isName;rw[h];simp
  have e:kindOf (.word w)=Vaunid.txt "name":=by simp only[kindOf];rw[if_neg h]
  refine .inl ⟨w,rfl,e,?_⟩;obtain⟨w',q,hn⟩:=(iY g).mp e;cases q;simp only[Vaunid.leafOf];rw[if_neg (λz=>by rw[z]at h;exact h (by left)),if_neg (λz=>by rw[z]at h;exact h (by left)),if_neg (λz=>by rw[z]at h;exact h (by left)),if_pos hn]
 |num v d =>
  refine .inr (.inl ⟨v,d,rfl,?_,rfl⟩);cases d with
  |none=>exact .inl rfl
  |some n=>exact .inr rfl
 |sign s =>
 have q:∀x∈coreSigns++[Vaunid.txt "end"],¬x=Vaunid.txt "name"/\¬x=Vaunid.txt "number"/\¬x=Vaunid.txt "digit"/\¬x∈[Vaunid.txt "true",Vaunid.txt "false",Vaunid.txt "nil"]:=by left
 have hs:s∈coreSigns++[Vaunid.txt "end"]:=by
  rcases g with g|g
  ·exact mem_append_left _ g
  rw[g];exact mem_append_right _ (mem_singleton.mpr rfl)
 refine x_03 (q s hs) λq1 q2 q3 q4=>?_;exact .inr (.inr ⟨q1,q2,q3,.inr ⟨q4,rfl⟩⟩)
theorem lD:[V.str "true",V.str "false",V.str "nil"]=(([Vaunid.txt "true",Vaunid.txt "false",Vaunid.txt "nil"]).map S).map V.str:=by left
theorem rE{Cn:Addr}{H H1 H2 H3:Hp}{n dx wl pl:Addr}{f:List Nat}{ws:List (List Nat)}{b e:Nat}(h1:H wl=none)(s1:Same H H1)(e1:H1 wl=some (.lst ((ws.map S).map V.str)))(h2:H1 pl=none)(s2:Same H1 H2)(e2:H2 pl=some (.lst []))(h3:H2 n=none)(s3:Same H2 H3)(e3:H3 n=some (.ins Cn dx (bh (S f) wl pl (b:Int) (e:Int)))) :
  TreeAt Cn H3 n (.mk f ws b e []) [n,wl,pl]/\[n,wl,pl].Nodup/\∀a∈[n,wl,pl],H a=none:=by
 refine⟨.mk (as:=[]) e3 (s3 _ _ (s2 _ _ e1)) (s3 _ _ e2) .nil,?_,?_⟩
 ·have q1:wl≠pl:=aF e1 h2
  have q2:wl≠n:=aF (s2 _ _ e1) h3;have q3:pl≠n:=aF e2 h3;simp[q1,q2.symm,q3.symm]
 intro a ha;have:=none_of (s1.trans s2) h3;have:=none_of s1 h2;simp at ha;rcases ha with rfl|rfl|rfl<;>assumption
def zV(Ca Ct Cn C:Addr):Sp:=λvs H Q E=>∃(b:Addr) (t:Vaunid.Token),vs=[.ref b]/\TokB Ca Ct H b t/\bJ t.tok/\(match Vaunid.leafOf t.tok with
 |none=>ExF C E H 6 (t.start:Int)
 |some x=>∀(n:Addr) (F:List Addr) (H':Hp),Same H H'->TreeAt Cn H' n (gB t x) F->F.Nodup->(∀a∈F,H a=none)->Q (.ref n) H')
theorem bD{t u:TS}{D:Ends}{σ:L2.St}{H:Hp}(h:t {D with nx:=u D} σ H):tSeq t u D σ H:=h
theorem ok_aA(T:TZ):FX base 3 J.f_aA J.d_aA ["token"] (zV J.C_e J.C_d J.C_a J.C_c):=by
 refine T.F_aA.fn.okX sc_aA λ_ _ _ _ H _ Q E hr h=>?_;refine x_23 h λb t zr2 zn3 g k=>?_;subst zr2;obtain⟨dt,ct,hb,hc⟩:=zn3;refine⟨_,(ag (aG (aC bj (aj (pv 0) rfl) aE (aH _)) (ah (az (bF T.M_a (ok_a T) hr.m rfl T.G_a T.b_n .nil ak (aa aE (aa (aR (aa (aj (pv 0) rfl) ae)) (aa (aR ae) (aa (aj (pv 0) rfl) (aa (aj (pv 0) rfl) ae)))))))) aP)
  (ag (aG (PW.pt (pw_or (aC bj (aj (pv 0) rfl) aE (aH _)) (pw_or1 (aC bj (aj (pv 0) rfl) aE (aH _))))) (ah (az (bF T.M_a (ok_a T) hr.m rfl T.G_a T.b_n .nil ak (aa aE (aa (aR (aa (aD T.F_O (ok_O T) hr.m ak (aa (aj (pv 0) rfl) ae)) ae)) (aa (aR ae) (aa (aj (pv 0) rfl) (aa (aj (pv 0) rfl) ae)))))))) aP)
  (ag (aG (aC dH (aj (pv 0) rfl) (pe_r T.g_H) rfl) (ah (az (bF T.M_a (ok_a T) hr.m rfl T.G_a T.b_n .nil ak (aa (aj (pv 0) rfl) (aa (aR ae) (aa (aR ae) (aa (aj (pv 0) rfl) (aa (aj (pv 0) rfl) ae)))))))) aP)
  (ah (dN T.X_c (ok_c T) hr.m rfl T.G_c T.b_m dP rfl (aa au (aa (aj (pv 0) rfl) ae))))))),?_⟩
 refine bD ?_;simp![tFld,hb,bp];refine⟨T.cl_d,T.n_aE,_,rfl,rfl,?_⟩;have l1:(1:Nat)<=sizeLine:=by decide
 have l0:(0:Nat)<=sizeLine:=zero_le _;have tail:∀(f:List Nat) (fs:Str) (ws:List (List Nat)) (xs:List V),fs=S f->xs=(ws.map S).map V.str->(∀(n:Addr) (F:List Addr) (H':Hp),Same H H'->TreeAt J.C_a H' n (.mk f ws t.start t.halt_ []) F->F.Nodup->(∀a∈F,H a=none)->Q (.ref n) H') ->
   ∀p,H p=none->0<=sizeLine/\∀p1,upd H p (.lst xs) p1=none->∃x1 x2 x3,upd (upd H p (.lst xs)) p1 (.lst []) b=some (.ins x1 x2 x3)/\Cls K x1/\aN K x1 (ofString "begin")/\∃x4,List.lookup (ofString "begin") x3=some x4 /\
    ∃x5 x6 x7,upd (upd H p (.lst xs)) p1 (.lst []) b=some (.ins x5 x6 x7)/\Cls K x5/\aN K x5 (ofString "end")/\∃x8,List.lookup (ofString "end") x7=some x8 /\
     ∀x9 dx,upd (upd H p (.lst xs)) p1 (.lst []) x9=none->upd (upd H p (.lst xs)) p1 (.lst []) dx=none->dx≠x9->bR J.C_a [ofString "form",ofString "words",ofString "parts",ofString "begin",ofString "end"] [V.ref x9,V.str fs,V.ref p,V.ref p1,x4,x8]
      (upd (upd (upd (upd H p (.lst xs)) p1 (.lst [])) dx (HO.own x9)) x9 (HO.ins J.C_a dx [])) (λv H2=>v=V.non/\Q (V.ref x9) H2) (λ_ _ _=>False):=λf fs ws xs ef ex kk p hp=>⟨l0,λp1 hp1=>by
  subst ef ex;have s1:Same H (upd H p (.lst ((ws.map S).map V.str))):=Same.upd hp;have e1:upd H p (.lst ((ws.map S).map V.str)) p=some (.lst ((ws.map S).map V.str)):=ai;generalize upd H p (.lst ((ws.map S).map V.str))=H1 at s1 e1 hp1 ⊢;have s2:Same H1 (upd H1 p1 (.lst [])):=Same.upd hp1;have e2:upd H1 p1 (.lst []) p1=some (.lst []):=ai;generalize upd H1 p1 (.lst [])=H2 at s2 e2 ⊢;have hb2:=(s1.trans s2) _ _ hb;refine⟨_,_,_,hb2,T.cl_d,T.n_aJ,_,rfl,_,_,_,hb2,T.cl_d,T.n_a0,_,rfl,?_⟩;refine bZ rfl λn dx H3 hn s3 e3=>?_;obtain⟨t1,t2,t3⟩:=rE (f:=f) (ws:=ws) (b:=t.start) (e:=t.halt_) hp s1 e1 hp1 s2 e2 hn s3 e3;exact kk n _ H3 (s1.trans (s2.trans s3)) t1 t2 t3⟩
 rcases zU g with⟨w,e1,e2,e3⟩|⟨v,d,e1,e2,e3⟩|⟨n1,n2,n3,hp⟩
 ·rw[e3]at k
  rw[e2,if_pos (by rw[aI])];rw[e1]at hc;refine⟨T.cl_d,T.n_aK,_,rfl,l1,?_⟩;exact tail (Vaunid.txt "name") _ [w] _ (aI _) (by rw[show ct=V.str (S w)from hc];rfl) k
 ·rw[e3]at k
  rw[e1]at hc g;obtain⟨a,ec,ha⟩:=hc;have gl:i' v:=⟨g.1,g.2.1,g.2.2.1⟩;have amt:=tail (Vaunid.txt "number") _ [shownLit v] _ (aI _) rfl k;rw[if_neg (by rw[aI];simp only[V.str.injEq,bB];rcases e2 with q|q<;>(rw[q];left))]
  refine bD ?_;simp![tFld,hb,bp];refine⟨T.cl_d,T.n_aE,_,rfl,rfl,?_⟩;rcases e2 with q|q
  ·rw[q,if_pos (by rw[aI])]
   exact⟨T.cl_d,T.n_aK,_,rfl,a,v,by rw[ec],ha,gl,l1,amt⟩
  rw[q,if_neg (by rw[aI];simp only[V.str.injEq,bB];left)];refine⟨T.cl_d,T.n_aE,_,rfl,rfl,?_⟩;rw[if_pos (by rw[aI])];exact⟨T.cl_d,T.n_aK,_,rfl,a,v,by rw[ec],ha,gl,l1,amt⟩
 rw[if_neg (by rw[aI];simp only[V.str.injEq,bB];exact n1)];refine bD ?_;simp![tFld,hb,bp];refine⟨T.cl_d,T.n_aE,_,rfl,rfl,?_⟩;rw[if_neg (by rw[aI];simp only[V.str.injEq,bB];exact n2)];refine⟨T.cl_d,T.n_aE,_,rfl,rfl,?_⟩;rw[if_neg (by rw[aI];simp only[V.str.injEq,bB];exact n3)];refine bD ?_;simp![tFld,hb,bp,dq];refine⟨T.cl_d,T.n_aE,_,rfl,_,.inr (T.t_H H),rfl,rfl,?_⟩;rw[lD,in_S];rcases hp with⟨hm,x,e1,e2,e3⟩|⟨hm,e1⟩
 ·rw[e1]at k
  rw[decide_eq_true hm];refine⟨T.cl_d,T.n_aE,_,rfl,l0,?_⟩;refine tail (kindOf t.tok) _ [] _ rfl rfl ?_;rw[<- e2,<- e3];exact k
 rw[e1]at k;rw[decide_eq_false hm];exact⟨T.cl_d,T.n_aJ,_,rfl,by decide,dz k⟩
end
section
variable{base:Heap}
inductive IBracket(Ca Ct Cr Cn:Addr)(H:Hp)(Q:VK):List V->Prop
 |mk (row la:Addr) (t:Vaunid.Token) (l:Toks):bf Ca Ct Cr H row la (t::l)->ba l->l≠[]->(∀(n dx wl pl:Addr) (H':Hp),af [row] H H'->bf Ca Ct Cr H' row la (aK l).2->H' n=some (.ins Cn dx (bh (S (Vaunid.txt (aK l).1.word)) wl pl (t.start:Int) (t.start:Int)))->H' wl=some (.lst [])->H' pl=some (.lst [])->[n,wl,pl].Nodup->(∀a∈[n,wl,pl],H a=none)->Q (.ref n) H')->IBracket Ca Ct Cr Cn H Q [.ref row]
def zW(Ca Ct Cr Cn:Addr):Sp:=λvs H Q _=>IBracket Ca Ct Cr Cn H Q vs
theorem ok_aj(T:TZ):FO base 3 J.f_aj J.d_aj ["row"] (zW J.C_e J.C_d J.C_f J.C_a):=by
 refine T.F_aj.fn.ok sc_aj λ_ _ _ _ H _ Q E hr h=>?_;obtain⟨row,la,t,l,hrow,hg,hne,k⟩:=h;refine x_12 T.t_b λad md sq _=>?_;refine⟨_,(ag (aA 1 sc_aj.nd (aj (cD (pv 0) T.cl_f T.m_l (jq T) hr.m T.b_l .nil ak) rfl))
  (ag (aA 2 sc_aj.nd aE)
  (ag (aG (xn (aj (cD (pv 0) T.cl_f T.m_k (eO T) hr.m T.b_k .nil ak) rfl) (pe_r T.g_b)) (ah (aA 2 sc_aj.nd (aj (cD (pv 0) T.cl_f T.m_l (jq T) hr.m T.b_l .nil ak) rfl))) aP)
  (ah (az (bF T.M_a (ok_a T) hr.m rfl T.G_a T.b_n .nil ak (aa (pv 2) (aa (aR ae) (aa (aR ae) (aa (pv 1) (aa (pv 1) ae))))))))))),?_⟩
 have hr0:=hrow;refine x_32 hrow λdx as i h1 h2 h3=>?_;simp![tSeq,cp,gI,eN,tFld,kP,bp,h1];refine⟨rfl,la,t,l,hr0,λb H1 ⟨dt,ct,e1,_⟩ sx1 hr1=>?_⟩;refine⟨J.C_d,dt,_,e1,T.cl_d,T.n_aJ,_,rfl,?_⟩;have hr1':=hr1;refine x_32 hr1 λdx1 as1 i1 r1 r2 r3=>?_
 match l,hne,hg,k,hr1',r3 with
 |t2::l2,_,hg,k,hr1',r3 =>
  have gt:=hg t2 (mem_cons_self ..);simp![tSeq,r1];refine⟨rfl,la,t2,l2,hr1',λb2 ⟨dt2,ct2,e2,_⟩=>?_⟩;refine⟨J.C_d,dt2,_,e2,T.cl_d,T.n_aE,_,rfl,_,_,rfl,md,?_⟩;have tail:∀(H2:Hp) (f:Fm) (r:Toks) (fs:Str),fs=S (Vaunid.txt f.word)->af [row] H H2->bf J.C_e J.C_d J.C_f H2 row la r->aK (t2::l2)=(f,r)->0<=sizeLine/\∀p,H2 p=none->0<=sizeLine/\∀p1,upd H2 p (.lst []) p1=none ->
    ∀x dx,upd (upd H2 p (.lst [])) p1 (.lst []) x=none->upd (upd H2 p (.lst [])) p1 (.lst []) dx=none->dx≠x->bR J.C_a [ofString "form",ofString "words",ofString "parts",ofString "begin",ofString "end"] [V.ref x,V.str fs,V.ref p,V.ref p1,V.int ↑t.start,V.int ↑t.start]
     (upd (upd (upd (upd H2 p (.lst [])) p1 (.lst [])) dx (.own x)) x (.ins J.C_a dx [])) (λv H2=>v=V.non/\Q (V.ref x) H2) (λ_ _ _=>False):=λH2 f r fs ef sx hrw eb=>⟨zero_le _,λp hp=>⟨zero_le _,λp1 hp1=>by
   subst ef;have s1:Same H2 (upd H2 p (.lst [])):=Same.upd hp;have e1:upd H2 p (.lst []) p=some (.lst []):=ai;generalize upd H2 p (.lst [])=H3 at s1 e1 hp1 ⊢;have s2:Same H3 (upd H3 p1 (.lst [])):=Same.upd hp1;have e2:upd H3 p1 (.lst []) p1=some (.lst []):=ai;generalize upd H3 p1 (.lst [])=H4 at s2 e2 ⊢;refine bZ rfl λn dx H5 hn s3 e3=>?_;obtain⟨t1,t2,t3⟩:=rE (f:=Vaunid.txt f.word) (ws:=[]) (b:=t.start) (e:=t.start) hp s1 e1 hp1 s2 e2 hn s3 e3;have sA:Same H2 H5:=s1.trans (s2.trans s3);rw[eb]at k;have nr:∀a,H2 a=none->a≠row:=λa ha z=>by
    obtain⟨_,_,_,q,_,_⟩:=hrw;rw[z,q]at ha;cases ha
   exact k n dx p p1 H5 (sx.trans (af.of sA)) (hrw.same sA) e3 (s3 _ _ (s2 _ _ e1)) (s3 _ _ e2) t2 λa ha=>eg sx (nin (nr a (t3 a ha))) (t3 a ha)⟩⟩
  rw[pQ,xA gt];cases hf:fmOf t2.tok with
  |none =>
   have eb:aK (t2::l2)=(.app,t2::l2):=by unfold aK;dsimp only;rw[hf]
   exact tail H1 .app (t2::l2) _ (aI _) sx1 hr1' eb
  |some f =>
  have eb:aK (t2::l2)=(f,l2):=by unfold aK;dsimp only;rw[hf]
  refine⟨rfl,la,t2,l2,hr1',λb3 H2 ⟨dt3,ct3,e3,_⟩ sx2 hr2=>⟨J.C_d,dt3,_,e3,T.cl_d,T.n_aE,_,rfl,?_⟩⟩;exact tail H2 f l2 _ (by rw[pR hf]) (sx1.trans sx2) hr2 eb
def zX(Cs:Addr)(H:Hp)(s:Addr)(k:String)(o:Addr)(d:Nat):Prop:=∃dx,H s=some (.ins Cs dx (fA (ofString k) o (d:Int)))
inductive IBegin(Ca Ct Cr Cn Cs C:Addr)(H:Hp)(Q:VK)(E:XK):List V->Prop
 |mk (row la todo s o dxo wl pl:Addr) (k:String) (d:Nat) (t:Vaunid.Token) (l:Toks) (xs ps:List V) (f:Str) (b e:Int):zX Cs H s k o d->bf Ca Ct Cr H row la (t::l)->ba (t::l)->H todo=some (.lst xs)->xs.length<=1000->H o=some (.ins Cn dxo (bh f wl pl b e))->H pl=some (.lst ps)->ps.length<=100->todo≠pl->la≠todo->la≠pl->((if d=40 then ExF C E H 8 (t.start:Int)
 else if kindOf t.tok=Vaunid.txt "("then l≠[]/\∀(n dx wl' pl':Addr) (ss:List Addr) (H':Hp),af [row,todo,pl] H H'->bf Ca Ct Cr H' row la (aK l).2->H' todo=some (.lst (xs++ss.reverse.map V.ref))->bX Cs H' ss ((aK l).1.sk.map SK.w++[")"]) n (d+1)->H' pl=some (.lst (ps++[.ref n])) ->
   H' n=some (.ins Cn dx (bh (S (Vaunid.txt (aK l).1.word)) wl' pl' (t.start:Int) (t.start:Int)))->H' wl'=some (.lst [])->H' pl'=some (.lst [])->((n::wl'::pl'::ss):List Addr).Nodup->(∀a∈n::wl'::pl'::ss,H a=none)->Q .non H'
 else match Vaunid.leafOf t.tok with
  |none=>ExF C E H 6 (t.start:Int)
  |some x=>∀(n:Addr) (F:List Addr) (H':Hp),af [row,pl] H H'->bf Ca Ct Cr H' row la l->H' pl=some (.lst (ps++[.ref n]))->TreeAt Cn H' n (gB t x) F->F.Nodup->(∀a∈F,H a=none)->Q .non H'))->IBegin Ca Ct Cr Cn Cs C H Q E [.ref row,.ref todo,.ref s]
def zY(Ca Ct Cr Cn Cs C:Addr):Sp:=λvs H Q E=>IBegin Ca Ct Cr Cn Cs C H Q E vs
theorem ok_ai(T:TZ):FX base 5 J.f_ai J.d_ai ["row","todo","step"] (zY J.C_e J.C_d J.C_f J.C_a J.C_g J.C_c):=by
 refine T.F_ai.fn.okX sc_ai λ_ _ _ _ H _ Q E hr h=>?_;obtain⟨row,la,todo,s,o,dxo,wl,pl,k,d,t,l,xs,ps,f,b,e,⟨dxs,hs⟩,hrow,hg,hto,hxs,ho,hpl,hps,n1,n2,n3,kk⟩:=h;refine x_12 T.t_b λad md sq _=>?_;refine⟨_,(ag (aG (aC bj (aj (pv 2) rfl) (pe_g T.g_aP) (aH _)) (ah (dN T.X_c (ok_c T) hr.m rfl T.G_c T.b_m dP rfl (aa au (aa (aj (cD (pv 0) T.cl_f T.m_k (eO T) hr.m T.b_k .nil ak) rfl) ae)))) aP)
  (ag (aG (aC bj (aj (cD (pv 0) T.cl_f T.m_k (eO T) hr.m T.b_k .nil ak) rfl) aE (aH _)) (ag (aA 3 sc_ai.nd (aD T.F_aj (ok_aj T) hr.m ak (aa (pv 0) ae)))
  (ag (a8 (bz pla sla tla bA (pv 1) (aa (bF T.M_g (ok_g T) hr.m rfl T.G_g T.b_v .nil ak (aa aE (aa (pv 3) (aa (aY cn (aj (pv 2) rfl) au) ae)))) ae)))
  (ah (dD iC rfl (xi rfl T.b_reversed (aa (xl (pe_r T.g_b) (aj (pv 3) rfl)) ae)) (pg_q 4 sc_ai.nd) (ah (a8 (bz pla sla tla bA (pv 1) (aa (bF T.M_g (ok_g T) hr.m rfl T.G_g T.b_v .nil ak (aa (pv 4) (aa (pv 3) (aa (aY cn (aj (pv 2) rfl) au) ae)))) ae)))))))) (ag (aA 3 sc_ai.nd (aD T.F_aA (ok_aA T) hr.m bS (aa (cD (pv 0) T.cl_f T.m_k (eO T) hr.m T.b_k .nil ak) ae)))
  (ah (a8 (cD (pv 0) T.cl_f T.m_l (jq T) hr.m T.b_l .nil ak)))))
  (ah (a8 (bz pla sla tla bA (aj (aj (pv 2) rfl) rfl) (aa (pv 3) ae)))))),?_⟩
 have hr0:=hrow;refine x_32 hrow λdx as i h1 h2 h3=>?_;refine bD ?_;simp![cp,eN,tFld,dq,hs,h1];refine⟨T.cl_g,T.n_a1,_,rfl,rfl,?_⟩;by_cases hd:d=40
 ·subst hd
  rw[if_pos rfl]at kk;rw[if_pos (show V.int ((40:Nat):Int)=V.int 40 from rfl)];exact⟨rfl,la,t,l,hr0,λb ⟨dt,ct,e1,_⟩=>⟨J.C_d,dt,_,e1,T.cl_d,T.n_aJ,_,rfl,by decide,dz kk⟩⟩
 rw[if_neg hd]at kk;rw[if_neg (by simp only[V.int.injEq];omega)];refine c6 (λσ' H'=>∃n z,σ'=[some (.ref row),some (.ref todo),some (.ref s),some (.ref n),z]/\H' s=some (.ins J.C_g dxs (fA (ofString k) o (d:Int)))/\H' o=some (.ins J.C_a dxo (bh f wl pl b e))/\H' pl=some (.lst ps)/\Q .non (upd H' pl (.lst (ps++[.ref n])))) (λX hX=>?_) (λσ' H' hh=>?_)
 case' refine_2 =>
  refine x_24 hh λn z zr2 hs2 ho2 hpl2 kq=>?_;subst zr2;simp![tBM,bG,tFld,hs2];exact⟨T.cl_g,T.n_bj,_,rfl,_,rfl,_,_,_,ho2,T.cl_a,T.n_aF,_,rfl,(show tyV K "list" (.ref pl) _ from .inl ⟨rfl,_,SqL.of hpl2⟩),_,rfl,_,hpl2,Nat.lt_of_le_of_lt hps (by decide),kq⟩
 simp![cp,gI,eN,tFld,h1];refine⟨rfl,la,t,l,hr0,λb ⟨dt,ct,e1,_⟩=>⟨J.C_d,dt,_,e1,T.cl_d,T.n_aE,_,rfl,rfl,?_⟩⟩;by_cases hk:kindOf t.tok=Vaunid.txt "("
 ·rw[if_pos hk]at kk
  rw[if_pos (by rw[hk,aI])];obtain⟨hl,kk⟩:=kk;refine bD ?_;simp![tRet];refine⟨row,la,t,l,hr0,λk hk=>hg k (mem_cons_of_mem _ hk),hl,λn dx wl' pl' H1 sx1 hr1 e1 e2 e3 nd fr=>?_⟩;generalize hff:(aK l).1=ff at kk e1;generalize(aK l).2=rr at kk hr1;have nrow:row≠todo:=aB h1 hto (by intro z;cases z);have hto1:H1 todo=some (.lst xs):=sx1 _ _ (nin nrow.symm) hto;have hs1:H1 s=some (.ins J.C_g dxs (fA (ofString k) o (d:Int))):=sx1 _ _ (nin (aB hs h1 (by intro z;injection z with _ _ z;cases z))) hs;have b0:BI J.C_e J.C_d J.C_f J.C_a J.C_g H row la todo xs rr n dx wl' pl' (S (Vaunid.txt ff.word)) (t.start:Int) (d+1) H1 [] []:=⟨sx1.more (by simp),hr1,by rw[hto1];simp,.nil,e1,e2,e3,nd,fr⟩;refine bD ?_;simp![tBM,bG,bp,tFld,hs1,hto1];refine⟨.inl ⟨rfl,_,SqL.of hto1⟩,T.cl_g,T.n_a1,_,rfl,_,rfl,?_⟩;refine bZ rfl λs1 dx1 H2 hx1 sm1 es1=>⟨_,sm1 _ _ hto1,Nat.lt_of_le_of_lt hxs (by decide),?_⟩;have b1:=b0.add hto n2 (k:=")") hx1 sm1 es1;rw[List.reverse_nil,map_nil,append_nil]at b1;generalize upd H2 todo (.lst (xs++[.ref s1]))=H3 at b1 ⊢;refine dy ?_;simp![pK,pH,tFld];have wd:=pO ad ff;rw[aI]at wd;refine⟨_,_,_,b1.node,T.cl_a,T.n_aD,_,rfl,_,_,rfl,md,_,wd,_,rfl,_,sq ff H3,?_⟩;refine xj (((ff.kt.map λs=>ofString s)).map V.str) (λi σ H'=>(∃z,σ=[some (.ref row),some (.ref todo),some (.ref s),some (.ref n),z])/\∃ss,BI J.C_e J.C_d J.C_f J.C_a J.C_g H row la todo xs rr n dx wl' pl' (S (Vaunid.txt ff.word)) (t.start:Int) (d+1) H' ss (ff.kt.drop (ff.kt.length - i)++[")"]))
   ⟨⟨_,rfl⟩,[s1],by rw[sub_zero,drop_length];exact b1⟩ (λi σ H' _ _=>sq ff H') (λi x σ H' hx q=>?_) λσ H' q=>?_
  ·obtain⟨⟨z,rfl⟩,ss,b2⟩:=q
   have hkl:ss.length=i+1/\ff.kt.length<=5/\i<ff.kt.length:=by
    have h1:=b2.steps.length;rw[length_append,length_drop,length_singleton]at h1;have h2:i<((((ff.kt.map λs=>ofString s)).map V.str).reverse).length:=(List.getElem?_eq_some_iff.mp hx).1;rw[length_reverse,length_map,length_map]at h2;have h3:=pW ff;have h4:ff.kt.length=ff.sk.length:=by rw[<- kQ,length_map]
    omega
   obtain⟨hl1,hl2,hl3⟩:=hkl;have hkx:∃kx,ff.kt.drop (ff.kt.length - (i+1))=kx::ff.kt.drop (ff.kt.length - i)/\x=V.str (ofString kx):=by
    have e1:ff.kt.length - i=ff.kt.length - (i+1)+1:=by omega
    have hlt:ff.kt.length - (i+1)<ff.kt.length:=by omega
    refine⟨ff.kt[ff.kt.length - (i+1)],by rw[e1];exact drop_eq_getElem_cons hlt,?_⟩;rw[getElem?_reverse (by rw[length_map,length_map];exact hl3),length_map,length_map,getElem?_map,getElem?_map,show ff.kt.length - 1 - i=ff.kt.length - (i+1)by omega,getElem?_eq_getElem hlt]at hx;exact(Option.some.inj hx).symm
   obtain⟨kx,ek,rfl⟩:=hkx;have hs2:H' s=some (.ins J.C_g dxs (fA (ofString k) o (d:Int))):=b2.sx _ _ (by
    have q1:s≠row:=aB hs h1 (by intro z;injection z with _ _ z;cases z);have q2:s≠todo:=aB hs hto (by intro z;cases z);simp[q1,q2]) hs
   have hto2:=b2.todo;simp![tBM,bG,bp,tFld,hs2];refine⟨.inl ⟨rfl,_,SqL.of hto2⟩,T.cl_g,T.n_a1,_,rfl,_,rfl,?_⟩;refine bZ rfl λs2 dx2 H4 hx2 sm2 es2=>⟨_,sm2 _ _ hto2,?_,?_⟩
   ·rw[length_append,length_map,length_reverse]
    exact Nat.lt_of_le_of_lt (show _<=2000 by omega) (by decide)
   refine⟨s2::ss,?_⟩;rw[ek];exact b2.add hto n2 hx2 sm2 es2
  obtain⟨⟨z,rfl⟩,ss,b2⟩:=q;rw[length_map,length_map,Nat.sub_self,drop_zero,<- kQ]at b2;have keep:∀a u,H a=some u->a≠row->a≠todo->H' a=some u:=λa u e q1 q2=>b2.sx _ _ (by simp[q1,q2]) e;have hs2:=keep _ _ hs (aB hs h1 (by intro z;injection z with _ _ z;cases z)) (aB hs hto (by intro z;cases z));have ho2:=keep _ _ ho (aB ho h1 (by intro z;injection z with _ _ z;cases z)) (aB ho hto (by intro z;cases z));have hpl2:=keep _ _ hpl (aB hpl h1 (by intro z;cases z)) n1.symm;refine hX _ _ ⟨n,_,rfl,hs2,ho2,hpl2,?_⟩;have nn:∀a,H a=none->a≠pl:=λa ha z=>by rw[z,hpl]at ha;cases ha
  have su:af [pl] H' (upd H' pl (.lst (ps++[.ref n]))):=af.upd (mem_singleton.mpr rfl);have nt:∀x∈[pl],NT H' x:=λx hx=>by rw[mem_singleton.mp hx];exact .lst hpl2
  have nrp:row≠pl:=aB h1 hpl (by intro z;cases z);have fr2:∀a∈n::wl'::pl'::ss,a∉[pl]:=λa ha=>nin (nn a (b2.fr a ha));exact kk n dx wl' pl' ss _ ((b2.sx.more (by simp)).trans (su.more (by simp))) (b2.row.keep su nt (nin nrp) (nin n3)) (su _ _ (nin n1) b2.todo) (b2.steps.keep (Kp.of su λa ha=>fr2 a (by simp[ha]))) ai
   (su _ _ (fr2 n (by simp)) b2.node) (su _ _ (fr2 wl' (by simp)) b2.words) (su _ _ (fr2 pl' (by simp)) b2.parts) b2.nd b2.fr
 rw[if_neg hk]at kk;rw[if_neg (by rw[aI];simp only[V.str.injEq,bB];exact hk)];have gt:=hg t (mem_cons_self ..);refine bD ?_;simp![cp,eN,gI,h1];refine⟨rfl,la,t,l,hr0,λb htk=>⟨b,t,rfl,htk,gt,?_⟩⟩;cases hx:Vaunid.leafOf t.tok with
 |none=>rw[hx]at kk;exact kk
 |some x =>
 rw[hx]at kk;intro n F H1 sm tr nd fr;have hr1:=hr0.same sm;have hr1':=hr1;refine x_32 hr1' λdx1 as1 i1 q1 q2 q3=>?_;refine⟨_,_,q1,rfl,la,t,l,hr1,λb2 H2 _ sx2 hr2=>?_⟩;have keep:∀a u,H a=some u->a≠row->H2 a=some u:=λa u e q1=>sx2 _ _ (by simp[q1]) (sm _ _ e);have hs2:=keep _ _ hs (aB hs h1 (by intro z;injection z with _ _ z;cases z));have ho2:=keep _ _ ho (aB ho h1 (by intro z;injection z with _ _ z;cases z));have hpl2:=keep _ _ hpl (aB hpl h1 (by intro z;cases z));refine hX _ _ ⟨n,_,rfl,hs2,ho2,hpl2,?_⟩;have su:af [pl] H2 (upd H2 pl (.lst (ps++[.ref n]))):=af.upd (mem_singleton.mpr rfl);have nt:∀x∈[pl],NT H2 x:=λx hx=>by rw[mem_singleton.mp hx];exact .lst hpl2
 have nrp:row≠pl:=aB h1 hpl (by intro z;cases z);have nn:∀a,H a=none->a≠pl/\a≠row:=λa ha=>⟨λz=>(by rw[z,hpl]at ha;cases ha),λz=>(by rw[z,h1]at ha;cases ha)⟩;exact kk n F _ (((af.of sm).trans (sx2.more (by simp))).trans (su.more (by simp))) (hr2.keep su nt (nin nrp) (nin n3)) ai (tr.keep λa ha u e=>su _ _ (nin (nn a (fr a ha)).1) (sx2 _ _ (nin (nn a (fr a ha)).2) e)) nd fr
inductive IGoOn(Ca Ct Cr Cn Cs C:Addr)(H:Hp)(Q:VK)(E:XK):List V->Prop
 |mk (row la todo wh st:Addr) (H0:Hp) (s:MS) (ss own:List Addr) (r:Res MS):Same H0 H->bf Ca Ct Cr H row la s.l->ba s.l->Lv s.fs->Stk Cn Cs H wh s.fs [] (st::ss) own->H todo=some (.lst (ss.reverse.map V.ref))->(row::todo::la::(own++(st::ss))).Nodup->(∀a∈row::todo::own,H0 a=none)->bN s=some r->((match r with
  |.error e=>ExF C E H (e.kind:Int) (e.place:Int)
  |.ok s'=>∀H',AtM Ca Ct Cr Cn Cs H0 H' row la todo wh s'->Q .non H'))->IGoOn Ca Ct Cr Cn Cs C H Q E [.ref row,.ref todo,.ref st]
def zZ(Ca Ct Cr Cn Cs C:Addr):Sp:=λvs H Q E=>IGoOn Ca Ct Cr Cn Cs C H Q E vs
theorem eu:[V.str "part",V.str "body"]=(([Vaunid.txt "part",Vaunid.txt "body"]).map S).map V.str:=by left
theorem ok_as(T:TZ):FX base 6 J.f_as J.d_as ["row","todo","step"] (zZ J.C_e J.C_d J.C_f J.C_a J.C_g J.C_c):=by
 refine T.F_as.fn.okX sc_as λ_ _ _ _ H _ Q E hr h=>?_;obtain⟨row,la,todo,wh,st,H0,⟨fs,l,res⟩,ss,own,r,sm0,hrow,hg,hlv,hstk,hto,hnd,hfr,hst,k⟩:=h;refine⟨_,(ag (aA 3 sc_as.nd (aj (pv 2) rfl))
  (ah (aG (aC dH (aj (pv 2) rfl) (pe_r T.g_C) rfl) (ah (a8 (aD T.F_ai (ok_ai T) hr.m bS (aa (pv 0) (aa (pv 1) (aa (pv 2) ae)))))) (ah (aG (aC bj (aj (pv 2) rfl) aE (aH _)) (ah (a8 (bz pla sla tla bA (aj (pv 3) rfl) (aa (aj (jF (pv 0) T.cl_f T.m_o (lC T) hr.m T.b_o .nil bS (aa aE ae)) rfl) ae)))) (ah (aG (aC bj (aj (pv 2) rfl) aE (aH _)) (ah (a8 (bz pla sla tla bA (aj (pv 3) rfl) (aa (aD T.F_O (ok_O T) hr.m ak (aa (aj (jF (pv 0) T.cl_f T.m_o (lC T) hr.m T.b_o .nil bS (aa aE ae)) rfl) ae)) ae)))) (ah (bw (pv 3) (aj (jF (pv 0) T.cl_f T.m_o (lC T) hr.m T.b_o .nil bS (aa (aj (pv 2) rfl) ae)) rfl) rfl))))))))),?_⟩
 have hr0:=hrow;refine x_32 hrow λdx as i h1 h2 h3=>?_;cases fs with
 |nil=>cases hst
 |cons pf fs =>
 cases l with
 |nil=>cases hst
 |cons t l =>
 refine x_90 hstk.top λn ss1 ss2 zp dxn wl pl as' F zz0=>?_;refine x_13 zz0 λe0 hf hb ess zr13=>?_;subst zr13;have lvs:∀s',bN ⟨pf::fs,t::l,res⟩=some (.ok s')->Lv s'.fs:=λs' e=>xZ hlv e;obtain⟨form,ws,b,ts,ks,c,d⟩:=pf;have gl:ba l:=λk hk=>hg k (mem_cons_of_mem _ hk);have gt:bJ t.tok:=hg t (mem_cons_self ..);have hn:=hf.node;have hw:=hf.words;have hp:=hf.parts;have hstp:=hf.steps;have hnd':=hnd;rw[ess]at hnd';have dj:=ja hnd';have ra:=dj.ra;have ta:=dj.ta;have laa:=dj.laa;simp at ra ta laa;obtain⟨rn,rw',rp⟩:=ra;obtain⟨tn,tw,tp⟩:=ta;obtain⟨lan,law,lap⟩:=laa;have cnt5:=hlv.1;simp only[cnt]at cnt5;obtain⟨kw,krest,ek⟩:∃kw krest,ks.map SK.w++[c]=kw::krest:=by
  cases ks with
  |nil=>exact⟨_,_,rfl⟩
  |cons a r=>exact⟨_,_,rfl⟩
 replace hstp:bX J.C_g H ss1 (ks.map SK.w++[c]) n d:=hstp;rw[ek]at hstp;cases hstp with
 |cons h5 h6 =>
 rename_i st' ss1;obtain⟨dxs,hs⟩:=h5;injection ess with ess1 ess2;subst ess1 ess2;have hc:=hlv.2.1;refine c6 (λσ' H'=>σ'=[some (.ref row),some (.ref todo),some (.ref st),some (.ref n)]/\H=H') (λX hX=>?_) (λσ' H' hh=>?_)
 ·simp![tFld,hs]
  exact⟨T.cl_g,T.n_bj,_,rfl,hX _ _ ⟨rfl,rfl⟩⟩
 obtain⟨rfl,rfl⟩:=hh;refine fm λA1 B1 hA1 hB1=>?_;simp![tFld,hs];refine⟨T.cl_g,T.n_aG,_,rfl,_,.inr (T.t_C H),rfl,rfl,?_⟩;cases ks with
 |nil =>
  injection ek with ek1 ek2;subst ek1 ek2;cases h6;have hc:c=")"\/c="end":=hc;rw[show(V.str (ofString c))=V.str (S (Vaunid.txt c))by rw[aI],eu,in_S,decide_eq_false (by rcases hc with rfl|rfl<;>left)]
  rw[if_neg (by simp)];refine hB1 _ (fm λA2 B2 hA2 hB2=>?_);simp![tFld,hs];refine⟨T.cl_g,T.n_aG,_,rfl,rfl,?_⟩;rw[if_neg (show ¬V.str (ofString c)=V.str (ofString "name")by simp only[V.str.injEq];rcases hc with rfl|rfl<;>left)]
  refine hB2 _ (fm λA3 B3 hA3 hB3=>?_);simp![tFld,hs];refine⟨T.cl_g,T.n_aG,_,rfl,rfl,?_⟩;rw[if_neg (show ¬V.str (ofString c)=V.str (ofString "power")by simp only[V.str.injEq];rcases hc with rfl|rfl<;>left)]
  refine hB3 _ ?_;simp![cp,jr,tFld,sFld,hs,h1];refine⟨rfl,T.cl_g,T.n_aG,_,rfl,la,t,l,Vaunid.txt c,by rw[<- aI],hr0,?_⟩;by_cases hk:kindOf t.tok=Vaunid.txt c
  ·rw[if_pos hk]
   intro b2 H1 ⟨dt,ct,e3,_⟩ sx1 hr1;have hn1:H1 n=some (.ins J.C_a dxn (bh (S form) wl pl (b:Int) (e0:Int))):=sx1 _ _ (nin (Ne.symm rn)) hn;refine⟨J.C_d,dt,_,e3,T.cl_d,T.n_a0,_,rfl,_,_,_,hn1,T.cl_a,T.n_aI,(by show 5<1000;decide),?_⟩;have su:af [n] H1 (upd H1 n (.ins J.C_a dxn (bh (S form) wl pl (b:Int) (t.halt_:Int)))):=af.upd (mem_singleton.mpr rfl);have nt:∀x∈[n],NT H1 x:=λx hx=>by rw[mem_singleton.mp hx];exact .node hn1
   have sxx:af [row,n] H (upd H1 n (.ins J.C_a dxn (bh (S form) wl pl (b:Int) (t.halt_:Int)))):=(sx1.more (by simp)).trans (su.more (by simp));have fin:=yf (e':=t.halt_) (res:=res) sm0 hto hr0 hf hb hnd' hfr sxx (hr1.keep su nt (nin rn) (nin lan)) gl ai;show Q V.non (upd H1 n (.ins J.C_a dxn (bh (S form) wl pl (b:Int) (t.halt_:Int))));cases fs with
   |nil =>
    have hst':bN ⟨[⟨form,ws,b,ts,[],c,d⟩],t::l,res⟩=some (if kindOf t.tok=Vaunid.txt c then .ok ⟨[],l,[PF.done ⟨form,ws,b,ts,[],c,d⟩ t.halt_]⟩else fault 6 t.start):=rfl;rw[hst',if_pos hk]at hst;injection hst with hst;subst hst;exact k _ fin
   |cons g fs =>
   have hst':bN ⟨⟨form,ws,b,ts,[],c,d⟩::g::fs,t::l,res⟩=some (if kindOf t.tok=Vaunid.txt c then .ok ⟨{g with ts:=g.ts++[PF.done ⟨form,ws,b,ts,[],c,d⟩ t.halt_]}::fs,l,res⟩else fault 6 t.start):=rfl;have lv2:=lvs _ (by rw[hst',if_pos hk]);rw[hst',if_pos hk]at hst;injection hst with hst;subst hst;exact k _ (fin lv2)
  rw[if_neg hk];have hst':∃z,bN ⟨⟨form,ws,b,ts,[],c,d⟩::fs,t::l,res⟩=some (if kindOf t.tok=Vaunid.txt c then z else fault 6 t.start):=⟨_,rfl⟩;obtain⟨z,hst'⟩:=hst';rw[hst',if_neg hk]at hst;injection hst with hst;subst hst;exact k
 |cons kk ks =>
 injection ek with ek1 ek2;subst ek1 ek2;rw[length_cons]at cnt5;cases kk with
 |n =>
  rw[show(V.str (ofString SK.n.w))=V.str (S (Vaunid.txt "name"))by rw[aI];rfl,eu,in_S,decide_eq_false (by left)];rw[if_neg (by simp)];refine hB1 _ (fm λA2 B2 hA2 hB2=>?_);simp![tFld,hs];refine⟨T.cl_g,T.n_aG,_,rfl,rfl,?_⟩;rw[if_pos (show V.str (ofString SK.n.w)=V.str (ofString "name")from rfl)];refine hA2 _ ?_;simp![cp,jr,tFld,tBM,bG,hs,h1];refine⟨_,_,_,hn,T.cl_a,T.n_aC,_,rfl,(show tyV K "list" (.ref wl) _ from .inl ⟨rfl,_,SqL.of hw⟩),rfl,la,t,l,Vaunid.txt "name",aI _,hr0,?_⟩;have hst':bN ⟨⟨form,ws,b,ts,.n::ks,c,d⟩::fs,t::l,res⟩=some (if kindOf t.tok=Vaunid.txt "name"then .ok ⟨⟨form,ws++[fu t.tok],b,ts,ks,c,d⟩::fs,l,res⟩else fault 6 t.start):=rfl;rw[hst']at hst;injection hst with hst;by_cases hk:kindOf t.tok=Vaunid.txt "name"
  ·rw[if_pos hk]at hst ⊢
   rw[if_pos hk]at hst';subst hst;have lv2:=lvs _ hst';intro b2 H1 htk sx1 hr1;obtain⟨wd,e1,e2⟩:=(iY gt).mp hk;refine x_21 htk λdt ct e3 e4=>?_;rw[e1]at e4;have ec:ct=V.str (S wd):=e4;have hw1:H1 wl=some (.lst ((ws.map S).map V.str)):=sx1 _ _ (nin (Ne.symm rw')) hw;refine⟨J.C_d,dt,_,e3,T.cl_d,T.n_aK,_,rfl,_,rfl,_,hw1,?_,?_⟩
   ·rw[length_map,length_map]
    exact Nat.lt_of_le_of_lt (show ws.length<=5 by omega) (by decide)
   rw[ec];refine k _ ?_;have su:af [wl] H1 (upd H1 wl (.lst ((ws.map S).map V.str++[.str (S wd)]))):=af.upd (mem_singleton.mpr rfl);have nt:∀x∈[wl],NT H1 x:=λx hx=>by rw[mem_singleton.mp hx];exact .lst hw1
   have sxx:af [row,n,wl,pl] H (upd H1 wl (.lst ((ws.map S).map V.str++[.str (S wd)]))):=(sx1.more (by simp)).trans (su.more (by simp));have s2:af [row,wl] H (upd H1 wl (.lst ((ws.map S).map V.str++[.str (S wd)]))):=(sx1.more (by simp)).trans (su.more (by simp));refine k8 (as':=as') (G:=[]) (e':=e0) sm0 hto hr0 hf hb hnd' hfr sxx (hr1.keep su nt (nin rw') (nin law)) gl lv2 (s2 _ _ (by simp;exact⟨Ne.symm rn,dj.nw⟩) hn) ?_ (s2 _ _ (by simp;exact⟨Ne.symm rp,Ne.symm dj.wp⟩) (by rw[hp,append_nil])) ?_ .nil (by simp) h6
   ·rw[ai,e1]
    simp only[fu,map_append,map_cons,map_nil]
   rw[append_nil];exact hf.trees.keep λa ha o q=>sxx a o (λm=>dj.out a (by simp[ha]) (by simp at m ⊢;rcases m with h|h|h|h<;>simp[h])) q
  rw[if_neg hk]at hst ⊢;subst hst;exact k
 |pw =>
  rw[show(V.str (ofString SK.pw.w))=V.str (S (Vaunid.txt "power"))by rw[aI];rfl,eu,in_S,decide_eq_false (by left)];rw[if_neg (by simp)];refine hB1 _ (fm λA2 B2 hA2 hB2=>?_);simp![tFld,hs];refine⟨T.cl_g,T.n_aG,_,rfl,rfl,?_⟩;rw[if_neg (show ¬V.str (ofString SK.pw.w)=V.str (ofString "name")by simp only[V.str.injEq];left)];refine hB2 _ (fm λA3 B3 hA3 hB3=>?_);simp![tFld,hs];refine⟨T.cl_g,T.n_aG,_,rfl,rfl,?_⟩;rw[if_pos (show V.str (ofString SK.pw.w)=V.str (ofString "power")from rfl)];refine hA3 _ ?_;simp![cp,jr,tFld,tBM,bG,hs,h1];refine⟨_,_,_,hn,T.cl_a,T.n_aC,_,rfl,(show tyV K "list" (.ref wl) _ from .inl ⟨rfl,_,SqL.of hw⟩),rfl,la,t,l,Vaunid.txt "digit",aI _,hr0,?_⟩;have hst':bN ⟨⟨form,ws,b,ts,.pw::ks,c,d⟩::fs,t::l,res⟩=some (if kindOf t.tok=Vaunid.txt "digit"then .ok ⟨⟨form,ws++[eI t.tok],b,ts,ks,c,d⟩::fs,l,res⟩else fault 6 t.start):=rfl;rw[hst']at hst;injection hst with hst;by_cases hk:kindOf t.tok=Vaunid.txt "digit"
  ·rw[if_pos hk]at hst ⊢
   rw[if_pos hk]at hst';subst hst;have lv2:=lvs _ hst';intro b2 H1 htk sx1 hr1;obtain⟨v,m,e1⟩:=(kR gt).mp hk;refine x_21 htk λdt ct e3 e4=>?_;rw[e1]at e4 gt;obtain⟨am,ec,ha⟩:=e4;have glit:i' v:=⟨gt.1,gt.2.1,gt.2.2.1⟩;have hw1:H1 wl=some (.lst ((ws.map S).map V.str)):=sx1 _ _ (nin (Ne.symm rw')) hw;refine⟨J.C_d,dt,_,e3,T.cl_d,T.n_aK,_,rfl,am,v,by rw[ec],ha,glit,_,rfl,_,hw1,?_,?_⟩
   ·rw[length_map,length_map]
    exact Nat.lt_of_le_of_lt (show ws.length<=5 by omega) (by decide)
   refine k _ ?_;have su:af [wl] H1 (upd H1 wl (.lst ((ws.map S).map V.str++[.str (S (shownLit v))]))):=af.upd (mem_singleton.mpr rfl);have nt:∀x∈[wl],NT H1 x:=λx hx=>by rw[mem_singleton.mp hx];exact .lst hw1
   have sxx:af [row,n,wl,pl] H (upd H1 wl (.lst ((ws.map S).map V.str++[.str (S (shownLit v))]))):=(sx1.more (by simp)).trans (su.more (by simp));have s2:af [row,wl] H (upd H1 wl (.lst ((ws.map S).map V.str++[.str (S (shownLit v))]))):=(sx1.more (by simp)).trans (su.more (by simp));refine k8 (as':=as') (G:=[]) (e':=e0) sm0 hto hr0 hf hb hnd' hfr sxx (hr1.keep su nt (nin rw') (nin law)) gl lv2 (s2 _ _ (by simp;exact⟨Ne.symm rn,dj.nw⟩) hn) ?_ (s2 _ _ (by simp;exact⟨Ne.symm rp,Ne.symm dj.wp⟩) (by rw[hp,append_nil])) ?_ .nil (by simp) h6
   ·rw[ai,e1]
    simp only[eI,map_append,map_cons,map_nil]
   rw[append_nil];exact hf.trees.keep λa ha o q=>sxx a o (λm=>dj.out a (by simp[ha]) (by simp at m ⊢;rcases m with h|h|h|h<;>simp[h])) q
  rw[if_neg hk]at hst ⊢;subst hst;exact k
 |p bb =>
 rw[show(V.str (ofString (SK.p bb).w))=V.str (S (Vaunid.txt (SK.p bb).w))by rw[aI],eu,in_S,decide_eq_true (by cases bb<;>left)]
 rw[if_pos rfl];refine hA1 _ ?_;simp![tRet];have zr:((ss1++ss2).reverse.map V.ref).length<=1000:=by
  have q1:=hb.len hlv.2.2.2.2;have q2:=hf.steps.length;have q3:=hlv.2.2.1;have q4:=hlv.2.2.2.1;rw[length_map,length_reverse,length_append];simp only[length_append,length_map,length_cons,length_nil]at q2 q3 q4;omega
 refine⟨row,la,todo,st,n,dxn,wl,pl,(SK.p bb).w,d,t,l,_,as'.map V.ref,S form,(b:Int),(e0:Int),⟨dxs,hs⟩,hr0,hg,hto,zr,hn,by rw[hp,append_nil],?_,tp,Ne.symm dj.tla,lap,?_⟩
 ·rw[length_map,hf.trees.length]
  show ts.length<=100;omega
 have hst':bN ⟨⟨form,ws,b,ts,.p bb::ks,c,d⟩::fs,t::l,res⟩=(if d=40 then some (fault 8 t.start)
   else if kindOf t.tok=Vaunid.txt "("then(if l.isEmpty=true then none else some (.ok ⟨ee t.start (d+1) l::⟨form,ws,b,ts,ks,c,d⟩::fs,(aK l).2,res⟩))
   else match Vaunid.leafOf t.tok with
    |some x=>some (.ok ⟨⟨form,ws,b,ts++[gB t x],ks,c,d⟩::fs,l,res⟩)
    |none=>some (fault 6 t.start)):=rfl
 rw[hst']at hst;by_cases hd:d=40
 ·rw[if_pos hd]at hst ⊢
  injection hst with hst;subst hst;exact k
 rw[if_neg hd]at hst hst' ⊢;by_cases hk:kindOf t.tok=Vaunid.txt "("
 ·rw[if_pos hk]at hst hst' ⊢
  by_cases hl:l.isEmpty=true
  ·rw[if_pos hl]at hst
   cases hst
  rw[if_neg hl]at hst hst';injection hst with hst;subst hst;have lv2:=lvs _ hst';refine⟨λz=>hl (by rw[z];rfl),λn' dx' wl' pl' ss' H' sx hr' hto' st' pa' no' wo' pp' nd' fr'=>k H' ?_⟩;have gb:ba (aK l).2:=by
   obtain⟨pre,epre⟩:=kX l;rw[epre]at gl;exact gl.suf
  exact ye (pn:=ee t.start (d+1) l) (e':=t.start) sm0 hto hr0 hf hb hnd' hfr lv2 sx hr' gb hto' st' pa' no' wo' pp' rfl rfl nd' fr' rfl rfl rfl rfl h6
 rw[if_neg hk]at hst hst' ⊢;cases hx:Vaunid.leafOf t.tok with
 |none =>
  rw[hx]at hst;injection hst with hst;subst hst;exact k
 |some x =>
 rw[hx]at hst hst';injection hst with hst;subst hst;have lv2:=lvs _ hst';intro n' F' H' sx hr' pa' tr' nd' fr';have out:∀a,a∉[row,n,wl,pl]->a∉[row,pl]:=λa m z=>m (by simp at z ⊢;rcases z with h|h<;>simp[h])
 refine k H' (k8 (as':=as'++[n']) (G:=F') (e':=e0) sm0 hto hr0 hf hb hnd' hfr (sx.more (by simp)) hr' gl lv2 (sx _ _ (by simp;exact⟨Ne.symm rn,dj.np⟩) hn) (sx _ _ (by simp;exact⟨Ne.symm rw',dj.wp⟩) hw) (by rw[pa',map_append];rfl) ?_ nd' fr' h6);exact(hf.trees.keep λa ha o q=>sx a o (λm=>dj.out a (by simp[ha]) (by simp at m ⊢;rcases m with h|h<;>simp[h])) q).snoc tr'
end
section
variable{base:Heap}
def rF(Cn:Addr):Sp:=λvs H Q _=>∃(a:Addr) (tr:Tr) (F:List Addr),vs=[.ref a]/\TreeAt Cn H a tr F/\(aQ 1 tr).length<=100000/\∀(p:Addr) (items:List Addr) (H':Hp),Same H H'->H' p=some (.lst (items.map V.ref))->Paired (cy Cn H H') items (aQ 1 tr)->Q (.ref p) H'
theorem cy.keep{Cn:Addr}{H H1 H2:Hp}{xs:List Addr}(sx:af xs H1 H2)(nt:∀x∈xs,∃l,H1 x=some (.lst l)){it:Addr}{p:Nat×Tr}(h:cy Cn H H1 it p):cy Cn H H2 it p:=by
 obtain⟨a,F,e,t⟩:=h;refine⟨a,F,sx _ _ (λm=>?_) e,t⟩;obtain⟨l,q⟩:=nt _ m;rw[q]at e;cases e
theorem gJ{A B:Type}{R:A->B->Prop}{l l2:List A}{m m2:List B}(h:Paired R l m)(q:Paired R l2 m2):Paired R (l++l2) (m++m2):=by
 induction h with
 |nil=>exact q
 |cons r t ih=>exact .cons r ih
theorem ok_Q(T:TZ):FO base 1 J.f_Q J.d_Q ["term"] (rF J.C_a):=by
 refine T.F_Q.fn.ok sc_Q λ_ _ _ _ H _ Q E hr h=>?_;obtain⟨a,tr,F,rfl,htr,zr,k⟩:=h;refine⟨_,(ag (aA 1 sc_Q.nd (aR ae))
  (ag (aA 2 sc_Q.nd (aR (aa (cY (aa (pv 0) (aa au ae))) ae)))
  (ag (df PassesOwn.never (eX (pv 2) (λ_=>rfl)) (ag (aA 3 sc_Q.nd (fb pla slp tlp fe (pv 2)))
  (ag (a8 (bz pla sla tla bA (pv 1) (aa (pv 3) ae)))
  (ah (dD PassesOwn.never rfl (fU rfl T.b_reversed (aa (aj (aJ bM (pv 3) au (λ_ _=>rfl)) rfl) ae)) (pg_q 4 sc_Q.nd) (ah (a8 (bz pla sla tla bA (pv 2) (aa (cY (aa (pv 4) (aa (aY cn (aJ bM (pv 3) au (λ_ _=>rfl)) au) ae))) ae)))))))))
  (ah (az (pv 1)))))),?_⟩
 refine bD ?_;simp![tRet];refine⟨zero_le _,λfd hfd=>bD ?_⟩;simp![tRet];refine⟨by decide,λit0 hit0=>⟨by decide,λtd htd=>?_⟩⟩;have nf:fd≠it0:=λz=>by rw[z,ai]at hit0;cases hit0
 have hit00:H it0=none:=by rw[ao (Ne.symm nf)]at hit0;exact hit0
 have ntd:td≠it0:=λz=>by rw[z,ai]at htd;cases htd
 have ntf:td≠fd:=λz=>by rw[ao ntd,z,ai]at htd;cases htd
 have htd0:H td=none:=by rw[ao ntd,ao ntf]at htd;exact htd
 obtain⟨Pv,hPv⟩:∃Pv:Nat->L2.St->Hp->Prop,Pv=λm σ H'=>Same H H'/\∃(dn sk:List Addr) (dl sl:List (Nat×Tr)) (z z2:Option V),m=(cj sl).length/\σ=[some (.ref a),some (.ref fd),some (.ref td),z,z2]/\H' fd=some (.lst (dn.map V.ref))/\H' td=some (.lst (sk.map V.ref)) /\
  Paired (cy J.C_a H H') dn dl/\Paired (cy J.C_a H H') sk sl/\aQ 1 tr=dl++cj sl:=⟨_,rfl⟩
 refine bD (dv Pv _ (by
  rw[hPv];refine⟨?_,[],[it0],[],[(1,tr)],none,none,rfl,rfl,?_,ai,.nil,.cons ⟨a,F,?_,htr⟩ .nil,?_⟩
  ·exact(Same.upd hfd).trans ((Same.upd hit0).trans (Same.upd htd))
  ·rw[ao (Ne.symm ntf),ao nf]
   exact ai
  ·rw[ao (Ne.symm ntd)]
   exact ai
  show aQ 1 tr=[]++cj ([]++[(1,tr)]);rw[jb];show _=aQ 1 tr++[];rw[append_nil]) λm σ H' hp=>?_)
 rw[hPv]at hp;obtain⟨sm,dn,sk,dl,sl,z,z2,rfl,rfl,hf,ht,pd,ps,hfl⟩:=hp;simp![tRet];by_cases hsk:sk=[]
 ·subst hsk
  cases ps;refine⟨false,.inl ⟨_,SqL.of ht,rfl⟩,?_⟩;rw[if_neg (by simp)];rw[show cj []=[]from rfl,append_nil]at hfl;exact k fd dn H' sm hf (by rw[hfl];exact pd)
 refine⟨true,.inl ⟨_,SqL.of ht,by cases sk with|nil=>exact absurd rfl hsk|cons _ _=>rfl⟩,?_⟩;rw[if_pos rfl];refine⟨_,λ_ _ z=>z,?_⟩;obtain⟨sk',it,sl',⟨d,t⟩,rfl,rfl,ps',hit⟩:=lj ps hsk;obtain⟨n,Fn,hitv,htn⟩:=hit;have hlens:dn.length<=100000/\sk'.length<=100000/\sk'.length+t.parts.length<=100000:=by
  have q1:=Paired.length pd;have q2:=Paired.length ps';have q3:=yh (sl'++(t.parts.reverse.map λx=>(d+1,x)));rw[lh,length_append,length_map,length_reverse]at q3;rw[hfl,length_append,jb,length_append]at zr;have q4:aQ d t=(d,t)::bO (d+1) t.parts:=by cases t;rfl
  rw[q4,length_cons]at zr;rw[length_append]at q3;omega
 obtain⟨hl1,hl2,hl3⟩:=hlens;have ht':H' td=some (.lst (sk'.map V.ref++[.ref it])):=by rw[ht,map_append];rfl
 refine bD ?_;simp![tBM0,rPop];refine⟨.inl ⟨rfl,_,SqL.of ht⟩,_,ht',V.ref it,by simp,?_⟩;rw[dropLast_concat];have sx1:af [td] H' (upd H' td (.lst (sk'.map V.ref))):=af.upd (mem_singleton.mpr rfl);have e1:upd H' td (.lst (sk'.map V.ref)) td=some (.lst (sk'.map V.ref)):=ai;generalize upd H' td (.lst (sk'.map V.ref))=H1 at sx1 e1 ⊢;have hf1:=sx1 _ _ (nin (Ne.symm ntf)) hf;refine bD ?_;simp![tBM,bG];refine⟨.inl ⟨rfl,_,SqL.of hf1⟩,_,hf1,by rw[length_map];exact Nat.lt_of_le_of_lt hl1 (by decide),?_⟩;have sx2:af [fd] H1 (upd H1 fd (.lst (dn.map V.ref++[.ref it]))):=af.upd (mem_singleton.mpr rfl);have e2:upd H1 fd (.lst (dn.map V.ref++[.ref it])) fd=some (.lst (dn.map V.ref++[.ref it])):=ai;have e12:=sx2 _ _ (nin ntf) e1;generalize upd H1 fd (.lst (dn.map V.ref++[.ref it]))=H2 at sx2 e2 e12 ⊢;have sx12:af [fd,td] H' H2:=(sx1.more (by simp)).trans (sx2.more (by simp));have nt12:∀x∈[fd,td],∃l,H' x=some (.lst l):=λx hx=>by
  rcases mem_cons.mp hx with rfl|hx
  ·exact⟨_,hf⟩
  rw[mem_singleton.mp hx];exact⟨_,ht⟩
 have pd2:Paired (cy J.C_a H H2) dn dl:=Paired.mapP pd λ_ _ q=>q.keep sx12 nt12;have ps2:Paired (cy J.C_a H H2) sk' sl':=Paired.mapP ps' λ_ _ q=>q.keep sx12 nt12;have it2:cy J.C_a H H2 it (d,t):=cy.keep sx12 nt12 ⟨n,Fn,hitv,htn⟩;obtain⟨n',Fn',hitv2,_⟩:=it2;have hn':n'=n:=by
  have:=sx12 _ _ (λm=>by
   obtain⟨l,q⟩:=nt12 _ m;rw[q]at hitv;cases hitv) hitv
  rw[this]at hitv2;cases hitv2;rfl
 subst hn';have sm2:Same H H2:=sx12.base sm (λx hx=>by
  rcases mem_cons.mp hx with rfl|hx
  ·exact hfd
  rw[mem_singleton.mp hx];exact htd0)
 cases htn with
 |@mk _ dxn wl pl f ws b e as ps3 G t1 t2 t3 t4 =>
 have t1':=sm2 _ _ t1;have t3':=sm2 _ _ t3;refine dy ?_;simp![iRev,tFld];refine⟨_,SqT.of hitv2,_,rfl,_,rfl,_,_,_,t1',T.cl_a,T.n_aF,_,rfl,_,rfl,_,SqL.of t3',?_⟩;refine gA (as.map V.ref) (λi σ H3=>(∃z2,σ=[some (.ref a),some (.ref fd),some (.ref td),some (.ref it),z2])/\af [td] H2 H3/\∃nw,H3 td=some (.lst ((sk'++nw).map V.ref))/\Paired (cy J.C_a H H3) nw ((ps3.reverse.take i).map λt=>(d+1,t)))
  ⟨⟨_,rfl⟩,λ_ _ _ q=>q,[],by rw[append_nil];exact e12,.nil⟩ (λi σ H3 _ q=>SqL.of (q.2.1 _ _ (nin (aF t3 htd0)) t3')) (λi x σ H3 hx q=>?_) λσ H3 q=>?_
 ·obtain⟨⟨z2,rfl⟩,sx3,nw,hnw,pnw⟩:=q
  have hit3:=sx3 _ _ (nin (aB hitv2 e12 (by intro z;cases z))) hitv2;rw[<- map_reverse,getElem?_map]at hx;cases qa:as.reverse[i]? with
  |none=>rw[qa]at hx;cases hx
  |some c =>
  rw[qa]at hx;cases hx;have hil:i<as.length:=by
   have:=(List.getElem?_eq_some_iff.mp qa).1;rw[length_reverse]at this;exact this
  have hal:=t4.length;rw[getElem?_reverse hil]at qa;obtain⟨tc,Gc,hc1,hc2⟩:=t4.get qa;have hnl:nw.length=i:=by
   have:=Paired.length pnw;rw[length_map,length_take,length_reverse]at this;omega
  simp![tSeq,tBM,bG];refine⟨.inl ⟨rfl,_,SqL.of hnw⟩,_,SqT.of hit3,_,rfl,_,rfl,by decide,λq hq=>?_⟩;have s4:Same H3 (upd H3 q (.tup [.ref c,.int ((d:Int)+1)])):=Same.upd hq;have e4:upd H3 q (.tup [.ref c,.int ((d:Int)+1)]) q=some (.tup [.ref c,.int ((d:Int)+1)]):=ai;generalize upd H3 q (.tup [.ref c,.int ((d:Int)+1)])=H4 at s4 e4 ⊢;have hnw4:=s4 _ _ hnw;have sx5:af [td] H4 (upd H4 td (.lst ((sk'++nw).map V.ref++[.ref q]))):=af.upd (mem_singleton.mpr rfl);have nt5:∀x∈[td],∃l,H4 x=some (.lst l):=λx hx=>by rw[mem_singleton.mp hx];exact⟨_,hnw4⟩
  refine⟨_,hnw4,?_,sx3.trans ((af.of s4).trans sx5),nw++[q],?_,?_⟩
  ·rw[length_map,length_append]
   have:(Tr.mk f ws b e ps3).parts.length=ps3.length:=rfl;exact Nat.lt_of_le_of_lt (show _<=100000 by omega) (by decide)
  ·rw[<- append_assoc,map_append (l₁:=sk'++nw)]
   rfl
  have hr:ps3.reverse[i]? = some tc:=by rw[getElem?_reverse (by omega),<- hal];exact hc1
  rw[take_succ,hr,map_append (f:=λt=>(d+1,t))];refine cS (Paired.mapP pnw λ_ _ q=>(q.keep (af.of (xs:=[]) s4) (by simp)).keep sx5 nt5) ?_;exact cy.keep sx5 nt5 ⟨c,Gc,e4,hc2⟩
 obtain⟨⟨z2,rfl⟩,sx3,nw,hnw,pnw⟩:=q;have hal:=t4.length;rw[length_map,hal,<- length_reverse,take_length]at pnw;have nt3:∀x∈[td],∃l,H2 x=some (.lst l):=λx hx=>by rw[mem_singleton.mp hx];exact⟨_,e12⟩
 refine⟨(cj (sl'++(ps3.reverse.map λt=>(d+1,t)))).length,?_,?_⟩
 ·rw[lh,jb]
  show _<((d,Tr.mk f ws b e ps3)::bO (d+1) ps3++cj sl').length;rw[cons_append,length_cons];exact lt_succ_self _
 rw[hPv];refine⟨sx3.base sm2 (λx hx=>by rw[mem_singleton.mp hx];exact htd0),dn++[it],sk'++nw,dl++[(d,.mk f ws b e ps3)],_,_,_,rfl,rfl,?_,hnw,?_,?_,?_⟩
 ·rw[sx3 _ _ (nin (Ne.symm ntf)) e2,map_append]
  rfl
 ·exact cS (Paired.mapP pd2 λ_ _ q=>q.keep sx3 nt3) (cy.keep sx3 nt3 ⟨n',_,hitv2,.mk t1 t2 t3 t4⟩)
 ·exact gJ (Paired.mapP ps2 λ_ _ q=>q.keep sx3 nt3) pnw
 rw[hfl,lh,jb,append_assoc];rfl
def rG(Cn C:Addr):Sp:=λvs H Q E=>∃(a:Addr) (tr:Tr) (F:List Addr),vs=[.ref a]/\TreeAt Cn H a tr F/\(aQ 1 tr).length<=100000/\(match limT 0 (aQ 1 tr)with
 |none=>∀H',Same H H'->Q .non H'
 |some (k,b)=>ExF C E H (k:Int) (b:Int))
theorem ok_I(T:TZ):FX base 3 J.f_I J.d_I ["term"] (rG J.C_a J.C_c):=by
 refine T.F_I.fn.okX sc_I λ_ _ _ _ H _ Q E hr h=>?_;obtain⟨a,tr,F,rfl,htr,zr,k⟩:=h;refine⟨_,(ah (dD iC rfl (uD rfl T.b_enumerate (aa (aD T.F_Q (ok_Q T) hr.m ak (aa (pv 0) ae)) ae)) (sY rfl (l5 (pg_q 1 sc_I.nd) (l5 (pg_q 2 sc_I.nd) sX))) (ag (aG (aC dE (aJ bM (pv 2) au (λ_ _=>rfl)) (pe_g T.g_aP) (aH _)) (ah (dN T.X_c (ok_c T) hr.m rfl T.G_c T.b_m dP rfl (aa au (aa (aj (aJ bM (pv 2) au (λ_ _=>rfl)) rfl) ae)))) aP)
  (ah (aG (aC bj (pv 1) (pe_g T.g_a2) (aH _)) (ah (dN T.X_c (ok_c T) hr.m rfl T.G_c T.b_m dP rfl (aa au (aa (aj (aJ bM (pv 2) au (λ_ _=>rfl)) rfl) ae)))) aP))))),?_⟩
 refine dy ?_;simp![tSeq,rF,ni];refine⟨tr,F,htr,zr,λp items H1 s1 hp hit=>⟨_,SqL.of hp,?_⟩⟩;refine xk (items.map V.ref) (λi σ H2=>Same H1 H2/\(∃z1 z2,σ=[some (.ref a),z1,z2])/\limT 0 (aQ 1 tr)=limT i ((aQ 1 tr).drop i)) ⟨Same.refl _,⟨_,_,rfl⟩,rfl⟩ (λi σ H2 _ q=>SqL.of (q.1 _ _ hp)) (λi x σ H2 A hx q hA=>?_) λσ H2 q=>?_
 ·obtain⟨sm,⟨z1,z2,rfl⟩,hlim⟩:=q
  rw[getElem?_map]at hx;cases qa:items[i]? with
  |none=>rw[qa]at hx;cases hx
  |some it =>
  rw[qa]at hx;cases hx;obtain⟨⟨d,t⟩,hd,n,G,hit1,htn⟩:=h8 hit qa;have hdr:(aQ 1 tr).drop i=(d,t)::(aQ 1 tr).drop (i+1):=by
   obtain⟨hlt,e⟩:=List.getElem?_eq_some_iff.mp hd;rw[drop_eq_getElem_cons hlt,e]
  rw[hdr]at hlim;have hlim':limT i ((d,t)::(aQ 1 tr).drop (i+1))=if 40<d then some (8,t.b)else if i=300 then some (9,t.b)else limT (i+1) ((aQ 1 tr).drop (i+1)):=rfl;rw[hlim']at hlim;have s3:Same H2 (upd H2 A (.tup [.int (i:Nat),.ref it])):=Same.upd hA;have e3:upd H2 A (.tup [.int (i:Nat),.ref it]) A=some (.tup [.int (i:Nat),.ref it]):=ai;generalize upd H2 A (.tup [.int (i:Nat),.ref it])=H3 at s3 e3 ⊢;have sm3:=sm.trans s3;have hit3:=sm3 _ _ hit1;have htn3:=htn.same (s1.trans sm3);simp![tSeq,gTup,lZ,gNil,dq,tFld];have hnode:∃dxn f wl pl e,H3 n=some (.ins J.C_a dxn (bh f wl pl (t.b:Int) e)):=by
   cases htn3 with
   |@mk _ dxn wl pl f ws b e as ps3 G t1 t2 t3 t4=>exact⟨dxn,_,wl,pl,_,t1⟩
  obtain⟨dxn,f,wl,pl,e,hn⟩:=hnode;refine⟨_,SqT.of e3,rfl,_,_,rfl,_,_,rfl,rfl,_,rfl,_,SqT.of hit3,_,rfl,_,rfl,?_⟩;by_cases h40:40<d
  ·rw[if_pos h40]at hlim
   rw[hlim]at k;rw[if_pos (show(40:Int)<(d:Int)by omega)];exact⟨_,rfl,_,SqT.of hit3,_,rfl,_,rfl,_,_,_,hn,T.cl_a,T.n_aH,_,rfl,by decide,dz (k.mono (s1.trans sm3))⟩
  rw[if_neg h40]at hlim;rw[if_neg (show ¬(40:Int)<(d:Int)by omega)];refine⟨rfl,?_⟩;by_cases h300:i=300
  ·rw[if_pos h300]at hlim
   rw[hlim]at k;rw[if_pos (by rw[h300];rfl)];exact⟨_,rfl,_,SqT.of hit3,_,rfl,_,rfl,_,_,_,hn,T.cl_a,T.n_aH,_,rfl,by decide,dz (k.mono (s1.trans sm3))⟩
  rw[if_neg h300]at hlim;rw[if_neg (by simp only[V.int.injEq];omega)];exact⟨sm3,hlim⟩
 obtain⟨sm,⟨z1,z2,rfl⟩,hlim⟩:=q;have e1:items.length=(aQ 1 tr).length:=Paired.length hit;rw[length_map,e1,drop_length]at hlim;rw[hlim]at k;exact k H2 (s1.trans sm)
def cW(Cn:Addr)(x:Term)(v:V)(H:Hp):Prop:=∃(b:Addr) (tr:Tr) (F:List Addr),v=.ref b/\Rep x tr/\TreeAt Cn H b tr F/\(aQ 1 tr).length<=300/\dR tr<=40/\GT x
def rH(Cn C:Addr)(K:Frag):Sp:=λvs H Q E=>∃(a:Addr) (t:List Nat),vs=[.ref a]/\SqL K H a (bs t)/\t.length<=10000/\RES C H Q E (readCore t) (cW Cn)
theorem lE(tr:Tr):(aQ 1 tr).length=(c8 tr).length:=by rw[<- k9 1 tr,length_map]
theorem lF:∀(n p:Nat) (s:List Nat) (l:List Vaunid.Token),tokens true n p s=.ok l->l.length<=s.length
 |n,p,[],l,h=>by
  have:l=[]:=by cases n<;>(cases h;rfl)
  subst this;simp
 |0,p,c::r,l,h=>by
  cases h;simp
 |n+1,p,c::r,l,h=>by
  unfold tokens at h;rw[length_cons];split at h
  ·have:=lF n _ r l h
   omega
  split at h
  ·rename_i hz
   cases hz.1
  cases q:token true p (c::r)with
  |error e=>rw[q]at h;cases h
  |ok x =>
  obtain⟨k,s⟩:=x;rw[q]at h;dsimp only at h;have tf:=gv q;have hs:s.length<=r.length:=by
   have h3:=tf.lt;rw[tf.rest,length_drop,length_cons];omega
  cases q2:tokens true n k.halt_ s with
  |error e=>rw[q2]at h;cases h
  |ok l2 =>
  rw[q2]at h;cases h;have:=lF n _ s l2 q2;rw[length_cons];omega
theorem ok_t(T:TZ):FX base 12 J.f_t J.d_t ["text"] (rH J.C_a J.C_c K):=by
 refine T.F_t.fn.okX sc_t λ_ _ _ _ H _ Q E hr h=>?_;obtain⟨a,t,rfl,ht,hl,k⟩:=h;refine⟨_,(ag (aA 1 sc_t.nd (bF T.M_f (ok_f T) hr.m rfl T.G_f T.b_B .nil ak (aa (aD T.F_az (ok_az T) hr.m bS (aa (pv 0) ae)) (aa (bx cZ rfl T.b_len PySem.boot_len (aa (pv 0) ae)) ae))))
  (ag (aA 2 sc_t.nd (bF T.M_a (ok_a T) hr.m rfl T.G_a T.b_n .nil ak (aa aE (aa (aR ae) (aa (aR ae) (aa au (aa au ae)))))))
  (ag (aA 3 sc_t.nd (aR (aa (bF T.M_g (ok_g T) hr.m rfl T.G_g T.b_v .nil ak (aa aE (aa (pv 2) (aa au ae)))) (aa (bF T.M_g (ok_g T) hr.m rfl T.G_g T.b_v .nil ak (aa aE (aa (pv 2) (aa au ae)))) ae))))
  (ag (df iC (eX (pv 3) (λ_=>rfl)) (ah (a8 (aD T.F_as (ok_as T) hr.m bS (aa (pv 1) (aa (pv 3) (aa (fb pla slp tlp fe (pv 3)) ae)))))))
  (ag (aA 4 sc_t.nd (aJ bu (aj (pv 2) rfl) au (λ_ _=>rfl)))
  (ag (a8 (aD T.F_I (ok_I T) hr.m bS (aa (pv 4) ae)))
  (ah (az (pv 4))))))))),?_⟩
 refine bD ?_;simp![rC,bp];rw[w8]at k;refine⟨t,ht,hl,?_⟩;cases qt:allTokens true t with
 |error e=>rw[qt]at k;exact k
 |ok l =>
 rw[qt]at k;intro v H1 s1 ⟨b,as,ev,hb,hto⟩;subst ev;refine⟨bs t,.inl (s1.seq ht),?_⟩;rw[cg];have gts:=kY _ _ _ _ hl qt;have ltk:=lF _ _ _ _ qt;have las:as.length=l.length:=Paired.length hto;have run:∃R n,Run (fz t.length l) R n/\(match R with
   |.error e=>ExF J.C_c E H (e.kind:Int) (e.place:Int)
   |.ok wt=>∃x tr e,wt=.mk (Vaunid.txt "whole") [] 0 e [tr]/\Rep x tr/\dR tr<=40/\(c8 tr).length<=10000/\(if 300<(c8 tr).length then ExF J.C_c E H 9 (((c8 tr).getD 300 0:Nat):Int)else ∀v H',Same H H'->cW J.C_a x v H'->Q v H')):=by
  have wr:=xM t.length l (λk hk=>(gts k hk).1) (λk hk=>(gts k hk).2);dsimp only at k;cases qc:bC t.length 40 l with
  |error e =>
   rw[qc]at wr k;obtain⟨n,hn⟩:=wr;exact⟨_,n,hn,k⟩
  |ok v =>
  obtain⟨x,pl,r⟩:=v;rw[qc]at wr k;cases r with
  |cons k0 r =>
   obtain⟨n,hn⟩:=wr;exact⟨_,n,hn,k⟩
  |nil =>
  obtain⟨tr,n,e,w1,w2,w3,w4,w5⟩:=wr;refine⟨_,n,w5,x,tr,e,rfl,w1,w3,by rw[w2];omega,?_⟩;rw[w2];dsimp only at k;by_cases h3:300<pl.length
  ·rw[if_pos h3]at k ⊢
   exact k
  rw[if_neg h3]at k ⊢;exact k
 obtain⟨R,n0,hrun,hR⟩:=run;intro row dxr hrow0 hdxr hner;have sA:=bW (o1:=HO.own row) (o2:=HO.ins J.C_f dxr []) hrow0 hdxr;refine⟨row,dxr,b,as,l,t.length,ai,sA _ _ hb,by omega,Paired.mapP hto λ_ _ z=>z.same sA,λla H2 hla sx2 hr2=>⟨rfl,bD ?_⟩⟩;simp![bp];refine⟨zero_le _,λwl hwl=>⟨zero_le _,λpl hpl=>?_⟩⟩;have s12:Same H1 H2:=sx2.base sA (λx hx=>by rw[mem_singleton.mp hx];exact hrow0);have hla1:H1 la=none:=none_of sA hla;have s02:=s1.trans s12;have s3:Same H2 (upd H2 wl (.lst [])):=Same.upd hwl;have e3:upd H2 wl (.lst []) wl=some (.lst []):=ai;generalize upd H2 wl (.lst [])=H3 at s3 e3 hpl ⊢;have s4:Same H3 (upd H3 pl (.lst [])):=Same.upd hpl;have e4:upd H3 pl (.lst []) pl=some (.lst []):=ai;generalize upd H3 pl (.lst [])=H4 at s4 e4 ⊢;refine bZ rfl λwh dxw H5 hwh s5 e5=>bD ?_;simp![bp];refine bZ rfl λst0 dx0 H6 hst0 s6 e6=>?_;refine bZ rfl λst1 dx1 H7 hst1 s7 e7=>⟨by decide,λtodo htd=>?_⟩;have s8:Same H7 (upd H7 todo (.lst [.ref st0,.ref st1])):=Same.upd htd;have e8:upd H7 todo (.lst [.ref st0,.ref st1]) todo=some (.lst [.ref st0,.ref st1]):=ai;generalize upd H7 todo (.lst [.ref st0,.ref st1])=H8 at s8 e8 ⊢;have hr2':=hr2;obtain⟨dxr2,asr,ir,r1,r2,r3⟩:=hr2';have s28:Same H2 H8:=s3.trans (s4.trans (s5.trans (s6.trans (s7.trans s8))));have s58:Same H5 H8:=s6.trans (s7.trans s8);have nd:(row::todo::la::([wh,wl,pl]++[st1,st0])).Nodup:=by
  have x1:row≠la:=aB r1 r2 (by intro z;cases z);have y2:∀x,H2 x=none->row≠x/\la≠x:=λx hx=>⟨aF r1 hx,aF r2 hx⟩;have x2:=y2 wl hwl;have x3:=y2 pl (none_of s3 hpl);have x4:=y2 wh (none_of (s3.trans s4) hwh);have x5:=y2 st0 (none_of (s3.trans (s4.trans s5)) hst0);have x6:=y2 st1 (none_of (s3.trans (s4.trans (s5.trans s6))) hst1);have x7:=y2 todo (none_of (s3.trans (s4.trans (s5.trans (s6.trans s7)))) htd);have z1:wl≠pl:=aF e3 hpl;have z2:wl≠wh:=aF (s4 _ _ e3) hwh;have z3:pl≠wh:=aF e4 hwh;have z4:wl≠st0:=aF (s5 _ _ (s4 _ _ e3)) hst0;have z5:pl≠st0:=aF (s5 _ _ e4) hst0;have z6:wh≠st0:=aF e5 hst0;have z7:wl≠st1:=aF (s6 _ _ (s5 _ _ (s4 _ _ e3))) hst1;have z8:pl≠st1:=aF (s6 _ _ (s5 _ _ e4)) hst1;have z9:wh≠st1:=aF (s6 _ _ e5) hst1;have z10:st0≠st1:=aF e6 hst1;have z11:wl≠todo:=aF (s7 _ _ (s6 _ _ (s5 _ _ (s4 _ _ e3)))) htd;have z12:pl≠todo:=aF (s7 _ _ (s6 _ _ (s5 _ _ e4))) htd;have z13:wh≠todo:=aF (s7 _ _ (s6 _ _ e5)) htd;have z14:st0≠todo:=aF (s7 _ _ e6) htd;have z15:st1≠todo:=aF e7 htd;simp[x1,x2,x3,x4,x5,x6,x7,z1,z2,z3,z4,z5,z6,z7,z8,z9,z10,z11,z12,z13,z14,z15,Ne.symm z1,Ne.symm z2,Ne.symm z3,Ne.symm z4,Ne.symm z5,Ne.symm z6,Ne.symm z7,Ne.symm z8,Ne.symm z9,Ne.symm z10,Ne.symm z11,Ne.symm z12,Ne.symm z13,Ne.symm z14,Ne.symm z15,Ne.symm x7.1,Ne.symm x7.2]
 have at0:AtM J.C_e J.C_d J.C_f J.C_a J.C_g H H8 row la todo wh (fz t.length l):=by
  refine⟨s02.trans s28,hr2.same s28,ba.sent (λk hk=>(gts k hk).1) _,?_,.inl ⟨by simp[fz],[st1,st0],[wh,wl,pl],.bot (e:=0) (dx:=dxw) (wl:=wl) (pl:=pl) (as:=[]) (F:=[]) ⟨?_,?_,?_,.nil,.cons ⟨dx1,?_⟩ (.cons ⟨dx0,?_⟩ .nil)⟩,e8,nd,?_⟩⟩
  ·exact⟨by show 0+0+1<=5;decide,.inr rfl,rfl,zero_le _,trivial⟩
  ·show H8 wh=some (.ins J.C_a dxw (bh (S (Vaunid.txt "whole")) wl pl 0 0))
   rw[<- aI];exact s58 _ _ e5
  ·exact s58 _ _ (s5 _ _ (s4 _ _ e3))
  ·exact s58 _ _ (s5 _ _ e4)
  ·exact s8 _ _ e7
  ·exact s8 _ _ (s7 _ _ e6)
  have q1:=none_of s1 hrow0;have q2:=none_of s02 hwl;have q3:=none_of (s02.trans s3) hpl;have q4:=none_of (s02.trans (s3.trans s4)) hwh;have q5:=none_of (s02.trans (s3.trans (s4.trans (s5.trans (s6.trans s7))))) htd;intro x hx;simp only[mem_cons,not_mem_nil,or_false]at hx;rcases hx with rfl|rfl|rfl|rfl|rfl<;>assumption
 obtain⟨Pv,hPv⟩:∃Pv:Nat->L2.St->Hp->Prop,Pv=λm σ H'=>σ=[some (.ref a),some (.ref row),some (.ref wh),some (.ref todo),none]/\∃s,AtM J.C_e J.C_d J.C_f J.C_a J.C_g H H' row la todo wh s/\Run s R m:=⟨_,rfl⟩;refine bD (dv Pv n0 (by rw[hPv];exact⟨rfl,_,at0,hrun⟩) λm σ H' hp=>?_);rw[hPv]at hp;obtain⟨rfl,s,hat,hrn⟩:=hp;simp![tRet];rcases hat.frames with⟨hne,ss,own,hstk,htd',hnd,hfr⟩|⟨hnil,htd',wt,F,hres,htree⟩
 ·obtain⟨fs,l',res⟩:=s
  cases fs with
  |nil=>exact absurd rfl hne
  |cons pf fs =>
  obtain⟨n,ss1,ss2,zp,dxn,wln,pln,as',Fn,en,hf,hbel,ess,eown⟩:=hstk.top;have hss:∃st ss',ss=st::ss':=by
   have q:=hf.steps.length;rw[length_append,length_singleton]at q;cases ss1 with
   |nil=>simp at q
   |cons st ss1=>exact⟨st,ss1++ss2,ess⟩
  obtain⟨st,ss',rfl⟩:=hss;have htd2:H' todo=some (.lst (ss'.reverse.map V.ref++[.ref st])):=by
   rw[htd',reverse_cons,map_append];rfl
  refine⟨true,.inl ⟨_,SqL.of htd2,by simp⟩,?_⟩;rw[if_pos rfl];refine⟨_,λ_ _ z=>z,?_⟩;simp![tBM0,rPop];refine⟨.inl ⟨rfl,_,SqL.of htd2⟩,_,htd2,V.ref st,by simp,?_⟩;rw[dropLast_concat];have su:af [todo] H' (upd H' todo (.lst (ss'.reverse.map V.ref))):=af.upd (mem_singleton.mpr rfl);have nt:∀x∈[todo],NT H' x:=λx hx=>by rw[mem_singleton.mp hx];exact .lst htd2
  have hnd2:=hnd;simp only[nodup_cons,mem_cons,not_or]at hnd2;have hst:∃r,bN ⟨pf::fs,l',res⟩=some r/\(match r with
    |.error e=>R=.error e
    |.ok s'=>∃m',m=m'+1/\Run s' R m'):=by
   cases hrn with
   |bad h=>exact⟨_,h,rfl⟩
   |go h h2=>exact⟨_,h,_,rfl,h2⟩
  obtain⟨r,hr1,hr2⟩:=hst;refine⟨row,la,todo,wh,st,H,⟨pf::fs,l',res⟩,ss',own,r,su.base hat.same (λx hx=>by rw[mem_singleton.mp hx];exact hfr _ (by simp)),hat.rowAt.keep su nt (nin hnd2.1.1) (nin (Ne.symm hnd2.2.1.1)),hat.goods,hat.lv,hstk.keep (Kp.of su λx hx=>nin λz=>hnd2.2.1.2 (by rw[<- z];exact hx)),ai,hnd,hfr,hr1,?_⟩;cases r with
  |error e =>
   have e1:R=.error e:=hr2;rw[e1]at hR;exact ExF.mono hR (su.base hat.same (λx hx=>by rw[mem_singleton.mp hx];exact hfr _ (by simp)))
  |ok s' =>
  obtain⟨m',e1,h2⟩:=hr2;intro H'' at'';refine⟨m',by omega,?_⟩;rw[hPv];exact⟨rfl,s',at'',h2⟩
 refine⟨false,.inl ⟨_,SqL.of htd',rfl⟩,?_⟩;rw[if_neg (by simp)];obtain⟨fs,l',res⟩:=s;have hnil:fs=[]:=hnil;have hres:res=[wt]:=hres;subst hnil hres;have e1:R=.ok wt:=by
  cases hrn with
  |done=>rfl
  |bad h=>cases h
  |go h h2=>cases h
 rw[e1]at hR;have hwb:GR wt:=yK hrun ⟨allc ⟨by left,all0,all0⟩ all0,ba.sent (λk hk=>(gts k hk).1) _,all0⟩ wt e1;obtain⟨x,tr,e,rfl,hrep,hdeep,hbl,hfin⟩:=hR;have hwx:GT x:=by
  cases hwb with
  |mk _ h=>exact yF hrep (h _ (mem_cons_self ..))
 cases htree with
 |@mk _ dxn wl2 pl2 f ws b2 e2 as2 ps2 G t1 t2 t3 t4 =>
 cases t4 with
 |@cons ac tc F1 G1 as3 ts3 c1 c2 =>
 cases c2;simp![tSeq,tFld,rG,t1];have hlow:=qj (aQ 1 tr) 0 (by omega) (λp hp=>by have:=qf 1 tr p hp;omega);rw[k9,sub_zero,zero_add,lE]at hlow;refine⟨T.cl_a,T.n_aF,_,rfl,_,rfl,_,SqL.of t3,_,rfl,ac,rfl,tr,_,c1,by rw[lE];exact Nat.le_trans hbl (by decide),?_⟩;rw[hlow];by_cases h3:300<(c8 tr).length
 ·rw[if_pos h3]at hfin ⊢
  exact ExF.mono hfin hat.same
 rw[if_neg h3]at hfin ⊢;intro H9 s9;exact hfin _ H9 (hat.same.trans s9) ⟨ac,tr,_,rfl,hrep,c1.same s9,by rw[lE];omega,hdeep,hwx⟩
end
section
variable{base:Heap}
def PcAt(Cn:Addr)(H:Hp)(v:V):Pc Term->Prop
 |.inl w=>v=.str (S w)
 |.inr t=>∃(a:Addr) (tr:Tr) (F:List Addr),v=.ref a/\Rep t tr/\TreeAt Cn H a tr F
def CtAt(Cn:Addr)(H H':Hp)(it:Addr)(c:SK×Pc Term):Prop:=∃v,H' it=some (.tup [.str (ofString c.1.w),v])/\PcAt Cn H v c.2
theorem CtAt.keep{Cn:Addr}{H H1 H2:Hp}{xs:List Addr}(sx:af xs H1 H2)(nt:∀x∈xs,∃l,H1 x=some (.lst l)){it:Addr}{c:SK×Pc Term}(h:CtAt Cn H H1 it c):CtAt Cn H H2 it c:=by
 obtain⟨v,e,t⟩:=h;refine⟨v,sx _ _ (λm=>?_) e,t⟩;obtain⟨l,q⟩:=nt _ m;rw[q]at e;cases e
def js(Cn:Addr):Sp:=λvs H Q _=>∃(a:Addr) (x:Term) (tr:Tr) (F:List Addr) (H0:Hp),vs=[.ref a]/\Same H0 H/\Rep x tr/\TreeAt Cn H0 a tr F/\∀(p:Addr) (zw:List Addr) (H':Hp),H p=none->Same H H'->H' p=some (.lst (zw.map V.ref))->Paired (CtAt Cn H0 H') zw (aL x)->Q (.ref p) H'
theorem rJ{xs:List Term}{ts:List Tr}(h:Reps xs ts){i:Nat}{x:Term}(e:xs[i]? = some x):∃t,ts[i]? = some t/\Rep x t:=
 Reps.rec (motive_1:=λ_ _ _=>True) (motive_2:=λxs ts _=>∀(i:Nat) (x:Term),xs[i]? = some x->∃t,ts[i]? = some t/\Rep x t) (λ_ _=>trivial) (λi x h=>by simp at h) (λh1 _ _ ih i x h=>by
  cases i with
  |zero=>cases h;exact⟨_,rfl,h1⟩
  |succ i=>exact ih i x h) h i x e
theorem Reps.length{xs:List Term}{ts:List Tr}(h:Reps xs ts):xs.length=ts.length:=
 Reps.rec (motive_1:=λ_ _ _=>True) (motive_2:=λxs ts _=>xs.length=ts.length) (λ_ _=>trivial) rfl (λ_ _ _ ih=>congrArg (· + 1) ih) h
theorem z0{Cn:Addr}{H:Hp}{as:List Addr}{ts:List Tr}{F:List Addr}(h:TreesAt Cn H as ts F){i:Nat}{t:Tr}(e:ts[i]? = some t):∃a G,as[i]? = some a/\TreeAt Cn H a t G:=
 TreesAt.rec (motive_1:=λ_ _ _ _=>True) (motive_2:=λas ts _ _=>∀(i:Nat) (t:Tr),ts[i]? = some t->∃a G,as[i]? = some a/\TreeAt Cn H a t G) (λ_ _ _ _ _=>trivial) (λi a h=>by simp at h) (λh1 _ _ ih i a h=>by
  cases i with
  |zero=>cases h;exact⟨_,_,rfl,h1⟩
  |succ i=>exact ih i a h) h i t e
theorem lG{A:Type}{l:List A}{i:Nat}{x:A}{r:List A}(h:l.drop i=x::r):l[i]? = some x/\l.drop (i+1)=r:=by
 constructor
 ·have:=List.getElem?_drop (xs:=l) (i:=i) (j:=0)
  rw[h]at this;exact this.symm
 rw[<- drop_drop,h];rfl
theorem rK{l:List (List Nat)}{i:Nat}{x:List Nat}(h:l[i]? = some x):((l.map S).map V.str)[i]? = some (.str (S x)):=by
 rw[getElem?_map,getElem?_map,h];rfl
theorem cb{t u:TS}{D:Ends}{σ:L2.St}{H:Hp}(h:t {D with nx:=u D} σ H):tSeq t u D σ H:=h
theorem once{G A:Hp->Prop}{R:Prop}(u:(∀H,A H->G H)->R)(t:∀H,A H->G H):R:=u t
theorem gK{A B:Type}{R:A->B->Prop}{l:List A}{m:List B}(h:Paired R l m):Paired R l.reverse m.reverse:=by
 induction h with
 |nil=>exact .nil
 |cons r t ih =>
 rw[reverse_cons,reverse_cons];exact cS ih r
theorem ok_z(T:TZ):FO base 1 J.f_z J.d_z ["node"] (js J.C_a):=by
 refine T.F_z.fn.ok sc_z λ_ _ _ _ H _ Q E hr h=>?_;obtain⟨a,x,tr,F,H0,rfl,s0,hrep,htr,k⟩:=h;obtain⟨ad,md,sq,tu⟩:=T.t_b;refine⟨_,(ag (aA 1 sc_z.nd (aR ae))
  (ag (aA 2 sc_z.nd au)
  (ag (dD PassesOwn.never rfl (tj (xo (pe_r T.g_b) (aj (pv 0) rfl) (cY ae) ⟨rfl,rfl,rfl,rfl⟩)) (pg_q 3 sc_z.nd) (ah (aG (aC dH (pv 3) (pe_r T.g_C) rfl) (ah (a8 (bz pla sla tla bA (pv 1) (aa (cY (aa (pv 3) (aa (aJ bu (aj (pv 0) rfl) (aY gQ (bx cZ rfl T.b_len PySem.boot_len (aa (pv 1) ae)) (pv 2)) (λ_ _=>rfl)) ae))) ae)))) (ag (a8 (bz pla sla tla bA (pv 1) (aa (cY (aa (pv 3) (aa (aJ bu (aj (pv 0) rfl) (pv 2) (λ_ _=>rfl)) ae))) ae)))
  (ah (l6 (i:=2) sc_z.nd rfl (Or.inl rfl) au l7))))))
  (ah (az (pv 1)))))),?_⟩
 simp![tSeq];refine⟨zero_le _,λfd hfd=>?_⟩;have s1:Same H (upd H fd (.lst [])):=Same.upd hfd;have e1:upd H fd (.lst []) fd=some (.lst []):=ai;generalize upd H fd (.lst [])=H1 at s1 e1 ⊢;cases hrep with
 |@mk _ b e ps hps =>
 cases htr with
 |@mk _ dxn wl pl _ _ _ _ as _ G t1 t2 t3 t4 =>
 have s01:=s0.trans s1;have t1':=s01 _ _ t1;refine dy ?_;simp![tSeq,pL,tFld,t1'];refine⟨_,md,T.cl_a,T.n_aD,_,rfl,zero_le _,λp0 hp0=>?_⟩;have s2:Same H1 (upd H1 p0 (.tup [])):=Same.upd hp0;have e2:upd H1 p0 (.tup []) p0=some (.tup []):=ai;generalize upd H1 p0 (.tup [])=H2 at s2 e2 ⊢;have e12:=s2 _ _ e1;have kinds:∃kt,(cR (c9 ad) (S (a9 x))).getD (.ref p0)=.ref kt/\∀H',af [fd] H2 H'->SqT K H' kt ((skX x).map λk=>V.str (ofString k.w)):=by
  unfold skX;cases hf:fmX x with
  |none =>
   refine⟨p0,?_,λH' sx=>SqT.of (sx _ _ (nin (aB e2 e12 (by intro z;cases z))) e2)⟩;cases x with
   |leaf l =>
    have:=pQ ad (Vaunid.txt (dB l));rw[yp]at this;show(cR (c9 ad) (S (Vaunid.txt (dB l)))).getD (.ref p0)=_;cases q:cR (c9 ad) (S (Vaunid.txt (dB l)))with
    |none=>rfl
    |some v=>rw[q]at this;cases this
   |_=>cases hf
  |some f =>
  refine⟨ad f,?_,λH' _=>?_⟩
  ·rw[gC hf,<- aI,pO]
   rfl
  have:=sq f H';rw[<- kQ,map_map,map_map]at this;exact this
 obtain⟨kt,ekt,hkt⟩:=kinds;refine⟨_,rfl,kt,ekt,⟨_,hkt _ λ_ _ _ q=>q⟩,?_⟩;obtain⟨Pv,hPv⟩:∃Pv:Nat->L2.St->Hp->Prop,Pv=λi σ H3=>∃(zw:List Addr) (dl:List (SK×Pc Term)) (wi pi:Nat) (z:Option V),σ=[some (.ref a),some (.ref fd),some (.int (wi:Int)),z]/\af [fd] H2 H3/\H3 fd=some (.lst (zw.map V.ref))/\zw.length=i/\i=wi+pi/\Paired (CtAt J.C_a H0 H3) zw dl /\
  aL x=dl++cU ((skX x).drop i) ((aM x).drop wi) ((aX x).drop pi)/\Fits ((skX x).drop i) ((aM x).drop wi) ((aX x).drop pi):=⟨_,rfl⟩
 refine tD (xs:=(skX x).map λk=>V.str (ofString k.w)) Pv (by rw[hPv];exact⟨[],[],0,0,none,rfl,λ_ _ _ q=>q,e12,rfl,rfl,.nil,gD x,yo x⟩) (λi σ H3 _ q=>?_) (λi v σ H3 hx q=>?_) λσ H3 q=>?_
 ·rw[hPv]at q
  obtain⟨zw,dl,wi,pi,z,rfl,sx3,hfd3,_⟩:=q;exact hkt _ sx3
 ·rw[hPv]at q
  obtain⟨zw,dl,wi,pi,z,rfl,sx3,hfd3,hil,hwp,pd,hc,ft⟩:=q;rw[getElem?_map]at hx;cases qk:(skX x)[i]? with
  |none=>rw[qk]at hx;cases hx
  |some kk =>
  rw[qk]at hx;cases hx;obtain⟨hlt,ek⟩:=List.getElem?_eq_some_iff.mp qk;have hd:(skX x).drop i=kk::(skX x).drop (i+1):=by rw[drop_eq_getElem_cons hlt,ek]
  rw[hd]at hc ft;have nfd:∀{b:Addr}{o:HO},H0 b=some o->H3 b=some o:=λ{b o} q=>sx3 _ _ (nin (aF q (none_of s0 hfd))) (s2 _ _ (s01 _ _ q));have t1'':=nfd t1;have t2'':=nfd t2;have t3'':=nfd t3;have hfl:zw.length<=1000:=by
   have:(skX x).length<=5:=by
    unfold skX;cases fmX x with
    |none=>exact zero_le _
    |some f=>cases f<;>decide
   omega
  have hsl:(zw.map V.ref).length<sizeLine:=by rw[length_map];exact Nat.lt_of_le_of_lt hfl (by decide)
  have fin:∀(v:V) (pc:Pc Term) (wi' pi':Nat),PcAt J.C_a H0 v pc->aL x=dl++(kk,pc)::cU ((skX x).drop (i+1)) ((aM x).drop wi') ((aX x).drop pi')->Fits ((skX x).drop (i+1)) ((aM x).drop wi') ((aX x).drop pi')->i+1=wi'+pi'->∀q,H3 q=none ->
    ∃zx,upd H3 q (.tup [.str (ofString kk.w),v]) fd=some (.lst zx)/\zx.length<sizeLine/\Pv (i+1) [some (.ref a),some (.ref fd),some (.int (wi':Int)),some (.str (ofString kk.w))] (upd (upd H3 q (.tup [.str (ofString kk.w),v])) fd (.lst (zx++[.ref q]))):=by
   intro v pc wi' pi' hv hc' ft' hw' q hq;have s4:Same H3 (upd H3 q (.tup [.str (ofString kk.w),v])):=Same.upd hq;have e4:upd H3 q (.tup [.str (ofString kk.w),v]) q=some (.tup [.str (ofString kk.w),v]):=ai;generalize upd H3 q (.tup [.str (ofString kk.w),v])=H4 at s4 e4 ⊢;have hfd4:=s4 _ _ hfd3;have sx5:af [fd] H4 (upd H4 fd (.lst (zw.map V.ref++[.ref q]))):=af.upd (mem_singleton.mpr rfl);have nt5:∀x∈[fd],∃l,H4 x=some (.lst l):=λx hx=>by rw[mem_singleton.mp hx];exact⟨_,hfd4⟩
   refine⟨_,hfd4,hsl,?_⟩;rw[hPv];refine⟨zw++[q],dl++[(kk,pc)],wi',pi',_,rfl,sx3.trans ((af.of s4).trans sx5),?_,?_,hw',cS (Paired.mapP pd λ_ _ z=>(z.keep (af.of (xs:=[]) s4) (by simp)).keep sx5 nt5) (CtAt.keep sx5 nt5 ⟨v,e4,hv⟩),?_,ft'⟩
   ·rw[ai,map_append]
    rfl
   ·rw[length_append,hil]
    rfl
   rw[hc',append_assoc];rfl
  simp![tSeq,ck,tBM,bG,tFld,t1''];refine⟨_,.inr (T.t_C H3),rfl,rfl,?_⟩;cases kk with
  |p bb =>
   generalize hD:(aX x).drop pi=D at ft hc;cases ft with
   |@part _ _ _ t ts ft =>
   obtain⟨hg,hg2⟩:=lG hD;obtain⟨tt,htt,hrt⟩:=rJ hps hg;obtain⟨ac,Gc,hac,hct⟩:=z0 t4 htt;have f1:=fin (.ref ac) (.inr t) wi (pi+1) ⟨ac,tt,Gc,rfl,hrt,hct⟩ (by rw[hc,hg2];rfl) (by rw[hg2];exact ft) (by omega);have e5:inV (V.str (ofString (SK.p bb).w)) [V.str (ofString "part"),V.str (ofString "body")]=true:=by
    rw[aI,eu,in_S,decide_eq_true (by cases bb<;>left)]
   rw[e5,if_pos rfl];refine⟨.inl ⟨rfl,_,SqL.of hfd3⟩,T.cl_a,T.n_aF,_,rfl,_,.inl (SqL.of hfd3),_,rfl,_,SqL.of t3'',.ref ac,?_,by decide,f1⟩;rw[length_map,hil,show((i:Nat):Int) - (wi:Int)=(pi:Int)by omega];exact cf (by rw[getElem?_map,hac];rfl)
  |n =>
   generalize hD:(aM x).drop wi=D at ft hc;cases ft with
   |@name _ wd ws _ ft =>
   obtain⟨hg,hg2⟩:=lG hD;have f1:=fin (.str (S wd)) (.inl wd) (wi+1) pi rfl (by rw[hc,hg2];rfl) (by rw[hg2];exact ft) (by omega);have e5:inV (V.str (ofString SK.n.w)) [V.str (ofString "part"),V.str (ofString "body")]=false:=by
    rw[aI,eu,in_S,decide_eq_false (by left)]
   rw[e5,if_neg (by simp)];refine⟨.inl ⟨rfl,_,SqL.of hfd3⟩,T.cl_a,T.n_aC,_,rfl,_,rfl,_,SqL.of t2'',.str (S wd),cf (rK hg),by decide,?_⟩;rw[show((wi:Int)+1)=((wi+1:Nat):Int)by omega];exact f1
  |pw =>
  generalize hD:(aM x).drop wi=D at ft hc;cases ft with
  |@pow _ wd ws _ ft =>
  obtain⟨hg,hg2⟩:=lG hD;have f1:=fin (.str (S wd)) (.inl wd) (wi+1) pi rfl (by rw[hc,hg2];rfl) (by rw[hg2];exact ft) (by omega);have e5:inV (V.str (ofString SK.pw.w)) [V.str (ofString "part"),V.str (ofString "body")]=false:=by
   rw[aI,eu,in_S,decide_eq_false (by left)]
  rw[e5,if_neg (by simp)];refine⟨.inl ⟨rfl,_,SqL.of hfd3⟩,T.cl_a,T.n_aC,_,rfl,_,rfl,_,SqL.of t2'',.str (S wd),cf (rK hg),by decide,?_⟩;rw[show((wi:Int)+1)=((wi+1:Nat):Int)by omega];exact f1
 rw[hPv]at q;obtain⟨zw,dl,wi,pi,z,rfl,sx3,hfd3,hil,hwp,pd,hc,ft⟩:=q;rw[length_map,drop_length]at hc;simp only[cU,append_nil]at hc;simp![tSeq];exact k fd zw H3 hfd (sx3.base (s1.trans s2) λx hx=>by rw[mem_singleton.mp hx];exact hfd) hfd3 (by rw[hc];exact pd)
end
section
variable{base:Heap}
def Aa(Cn:Addr):Sp:=λvs H Q _=>∃(a:Addr) (x:Term) (tr:Tr) (F:List Addr) (H0:Hp),vs=[.ref a]/\Same H0 H/\Rep x tr/\TreeAt Cn H0 a tr F/\∀(p:Addr) (us:List V) (H':Hp),H p=none->Same H H'->H' p=some (.lst us)->Paired (PcAt Cn H0) us (pcsX x)->Q (.ref p) H'
theorem Ab:[V.str "name",V.str "number"]=(([Vaunid.txt "name",Vaunid.txt "number"]).map S).map V.str:=by left
theorem Ac(f:Fm)(c:List (Pc Term)):(c.foldl bc (pcs0 f)).length<=2+2*c.length:=by
 have:∀(l zx:List (Pc Term)),(l.foldl bc zx).length<=zx.length+2*l.length:=by
  intro l
  induction l with
  |nil=>intro zx;simp
  |cons y r ih =>
  intro zx;have h:=ih (bc zx y);have h2:(bc zx y).length<=zx.length+2:=by
   unfold bc;split<;>simp
  rw[foldl_cons,length_cons];omega
 refine Nat.le_trans (this c _) ?_;have:(pcs0 (A:=Term) f).length<=2:=by
  unfold pcs0;split<;>simp
 omega
theorem ok_S(T:TZ):FO base 2 J.f_S J.d_S ["node"] (Aa J.C_a):=by
 refine T.F_S.fn.ok sc_S λ_ _ _ _ H _ Q E hr h=>?_;obtain⟨a,x,tr,F,H0,rfl,s0,hrep,htr,k⟩:=h;refine⟨_,(ag (aG (aC dH (aj (pv 0) rfl) (pe_r T.g_X) rfl) (ah (az (aR (aa (aJ bu (aj (pv 0) rfl) au (λ_ _=>rfl)) ae)))) aP)
  (ag (aG (aC dH (aj (pv 0) rfl) (pe_r T.g_H) rfl) (ah (az (aR (aa (aj (pv 0) rfl) ae)))) aP)
  (ag (aA 1 sc_S.nd (aR (aa aE ae)))
  (ag (aG (aC eU (aj (pv 0) rfl) aE (aH _)) (ah (a8 (bz pla sla tla bA (pv 1) (aa (aj (pv 0) rfl) ae)))) aP)
  (ag (dD PassesOwn.never rfl (jz (aD T.F_z (ok_z T) hr.m ak (aa (pv 0) ae))) (pg_q 2 sc_S.nd) (ag (aG (aC dE (bx cZ rfl T.b_len PySem.boot_len (aa (pv 1) ae)) au (aH _)) (ah (a8 (bz pla sla tla bA (pv 1) (aa aE ae)))) aP)
  (ah (a8 (bz pla sla tla bA (pv 1) (aa (aJ bM (pv 2) au (λ_ _=>rfl)) ae))))))
  (ag (a8 (bz pla sla tla bA (pv 1) (aa aE ae)))
  (ah (az (pv 1))))))))),?_⟩
 have hrep':=hrep;have htr':=htr;cases hrep with
 |@mk _ b e ps hps =>
 cases htr with
 |@mk _ dxn wl pl _ _ _ _ as _ G t1 t2 t3 t4 =>
 have t1':=s0 _ _ t1;have t2':=s0 _ _ t2;refine cb ?_;simp![tFld,t1'];refine⟨T.cl_a,T.n_aD,_,rfl,_,.inr (T.t_X H),rfl,rfl,?_⟩;rw[Ab,in_S];cases hf:fmX x with
 |none =>
  cases x with
  |leaf l =>
   have k':∀(wd:List Nat),wd=shownLeaf l->∀p,H p=none->Q (.ref p) (upd H p (.lst [.str (S wd)])):=λwd e p hp=>k p _ _ hp (Same.upd hp) ai (.cons (by rw[e];rfl) .nil);have plain:¬a9 (.leaf l)∈[Vaunid.txt "name",Vaunid.txt "number"]->a9 (.leaf l)∈[Vaunid.txt "true",Vaunid.txt "false",Vaunid.txt "nil"]/\a9 (.leaf l)=shownLeaf l:=by
    intro hn;cases l with
    |name y=>exact absurd (show Vaunid.txt "name"∈_ by simp) hn
    |num v=>exact absurd (show Vaunid.txt "number"∈_ by simp) hn
    |truth b=>cases b<;>exact⟨by simp[a9,dB],rfl⟩
    |nil=>exact⟨by simp[a9,dB],rfl⟩
   by_cases hsp:a9 (.leaf l)∈[Vaunid.txt "name",Vaunid.txt "number"]
   ·rw[decide_eq_true hsp,if_pos rfl]
    have hw:∃wd,aM (.leaf l)=[wd]/\wd=shownLeaf l:=by
     cases l with
     |name y=>exact⟨y,rfl,rfl⟩
     |num v=>exact⟨_,rfl,rfl⟩
     |truth b=>cases b<;>exact absurd hsp (by left)
     |nil=>exact absurd hsp (by left)
    obtain⟨wd,hw1,hw2⟩:=hw;rw[hw1]at t2';exact⟨T.cl_a,T.n_aC,_,rfl,_,rfl,_,SqL.of t2',.str (S wd),rfl,by decide,k' wd hw2⟩
   obtain⟨p1,p2⟩:=plain hsp;rw[decide_eq_false hsp,if_neg (by simp)];refine cb ?_;simp![tFld,t1'];refine⟨T.cl_a,T.n_aD,_,rfl,_,.inr (T.t_H H),rfl,rfl,?_⟩;rw[lD,in_S,decide_eq_true p1,if_pos rfl];exact⟨T.cl_a,T.n_aD,_,rfl,by decide,k' _ p2⟩
  |_=>cases hf
 |some f =>
 have ef:=gC hf;have hno:∀f:Fm,¬Vaunid.txt f.word∈[Vaunid.txt "name",Vaunid.txt "number"]/\¬Vaunid.txt f.word∈[Vaunid.txt "true",Vaunid.txt "false",Vaunid.txt "nil"]/\(Vaunid.txt f.word=Vaunid.txt "apply"↔f=.app):=by
  intro f;cases f<;>left
 rw[ef,decide_eq_false (hno f).1,if_neg (by simp)];refine cb ?_;simp![tFld,t1'];refine⟨T.cl_a,T.n_aD,_,rfl,_,.inr (T.t_H H),rfl,rfl,?_⟩;rw[ef,lD,in_S,decide_eq_false (hno f).2.1,if_neg (by simp)];refine cb ?_;simp![tRet];refine⟨by decide,λp hp=>?_⟩;have s1:Same H (upd H p (.lst [.str (ofString "(")])):=Same.upd hp;have e1:upd H p (.lst [.str (ofString "(")]) p=some (.lst [.str (ofString "(")]):=ai;generalize upd H p (.lst [.str (ofString "(")])=H1 at s1 e1 ⊢;have t11:=s1 _ _ t1';rw[ef]at t11;have epc:pcsX x=((aL x).map (·.2)).foldl bc (pcs0 f)++[.inl [41]]:=by
  unfold pcsX;rw[hf]
 refine c6 (λσ' H2=>σ'=[some (.ref a),some (.ref p),none]/\∃us0:List V,af [p] H H2/\H2 p=some (.lst us0)/\Paired (PcAt J.C_a H0) us0 (pcs0 f)) (λX hX=>?_) (λσ' H2 hh=>?_)
 ·simp![tFld,t11,tBM,bG]
  refine⟨T.cl_a,T.n_aD,_,rfl,rfl,?_⟩;by_cases happ:f=.app
  ·rw[if_neg (by subst happ;decide)]
   exact hX _ _ ⟨rfl,_,af.of s1,e1,by subst happ;exact .cons (by rw[aI];rfl) .nil⟩
  rw[if_pos (by simp only[V.str.injEq,S_eq,Bool.not_eq_true',decide_eq_false_iff_not];exact λz=>happ ((hno f).2.2.mp z))];refine⟨.inl ⟨rfl,_,SqL.of e1⟩,T.cl_a,T.n_aD,_,rfl,_,e1,by decide,?_⟩;refine hX _ _ ⟨rfl,_,?_,ai,?_⟩
  ·exact(af.of s1).trans (af.upd (mem_singleton.mpr rfl))
  unfold pcs0;rw[if_neg happ];exact .cons (by rw[aI];rfl) (.cons rfl .nil)
 clear s1 e1 t11;clear H1;obtain⟨rfl,us0,sx1,e1,pc0⟩:=hh
 rename Hp=>H1
 refine cb ?_;have sH:Same H H1:=sx1.base (Same.refl _) λy hy=>by rw[mem_singleton.mp hy];exact hp
 refine dy ?_;simp![js];refine⟨x,_,_,H0,s0.trans sH,hrep',htr',λc zw H2 hc s2 ec pits=>?_⟩;have ncp:c≠p:=λz=>by rw[z,e1]at hc;cases hc
 have e2:=s2 _ _ e1;refine⟨⟨_,SqL.of ec⟩,?_⟩;obtain⟨Pv,hPv⟩:∃Pv:Nat->L2.St->Hp->Prop,Pv=λi σ H3=>∃(us:List V) (z:Option V),σ=[some (.ref a),some (.ref p),z]/\af [p] H2 H3/\H3 p=some (.lst us)/\Paired (PcAt J.C_a H0) us ((((aL x).take i).map (·.2)).foldl bc (pcs0 f)):=⟨_,rfl⟩;have lens:∀(i:Nat) (us:List V),Paired (PcAt J.C_a H0) us ((((aL x).take i).map (·.2)).foldl bc (pcs0 f))->us.length<=20:=λi us q=>by
  have q1:=Paired.length q;have q2:=Ac f (((aL x).take i).map (·.2));have q3:=lq x;rw[length_map,length_take]at q2;omega
 have small:∀n:Nat,n<=30->n<sizeLine:=λn h=>Nat.lt_of_le_of_lt h (by decide);refine oQ (zw.map V.ref) Pv (by rw[hPv];exact⟨us0,none,rfl,λ_ _ _ q=>q,e2,pc0⟩) (λi σ H3 _ q=>?_) (λi v σ H3 hx q=>?_) λσ H3 q=>?_
 ·rw[hPv]at q
  obtain⟨us,z,rfl,sx3,hp3,pd⟩:=q;exact SqL.of (sx3 _ _ (nin ncp) ec)
 ·rw[hPv]at q
  obtain⟨us,z,rfl,sx3,hp3,pd⟩:=q;rw[getElem?_map]at hx;cases qi:zw[i]? with
  |none=>rw[qi]at hx;cases hx
  |some it =>
  rw[qi]at hx;cases hx;obtain⟨⟨kk,pc⟩,hd,cv,hit,hpc⟩:=h8 pits qi;have hit3:=sx3 _ _ (nin (aB hit e2 (by intro z;cases z))) hit;have hul:=lens i us pd;have hpl:=Paired.length pd;have enext:(((aL x).take (i+1)).map (·.2)).foldl bc (pcs0 f)=bc ((((aL x).take i).map (·.2)).foldl bc (pcs0 f)) pc:=by
   rw[take_succ,hd,Option.toList_some,map_append,List.foldl_append];rfl
  generalize(((aL x).take i).map (·.2)).foldl bc (pcs0 f)=accp at pd enext hpl;simp![tSeq,ck,tBM,bG];refine⟨_,.inl (SqL.of hp3),ite2 (λh1=>?_) λh1=>?_⟩
  ·refine⟨(show tyV K "list" (.ref p) _ from .inl ⟨rfl,_,SqL.of hp3⟩),_,hp3,small _ (by omega),?_⟩
   have sx4:af [p] H3 (upd H3 p (.lst (us++[V.str (ofString " ")]))):=af.upd (mem_singleton.mpr rfl);have e4:upd H3 p (.lst (us++[V.str (ofString " ")])) p=some (.lst (us++[V.str (ofString " ")])):=ai;generalize upd H3 p (.lst (us++[V.str (ofString " ")]))=H4 at sx4 e4 ⊢;have hit4:=sx4 _ _ (nin (aB hit e2 (by intro z;cases z))) hit3;refine⟨(show tyV K "list" (.ref p) _ from .inl ⟨rfl,_,SqL.of e4⟩),_,SqT.of hit4,cv,rfl,_,rfl,small _ (by rw[length_append];show us.length+1<=30;omega),?_⟩;rw[hPv];refine⟨_,_,rfl,sx3.trans (af.upd (mem_singleton.mpr rfl)),ai,?_⟩;rw[enext];unfold bc;rw[if_pos (by omega)];exact cS (cS pd (by rw[aI];rfl)) hpc
  refine⟨(show tyV K "list" (.ref p) _ from .inl ⟨rfl,_,SqL.of hp3⟩),_,SqT.of hit3,cv,rfl,_,hp3,small _ (by omega),?_⟩;rw[hPv];refine⟨_,_,rfl,sx3.trans (af.upd (mem_singleton.mpr rfl)),ai,?_⟩;rw[enext];unfold bc;rw[if_neg (by omega)];exact cS pd hpc
 rw[hPv]at q;obtain⟨us,z,rfl,sx3,hp3,pd⟩:=q;have hul:=lens _ us pd;have hpl:zw.length=(aL x).length:=Paired.length pits;rw[length_map,hpl,take_length]at pd;dsimp only;refine cb ?_;simp![tBM,bG];refine⟨(show tyV K "list" (.ref p) _ from .inl ⟨rfl,_,SqL.of hp3⟩),_,hp3,small _ (by omega),?_⟩;refine k p _ _ hp ?_ ai (by rw[epc];exact cS pd (by rw[aI];rfl));exact(sx3.trans (af.upd (mem_singleton.mpr rfl))).base (sH.trans s2) λy hy=>by rw[mem_singleton.mp hy];exact hp
end
section
variable{base:Heap}
def PcI{A:Type}(It:A->V->Hp->Prop)(H:Hp)(v:V):Pc A->Prop
 |.inl w=>v=.str (S w)
 |.inr a=>It a v H
structure Unf(P:Program)(w:World)(K:Frag)(mg:zM)(base:Heap)(H:Hp)(f:Addr){A:Type}(It:A->V->Hp->Prop)(pcs:A->List (Pc A)):Prop where
 keep:∀a v H1 H2 xs,It a v H1->af xs H1 H2->(∀x∈xs,∃l,H1 x=some (.lst l))->It a v H2
 ns:∀a v H1,It a v H1->Same H H1->∃t,TyOf K H1 v t/\kitOne K t (.type "str")=some false
 fn:∃fd ps sp,FnOk P w K mg base CX0 10 f fd ps sp/\aW K fd ps []/\keepIn K (.ref f)=true /\
  ∀a v H1 Q E,It a v H1->Same H H1->(∀(p:Addr) (us:List V) (H2:Hp),H1 p=none->Same H1 H2->H2 p=some (.lst us)->Paired (PcI It H2) us (pcs a)->Q (.ref p) H2)->sp [v] H1 Q E
theorem PcI.keep{P:Program}{w:World}{K:Frag}{mg:zM}{base:Heap}{H:Hp}{f:Addr}{A:Type}{It:A->V->Hp->Prop}{pcs:A->List (Pc A)}(U:Unf P w K mg base H f It pcs){H1 H2:Hp}{xs:List Addr}(sx:af xs H1 H2)(nt:∀x∈xs,∃l,H1 x=some (.lst l)){v:V}{c:Pc A}(h:PcI It H1 v c):PcI It H2 v c:=by
 cases c with
 |inl w=>exact h
 |inr a=>exact U.keep a v H1 H2 xs h sx nt
def rL(P:Program)(w:World)(K:Frag)(mg:zM)(base:Heap):Sp:=λvs H Q _=>∃(v:V) (f:Addr) (A:Type) (It:A->V->Hp->Prop) (pcs:A->List (Pc A)) (tx:A->List Nat) (cost:A->Nat) (a0:A),vs=[v,.ref f]/\Unf P w K mg base H f It pcs/\It a0 v H /\
 (∀a,tx a=pcsT tx (pcs a))/\(∀a,1+pcsC cost (pcs a)<=cost a)/\cost a0<=1000000/\(tx a0).length<=16777216/\∀H',Same H H'->Q (.str (S (tx a0))) H'
theorem fE{A:Type}(c:A->Nat)(l m:List (Pc A)):pcsC c (l++m)=pcsC c l+pcsC c m:=by
 unfold pcsC;rw[map_append,sum_append]
theorem lH{A:Type}(c:A->Nat):∀l:List (Pc A),pcsC c l.reverse=pcsC c l
 |[]=>rfl
 |x::r=>by
  rw[reverse_cons,fE,lH c r];unfold pcsC;simp;omega
theorem rM{A:Type}(c:A->List Nat)(l m:List (Pc A)):pcsT c (l++m)=pcsT c l++pcsT c m:=by
 unfold pcsT;rw[flatMap_append]
theorem lI{A:Type}{c:A->Nat}(h:∀a,1<=c a):∀l:List (Pc A),l.length<=pcsC c l
 |[]=>Nat.le_refl _
 |x::r=>by
  have ih:=lI h r;have hx:1<=pcC c x:=by
   cases x with
   |inl w=>exact Nat.le_refl _
   |inr a=>exact h a
  unfold pcsC at ih ⊢;rw[map_cons,sum_cons,length_cons];omega
theorem rN:∀l:List (List Nat),cu [] l=l.flatten
 |[]=>rfl
 |[c]=>by
  show c=c++[];rw[append_nil]
 |c::d::r=>by
  have ih:=rN (d::r);show c++([]++cu [] (d::r))=_;rw[ih];rfl
theorem rO:∀l:List (List Nat),((l.map S).map (·.length)).sum=l.flatten.length
 |[]=>rfl
 |c::r=>by
  rw[map_cons,map_cons,sum_cons,rO r,List.flatten_cons,length_append,aS]
theorem ok_R(T:TZ):FO base 11 J.f_R J.d_R ["whole","pieces_of"] (rL P w K mg base):=by
 refine T.F_R.fn.ok sc_R λ_ _ _ _ H _ Q E hr h=>?_;obtain⟨v0,f,B,It,pcs,tx,cost,a0,rfl,U,hit,htx,hco,hc0,zr,k⟩:=h;obtain⟨fdf,psf,spf,Ff,Bf,Kf,Hf⟩:=U.fn;refine⟨_,(ag (aA 2 sc_R.nd (aR ae))
  (ag (aA 3 sc_R.nd (aR (aa (pv 0) ae)))
  (ag (df PassesOwn.never (eX (pv 3) (λ_=>rfl)) (ag (aA 4 sc_R.nd (fb pla slp tlp fe (pv 3)))
  (ah (aG (cA (ym (pv 4) rfl T.b_isinstance rfl T.b_str)) (ah (a8 (bz pla sla tla bA (pv 2) (aa (pv 4) ae)))) (ah (dD PassesOwn.never rfl (fU rfl T.b_reversed (aa (f6 (CX:=CX0) (k:=10) 1 hr.m ak (aa (pv 4) ae)) ae)) (pg_q 5 sc_R.nd) (ah (a8 (bz pla sla tla bA (pv 3) (aa (pv 5) ae))))))))))
  (ah (az (nO aE (pv 2))))))),?_⟩
 simp![tSeq];refine⟨zero_le _,λsh hsh=>⟨by decide,λtd htd=>?_⟩⟩;have nst:sh≠td:=λz=>by rw[<- z,ai]at htd;cases htd
 have htd0:H td=none:=by rw[ao (Ne.symm nst)]at htd;exact htd
 have hcp:∀a,1<=cost a:=λa=>by have:=hco a;omega
 obtain⟨Pv,hPv⟩:∃Pv:Nat->L2.St->Hp->Prop,Pv=λm σ H'=>Same H H'/\∃(dn:List (List Nat)) (sk:List (Pc B)) (us:List V) (z1 z2:Option V),m=pcsC cost sk/\σ=[some v0,some (.ref f),some (.ref sh),some (.ref td),z1,z2]/\H' sh=some (.lst ((dn.map S).map V.str))/\H' td=some (.lst us) /\
  Paired (PcI It H') us sk/\tx a0=dn.flatten++pcsT tx sk.reverse/\dn.length+pcsC cost sk<=cost a0:=⟨_,rfl⟩
 refine dv Pv _ (by
  rw[hPv];refine⟨?_,[],[.inr a0],[v0],none,none,rfl,rfl,?_,ai,.cons ?_ .nil,?_,?_⟩
  ·exact(Same.upd hsh).trans (Same.upd htd)
  ·rw[ao nst]
   exact ai
  ·exact U.keep a0 v0 H _ [] hit (af.of ((Same.upd hsh).trans (Same.upd htd))) (by simp)
  ·show tx a0=[]++(tx a0++[])
   rw[append_nil];rfl
  show 0+(cost a0+0)<=_;omega) λm σ H' hp=>?_
 rw[hPv]at hp;obtain⟨sm,dn,sk,us,z1,z2,rfl,rfl,hs,ht,ps,htxt,hcost⟩:=hp;simp![tSeq];have hun:us.length=sk.length:=Paired.length ps;by_cases hsk:us=[]
 ·subst hsk
  cases ps;refine⟨false,.inl ⟨_,SqL.of ht,rfl⟩,?_⟩;rw[if_neg (by simp)];rw[show([]:List (Pc B)).reverse=[]from rfl,show pcsT tx []=[]from rfl,append_nil]at htxt;refine⟨dn.map S,.inl (SqL.of hs),?_,?_⟩
  ·rw[rO,<- htxt,length_map]
   show(tx a0).length+dn.length*0<=16777216;omega
  have e1:Txt.join (ofString "") (dn.map S)=S (tx a0):=by
   refine cH ?_;rw[nH,iw,map_map,htxt];have e2:dn.map (tl ∘ S)=dn:=by
    have:(tl ∘ S)=id:=by funext l;rfl
    rw[this,List.map_id]
   rw[e2];exact rN _
  rw[e1];exact k H' sm
 refine⟨true,.inl ⟨_,SqL.of ht,by cases us with|nil=>exact absurd rfl hsk|cons _ _=>rfl⟩,?_⟩;rw[if_pos rfl];refine⟨_,λ_ _ z=>z,?_⟩;obtain⟨us',u,sk',c,rfl,rfl,ps',hu⟩:=lj ps hsk;rw[reverse_append,rM]at htxt;rw[fE]at hcost;have hl2:sk'.length<=pcsC cost sk':=lI hcp sk';have hl3:us'.length=sk'.length:=Paired.length ps';simp![tSeq,tBM0,rPop,tBM,bG,qo];refine⟨.inl ⟨rfl,_,SqL.of ht⟩,_,ht,u,by simp,?_⟩;rw[dropLast_concat];have sx1:af [td] H' (upd H' td (.lst us')):=af.upd (mem_singleton.mpr rfl);have e1:upd H' td (.lst us') td=some (.lst us'):=ai;have hlt:∀x∈[td],∃l,H' x=some (.lst l):=λx hx=>by rw[mem_singleton.mp hx];exact⟨_,ht⟩
 generalize upd H' td (.lst us')=H1 at sx1 e1 ⊢;have sm1:Same H H1:=sx1.base sm λx hx=>by rw[mem_singleton.mp hx];exact htd0
 have hs1:=sx1 _ _ (nin nst) hs;have ps1:Paired (PcI It H1) us' sk':=Paired.mapP ps' λ_ _ q=>q.keep U sx1 hlt;have hu1:PcI It H1 u c:=hu.keep U sx1 hlt;cases c with
 |inl wd =>
  have hu2:u=.str (S wd):=hu1;subst hu2;refine⟨_,.str _,true,rfl,?_⟩;rw[if_pos rfl];have ec:pcsC cost [(Sum.inl wd:Pc B)]=1:=rfl;rw[ec]at hcost;refine⟨.inl ⟨rfl,_,SqL.of hs1⟩,_,hs1,?_,pcsC cost sk',?_,?_⟩
  ·rw[length_map,length_map]
   exact Nat.lt_of_le_of_lt (show _<=1000000 by omega) (by decide)
  ·rw[fE,ec]
   omega
  rw[hPv];have sx2:af [sh] H1 (upd H1 sh (.lst ((dn.map S).map V.str++[V.str (S wd)]))):=af.upd (mem_singleton.mpr rfl);have hlt2:∀x∈[sh],∃l,H1 x=some (.lst l):=λx hx=>by rw[mem_singleton.mp hx];exact⟨_,hs1⟩
  refine⟨sx2.base sm1 (λx hx=>by rw[mem_singleton.mp hx];exact hsh),dn++[wd],sk',us',_,_,rfl,rfl,?_,sx2 _ _ (nin (Ne.symm nst)) e1,Paired.mapP ps1 λ_ _ q=>q.keep U sx2 hlt2,?_,?_⟩
  ·rw[ai,map_append,map_append]
   rfl
  ·rw[htxt,List.flatten_append,append_assoc]
   show _++(pcsT tx [Sum.inl wd]++_)=_;rw[show pcsT tx [(Sum.inl wd:Pc B)]=wd++[]from rfl];simp
  rw[length_append];show dn.length+1+_<=_;omega
 |inr b =>
 obtain⟨ty,hty,hk⟩:=U.ns b u H1 hu1 sm1;refine⟨ty,hty,false,hk,?_⟩;rw[if_neg (by simp)];refine dy ?_;simp![tSeq,fh,iRev];refine⟨fdf,psf,spf,Ff,Bf,Kf,Hf b u H1 _ _ hu1 sm1 λp qs H2 hp s2 e2 pq=>⟨p,rfl,qs,SqL.of e2,?_⟩⟩;have hlc:=hco b;have hlq:qs.length=(pcs b).length:=Paired.length pq;have hlp:=lI hcp (pcs b);have ec:pcsC cost [Sum.inr b]=cost b:=by show cost b+0=_;omega
 rw[ec]at hcost;have e12:=s2 _ _ e1;have hs2:=s2 _ _ hs1;have ntp:p≠td:=λz=>by rw[z,e1]at hp;cases hp
 refine gA qs (λi σ H3=>(∃z2,σ=[some v0,some (.ref f),some (.ref sh),some (.ref td),some u,z2])/\af [td] H2 H3/\H3 td=some (.lst (us'++qs.reverse.take i)))
  ⟨⟨_,rfl⟩,λ_ _ _ q=>q,by rw[List.take_zero,append_nil];exact e12⟩ (λi σ H3 _ q=>SqL.of (q.2.1 _ _ (nin ntp) e2)) (λi x σ H3 hx q=>?_) λσ H3 q=>?_
 ·obtain⟨⟨z3,rfl⟩,sx3,h3⟩:=q
  have hil:=(List.getElem?_eq_some_iff.mp hx).1;rw[length_reverse]at hil;simp![tSeq,ck,tBM,bG];refine⟨.inl ⟨rfl,_,SqL.of h3⟩,_,h3,?_,sx3.trans (af.upd (mem_singleton.mpr rfl)),?_⟩
  ·rw[length_append,length_take,length_reverse]
   exact Nat.lt_of_le_of_lt (show _<=2000000 by omega) (by decide)
  rw[take_succ,hx,append_assoc];rfl
 obtain⟨⟨z3,rfl⟩,sx3,h3⟩:=q;rw[<- length_reverse (as:=qs),take_length]at h3;have nt3:∀x∈[td],∃l,H2 x=some (.lst l):=λx hx=>by rw[mem_singleton.mp hx];exact⟨_,e12⟩
 refine⟨pcsC cost (sk'++(pcs b).reverse),?_,?_⟩
 ·rw[fE,fE,lH,ec]
  omega
 rw[hPv];refine⟨sx3.base (sm1.trans s2) (λx hx=>by rw[mem_singleton.mp hx];exact htd0),dn,_,us'++qs.reverse,_,_,rfl,rfl,sx3 _ _ (nin nst) hs2,h3,?_,?_,?_⟩
 ·refine gJ (Paired.mapP ps1 λ_ _ q=>((q.keep U (af.of (xs:=[]) s2) (by simp)).keep U sx3 nt3)) ?_
  exact Paired.mapP (gK pq) λ_ _ q=>q.keep U sx3 nt3
 ·rw[htxt,reverse_append,reverse_reverse,rM]
  show _++(pcsT tx [Sum.inr b]++_)=_;rw[show pcsT tx [Sum.inr b]=tx b++[]from rfl,append_nil,htx b]
 rw[fE,lH];omega
end
section
variable{base:Heap}
def FIt(Cn:Addr)(K:Frag)(H H':Hp)(it:Addr)(i:FI):Prop:=∃(n:Addr) (tr:Tr) (F:List Addr) (bt:Addr),H' it=some (.tup [.ref n,.ref bt])/\Rep i.1 tr/\TreeAt Cn H n tr F/\SqT K H' bt ((i.2.map S).map V.str)/\i.2.length+2*szX i.1<=600
theorem FIt.keep{Cn:Addr}{K:Frag}{H H1 H2:Hp}{xs:List Addr}(sx:af xs H1 H2)(nt:∀x∈xs,Mut H1 x){it:Addr}{i:FI}(h:FIt Cn K H H1 it i):FIt Cn K H H2 it i:=by
 obtain⟨n,tr,F,bt,e,r,t,b,l⟩:=h;refine⟨n,tr,F,bt,sx _ _ (λm=>?_) e,r,t,SqT.keepX b sx nt,l⟩;rcases nt _ m with⟨q,z⟩|⟨q,z⟩<;>(rw[z]at e;cases e)
def lJ(Cn:Addr):Sp:=λvs H Q _=>∃(a:Addr) (x:Term) (tr:Tr) (F:List Addr),vs=[.ref a]/\Rep x tr/\TreeAt Cn H a tr F/\szX x<=300/\∀(p:Addr) (H':Hp),Same H H'->H' p=some (.lst (((Vaunid.free x).map S).map V.str))->Q (.ref p) H'
theorem flat_strs:∀l:List (List Nat),((l.map S).map V.str).all di=true
 |[]=>rfl
 |_::r=>flat_strs r
theorem Ad(x:Term)(bb:Bool)(wd:List Nat):¬(SK.p bb,(Sum.inl wd:Pc Term))∈aL x:=λh=>by
 rw[gD]at h;rcases ll _ _ _ h with⟨b,t,e,_⟩|⟨k,w,e,n⟩
 ·cases e
 cases e;exact n _ rfl
theorem ok_w(T:TZ):FO base 2 J.f_w J.d_w ["term"] (lJ J.C_a):=by
 refine T.F_w.fn.ok sc_w λ_ _ _ _ H _ Q E hr h=>?_;obtain⟨a,x,tr,F,rfl,hrep,htr,hsz,k⟩:=h;refine⟨_,(ag (aA 1 sc_w.nd m8)
  (ag (aA 2 sc_w.nd (aR (aa (cY (aa (pv 0) (aa (cY ae) ae))) ae)))
  (ag (df PassesOwn.never (eX (pv 2) (λ_=>rfl)) (ag (aA 3 sc_w.nd (fb pla slp tlp fe (pv 2)))
  (ag (aA 4 sc_w.nd (aJ bM (pv 3) au (λ_ _=>rfl)))
  (ag (aA 5 sc_w.nd (aJ bM (pv 3) au (λ_ _=>rfl)))
  (ag (aG (PW.pt (pw_and (aC bj (aj (pv 4) rfl) aE (aH _)) (pw_and1 (aC gY (aJ bu (aj (pv 4) rfl) au (λ_ _=>rfl)) (pv 5) rfl)))) (ah (mZ hr.u1 (pv 1) (aJ bu (aj (pv 4) rfl) au (λ_ _=>rfl)) eR rfl)) aP)
  (ah (dD PassesOwn.never rfl (fU rfl T.b_reversed (aa (aD T.F_z (ok_z T) hr.m ak (aa (pv 4) ae)) ae)) (pg_q 6 sc_w.nd) (ah (aG (aC bj (aJ bM (pv 6) au (λ_ _=>rfl)) aE (aH _)) (ah (a8 (bz pla sla tla bA (pv 2) (aa (cY (aa (aJ bM (pv 6) au (λ_ _=>rfl)) (aa (pv 5) ae))) ae)))) (ah (aG (aC bj (aJ bM (pv 6) au (λ_ _=>rfl)) aE (aH _)) (ah (a8 (bz pla sla tla bA (pv 2) (aa (cY (aa (aJ bM (pv 6) au (λ_ _=>rfl)) (aa (aY yL (pv 5) (cE ub rfl T.b_tuple yO (aa (aj (pv 4) rfl) ae))) ae))) ae)))) aP)))))))))))
  (ah (az (cE (yM rfl) rfl T.b_list yN (aa (pv 1) ae))))))),?_⟩
 refine cb ?_;simp![jT];intro fd hfd;refine cb ?_;simp![tRet];refine⟨zero_le _,λp0 hp0=>⟨by decide,λit0 hit0=>⟨by decide,λtd htd=>?_⟩⟩⟩;have s1:Same H (upd H fd (.dK [])):=Same.upd hfd;have e1:upd H fd (.dK []) fd=some (.dK []):=ai;generalize upd H fd (.dK [])=H1 at s1 e1 hp0 hit0 htd ⊢;have s2:Same H1 (upd H1 p0 (.tup [])):=Same.upd hp0;have e2:upd H1 p0 (.tup []) p0=some (.tup []):=ai;generalize upd H1 p0 (.tup [])=H2 at s2 e2 hit0 htd ⊢;have s3:Same H2 (upd H2 it0 (.tup [.ref a,.ref p0])):=Same.upd hit0;have e3:upd H2 it0 (.tup [.ref a,.ref p0]) it0=some (.tup [.ref a,.ref p0]):=ai;generalize upd H2 it0 (.tup [.ref a,.ref p0])=H3 at s3 e3 htd ⊢;have s4:Same H3 (upd H3 td (.lst [.ref it0])):=Same.upd htd;have e4:upd H3 td (.lst [.ref it0]) td=some (.lst [.ref it0]):=ai;generalize upd H3 td (.lst [.ref it0])=H4 at s4 e4 ⊢;have s04:Same H H4:=s1.trans (s2.trans (s3.trans s4));have f4:H4 fd=some (.dK (dk [])):=s4 _ _ (s3 _ _ (s2 _ _ e1));have nft:fd≠td:=aB f4 e4 (by intro z;cases z);have htd0:H td=none:=none_of (s1.trans (s2.trans s3)) htd;obtain⟨Pv,hPv⟩:∃Pv:Nat->L2.St->Hp->Prop,Pv=λm σ H'=>Same H H'/\∃(got:List (List Nat)) (sk:List FI) (zw:List Addr) (z1 z2 z3 z4:Option V),m=szF sk/\σ=[some (.ref a),some (.ref fd),some (.ref td),z1,z2,z3,z4]/\H' fd=some (.dK (dk got))/\H' td=some (.lst (zw.map V.ref)) /\
  Paired (FIt J.C_a K H H') zw sk/\cz [] (Vaunid.freeIn [] x)=cz got (eM sk.reverse)/\got.length+szF sk<=300:=⟨_,rfl⟩
 refine cb (dv Pv _ (by
  rw[hPv];refine⟨s04,[],[(x,[])],[it0],none,none,none,none,rfl,rfl,f4,e4,.cons ⟨a,tr,F,p0,s4 _ _ e3,hrep,htr,SqT.of (s4 _ _ (s3 _ _ e2)),by show 0+2*szX x<=600;omega⟩ .nil,?_,by show 0+(szX x+0)<=300;omega⟩;show _=cz [] (Vaunid.freeIn [] x++[]);rw[append_nil]) λm σ H' hp=>?_)
 rw[hPv]at hp;obtain⟨sm,got,sk,zw,z1,z2,z3,z4,rfl,rfl,hf,ht,ps,hfr,hco⟩:=hp;simp![tRet];by_cases hsk:zw=[]
 ·subst hsk
  cases ps;refine⟨false,.inl ⟨_,SqL.of ht,rfl⟩,?_⟩;rw[if_neg (by simp)];rw[List.reverse_nil,show eM []=[]from rfl]at hfr;refine⟨_,hf,λl hl=>k l _ (sm.trans (Same.upd hl)) ?_⟩;have e5:Vaunid.free x=got:=by rw[qB,hfr];rfl
  rw[ai,e5];unfold dk;rw[map_map,map_map];rfl
 refine⟨true,.inl ⟨_,SqL.of ht,by cases zw with|nil=>exact absurd rfl hsk|cons _ _=>rfl⟩,?_⟩;rw[if_pos rfl];refine⟨_,λ_ _ z=>z,?_⟩;obtain⟨its',it,sk',⟨t,b⟩,rfl,rfl,ps',hit⟩:=lj ps hsk;rw[gE]at hco;rw[reverse_append]at hfr;have hl2:=qD sk';have hl3:its'.length=sk'.length:=Paired.length ps';have ht':H' td=some (.lst (its'.map V.ref++[.ref it])):=by rw[ht,map_append];rfl
 refine c6 (λσ' H2=>σ'=[some (.ref a),some (.ref fd),some (.ref td),some (.ref it),z2,z3,z4]/\H2=upd H' td (.lst (its'.map V.ref))) (λX hX=>?_) (λσ' H2 hh=>?_)
 ·simp![tBM0,rPop]
  refine⟨.inl ⟨rfl,_,SqL.of ht⟩,_,ht',V.ref it,by simp,?_⟩;rw[dropLast_concat];exact hX _ _ ⟨rfl,rfl⟩
 obtain⟨rfl,rfl⟩:=hh;obtain⟨n,tn,Fn,bt,hitv,hrn,htn,hbt,hbl⟩:=hit;have sx5:af [td] H' (upd H' td (.lst (its'.map V.ref))):=af.upd (mem_singleton.mpr rfl);have e5:upd H' td (.lst (its'.map V.ref)) td=some (.lst (its'.map V.ref)):=ai;have mu5:∀x∈[td],Mut H' x:=λx hx=>by rw[mem_singleton.mp hx];exact .inl ⟨_,ht⟩
 generalize upd H' td (.lst (its'.map V.ref))=H5 at sx5 e5 ⊢;have sm5:Same H H5:=sx5.base sm λx hx=>by rw[mem_singleton.mp hx];exact htd0
 have hit5:=sx5 _ _ (nin (aB hitv ht (by intro z;cases z))) hitv;have hbt5:SqT K H5 bt ((b.map S).map V.str):=SqT.keepX hbt sx5 mu5;have hf5:=sx5 _ _ (nin nft) hf;have ps5:Paired (FIt J.C_a K H H5) its' sk':=Paired.mapP ps' λ_ _ q=>q.keep sx5 mu5;refine cb ?_;simp![tRet];refine⟨_,SqT.of hit5,.ref n,rfl,?_⟩;refine cb ?_;simp![tRet];refine⟨_,SqT.of hit5,.ref bt,rfl,?_⟩;have hbl':b.length+2*szX t<=600:=hbl;have hbt':SqT K H' bt ((b.map S).map V.str):=hbt;have hrn':=hrn;have htn':=htn;cases hrn with
 |@mk _ b0 e0 ps0 hps =>
 cases htn with
 |@mk _ dxn wl pl _ _ _ _ as _ G t1 t2 t3 t4 =>
 have t15:=sm5 _ _ t1;have t25:=sm5 _ _ t2;have hfr':cz [] (Vaunid.freeIn [] x)=cz got (Vaunid.freeIn b t++eM sk'.reverse):=hfr;have hco':got.length+(szF sk'+(szX t+0))<=300:=hco;have dec:(a9 t=Vaunid.txt "name"/\∃y,t=.leaf (.name y)/\¬y∈b)\/(a9 t=Vaunid.txt "name"/\∃y,t=.leaf (.name y)/\y∈b)\/(¬a9 t=Vaunid.txt "name"/\∀y,¬t=.leaf (.name y)):=by
  cases q:fmX t with
  |none =>
   cases t with
   |leaf l =>
    cases l with
    |name y =>
     by_cases hy:y∈b
     ·exact .inr (.inl ⟨rfl,y,rfl,hy⟩)
     exact .inl ⟨rfl,y,rfl,hy⟩
    |num v=>exact .inr (.inr ⟨by show ¬Vaunid.txt "number"=_;left,λy z=>by cases z⟩)
    |truth c=>exact .inr (.inr ⟨by cases c<;>left,λy z=>by cases z⟩)
    |nil=>exact .inr (.inr ⟨by left,λy z=>by cases z⟩)
   |_=>cases q
  |some f =>
  refine .inr (.inr ⟨?_,λy z=>?_⟩)
  ·rw[gC q]
   cases f<;>left
  rw[z]at q;cases q
 refine c6 (λσ' H6=>σ'=[some (.ref a),some (.ref fd),some (.ref td),some (.ref it),some (.ref n),some (.ref bt),z4]/\∃got6:List (List Nat),af [fd] H5 H6/\H6 fd=some (.dK (dk got6))/\got6.length<=got.length+1/\cz [] (Vaunid.freeIn [] x)=cz got6 (eM (fis b t)++eM sk'.reverse)) (λX hX=>?_) (λσ' H6 hh=>?_)
 ·simp![tFld,t15,jS]
  refine⟨T.cl_a,T.n_aD,_,rfl,rfl,?_⟩;rcases dec with⟨h1,y,h2,hy⟩|⟨h1,y,h2,hy⟩|⟨h1,h2⟩
  ·rw[if_pos (by rw[h1,aI])]
   refine⟨T.cl_a,T.n_aC,_,rfl,_,rfl,_,SqL.of t25,.str (S y),by rw[h2];rfl,_,.inr hbt5,rfl,flat_strs _,?_⟩;rw[in_S,decide_eq_false hy,if_pos (show(!false)=true from rfl)];refine⟨T.cl_a,T.n_aC,_,rfl,_,rfl,_,SqL.of t25,.str (S y),by rw[h2];rfl,_,DPut.k (k:=Sum.inr (S y)) hf5 (by unfold dk;rw[length_map];exact Nat.lt_of_le_of_lt (show _<=300 by omega) (by decide)),?_⟩;rw[yR];have sx6:af [fd] H5 (upd H5 fd (.dK (dk (insO got y)))):=af.upd (mem_singleton.mpr rfl);have hf6:upd H5 fd (.dK (dk (insO got y))) fd=some (.dK (dk (insO got y))):=ai;generalize upd H5 fd (.dK (dk (insO got y)))=H6 at sx6 hf6 ⊢;refine hX _ _ ⟨rfl,_,sx6,hf6,qF got y,?_⟩;rw[hfr',h2];have:Vaunid.freeIn b (.leaf (.name y))=[y]:=by
    unfold Vaunid.freeIn;rw[eL,decide_eq_false hy];rfl
   rw[this];rfl
  ·rw[if_pos (by rw[h1,aI])]
   refine⟨T.cl_a,T.n_aC,_,rfl,_,rfl,_,SqL.of t25,.str (S y),by rw[h2];rfl,_,.inr hbt5,rfl,flat_strs _,?_⟩;rw[in_S,decide_eq_true hy,if_neg (by simp)];refine hX _ _ ⟨rfl,_,λ_ _ _ q=>q,hf5,le_succ _,?_⟩;rw[hfr',h2];have:Vaunid.freeIn b (.leaf (.name y))=[]:=by
    unfold Vaunid.freeIn;rw[eL,decide_eq_true hy];rfl
   rw[this];rfl
  rw[if_neg (by rw[aI];simp only[V.str.injEq,bB];exact h1)];exact hX _ _ ⟨rfl,_,λ_ _ _ q=>q,hf5,le_succ _,by rw[hfr',yP t b h2]⟩
 obtain⟨rfl,got6,sx6,hf6,hgl,hfr6⟩:=hh;have mu6:∀x∈[fd],Mut H5 x:=λx hx=>by rw[mem_singleton.mp hx];exact .inr ⟨_,hf5⟩
 have sm6:Same H H6:=sx6.base sm5 λx hx=>by rw[mem_singleton.mp hx];exact hfd
 have e6:=sx6 _ _ (nin (Ne.symm nft)) e5;have ps6:Paired (FIt J.C_a K H H6) its' sk':=Paired.mapP ps5 λ_ _ q=>q.keep sx6 mu6;have hbt6:=SqT.keepX hbt5 sx6 mu6;refine dy ?_;simp![js,iRev];refine⟨t,_,_,H,sm6,hrn',htn',λc cts H7 hc s7 ec pc=>⟨_,SqL.of ec,?_⟩⟩;have e7:=s7 _ _ e6;have hbt7:=SqT.keepX hbt6 (af.of (xs:=[]) s7) (by simp);have ps7:Paired (FIt J.C_a K H H7) its' sk':=Paired.mapP ps6 λ_ _ q=>q.keep (af.of (xs:=[]) s7) (by simp);have hf7:=s7 _ _ hf6;have sm7:=sm6.trans s7;have nct:c≠td:=λz=>by rw[z,e6]at hc;cases hc
 have pcr:=gK pc;have hcl:cts.length=(aL t).length:=Paired.length pc;have hc5:=lq t;obtain⟨Pw,hPw⟩:∃Pw:Nat->L2.St->Hp->Prop,Pw=λi σ H8=>(∃z,σ=[some (.ref a),some (.ref fd),some (.ref td),some (.ref it),some (.ref n),some (.ref bt),z])/\af [td] H7 H8/\∃nw,H8 td=some (.lst ((its'++nw).map V.ref))/\nw.length<=i/\Paired (FIt J.C_a K H H8) nw (((aL t).reverse.take i).filterMap (fiOf b (aM t))):=⟨_,rfl⟩;refine gA (cts.map V.ref) Pw (by rw[hPw];exact⟨⟨_,rfl⟩,λ_ _ _ q=>q,[],by rw[append_nil];exact e7,Nat.le_refl _,.nil⟩) (λi σ H8 _ q=>?_) (λi v σ H8 hx q=>?_) λσ H8 q=>?_
 ·rw[hPw]at q
  exact SqL.of (q.2.1 _ _ (nin nct) ec)
 ·rw[hPw]at q
  obtain⟨⟨z,rfl⟩,sx8,nw,hnw,hnl,pnw⟩:=q;rw[<- map_reverse,getElem?_map]at hx;cases qi:cts.reverse[i]? with
  |none=>rw[qi]at hx;cases hx
  |some ct =>
  rw[qi]at hx;cases hx;have hil:=(List.getElem?_eq_some_iff.mp qi).1;rw[length_reverse]at hil;obtain⟨⟨kk,pv⟩,hd,cv,hct,hpc⟩:=h8 pcr qi;have hmem:(kk,pv)∈aL t:=by
   have:=mem_of_getElem? hd;rwa[List.mem_reverse]at this
  have mu8:∀x∈[td],Mut H7 x:=λx hx=>by rw[mem_singleton.mp hx];exact .inl ⟨_,e7⟩
  have hct8:=sx8 _ _ (nin (aB hct e7 (by intro z;cases z))) hct;have hbt8:=SqT.keepX hbt7 sx8 mu8;have enext:((aL t).reverse.take (i+1)).filterMap (fiOf b (aM t))=((aL t).reverse.take i).filterMap (fiOf b (aM t))++(match fiOf b (aM t) (kk,pv)with|none=>[]|some f=>[f]):=by
   rw[take_succ,hd,List.filterMap_append,Option.toList_some];cases q:fiOf b (aM t) (kk,pv)<;>simp[filterMap_cons,q]
  have hlt:((its'++nw).map V.ref).length<sizeLine:=by
   rw[length_map,length_append];exact Nat.lt_of_le_of_lt (show _<=1000 by omega) (by decide)
  have skip:fiOf b (aM t) (kk,pv)=none->Pw (i+1) [some (.ref a),some (.ref fd),some (.ref td),some (.ref it),some (.ref n),some (.ref bt),some (.ref ct)] H8:=λe=>by
   rw[hPw];refine⟨⟨_,rfl⟩,sx8,nw,hnw,by omega,?_⟩;rw[enext,e,append_nil];exact pnw
  have fin:∀(t':Term) (b':List (List Nat)) (ac bt':Addr) (tr':Tr) (F':List Addr) (H9:Hp),fiOf b (aM t) (kk,pv)=some (t',b')->Rep t' tr'->TreeAt J.C_a H ac tr' F'->Same H8 H9->SqT K H9 bt' ((b'.map S).map V.str)->b'.length+2*szX t'<=600->∀q,H9 q=none ->
    ∃zx,upd H9 q (.tup [.ref ac,.ref bt']) td=some (.lst zx)/\zx.length<sizeLine/\Pw (i+1) [some (.ref a),some (.ref fd),some (.ref td),some (.ref it),some (.ref n),some (.ref bt),some (.ref ct)] (upd (upd H9 q (.tup [.ref ac,.ref bt'])) td (.lst (zx++[.ref q]))):=by
   intro t' b' ac bt' tr' F' H9 hfi hr' ht' s9 hb' hl' q hq;have s10:Same H9 (upd H9 q (.tup [.ref ac,.ref bt'])):=Same.upd hq;have e10:upd H9 q (.tup [.ref ac,.ref bt']) q=some (.tup [.ref ac,.ref bt']):=ai;generalize upd H9 q (.tup [.ref ac,.ref bt'])=H10 at s10 e10 ⊢;have h10:=s10 _ _ (s9 _ _ hnw);have sx11:af [td] H10 (upd H10 td (.lst ((its'++nw).map V.ref++[.ref q]))):=af.upd (mem_singleton.mpr rfl);have mu10:∀x∈[td],Mut H10 x:=λx hx=>by rw[mem_singleton.mp hx];exact .inl ⟨_,h10⟩
   refine⟨_,h10,hlt,?_⟩;rw[hPw];refine⟨⟨_,rfl⟩,sx8.trans ((af.of (s9.trans s10)).trans sx11),nw++[q],?_,by rw[length_append];show nw.length+1<=_;omega,?_⟩
   ·rw[ai,<- append_assoc,map_append (l₁:=its'++nw)]
    rfl
   rw[enext,hfi];exact cS (Paired.mapP pnw λ_ _ z=>(z.keep (af.of (xs:=[]) (s9.trans s10)) (by simp)).keep sx11 mu10) (FIt.keep sx11 mu10 ⟨ac,tr',F',bt',e10,hr',ht',SqT.keepX hb' (af.of (xs:=[]) s10) (by simp),hl'⟩)
  simp![ck,jy,tBM,bG,tFld,qA];refine⟨_,SqT.of hct8,_,rfl,rfl,?_⟩;cases kk with
  |n =>
   rw[if_neg (by simp only[V.str.injEq];left)];refine⟨_,SqT.of hct8,_,rfl,rfl,?_⟩;rw[if_neg (by simp only[V.str.injEq];left)];exact skip rfl
  |pw =>
   rw[if_neg (by simp only[V.str.injEq];left)];refine⟨_,SqT.of hct8,_,rfl,rfl,?_⟩;rw[if_neg (by simp only[V.str.injEq];left)];exact skip rfl
  |p bb =>
  cases pv with
  |inl wd=>exact absurd hmem (Ad t bb wd)
  |inr t' =>
  have hsz':=yz hmem;obtain⟨ac,tr',F',hcv,hr',ht'⟩:=hpc;subst hcv;cases bb with
  |false =>
   have f1:=fin t' b ac bt tr' F' H8 rfl hr' ht' (Same.refl _) hbt8 (by omega);rw[if_pos (by rfl)];exact⟨.inl ⟨rfl,_,SqL.of hnw⟩,_,SqT.of hct8,_,rfl,by decide,f1⟩
  |true =>
  have hw2:=qE (x:=t);rw[if_neg (by simp only[V.str.injEq];left)];refine⟨_,SqT.of hct8,_,rfl,rfl,?_⟩;rw[if_pos (by rfl)];have nn:n≠td:=λz=>by rw[z]at t1;rw[htd0]at t1;cases t1
  have nw':wl≠td:=λz=>by rw[z]at t2;rw[htd0]at t2;cases t2
  have t18:=sx8 _ _ (nin nn) (sm7 _ _ t1);have t28:=sx8 _ _ (nin nw') (sm7 _ _ t2);refine⟨.inl ⟨rfl,_,SqL.of hnw⟩,_,SqT.of hct8,_,rfl,_,_,_,t18,T.cl_a,T.n_aC,_,rfl,_,rfl,_,.inl ⟨SqL.of t28,λl hl=>?_⟩⟩;have s9:Same H8 (upd H8 l (.tup (((aM t).map S).map V.str))):=Same.upd hl;have e9:upd H8 l (.tup (((aM t).map S).map V.str)) l=some (.tup (((aM t).map S).map V.str)):=ai;generalize upd H8 l (.tup (((aM t).map S).map V.str))=H9 at s9 e9 ⊢;refine⟨_,SqT.keepX hbt8 (af.of (xs:=[]) s9) (by simp),_,SqT.of e9,?_,λp H10 s10 h10=>⟨by decide,?_⟩⟩
  ·simp only[length_map]
   exact Nat.le_trans (show _<=1000 by omega) (by decide)
  exact fin t' (b++aM t) ac p tr' F' H10 rfl hr' ht' (s9.trans s10) (by rw[map_append,map_append];exact h10) (by rw[length_append];omega)
 rw[hPw]at q;obtain⟨⟨z,rfl⟩,sx8,nw,hnw,hnl,pnw⟩:=q;have mu8:∀x∈[td],Mut H7 x:=λx hx=>by rw[mem_singleton.mp hx];exact .inl ⟨_,e7⟩
 rw[length_map,hcl,<- length_reverse (as:=aL t),take_length,List.filterMap_reverse]at pnw;have hsf:=yQ t b;refine⟨szF (sk'++(fis b t).reverse),?_,?_⟩
 ·rw[gE,gE,lu]
  show _<szF sk'+(szX t+0);omega
 rw[hPv];refine⟨sx8.base sm7 (λx hx=>by rw[mem_singleton.mp hx];exact htd0),_,sk'++(fis b t).reverse,its'++nw,_,_,_,_,rfl,rfl,sx8 _ _ (nin nft) hf7,hnw,gJ (Paired.mapP ps7 λ_ _ q=>q.keep sx8 mu8) pnw,?_,?_⟩
 ·rw[hfr6,reverse_append,reverse_reverse]
  unfold eM;rw[flatMap_append]
 rw[gE,lu];omega
theorem Ae(x:Term):∀b:List (List Nat),(Vaunid.freeIn b x).length<=szX x:=by
 induction x with
 |leaf l =>
  intro b;cases l with
  |name z =>
   show(if _ then _ else _:List (List Nat)).length<=1;split<;>exact le_of_ble_eq_true rfl
  |_=>exact zero_le _
 |one o a ih=>exact λb=>Nat.le_trans (ih b) (Nat.le_add_left ..)
 |fn x a ih=>exact λb=>Nat.le_trans (ih _) (Nat.le_add_left ..)
 |rec_ f x a ih=>exact λb=>Nat.le_trans (ih _) (Nat.le_add_left ..)
 |two o a c i j =>
  intro b;have:=i b;have:=j b;show(_++_:List _).length<=1+szX a+szX c;rw[length_append];omega
 |three o a c d i j k =>
  intro b;have:=i b;have:=j b;have:=k b;show(_++(_++_):List _).length<=1+szX a+szX c+szX d;rw[length_append,length_append];omega
 |let_ x a c i j =>
  intro b;have:=i b;have:=j (x::b);show(_++_:List _).length<=1+szX a+szX c;rw[length_append];omega
 |case l a y t c i j k =>
 intro b;have:=i b;have:=j b;have:=k (t::y::b);show(_++(_++_):List _).length<=1+szX l+szX a+szX c;rw[length_append,length_append];omega
theorem rP:∀(l g:List (List Nat)),(cz g l).length<=g.length+l.length/\∀y∈cz g l,y∈g\/y∈l
 |[],g=>⟨Nat.le_refl _,λy h=>.inl h⟩
 |x::r,g=>by
  obtain⟨h1,h2⟩:=rP r (insO g x);have h3:=qF g x;refine⟨by show(cz (insO g x) r).length<=_;rw[length_cons];omega,λy hy=>?_⟩;rcases h2 y hy with h|h
  ·unfold insO at h
   split at h
   ·exact .inl h
   rcases mem_append.mp h with h|h
   ·exact .inl h
   exact .inr (mem_cons.mpr (.inl (mem_singleton.mp h)))
  exact .inr (mem_cons_of_mem _ h)
theorem fF(x:Term):(Vaunid.free x).length<=szX x:=by
 rw[qB];have h:=(rP (Vaunid.freeIn [] x) []).1;have h2:=Ae x [];rw[length_nil]at h;omega
end
section
variable{base:Heap}
theorem fH{t u:TS}{D:Ends}{σ:L2.St}{H:Hp}(h:t {D with nx:=u D} σ H):tSeq t u D σ H:=h
def DEnv(kv:List (Key×V))(env:RE):Prop:=∀x:List Nat,valV kv (Sum.inr (S x))=(env.find? λp=>p.1==x).map λp=>V.str (S p.2)
theorem DEnv.nil:DEnv [] []:=λ_=>rfl
theorem DEnv.put{kv:List (Key×V)}{env:RE}(h:DEnv kv env)(x v:List Nat):DEnv (putK kv (Sum.inr (S x)) (V.str (S v))) ((x,v)::env):=λz=>by
 rw[uq,find?_cons];by_cases q:z=x
 ·subst q
  rw[if_pos rfl];simp
 rw[if_neg (by simp only[Sum.inr.injEq,bB];exact q),h z];have:(x==z)=false:=by simpa using λe=>q e.symm
 rw[this]
theorem Af(kv:List (Key×V))(k:Key)(v:V):(putK kv k v).length<=kv.length+1:=by
 unfold putK;split
 ·rw[length_map];omega
 rw[length_append];exact Nat.le_refl _
def unFs(k:Str)(c:V)(o d:Addr):List (Str×V):=[("kind",.str k),("content",c),("owner",.ref o),("renamed",.ref d)]
def frFs(aw:Addr)(i:Int):List (Str×V):=[("away",.ref aw),("tried",.int i)]
def wk:SK×Pc Term->Bool
 |(.p _,.inl _)=>false
 |(.n,.inr _)=>false
 |(.pw,.inr _)=>false
 |_=>true
theorem rQ(x:Term):∀c∈aL x,wk c=true:=λc h=>by
 rw[gD]at h;rcases ll _ _ _ h with⟨b,t,rfl,_⟩|⟨k,w,rfl,n⟩
 ·rfl
 cases k with
 |p b=>exact absurd rfl (n b)
 |_=>rfl
def ItP(Cn Cu:Addr)(H0 H:Hp)(it:Addr)(q:(SK×Pc Term)×Addr×Addr):Prop:=∃dx v,H it=some (.ins Cu dx (unFs (ofString q.1.1.w) v q.2.1 q.2.2))/\PcAt Cn H0 v q.1.2/\wk q.1=true
def ItAt(Cn Cu:Addr)(H0 H:Hp)(n od id:Addr)(it:Addr)(c:SK×Pc Term):Prop:=ItP Cn Cu H0 H it (c,n,if c.1=.p false then od else id)
def Chg(H:Hp)(x:Addr):Prop:=(∃l,H x=some (.lst l))\/(∃kv,H x=some (.dK kv))\/∃C dx aw i,H x=some (.ins C dx (frFs aw i))
theorem rR{k:Str}{c:V}{o d aw:Addr}{i:Int}:unFs k c o d≠frFs aw i:=λh=>by
 have:=congrArg (List.map Prod.fst) h;have q:([("kind":Str),"content","owner","renamed"]:List Str)=[("away":Str),"tried"]:=this;exact absurd q (by left)
theorem rS{f:Str}{w p aw:Addr}{b e i:Int}:bh f w p b e≠frFs aw i:=λh=>by
 have:=congrArg List.length h;exact absurd (show 5=2 from this) (by decide)
theorem ItP.keep{Cn Cu:Addr}{H0 H H':Hp}{xs:List Addr}(sx:af xs H H')(ch:∀x∈xs,Chg H x){it:Addr}{q:(SK×Pc Term)×Addr×Addr}(h:ItP Cn Cu H0 H it q):ItP Cn Cu H0 H' it q:=by
 obtain⟨dx,v,e,p⟩:=h;refine⟨dx,v,sx _ _ (λm=>?_) e,p⟩;rcases ch _ m with⟨l,q⟩|⟨l,q⟩|⟨_,_,_,_,q⟩
 ·rw[q]at e;cases e
 ·rw[q]at e;cases e
 rw[q]at e;injection e with e;injection e with _ _ e;exact rR e.symm
theorem ItAt.keep{Cn Cu:Addr}{H0 H H':Hp}{n od id:Addr}{xs:List Addr}(sx:af xs H H')(ch:∀x∈xs,Chg H x){it:Addr}{c:SK×Pc Term}(h:ItAt Cn Cu H0 H n od id it c):ItAt Cn Cu H0 H' n od id it c:=ItP.keep sx ch h
theorem Ag{A B C:Type}{R:A->B->Prop}{f:C->B}{l:List A}{m:List C}(h:Paired (λa c=>R a (f c)) l m):Paired R l (m.map f):=by
 induction h with
 |nil=>exact .nil
 |cons r t ih=>exact .cons r ih
theorem rT{xs:List Term}{ts:List Tr}{x:Term}{t:Tr}(h:Reps xs ts)(q:Rep x t):Reps (xs++[x]) (ts++[t]):=
 Reps.rec (motive_1:=λ_ _ _=>True) (motive_2:=λxs ts _=>Reps (xs++[x]) (ts++[t])) (λ_ _=>trivial) (.cons q .nil) (λh1 _ _ ih=>.cons h1 ih) h
noncomputable def msC:List (SK×Pc Term)->Nat
 |[]=>0
 |(_,.inl _)::r=>1+msC r
 |(_,.inr t)::r=>3*szX t+msC r
theorem Ah(env:RE)(l:List (SK×Pc Term)):∀(wi:RE) (new ws:List (List Nat)) (ts:List Term),ws.length<=(goF env l wi new ws ts).1.length/\ts.length<=(goF env l wi new ws ts).2.1.length:=by
 induction l with
 |nil=>exact λ_ _ _ _=>⟨Nat.le_refl _,Nat.le_refl _⟩
 |cons c r ih =>
 intro wi new ws ts;have w1:∀wi new (x:List Nat),ws.length<=(goF env r wi new (ws++[x]) ts).1.length/\ts.length<=(goF env r wi new (ws++[x]) ts).2.1.length:=λwi new x=>by
  have h:=ih wi new (ws++[x]) ts;rw[length_append]at h;exact⟨Nat.le_trans (le_add_right _ _) h.1,h.2⟩
 have t1:∀wi new (x:Term),ws.length<=(goF env r wi new ws (ts++[x])).1.length/\ts.length<=(goF env r wi new ws (ts++[x])).2.1.length:=λwi new x=>by
  have h:=ih wi new ws (ts++[x]);rw[length_append]at h;exact⟨h.1,Nat.le_trans (le_add_right _ _) h.2⟩
 obtain⟨k,q⟩:=c;cases q with
 |inl x=>cases k<;>exact w1 _ _ _
 |inr t=>cases k with
  |p b=>cases b<;>exact t1 _ _ _
  |_=>exact t1 _ _ _
theorem rV(x:Term):msC (aL x)+1<=3*szX x:=by
 have h:=jd (g:=λc=>match c with|.inl _=>1|.inr t=>3*szX t) (m:=1) (k:=3) (c:=0) (x:=x) (λ_ _=>Nat.le_refl 1) λ_ _=>Nat.le_refl _
 have e:∀l:List (SK×Pc Term),msC l=(l.map λc=>match c.2 with|.inl _=>1|.inr t=>3*szX t).sum:=λl=>by
  induction l with
  |nil=>rfl
  |cons c l ih =>
  obtain⟨k,c⟩:=c;cases c with
  |inl w=>show 1+msC l=_;rw[ih];rfl
  |inr t=>show 3*szX t+msC l=_;rw[ih];rfl
 rw[e];omega
theorem lK:∀l:List (SK×Pc Term),l.length<=msC l
 |[]=>Nat.le_refl _
 |(_,.inl _)::r=>by have:=lK r;rw[length_cons];show _<=1+msC r;omega
 |(_,.inr t)::r=>by have:=lK r;have:=rV t;rw[length_cons];show _<=3*szX t+msC r;omega
theorem Ai{env wi:RE}{l:List (SK×Pc Term)}{new ws nw:List (List Nat)}{ts:List Term}{y:Term}(h:goF env l wi new ws ts=(aM y,aX y,nw)):ws.length<=2/\ts.length<=3:=by
 have q:=Ah env l wi new ws ts;rw[h]at q;have h2:(aX y).length<=3:=by cases y<;>exact le_of_ble_eq_true rfl
 exact⟨Nat.le_trans q.1 qE,Nat.le_trans q.2 h2⟩
theorem lL:∀l m:List (SK×Pc Term),msC (l++m)=msC l+msC m
 |[],m=>(zero_add _).symm
 |(_,.inl _)::r,m=>by show 1+msC (r++m)=1+msC r+msC m;rw[lL r m,add_assoc]
 |(_,.inr t)::r,m=>by show 3*szX t+msC (r++m)=3*szX t+msC r+msC m;rw[lL r m,add_assoc]
def dU(env:RE):Term->List (List Nat)
 |.leaf (.name y)=>[((env.find? λp=>p.1==y).map λp=>p.2).getD y]
 |.leaf (.num v)=>[shownLit v]
 |_=>[]
theorem rW(env:RE)(x:Term):(∃y,x=.leaf (.name y))\/(∃v,x=.leaf (.num v))\/(¬a9 x=Vaunid.txt "name"/\¬a9 x=Vaunid.txt "number"/\dU env x=[]):=by
 cases q:fmX x with
 |none =>
  cases x with
  |leaf l =>
   cases l with
   |name y=>exact .inl ⟨y,rfl⟩
   |num v=>exact .inr (.inl ⟨v,rfl⟩)
   |truth b=>cases b<;>exact .inr (.inr ⟨by left,by left,rfl⟩)
   |nil=>exact .inr (.inr ⟨by left,by left,rfl⟩)
  |_=>cases q
 |some f =>
 have h:∀f:Fm,¬Vaunid.txt f.word=Vaunid.txt "name"/\¬Vaunid.txt f.word=Vaunid.txt "number":=by intro f;cases f<;>left
 refine .inr (.inr ⟨by rw[gC q];exact(h f).1,by rw[gC q];exact(h f).2,?_⟩);cases x with
 |leaf l=>cases q
 |_=>rfl
theorem Aj(env:RE)(new:List (List Nat))(x:Term):a9 (Vaunid.renamed env new x).1=a9 x/\goF env (aL x) env new (dU env x) []=(aM (Vaunid.renamed env new x).1,aX (Vaunid.renamed env new x).1,(Vaunid.renamed env new x).2):=by
 cases q:fmX x with
 |none =>
  cases x with
  |leaf l=>cases l<;>exact⟨rfl,rfl⟩
  |_=>cases q
 |some f =>
 have e:dU env x=[]:=by
  cases x with
  |leaf l=>cases q
  |_=>rfl
 rw[e];exact yS env new q
structure OwnAt(Cn:Addr)(H0 H:Hp)(td n d wl pl:Addr)(ws:List (List Nat))(vs:List V)(kv:List (Key×V))(env:RE)(N:Nat):Prop where
 node:∃dx f b e,H n=some (.ins Cn dx (bh f wl pl b e))
 words:H wl=some (.lst ((ws.map S).map V.str))
 parts:H pl=some (.lst vs)
 dict:H d=some (.dK kv)
 de:DEnv kv env
 small:kv.length+N<=600
 lw:ws.length<=2
 lp:vs.length<=3
 w0:H0 wl=none
 p0:H0 pl=none
 d0:H0 d=none
 nw:td≠wl
 np:td≠pl
 nwp:wl≠pl
abbrev PI:=(SK×Pc Term)×Addr×Addr
def GoP(Cn:Addr)(H0:Hp)(td fo:Addr)(Fin:Hp->Prop):List PI->List (List Nat)->Hp->Prop
 |[],_,H=>Fin H
 |((.p _,.inr t),n,d)::L,new,H=>∃wl pl ws vs kv env,OwnAt Cn H0 H td n d wl pl ws vs kv env new.length/\Vaunid.bindings t<=new.length/\∀(H':Hp) (p:Addr) (tr:Tr) (F:List Addr),af [td,fo,pl] H H'->H' pl=some (.lst (vs++[.ref p]))->Rep (Vaunid.renamed env new t).1 tr->TreeAt Cn H' p tr F->(∀c∈F,c≠td/\c≠fo/\H c=none)->GoP Cn H0 td fo Fin L (Vaunid.renamed env new t).2 H'
 |((.n,.inl x),n,d)::L,new,H=>∃wl pl ws vs kv env v r,OwnAt Cn H0 H td n d wl pl ws vs kv env new.length/\new=v::r/\∀H':Hp,af [td,fo,wl,d] H H'->H' wl=some (.lst (((ws++[v]).map S).map V.str))->H' d=some (.dK (putK kv (Sum.inr (S x)) (.str (S v))))->GoP Cn H0 td fo Fin L r H'
 |((.pw,.inl x),n,d)::L,new,H=>∃wl pl ws vs kv env,OwnAt Cn H0 H td n d wl pl ws vs kv env new.length/\∀H':Hp,af [td,wl] H H'->H' wl=some (.lst (((ws++[x]).map S).map V.str))->GoP Cn H0 td fo Fin L new H'
 |_::_,_,_=>False
structure CpAt(Cn:Addr)(H0 Hs H:Hp)(td fo c dxc wlc plc idc od pl:Addr)(f:List Nat)(vs:List V)(b e:Nat)(env wi:RE)(N:Nat)(ws:List (List Nat))(ts:List Term)(as:List Addr)(trs:List Tr)(F:List Addr)(kv kvo:List (Key×V)):Prop where
 node:H c=some (.ins Cn dxc (bh (S f) wlc plc (b:Int) (e:Int)))
 words:H wlc=some (.lst ((ws.map S).map V.str))
 parts:H plc=some (.lst (as.map V.ref))
 dict:H idc=some (.dK kv)
 de:DEnv kv wi
 small:kv.length+N<=600
 dict2:H od=some (.dK kvo)
 de2:DEnv kvo env
 small2:kvo.length+N<=600
 up:H pl=some (.lst (vs++[.ref c]))
 sx:af [td,fo,pl] Hs H
 trees:TreesAt Cn H as trs F
 reps:Reps ts trs
 fr:∀b∈F,b∉[td,fo,wlc,plc,idc]/\Hs b=none
section
variable{Cn td fo pl c dxc wlc plc idc od:Addr}{H0 Hs:Hp}{Fin:Hp->Prop}{L:List PI}{y:Term}{vs:List V}{b e:Nat}{env:RE}{nw:List (List Nat)}
theorem Ak(ko:∀(H':Hp) (p:Addr) (tr:Tr) (F:List Addr),af [td,fo,pl] Hs H'->H' pl=some (.lst (vs++[.ref p]))->Rep y tr->TreeAt Cn H' p tr F->(∀c∈F,c≠td/\c≠fo/\Hs c=none)->GoP Cn H0 td fo Fin L nw H')
  (nd:[td,fo,pl,c,wlc,plc,idc,od].Nodup)(w0:H0 wlc=none)(p0:H0 plc=none)(d0:H0 idc=none)(o0:H0 od=none)(fc:∀z∈[c,wlc,plc,idc],Hs z=none)(l:List (SK×Pc Term)) :
  ∀(wi:RE) (new ws:List (List Nat)) (ts:List Term) (as:List Addr) (trs:List Tr) (F:List Addr) (kv kvo:List (Key×V)) (H2:Hp),goF env l wi new ws ts=(aM y,aX y,nw)->ej l<=new.length->(∀q∈l,wk q=true)->CpAt Cn H0 Hs H2 td fo c dxc wlc plc idc od pl (a9 y) vs b e env wi new.length ws ts as trs F kv kvo->GoP Cn H0 td fo Fin (l.map (λq=>(q,c,if q.1=.p false then od else idc))++L) new H2:=by
 simp only[nodup_cons,mem_cons,not_or,not_mem_nil,not_false_eq_true,and_true,List.nodup_nil]at nd;refine x_06 nd λzn0 zn1 zn2 zn3 zn4 zn5 g1=>?_;obtain⟨a1,a2,a3,a4,a5,a6,a7⟩:=zn0;obtain⟨b1,b2,b3,b4,b5,b6⟩:=zn1;obtain⟨c1,c2,c3,c4,c5⟩:=zn2;obtain⟨d1,d2,d3,d4⟩:=zn3;obtain⟨e1,e2,e3⟩:=zn4;obtain⟨f1,f2⟩:=zn5;have hs:∀{xs:List Addr}{H2 H':Hp},af [td,fo,pl] Hs H2->af xs H2 H'->(∀z∈xs,z∈[td,fo]\/z∈[c,wlc,plc,idc])->af [td,fo,pl] Hs H':=λs1 s2 h z o n q=>s2 z o (λm=>by
  rcases h z m with h|h
  ·exact n (by simp only[mem_cons,not_mem_nil,or_false]at h ⊢;rcases h with h|h<;>simp[h])
  rw[fc z h]at q;cases q) (s1 z o n q)
 induction l with
 |nil =>
  intro wi new ws ts as trs F kv kvo H2 hg hn hw h;have k1:ws=aM y:=congrArg (·.1) hg;have k2:ts=aX y:=congrArg (·.2.1) hg;have k3:new=nw:=congrArg (·.2.2) hg;rw[k3];have t:TreeAt Cn H2 c (.mk (a9 y) (aM y) b e trs) (c::wlc::plc::F):= .mk h.node (by rw[<- k1];exact h.words) h.parts h.trees;refine ko H2 c _ _ h.sx h.up (.mk (by rw[<- k2];exact h.reps)) t λz m=>?_;rcases mem_cons.mp m with q|m
  ·rw[q];exact⟨Ne.symm a3,Ne.symm b2,fc c (by simp)⟩
  rcases mem_cons.mp m with q|m
  ·rw[q];exact⟨Ne.symm a4,Ne.symm b3,fc wlc (by simp)⟩
  rcases mem_cons.mp m with q|m
  ·rw[q];exact⟨Ne.symm a5,Ne.symm b4,fc plc (by simp)⟩
  have:=h.fr z m;simp only[mem_cons,not_or]at this;exact⟨this.1.1,this.1.2.1,this.2⟩
 |cons q l ih =>
 intro wi new ws ts as trs F kv kvo H2 hg hn hw h;obtain⟨k,pv⟩:=q;obtain⟨l1,l2⟩:=Ai hg;have hw':∀q∈l,wk q=true:=λq m=>hw q (mem_cons_of_mem _ m);have hwk:=hw _ (mem_cons_self ..);have l3:as.length<=3:=by rw[h.trees.length,<- h.reps.length];exact l2
 have own:∀{d:Addr}{kv':List (Key×V)}{env':RE},H2 d=some (.dK kv')->DEnv kv' env'->kv'.length+new.length<=600->H0 d=none->OwnAt Cn H0 H2 td c d wlc plc ws (as.map V.ref) kv' env' new.length:=λx1 x2 x3 x4=>⟨⟨_,_,_,_,h.node⟩,h.words,h.parts,x1,x2,x3,l1,by rw[length_map];exact l3,w0,p0,x4,a4,a5,e1⟩;have step:∀{xs:List Addr}{H':Hp}{v:List Nat}{kv':List (Key×V)}{wi':RE}{N:Nat},af xs H2 H'->(∀z∈xs,z∈[td,fo,wlc,idc])->H' wlc=some (.lst (((ws++[v]).map S).map V.str))->H' idc=some (.dK kv')->DEnv kv' wi'->kv'.length+N<=600->N<=new.length->CpAt Cn H0 Hs H' td fo c dxc wlc plc idc od pl (a9 y) vs b e env wi' N (ws++[v]) ts as trs F kv' kvo:=λ{xs H' v kv' wi' N} s1 hx x1 x2 x3 x4 x5=>by
  have out:∀{z:Addr}{o:HO},z∉[td,fo,wlc,idc]->H2 z=some o->H' z=some o:=λn q=>s1 _ _ (λm=>n (hx _ m)) q;refine⟨out (by simp[Ne.symm a3,Ne.symm b2,d1,d3]) h.node,x1,out (by simp[Ne.symm a5,Ne.symm b4,Ne.symm e1,f1]) h.parts,x2,x3,x4,out (by simp[Ne.symm a7,Ne.symm b6,Ne.symm e3,Ne.symm g1]) h.dict2,h.de2,Nat.le_trans (add_le_add_left x5 _) h.small2,out (by simp[Ne.symm a2,Ne.symm b1,c2,c4]) h.up,hs h.sx s1 λz m=>?_,h.trees.keep λz m o q=>out ?_ q,h.reps,h.fr⟩
  ·have:=hx z m
   simp only[mem_cons,not_mem_nil,or_false]at this ⊢;rcases this with q|q|q|q<;>simp[q]
  have:=(h.fr z m).1;simp only[mem_cons,not_or,not_mem_nil,not_false_eq_true,and_true]at this ⊢;exact⟨this.1,this.2.1,this.2.2.1,this.2.2.2.2⟩
 cases k with
 |n =>
  cases pv with
  |inr t=>cases hwk
  |inl x =>
  cases new with
  |nil=>exact absurd hn (by show ¬1+ej l<=0;omega)
  |cons v r =>
  have hn':1+ej l<=r.length+1:=hn;have hk:=Af kv (Sum.inr (S x)) (.str (S v));have hk2:kv.length+(r.length+1)<=600:=h.small;exact⟨wlc,plc,_,_,_,_,v,r,own h.dict h.de h.small d0,rfl,λH' s1 x1 x2=>ih _ r _ ts as trs F _ kvo H' hg (by omega) hw' (step s1 (λz m=>m) x1 x2 (h.de.put x v) (by omega) (le_succ _))⟩
 |pw =>
  cases pv with
  |inr t=>cases hwk
  |inl x =>
  exact⟨wlc,plc,_,_,_,_,own h.dict h.de h.small d0,λH' s1 x1=>ih _ new _ ts as trs F _ kvo H' hg hn hw' (step s1 (by simp) x1 (s1 _ _ (by simp[Ne.symm a6,Ne.symm e2]) h.dict) h.de h.small (Nat.le_refl _))⟩
 |p bb =>
 cases pv with
 |inl x=>cases hwk
 |inr t =>
 have hn':Vaunid.bindings t+ej l<=new.length:=by cases bb<;>exact hn
 obtain⟨d,kv',env',ed,x1,x2,x3,x4,hg'⟩:∃d kv' env',(if(SK.p bb)=SK.p false then od else idc)=d/\H2 d=some (.dK kv')/\DEnv kv' env'/\kv'.length+new.length<=600/\H0 d=none/\goF env l wi (Vaunid.renamed env' new t).2 ws (ts++[(Vaunid.renamed env' new t).1])=(aM y,aX y,nw):=by
  cases bb with
  |false=>exact⟨_,_,_,if_pos rfl,h.dict2,h.de2,h.small2,o0,hg⟩
  |true=>exact⟨_,_,_,if_neg (by intro z;cases z),h.dict,h.de,h.small,d0,hg⟩
 show GoP Cn H0 td fo Fin (((SK.p bb,Sum.inr t),c,if(SK.p bb)=SK.p false then od else idc)::_) new H2;rw[ed];have hl:=eh t env' new;have hl2:(Vaunid.renamed env' new t).2.length=new.length - Vaunid.bindings t:=by rw[hl,length_drop]
 refine⟨wlc,plc,_,_,_,_,own x1 x2 x3 x4,by omega,λH' p tr F1 s1 e1' r1 t1 fr1=>ih wi _ ws _ (as++[p]) (trs++[tr]) (F++F1) kv kvo H' hg' (by omega) hw' ?_⟩;have out:∀{z:Addr}{o:HO},z∉[td,fo,plc]->H2 z=some o->H' z=some o:=λn q=>s1 _ _ n q;have s01:=h.small;have s02:=h.small2;refine⟨out (by simp[Ne.symm a3,Ne.symm b2,d2]) h.node,out (by simp[Ne.symm a4,Ne.symm b3,e1]) h.words,by rw[e1',map_append];rfl,out (by simp[Ne.symm a6,Ne.symm b5,Ne.symm f1]) h.dict,h.de,by omega,out (by simp[Ne.symm a7,Ne.symm b6,Ne.symm f2]) h.dict2,h.de2,by omega,out (by simp[Ne.symm a2,Ne.symm b1,c3]) h.up,hs h.sx s1 λz m=>?_,(h.trees.keep λz m o q=>out ?_ q).snoc t1,rT h.reps r1,λz m=>?_⟩
 ·simp only[mem_cons,not_mem_nil,or_false]at m ⊢
  rcases m with q|q|q<;>simp[q]
 ·have:=(h.fr z m).1
  simp only[mem_cons,not_or,not_mem_nil,not_false_eq_true,and_true]at this ⊢;exact⟨this.1,this.2.1,this.2.2.2.1⟩
 rcases mem_append.mp m with m|m
 ·exact h.fr z m
 obtain⟨z1,z2,z3⟩:=fr1 z m;refine⟨?_,eg h.sx ?_ z3⟩
 ·simp only[mem_cons,not_or,not_mem_nil,not_false_eq_true,and_true]
  refine⟨z1,z2,λq=>?_,λq=>?_,λq=>?_⟩
  ·rw[q,h.words]at z3;cases z3
  ·rw[q,h.parts]at z3;cases z3
  rw[q,h.dict]at z3;cases z3
 simp only[mem_cons,not_or,not_mem_nil,not_false_eq_true,and_true];exact⟨z1,z2,λq=>by rw[q,h.up]at z3;cases z3⟩
end
def GoR(Cn:Addr)(ip:Term->Term)(H0:Hp)(td:Addr)(Fin:Hp->Prop):List (Term×Addr×Addr)->Hp->Prop
 |[],H=>Fin H
 |(x,a,n)::L,H=>∃(dx wl pl:Addr) (f:Str) (b e:Int) (vs:List V),H n=some (.ins Cn dx (bh f wl pl b e))/\H pl=some (.lst vs)/\vs.length<=3/\H0 pl=none/\pl≠td/\(∃tr F,Rep x tr/\TreeAt Cn H0 a tr F) /\
  ∀(H':Hp) (p:Addr) (tr:Tr) (F:List Addr),af [td,pl] H H'->H' pl=some (.lst (vs++[.ref p]))->Rep (ip x) tr->TreeAt Cn H' p tr F->(∀c∈F,c≠td/\(H c=none\/¬H0 c=none))->GoR Cn ip H0 td Fin L H'
theorem Al{Cn:Addr}{H:Hp}{xs:List Term}{ts:List Tr}{as F:List Addr}(r:Reps xs ts)(h:TreesAt Cn H as ts F):∃M:List (Term×Addr),M.map (·.1)=xs/\M.map (·.2)=as/\∀q∈M,∃tr F,Rep q.1 tr/\TreeAt Cn H q.2 tr F:=by
 have l1:=r.length;have l2:=h.length;refine⟨xs.zip as,List.map_fst_zip (by omega),List.map_snd_zip (by omega),λq m=>?_⟩;obtain⟨i,e⟩:=List.mem_iff_getElem?.mp m;rw[List.getElem?_zip_eq_some]at e;obtain⟨t,e1,r1⟩:=rJ r e.1;refine x_21 (h.get e.2) λt' G e2 ta=>?_;rw[e1]at e2;cases e2;exact⟨t,G,r1,ta⟩
theorem nin2{a b c:Addr}(h:a≠b)(k:a≠c):a∉[b,c]:=λm=>(mem_cons.mp m).elim h λm=>k (mem_singleton.mp m)
section
variable{Cn td pl c dxc wlc plc:Addr}{ip:Term->Term}{H0 Hs:Hp}{Fin:Hp->Prop}{L:List (Term×Addr×Addr)}{x:Term}{vs:List V}{b e:Nat}
theorem Am(hx:a9 (ip x)=a9 x/\aM (ip x)=aM x/\aX (ip x)=(aX x).map ip)(ko:∀(H':Hp) (p:Addr) (tr:Tr) (F:List Addr),af [td,pl] Hs H'->H' pl=some (.lst (vs++[.ref p]))->Rep (ip x) tr->TreeAt Cn H' p tr F->(∀c∈F,c≠td/\(Hs c=none\/¬H0 c=none))->GoR Cn ip H0 td Fin L H')
  (td0:H0 td=none)(p0:H0 plc=none)(n1:plc≠td)(n2:c≠td)(n3:c≠plc)(n4:pl≠plc)(n5:pl≠td)(w0:H0 wlc=some (.lst (((aM x).map S).map V.str)))(fc:Hs c=none)(fp:Hs plc=none)(cs:List (Term×Addr)) :
  ∀(as:List Addr) (trs:List Tr) (F:List Addr) (ts:List Term) (H2:Hp),(∀q∈cs,∃tr F,Rep q.1 tr/\TreeAt Cn H0 q.2 tr F)->aX x=ts++cs.map (·.1)->as.length+cs.length<=3->Same H0 H2->H2 c=some (.ins Cn dxc (bh (S (a9 x)) wlc plc (b:Int) (e:Int)))->H2 plc=some (.lst (as.map V.ref))->H2 pl=some (.lst (vs++[.ref c]))->af [td,pl] Hs H2->TreesAt Cn H2 as trs F->Reps (ts.map ip) trs->(∀b∈F,b≠plc/\b≠td/\(Hs b=none\/¬H0 b=none))->GoR Cn ip H0 td Fin (cs.map (λq=>(q.1,q.2,c))++L) H2:=by
 induction cs with
 |nil =>
  intro as trs F ts H2 hq hp hl s0 hc hpl hpp sx ta re fr;rw[map_nil,append_nil]at hp;have t:TreeAt Cn H2 c (.mk (a9 x) (aM x) b e trs) (c::wlc::plc::F):= .mk hc (s0 _ _ w0) hpl ta;refine ko H2 c _ _ sx hpp (by rw[<- hx.1,<- hx.2.1];exact .mk (by rw[hx.2.2,hp];exact re)) t λz m=>?_;rcases mem_cons.mp m with q|m
  ·rw[q];exact⟨n2,.inl fc⟩
  rcases mem_cons.mp m with q|m
  ·rw[q];exact⟨aF w0 td0,.inr (by rw[w0];exact Option.some_ne_none _)⟩
  rcases mem_cons.mp m with q|m
  ·rw[q];exact⟨n1,.inl fp⟩
  exact(fr z m).2
 |cons q cs ih =>
 intro as trs F ts H2 hq hp hl s0 hc hpl hpp sx ta re fr;rw[length_cons]at hl;refine⟨dxc,wlc,plc,_,_,_,_,hc,hpl,by rw[length_map];omega,p0,n1,hq q (mem_cons_self ..),λH' p tr F1 sx1 e1 r1 t1 fr1=>?_⟩;refine ih (as++[p]) (trs++[tr]) (F++F1) (ts++[q.1]) H' (λq m=>hq q (mem_cons_of_mem _ m)) (by rw[hp,append_assoc];rfl) (by rw[length_append];show as.length+1+_<=3;omega) (sx1.base s0 λz m=>?_) (sx1 _ _ (nin2 n2 n3) hc) (by rw[e1,map_append];rfl) (sx1 _ _ (nin2 n5 n4) hpp) (λz o n h=>sx1 _ _ (nin2 (λq=>n (by rw[q];exact mem_cons_self ..)) λq=>by rw[q,fp]at h;cases h) (sx _ _ n h)) ((ta.keep λz m o h=>sx1 _ _ (nin2 (fr z m).2.1 (fr z m).1) h).snoc t1) (by rw[map_append];exact rT re r1) λz m=>?_
 ·rcases mem_cons.mp m with q|m
  ·rw[q];exact td0
  rw[mem_singleton.mp m];exact p0
 rcases mem_append.mp m with m|m
 ·exact fr z m
 obtain⟨f1,f2⟩:=fr1 z m;refine⟨λq=>?_,f1,f2.imp (λh=>?_) id⟩
 ·rw[q]at f2
  exact f2.elim (λh=>by rw[hpl]at h;cases h) λh=>h p0
 exact eg sx (nin2 f1 λq=>by rw[q,hpp]at h;cases h) h
end
end
section
variable{base:Heap}
def rX(Cn:Addr):Sp:=λvs H Q _=>∃(a d:Addr) (x:Term) (tr:Tr) (F:List Addr) (H0:Hp) (kv:List (Key×V)) (env:RE),vs=[.ref a,.ref d]/\Same H0 H/\Rep x tr/\TreeAt Cn H0 a tr F/\H d=some (.dK kv)/\DEnv kv env/\∀p,H p=none->Q (.ref p) (upd H p (.lst (((dU env x).map S).map V.str)))
theorem ok_av(T:TZ):FO base 1 J.f_av J.d_av ["node","renamed"] (rX J.C_a):=by
 refine T.F_av.fn.ok sc_av λ_ _ _ _ H _ Q E hr h=>?_;obtain⟨a,d,x,tr,F,H0,kv,env,rfl,s0,hrep,htr,hd,he,k⟩:=h;refine⟨_,(ag (aG (aC bj (aj (pv 0) rfl) aE (aH _)) (ah (az (aR (aa (uz hr.u1 (pv 1) (aJ bu (aj (pv 0) rfl) au (λ_ _=>rfl)) (aJ bu (aj (pv 0) rfl) au (λ_ _=>rfl)) ⟨rfl,rfl,rfl,rfl⟩) ae)))) aP)
  (ag (aG (aC bj (aj (pv 0) rfl) aE (aH _)) (ah (az (aR (aa (aJ bu (aj (pv 0) rfl) au (λ_ _=>rfl)) ae)))) aP)
  (ah (az (aR ae))))),?_⟩
 cases hrep with
 |@mk _ b e ps hps =>
 cases htr with
 |@mk _ dxn wl pl _ _ _ _ as _ G t1 t2 t3 t4 =>
 have t1':=s0 _ _ t1;have t2':=s0 _ _ t2;simp![tSeq,tFld,t1',nc];refine⟨T.cl_a,T.n_aD,_,rfl,rfl,?_⟩;rcases rW env x with⟨y,rfl⟩|⟨v,rfl⟩|⟨n1,n2,n3⟩
 ·rw[if_pos (by rw[aI];rfl)]
  refine⟨.inl ⟨kv,.inl hd⟩,T.cl_a,T.n_aC,_,rfl,_,rfl,_,SqL.of t2',.str (S y),rfl,?_⟩;refine⟨T.cl_a,T.n_aC,_,rfl,_,rfl,_,SqL.of t2',.str (S y),rfl,_,DGet.k (k:=Sum.inr (S y)) hd,by decide,?_⟩;rw[he y];have e:((env.find? λp=>p.1==y).map λp=>V.str (S p.2)).getD (V.str (S y))=V.str (S (((env.find? λp=>p.1==y).map λp=>p.2).getD y)):=by cases env.find? λp=>p.1==y<;>rfl
  rw[e];exact k
 ·rw[if_neg (by rw[aI];simp only[V.str.injEq,bB];show ¬Vaunid.txt "number"=_;left)]
  refine⟨T.cl_a,T.n_aD,_,rfl,rfl,?_⟩;rw[if_pos (by rw[aI];rfl)];exact⟨T.cl_a,T.n_aC,_,rfl,_,rfl,_,SqL.of t2',.str (S (shownLit v)),rfl,by decide,k⟩
 rw[if_neg (by rw[aI];simp only[V.str.injEq,bB];exact n1)];refine⟨T.cl_a,T.n_aD,_,rfl,rfl,?_⟩;rw[if_neg (by rw[aI];simp only[V.str.injEq,bB];exact n2)];rw[n3]at k;exact⟨zero_le _,k⟩
def An(Cf:Addr):Sp:=λvs H Q _=>∃(p dx aw:Addr),vs=[.ref p,.ref aw]/\H p=some (.ins Cf dx [])/\Q .non (upd H p (.ins Cf dx (frFs aw 0)))
theorem ok_i(T:TZ):FO base 1 J.f_A J.d_A ["self","away"] (An J.C_i):=by
 refine T.F_A.ok sc_A λ_ _ _ _ H _ Q E hr h=>?_;obtain⟨p,dx,aw,rfl,hp,k⟩:=h;refine⟨_,(ag (bw (pv 0) (pv 1) rfl)
  (ah (bw (pv 0) au rfl))),?_⟩
 simp![tSeq,sFld,hp];exact⟨T.cl_i,T.n_bk,few0,T.cl_i,T.n_aM,few1,k⟩
inductive IFTake(Cf:Addr)(H:Hp)(Q:VK):List V->Prop
 |mk (fo dx aw:Addr) (i B:Nat) (away:List (List Nat)) (v:List Nat) (l:List (List Nat)):H fo=some (.ins Cf dx (frFs aw (i:Int)))->H aw=some (.lst ((away.map S).map V.str))->Fr away B i (v::l)->B<=2000->(∀j:Nat,Fr away B j l->Q (.str (S v)) (upd H fo (.ins Cf dx (frFs aw (j:Int)))))->IFTake Cf H Q [.ref fo]
def Ao(Cf:Addr):Sp:=λvs H Q _=>IFTake Cf H Q vs
theorem rY(m:Nat):ofString "v"++ofString (toString (m:Int))=S (Vaunid.vName m):=by
 rw[str_int,k6,aI,dQ];rfl
theorem Ap(T:TZ):FO base 2 J.f_q J.d_q ["self"] (Ao J.C_i):=by
 refine T.F_q.ok sc_q λ_ _ _ _ H _ Q E hr h=>?_;obtain⟨fo,dx,aw,i,B,away,v,l,hf,ha,hF,hB,k⟩:=h;obtain⟨j,j1,j2,j3,j4,rfl,j6⟩:=yU hF rfl;refine⟨_,(ag (aA 1 sc_q.nd (aY dG aE (cE gS rfl T.b_str f' (aa (aj (pv 0) rfl) ae))))
  (ag (jD (pv 0) au jE)
  (ag (df PassesOwn.never (aC dH (pv 1) (aj (pv 0) rfl) rfl) (ag (aA 1 sc_q.nd (aY dG aE (cE gS rfl T.b_str f' (aa (aj (pv 0) rfl) ae))))
  (ah (jD (pv 0) au jE))))
  (ah (az (pv 1)))))),?_⟩
 simp![tSeq,tFld,gW,rAdd,hf];have big:∀m:Nat,m<=3000->(ofString "v").length+(ofString (toString (m:Int))).length<=sizeLine:=λm h=>by
  rw[aI,str_int,aS,aS,k6];have:=i9 (n:=m) (by omega);exact Nat.le_trans (show 1+_<=13 by omega) (by decide)
 have lg:∀m:Nat,m<=3000->((m:Int).natAbs).log2<1920:=λm h=>kZ (by rw[Int.natAbs_natCast];omega);have naw:aw≠fo:=aB ha hf (by intro z;cases z);refine⟨T.cl_i,T.n_aM,_,rfl,_,rfl,lg i (by omega),big i (by omega),T.cl_i,T.n_aM,_,rfl,_,rfl,(by show 2<1000;decide),?_⟩;refine dv (λm σ H'=>∃q:Nat,m=j - q/\i<=q/\q<=j/\σ=[some (.ref fo),some (.str (S (Vaunid.vName q)))]/\H'=upd H fo (.ins J.C_i dx (frFs aw ((q+1:Nat):Int)))) _ ⟨i,rfl,Nat.le_refl _,j1,by rw[rY],rfl⟩ λm σ H' hp=>?_;obtain⟨q,rfl,q1,q2,rfl,rfl⟩:=hp;simp![tSeq,tFld,gW,rAdd];refine⟨T.cl_i,T.n_bk,_,rfl,_,rfl,_,.inl (SqL.of (by rw[ao naw];exact ha)),rfl,flat_strs _,?_⟩;rw[in_S];by_cases z:q=j
 ·subst z
  rw[decide_eq_false j4,if_neg (by simp)];exact k _ j6
 rw[decide_eq_true (j3 q q1 (by omega)),if_pos rfl];refine⟨_,λ_ _ z=>z,T.cl_i,T.n_aM,_,rfl,_,rfl,lg _ (by omega),big _ (by omega),T.cl_i,T.n_aM,_,rfl,_,rfl,(by show 2<1000;decide),j - (q+1),by omega,q+1,rfl,by omega,by omega,by rw[rY],rfl⟩
end
section
variable{base:Heap}
inductive ICopy(Cn Cu:Addr)(H:Hp)(Q:VK):List V->Prop
 |mk (td it a n d pl dxu wl dxn:Addr) (kd:Str) (x:Term) (tr:Tr) (F:List Addr) (H0:Hp) (kv:List (Key×V)) (env:RE) (xs ps:List V) (f:Str) (b e:Int):H it=some (.ins Cu dxu (unFs kd (.ref a) n d))->Same H0 H->Rep x tr->TreeAt Cn H0 a tr F->H n=some (.ins Cn dxn (bh f wl pl b e))->H pl=some (.lst ps)->ps.length<=100->H d=some (.dK kv)->DEnv kv env->H td=some (.lst xs)->xs.length<=2000->td≠pl->H0 pl=none->H0 td=none->(∀(c dxc wlc plc id:Addr) (zw:List Addr) (b' e':Nat) (H':Hp),af [td,pl] H H'->H' c=some (.ins Cn dxc (bh (S (a9 x)) wlc plc (b':Int) (e':Int)))->H' wlc=some (.lst (((dU env x).map S).map V.str))->H' plc=some (.lst [])->H' id=some (.dK kv)->Paired (ItAt Cn Cu H0 H' c d id) zw (aL x)->H' pl=some (.lst (ps++[.ref c]))->H' td=some (.lst (xs++zw.reverse.map V.ref))->[c,wlc,plc,id].Nodup->(∀a∈[c,wlc,plc,id],H a=none)->Q .non H')->ICopy Cn Cu H Q [.ref td,.ref it]
def Aq(Cn Cu:Addr):Sp:=λvs H Q _=>ICopy Cn Cu H Q vs
theorem ok_h(T:TZ):FO base 1 J.f_y J.d_y ["self","kind","content","owner","renamed"] (bR J.C_h ["kind","content","owner","renamed"]):=by
 refine T.F_y.ok sc_y (λ_ _ _ _ H _ Q E hr h=>?_) λ_ _ _ _ h=>gG h;refine x_33 h λp dx args zr3 hl hp k=>?_;subst zr3;refine x_40 (len4 hl) λa b c d zr4=>?_;subst zr4;refine⟨_,(ag (bw (pv 0) (pv 1) rfl)
  (ag (bw (pv 0) (pv 2) rfl)
  (ag (bw (pv 0) (pv 3) rfl)
  (ah (bw (pv 0) (pv 4) rfl))))),?_⟩
 simp![tSeq,sFld];refine⟨_,_,_,hp,T.cl_h,T.n_aV,few0,T.cl_h,T.n_aW,few1,T.cl_h,T.n_aX,few2,T.cl_h,T.n_aN,few3,?_⟩;exact k
theorem ok_M(T:TZ):FO base 3 J.f_M J.d_M ["todo","item"] (Aq J.C_a J.C_h):=by
 refine T.F_M.fn.ok sc_M λ_ _ _ _ H _ Q E hr h=>?_;obtain⟨td,it,a,n,d,pl,dxu,wl,dxn,kd,x,tr,F,H0,kv,env,xs,ps,f,b,e,hit,s0,hrep,htr,hn,hpl,hps,hd,hde,htd,hxs,ntp,hpl0,htd0,k⟩:=h;refine⟨_,(ag (aA 2 sc_M.nd (aj (pv 1) rfl))
  (ag (aA 3 sc_M.nd (bF T.M_a (ok_a T) hr.m rfl T.G_a T.b_n .nil ak (aa (aj (pv 2) rfl) (aa (aD T.F_av (ok_av T) hr.m ak (aa (pv 2) (aa (aj (pv 1) rfl) ae))) (aa (aR ae) (aa (aj (pv 2) rfl) (aa (aj (pv 2) rfl) ae)))))))
  (ag (a8 (bz pla sla tla bA (aj (aj (pv 1) rfl) rfl) (aa (pv 3) ae)))
  (ag (aA 4 sc_M.nd (cE yY rfl T.b_dict boot_dict1 (aa (aj (pv 1) rfl) ae)))
  (ah (dD PassesOwn.never rfl (fU rfl T.b_reversed (aa (aD T.F_z (ok_z T) hr.m ak (aa (pv 2) ae)) ae)) (pg_q 5 sc_M.nd) (ag (aA 6 sc_M.nd (eS (aC bj (aJ bM (pv 5) au (λ_ _=>rfl)) aE (aH _)) (aj (pv 1) rfl) (pv 4)))
  (ah (a8 (bz pla sla tla bA (pv 0) (aa (bF T.M_h (ok_h T) hr.m rfl T.G_h T.b_y .nil ak (aa (aJ bM (pv 5) au (λ_ _=>rfl)) (aa (aJ bM (pv 5) au (λ_ _=>rfl)) (aa (pv 3) (aa (pv 6) ae))))) ae))))))))))),?_⟩
 have hrep':=hrep;have htr':=htr;cases hrep with
 |@mk _ b0 e0 ps0 hps0 =>
 cases htr with
 |@mk _ dx0 wl0 pl0 _ _ _ _ as0 _ G0 t1 t2 t3 t4 =>
 have t1':=s0 _ _ t1;refine cb ?_;simp![tFld,hit];refine⟨T.cl_h,T.n_aW,_,rfl,?_⟩;refine cb ?_;simp![tFld,hit,t1',bp,rX];refine⟨T.cl_a,T.n_aD,_,rfl,T.cl_h,T.n_aN,_,rfl,_,rfl,x,_,_,H0,s0,hrep',htr',_,hd,_,hde,λwlc hwlc=>?_⟩;have s1:Same H (upd H wlc (.lst (((dU env x).map S).map V.str))):=Same.upd hwlc;have e1:upd H wlc (.lst (((dU env x).map S).map V.str)) wlc=some (.lst (((dU env x).map S).map V.str)):=ai;generalize upd H wlc (.lst (((dU env x).map S).map V.str))=H1 at s1 e1 ⊢;refine⟨zero_le _,λplc hplc=>?_⟩;have s2:Same H1 (upd H1 plc (.lst [])):=Same.upd hplc;have e2:upd H1 plc (.lst []) plc=some (.lst []):=ai;generalize upd H1 plc (.lst [])=H2 at s2 e2 ⊢;have s02:=s1.trans s2;refine⟨_,_,_,s02 _ _ t1',T.cl_a,T.n_aH,_,rfl,_,_,_,s02 _ _ t1',T.cl_a,T.n_aI,_,rfl,?_⟩;refine bZ rfl λc dxc H3 hc s3 e3=>?_;refine cb ?_;simp![tFld,tBM,bG];have s03:=s02.trans s3;refine⟨_,_,_,s03 _ _ hit,T.cl_h,T.n_aX,_,rfl,_,rfl,_,_,_,s03 _ _ hn,T.cl_a,T.n_aF,_,rfl,.inl ⟨rfl,_,SqL.of (s03 _ _ hpl)⟩,_,rfl,_,s03 _ _ hpl,Nat.lt_of_le_of_lt hps (by decide),?_⟩;have hpl3:=s03 _ _ hpl;have sx4:af [pl] H3 (upd H3 pl (.lst (ps++[.ref c]))):=af.upd (mem_singleton.mpr rfl);have e4:upd H3 pl (.lst (ps++[.ref c])) pl=some (.lst (ps++[.ref c])):=ai;generalize upd H3 pl (.lst (ps++[.ref c]))=H4 at sx4 e4 ⊢;have npl:∀{b:Addr}{o:HO},H3 b=some o->(∀l,¬o=.lst l)->H4 b=some o:=λ{b o} q nl=>sx4 _ _ (nin (aB q hpl3 (nl _))) q;have hit4:=npl (s03 _ _ hit) (by intro l z;cases z)
 have hd4:=npl (s03 _ _ hd) (by intro l z;cases z);refine cb ?_;simp![tFld];refine⟨_,_,_,hit4,T.cl_h,T.n_aN,_,rfl,_,rfl,_,hd4,λid hid=>?_⟩;have s5:Same H4 (upd H4 id (.dK kv)):=Same.upd hid;have e5:upd H4 id (.dK kv) id=some (.dK kv):=ai;generalize upd H4 id (.dK kv)=H5 at s5 e5 ⊢;have b5:Same H0 H5:=(sx4.base (s0.trans s03) λx hx=>by rw[mem_singleton.mp hx];exact hpl0).trans s5;refine dy ?_;simp![js,iRev];refine⟨x,_,_,H0,b5,hrep',htr',λcl cts H6 hcl s6 ecl pc=>⟨_,SqL.of ecl,?_⟩⟩;have htd4:H4 td=some (.lst xs):=sx4 _ _ (nin ntp) (s03 _ _ htd);have s46:=s5.trans s6;have htd6:=s46 _ _ htd4;have nct:cl≠td:=λz=>by rw[z,s5 _ _ htd4]at hcl;cases hcl
 have hcl5:cts.length=(aL x).length:=Paired.length pc;have hc5:=lq x;have pcr:=gK pc;obtain⟨Pw,hPw⟩:∃Pw:Nat->L2.St->Hp->Prop,Pw=λi σ H8=>(∃z1 z2,σ=[some (.ref td),some (.ref it),some (.ref a),some (.ref c),some (.ref id),z1,z2])/\af [td] H6 H8/\∃zw,H8 td=some (.lst (xs++zw.map V.ref))/\zw.length<=i/\Paired (ItAt J.C_a J.C_h H0 H8 c d id) zw ((aL x).reverse.take i):=⟨_,rfl⟩;refine gA (cts.map V.ref) Pw (by rw[hPw];exact⟨⟨_,_,rfl⟩,λ_ _ _ q=>q,[],by rw[map_nil,append_nil];exact htd6,Nat.le_refl _,.nil⟩) (λi σ H8 _ q=>?_) (λi v σ H8 hx q=>?_) λσ H8 q=>?_
 ·rw[hPw]at q
  exact SqL.of (q.2.1 _ _ (nin nct) ecl)
 ·rw[hPw]at q
  refine x_02 q λzn0 sx8 zz0=>?_;refine x_12 zz0 λzw hits hil8 pit=>?_;obtain⟨z1,z2,rfl⟩:=zn0;rw[<- map_reverse,getElem?_map]at hx;cases qi:cts.reverse[i]? with
  |none=>rw[qi]at hx;cases hx
  |some ct =>
  rw[qi]at hx;cases hx;have hil:=(List.getElem?_eq_some_iff.mp qi).1;rw[length_reverse]at hil;refine x_11 (h8 pcr qi) λzn0 hdd zz0=>?_;refine x_11 zz0 λcv hct hpc=>?_;obtain⟨kk,pv⟩:=zn0;have n8:∀{b:Addr}{o:HO},H6 b=some o->(∀l,¬o=.lst l)->H8 b=some o:=λ{b o} q nl=>sx8 _ _ (nin (aB q htd6 (nl _))) q;have hct8:=n8 hct (by intro l z;cases z);have hit8:=n8 (s46 _ _ hit4) (by intro l z;cases z);have fin:∀(z:Option V) (un dxu2:Addr) (H9:Hp),H8 un=none->Same H8 H9->H9 un=some (.ins J.C_h dxu2 (unFs (ofString kk.w) cv c (if kk=.p false then d else id))) ->
    ∃zx,H9 td=some (.lst zx)/\zx.length<sizeLine/\Pw (i+1) [some (.ref td),some (.ref it),some (.ref a),some (.ref c),some (.ref id),some (.ref ct),z] (upd H9 td (.lst (zx++[.ref un]))):=by
   intro z un dxu2 H9 hun s9 e9;have htd9:=s9 _ _ hits;have sx10:af [td] H9 (upd H9 td (.lst (xs++zw.map V.ref++[.ref un]))):=af.upd (mem_singleton.mpr rfl);have ch9:∀x∈[td],Chg H9 x:=λx hx=>by rw[mem_singleton.mp hx];exact .inl ⟨_,htd9⟩
   refine⟨_,htd9,?_,?_⟩
   ·rw[length_append,length_map]
    exact Nat.lt_of_le_of_lt (show _<=3000 by omega) (by decide)
   rw[hPw];refine⟨⟨_,_,rfl⟩,sx8.trans ((af.of s9).trans sx10),zw++[un],?_,by rw[length_append];show zw.length+1<=_;omega,?_⟩
   ·rw[ai,map_append,<- append_assoc]
    rfl
   rw[take_succ,hdd];exact cS (Paired.mapP pit λ_ _ q=>(q.keep (af.of (xs:=[]) s9) (by simp)).keep sx10 ch9) (ItAt.keep sx10 ch9 ⟨dxu2,cv,e9,hpc,rQ x _ (List.mem_reverse.mp (mem_of_getElem? hdd))⟩)
  simp![tSeq,ck,tBM,bG,tFld,bp];refine⟨_,SqT.of hct8,_,rfl,rfl,?_⟩;by_cases hk:kk=.p false
  ·rw[if_pos hk]at fin
   rw[if_pos (by rw[hk];rfl)];exact⟨_,_,_,hit8,T.cl_h,T.n_aN,_,rfl,.inl ⟨rfl,_,SqL.of hits⟩,_,SqT.of hct8,_,rfl,_,SqT.of hct8,_,rfl,bZ rfl λun dxu2 H9 hun s9 e9=>fin _ un dxu2 H9 hun s9 e9⟩
  rw[if_neg hk]at fin;have hk2:¬ofString kk.w=ofString "part":=by
   cases kk with
   |p b=>cases b with
    |false=>exact absurd rfl hk
    |true=>left
   |n=>left
   |pw=>left
  rw[if_neg (by simp only[V.str.injEq];exact hk2)];exact⟨.inl ⟨rfl,_,SqL.of hits⟩,_,SqT.of hct8,_,rfl,_,SqT.of hct8,_,rfl,bZ rfl λun dxu2 H9 hun s9 e9=>fin _ un dxu2 H9 hun s9 e9⟩
 rw[hPw]at q;obtain⟨⟨z1,z2,rfl⟩,sx8,zw,hits,hil8,pit⟩:=q;rw[length_map,hcl5,<- length_reverse (as:=aL x),take_length]at pit;simp![tSeq];have n8:∀{b:Addr}{o:HO},H6 b=some o->b≠td->H8 b=some o:=λ{b o} q nl=>sx8 _ _ (nin nl) q;have fc:∀b,H b=none->b≠td/\b≠pl:=λb hb=>⟨λz=>(by rw[z,htd]at hb;cases hb),λz=>(by rw[z,hpl]at hb;cases hb)⟩;have hplc0:=none_of s1 hplc;have hc0:=none_of s02 hc;have hid0:H id=none:=by
  have q1:id≠pl:=λz=>by rw[z,e4]at hid;cases hid
  exact none_of s03 (eg sx4 (nin q1) hid)
 have up:∀{b:Addr}{o:HO},H3 b=some o->H b=none->H8 b=some o:=λ{b o} q hb=>n8 (s46 _ _ (sx4 _ _ (nin (fc b hb).2) q)) (fc b hb).1;refine k c dxc wlc plc id zw.reverse b0 e0 H8 ?_ (up e3 hc0) (up (s3 _ _ (s2 _ _ e1)) hwlc) (up (s3 _ _ e2) hplc0) (n8 (s6 _ _ e5) (fc id hid0).1) ?_ (n8 (s46 _ _ e4) (Ne.symm ntp)) ?_ ?_ ?_
 ·exact(af.of s03).trans ((sx4.more (by simp)).trans ((af.of s46).trans (sx8.more (by simp))))
 ·have:=gK pit
  rw[reverse_reverse]at this;exact this
 ·rw[reverse_reverse]
  exact hits
 ·have m1:c≠wlc:=λz=>by rw[z,s2 _ _ e1]at hc;cases hc
  have m2:c≠plc:=λz=>by rw[z,e2]at hc;cases hc
  have m3:wlc≠plc:=λz=>by rw[<- z,e1]at hplc;cases hplc
  have m4:∀b o,H3 b=some o->H b=none->b≠id:=λb o q hb z=>by rw[<- z,sx4 _ _ (nin (fc b hb).2) q]at hid;cases hid
  have m5:=m4 c _ e3 hc0;have m6:=m4 wlc _ (s3 _ _ (s2 _ _ e1)) hwlc;have m7:=m4 plc _ (s3 _ _ e2) hplc0;simp[m1,m2,m3,m5,m6,m7]
 intro b hb;simp only[mem_cons,not_mem_nil,or_false]at hb;rcases hb with rfl|rfl|rfl|rfl
 ·exact hc0
 ·exact hwlc
 ·exact hplc0
 exact hid0
end
section
variable{base:Heap}
inductive IAway(Cn:Addr)(H:Hp)(Q:VK):List V->Prop
 |mk (a aw:Addr) (x:Term) (tr:Tr) (F:List Addr) (away:List (List Nat)):Rep x tr->TreeAt Cn H a tr F->H aw=some (.lst ((away.map S).map V.str))->away.length<=700->szX x<=300->(∀(p:Addr) (tr':Tr) (F':List Addr) (H':Hp),Same H H'->Rep (plainAway away x) tr'->TreeAt Cn H' p tr' F'->Q (.ref p) H')->IAway Cn H Q [.ref a,.ref aw]
def Ar(Cn:Addr):Sp:=λvs H Q _=>IAway Cn H Q vs
theorem ok_D(T:TZ):FO base 4 J.f_D J.d_D ["term","away"] (Ar J.C_a):=by
 refine T.F_D.fn.ok sc_D λ_ _ _ _ H _ Q E hr h=>?_;obtain⟨a,aw,x,tr,F,away,hrep,htr,haw,hal,hsz,k⟩:=h;refine⟨_,(ag (aA 2 sc_D.nd (bF T.M_i (ok_i T) hr.m rfl T.G_i T.b_A .nil ak (aa (pv 1) ae)))
  (ag (aA 3 sc_D.nd (bF T.M_a (ok_a T) hr.m rfl T.G_a T.b_n .nil ak (aa aE (aa (aR ae) (aa (aR ae) (aa (aj (pv 0) rfl) (aa (aj (pv 0) rfl) ae)))))))
  (ag (aA 4 sc_D.nd (aR (aa (bF T.M_h (ok_h T) hr.m rfl T.G_h T.b_y .nil ak (aa aE (aa (pv 0) (aa (pv 3) (aa m8 ae))))) ae)))
  (ag (df PassesOwn.never (eX (pv 4) (λ_=>rfl)) (ag (aA 5 sc_D.nd (fb pla slp tlp fe (pv 4)))
  (ah (aG (aC dH (aj (pv 5) rfl) (pe_r T.g_C) rfl) (ah (a8 (aD T.F_M (ok_M T) hr.m ak (aa (pv 4) (aa (pv 5) ae))))) (ah (aG (aC bj (aj (pv 5) rfl) aE (aH _)) (ag (aA 6 sc_D.nd (cD (pv 2) T.cl_i T.m_q (Ap T) hr.m T.b_q .nil ak))
  (ag (mZ hr.u1 (aj (pv 5) rfl) (aj (pv 5) rfl) (pv 6) rfl)
  (ah (a8 (bz pla sla tla bA (aj (aj (pv 5) rfl) rfl) (aa (pv 6) ae)))))) (ah (a8 (bz pla sla tla bA (aj (aj (pv 5) rfl) rfl) (aa (aj (pv 5) rfl) ae))))))))))
  (ah (az (aJ bu (aj (pv 3) rfl) au (λ_ _=>rfl)))))))),?_⟩
 have hrep':=hrep;have htr':=htr;cases hrep with
 |@mk _ b e ps hps =>
 cases htr with
 |@mk _ dxn wl0 pl0 _ _ _ _ as _ G t1 t2 t3 t4 =>
 refine fH ?_;simp![bp];intro fo dxf hfo hdxf hnef;have sA:=bW (o1:=HO.own fo) (o2:=HO.ins J.C_i dxf []) hfo hdxf;refine⟨fo,dxf,aw,rfl,ai,?_⟩;rw[fI];have hAf:∀H',H'=upd (upd H dxf (.own fo)) fo (.ins J.C_i dxf (frFs aw 0))->Same H H'/\H' fo=some (.ins J.C_i dxf (frFs aw 0)):=λH' e=>by rw[e];exact⟨bW hfo hdxf,ai⟩
 generalize hgA:upd (upd H dxf (HO.own fo)) fo (HO.ins J.C_i dxf (frFs aw 0))=H1;obtain⟨s1,e1⟩:=hAf H1 hgA.symm;clear hgA hAf sA;refine⟨rfl,fH ?_⟩;simp![bp,tFld];refine⟨zero_le _,λwl hwl=>⟨zero_le _,λpl hpl=>?_⟩⟩;have s2:Same H1 (upd H1 wl (.lst [])):=Same.upd hwl;have e2:upd H1 wl (.lst []) wl=some (.lst []):=ai;generalize upd H1 wl (.lst [])=H2 at s2 e2 hpl ⊢;have s3:Same H2 (upd H2 pl (.lst [])):=Same.upd hpl;have e3:upd H2 pl (.lst []) pl=some (.lst []):=ai;generalize upd H2 pl (.lst [])=H3 at s3 e3 ⊢;have s03:=s1.trans (s2.trans s3);refine⟨_,_,_,s03 _ _ t1,T.cl_a,T.n_aH,_,rfl,_,_,_,s03 _ _ t1,T.cl_a,T.n_aI,_,rfl,?_⟩;refine bZ rfl λwh dxw H4 hwh s4 e4=>fH ?_;simp![bp,jT];intro rd hrd;have s5:Same H4 (upd H4 rd (.dK [])):=Same.upd hrd;have e5:upd H4 rd (.dK []) rd=some (.dK []):=ai;generalize upd H4 rd (.dK [])=H5 at s5 e5 ⊢;refine bZ rfl λit0 dx0 H6 hit0 s6 e6=>⟨by decide,λtd htd=>?_⟩;have s7:Same H6 (upd H6 td (.lst [.ref it0])):=Same.upd htd;have e7:upd H6 td (.lst [.ref it0]) td=some (.lst [.ref it0]):=ai;generalize upd H6 td (.lst [.ref it0])=H7 at s7 e7 ⊢;have hbd:=ly x;obtain⟨new0,hnew⟩:∃new0,new0=Vaunid.vNames away (away.length+Vaunid.bindings x) 0 (Vaunid.bindings x):=⟨_,rfl⟩;have hnl:new0.length=Vaunid.bindings x:=by
  rw[hnew];exact gF away _ 0 _ away (by omega) (λ_ _ _ q=>q) (Nat.le_refl _)
 have hfr:=jf away (away.length+Vaunid.bindings x) 0 (Vaunid.bindings x);rw[<- hnew]at hfr;generalize hB:0+(away.length+Vaunid.bindings x)=B at hfr;have etgt:plainAway away x=(Vaunid.renamed [] new0 x).1:=by rw[hnew];rfl
 rw[etgt]at k;have c17:=s2.trans (s3.trans (s4.trans (s5.trans (s6.trans s7))));have c37:=s4.trans (s5.trans (s6.trans s7));have c47:=s5.trans (s6.trans s7);have c57:=s6.trans s7;have c37':=s4.trans (s5.trans s6);have s07:Same H H7:=s1.trans c17;have hn7:=c47 _ _ e4;have hp7:=c37 _ _ e3;obtain⟨Fin,hFin⟩:∃Fin:Hp->Prop,Fin=λH'=>∃p tr F,H' wh=some (.ins J.C_a dxw (bh (ofString "whole") wl pl (b:Int) (e:Int)))/\H' pl=some (.lst [.ref p])/\Rep (Vaunid.renamed [] new0 x).1 tr/\TreeAt J.C_a H' p tr F:=⟨_,rfl⟩;have htd7:H td=none:=none_of (s03.trans (s4.trans (s5.trans s6))) htd;have g0:GoP J.C_a H td fo Fin [((.p false,.inr x),wh,rd)] new0 H7:=by
  refine⟨wl,pl,[],[],[],[],⟨⟨_,_,_,_,hn7⟩,c37 _ _ (s3 _ _ e2),hp7,c57 _ _ e5,DEnv.nil,by show 0+_<=600;omega,zero_le _,zero_le _,none_of s1 hwl,none_of (s1.trans s2) hpl,none_of (s03.trans s4) hrd,Ne.symm (aF (c37' _ _ (s3 _ _ e2)) htd),Ne.symm (aF (c37' _ _ e3) htd),aF e2 hpl⟩,by omega,λH' p tr F sx q r t _=>?_⟩;show Fin H';rw[hFin];refine⟨p,tr,F,sx _ _ (λm=>?_) hn7,q,r,t⟩;simp only[mem_cons,not_mem_nil,or_false]at m;rcases m with m|m|m
  ·exact aB hn7 e7 (λz=>nomatch z) m
  ·exact aB hn7 (c17 _ _ e1) (λz=>by injection z with _ _ z;exact rS z) m
  exact aB hn7 hp7 (by intro z;cases z) m
 obtain⟨Pv,hPv⟩:∃Pv:Nat->L2.St->Hp->Prop,Pv=λm σ H'=>∃(L:List PI) (zw:List Addr) (new:List (List Nat)) (z5 z6:Option V),m=msC (L.map (·.1))/\m<=900/\σ=[some (.ref a),some (.ref aw),some (.ref fo),some (.ref wh),some (.ref td),z5,z6]/\Same H H'/\H' td=some (.lst (zw.reverse.map V.ref))/\(∃dxf i,H' fo=some (.ins J.C_i dxf (frFs aw ((i:Nat):Int)))/\Fr away B i new)/\Paired (ItP J.C_a J.C_h H H') zw L/\GoP J.C_a H td fo Fin L new H':=⟨_,rfl⟩;refine fH (dv Pv (3*szX x+0) (by rw[hPv];exact⟨[((.p false,.inr x),wh,rd)],[it0],_,none,none,rfl,by omega,rfl,s07,e7,⟨dxf,0,c17 _ _ e1,hfr⟩,.cons ⟨dx0,.ref a,s7 _ _ e6,⟨a,_,_,rfl,hrep',htr'⟩,rfl⟩ .nil,g0⟩) λm σ H' hp=>?_);rw[hPv]at hp;refine x_50 hp λL zw new z5 z6 zy=>x_07 zy λzr5 hm zr7 sm hto zn10 hits hgo=>?_;subst zr5;subst zr7;obtain⟨dxf2,i,f1,f2⟩:=zn10;simp![tFld];cases hits with
 |nil =>
  refine⟨false,.inl ⟨_,SqL.of hto,rfl⟩,?_⟩;rw[if_neg (by simp)];have hgo:Fin H':=hgo;rw[hFin]at hgo;refine x_33 hgo λp tr F h1 h2 h3 h4=>?_;exact⟨_,_,_,h1,T.cl_a,T.n_aF,_,rfl,_,rfl,_,SqL.of h2,_,rfl,k _ _ _ _ sm h3 h4⟩
 |@cons it q its' L' hit hits' =>
 refine⟨true,.inl ⟨_,SqL.of hto,by simp⟩,?_⟩;rw[if_pos rfl];refine⟨_,λ_ _ z=>z,?_⟩;obtain⟨⟨kk,pv⟩,n,d⟩:=q;have hil:=lK (L'.map (·.1));rw[length_map,<- Paired.length hits']at hil;have hto':H' td=some (.lst (its'.reverse.map V.ref++[.ref it])):=by
  rw[hto,reverse_cons,map_append];rfl
 refine c6 (λσ' H2=>σ'=[some (.ref a),some (.ref aw),some (.ref fo),some (.ref wh),some (.ref td),some (.ref it),z6]/\H2=upd H' td (.lst (its'.reverse.map V.ref))) (λX hX=>?_) (λσ' H2 hh=>?_)
 ·simp![tBM0,rPop]
  refine⟨.inl ⟨rfl,_,SqL.of hto⟩,_,hto',V.ref it,by simp,?_⟩;rw[dropLast_concat];exact hX _ _ ⟨rfl,rfl⟩
 obtain⟨rfl,rfl⟩:=hh;have sx1:af [td] H' (upd H' td (.lst (its'.reverse.map V.ref))):=af.upd (mem_singleton.mpr rfl);have ht1:upd H' td (.lst (its'.reverse.map V.ref)) td=some (.lst (its'.reverse.map V.ref)):=ai;generalize upd H' td (.lst (its'.reverse.map V.ref))=H8 at sx1 ht1 ⊢;simp![tFld,cp,tBM,bG];refine x_22 hit λdxu v hitv hpc hwk=>?_;have lift:∀{q:Addr}{o:HO},H' q=some o->q≠td->H8 q=some o:=λ{q o} h n=>sx1 _ _ (nin n) h;have nl:∀{q:Addr}{o:HO},H' q=some o->(∀l,¬o=.lst l)->q≠td:=λ{q o} h n=>aB h hto' (n _);have hit8:=lift hitv (nl hitv (by intro l z;cases z));have f18:=lift f1 (nl f1 (by intro l z;cases z));have s08:Same H H8:=sx1.base sm λq m=>by rw[mem_singleton.mp m];exact htd7
 refine⟨_,_,_,hit8,T.cl_h,T.n_aV,_,rfl,_,.inr (T.t_C H8),rfl,rfl,?_⟩;rw[aI,eu,in_S];cases kk with
 |p bb =>
  cases pv with
  |inl wd=>cases hwk
  |inr t =>
  refine x_60 hgo λwlf plf ws vs kv env zy=>x_02 zy λo hb hk=>?_;refine x_40 o.node λdxn2 f b2 e2' h1=>?_;refine x_32 hpc λac trt Ft zr3 hrt htt=>?_;subst zr3;rw[decide_eq_true (show Vaunid.txt (SK.p bb).w∈_ by cases bb<;>left),if_pos rfl]
  have n8:=lift h1 (nl h1 (by intro l z;cases z));have p8:=lift o.parts (Ne.symm o.np);have d8:=lift o.dict (nl o.dict (by intro l z;cases z));refine⟨td,it,ac,n,d,plf,dxu,wlf,dxn2,_,t,trt,Ft,H,kv,env,_,_,f,b2,e2',hit8,s08,hrt,htt,n8,p8,Nat.le_trans o.lp (by decide),d8,o.de,ht1,?_,o.np,o.p0,htd7,λc dxc wlc plc idc itsc b' e' H9 sx9 g1 g2 g3 g4 g5 g6 g7 g8 g9=>?_⟩
  ·rw[length_map,length_reverse]
   have:msC (((SK.p bb,Sum.inr t)::L'.map (·.1)):List (SK×Pc Term))<=900:=hm;have:3*szX t+msC (L'.map (·.1))<=900:=this;omega
  have cs:=Aj env new t;have nft:td≠fo:=Ne.symm (nl f1 (by intro l z;cases z));have nfp:fo≠plf:=aB f18 p8 (by intro z;cases z);have nfd:fo≠d:=aB f18 d8 (by intro z;cases z);have npd:plf≠d:=aB p8 d8 (by intro z;cases z);have ntd:td≠d:=aB ht1 d8 (by intro z;cases z);have fresh:∀z∈[c,wlc,plc,idc],∀o u,H8 o=some u->o≠z:=λz m o u q=>aF q (g9 z m);have d9:=sx9 _ _ (λm=>(mem_cons.mp m).elim (Ne.symm ntd) λm=>npd (mem_singleton.mp m).symm) d8;have f9:=sx9 _ _ (λm=>(mem_cons.mp m).elim (Ne.symm nft) λm=>nfp (mem_singleton.mp m)) f18;have nd:[td,fo,plf,c,wlc,plc,idc,d].Nodup:=by
   have x1:=λz m=>fresh z m td _ ht1;have x2:=λz m=>fresh z m fo _ f18;have x3:=λz m=>fresh z m plf _ p8;have x4:=λz m=>Ne.symm (fresh z m d _ d8);simp only[forall_mem_cons]at x1 x2 x3 x4;simp only[nodup_cons,mem_cons,not_or,not_mem_nil,not_false_eq_true,and_true,List.nodup_nil]at g8 ⊢;exact⟨⟨nft,o.np,x1.1,x1.2.1,x1.2.2.1,x1.2.2.2.1,ntd⟩,⟨nfp,x2.1,x2.2.1,x2.2.2.1,x2.2.2.2.1,nfd⟩,⟨x3.1,x3.2.1,x3.2.2.1,x3.2.2.2.1,npd⟩,⟨g8.1.1,g8.1.2.1,g8.1.2.2,x4.1⟩,⟨g8.2.1.1,g8.2.1.2,x4.2.1⟩,⟨g8.2.2,x4.2.2.1⟩,x4.2.2.2.1⟩
  have g10:GoP J.C_a H td fo Fin ((aL t).map (λq=>(q,c,if q.1=.p false then d else idc))++L') new H9:=by
   refine Ak (Hs:=H') hk nd (none_of s08 (g9 _ (by simp))) (none_of s08 (g9 _ (by simp))) (none_of s08 (g9 _ (by simp))) o.d0 (λz m=>eg sx1 (λq=>fresh z m td _ ht1 (mem_singleton.mp q).symm) (g9 z m)) (aL t) env new _ [] [] [] [] kv kv H9 cs.2 (by rw[yT];exact hb) (rQ t) ⟨by rw[cs.1];exact g1,g2,g3,g4,o.de,o.small,d9,o.de,o.small,g6,?_,.nil,.nil,by simp⟩;exact(sx1.more (by simp)).trans (sx9.more (by simp))
  have hms:=rV t;have e10:((aL t).map (λq=>((q,c,if q.1=.p false then d else idc):PI))++L').map (·.1)=aL t++L'.map (·.1):=by rw[map_append,map_map];exact congrArg (· ++ _) (List.map_id _)
  have hlt:msC (((aL t).map (λq=>((q,c,if q.1=.p false then d else idc):PI))++L').map (·.1))<msC ((((SK.p bb,Sum.inr t),n,d)::L').map (·.1)):=by
   rw[e10,lL];show _<3*szX t+msC (L'.map (·.1));omega
  have ch1:∀x∈[td],Chg H' x:=λx m=>by rw[mem_singleton.mp m];exact .inl ⟨_,hto'⟩
  have ch2:∀x∈[td,plf],Chg H8 x:=λx m=>(mem_cons.mp m).elim (λq=>by rw[q];exact .inl ⟨_,ht1⟩) λm=>by rw[mem_singleton.mp m];exact .inl ⟨_,p8⟩
  refine⟨_,hlt,?_⟩;rw[hPv];refine⟨_,itsc++its',new,_,_,rfl,Nat.le_trans (Nat.le_of_lt hlt) hm,rfl,sx9.base s08 λz m=>(mem_cons.mp m).elim (λq=>by rw[q];exact htd7) λm=>by rw[mem_singleton.mp m];exact o.p0,by rw[g7,reverse_append,map_append],⟨dxf2,i,f9,f2⟩,gJ (Ag g5) (Paired.mapP hits' λ_ _ q=>(q.keep sx1 ch1).keep sx9 ch2),g10⟩
 |n =>
  cases pv with
  |inr t=>cases hwk
  |inl wd =>
  have hv:v=.str (S wd):=hpc;subst hv;obtain⟨wlf,plf,ws,vs,kv,env,v0,l,o,rfl,hk⟩:=hgo;refine x_40 o.node λdxn2 f b2 e2' h1=>?_;rw[decide_eq_false (show ¬Vaunid.txt (SK.n).w∈_ by left),if_neg (by simp)];refine⟨_,_,_,hit8,T.cl_h,T.n_aV,_,rfl,rfl,?_⟩;rw[if_pos (by rfl)];have hn8:=lift h1 (nl h1 (by intro l z;cases z));have hw8:=lift o.words (Ne.symm o.nw);have k18:=lift o.dict (nl o.dict (by intro l z;cases z));refine fH ?_;simp![cp];refine⟨_,_,f18,rfl,fo,_,aw,i,B,away,v0,l,f18,s08 _ _ haw,f2,by omega,λj hj=>fH ?_⟩;have sx9:af [fo] H8 (upd H8 fo (.ins J.C_i dxf2 (frFs aw (j:Int)))):=af.upd (mem_singleton.mpr rfl);have e9:upd H8 fo (.ins J.C_i dxf2 (frFs aw (j:Int))) fo=some (.ins J.C_i dxf2 (frFs aw (j:Int))):=ai;generalize upd H8 fo (.ins J.C_i dxf2 (frFs aw (j:Int)))=H9 at sx9 e9 ⊢;simp![jS,tFld,tBM,bG];have it9:=sx9 _ _ (nin (aB hit8 f18 (by intro z;injection z with _ _ z;exact rR z))) hit8;have id9:=sx9 _ _ (nin (aB k18 f18 (by intro z;cases z))) k18;have hkl:kv.length+(l.length+1)<=600:=o.small;refine⟨_,_,_,it9,T.cl_h,T.n_aN,_,rfl,_,_,_,it9,T.cl_h,T.n_aW,_,rfl,_,rfl,_,DPut.k (k:=Sum.inr (S wd)) id9 (Nat.lt_of_le_of_lt (show _<=600 by omega) (by decide)),?_⟩;have sx10:af [d] H9 (upd H9 d (.dK (putK kv (Sum.inr (S wd)) (.str (S v0))))):=af.upd (mem_singleton.mpr rfl);have e10:upd H9 d (.dK (putK kv (Sum.inr (S wd)) (.str (S v0)))) d=some (.dK (putK kv (Sum.inr (S wd)) (.str (S v0)))):=ai;generalize upd H9 d (.dK (putK kv (Sum.inr (S wd)) (.str (S v0))))=H10 at sx10 e10 ⊢
  have it10:=sx10 _ _ (nin (aB it9 id9 (by intro z;cases z))) it9;have n9:=sx9 _ _ (nin (aB hn8 f18 (λz=>by injection z with _ _ z;exact rS z))) hn8;have n10:=sx10 _ _ (nin (aB n9 id9 (by intro z;cases z))) n9;have wl9:=sx9 _ _ (nin (aB hw8 f18 (by intro z;cases z))) hw8;have wl10:=sx10 _ _ (nin (aB wl9 id9 (by intro z;cases z))) wl9;refine⟨_,_,_,it10,T.cl_h,T.n_aX,_,rfl,_,rfl,_,_,_,n10,T.cl_a,T.n_aC,_,rfl,.inl ⟨rfl,_,SqL.of wl10⟩,_,rfl,_,wl10,by rw[length_map,length_map];exact Nat.lt_of_le_of_lt o.lw (by decide),?_⟩;have sx11:af [wlf] H10 (upd H10 wlf (.lst ((ws.map S).map V.str++[.str (S v0)]))):=af.upd (mem_singleton.mpr rfl);have e11:upd H10 wlf (.lst ((ws.map S).map V.str++[.str (S v0)])) wlf=some (.lst ((ws.map S).map V.str++[.str (S v0)])):=ai;generalize upd H10 wlf (.lst ((ws.map S).map V.str++[.str (S v0)]))=H11 at sx11 e11 ⊢;have sxa:af [td,fo,wlf,d] H' H11:=(sx1.more (by simp)).trans ((sx9.more (by simp)).trans ((sx10.more (by simp)).trans (sx11.more (by simp))));have f10:=sx11 _ _ (nin (aB (sx10 _ _ (nin (aB e9 id9 (by intro z;cases z))) e9) wl10 (by intro z;cases z))) (sx10 _ _ (nin (aB e9 id9 (by intro z;cases z))) e9);have t9:=sx9 _ _ (nin (aB ht1 f18 (by intro z;cases z))) ht1;have t11:=sx11 _ _ (nin o.nw) (sx10 _ _ (nin (aB t9 id9 (by intro z;cases z))) t9);have hlt:msC (L'.map (·.1))<msC ((((SK.n,Sum.inl wd),n,d)::L').map (·.1)):=by show _<1+msC (L'.map (·.1));omega
  refine⟨_,hlt,?_⟩;rw[hPv];refine⟨L',its',l,_,_,rfl,Nat.le_trans (Nat.le_of_lt hlt) hm,rfl,sxa.base sm λz m=>?_,t11,⟨dxf2,j,f10,hj⟩,Paired.mapP hits' λ_ _ q=>q.keep sxa λz m=>?_,hk H11 sxa (by rw[e11,map_append,map_append];rfl) (sx11 _ _ (nin (aB e10 wl10 (by intro z;cases z))) e10)⟩
  ·simp only[mem_cons,not_mem_nil,or_false]at m
   rcases m with m|m|m|m
   ·rw[m];exact htd7
   ·rw[m];exact hfo
   ·rw[m];exact o.w0
   rw[m];exact o.d0
  simp only[mem_cons,not_mem_nil,or_false]at m;rcases m with m|m|m|m
  ·rw[m];exact .inl ⟨_,hto'⟩
  ·rw[m];exact .inr (.inr ⟨_,_,_,_,f1⟩)
  ·rw[m];exact .inl ⟨_,o.words⟩
  rw[m];exact .inr (.inl ⟨_,o.dict⟩)
 |pw =>
 cases pv with
 |inr t=>cases hwk
 |inl wd =>
 have hv:v=.str (S wd):=hpc;subst hv;refine x_60 hgo λwlf plf ws vs kv env zy=>x_01 zy λo hk=>?_;refine x_40 o.node λdxn2 f b2 e2' h1=>?_;rw[decide_eq_false (show ¬Vaunid.txt (SK.pw).w∈_ by left),if_neg (by simp)];refine⟨_,_,_,hit8,T.cl_h,T.n_aV,_,rfl,rfl,?_⟩;rw[if_neg (by simp only[V.str.injEq];left)];have hn8:=lift h1 (nl h1 (by intro l z;cases z));have hw8:=lift o.words (Ne.symm o.nw);refine⟨_,_,_,hit8,T.cl_h,T.n_aX,_,rfl,_,rfl,_,_,_,hn8,T.cl_a,T.n_aC,_,rfl,.inl ⟨rfl,_,SqL.of hw8⟩,_,_,_,hit8,T.cl_h,T.n_aW,_,rfl,_,rfl,_,hw8,by rw[length_map,length_map];exact Nat.lt_of_le_of_lt o.lw (by decide),?_⟩;have sx11:af [wlf] H8 (upd H8 wlf (.lst ((ws.map S).map V.str++[.str (S wd)]))):=af.upd (mem_singleton.mpr rfl);have e11:upd H8 wlf (.lst ((ws.map S).map V.str++[.str (S wd)])) wlf=some (.lst ((ws.map S).map V.str++[.str (S wd)])):=ai;generalize upd H8 wlf (.lst ((ws.map S).map V.str++[.str (S wd)]))=H11 at sx11 e11 ⊢;have sxa:af [td,wlf] H' H11:=(sx1.more (by simp)).trans (sx11.more (by simp));have hlt:msC (L'.map (·.1))<msC ((((SK.pw,Sum.inl wd),n,d)::L').map (·.1)):=by show _<1+msC (L'.map (·.1));omega
 refine⟨_,hlt,?_⟩;rw[hPv];refine⟨L',its',new,_,_,rfl,Nat.le_trans (Nat.le_of_lt hlt) hm,rfl,sxa.base sm λz m=>?_,sx11 _ _ (nin o.nw) ht1,⟨dxf2,i,sx11 _ _ (nin (aB f18 hw8 (by intro z;cases z))) f18,f2⟩,Paired.mapP hits' λ_ _ q=>q.keep sxa λz m=>?_,hk H11 sxa (by rw[e11,map_append,map_append];rfl)⟩
 ·exact(mem_cons.mp m).elim (λq=>by rw[q];exact htd7) λm=>by rw[mem_singleton.mp m];exact o.w0
 exact(mem_cons.mp m).elim (λq=>by rw[q];exact .inl ⟨_,hto'⟩) λm=>by rw[mem_singleton.mp m];exact .inl ⟨_,o.words⟩
end
section
variable{base:Heap}
theorem rZ{nm:List Nat}{s x:Term}(h:¬x=.leaf (.name nm)):a9 (inPlace nm s x)=a9 x/\aM (inPlace nm s x)=aM x/\aX (inPlace nm s x)=(aX x).map (inPlace nm s):=by
 cases x with
 |leaf l =>
  cases l with
  |name y =>
   have e:inPlace nm s (.leaf (.name y))=.leaf (.name y):=if_neg λz=>h (by rw[z]);rw[e];exact⟨rfl,rfl,rfl⟩
  |_=>exact⟨rfl,rfl,rfl⟩
 |one o a=>cases o<;>exact⟨rfl,rfl,rfl⟩
 |two o a b=>cases o<;>exact⟨rfl,rfl,rfl⟩
 |three o a b c=>cases o<;>exact⟨rfl,rfl,rfl⟩
 |_=>exact⟨rfl,rfl,rfl⟩
def r0(Cn:Addr):Sp:=λvs H Q _=>∃(a o:Addr) (nm:List Nat) (x s:Term) (tr ts:Tr) (F G:List Addr),vs=[.ref a,.str (S nm),.ref o]/\Rep x tr/\TreeAt Cn H a tr F/\Rep s ts/\TreeAt Cn H o ts G/\szX x<=300/\∀(p:Addr) (tr':Tr) (F':List Addr) (H':Hp),Same H H'->Rep (inPlace nm s x) tr'->TreeAt Cn H' p tr' F'->Q (.ref p) H'
noncomputable def szL(L:List (Term×Addr×Addr)):Nat:=(L.map λq=>szX q.1).sum
theorem As(x:Term){M:List (Term×Addr)}(h:M.map (·.1)=aX x)(c:Addr)(L:List (Term×Addr×Addr)):szL (M.map (λq=>(q.1,q.2,c))++L)+1=szX x+szL L:=by
 unfold szL;rw[map_append,map_map,sum_append];have e:(λq:Term×Addr=>szX q.1)=szX ∘ (·.1):=rfl;have e2:((λq:Term×Addr×Addr=>szX q.1) ∘ λq:Term×Addr=>(q.1,q.2,c))=szX ∘ (·.1):=rfl;rw[e2,<- map_map,h];have:((aX x).map szX).sum+1=szX x:=by cases x<;>(simp[aX,szX];try omega)
 omega
theorem r8:∀L:List (Term×Addr×Addr),L.length<=szL L
 |[]=>Nat.le_refl _
 |q::L=>by
  have h1:=r8 L;have h2:1<=szX q.1:=by cases q.1<;>(simp[szX];try omega)
  show L.length+1<=szX q.1+szL L;omega
theorem Au{p A T:Prop}[Decidable p](t:T)(h:p->T->A):if p then A else T:=by
 by_cases q:p
 ·rw[if_pos q];exact h q t
 rw[if_neg q];exact t
theorem gL{H H2:Hp}{xs zw:List Addr}{L:List (Term×Addr×Addr)}(h:Paired (λit q=>H it=some (.tup [.ref q.2.1,.ref q.2.2])) zw L)(sx:af xs H H2)(nt:∀x∈xs,∃l,H x=some (.lst l)):Paired (λit q=>H2 it=some (.tup [.ref q.2.1,.ref q.2.2])) zw L:=Paired.mapP h λit q e=>sx _ _ (λm=>by
 obtain⟨l,z⟩:=nt _ m;rw[z]at e;cases e) e
theorem ok_E(T:TZ):FO base 3 J.f_E J.d_E ["term","name","other"] (r0 J.C_a):=by
 refine T.F_E.fn.ok sc_E λ_ _ _ _ H _ Q E hr h=>?_;refine x_90 h λa o nm x s tr ts F G zy=>x_06 zy λzr9 hrep htr hrs hts hsz k=>?_;subst zr9;refine⟨_,(ag (aA 3 sc_E.nd (bF T.M_a (ok_a T) hr.m rfl T.G_a T.b_n .nil ak (aa aE (aa (aR ae) (aa (aR ae) (aa (aj (pv 0) rfl) (aa (aj (pv 0) rfl) ae)))))))
  (ag (aA 4 sc_E.nd (aR (aa (cY (aa (pv 0) (aa (pv 3) ae))) ae)))
  (ag (df PassesOwn.never (eX (pv 4) (λ_=>rfl)) (ag (aA 5 sc_E.nd (fb pla slp tlp fe (pv 4)))
  (ag (aA 6 sc_E.nd (aJ bM (pv 5) au (λ_ _=>rfl)))
  (ag (aA 7 sc_E.nd (aJ bM (pv 5) au (λ_ _=>rfl)))
  (ah (aG (PW.pt (pw_and (aC bj (aj (pv 6) rfl) aE (aH _)) (pw_and1 (aC bj (aJ bu (aj (pv 6) rfl) au (λ_ _=>rfl)) (pv 1) (aH _))))) (ah (a8 (bz pla sla tla bA (aj (pv 7) rfl) (aa (pv 2) ae)))) (ag (aA 8 sc_E.nd (bF T.M_a (ok_a T) hr.m rfl T.G_a T.b_n .nil ak (aa (aj (pv 6) rfl) (aa (aj (pv 6) rfl) (aa (aR ae) (aa (aj (pv 6) rfl) (aa (aj (pv 6) rfl) ae)))))))
  (ag (a8 (bz pla sla tla bA (aj (pv 7) rfl) (aa (pv 8) ae)))
  (ah (dD PassesOwn.never rfl (fU rfl T.b_reversed (aa (aj (pv 6) rfl) ae)) (pg_q 9 sc_E.nd) (ah (a8 (bz pla sla tla bA (pv 4) (aa (cY (aa (pv 9) (aa (pv 8) ae))) ae))))))))))))))
  (ah (az (aJ bu (aj (pv 3) rfl) au (λ_ _=>rfl))))))),?_⟩
 have hrep':=hrep;have htr':=htr;cases hrep with
 |@mk _ b e ps hps =>
 cases htr with
 |@mk _ dxn wl0 pl0 _ _ _ _ as _ G1 t1 t2 t3 t4 =>
 refine bD ?_;simp![bp,tFld];refine⟨zero_le _,λwl hwl=>⟨zero_le _,λpl hpl=>?_⟩⟩;have s2:Same H (upd H wl (.lst [])):=Same.upd hwl;have e2:upd H wl (.lst []) wl=some (.lst []):=ai;generalize upd H wl (.lst [])=H2 at s2 e2 hpl ⊢;have s3:Same H2 (upd H2 pl (.lst [])):=Same.upd hpl;have e3:upd H2 pl (.lst []) pl=some (.lst []):=ai;generalize upd H2 pl (.lst [])=H3 at s3 e3 ⊢;have s03:=s2.trans s3;refine⟨_,_,_,s03 _ _ t1,T.cl_a,T.n_aH,_,rfl,_,_,_,s03 _ _ t1,T.cl_a,T.n_aI,_,rfl,?_⟩;refine bZ rfl λwh dxw H4 hwh s4 e4=>bD ?_;simp![tRet];refine⟨by decide,λit0 hit0=>⟨by decide,λtd htd=>?_⟩⟩;have s5:Same H4 (upd H4 it0 (.tup [.ref a,.ref wh])):=Same.upd hit0;have e5:upd H4 it0 (.tup [.ref a,.ref wh]) it0=some (.tup [.ref a,.ref wh]):=ai;generalize upd H4 it0 (.tup [.ref a,.ref wh])=H5 at s5 e5 htd ⊢;have s6:Same H5 (upd H5 td (.lst [.ref it0])):=Same.upd htd;have e6:upd H5 td (.lst [.ref it0]) td=some (.lst [.ref it0]):=ai;generalize upd H5 td (.lst [.ref it0])=H6 at s6 e6 ⊢;have s45:=s4.trans s5;have s06:=s03.trans (s45.trans s6);have td0:H td=none:=none_of (s03.trans s45) htd;have n6:=s6 _ _ (s5 _ _ e4);have p6:=s6 _ _ (s45 _ _ e3);have ntp:pl≠td:=aF (s45 _ _ e3) htd;obtain⟨Fin,hFin⟩:∃Fin:Hp->Prop,Fin=λH'=>∃p tr F,H' wh=some (.ins J.C_a dxw (bh (ofString "whole") wl pl (b:Int) (e:Int)))/\H' pl=some (.lst [.ref p])/\Rep (inPlace nm s x) tr/\TreeAt J.C_a H' p tr F:=⟨_,rfl⟩;have g0:GoR J.C_a (inPlace nm s) H td Fin [(x,a,wh)] H6:=by
  refine⟨_,_,pl,_,_,_,[],n6,p6,zero_le _,none_of s2 hpl,ntp,⟨_,_,hrep',htr'⟩,λH' p tr F sx q r t _=>?_⟩;show Fin H';rw[hFin];exact⟨p,tr,F,sx _ _ (nin2 (aB n6 e6 (by intro z;cases z)) (aB n6 p6 (by intro z;cases z))) n6,q,r,t⟩
 obtain⟨Pv,hPv⟩:∃Pv:Nat->L2.St->Hp->Prop,Pv=λm σ H'=>∃(L:List (Term×Addr×Addr)) (zw:List Addr) (z1 z2 z3 z4 z5:Option V),m=szL L/\m<=300/\σ=[some (.ref a),some (.str (S nm)),some (.ref o),some (.ref wh),some (.ref td),z1,z2,z3,z4,z5]/\Same H H'/\H' td=some (.lst (zw.reverse.map V.ref))/\Paired (λit q=>H' it=some (.tup [.ref q.2.1,.ref q.2.2])) zw L/\GoR J.C_a (inPlace nm s) H td Fin L H':=⟨_,rfl⟩;refine bD (dv Pv (szX x+0) (by rw[hPv];exact⟨[(x,a,wh)],[it0],none,none,none,none,none,rfl,by omega,rfl,s06,e6,.cons (s6 _ _ e5) .nil,g0⟩) λm σ H' hp=>?_);rw[hPv]at hp;obtain⟨L,zw,z1,z2,z3,z4,z5,rfl,hm,rfl,sm,hto,hits,hgo⟩:=hp;simp![tRet];cases hits with
 |nil =>
  refine⟨false,.inl ⟨_,SqL.of hto,rfl⟩,?_⟩;rw[if_neg (by simp)];have hgo:Fin H':=hgo;rw[hFin]at hgo;refine x_33 hgo λp tr F h1 h2 h3 h4=>?_;simp![tFld,h1];exact⟨T.cl_a,T.n_aF,_,rfl,_,rfl,_,SqL.of h2,_,rfl,k _ _ _ _ sm h3 h4⟩
 |@cons it q its' L' hit hits' =>
 refine⟨true,.inl ⟨_,SqL.of hto,by simp⟩,?_⟩;rw[if_pos rfl];refine⟨_,λ_ _ z=>z,?_⟩;obtain⟨y,ay,n⟩:=q;have hll:=r8 L';rw[<- Paired.length hits']at hll;have hto':H' td=some (.lst (its'.reverse.map V.ref++[.ref it])):=by
  rw[hto,reverse_cons,map_append];rfl
 refine bD ?_;simp![tBM0,rPop];refine⟨.inl ⟨rfl,_,SqL.of hto⟩,_,hto',V.ref it,by simp,?_⟩;rw[dropLast_concat];have sx1:af [td] H' (upd H' td (.lst (its'.reverse.map V.ref))):=af.upd (mem_singleton.mpr rfl);have ht1:upd H' td (.lst (its'.reverse.map V.ref)) td=some (.lst (its'.reverse.map V.ref)):=ai;generalize upd H' td (.lst (its'.reverse.map V.ref))=H7 at sx1 ht1 ⊢;have lift:∀{q:Addr}{o:HO},H' q=some o->q≠td->H7 q=some o:=λ{q o} h n=>sx1 _ _ (nin n) h;have hit7:=lift hit (aB hit hto' (by intro z;cases z));obtain⟨dxo,wlo,plo,fo,bo,eo,vs,g1,g2,g3,g4,g5,⟨try_,Fy,gr,gt⟩,gk⟩:=hgo;have g17:=lift g1 (aB g1 hto' (by intro z;cases z));have g27:=lift g2 g5;have sm7:Same H H7:=sx1.base sm λz m=>by rw[mem_singleton.mp m];exact td0
 have gr':=gr;cases gr with
 |@mk _ by_ ey psy hpsy =>
 cases gt with
 |@mk _ dxy wly ply _ _ _ _ asy _ Gy u1 u2 u3 u4 =>
 have u17:=sm7 _ _ u1;have u27:=sm7 _ _ u2;have u37:=sm7 _ _ u3;refine bD ?_;simp![tRet];refine⟨_,SqT.of hit7,_,rfl,?_⟩;refine bD ?_;simp![tRet];refine⟨_,SqT.of hit7,_,rfl,?_⟩;have hm2:szX y+szL L'<=300:=hm;by_cases hc:y=.leaf (.name nm)
 ·subst hc
  simp![tFld,u17,tBM,bG];refine⟨T.cl_a,T.n_aD,_,rfl,rfl,?_⟩;rw[if_pos (by rw[aI];rfl)];refine⟨T.cl_a,T.n_aC,_,rfl,_,rfl,_,SqL.of u27,.str (S nm),rfl,rfl,?_⟩;rw[if_pos rfl];refine⟨_,_,_,g17,T.cl_a,T.n_aF,_,rfl,.inl ⟨rfl,_,SqL.of g27⟩,_,rfl,_,g27,Nat.lt_of_le_of_lt g3 (by decide),szL L',by show _<1+szL L';omega,?_⟩;have sx2:af [td,plo] H' (upd H7 plo (.lst (vs++[.ref o]))):=(sx1.more (by simp)).trans (af.upd (by simp));have sm2:Same H (upd H7 plo (.lst (vs++[.ref o]))):=sx2.base sm λz m=>(mem_cons.mp m).elim (λq=>by rw[q];exact td0) λm=>by rw[mem_singleton.mp m];exact g4
  rw[hPv];refine⟨L',its',_,_,_,_,_,rfl,by omega,rfl,sm2,by rw[ao (Ne.symm g5)];exact ht1,gL hits' sx2 λz m=>(mem_cons.mp m).elim (λq=>by rw[q];exact⟨_,hto'⟩) λm=>by rw[mem_singleton.mp m];exact⟨_,g2⟩,gk _ o ts G sx2 ai (by rw[show inPlace nm s (.leaf (.name nm))=s from if_pos rfl];exact hrs) (hts.same sm2) λz m=>?_⟩;obtain⟨u,q⟩:=hts.here z m;exact⟨aF q td0,.inr (by rw[q];exact Option.some_ne_none _)⟩
 simp![tFld,u17,tBM,bG];refine⟨T.cl_a,T.n_aD,_,rfl,rfl,?_⟩;refine Au ?_ λhp t=>?_
 rotate_left
 ·rcases rW [] y with⟨z,rfl⟩|⟨v,rfl⟩|⟨n1,_⟩
  ·refine⟨T.cl_a,T.n_aC,_,rfl,_,rfl,_,SqL.of u27,.str (S z),rfl,rfl,?_⟩
   rw[if_neg (by simp only[V.str.injEq,bB];exact λq=>hc (by rw[q]))];exact t
  ·rw[aI]at hp
   simp only[V.str.injEq,bB]at hp;exact absurd (show Vaunid.txt "number"=Vaunid.txt "name"from hp) (by left)
  rw[aI]at hp;simp only[V.str.injEq,bB]at hp;exact absurd hp n1
 refine bD ?_;simp![bp,tFld,u17];refine⟨T.cl_a,T.n_aD,_,rfl,T.cl_a,T.n_aC,_,rfl,zero_le _,λplc hplc=>?_⟩;have s8:Same H7 (upd H7 plc (.lst [])):=Same.upd hplc;have e8:upd H7 plc (.lst []) plc=some (.lst []):=ai;generalize upd H7 plc (.lst [])=H8 at s8 e8 ⊢;refine⟨_,_,_,s8 _ _ u17,T.cl_a,T.n_aH,_,rfl,_,_,_,s8 _ _ u17,T.cl_a,T.n_aI,_,rfl,?_⟩;refine bZ rfl λc dxc H9 hcc s9 e9=>bD ?_;have s79:=s8.trans s9;have g19:=s79 _ _ g17;have g29:=s79 _ _ g27;simp![tFld,tBM,bG,g19];refine⟨T.cl_a,T.n_aF,_,rfl,.inl ⟨rfl,_,SqL.of g29⟩,_,rfl,_,g29,Nat.lt_of_le_of_lt g3 (by decide),?_⟩;have sx3:af [plo] H9 (upd H9 plo (.lst (vs++[.ref c]))):=af.upd (mem_singleton.mpr rfl);have e10:upd H9 plo (.lst (vs++[.ref c])) plo=some (.lst (vs++[.ref c])):=ai;generalize upd H9 plo (.lst (vs++[.ref c]))=H10 at sx3 e10 ⊢;have sx4:af [td,plo] H' H10:=(sx1.more (by simp)).trans ((af.of s79).trans (sx3.more (by simp)));have sm10:Same H H10:=sx4.base sm λz m=>(mem_cons.mp m).elim (λq=>by rw[q];exact td0) λm=>by rw[mem_singleton.mp m];exact g4
 have t10:=sx3 _ _ (nin (Ne.symm g5)) (s79 _ _ ht1);have n1:plc≠td:=Ne.symm (aF ht1 hplc);have n2:c≠td:=aB (sx3 _ _ (nin (aB e9 g29 (λz=>nomatch z))) e9) t10 (λz=>nomatch z);have n3:c≠plc:=Ne.symm (aF e8 hcc);have n4:plo≠plc:=aF g27 hplc;have c10:=sx3 _ _ (nin (aB e9 g29 (λz=>nomatch z))) e9;have p10:=sx3 _ _ (nin (Ne.symm n4)) (s9 _ _ e8);have fc:H' c=none:=eg sx1 (nin n2) (none_of s8 hcc);have fp:H' plc=none:=eg sx1 (nin n1) hplc;refine x_12 (Al hpsy u4) λM m1 m2 m3=>?_;have hM3:M.length<=3:=by
  have:=congrArg List.length m1;rw[length_map]at this;rw[this];cases y<;>exact le_of_ble_eq_true rfl
 obtain⟨N,hN⟩:∃N:List (Term×Addr×Addr),N=M.map λq=>(q.1,q.2,c):=⟨_,rfl⟩;have hNl:N.length=M.length:=by rw[hN,length_map]
 have hNa:asy=N.map λq=>q.2.1:=by rw[hN,map_map,<- m2];rfl
 have hNc:∀q∈N,q.2.2=c:=λq m=>by rw[hN]at m;obtain⟨z,_,rfl⟩:=mem_map.mp m;rfl
 have hp0:H plc=none:=none_of sm7 hplc;have u310:=sm10 _ _ u3;refine dy ?_;simp![iRev,tFld];refine⟨_,_,_,sm10 _ _ u1,T.cl_a,T.n_aF,_,rfl,_,rfl,_,SqL.of u310,?_⟩;refine gA (asy.map V.ref) (λi σ H3=>(∃z,σ=[some (.ref a),some (.str (S nm)),some (.ref o),some (.ref wh),some (.ref td),some (.ref it),some (.ref ay),some (.ref n),some (.ref c),z])/\af [td] H10 H3/\∃nw,H3 td=some (.lst ((its'.reverse++nw).map V.ref))/\nw.length=i/\Paired (λit q=>H3 it=some (.tup [.ref q.2.1,.ref q.2.2])) nw (N.reverse.take i))
  ⟨⟨_,rfl⟩,λ_ _ _ q=>q,[],by rw[append_nil];exact t10,rfl,.nil⟩ (λi σ H3 _ q=>SqL.of (q.2.1 _ _ (nin (aF u3 td0)) u310)) (λi x σ H3 hx q=>?_) λσ H3 q=>?_
 ·refine x_02 q λzn0 sx5 zz0=>?_
  refine x_12 zz0 λnw hnw hnl pnw=>?_;obtain⟨z,rfl⟩:=zn0;rw[<- map_reverse,getElem?_map,hNa,<- map_reverse,getElem?_map]at hx;cases qa:N.reverse[i]? with
  |none=>rw[qa]at hx;cases hx
  |some q =>
  rw[qa]at hx;cases hx;have hil:=(List.getElem?_eq_some_iff.mp qa).1;rw[length_reverse,hNl]at hil;simp![tSeq,tBM,bG];refine⟨.inl ⟨rfl,_,SqL.of hnw⟩,by decide,λg hg=>?_⟩;have s11:Same H3 (upd H3 g (.tup [.ref q.2.1,.ref c])):=Same.upd hg;have e11:upd H3 g (.tup [.ref q.2.1,.ref c]) g=some (.tup [.ref q.2.1,.ref c]):=ai;generalize upd H3 g (.tup [.ref q.2.1,.ref c])=H4 at s11 e11 ⊢;have hnw4:=s11 _ _ hnw;have sx6:af [td] H4 (upd H4 td (.lst ((its'.reverse++nw).map V.ref++[.ref g]))):=af.upd (mem_singleton.mpr rfl);have nt:∀x∈[td],∃l,H4 x=some (.lst l):=λx hx=>by rw[mem_singleton.mp hx];exact⟨_,hnw4⟩
  refine⟨_,hnw4,?_,sx5.trans ((af.of s11).trans sx6),nw++[g],?_,by rw[length_append,hnl];rfl,?_⟩
  ·rw[length_map,length_append,length_reverse]
   exact Nat.lt_of_le_of_lt (show _<=303 by omega) (by decide)
  ·rw[<- append_assoc,map_append (l₁:=its'.reverse++nw)]
   rfl
  rw[take_succ,qa];refine cS (gL (gL pnw (af.of (xs:=[]) s11) (by simp)) sx6 nt) ?_;rw[hNc q (List.mem_reverse.mp (mem_of_getElem? qa))];exact sx6 _ _ (nin (aB e11 hnw4 (λz=>nomatch z))) e11
 refine x_02 q λzn0 sx5 zz0=>?_;refine x_12 zz0 λnw hnw hnl pnw=>?_;obtain⟨z,rfl⟩:=zn0;have el:(asy.map V.ref).length=N.reverse.length:=by rw[hNa,length_map,length_map,length_reverse]
 rw[el,take_length]at pnw;have pn:=gK pnw;rw[reverse_reverse]at pn;have nt:∀x∈[td],∃l,H10 x=some (.lst l):=λx hx=>by rw[mem_singleton.mp hx];exact⟨_,t10⟩
 have nt2:∀x∈[td,plo],∃l,H' x=some (.lst l):=λx m=>(mem_cons.mp m).elim (λq=>by rw[q];exact⟨_,hto'⟩) λm=>by rw[mem_singleton.mp m];exact⟨_,g2⟩
 have hsl:=As y m1 c L';rw[<- hN]at hsl;refine⟨szL (N++L'),by show _<szX y+szL L';omega,?_⟩;rw[hPv];refine⟨N++L',nw.reverse++its',_,_,_,_,_,rfl,by omega,rfl,sx5.base sm10 λz m=>by rw[mem_singleton.mp m];exact td0,by rw[hnw,reverse_append,reverse_reverse],gJ pn (gL (gL hits' sx4 nt2) sx5 nt),?_⟩;rw[hN];have nl:∀{z:Addr}{o:HO},H10 z=some o->z≠td->H3 z=some o:=λq n=>sx5 _ _ (nin n) q;exact Am (b:=by_) (e:=ey) (rZ hc) gk td0 hp0 n1 n2 n3 n4 g5 u2 fc fp M [] [] [] [] H3 m3 m1.symm (by rw[length_nil];omega) (sx5.base sm10 λz m=>by rw[mem_singleton.mp m];exact td0) (nl c10 n2) (nl p10 n1) (nl e10 g5) (sx4.trans (sx5.more (by simp))) .nil .nil (by simp)
end
section
variable{base:Heap}
theorem Av{aw:List (List Nat)}{x:Term}(ha:aw.length<=700)(hs:szX x<=300)(h:GT x):GT (plainAway aw x):=by
 have h1:=ly x;refine qH x [] _ all0 (Fr.nw (by omega) (jf aw (aw.length+Vaunid.bindings x) 0 (Vaunid.bindings x))) ?_ h;rw[gF aw _ 0 (Vaunid.bindings x) aw (by omega) (λ_ _ _ m=>m) (Nat.le_refl _)];exact Nat.le_refl _
theorem Aw{nm:List Nat}{s x:Term}(hs:GT s)(h:GT x):GT (inPlace nm s x):=by
 induction h with
 |@mk x hw hp ih =>
 by_cases q:x=.leaf (.name nm)
 ·rw[q,show inPlace nm s (.leaf (.name nm))=s from if_pos rfl]
  exact hs
 obtain⟨a,b,c⟩:=rZ (s:=s) q;refine .mk (by rw[a,b];exact hw) λy m=>?_;rw[c]at m;obtain⟨z,zm,rfl⟩:=mem_map.mp m;exact ih z zm
theorem Ax(nm:List Nat)(s x:Term):szX (inPlace nm s x)<=szX x*szX s:=by
 have p:=qC s;have e:∀n:Nat,(1+n)*szX s=szX s+n*szX s:=λn=>by rw[add_mul,one_mul]
 induction x with
 |leaf l =>
  cases l with
  |name y =>
   show szX (if y=nm then s else .leaf (.name y))<=1*szX s;by_cases q:y=nm
   ·rw[if_pos q,one_mul];exact Nat.le_refl _
   rw[if_neg q,one_mul];exact p
  |_=>show 1<=1*szX s;omega
 |one o a ia=>show 1+szX _<=(1+szX a)*_;rw[e];omega
 |two o a b ia ib=>show 1+szX _+szX _<=(1+szX a+szX b)*_;rw[add_mul,e];omega
 |three o a b c ia ib ic=>show 1+szX _+szX _+szX _<=(1+szX a+szX b+szX c)*_;rw[add_mul,add_mul,e];omega
 |fn _ a ia=>show 1+szX _<=(1+szX a)*_;rw[e];omega
 |rec_ _ _ a ia=>show 1+szX _<=(1+szX a)*_;rw[e];omega
 |let_ _ a b ia ib=>show 1+szX _+szX _<=(1+szX a+szX b)*_;rw[add_mul,e];omega
 |case a b _ _ c ia ib ic=>show 1+szX _+szX _+szX _<=(1+szX a+szX b+szX c)*_;rw[add_mul,add_mul,e];omega
def cX(nm:List Nat)(x s:Term):Term:=inPlace nm s (plainAway (Vaunid.free x++(Vaunid.free s++[nm])) x)
def r9(Cn:Addr):Sp:=λvs H Q _=>∃(nm:List Nat) (a b:Addr) (x s:Term) (tr ts:Tr) (F G:List Addr),vs=[.str (S nm),.ref a,.ref b]/\Rep x tr/\TreeAt Cn H a tr F/\szX x<=300/\Rep s ts/\TreeAt Cn H b ts G/\szX s<=300/\∀(p:Addr) (tr':Tr) (F':List Addr) (H':Hp),Same H H'->Rep (cX nm x s) tr'->TreeAt Cn H' p tr' F'->Q (.ref p) H'
theorem ok_Z(T:TZ):FO base 6 J.f_Z J.d_Z ["name","term","other"] (r9 J.C_a):=by
 refine T.F_Z.fn.ok sc_Z λ_ _ _ _ H _ Q E hr h=>?_;refine x_90 h λnm a b x s tr ts F G zy=>x_07 zy λzr9 hrx htx hsx hrs hts hss k=>?_;subst zr9;refine⟨_,(ag (aA 3 sc_Z.nd (aY gZ (aY gZ (aD T.F_w (ok_w T) hr.m ak (aa (pv 1) ae)) (aD T.F_w (ok_w T) hr.m ak (aa (pv 2) ae))) (aR (aa (pv 0) ae))))
  (ah (az (aD T.F_E (ok_E T) hr.m ak (aa (aD T.F_D (ok_D T) hr.m ak (aa (pv 1) (aa (pv 3) ae))) (aa (pv 0) (aa (pv 2) ae))))))),?_⟩
 simp![tSeq,rCat,lJ,r0,bB];have l1:=fF x;have l2:=fF s;have big:∀{n:Nat},n<=700->n<=sizeLine:=λh=>Nat.le_trans h (by decide);refine⟨x,tr,hrx,F,htx,hsx,λp1 H1 s1 e1=>⟨s,ts,hrs,G,hts.same s1,hss,λp2 H2 s2 e2=>⟨_,s2 _ _ e1,_,e2,?_,λp3 h3=>⟨by decide,λp4 h4=>⟨_,Same.upd h4 _ _ ai,_,rfl,?_,λp5 h5=>?_⟩⟩⟩⟩⟩
 ·rw[length_map,length_map,length_map,length_map]
  exact big (by omega)
 ·rw[length_append,length_map,length_map,length_map,length_map]
  exact big (by show _+1<=700;omega)
 have sm:=λo:HO=>s1.trans (s2.trans ((Same.upd h3).trans ((Same.upd h4).trans (Same.upd (o:=o) h5))));refine⟨a,p5,x,tr,F,Vaunid.free x++(Vaunid.free s++[nm]),hrx,htx.same (sm _),?_,?_,hsx,λp6 t6 F6 H6 s6 r6 tt6=>?_⟩
 ·rw[ai,map_append,map_append,map_append,map_append,append_assoc]
  rfl
 ·rw[length_append,length_append]
  show _+(_+1)<=700;omega
 refine⟨p6,rfl,_,s,t6,r6,ts,F6,tt6,hrs,G,hts.same ((sm _).trans s6),by rw[show szX (plainAway _ x)=szX x from lx x _ _];exact hsx,λp7 t7 F7 H7 s7 r7 tt7=>k p7 t7 F7 H7 ((sm _).trans (s6.trans s7)) r7 tt7⟩
end
section
variable{base:Heap}
def sd:Sp:=λvs H Q _=>∃l:List Nat,vs=[.str (S l)]/\l.length<=20000/\∀(p:Addr) (H':Hp),Same H H'->H' p=some (.lst (bs l))->Q (.ref p) H'
theorem ok_ar(T:TZ):FO base 1 J.f_ar J.d_ar ["shown"] sd:=by
 refine T.F_ar.fn.ok sc_ar λ_ _ _ _ H _ Q E hr h=>?_;refine x_12 h λl zr1 hl k=>?_;subst zr1;refine⟨_,(ah (az (fR rfl sc_ar.nd (jU (pv 0)) (fS (own:=[("sign",1)]) (by kernel_rfl)) (λ_ _ _ _ _=>pg_q 1 sc_ar.nd) (λ_ _ _ _ _=>fQ) (λ_ _ _ _ _=>(bx gT rfl T.b_ord iD (aa (pv 1) ae)))))),?_⟩;simp![tSeq];refine gf (Its (S l)) (l.map λd=>V.str ⟨#[d]⟩) (λv=>match v with|.str x=>V.int (x.cps.getD 0 0:Nat)|_=>.non) (H1:=H) (λR h=>?_) (by rw[length_map];exact Nat.le_trans hl (by decide)) (j' (x:=S l)) (λx H' D zx Nx hx sm hD hacc nx=>?_) λD H' hD sm e=>?_
 ·simp![tSeq]
  exact h
 ·obtain⟨d,hd,rfl⟩:=mem_map.mp hx
  simp![tSeq];exact⟨zx,hD,hacc,nx H' (Same.refl _)⟩
 refine k D H' sm ?_;rw[e,map_map];rfl
theorem lM{ns:List Int}(h:∀n∈ns,0<=n/\n<=255):ns.map V.int=bs (ns.map Int.toNat):=by
 unfold bs;rw[map_map];refine List.map_congr_left λn hn=>?_;show V.int n=V.int ((n.toNat:Nat):Int);rw[Int.toNat_of_nonneg (h n hn).1]
theorem lN{ns:List Int}(h:∀n∈ns,0<=n/\n<=255):VaunidNeutral.text? ns=some (ns.map Int.toNat):=by
 unfold VaunidNeutral.text?;rw[if_pos];unfold NeutralIO.bytes;exact all_eq_true.mpr λn hn=>by have:=h n hn;simp;omega
def se(Cn:Addr):Sp:=λvs H Q _=>∃(a:Addr) (x:Term) (tr:Tr) (F:List Addr),vs=[.ref a]/\Rep x tr/\TreeAt Cn H a tr F/\szX x<=300/\GT x/\∀H',Same H H'->Q (.str (S (coreText x))) H'
theorem ok_at(T:TZ):FO base 12 J.f_at J.d_at ["term"] (se J.C_a):=by
 refine T.F_at.fn.ok sc_at λ_ _ _ _ H _ Q E hr h=>?_;refine x_40 h λa x tr F zy=>x_05 zy λzr4 hrep htr hsz hwb k=>?_;subst zr4;refine⟨_,(ah (az (aD T.F_R (ok_R T) hr.m ak (aa (pv 0) (aa (pe_r T.F_S.mg) ae))))),?_⟩;simp![tSeq,rL];have zr:=qz hwb;refine⟨Term,λy v _=>PcAt J.C_a H v (.inr y),pcsX,⟨λ_ _ _ _ _ h _ _=>h,λy v H1 h s1=>?_,?_⟩,coreText,λy=>14*szX y,x,⟨a,tr,F,rfl,hrep,htr⟩,yr,yA,(show 14*szX x<=1000000 by omega),by omega,k⟩
 ·obtain⟨b,tb,G,rfl,_,hb⟩:=h
  cases hb with
  |@mk _ dxn wl pl _ _ _ _ as _ G t1 t2 t3 t4 =>
  exact⟨_,.ins (s1 _ _ t1) T.cl_a T.ns_a.ha T.ns_a.hn T.ns_a.htk T.ns_a.hm,T.ns_a.ks⟩
 refine⟨_,_,_,(ok_S (base:=base) T).mono (by decide),T.F_S.b,T.F_S.fn.kp,λy v H1 Q E h s1 k1=>?_⟩;obtain⟨b,tb,G,rfl,hr,hb⟩:=h;refine⟨b,y,tb,G,H,rfl,s1,hr,hb,λp us H2 hp s2 e2 pu=>k1 p us H2 hp s2 e2 (Paired.mapP pu λ_ c q=>?_)⟩;cases c with
 |inl w=>exact q
 |inr y=>exact q
def sf:Sp:=λvs H Q _=>∃l:List Nat,vs=[.str (S l)]/\l.length<=7000000/\∀(p:Addr) (H':Hp),Same H H'->H' p=some (.lst ((answerText l).map V.int))->Q (.ref p) H'
theorem ok_aB(T:TZ):FO base 2 J.f_aB J.d_aB ["shown"] sf:=by
 refine T.F_aB.fn.ok sc_aB λ_ _ _ _ H _ Q E hr h=>?_;refine x_12 h λl zr1 hl k=>?_;subst zr1;refine⟨_,(ag (aG (aC dE (bx dI rfl T.b_len PySem.boot_len (aa (pv 0) ae)) (pe_g T.g_aL) (aH _)) (ah (az (aR (aa (pe_g T.g_aU) ae)))) aP)
  (ah (az (aY gZ (aR (aa au ae)) (aD T.F_ar (ok_ar T) hr.m ak (aa (pv 0) ae)))))),?_⟩
 have el:long l=decide (2000<l.length):=rfl;unfold answerText at k;rw[el]at k;simp![tSeq,rCat,sd,bB];have small:∀n:Nat,n<=7000000->n<=sizeLine:=λn h=>Nat.le_trans h (by decide);refine⟨small _ hl,ite2 (λh=>?_) λh=>?_⟩
 ·rw[decide_eq_true (show 2000<l.length by omega),if_pos rfl]at k
  exact⟨by decide,λp hp=>k p _ (Same.upd hp) ai⟩
 rw[decide_eq_false (show ¬2000<l.length by omega),if_neg (by simp)]at k;refine⟨by decide,λp hp=>⟨by omega,λq H1 s1 e1=>⟨_,s1 _ _ ai,_,e1,?_,λr hr=>k r _ ((Same.upd hp).trans (s1.trans (Same.upd hr))) ?_⟩⟩⟩
 ·rw[cg]
  exact small _ (by show 1+l.length<=_;omega)
 rw[ai];unfold Vaunid.numbers bs;rw[map_cons,map_map];rfl
def sg(Cn:Addr):Sp:=λvs H Q _=>∃(a:Addr) (x:Term) (tr:Tr) (F:List Addr),vs=[.ref a]/\Rep x tr/\TreeAt Cn H a tr F/\szX x<=300/\∀(p:Addr) (tr':Tr) (F':List Addr) (H':Hp),Same H H'->Rep (Vaunid.plain x) tr'->TreeAt Cn H' p tr' F'->Q (.ref p) H'
theorem ok_au(T:TZ):FO base 5 J.f_au J.d_au ["term"] (sg J.C_a):=by
 refine T.F_au.fn.ok sc_au λ_ _ _ _ H _ Q E hr h=>?_;refine x_40 h λa x tr F zy=>x_04 zy λzr4 hrep htr hsz k=>?_;subst zr4;refine⟨_,(ah (az (aD T.F_D (ok_D T) hr.m ak (aa (pv 0) (aa (aD T.F_w (ok_w T) hr.m ak (aa (pv 0) ae)) ae))))),?_⟩;simp![tSeq,lJ];refine⟨x,tr,hrep,F,htr,hsz,λp H1 s1 e1=>?_⟩;have:=fF x;exact⟨a,p,x,tr,F,Vaunid.free x,hrep,htr.same s1,e1,by omega,hsz,λq tr' F' H' s2 r2 t2=>k q tr' F' H' (s1.trans s2) r2 t2⟩
theorem Ay(x:Term):szX (Vaunid.plain x)=szX x:=lx x _ _
theorem Az(x:Term)(hs:szX x<=300)(h:GT x):GT (Vaunid.plain x):=by
 have h1:=ly x;have h2:=fF x;refine qH x [] _ all0 (Fr.nw (by omega) (jf (Vaunid.free x) ((Vaunid.free x).length+Vaunid.bindings x) 0 (Vaunid.bindings x))) ?_ h;rw[gF (Vaunid.free x) _ 0 (Vaunid.bindings x) (Vaunid.free x) (by omega) (λ_ _ _ m=>m) (Nat.le_refl _)];exact Nat.le_refl _
def AA(Cn:Addr):Sp:=λvs H Q _=>∃(x:Term) (v:V),vs=[v]/\cW Cn x v H/\∀(p:Addr) (H':Hp),Same H H'->H' p=some (.lst ((answerText (coreText (Vaunid.plain x))).map V.int))->Q (.ref p) H'
theorem ok_aq(T:TZ):FO base 13 J.f_aq J.d_aq ["term"] (AA J.C_a):=by
 refine T.F_aq.fn.ok sc_aq λ_ _ _ _ H _ Q E hr h=>?_;refine x_22 h λx v zr2 zn3 k=>?_;subst zr2;obtain⟨a,tr,F,rfl,hrep,htr,hfl,hdp,hwb⟩:=zn3;refine⟨_,(ah (az (aD T.F_aB (ok_aB T) hr.m ak (aa (aD T.F_at (ok_at T) hr.m ak (aa (aD T.F_au (ok_au T) hr.m ak (aa (pv 0) ae)) ae)) ae)))),?_⟩;have hsz:szX x<=300:=by rw[<- jc hrep 1];exact hfl
 have hsz2:=Ay x;have hwb2:=Az x hsz hwb;have zr:=qz hwb2;rw[hsz2]at zr;simp![tSeq,sg,se,sf,bB];exact⟨x,tr,hrep,F,htr,hsz,λp tr' F' H1 s1 r1 t1=>⟨Vaunid.plain x,tr',r1,F',t1,by omega,hwb2,λH2 s2=>⟨by omega,λq H3 s3 e3=>k q H3 (s1.trans (s2.trans s3)) e3⟩⟩⟩
theorem AB(x:Term):∀(d:Nat) (env:RE) (new:List (List Nat)),depths d (Vaunid.renamed env new x).1=depths d x:=by
 induction x with
 |leaf l=>intro d env new;cases l<;>rfl
 |_=>intro d env new;simp only[*,Vaunid.renamed,depths]
mutual
theorem si(m d:Nat):∀t:Tr,(∀p∈aQ d t,p.1<=m)->d+dR t<=m+1
 |.mk f ws b e ps,h=>by
  have h:∀p∈(d,Tr.mk f ws b e ps)::bO (d+1) ps,p.1<=m:=h;obtain⟨h1,h2⟩:=forall_mem_cons.mp h;have h1:d<=m:=h1;have:=sj m (d+1) ps (by omega) h2;show d+(1+dC ps)<=_;omega
theorem sj(m d:Nat):∀ts:List Tr,d<=m+1->(∀p∈bO d ts,p.1<=m)->d+dC ts<=m+1
 |[],h,_=>h
 |t::r,h0,h=>by
  obtain⟨h1,h2⟩:=List.forall_mem_append.mp (show ∀p∈aQ d t++bO d r,p.1<=m from h);have a:=si m d t h1;have b:=sj m d r h0 h2;show d+max (dR t) (dC r)<=_;omega
end
theorem lO:∀(l:List (Nat×Tr)) (i:Nat),i<=300->(limT i l=none↔(∀p∈l,p.1<=40)/\i+l.length<=300)
 |[],i,h=>⟨λ_=>⟨all0,h⟩,λ_=>rfl⟩
 |p::l,i,h=>by
  have e:limT i (p::l)=if 40<p.1 then some (8,p.2.b)else if i=300 then some (9,p.2.b)else limT (i+1) l:=rfl;rw[e,length_cons,forall_mem_cons];by_cases a:40<p.1
  ·rw[if_pos a]
   exact⟨λz=>(by cases z),λz=>absurd z.1.1 (by omega)⟩
  rw[if_neg a];by_cases b:i=300
  ·rw[if_pos b]
   exact⟨λz=>(by cases z),λz=>absurd z.2 (by omega)⟩
  rw[if_neg b,lO l (i+1) (by omega)];exact⟨λz=>⟨⟨by omega,z.1⟩,by omega⟩,λz=>⟨z.1.2,by omega⟩⟩
theorem sr(n:Nat):∀(l:List Nat) (m:Nat),l.foldl (λ(m:Nat) d=>if m<d then d else m) m<=n↔m<=n/\∀d∈l,d<=n
 |[],m=>⟨λh=>⟨h,all0⟩,λh=>h.1⟩
 |d::l,m=>by
  rw[foldl_cons,sr n l,forall_mem_cons];by_cases q:m<d
  ·rw[if_pos q]
   exact⟨λz=>⟨by omega,z⟩,λz=>z.2⟩
  rw[if_neg q];exact⟨λz=>⟨z.1,by omega,z.2⟩,λz=>⟨z.1,z.2.2⟩⟩
theorem AD{nm:List Nat}{x s:Term}{tr:Tr}(h:Rep (cX nm x s) tr):putAnswer nm x s=match limT 0 (aQ 1 tr)with
  |none=>answerText (coreText (Vaunid.plain (cX nm x s)))
  |some _=>[-4]:=by
 have e1:=qm h 1;have e2:depths 1 (Vaunid.plain (cX nm x s))=(aQ 1 tr).map (·.1):=(AB _ _ _ _).trans e1.symm;have li:=lO (aQ 1 tr) 0 (by decide);rw[zero_add]at li;have e3:Vaunid.nodes (Vaunid.plain (cX nm x s))=(aQ 1 tr).length:=by unfold Vaunid.nodes;rw[e2,length_map]
 have e4:Vaunid.deepest (Vaunid.plain (cX nm x s))<=40↔∀p∈aQ 1 tr,p.1<=40:=by
  unfold Vaunid.deepest;rw[e2,sr];exact⟨λz p m=>z.2 _ (List.mem_map_of_mem m),λz=>⟨zero_le _,λd m=>by obtain⟨p,pm,rfl⟩:=mem_map.mp m;exact z p pm⟩⟩
 show(if 300<Vaunid.nodes (Vaunid.plain (cX nm x s))\/40<Vaunid.deepest (Vaunid.plain (cX nm x s))then[-4]else answerText (coreText (Vaunid.plain (cX nm x s))))=_;rw[e3];cases q:limT 0 (aQ 1 tr)with
 |none =>
  obtain⟨a,b⟩:=li.mp q;exact if_neg λz=>z.elim (λz=>absurd z (by omega)) λz=>absurd (e4.mpr a) (by omega)
 |some v =>
 refine if_pos (Classical.byContradiction λz=>?_);rw[not_or]at z;have:=li.mpr ⟨e4.mp (by omega),by omega⟩;rw[q]at this;cases this
def AE(Cn:Addr):Sp:=λvs H Q _=>∃(nm:List Nat) (x s:Term) (v u:V),vs=[.str (S nm),v,u]/\cW Cn x v H/\cW Cn s u H/\∀(p:Addr) (H':Hp),Same H H'->H' p=some (.lst ((putAnswer nm x s).map V.int))->Q (.ref p) H'
theorem ok_ak(T:TZ):FO base 15 J.f_ak J.d_ak ["name","term","other"] (AE J.C_a):=by
 refine T.F_ak.fn.ok sc_ak λ_ _ _ _ H _ Q E hr h=>?_;refine x_50 h λnm x s v u zy=>x_03 zy λzr5 zn6 zn7 k=>?_;subst zr5;obtain⟨a,tr,F,rfl,hrx,htx,hfx,hdx,hgx⟩:=zn6;obtain⟨b,ts,G,rfl,hrs,hts,hfs,hds,hgs⟩:=zn7;have hsx:szX x<=300:=by rw[<- jc hrx 1];exact hfx
 have hss:szX s<=300:=by rw[<- jc hrs 1];exact hfs
 have l1:=fF x;have l2:=fF s;have gt:GT (cX nm x s):=Aw hgs (Av (by rw[length_append,length_append];show _+(_+1)<=700;omega) hsx hgx);have sz:szX (cX nm x s)<=100000:=Nat.le_trans (Ax nm s _) (Nat.le_trans (Nat.mul_le_mul (show szX (plainAway _ x)<=300 by rw[show szX (plainAway _ x)=szX x from lx x _ _];exact hsx) hss) (by decide));refine⟨_,(ag (eB (i:=3) (sc_ak).nd rfl (Or.inl rfl) (cq (ok_Z T) (hr.mono (by decide)) rfl T.F_Z.mg T.F_Z.fn.kp T.F_Z.b .nil ak (aa (pv 0) (aa (pv 1) (aa (pv 2) ae)))))
  (ag (zj (ts:=tRet (tLst (cC (tC (.int (-4))) tNil))) T.X_c rfl T.G_c rfl rfl
    (λpn E' D hx=>ah (a8 (cq (ok_I T) (hr.mono (by decide)) rfl T.F_I.mg T.F_I.fn.kp T.F_I.b .nil hx (aa (pv 3) ae))))
    (λa=>ah (az (aR (aa (pe_g T.g_aU) ae)))))
  (ah (az (cq (ok_aq T) (hr.mono (by decide)) rfl T.F_aq.mg T.F_aq.fn.kp T.F_aq.b .nil ak (aa (pv 3) ae)))))),?_⟩
 simp![tSeq,r9,bB];refine⟨x,s,tr,hrx,ts,F,htx,hsx,hrs,G,hts,hss,λp t1 F1 H1 s1 r1 tt1=>⟨p,t1,F1,rfl,tt1,by rw[jc r1 1];exact sz,?_⟩⟩;rw[AD r1]at k;have li:=lO (aQ 1 t1) 0 (by decide);cases q:limT 0 (aQ 1 t1)with
 |none =>
  rw[q]at k;obtain⟨a1,a2⟩:=li.mp q;exact λH2 s2=>⟨cX nm x s,.ref p,rfl,⟨p,t1,F1,rfl,r1,tt1.same s2,by omega,by have:=si 40 1 t1 a1;omega,gt⟩,λp' H3 s3 e3=>k p' H3 (s1.trans (s2.trans s3)) e3⟩
 |some v =>
 rw[q]at k;intro dx H2 s2 hdx;refine⟨rfl,λax dx' e1 hax=>?_⟩;simp![tSeq];exact⟨by decide,λp' hp=>k p' _ (s1.trans (s2.trans ((Same.upd hax).trans (Same.upd hp)))) ai⟩
end
section
variable{base:Heap}
def sv(K:Frag):Sp:=λvs H Q _=>∃(a b:Addr) (s t:List Nat),vs=[.ref a,.ref b]/\SqL K H a (bs s)/\SqL K H b (bs t)/\Q (.bl (long s||long t)) H
theorem ok_ap(T:TZ):FO base 2 J.f_ap J.d_ap ["first","second"] (sv K):=by
 refine T.F_ap.fn.ok sc_ap λ_ _ _ _ H _ Q E hr h=>?_;refine x_40 h λa b s t zy=>x_03 zy λzr4 hs ht k=>?_;subst zr4;refine⟨_,(ah (az (jx (eC dE (bx cZ rfl T.b_len PySem.boot_len (aa (pv 0) ae)) (pe_g T.g_aL) (aH _)) (gN (eC dE (bx cZ rfl T.b_len PySem.boot_len (aa (pv 1) ae)) (pe_g T.g_aL) (aH _)))))),?_⟩;have e1:long s=decide (2000<s.length):=rfl;have e2:long t=decide (2000<t.length):=rfl;rw[e1,e2]at k;simp![tSeq];refine⟨bs s,.inl hs,?_⟩;rw[cg];refine ite2 (λh=>?_) λh=>?_
 ·rw[decide_eq_true (show 2000<s.length by omega)]at k
  exact k
 rw[decide_eq_false (show ¬2000<s.length by omega)]at k;refine⟨bs t,.inl ht,?_⟩;rw[cg,show decide ((2000:Int)<(t.length:Int))=decide (2000<t.length)by congr 1;exact propext ⟨λh=>by omega,λh=>by omega⟩];exact k
theorem cW.same{Cn:Addr}{x:Term}{v:V}{H H':Hp}(h:cW Cn x v H)(s:Same H H'):cW Cn x v H':=by
 obtain⟨b,tr,F,e,r,t,q⟩:=h;exact⟨b,tr,F,e,r,t.same s,q⟩
def AF(P:Program)(w:World)(K:Frag)(mg:zM)(base:Heap)(Cn g:Addr)(ans:Term->Term->List Int):Prop:=∃fd ps sp,FnOk P w K mg base CX0 20 g fd ps sp/\aW K fd ps []/\PySem.W.FnAt g base /\
 ∀x y v u H Q E,cW Cn x v H->cW Cn y u H->(∀(p:Addr) (H':Hp),Same H H'->H' p=some (.lst ((ans x y).map V.int))->Q (.ref p) H')->sp [v,u] H Q E
def sy(P:Program)(w:World)(K:Frag)(mg:zM)(base:Heap)(Cn:Addr):Sp:=λvs H Q _=>∃(a b g:Addr) (s t:List Nat) (ans:Term->Term->List Int),vs=[.ref a,.ref b,.ref g]/\SqL K H a (bs s)/\SqL K H b (bs t)/\s.length<=10000/\t.length<=10000 /\
 AF P w K mg base Cn g ans/\∀(p:Addr) (H':Hp),Same H H'->H' p=some (.lst ((reading (readCore s) λx=>reading (Vaunid.second t) λy=>ans x y).map V.int))->Q (.ref p) H'
theorem ok_K(T:TZ):FO base 21 J.f_K J.d_K ["first","second","answering"] (sy P w K mg base J.C_a):=by
 refine T.F_K.fn.ok sc_K λ_ _ _ _ H _ Q E hr h=>?_;refine x_60 h λa b g s t ans zy=>x_06 zy λzr6 hs ht hs1 ht1 hF k=>?_;subst zr6;have G:FnOk P w K mg base (CX1 P w) 20 J.f_t J.d_t ["text"] (rH J.C_a J.C_c K):=(ok_t T).mono (by decide);refine⟨_,(ag (ow (i:=4) (ts:=tRet (tLst (cC (eE K (tVar 4) "kind") (cC (eE K (tVar 4) "place") tNil)))) T.X_c rfl T.G_c (sc_K).nd rfl rfl rfl rfl
    (λpn E' D hx=>ah (eB (i:=3) (sc_K).nd rfl (Or.inl rfl) (cq G (hr.mono (by decide)) rfl T.F_t.mg T.F_t.fn.kp T.F_t.b .nil hx (aa (pv 0) ae))))
    (λa=>ah (az (aR (aa (iA (pv 4) rfl) (aa (iA (pv 4) rfl) ae))))))
  (ag (ow (i:=4) (ts:=tRet (tLst (cC (tOp (rI0 λi j=>.int (i+j)) (eE K (tVar 4) "kind") (tC (.int 20))) (cC (eE K (tVar 4) "place") tNil)))) T.X_c rfl T.G_c (sc_K).nd rfl rfl rfl rfl
    (λpn E' D hx=>ah (eB (i:=5) (sc_K).nd rfl (Or.inl rfl) (cq G (hr.mono (by decide)) rfl T.F_t.mg T.F_t.fn.kp T.F_t.b .nil hx (aa (pv 1) ae))))
    (λa=>ah (az (aR (aa (aY cn (iA (pv 4) rfl) (pe_g T.g_bf)) (aa (iA (pv 4) rfl) ae))))))
  (ah (az (zh (CX:=CX0) (k:=20) 2 (hr.mono (by decide)) ak (aa (pv 3) (aa (pv 5) ae))))))),?_⟩
 simp![tSeq,qV];refine⟨a,s,rfl,hs,hs1,?_⟩;cases hrs:readCore s with
 |error e =>
  rw[hrs]at k;intro dx H' s' hdx;refine⟨rfl,λax dx' e1 hax=>?_⟩;cases e1;have hne:dx≠ax:=aF hdx hax;simp![tSeq,eE];have hd2:upd H' ax (XGot J.C_c ax dx) dx=some (XDic dx (kK (e.kind:Int) (e.place:Int))):=by rw[ao hne];exact hdx
  exact⟨_,_,_,rfl,_,hd2,T.X_c,T.n_bg,_,rfl,_,_,_,rfl,_,hd2,T.X_c,T.n_bh,_,rfl,by decide,λp hp=>k p _ (s'.trans ((Same.upd hax).trans (Same.upd hp))) ai⟩
 |ok x =>
 rw[hrs]at k;intro v H1 s1 hp1;refine⟨b,t,rfl,s1.seq ht,ht1,?_⟩;unfold Vaunid.second at k;cases hrt:readCore t with
 |error e =>
  rw[hrt]at k;intro dx H' s' hdx;refine⟨rfl,λax dx' e1 hax=>?_⟩;cases e1;have hne:dx≠ax:=aF hdx hax;simp![tSeq,eE];have hd2:upd H' ax (XGot J.C_c ax dx) dx=some (XDic dx (kK (e.kind:Int) (e.place:Int))):=by rw[ao hne];exact hdx
  exact⟨_,_,_,rfl,_,hd2,T.X_c,T.n_bg,_,rfl,_,rfl,_,_,_,rfl,_,hd2,T.X_c,T.n_bh,_,rfl,by decide,λp hp=>k p _ (s1.trans (s'.trans ((Same.upd hax).trans (Same.upd hp)))) ai⟩
 |ok y =>
 rw[hrt]at k;intro u H2 s2 hp2;refine x_33 hF λfd2 ps2 sp2 F2 b2 k2 r2=>?_;exact⟨fd2,ps2,sp2,F2,b2,k2,r2 x y v u H2 _ _ (hp1.same s2) hp2 λp H3 s3 e=>k p H3 (s1.trans (s2.trans s3)) e⟩
theorem jt(l:List Nat):isName l=(bq l&& !isTaken l):=by
 cases l with
 |nil=>rfl
 |cons c r =>
 show((Vaunid.isSmall c&&r.all Vaunid.inWord)&&(decide (r.length+1<=12)&& !isTaken (c::r)))=((true&&(decide (r.length+1<=12)&&(Vaunid.isSmall c&&(Vaunid.inWord c&&r.all Vaunid.inWord))))&& !isTaken (c::r));generalize r.all Vaunid.inWord=u,decide (r.length+1<=12)=v,isTaken (c::r)=t;cases h:Vaunid.isSmall c with
 |false=>cases v<;>rfl
 |true =>
 rw[show Vaunid.inWord c=true by unfold Vaunid.inWord;rw[h];rfl];cases u<;>cases v<;>cases t<;>rfl
def sC:Sp:=λvs H Q _=>∃l:List Nat,vs=[.str (S l)]/\l.length<=sizeLine/\∀H',Same H H'->Q (.bl (isName l)) H'
theorem ok_al(T:TZ):FO base 5 J.f_al J.d_al ["text"] sC:=by
 refine T.F_al.fn.ok sc_al λ_ _ _ _ H _ Q E hr h=>?_;refine x_12 h λl zr1 hl k=>?_;subst zr1;refine⟨_,(ah (az (lW (aD T.F_J (ok_J T) hr.m ak (aa (pv 0) ae)) (gN (eC gY (pv 0) (pe_r T.g_L) rfl))))),?_⟩;simp![tSeq,rb,bB];refine⟨hl,λH1 s1=>?_⟩;have k1:=k H1 s1;rw[jt]at k1;cases h:bq l with
 |false =>
  rw[h]at k1;exact k1
 |true =>
 rw[h]at k1;rw[if_pos rfl];refine⟨_,.inr (T.t_L H1),rfl,rfl,?_⟩;rw[pk,in_S,<- px];exact k1
theorem AG{nm ns ms:List Int}(h0:∀n∈nm,0<=n/\n<=255)(h:∀n∈ns,0<=n/\n<=255)(h':∀n∈ms,0<=n/\n<=255):PyVaunid.put nm ns ms=if(long (ns.map Int.toNat)||long (ms.map Int.toNat))=true then[-1]else if isName (nm.map Int.toNat)=false then[-3]else
  reading (readCore (ns.map Int.toNat)) λx=>reading (Vaunid.second (ms.map Int.toNat)) λy=>putAnswer (nm.map Int.toNat) x y:=by
 have e:VaunidNeutral.callOf [[10],nm,ns,ms]=some (.put (nm.map Int.toNat) (ns.map Int.toNat) (ms.map Int.toNat)):=by
  show((VaunidNeutral.text? nm).bind λz=>(VaunidNeutral.text? ns).bind λx=>(VaunidNeutral.text? ms).map λy=>Vaunid.Call.put z x y)=_;rw[lN h0,lN h,lN h'];rfl
 unfold PyVaunid.put VaunidNeutral.step;rw[e];rfl
theorem sD(l:List Nat):isName (l.map sgn)=isName l/\(isName l=true->l.map sgn=l):=by
 have e:∀l,bq l=true->l.map sgn=l:=λl h=>oW λc m=>by
  unfold bq at h;simp only[and_eq_true,all_eq_true]at h;exact h.2.2.2 c m
 constructor
 ·rw[jt,jt,ky]
  cases h:bq l with
  |false=>rfl
  |true=>rw[e l h]
 intro h;rw[jt,and_eq_true]at h;exact e l h.1
def AH(Cn:Addr)(nm:List Nat):Sp:=λvs H Q _=>∃(x s:Term) (v u:V),vs=[v,u]/\cW Cn x v H/\cW Cn s u H/\∀(p:Addr) (H':Hp),Same H H'->H' p=some (.lst ((putAnswer nm x s).map V.int))->Q (.ref p) H'
theorem AI(T:TZ){cc Pt:Addr}(hC:PySem.W.CodeHd base cc Pt)(hbm:base.BuiltinsAt mg Pt)(hcc:J.d_j.code=.ref cc):FnOk P w K mg base CX0 22 J.f_j J.d_j ["name","first","second"] (jo PyVaunid.put K Pt):=by
 refine T.F_j.fn.okC hcc sc_j (λA outer s H vs Q E hr h=>?_) λ_ _ _ _ ⟨_,_,_,_,_,_,e,_⟩=>by rw[e];rfl
 obtain⟨c,a,b,nm,ns,ms,rfl,hP,hc,ha,hb,lc,la,lb,qc,qa,qb,k⟩:=h;rw[lM qc]at hc;rw[lM qa]at ha;rw[lM qb]at hb;rw[AG qc qa qb]at k;refine⟨_,ag (aG (cA (cq (ok_ap T) (hr.mono (by decide)) rfl T.F_ap.mg T.F_ap.fn.kp T.F_ap.b .nil ak (aa (pv 1) (aa (pv 2) ae)))) (ah (az (aR (aa (pe_g T.g_bd) ae)))) aP)
  (ag (eB (i:=3) (sc_j).nd rfl (Or.inr rfl) (cq (ok_p T) (hr.mono (by decide)) rfl T.F_p.mg T.F_p.fn.kp T.F_p.b .nil ak (aa (pv 0) ae)))
  (ag (aG (jw (cA (cq (ok_al T) (hr.mono (by decide)) rfl T.F_al.mg T.F_al.fn.kp T.F_al.b .nil ak (aa (pv 3) ae)))) (ah (az (aR (aa (pe_g T.g_be) ae)))) aP)
  (ah (az (ze (sp:=sy P w K mg (Cn:=J.C_a)) (i:=3) (λbase _=>ok_K (base:=base) T) hr rfl T.F_K.mg T.F_K.fn.kp T.F_K.b ak (pv 1) (pv 2) rfl hC hbm rfl rfl rfl))))),?_⟩
 simp![tSeq,sv,fD,sC,qU];refine⟨_,ha,_,hb,?_⟩;by_cases q:(long (ns.map Int.toNat)||long (ms.map Int.toNat))=true
 ·rw[if_pos q]
  rw[if_pos q]at k;exact⟨by decide,λp hp=>k _ p ai⟩
 rw[if_neg q];rw[if_neg q]at k;refine⟨_,hc,by rw[length_map];omega,λH1 s1=>⟨_,rfl,by rw[length_map,length_map];exact Nat.le_trans lc (by decide),λH2 s2=>?_⟩⟩;rw[(sD _).1];cases h:isName (nm.map Int.toNat)with
 |false =>
  rw[h,if_pos rfl]at k;rw[if_pos (by rfl)];exact⟨by decide,λp hp=>k _ p ai⟩
 |true =>
 rw[h,if_neg (by simp)]at k;rw[if_neg (by simp),(sD _).2 h];have sm:=s1.trans s2;refine⟨sm _ _ hP,λbase' f ps m C=>?_⟩;refine⟨a,b,f,_,_,λx y=>putAnswer (nm.map Int.toNat) x y,rfl,qX (sm _ _ hP) (sm.seq ha),qX (sm _ _ hP) (sm.seq hb),by rw[length_map];exact la,by rw[length_map];exact lb,?_,λp H' _ e=>k H' p e⟩;obtain⟨fd,F,B,oc,od,sl,e⟩:=zc (P:=P) (w:=w) (K:=K) (mg:=mg) (k:=15) (ps:=["term","other"]) (N:=["term","other","word"]) (sp:=AH J.C_a (nm.map Int.toNat)) C ⟨rfl,rfl,rfl,by decide,by decide,zi (by left),rfl,rfl,zA (by decide)⟩ (λ_ _ _ _=>zB λ_ _=>rfl) (λ_ _ _ _ ⟨_,_,_,_,e,_⟩=>by rw[e];rfl) λcd cl A outer s H vs Q E hr h=>by
  refine x_40 h λx s' v u zy=>x_03 zy λzr4 hx hs k=>?_;subst zr4;refine⟨_,cq (ok_ak T) hr rfl T.F_ak.mg T.F_ak.fn.kp T.F_ak.b .nil ak (aa (pv 2) (aa (pv 0) (aa (pv 1) ae))),?_⟩;exact⟨_,x,s',v,u,rfl,hx,hs,k⟩
 exact⟨fd,_,_,F.mono (by decide),B,⟨_,_,_,_,e⟩,λx y v u H Q E h1 h2 h3=>⟨x,y,v,u,rfl,h1,h2,h3⟩⟩
end
set_option maxHeartbeats 4000000
open PySem.W (Codec nsIn findIn)
def FnIn(K:Frag)(nm qual:Str)(st:Stmt)(f:Addr):Prop:=∃(oc kV dc pm cd ct:Value) (od an:Option Addr) (sl:Array (Option Value)),K.lookup f=some ⟨oc,od,.func (fnOf nm qual (dY st) (cJ st) (aq st) .none kV dc pm an cd ct),sl⟩/\codeIn K cd qual=true/\keepIn K (.ref f)=true
def FnAt(K:Frag)(nm:Str)(st:Stmt)(f:Addr):Prop:=PySem.W.nsIn K mainGlobals nm=some (some (.ref f))/\FnIn K nm nm st f
theorem FnIn.fn{K:Frag}{nm qual:Str}{st:Stmt}{f:Addr}(h:FnIn K nm qual st f):∃d,Fun K nm qual st f d:=by
 obtain⟨oc,kV,dc,pm,cd,ct,od,an,sl,l,c,k⟩:=h;exact⟨_,nU l c k⟩
theorem mo{K:Frag}{h:Heap}{mg:zM}(X:K.In h)(G:h.Ns mainGlobals mg){x:Str}{u:Value}(e:PySem.W.nsIn K mainGlobals x=some (some u)):mg x=some u:=PySem.W.mg_of X G e
theorem mn{K:Frag}{h:Heap}{mg:zM}(X:K.In h)(G:h.Ns mainGlobals mg){x:Str}(e:PySem.W.nsIn K mainGlobals x=some none):mg x=none:=PySem.W.mg_none_of X G e
theorem ln0{Q:List Value->Prop}(h:Q []):∀us:List Value,us.length=0->Q us
 |[],_=>h
theorem lnS{n:Nat}{Q:List Value->Prop}(h:∀a us,us.length=n->Q (a::us)):∀us:List Value,us.length=n+1->Q us
 |a::us,e=>h a us (Nat.succ.inj e)
theorem ln1{Q:List Value->Prop}(h:∀a,Q [a]):∀us:List Value,us.length=1->Q us:=lnS λa=>ln0 (Q:=λl=>Q (a::l)) (h a)
theorem ln2{Q:List Value->Prop}(h:∀a b,Q [a,b]):∀us:List Value,us.length=2->Q us:=lnS λa=>ln1 (Q:=λl=>Q (a::l)) (h a)
theorem ln3{Q:List Value->Prop}(h:∀a b c,Q [a,b,c]):∀us:List Value,us.length=3->Q us:=lnS λa=>ln2 (Q:=λl=>Q (a::l)) (h a)
theorem ln4{Q:List Value->Prop}(h:∀a b c d,Q [a,b,c,d]):∀us:List Value,us.length=4->Q us:=lnS λa=>ln3 (Q:=λl=>Q (a::l)) (h a)
theorem ln5{Q:List Value->Prop}(h:∀a b c d e,Q [a,b,c,d,e]):∀us:List Value,us.length=5->Q us:=lnS λa=>ln4 (Q:=λl=>Q (a::l)) (h a)
theorem ln6{Q:List Value->Prop}(h:∀a b c d e f,Q [a,b,c,d,e,f]):∀us:List Value,us.length=6->Q us:=lnS λa=>ln5 (Q:=λl=>Q (a::l)) (h a)
theorem _root_.Internal.L2.Fun.b{K:Frag}{x qual:Str}{st:Stmt}{f:Addr}{fd:FuncData}{ps:List Str}(F:Fun K x qual st f fd)(h:∀(kV doc pm:Value) (an:Option Addr) (cdv ct:Value) (us:List Value),us.length=ps.length->bindArgs (fnOf x qual (dY st) (cJ st) (aq st) .none kV doc pm an cdv ct) ⟨us,[]⟩=pure (ps.zip us):=by
  intro _ _ _ _ _ _;first|exact ln1 λ_=>rfl|exact ln2 λ_ _=>rfl|exact ln3 λ_ _ _=>rfl|exact ln4 λ_ _ _ _=>rfl|exact ln5 λ_ _ _ _ _=>rfl|exact ln6 λ_ _ _ _ _ _=>rfl):aW K fd ps []:=F.binds h
noncomputable def FnIn.d{K:Frag}{nm qual:Str}{st:Stmt}{f:Addr}(h:FnIn K nm qual st f):FuncData:=h.fn.choose
theorem FnIn.F{K:Frag}{nm qual:Str}{st:Stmt}{f:Addr}(h:FnIn K nm qual st f):Fun K nm qual st f h.d:=h.fn.choose_spec
theorem FnAt.t{K:Frag}{h:Heap}{mg:zM}{x:Str}{st:Stmt}{f:Addr}{ps:List Str}(l:FnAt K x st f)(X:K.In h)(G:h.Ns mainGlobals mg)(q:∀(kV doc pm:Value) (an:Option Addr) (cdv ct:Value) (us:List Value),us.length=ps.length->bindArgs (fnOf x x (dY st) (cJ st) (aq st) .none kV doc pm an cdv ct) ⟨us,[]⟩=pure (ps.zip us):=by
  intro _ _ _ _ _ _;first|exact ln1 λ_=>rfl|exact ln2 λ_ _=>rfl|exact ln3 λ_ _ _=>rfl|exact ln4 λ_ _ _ _=>rfl|exact ln5 λ_ _ _ _ _=>rfl|exact ln6 λ_ _ _ _ _ _=>rfl):FG K mg x st ps f l.2.d:=⟨mo X G l.1,l.2.F,l.2.F.b q⟩
theorem AJ{K:Frag}{C:Addr}(h:mroIn K C (.type "str")=some false):kitOne K (.ref C) (.type "str")=some false:=by
 unfold kitOne PySem.W.kitCls;rw[if_neg (by intro z;simp at z)];show(if PySem.W.kitMeta "str"=true then PySem.W.subIn K (.ref C) (.type "str")else none)=_;rw[if_pos (by left)];unfold PySem.W.subIn;exact h
theorem eQ{K:Frag}{H:Hp}{a:Addr}{od:Option Addr}{zw:Array Value}{n:Nat}{sl:Array (Option Value)}{vs:List V}(l:K.lookup a=some ⟨.type "tuple",od,.seq zw n,sl⟩)(v:Vals vs zw.toList)(hs:vs.length<=sizeLine):SqT K H a vs:=
 .inr ⟨_,zw,n,l,rfl,rfl,by rw[<- Array.length_toList,<- L2.Vals.length v];exact hs,v⟩
def adF(l:List Addr)(f:Fm):Addr:=l.getD f.ctorIdx 0
theorem AK{K:Frag}{H:Hp}{a:Addr}{f:Fm}(t:bH K a (f.kt.map λs=>ofString s)):SqT K H a ((f.kt.map λs=>ofString s).map V.str):=by
 obtain⟨zw,n,sl,l,v⟩:=t;exact eQ l v (by cases f<;>(show _<=sizeLine;decide))
set_option hygiene false
local macro_rules
 | `($x^^^ $y)=> `(nsIn K mainGlobals $x=some (some $y))
local macro_rules
 | `($x ||| $y)=> `(findIn K (.ref $x) $y=some none)
set_option hygiene true
theorem AL{P:Program}{w:World}{K:W.Frag}{h:Heap}{mg:zM}{fa:Addr}(X:K.In h)(G:h.Ns mainGlobals mg)(hfa:mg "put"=some (.ref fa))
  {t_aP t_a2 t_a3 t_a4 t_a5 t_a6 t_aQ t_a7 t_aR t_a8 t_a9 t_aS t_ba t_bb t_bc t_aT t_aL t_bd t_be t_aU t_bf:Tok}{a_X a_H a_C a_b ad_b_0 ad_b_1 ad_b_2 ad_b_3 ad_b_4 ad_b_5 ad_b_6 ad_b_7 ad_b_8 ad_b_9 ad_b_10 ad_b_11 ad_b_12 ad_b_13 ad_b_14 ad_b_15 ad_b_16 ad_b_17 ad_b_18 ad_b_19 ad_b_20 a_Y a_L a_P C_c N_c C_a C_i C_h C_e C_d C_f C_g f_m f_n f_A f_q f_y f_x f_u f_B f_k f_l f_o f_v f_Q f_I f_at f_R f_S f_z f_w f_au f_D f_M f_av f_Z f_E f_T f_r f_N f_J f_al f_aa f_ab f_s f_aw f_p f_am f_U f_F f_ac f_ad f_ae f_af f_ax f_ay f_O f_az f_V f_ag f_W f_ah f_G f_an f_ao f_t f_as f_ai f_aj f_aA f_j f_ap f_K f_aq f_ak f_aB f_ar:Addr}{od_X od_H od_C od_Y od_L od_P dd_c od_j an_j:Option Addr}{its_X its_H its_C its_Y its_L its_P:Array Value}{n_X n_H n_C ep_b n_Y n_L n_P:Nat}{sl_X sl_H sl_C sl_Y sl_L sl_P sl_j:Array (Option Value)}{es_b:Array DictEntry}{nm_c qq_c:Str}{bs_c sub_c:List Value}{sn_c:List Str}{ab_c:Bool}{col_c:Option Bool}{x0_c x1_c x2_c x3_c x5_c:Option Value}{oc_j kV_j dc_j pm_j cd_j ct_j:Value}
  (g_aP:"MOST_DEPTH"^^^(.int 40 t_aP))(g_a2:"MOST_NODES"^^^(.int 300 t_a2))(g_X:"SPELLED_FORMS"^^^(.ref a_X))(l_X:K.lookup a_X=some ⟨.type "tuple",od_X,.seq its_X n_X,sl_X⟩)(v_X:Vals [V.str "name",V.str "number"] its_X.toList)(g_H:"PLAIN_FORMS"^^^(.ref a_H))(l_H:K.lookup a_H=some ⟨.type "tuple",od_H,.seq its_H n_H,sl_H⟩)(v_H:Vals [V.str "true",V.str "false",V.str "nil"] its_H.toList)(g_C:"PART_KINDS"^^^(.ref a_C))(l_C:K.lookup a_C=some ⟨.type "tuple",od_C,.seq its_C n_C,sl_C⟩)(v_C:Vals [V.str "part",V.str "body"] its_C.toList)(g_b:"FORMS"^^^(.ref a_b))(l_b:K.lookup a_b=some {cls:= .type "dict",data:= .dict es_b ep_b})(p_b:Paired (kO w) [("fn",V.ref ad_b_0),("rec",V.ref ad_b_1),("let",V.ref ad_b_2),("if",V.ref ad_b_3),("apply",V.ref ad_b_4),("pair",V.ref ad_b_5),("fst",V.ref ad_b_6),("snd",V.ref ad_b_7),("cons",V.ref ad_b_8),("case",V.ref ad_b_9),("fold",V.ref ad_b_10),("+",V.ref ad_b_11),("-",V.ref ad_b_12),("*",V.ref ad_b_13),("/",V.ref ad_b_14),("<",V.ref ad_b_15),("=",V.ref ad_b_16),("floor",V.ref ad_b_17),("rest",V.ref ad_b_18),("root",V.ref ad_b_19),("^",V.ref ad_b_20)] es_b.toList)(v_b_0:bH K ad_b_0 ["name","body"])(v_b_1:bH K ad_b_1 ["name","name","body"])(v_b_2:bH K ad_b_2 ["name","part","body"])(v_b_3:bH K ad_b_3 ["part","part","part"])(v_b_4:bH K ad_b_4 ["part","part"])(v_b_5:bH K ad_b_5 ["part","part"])(v_b_6:bH K ad_b_6 ["part"])(v_b_7:bH K ad_b_7 ["part"])(v_b_8:bH K ad_b_8 ["part","part"])(v_b_9:bH K ad_b_9 ["part","part","name","name","body"])(v_b_10:bH K ad_b_10 ["part","part","part"])(v_b_11:bH K ad_b_11 ["part","part"])(v_b_12:bH K ad_b_12 ["part","part"])(v_b_13:bH K ad_b_13 ["part","part"])(v_b_14:bH K ad_b_14 ["part","part"])(v_b_15:bH K ad_b_15 ["part","part"])(v_b_16:bH K ad_b_16 ["part","part"])(v_b_17:bH K ad_b_17 ["part","part"])(v_b_18:bH K ad_b_18 ["part","part"])(v_b_19:bH K ad_b_19 ["part"])(v_b_20:bH K ad_b_20 ["part","power"])(z_b:(a_b==sysModules)=false)(g_a3:"BLANK"^^^(.int 32 t_a3))(g_a4:"MEASURE_BEGIN"^^^(.int 91 t_a4))(g_a5:"MEASURE_END"^^^(.int 93 t_a5))(g_a6:"MINUS"^^^(.int 45 t_a6))(g_Y:"FRACTION_SIGNS"^^^(.ref a_Y))(l_Y:K.lookup a_Y=some ⟨.type "tuple",od_Y,.seq its_Y n_Y,sl_Y⟩)(v_Y:Vals [V.int 46,V.int 47] its_Y.toList)(g_aQ:"FIRST_PRINTED"^^^(.int 32 t_aQ))(g_a7:"LAST_PRINTED"^^^(.int 126 t_a7))(g_aR:"MOST_SIGNS"^^^(.int 12 t_aR))(g_a8:"PRINTED"^^^(.str " !\"#$?&'()*+,-./0123456789:;<=>?@ABCDEFGHIJKLMNOPQRSTUVWXYZ[\\]^_`abcdefghijklmnopqrstuvwxyz{|}~" t_a8))(g_L:"TAKEN_WORDS"^^^(.ref a_L))(l_L:K.lookup a_L=some ⟨.type "tuple",od_L,.seq its_L n_L,sl_L⟩)(v_L:Vals [V.str "fn",V.str "let",V.str "rec",V.str "if",V.str "cons",V.str "case",V.str "pair",V.str "fst",V.str "snd",V.str "fold",V.str "root",V.str "floor",V.str "rest",V.str "true",V.str "false",V.str "nil",V.str "truth",V.str "num",V.str "list",V.str "base",V.str "unit",V.str "def",V.str "fun",V.str "in",V.str "then",V.str "else",V.str "match",V.str "with",V.str "and",V.str "or",V.str "not"] its_L.toList)(g_a9:"MOST_DIGITS"^^^(.int 12 t_a9))(g_aS:"FIRST_TOO_GREAT"^^^(.int 1000000000000 t_aS))(g_ba:"MOST_POWER_DIGITS"^^^(.int 2 t_ba))(g_bb:"WORD_GROUP"^^^(.int 0 t_bb))(g_bc:"NUMBER_GROUP"^^^(.int 1 t_bc))(g_aT:"SIGN_GROUP"^^^(.int 2 t_aT))(g_P:"CORE_SIGNS"^^^(.ref a_P))(l_P:K.lookup a_P=some ⟨.type "tuple",od_P,.seq its_P n_P,sl_P⟩)(v_P:Vals [V.str "(",V.str ")",V.str "+",V.str "-",V.str "*",V.str "/",V.str "^",V.str "<",V.str "="] its_P.toList)(g_aL:"MOST_BYTES"^^^(.int 2000 t_aL))(g_bd:"TEXT_TOO_LONG"^^^(.int (-1) t_bd))(g_be:"NO_NAME"^^^(.int (-3) t_be))(g_aU:"TOO_GREAT"^^^(.int (-4) t_aU))(g_bf:"IN_SECOND_TEXT"^^^(.int 20 t_bf))(b_all:nsIn K mainGlobals "all"=some none)(b_dict:nsIn K mainGlobals "dict"=some none)(b_enumerate:nsIn K mainGlobals "enumerate"=some none)(b_int:nsIn K mainGlobals "int"=some none)(b_isinstance:nsIn K mainGlobals "isinstance"=some none)(b_len:nsIn K mainGlobals "len"=some none)(b_list:nsIn K mainGlobals "list"=some none)(b_max:nsIn K mainGlobals "max"=some none)(b_ord:nsIn K mainGlobals "ord"=some none)(b_reversed:nsIn K mainGlobals "reversed"=some none)(b_str:nsIn K mainGlobals "str"=some none)(b_tuple:nsIn K mainGlobals "tuple"=some none)(G_c:"Fault"^^^(.ref C_c))(a_m:findIn K (.ref C_c) "__init__"=some (some (.ref f_m)))(i_m:W.isFn K (.ref f_m)=true)(l_m:FnIn K "__init__" "Fault.__init__" s_m f_m)(kc_c:W.keepIn K (.ref C_c)=true)(hd_c:W.hasDictIn K C_c=true)(sa_c:findIn K (.ref C_c) "__setattr__"=some (some (.builtin "object.__setattr__")))(lx_c:K.lookup C_c=some (excClassObj nm_c qq_c C_c N_c bs_c dm true sn_c sub_c ab_c col_c dd_c x0_c x1_c x2_c x3_c x5_c "Exception.__new__"))(ga_c:findIn K (.ref C_c) "__getattribute__"=some (some (.builtin "BaseException.__getattribute__")))(gn_c:C_c ||| "__getattr__")(n_bg:C_c ||| "kind")(n_bh:C_c ||| "place")(G_a:"Node"^^^(.ref C_a))(a_n:findIn K (.ref C_a) "__init__"=some (some (.ref f_n)))(i_n:W.isFn K (.ref f_n)=true)(l_n:FnIn K "__init__" "Node.__init__" s_n f_n)(kc_a:W.keepIn K (.ref C_a)=true)(hd_a:W.hasDictIn K C_a=true)(sa_a:findIn K (.ref C_a) "__setattr__"=some (some (.builtin "object.__setattr__")))(pg_a:W.plainGet K C_a Str.empty=true)(po_a:W.plainOver K C_a=true)(mk_a:W.makesIn K C_a=true)(y1_a:findIn K (.ref C_a) "__class__"=some (some (.builtin "object.__class__")))(y2_a:W.specialIn K (.builtin "object.__class__") "__get__"=some (some (.builtin "getset_descriptor.__get__")))(y3_a:W.takesIn K (.builtin "object.__class__")=some true)(y4_a:W.mroIn K C_a (.type "object")=some true)(y5_a:W.mroIn K C_a (.type "str")=some false)(n_aD:C_a ||| "form")(n_aC:C_a ||| "words")(n_aF:C_a ||| "parts")(n_aH:C_a ||| "begin")(n_aI:C_a ||| "end")(G_i:"FreshNames"^^^(.ref C_i))(a_A:findIn K (.ref C_i) "__init__"=some (some (.ref f_A)))(i_A:W.isFn K (.ref f_A)=true)(l_A:FnIn K "__init__" "FreshNames.__init__" s_A f_A)(a_q:findIn K (.ref C_i) "take"=some (some (.ref f_q)))(i_q:W.isFn K (.ref f_q)=true)(l_q:FnIn K "take" "FreshNames.take" s_q f_q)(kc_i:W.keepIn K (.ref C_i)=true)(hd_i:W.hasDictIn K C_i=true)(sa_i:findIn K (.ref C_i) "__setattr__"=some (some (.builtin "object.__setattr__")))(pg_i:W.plainGet K C_i Str.empty=true)(po_i:W.plainOver K C_i=true)(mk_i:W.makesIn K C_i=true)(n_bk:C_i ||| "away")(n_aM:C_i ||| "tried")(G_h:"Uncopied"^^^(.ref C_h))(a_y:findIn K (.ref C_h) "__init__"=some (some (.ref f_y)))(i_y:W.isFn K (.ref f_y)=true)(l_y:FnIn K "__init__" "Uncopied.__init__" s_y f_y)(kc_h:W.keepIn K (.ref C_h)=true)(hd_h:W.hasDictIn K C_h=true)(sa_h:findIn K (.ref C_h) "__setattr__"=some (some (.builtin "object.__setattr__")))(pg_h:W.plainGet K C_h Str.empty=true)(po_h:W.plainOver K C_h=true)(mk_h:W.makesIn K C_h=true)(n_aV:C_h ||| "kind")(n_aW:C_h ||| "content")(n_aX:C_h ||| "owner")(n_aN:C_h ||| "renamed")(G_e:"Amount"^^^(.ref C_e))(a_x:findIn K (.ref C_e) "__init__"=some (some (.ref f_x)))(i_x:W.isFn K (.ref f_x)=true)(l_x:FnIn K "__init__" "Amount.__init__" s_x f_x)(kc_e:W.keepIn K (.ref C_e)=true)(hd_e:W.hasDictIn K C_e=true)(sa_e:findIn K (.ref C_e) "__setattr__"=some (some (.builtin "object.__setattr__")))(pg_e:W.plainGet K C_e Str.empty=true)(po_e:W.plainOver K C_e=true)(mk_e:W.makesIn K C_e=true)(n_aY:C_e ||| "over")(n_aO:C_e ||| "under")(n_aZ:C_e ||| "measure")(G_d:"Token"^^^(.ref C_d))(a_u:findIn K (.ref C_d) "__init__"=some (some (.ref f_u)))(i_u:W.isFn K (.ref f_u)=true)(l_u:FnIn K "__init__" "Token.__init__" s_u f_u)(kc_d:W.keepIn K (.ref C_d)=true)(hd_d:W.hasDictIn K C_d=true)(sa_d:findIn K (.ref C_d) "__setattr__"=some (some (.builtin "object.__setattr__")))(pg_d:W.plainGet K C_d Str.empty=true)(po_d:W.plainOver K C_d=true)(mk_d:W.makesIn K C_d=true)(n_bm:C_d ||| "group")(n_aE:C_d ||| "kind")(n_aJ:C_d ||| "begin")(n_a0:C_d ||| "end")(n_aK:C_d ||| "content")(G_f:"Row"^^^(.ref C_f))(a_B:findIn K (.ref C_f) "__init__"=some (some (.ref f_B)))(i_B:W.isFn K (.ref f_B)=true)(l_B:FnIn K "__init__" "Row.__init__" s_B f_B)(a_k:findIn K (.ref C_f) "upcoming"=some (some (.ref f_k)))(i_k:W.isFn K (.ref f_k)=true)(l_k:FnIn K "upcoming" "Row.upcoming" s_k f_k)(a_l:findIn K (.ref C_f) "take"=some (some (.ref f_l)))(i_l:W.isFn K (.ref f_l)=true)(l_l:FnIn K "take" "Row.take" s_l f_l)(a_o:findIn K (.ref C_f) "take_kind"=some (some (.ref f_o)))(i_o:W.isFn K (.ref f_o)=true)(l_o:FnIn K "take_kind" "Row.take_kind" s_o f_o)(kc_f:W.keepIn K (.ref C_f)=true)(hd_f:W.hasDictIn K C_f=true)(sa_f:findIn K (.ref C_f) "__setattr__"=some (some (.builtin "object.__setattr__")))(pg_f:W.plainGet K C_f Str.empty=true)(po_f:W.plainOver K C_f=true)(mk_f:W.makesIn K C_f=true)(n_bl:C_f ||| "ahead")(n_bi:C_f ||| "index")(G_g:"Step"^^^(.ref C_g))(a_v:findIn K (.ref C_g) "__init__"=some (some (.ref f_v)))(i_v:W.isFn K (.ref f_v)=true)(l_v:FnIn K "__init__" "Step.__init__" s_v f_v)(kc_g:W.keepIn K (.ref C_g)=true)(hd_g:W.hasDictIn K C_g=true)(sa_g:findIn K (.ref C_g) "__setattr__"=some (some (.builtin "object.__setattr__")))(pg_g:W.plainGet K C_g Str.empty=true)(po_g:W.plainOver K C_g=true)(mk_g:W.makesIn K C_g=true)(n_aG:C_g ||| "kind")(n_bj:C_g ||| "owner")(n_a1:C_g ||| "depth")(l_Q:FnAt K "numbered" s_Q f_Q)(l_I:FnAt K "check_limits" s_I f_I)(l_at:FnAt K "core_text" s_at f_at)(l_R:FnAt K "unfolded" s_R f_R)(l_S:FnAt K "core_pieces" s_S f_S)(l_z:FnAt K "contents" s_z f_z)(l_w:FnAt K "free_names" s_w f_w)(l_au:FnAt K "plain_form" s_au f_au)(l_D:FnAt K "plain_form_away" s_D f_D)(l_M:FnAt K "copy_node" s_M f_M)(l_av:FnAt K "leaf_words" s_av f_av)(l_Z:FnAt K "put_for" s_Z f_Z)(l_E:FnAt K "with_name_replaced" s_E f_E)(l_T:FnAt K "is_letter" s_T f_T)(l_r:FnAt K "is_digit" s_r f_r)(l_N:FnAt K "is_in_word" s_N f_N)(l_J:FnAt K "is_short_word" s_J f_J)(l_al:FnAt K "is_name" s_al f_al)(l_aa:FnAt K "is_blank" s_aa f_aa)(l_ab:FnAt K "is_before_measure_end" s_ab f_ab)(l_s:FnAt K "run_end" s_s f_s)(l_aw:FnAt K "sign_of" s_aw f_aw)(l_p:FnAt K "signs_of" s_p f_p)(l_am:FnAt K "number_end" s_am f_am)(l_U:FnAt K "fraction_of" s_U f_U)(l_F:FnAt K "lowest" s_F f_F)(l_ac:FnAt K "common_divisor" s_ac f_ac)(l_ad:FnAt K "is_measure" s_ad f_ad)(l_ae:FnAt K "is_factor" s_ae f_ae)(l_af:FnAt K "is_power" s_af f_af)(l_ax:FnAt K "measured" s_ax f_ax)(l_ay:FnAt K "negated" s_ay f_ay)(l_O:FnAt K "amount_text" s_O f_O)(l_az:FnAt K "core_tokens" s_az f_az)(l_V:FnAt K "tokens_between" s_V f_V)(l_ag:FnAt K "core_gap_end" s_ag f_ag)(l_W:FnAt K "core_token" s_W f_W)(l_ah:FnAt K "word_token" s_ah f_ah)(l_G:FnAt K "number_token" s_G f_G)(l_an:FnAt K "measure_at" s_an f_an)(l_ao:FnAt K "sign_token" s_ao f_ao)(l_t:FnAt K "core_term" s_t f_t)(l_as:FnAt K "go_on" s_as f_as)(l_ai:FnAt K "begin_term" s_ai f_ai)(l_aj:FnAt K "bracket_begin" s_aj f_aj)(l_aA:FnAt K "leaf" s_aA f_aA)(a_j:"put"^^^(.ref f_j))(l_j:K.lookup f_j=some ⟨oc_j,od_j,.func (W.fnOf "put" "put" (dY s_j) (cJ s_j) (aq s_j) .none kV_j dc_j pm_j an_j cd_j ct_j),sl_j⟩)(c_put:W.codeIn K cd_j "put"=true)(k_j:W.keepIn K (.ref f_j)=true)(l_ap:FnAt K "is_either_too_long" s_ap f_ap)(l_K:FnAt K "both_answered" s_K f_K)(l_aq:FnAt K "plain_answer" s_aq f_aq)(l_ak:FnAt K "put_answer" s_ak f_ak)(l_aB:FnAt K "text_answer" s_aB f_aB)(l_ar:FnAt K "bytes_of" s_ar f_ar)
  : ∃fd:FuncData,(∀(s:Shared) (us:List Value),us.length=(["name","first","second"]:List Str).length->BindsTo s fd ⟨us,[]⟩ ((["name","first","second"]:List Str).zip us))/\(∃oc od sl,K.lookup fa=some ⟨oc,od,.func fd,sl⟩)/\∀(base:Heap) (cc Pt:Addr),fd.code=.ref cc->K.In base->base.Ns mainGlobals mg->W.CodeHd base cc Pt->base.BuiltinsAt mg Pt->FnOk P w K mg base CX0 22 fa fd ["name","first","second"] (jo PyVaunid.put K Pt):=by
 have tu:∀f:Fm,bH K (adF [ad_b_0,ad_b_1,ad_b_2,ad_b_3,ad_b_4,ad_b_5,ad_b_6,ad_b_7,ad_b_8,ad_b_9,ad_b_10,ad_b_11,ad_b_12,ad_b_13,ad_b_14,ad_b_15,ad_b_16,ad_b_17,ad_b_18,ad_b_19,ad_b_20] f) (f.kt.map λs=>ofString s):=λf=>by cases f<;>assumption
 have F_j:=nU (st:=s_j) l_j c_put k_j;have T:=(⟨⟨_,mo X G g_aP,_,rfl⟩,⟨_,mo X G g_a2,_,rfl⟩,mo X G g_X,λ_=>eQ l_X v_X (by show 2<=sizeLine;decide),mo X G g_H,λ_=>eQ l_H v_H (by show 3<=sizeLine;decide),mo X G g_C,λ_=>eQ l_C v_C (by show 2<=sizeLine;decide),mo X G g_b,⟨adF [ad_b_0,ad_b_1,ad_b_2,ad_b_3,ad_b_4,ad_b_5,ad_b_6,ad_b_7,ad_b_8,ad_b_9,ad_b_10,ad_b_11,ad_b_12,ad_b_13,ad_b_14,ad_b_15,ad_b_16,ad_b_17,ad_b_18,ad_b_19,ad_b_20],⟨⟨es_b,ep_b,l_b,p_b⟩,xp,z_b⟩,λf H=>AK (tu f),tu⟩,⟨_,mo X G g_a3,_,rfl⟩,⟨_,mo X G g_a4,_,rfl⟩,⟨_,mo X G g_a5,_,rfl⟩,⟨_,mo X G g_a6,_,rfl⟩,mo X G g_Y,λ_=>eQ l_Y v_Y (by show 2<=sizeLine;decide),⟨_,mo X G g_aQ,_,rfl⟩,⟨_,mo X G g_a7,_,rfl⟩,⟨_,mo X G g_aR,_,rfl⟩,⟨_,mo X G g_a8,_,rfl⟩,mo X G g_L,λ_=>eQ l_L v_L (by show 31<=sizeLine;decide),⟨_,mo X G g_a9,_,rfl⟩,⟨_,mo X G g_aS,_,rfl⟩,⟨_,mo X G g_ba,_,rfl⟩,⟨_,mo X G g_bb,_,rfl⟩,⟨_,mo X G g_bc,_,rfl⟩,⟨_,mo X G g_aT,_,rfl⟩,mo X G g_P,λ_=>eQ l_P v_P (by show 9<=sizeLine;decide),⟨_,mo X G g_aL,_,rfl⟩,⟨_,mo X G g_bd,_,rfl⟩,⟨_,mo X G g_be,_,rfl⟩,⟨_,mo X G g_aU,_,rfl⟩,⟨_,mo X G g_bf,_,rfl⟩,mn X G b_all,mn X G b_dict,mn X G b_enumerate,mn X G b_int,mn X G b_isinstance,mn X G b_len,mn X G b_list,mn X G b_max,mn X G b_ord,mn X G b_reversed,mn X G b_str,mn X G b_tuple,mo X G G_c,l_m.F,l_m.F.b,uW lx_c a_m i_m kc_c ga_c gn_c sa_c hd_c,n_bg,n_bh,mo X G G_a,l_n.F,l_n.F.b,⟨pg_a,hd_a,po_a,sa_a⟩,⟨mk_a,a_n,i_n,kc_a⟩,⟨y1_a,y2_a,y3_a,y4_a,AJ y5_a⟩,n_aD,n_aC,n_aF,n_aH,n_aI,mo X G G_i,l_A.F,l_A.F.b,l_q.F,l_q.F.b,⟨a_q,i_q,l_q.F.kp⟩,⟨pg_i,hd_i,po_i,sa_i⟩,⟨mk_i,a_A,i_A,kc_i⟩,n_bk,n_aM,mo X G G_h,l_y.F,l_y.F.b,⟨pg_h,hd_h,po_h,sa_h⟩,⟨mk_h,a_y,i_y,kc_h⟩,n_aV,n_aW,n_aX,n_aN,mo X G G_e,l_x.F,l_x.F.b,⟨pg_e,hd_e,po_e,sa_e⟩,⟨mk_e,a_x,i_x,kc_e⟩,n_aY,n_aO,n_aZ,mo X G G_d,l_u.F,l_u.F.b,⟨pg_d,hd_d,po_d,sa_d⟩,⟨mk_d,a_u,i_u,kc_d⟩,n_bm,n_aE,n_aJ,n_a0,n_aK,mo X G G_f,l_B.F,l_B.F.b,l_k.F,l_k.F.b,⟨a_k,i_k,l_k.F.kp⟩,l_l.F,l_l.F.b,⟨a_l,i_l,l_l.F.kp⟩,l_o.F,l_o.F.b,⟨a_o,i_o,l_o.F.kp⟩,⟨pg_f,hd_f,po_f,sa_f⟩,⟨mk_f,a_B,i_B,kc_f⟩,n_bl,n_bi,mo X G G_g,l_v.F,l_v.F.b,⟨pg_g,hd_g,po_g,sa_g⟩,⟨mk_g,a_v,i_v,kc_g⟩,n_aG,n_bj,n_a1,l_Q.t X G,l_I.t X G,l_at.t X G,l_R.t X G,l_S.t X G,l_z.t X G,l_w.t X G,l_au.t X G,l_D.t X G,l_M.t X G,l_av.t X G,l_Z.t X G,l_E.t X G,l_T.t X G,l_r.t X G,l_N.t X G,l_J.t X G,l_al.t X G,l_aa.t X G,l_ab.t X G,l_s.t X G,l_aw.t X G,l_p.t X G,l_am.t X G,l_U.t X G,l_F.t X G,l_ac.t X G,l_ad.t X G,l_ae.t X G,l_af.t X G,l_ax.t X G,l_ay.t X G,l_O.t X G,l_az.t X G,l_V.t X G,l_ag.t X G,l_W.t X G,l_ah.t X G,l_G.t X G,l_an.t X G,l_ao.t X G,l_t.t X G,l_as.t X G,l_ai.t X G,l_aj.t X G,l_aA.t X G,⟨mo X G a_j,F_j,F_j.b⟩,l_ap.t X G,l_K.t X G,l_aq.t X G,l_ak.t X G,l_aB.t X G,l_ar.t X G⟩:TX w K mg ⟨_,_,_,_,_,_,_,_,_,_,_,_,_,_,_,_,_,_,_,_,_,_,_,_,_,_,_,_,_,_,_,_,_,_,_,_,_,_,_,_,_,_,_,_,_,_,_,_,_,_,_,_,_,_,_,_,_,_,_,_,_,_,_,_,_,_,_,_,_,_,_,_,_,_,_,_,_,_,_,_,_,_,_,_,_,_,_,_,_,_,_,_,_,_,_,_,_,_,_,_,_,_,_,_,_,_,_,_,_,_,_,_,_,_,_,_,_,_,_,_,_,_,_,_,_,_,_,_,_,_,_,_,_,_,_,_,_,_,_,_,_,_,_,_,_⟩)
 have e:=hfa.symm.trans T.F_j.mg;cases e;refine⟨_,?_,⟨_,_,_,l_j⟩,λbase cc Pt hcc _ _ hC hb=>zD (λT _ _ _ hC hb hcc=>AI T hC hb hcc) ⟨P,w,K,mg,_⟩ T base cc Pt hC hb hcc⟩;exact λs us hu=>match us,hu with|[_,_,_],_=>.of_eq rfl
end M
end Internal
set_option genInjectivity false in
set_option genSizeOfSpec false in
set_option genSizeOf false in
structure PySem.W.Fast:Prop where
 (tw10528552790385511001 tw2117387889347547992 tw1579114252083330008 tw10837384316741582552 tw16026088480057116208 tw13134758262024486662 tw5338358113076532201 tw7869462302012493637 tw11945522096537773930 tw15587117471390117919 tw7418320149128685438 tw9226757417248868296 tw1998991612759912008 tw14444776584302089812 tw6503322123162819744 tw4496805248274375943 tw11814625784000101517 tw414080255061305960 tw4502636735264614137 tw8863268404206014286 tw894846838181571552 tw13209255949849312 tw15590725341726246450 tw7012076340206458044 tw8310094629778406653 tw1654516513474369482 tw8738589613083446004 tw18406470016534006675 tw7046551226794779932 tw11426400475570778717 tw12239888227039124260 tw12825419629688671268 tw8428056989134389899 tw11288282893938995142 tw17460904589158909015 tw3088705407503743995 tw15996460902314144249 tw7108292326926933076 tw17863606290157781007 tw8927394833416568112 tw17495781248444030638 tw13400627500468557709 tw10517684475872622738 tw1705969811198992944 tw3234748148831099806 tw16323412385678874215 tw17298437826179452945 tw6857617155312925916 tw6446184286693744633 tw5872382621145150265 tw698109319765874526 tw13311207948772365292 tw2854944445639484246 tw5917682992079571735 tw4760777819689419735 tw11833111877588299882 tw7342374536778541769 tw9787399771845685559 tw8566034077646864122 tw1031115623758773902 tw448371668898116443 tw4619508262086025444 tw13944029008558147506 tw16708347168570030103 tw1079282885060516453 tw16974720069682047092 tw17222511620089231286 tw16644078855040683341 tw17532936666322915492 tw1005721017064190948 tw5786912631458878457 tw11514961641120908020 tw9836871511369331220 tw3069383674290295759 tw4370985798691141639 tw16893211490159501663 tw1272115394180085617 tw3561057927711107636 tw7103221249534157657 tw588377443193219272 tw3410354113386169170 tw18145507489160184918 tw12377855672346926062 tw10236063338226811564 tw12368537137129028507 tw17267473692706806071 tw4544987012476039129 tw10471576030019686762 tw4991401755984087582 tw14796785206545066111 tw5915852063035556851 tw17326549899851705124 tw14031957658884376436 tw3327481609348456604 tw5334196153853729826 tw3040838298718028254 tw6949425856544073742 tw11047617494741065962 tw10370885647933251030 tw14261393635198732244 tw15467320368760250230 tw13814364679537712724 tw515960359349478677 tw4441450071749544955 tw6246890928038785210 tw18307361420097700019 tw10151229135622314994 tw6977105389721432330 tw5825162214262663761 tw16002267090116037036 tw13602915055605541208 tw14039897525465990482 tw3899105284734974499 tw2553283790180423056 tw5155550946071196416 tw1217342392943957879 tw16701546476078610901 tw11764510882304686151 tw6744047062850444239 tw17456883033432506526 tw10700997545116565579 tw18174129632976616846 tw14168586136711861438 tw12153345362201270409 tw16880984953057332364 tw4096067573127222998 tw10185027231313197512 tw15605139841227162297 tw18355819596136726548 tw12229543703714991304 tw5525067729830858097 tw9773008763048984666 tw9923176436099372769 tw9361852262340933663 tw12173197737853389504 tw7343754536819119732 tw3152394645185326069 tw1253113274187947043 tw16927825454202194506 tw4305472297786452474 tw3277928491645059007 tw4838268579312083806 tw1477586016997051422 tw10831089657692917191 tw9197844806332055603 tw4785015387815608383 tw2027006432073722571 tw15403576082677127076 tw12468652395429687848 tw2765947066555730311 tw5553210740853979394 tw13821028044051714415 tw17944368053978316574 tw3417716300582039686 tw11086965370794548851 tw14754336511919432284 tw908938278574226979 tw2873815198187122462 tw6018272287426492731 tw3876634788882014819 tw12596326841253814065 tw13090083492055057843 tw15028799921644339288 tw3050940435394189533 tw1069667529892836272 tw3994332682735958707 tw12671428596867237792 tw7996977496589477066 tw4170078367370985017 tw17384727681156922412 tw11005729674998379672 tw3042840826004273424 tw15259837758841796504 tw8935455494511232154 tw916335997058250231 tw5301048546483121988 tw8997590411493184287 tw9960791459159318725 tw12415788730932569837 tw760237174788732090 tw7212883834860761103 tw11319616471913884713 tw9044707806810424191 tw11093392694622322600 tw10617270064779561411 tw17329993875751259295 tw11731929710428104477 tw8546349839583141742 tw17033112686712711415 tw1477884910375538996 tw14332697112330186842 tw11171201102459583300 tw10562616156932793147 tw3503569077160058045 tw10871125370468943015 tw11632960339146698634 tw3270032761657692198 tw17439032243153752211 tw4079775906497408203 tw12081122323694932266 tw2947433603698943528 tw8121545265242070706 tw7205256091400520128 tw6293719227563637451 tw17231322444918863843 tw11563355184593837062 tw11473679008791203807 tw4039689373761932072 tw11603517948183627358 tw3018587610243240260 tw12418252012982816228 tw12883077297490974968 tw16229657398537858889 tw3933938758550073199 tw13064928222392887502 tw18012122773609830683 tw5561157280427817003 tw8883205478204747744 tw13214488519493318104 tw6946590729497275263 tw2225481360731656321 tw9261221702047646246 tw13643797197918653174 tw4840113117817721895 tw6242487623942580859 tw4007919995583092361 tw2853719267321091303 tw2604523686733077144 tw8024054965489294442 tw10849481629724321262 tw5442444933384549884 tw18420352495982977785 tw17431370803173416889 tw2576864010884624859 tw2529018260695835060 tw15698634026090371494 tw15923435105672974047 tw10157679130049086416 tw3759628301392620797 tw7060807818747887314 tw8826309542196113072 tw17721018052074413848 tw4863943217041832837 tw11692945244163983781 tw14065151620579709987 tw11415272543782492429 tw15029948704700523095 tw16443978672765286449 tw4843923116114727064 tw11190058244901673695 tw11639256039581632636 tw5924111879751069210 tw1170935219200318318 tw5073963725315781611 tw15107938292388057482 tw992845001419026552 tw7966014072655679074 tw12096833560348535817 tw14510836966480260812 tw5087605539633176019 tw2968853237018532175 tw13659168128247024793 tw15007732409819926427 tw14955505559261360595 tw12863044688002880402 tw11978299612938192214 tw14228978720887719302 tw12913050352691996931 tw4989484448897434510 tw3035369383706814097 tw14431438275553743372 tw4716000312770434327 tw17591171058890690183 tw13156129525465343683 tw13852942972889773 tw2907223756731243971 tw1812515247741788472 tw17200152178527211160 tw13463434031262285185 tw16577480814553483244 tw4603530021875019982 tw3289031319255667666 tw13113945048711855763 tw14600088000075187733 tw16827778569501879891 tw14332847724680583689 tw9554134539952707767 tw12915447498266731617 tw12159379391804249697 tw5010215122615121556 tw5703624247933266689 tw1420975035959253429 tw16593586602651964159 tw5515046764265914477 tw9879693851662147343 tw8064716731919522394 tw5655029037767781463 tw11129497772054705738 tw2975085762388525128 tw6356100567594209703 tw7855804198286286951 tw14931169044270618180 tw16292941853380130593 tw10279640604627431158 tw8950187135908212518 tw5548602419316353917 tw3212838809307987286 tw5866040658151170314 tw15052972519117538277 tw7721512272602922960 tw9833498510592976434 tw4080069145448539660 tw11794939740075044793 tw13279535250001107982 tw7828878046025808237 tw6509843340380927436 tw8648782889538698290 tw6902225679193021784 tw6646191954839926477 tw6595876248626113663 tw10585146935694487401 tw9947715934426082606 tw16293901634106914815 tw49252437612645033 tw15616838435404353903 tw7422445316020423402 tw8837707118164982482 tw13099449898477141478 tw7154467444326469720 tw10527646648228913552 tw15508476247403449350 tw4643305961415443610 tw17413125439511408505 tw15230877290654188917 tw5912154339530187342 tw4465402164144448925 tw14714723960898190740 tw12035655600069592583 tw10394792519777523137 tw10112250135386082626 tw11183558480120769345 tw9365080458715085291 tw7894357607687995775 tw10019478672409940293 tw1083437963393277091 tw14267952313220318476 tw4901146918070147926 tw8494529918323403471 tw14778500547152302554 tw11478840624757401600 tw7625096692233924755 tw10377906250059926898 tw4591569986735479864 tw10219711654973057983 tw15256850131711261244 tw13107773133791980005 tw9964274680391656656 tw9246724043652135398 tw16672704091809939667 tw3863658344955901408 tw1107575254142558562 tw16902399455645843822 tw18181703084219099580 tw11755496323258995348 tw13327046977836125128 tw8418217871240746064 tw10674015847130806486 tw10907220420124252502 tw11145090384099299955 tw15814222649284571427 tw4199466061532150436 tw14906368941415998242 tw17250401963018528776 tw13561471908179827473 tw2146001403081717616 tw918104224274434918 tw4562849999885620307 tw11883052584932266490 tw14846961855954451770 tw17379231277726791181 tw16162088793795933474 tw14889381277800168151 tw327825624272345261 tw4483680823521648342 tw2469726947735136142 tw8927897080202249645 tw4428219805670130119 tw4778583402582112380 tw1441772153264108525 tw3422681763189334516 tw10994060815809549100 tw14590457339976211263 tw9135509400086641167 tw4459089533687870943 tw14234282205519890190 tw12128860900640250440 tw4921077809031828658 tw6826075847711093879 tw3117349188377653765 tw3332615030936843252 tw878724635065050170 tw11357633436020976642 tw11852669855176521859 tw10328645525784275687 tw6800793269560071609 tw17990856093072875511 tw1449663815762290614 tw5719922436431350823 tw17691944426679528033 tw9243417617655440027 tw14528761782905425533 tw15109134592551058892 tw8705854588976193325 tw14763679306385581985 tw7365816395682034900 tw9478179476440708480 tw10525964812867897657 tw4653601593865204786 tw10606116114162988716 tw2784342200339945068 tw10286598181567106552 tw10314776496687604735 tw9207670803702208595 tw3858785309410709745 tw1142188222772591613 tw10870777550117877950 tw3656300016841712642 tw3185274949108918814 tw10161522642707986930 tw14801709163596380065 tw11986661215082161010 tw7015020248178836218 tw16855435802974116979 tw37207087362691379 tw11539323452867880301 tw2656847677622527794 tw5816238118780967793 tw17774522959755382161 tw2620327283088139128 tw1529039086781955873 tw12084829124241808424 tw6029192285031516449 tw4620389658841292875 tw16640019261788556582 tw13046635788431465402 tw13182219836879561534 tw7952145346908095477 tw5335655647049789269 tw13025413921904864874 tw6531635358101626602 tw1286159499882232851 tw16614351706117983490 tw2803191642947728030 tw11251472041029777832 tw16327581424542463751 tw17338878246156325182 tw17435967519910049271 tw12330359357391276784 tw17443478751003271087 tw14618902920309559370 tw5871104225087124086 tw10143222463976937415 tw1674065711666992333 tw293875680718064033 tw5553337833916646958 tw12585967334963109722 tw9273900224647444725 tw1694072231389166171 tw3869612444744126059 tw17050327979062455051 tw11290551341817540215 tw16903825116995737286 tw7677501906231858357 tw4045768436316527854 tw8237091166972990685 tw16947818783273248359 tw6599312408608444369 tw4544399189407234114 tw3169086321667273065 tw8651100146219088435 tw11322445756904741587 tw7609644131164711748 tw7784212249387891402 tw17171163221987200301 tw18409966450570014046 tw15315891431355588682 tw595266627277833860 tw1800230984394727866 tw10489837911777308530 tw1633459687362511041 tw12671614700196014076 tw6045691148069284319 tw2179739162938764560 tw12586802153469200653 tw497269788858998251 tw446795372889754558 tw14023935547137310750 tw20241407883766194 tw13803261119424365750 tw17980976557984022829 tw12020070579845761915 tw442828125249136617 tw4556564213760682464 tw10416861162259038310 tw8126269758770569598 tw12669063532968686409 tw17661623788522717016 tw17138199978950369759 tw3297384250385737674 tw8823399484560551972 tw12689367906690326705 tw15026602863612489095 tw12681672143500771514 tw6443594407944516740 tw2811774467499303530 tw6385622426140721578 tw14071175933983285801 tw17181233141369402068 tw6775132268868079887 tw12051720826585735421 tw12301125997177300273 tw16523463535664485634 tw2754223372949659070 tw4678879170619235957 tw9164522924340359967 tw10665457365906026428 tw2380898523848731408 tw9716073559065100836 tw15105306356294191225 tw13438569360033180616 tw15929912663266649742 tw11915003663329549577 tw2475999744294779462 tw2149092721859415493 tw12545672918829085839 tw14143413699434141870 tw14574511366946863041 tw8824513868074979485 tw15686534913444386197 tw8733326182363334871 tw13674274767769158227 tw13998841089165256233 tw17703155281144518215 tw2192374936740945885 tw859202909815356555 tw5414758952666481462 tw10990179278052750023 tw2067111361250849869 tw2117936329712183632 tw10696777438120403875 tw15648439180927136175 tw11851326262836142987 tw15377116342701929090 tw16743968818871295471 tw4042065450524657425 tw7672530654901815035 tw17151803487239104422 tw17509324313267927788 tw16006683705822226702 tw15054442227206453733 tw3169297331327699987 tw990959019207686075 tw3212922076414794617 tw4981591415645881994:True)
open PySem PySem.W PyProof.Rows
set_option maxRecDepth 100000 in
set_option maxHeartbeats 0 in
theorem PySem.Challenge.cw_measuretext_s11_put_holds : PySem.Challenge.rw_measuretext_s11_put.Holds := by
 w_on;k_headS;(case hw=>exact ⟨[.list [],.list [],.list []],by left,by left⟩)
 k_fillS
 refine L2.zg (r:=PySem.Challenge.rw_measuretext_s11_put) (k:=22) (CX:=L2.CX0) (ps:=["name","first","second"]) (sp:=M.jo PyVaunid.put) (by left) rfl rfl ⟨rfl,by decide,by decide⟩ (mem_of_find?_eq_some (p:=fun e=>e.name == ("put":PySem.Str)) (by kernel_rfl)) (fun w=>by kernel_rfl) (fun w h Y=>PySem.W.kIn_of Y) ?F ?S (fun _ _ _ _ z=>z)
 case F =>
  intro w mg fa h Y KX G hmg;apply M.AL KX G hmg
  all_goals first | k_is | (exact ⟨_,_,_,_,_,_,_,_,_,by k_is,by k_is,by k_is⟩) | (exact ⟨_,_,_,by k_is,by ((repeat (refine .cons ⟨_,rfl⟩ ?_));exact .nil)⟩) | ((repeat (refine .cons ⟨_,rfl⟩ ?_));exact .nil) | decide | ((repeat (refine .cons ⟨rfl,⟨_,rfl⟩,rfl⟩ ?_));exact .nil) | ((repeat (refine .cons ⟨rfl,⟨_,rfl⟩,⟨_,rfl⟩⟩ ?_));exact .nil) | (exact ⟨by k_is,_,_,_,_,_,_,_,_,_,by k_is,by k_is,by k_is⟩)
 case S =>
  intro K Pt H xs a hO hwi hask hx;cases hx with
  | cons h1 h2 =>
  cases h2 with
  | cons h2 h3 =>
  cases h3 with
  | cons h3 h4 =>
  cases h4;cases h1 with
  | lst hs ha =>
  cases h2 with
  | lst hs2 ha2 =>
  cases h3 with
  | lst hs3 ha3 =>
  have e:=L2.jg a.1 _ ha;subst e;have e2:=L2.jg a.2.1 _ ha2;subst e2;have e3:=L2.jg a.2.2.1 _ ha3;subst e3;have q:((Codec.inLen 0 10000 a.1 && a.1.all (Codec.inInt 0 255)) && ((Codec.inLen 0 10000 a.2.1 && a.2.1.all (Codec.inInt 0 255)) && ((Codec.inLen 0 10000 a.2.2.1 && a.2.2.1.all (Codec.inInt 0 255)) && true)))=true:=hwi;rw [and_eq_true,and_eq_true,and_eq_true,and_eq_true,and_eq_true,and_eq_true] at q;have by_ : ∀ {l:List Int},l.all (Codec.inInt 0 255)=true->∀ n∈l,0<=n/\n<=255:=fun {l} z n hn=>by
   have:=all_eq_true.mp z n hn;unfold Codec.inInt at this;simpa using this
  exact ⟨_,_,_,a.1,a.2.1,a.2.2.1,rfl,L2.ai,L2.lB hO hs,L2.lB hO hs2,L2.lB hO hs3,(Codec.inNat_iff.mp q.1.1).2,(Codec.inNat_iff.mp q.2.1.1).2,(Codec.inNat_iff.mp q.2.2.1.1).2,by_ q.1.2,by_ q.2.1.2,by_ q.2.2.1.2,fun H' p hp => .lst (L2.SqL.of hp) (L2.qI _)⟩
#print axioms PySem.Challenge.cw_measuretext_s11_put_holds
