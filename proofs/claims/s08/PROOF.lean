import PyProof.Rows.All
import Wide.All
import OpenK.AllK
import Wide.FinOn
import PyProof.EqAt
import PyProof.EqKinds
import PyProof.TupleCall
import KE.BitLaws
import PyProof.EnumStmt
import PyProof.Rows.CountFlat
import PyProof.ExcBaseAll.Exception
import PyProof.ExcAttrAll.Exception
import Open.SpecLaws
import KE.OsHead
import KE.OsGo
import PySem.Challenge.RW_measuretext_s08_free
set_option Elab.async false
set_option linter.all false
set_option maxRecDepth 100000
local macro_rules
  | `(tactic| omega) => `(tactic| lia)
namespace L2
open PySem PySem.Spec PyProof.Rows
noncomputable abbrev Key:=Sum Int Str
noncomputable def zmn:Key→Value→Bool
  | .inl k,v=>Value.isInt k v
  | .inr x,v=>Value.isStrOf x v
noncomputable def keyH (w:World):Key→Int
  | .inl k=>hashInt k
  | .inr x=>hashStr w x
theorem zbf : ∀ {k:Key}{v:Value},zmn k v=true→(∃ i t,k=Sum.inl i∧v=Value.int i t)∨(∃ x t,k=Sum.inr x∧v=Value.str x t)
  | .inl i,v,h=>by
    obtain ⟨t,e⟩:=Value.isInt_shape (k:=i) (v:=v) h
    exact .inl ⟨i,t,rfl,e⟩
  | .inr x,v,h=>by
    obtain ⟨t,e⟩:=Value.isStrOf_shape (x:=x) (v:=v) h
    exact .inr ⟨x,t,rfl,e⟩
theorem zrl (i:Int) (t:Tok):zmn (.inl i) (.int i t)=true:=by simp [zmn,Value.isInt]
theorem zrk (x:Str) (t:Tok):zmn (.inr x) (.str x t)=true:=by simp [zmn,Value.isStrOf]
theorem zx6 (a b:Int):decide ((Sum.inl a:Key)=Sum.inl b)=(a == b):=by
  by_cases e:a=b
  · subst e;simp
  · have h : ¬ (Sum.inl a:Key)=Sum.inl b:=fun q=>e (Sum.inl.inj q)
    rw [decide_eq_false h]
    exact (beq_eq_false_iff_ne.mpr e).symm
theorem zx3 (a b:Str):decide ((Sum.inr a:Key)=Sum.inr b)=decide (a=b):=by
  by_cases e:a=b
  · subst e;simp
  · have h : ¬ (Sum.inr a:Key)=Sum.inr b:=fun q=>e (Sum.inr.inj q)
    rw [decide_eq_false h,decide_eq_false e]
theorem zx5 (a:Int) (b:Str):decide ((Sum.inl a:Key)=Sum.inr b)=false:=decide_eq_false (fun q=>nomatch q)
theorem zx4 (a:Str) (b:Int):decide ((Sum.inr a:Key)=Sum.inl b)=false:=decide_eq_false (fun q=>nomatch q)
noncomputable def zba (prog:Program) (w:World):PySem.KeyKind prog w Key where
  is:=zmn
  hash:=keyH w
  inj:=fun v a b ha hb=>by
    rcases zbf ha with ⟨i,t,rfl,rfl⟩ | ⟨x,t,rfl,rfl⟩
    · rcases zbf hb with ⟨j,u,rfl,e⟩ | ⟨y,u,rfl,e⟩
      · injection e with e1 _;rw [e1]
      · exact nomatch e
    · rcases zbf hb with ⟨j,u,rfl,e⟩ | ⟨y,u,rfl,e⟩
      · exact nomatch e
      · injection e with e1 _;rw [e1]
  byValue:=fun k v h=>by
    rcases zbf h with ⟨i,t,rfl,rfl⟩ | ⟨x,t,rfl,rfl⟩ <;> rfl
  pyHash:=fun hv h=>by
    rcases zbf hv with ⟨i,t,rfl,rfl⟩ | ⟨x,t,rfl,rfl⟩
    · exact wpAny_pyHash_int h
    · exact wpAny_pyHash_str h
  eqBool:=fun hu hv h=>by
    rcases zbf hu with ⟨i,t,rfl,rfl⟩ | ⟨x,t,rfl,rfl⟩
    · rcases zbf hv with ⟨j,u,rfl,rfl⟩ | ⟨y,u,rfl,rfl⟩
      · rw [zx6] at h;exact wpAny_eqBool_int h
      · rw [zx5] at h;exact SeqAt.EqAt.int_str i t y u _ _ _ _ h
    · rcases zbf hv with ⟨j,u,rfl,rfl⟩ | ⟨y,u,rfl,rfl⟩
      · rw [zx4] at h;exact SeqAt.EqAt.str_int x t j u _ _ _ _ h
      · rw [zx3] at h;exact wpAny_eqBool_str h
  «strs» := fun k x t v h=>by
    rcases zbf h with ⟨i,u,rfl,e⟩ | ⟨y,u,rfl,e⟩
    · exact nomatch e
    · injection e with e1 _
      subst e1
      cases v <;> rfl
theorem zmi (prog:Program) (w:World) (i:Int) (t:Tok):(zba prog w).is (.inl i) (.int i t)=true:=zrl i t
theorem zhn (prog:Program) (w:World) (x:Str) (t:Tok):(zba prog w).is (.inr x) (.str x t)=true:=zrk x t
end L2
namespace L2
open PySem PySem.Spec PyProof.Rows
inductive V where
  | non | bl (b:Bool) | int (i:Int) | str (x:Str) | byt (b:Array UInt8) | flt (b:UInt64) | ref (a:Addr) | ty (n:String)
  deriving DecidableEq
noncomputable def RelV:V→Value→Prop
  | .non,u=>u=Value.none
  | .bl b,u=>u=Value.bool b
  | .int i,u=>∃ t,u=Value.int i t
  | .str x,u=>∃ t,u=Value.str x t
  | .byt b,u=>∃ t,u=Value.bytes b t
  | .flt b,u=>∃ t,u=Value.float b t
  | .ref a,u=>u=Value.ref a
  | .ty n,u=>u=Value.type n
noncomputable abbrev Vals:List V→List Value→Prop:=Paired RelV
theorem Vals.length {xs:List V}{us:List Value} (r:Vals xs us):xs.length=us.length:=Paired.length r
theorem Vals.get : ∀ {xs:List V}{us:List Value}{i:Nat}{x:V},Vals xs us→xs[i]? = some x→∃ u,us[i]? = some u∧RelV x u
  | _,_,_,_,.nil,e=>by simp at e
  | _,_,0,_,.cons r _,e=>by simp at e;subst e;exact ⟨_,rfl,r⟩
  | _,_,i+1,x,.cons _ t,e=>by
    obtain ⟨u,h1,h2⟩:=Vals.get (i:=i) (x:=x) t (by simpa using e)
    exact ⟨u,by simpa using h1,h2⟩
theorem Vals.set {x:V}{u:Value} (r:RelV x u) : ∀ {xs:List V}{us:List Value} (i:Nat),Vals xs us→Vals (xs.set i x) (us.set i u)
  | _,_,_,.nil => .nil
  | _,_,0,.cons _ t => .cons r t
  | _,_,i+1,.cons q t => .cons q (Vals.set r i t)
theorem Vals.append : ∀ {xs ys:List V}{us ws:List Value},Vals xs us→Vals ys ws→Vals (xs++ys) (us++ws)
  | _,_,_,_,.nil,s=>s
  | _,_,_,_,.cons r t,s => .cons r (Vals.append t s)
theorem Vals.take : ∀ {xs:List V}{us:List Value} (n:Nat),Vals xs us→Vals (xs.take n) (us.take n)
  | _,_,0,_ => .nil
  | _,_,_+1,.nil => .nil
  | _,_,n+1,.cons r t => .cons r (Vals.take n t)
theorem Vals.drop : ∀ {xs:List V}{us:List Value} (n:Nat),Vals xs us→Vals (xs.drop n) (us.drop n)
  | _,_,0,r=>r
  | _,_,_+1,.nil => .nil
  | _,_,n+1,.cons _ t=>Vals.drop n t
noncomputable def RelO:Option V→Option Value→Prop
  | some v,some u=>RelV v u
  | none,none=>True
  | _,_=>False
noncomputable def KV {κ:Type}:List (κ×V)→List (κ×Value)→Prop:=Paired fun (p:κ×V) (q:κ×Value)=>p.1=q.1∧RelV p.2 q.2
noncomputable def kV:Key→V
  | .inl i => .int i
  | .inr x => .str x
inductive HO where
  | lst (xs:List V)
  | tup (xs:List V)
  | dK (kvs:List (Key×V)) | dT (kvs:List (List Key×V))
  | set (S:Int→Bool) (n:Nat)
  | ins (C dx:Addr) (fs:List (Str×V))
  | own (x:Addr)
  | xd (fs:List (Str×V))
  | met (f x:Addr)
  | rng (lo hi:Int)
  | frz (o:Obj) (u:HO)
  | tbl (ps:Array Value)
  | ext (φ:Heap→Prop)
noncomputable abbrev Hp:=Addr→Option HO
noncomputable def upd (H:Hp) (a:Addr) (o:HO):Hp:=fun b=>if b=a then some o else H b
theorem zad {H:Hp}{a:Addr}{o:HO}:upd H a o a=some o:=by unfold upd;rw [if_pos rfl]
theorem zah {H:Hp}{a b:Addr}{o:HO} (h:b≠a):upd H a o b=H b:=by unfold upd;rw [if_neg h]
theorem zgy {H:Hp}{a:Addr}{o u:HO}:upd (upd H a o) a u=upd H a u:=by
  funext b;unfold upd;split <;> rfl
theorem zci {H:Hp}{a b:Addr}{o u:HO} (h:H a=some o) (h':H b=some u) (d:o≠u):a≠b:=by
  intro e;subst e;rw [h] at h';exact d (Option.some.inj h')
theorem zag {H:Hp}{a b:Addr}{o:HO} (h:H a=some o) (h':H b=none):a≠b:=by
  intro e;subst e;rw [h] at h';cases h'
section
variable (P:Program) (w:World)
noncomputable def zbp (H:Hp) (h:Heap) (a:Addr):HO→Prop
  | .lst xs=>xs.length≤sizeLine∧∃ (its:List Value) (n:Nat),Vals xs its∧h.get? a=some { cls := .type "list",data := .seq its.toArray n }
  | .tup xs=>xs.length≤sizeLine∧∃ its:List Value,Vals xs its∧IsTup h a its.toArray
  | .dK kvs=>kvs.length≤sizeLine∧(a == sysModules)=false∧∃ vs,KV kvs vs∧h.DictOf (zba P w) a vs
  | .dT kvs=>kvs.length≤sizeLine∧(a == sysModules)=false∧∃ xs:List (List Key×Addr×Value),
      Paired (fun (p:List Key×V) (q:List Key×Addr×Value)=>p.1=q.1∧H q.2.1=some (.tup (p.1.map kV))∧RelV p.2 q.2.2) kvs xs ∧
      ∃ o es ep,h.get? a=some o∧o.ExactDict∧o.data = .dict es ep∧es.toList=xs.map (entryOfKey (tupleKind (zba P w)))∧(xs.map (·.1)).Nodup
  | .set S n=>h.SetOf (intKind P w) a S n
  | .ins C dx fs=>H dx=some (.own a)∧fs.length≤1000∧dx≠a∧h.get? a=some (PySem.W.instObj C dx) ∧
      ∃ mA,h.Ns1 dx mA∧(∀ f,RelO (fs.lookup f) (mA f))∧PySem.Within mA (fs.map (·.1))
  | .own _=>∃ o,h.get? a=some o
  | .xd fs=>∃ mA,h.Ns1 a mA∧∀ f,RelO (fs.lookup f) (mA f)
  | .rng lo hi=>∃ t u v,h.get? a=some { cls := .type "range",data := .fields #[.int lo t,.int hi u,.int 1 v] }
  | .frz o u=>h.get? a=some o∧zbp H h a u
  | .tbl ps=>h.get? a=some { cls := .none,data := .fields ps }
  | .met f x=>h.get? a=some (PySem.W.methodObj (.ref f) (.ref x))
  | .ext φ=>φ h∧(∃ o,h.get? a=some o)∧∀ h1 h2:Heap,φ h1→(∀ o,h1.get? a=some o→h2.get? a=some o)→φ h2
noncomputable def HOk (H:Hp) (h:Heap):Prop:=∀ a o,H a=some o→zbp P w H h a o
end
section
variable {P:Program}{w:World}{H H':Hp}{h h':Heap}{a:Addr}{o:HO}
theorem zbp.lt (x:zbp P w H h a o):a<h.objs.size:=by
  cases o with
  | lst xs=>obtain ⟨_,_,_,_,e⟩:=x;exact Heap.lt_size e
  | tup xs=>obtain ⟨_,_,_,p⟩:=x;exact p.lt
  | dK kvs=>obtain ⟨_,_,_,_,o,_,_,e,_⟩:=x;exact Heap.lt_size e
  | dT kvs=>obtain ⟨_,_,_,_,o,_,_,e,_⟩:=x;exact Heap.lt_size e
  | set S n=>obtain ⟨o,_,_,_,e,_⟩:=x;exact Heap.lt_size e
  | ins C dx fs=>obtain ⟨_,_,_,e,_⟩:=x;exact Heap.lt_size e
  | own y=>obtain ⟨_,e⟩:=x;exact Heap.lt_size e
  | xd fs=>obtain ⟨_,⟨_,_,_,e,_⟩,_⟩:=x;exact Heap.lt_size e
  | rng lo hi=>obtain ⟨_,_,_,e⟩:=x;exact Heap.lt_size e
  | frz ob u=>obtain ⟨e,_⟩:=x;exact Heap.lt_size e
  | tbl ps=>exact Heap.lt_size (show h.get? a=some _ from x)
  | met f y=>exact Heap.lt_size (show h.get? a=some _ from x)
  | ext φ=>obtain ⟨_,⟨_,e⟩,_⟩:=x;exact Heap.lt_size e
theorem Paired.mapP {α β:Type}{F G:α→β→Prop} : ∀ {l₁:List α}{l₂:List β},Paired F l₁ l₂→(∀ a b,F a b→G a b)→Paired G l₁ l₂
  | _,_,.nil,_ => .nil
  | _,_,.cons r t,f => .cons (f _ _ r) (Paired.mapP t f)
theorem zbp.stay (x:zbp P w H h a o) (k : ∀ b u,(b=a∨H b=some (.own a))→h.get? b=some u→h'.get? b=some u)
    (ho : ∀ b,H b=some (.own a)→H' b=some (.own a)) (ht : ∀ b xs,H b=some (.tup xs)→H' b=some (.tup xs)):zbp P w H' h' a o:=by
  induction o with
  | lst xs=>obtain ⟨z,its,n,r,e⟩:=x;exact ⟨z,its,n,r,k _ _ (.inl rfl) e⟩
  | tup xs=>obtain ⟨z,its,r,ob,e,c⟩:=x;exact ⟨z,its,r,ob,k _ _ (.inl rfl) e,c⟩
  | dK kvs=>obtain ⟨z,y,vs,r,ob,es,ep,e,c⟩:=x;exact ⟨z,y,vs,r,ob,es,ep,k _ _ (.inl rfl) e,c⟩
  | dT kvs =>
    obtain ⟨z,y,xs,r,ob,es,ep,e,c⟩:=x
    exact ⟨z,y,xs,Paired.mapP r fun p q z=>⟨z.1,ht _ _ z.2.1,z.2.2⟩,ob,es,ep,k _ _ (.inl rfl) e,c⟩
  | set S n=>obtain ⟨ob,es,ep,t,e,c⟩:=x;exact ⟨ob,es,ep,t,k _ _ (.inl rfl) e,c⟩
  | ins C dx fs =>
    obtain ⟨d,z,ne,e,mA,⟨od,es,ep,e2,c⟩,r⟩:=x
    exact ⟨ho _ d,z,ne,k _ _ (.inl rfl) e,mA,⟨od,es,ep,k _ _ (.inr d) e2,c⟩,r⟩
  | own y=>obtain ⟨ob,e⟩:=x;exact ⟨ob,k _ _ (.inl rfl) e⟩
  | xd fs=>obtain ⟨mA,⟨od,es,ep,e,c⟩,r⟩:=x;exact ⟨mA,⟨od,es,ep,k _ _ (.inl rfl) e,c⟩,r⟩
  | rng lo hi=>obtain ⟨t,u,v,e⟩:=x;exact ⟨t,u,v,k _ _ (.inl rfl) e⟩
  | frz ob u ih=>obtain ⟨e,q⟩:=x;exact ⟨k _ _ (.inl rfl) e,ih q⟩
  | tbl ps =>
    have e:h.get? a=some { cls := .none,data := .fields ps }:=x
    show h'.get? a=some { cls := .none,data := .fields ps }
    exact k a _ (.inl rfl) e
  | met f y =>
    have e:h.get? a=some (PySem.W.methodObj (.ref f) (.ref y)):=x
    show h'.get? a=some (PySem.W.methodObj (.ref f) (.ref y))
    exact k a _ (.inl rfl) e
  | ext φ=>obtain ⟨p,⟨o,e⟩,st⟩:=x;exact ⟨st _ _ p fun o q=>k _ _ (.inl rfl) q,⟨o,k _ _ (.inl rfl) e⟩,st⟩
theorem HOk.lt (x:HOk P w H h) (e:H a=some o):a<h.objs.size:=(x a o e).lt
theorem HOk.fresh (x:HOk P w H h) (e:h.objs.size≤a):H a=none:=by
  cases q:H a with
  | none=>rfl
  | some u=>exact absurd (Nat.lt_of_lt_of_le (x.lt q) e) (Nat.lt_irrefl _)
theorem HOk.kept (x:HOk P w H h) (k : ∀ b u,h.get? b=some u→h'.get? b=some u):HOk P w H h':=fun a o e =>
  (x a o e).stay (fun b u _ q=>k b u q) (fun _ q=>q) fun _ _ q=>q
theorem HOk.laid (x:HOk P w H h) (k : ∀ b u,h.get? b=some u→h'.get? b=some u) (hp:h.objs.size≤a) (new:zbp P w (upd H a o) h' a o):HOk P w (upd H a o) h':=fun b u e=>by
  have hn:=x.fresh hp
  by_cases hb:b=a
  · subst hb;rw [zad] at e;cases e;exact new
  · rw [zah hb] at e
    exact (x b u e).stay (fun c v _ q=>k c v q) (fun c q=>by rw [zah (zag q hn)];exact q) fun c xs q=>by rw [zah (zag q hn)];exact q
end
noncomputable def Rd (H:Hp) (a:Addr) (u:HO):Prop:=H a=some u∨∃ o,H a=some (.frz o u)
theorem Rd.ok {P:Program}{w:World}{H:Hp}{h:Heap}{a:Addr}{u:HO} (r:Rd H a u) (x:HOk P w H h):zbp P w H h a u:=by
  rcases r with r | ⟨o,r⟩
  · exact x a u r
  · obtain ⟨_,q⟩:=x a _ r
    exact q
noncomputable def Mut:Option HO→Prop
  | some (.lst _)=>True
  | some (.dK _)=>True
  | some (.dT _)=>True
  | some (.set _ _)=>True
  | some (.ins _ _ _)=>True
  | some (.ext _)=>True
  | _=>False
section
variable {P:Program}{w:World}{H:Hp}{h h':Heap}{x e:Addr}{o':HO}
theorem HOk.write (ok:HOk P w H h) (mu:Mut (H x)) (he:e=x∨H e=some (.own x)) (k : ∀ b u,b≠e→h.get? b=some u→h'.get? b=some u) (heo : ∃ u,h'.get? e=some u)
    (new:zbp P w (upd H x o') h' x o'):HOk P w (upd H x o') h':=fun b u q=>by
  have nown : ∀ c y,H c=some (.own y)→c≠x:=fun c y r z=>by subst z;rw [r] at mu;exact mu
  have ntup : ∀ c xs,H c=some (.tup xs)→c≠x:=fun c xs r z=>by subst z;rw [r] at mu;exact mu
  by_cases hb:b=x
  · subst hb;rw [zad] at q;cases q;exact new
  · rw [zah hb] at q
    by_cases hbe:b=e
    · have q':H b=some (.own x):=by
        rcases he with z | z
        · exact absurd (hbe.trans z) hb
        · rw [hbe];exact z
      rw [q] at q';cases q'
      obtain ⟨v,hv⟩:=heo
      exact ⟨v,by rw [hbe];exact hv⟩
    · refine (ok b u q).stay (fun c v hc r=>k c v ?_ r) (fun c r=>by rw [zah (nown c b r)];exact r) fun c xs r=>by rw [zah (ntup c xs r)];exact r
      rcases hc with rfl | hc
      · exact hbe
      · rintro rfl
        rcases he with z | z
        · exact nown c b hc z
        · rw [hc] at z;cases z;exact hb rfl
end
structure Un (fs ex:List Addr) (H H':Hp) (h h':Heap):Prop where
  keep : ∀ b o,h.get? b=some o→H b=none→b∉fs→b∉ex→h'.get? b=some o
  slot : ∀ b o,h.get? b=some o→H b=none→b∈fs→b∉ex→∃ sl,h'.get? b=some { o with slots:=sl }
  free : ∀ b o,h.get? b=some o→H b=none→b∉ex→H' b=none
  there : ∀ b o,h.get? b=some o→b∉ex→∃ o',h'.get? b=some o'
  tups : ∀ b xs,H b=some (.tup xs)→H' b=some (.tup xs)
  frzs : ∀ b o u,H b=some (.frz o u)→H' b=some (.frz o u)
  tbls : ∀ b ps,H b=some (.tbl ps)→∃ more,H' b=some (.tbl (ps++more))
section
variable {fs fs' ex ex':List Addr}{H H1 H2:Hp}{h h1 h2 h':Heap}{a x e:Addr}{o:HO}
theorem Un.any (u:Un fs ex H H1 h h1) {b:Addr}{ob:Obj} (q:h.get? b=some ob) (n:H b=none) (hx:b∉ex) : ∃ sl,h1.get? b=some { ob with slots:=sl }:=by
  by_cases hb:b∈fs
  · exact u.slot b ob q n hb hx
  · exact ⟨ob.slots,u.keep b ob q n hb hx⟩
theorem Un.kept (k : ∀ b u,h.get? b=some u→h'.get? b=some u):Un fs ex H H h h' :=
  ⟨fun b ob q _ _ _=>k b ob q,fun b ob q _ _ _=>⟨ob.slots,k b ob q⟩,fun _ _ _ n _=>n,fun b ob q _=>⟨ob,k b ob q⟩,fun _ _ q=>q,fun _ _ _ q=>q,fun _ ps q=>⟨#[],by rw [q];simp⟩⟩
theorem Un.refl:Un fs ex H H h h:=Un.kept fun _ _ q=>q
theorem Un.laid (k : ∀ b u,h.get? b=some u→h'.get? b=some u) (hp:h.objs.size≤a) (hn:H a=none):Un fs ex H (upd H a o) h h' where
  keep:=fun b u q _ _ _=>k b u q
  slot:=fun b u q _ _ _=>⟨u.slots,k b u q⟩
  free:=fun b u q n _=>by rw [zah (Nat.ne_of_lt (Nat.lt_of_lt_of_le (Heap.lt_size q) hp))];exact n
  there:=fun b u q _=>⟨u,k b u q⟩
  tups:=fun b xs q=>by rw [zah (zag q hn)];exact q
  frzs:=fun b u xs q=>by rw [zah (zag q hn)];exact q
  tbls:=fun b ps q=>⟨#[],by rw [zah (zag q hn),q];simp⟩
theorem Un.write (mu:Mut (H x)) (he:e=x∨H e=some (.own x)) (k : ∀ b u,b≠e→h.get? b=some u→h'.get? b=some u) (heo : ∃ u,h'.get? e=some u):Un fs ex H (upd H x o) h h':=by
  have hx : ∀ b,H b=none→b≠x:=fun b n z=>by subst z;rw [n] at mu;exact mu
  have hb : ∀ b,H b=none→b≠e:=fun b n z=>by
    subst z
    rcases he with r | r
    · exact hx b n r
    · rw [n] at r;cases r
  have hm : ∀ b u,H b=some u→¬ Mut (some u)→b≠x:=fun b u q nm z=>by subst z;rw [q] at mu;exact nm mu
  refine ⟨fun b u q n _ _=>k b u (hb b n) q,fun b u q n _ _=>⟨u.slots,k b u (hb b n) q⟩,fun b u q n _=>by rw [zah (hx b n)];exact n,fun b u q _=>?_,
    fun b xs q=>by rw [zah (hm b _ q fun z=>z)];exact q,fun b u xs q=>by rw [zah (hm b _ q fun z=>z)];exact q,fun b ps q=>⟨#[],by rw [zah (hm b _ q fun z=>z),q];simp⟩⟩
  by_cases hbe:b=e
  · subst hbe;exact heo
  · exact ⟨u,k b u hbe q⟩
end
noncomputable def trk (h:Heap) (H:Hp):List Addr:=(List.range h.objs.size).filter fun a=>(H a).isSome
noncomputable def hidT (h:Heap) (H:Hp):Heap:=PySem.W.hideAll h (trk h H)
theorem zrp (h:Heap) (H:Hp):(hidT h H).objs.size=h.objs.size:=PySem.W.hideAll_size _ _
theorem ztt {h:Heap}{H:Hp}{b:Addr}{o:Obj} (e:h.get? b=some o) (n:H b=none):(hidT h H).get? b=some o :=
  PySem.W.hideAll_get _ e fun hm=>by
    have q:(H b).isSome=true:=(List.mem_filter.mp hm).2
    rw [n] at q;simp at q
theorem zwa {h:Heap}{H:Hp}{b:Addr}{o:Obj} (e:(hidT h H).get? b=some o):h.get? b=some o∧H b=none:=by
  have e':h.get? b=some o:=PySem.W.of_hideAll (trk h H) e
  refine ⟨e',?_⟩
  cases q:H b with
  | none=>rfl
  | some x =>
    have hm:b∈trk h H:=List.mem_filter.mpr ⟨List.mem_range.mpr (Heap.lt_size e'),by simp [q]⟩
    have z:(hidT h H).get? b=none:=PySem.W.hideAll_none (trk h H) hm
    rw [z] at e;cases e
noncomputable def zw2 (g h:Heap) (L:Addr):List (Addr×Obj):=(List.range h.objs.size).filterMap fun a=>if a=L∨(g.get? a).isSome=true then none else (h.get? a).map fun o=>(a,o)
noncomputable def rest (g h:Heap) (L d:Addr):List (Addr×Obj):=(zw2 g h L).filter fun p=>decide (p.1≠d)
end L2
namespace L2
open PySem PySem.Spec PyProof.Rows
structure Mod (K:PySem.W.Frag) (mg:Str→Option Value) (base:Heap):Prop where
  kin:K.In base
  glob:base.Ns mainGlobals mg
  blt : ∃ mb,base.Ns builtinsNs mb∧∀ x:Str,x≠"__name__"→mb x=bootBuiltins x
  nolimit:base.NoLimit
structure Cx where
  prog:Program
  w:World
  K:PySem.W.Frag
  mg:Str→Option Value
  base:Heap
  A:Around
  N:List Str
  s_0:Shared
  H_0:Hp
  env:Env
  outer:List Env
  stack:List Env
  ex:List Addr
  fn:Str→Bool
  calm:Bool
  pn:List (Addr×Obj)
  xe:Value→Shared→Prop
noncomputable def frs (l:List Env):List Addr:=l.filterMap (·.frame)
noncomputable abbrev Cx.fs (X:Cx):List Addr:=frs X.outer
noncomputable def Vis (sc:Scope) (x:Str):Prop:=sc.names.lookup x=some .local∨sc.names.lookup x=some .cell∨sc.names.lookup x=some .free
noncomputable def Loc (sc:Scope) (x:Str):Prop:=sc.names.lookup x=some .local∨sc.names.lookup x=some .cell
noncomputable def Look (env:Env) (h:Heap) (m:Str→Option Value) (x:Str) (u:Value):Prop :=
  (env.kindOf x=some .local∧m x=some u)∨((env.kindOf x=some .cell∨env.kindOf x=some .free)∧∃ c,env.cells.lookup x=some c∧h.IsCell c (some u))
structure Cx.Ok (X:Cx):Prop where
  mod:Mod X.K X.mg X.base
  kind:X.env.scope.kind = .function
  glob:X.env.globals=mainGlobals
  blt:X.env.builtins=builtinsNs
  above:X.s_0.heap.objs.size≤X.env.locals
  inj : ∀ x y c,X.env.cells.lookup x=some c→X.env.cells.lookup y=some c→x=y
  has : ∀ x,(X.env.kindOf x=some .cell∨X.env.kindOf x=some .free)→∃ c,X.env.cells.lookup x=some c
  cab : ∀ x c,X.fn x=true→X.env.cells.lookup x=some c→X.s_0.heap.objs.size≤c
  hd:X.calm=true→X.A.handled=none
  frames:X.A.frames=some X.stack
  stk:X.stack=X.outer∨(X.stack=X.env::X.outer∧X.env.frame=some X.env.locals)
  exf : ∀ b∈X.ex,b≠X.env.locals∧∀ x c,X.env.cells.lookup x=some c→c≠b
  bs : ∀ b o,X.base.get? b=some o→X.s_0.heap.get? b=some o∧X.H_0 b=none
  bsz:X.base.objs.size≤X.s_0.heap.objs.size
  noex : ∀ b o,X.base.get? b=some o→b∉X.ex
  exfs : ∀ b∈X.ex,b∉X.fs
  funs:X.s_0.heap.FunFrames X.base X.outer
  frf : ∀ b∈X.fs,X.H_0 b=none
structure Inv (X:Cx) (pins:List (Addr×Obj)) (σ:List (Option V)) (H:Hp) (s:Shared):Prop where
  ok:X.Ok
  os:s.os=X.s_0.os
  bare:AllBare s.gens
  base:Un X.fs X.ex X.H_0 H X.s_0.heap s.heap
  loc : ∃ m,s.heap.Ns X.env.locals m∧∀ (i:Nat) (x:Str) (v:V),X.N[i]? = some x→σ[i]? = some (some v)→Vis X.env.scope x→∃ u,RelV v u∧Look X.env s.heap m x u
  cell : ∀ x c,X.env.cells.lookup x=some c→∃ v,s.heap.IsCell c v
  free:H X.env.locals=none
  freeC : ∀ x c,X.env.cells.lookup x=some c→H c=none
  pin : ∀ p∈X.pn++pins,s.heap.get? p.1=some p.2∧H p.1=none∧p.1≠X.env.locals∧p.1∉X.fs∧∀ v,p.2.data ≠ .cell v
  hok:HOk X.prog X.w H s.heap
  len:σ.length=X.N.length
section
variable {X:Cx}{pins:List (Addr×Obj)}{σ:List (Option V)}{H H':Hp}{s:Shared}{h':Heap}
theorem Cx.Ok.nofr (ok:X.Ok) {b:Addr}{o:Obj} (e:X.base.get? b=some o):b∉X.fs:=fun hb=>by
  have:=(ok.funs.mem hb).1
  rw [e] at this;cases this
theorem Inv.bs (I:Inv X pins σ H s) : ∀ b o,X.base.get? b=some o→s.heap.get? b=some o∧H b=none:=fun b o e =>
  ⟨I.base.keep b o (I.ok.bs b o e).1 (I.ok.bs b o e).2 (I.ok.nofr e) (I.ok.noex b o e),I.base.free b o (I.ok.bs b o e).1 (I.ok.bs b o e).2 (I.ok.noex b o e)⟩
theorem Inv.bk (I:Inv X pins σ H s) : ∀ b o,X.base.get? b=some o→s.heap.get? b=some o:=fun b o e=>(I.bs b o e).1
theorem Inv.mod (I:Inv X pins σ H s):Mod X.K X.mg X.base:=I.ok.mod
theorem Inv.kIn (I:Inv X pins σ H s):X.K.In s.heap:=I.ok.mod.kin.keeps I.bk
theorem Inv.nolimit (I:Inv X pins σ H s):s.heap.NoLimit:=I.ok.mod.nolimit.keeps I.bk
theorem Inv.fr (I:Inv X pins σ H s) : ∃ m,Fr X.base X.env.locals s.heap m :=
  let ⟨m,hn,_⟩:=I.loc
  ⟨m,hn,I.bk,Nat.le_trans I.ok.bsz I.ok.above⟩
theorem Inv.lt (I:Inv X pins σ H s):X.env.locals<s.heap.objs.size:=let ⟨_,hn,_⟩:=I.loc;hn.lt
theorem Inv.sz (I:Inv X pins σ H s):X.s_0.heap.objs.size≤s.heap.objs.size:=Nat.le_trans I.ok.above (Nat.le_of_lt I.lt)
theorem Inv.nofs (I:Inv X pins σ H s) {a:Addr} (h:s.heap.objs.size≤a):a∉X.fs:=fun hb=>by
  obtain ⟨_,o,ho,_⟩:=I.ok.funs.mem hb
  exact absurd (Nat.lt_of_lt_of_le (Heap.lt_size ho) (Nat.le_trans I.sz h)) (Nat.lt_irrefl _)
theorem Inv.cne (I:Inv X pins σ H s) : ∀ x c,X.env.cells.lookup x=some c→c≠X.env.locals:=fun x c e z=>by
  obtain ⟨v,o,ho,hd⟩:=I.cell x c e
  obtain ⟨m,⟨o',es,ep,ho',hd',_⟩,_⟩:=I.loc
  rw [z,ho'] at ho;cases ho;rw [hd'] at hd;cases hd
theorem Inv.funs (I:Inv X pins σ H s):s.heap.FunFrames X.base X.outer:=by
  have all : ∀ (l:List Env),(∀ b∈frs l,b∈X.fs)→X.s_0.heap.FunFrames X.base l→s.heap.FunFrames X.base l:=by
    intro l
    induction l with
    | nil=>intro _ _;trivial
    | cons env r ih =>
      intro hs hl
      obtain ⟨hk,⟨L,o,hf,hn,ho,hd⟩,hr⟩:=hl
      have hL:L∈X.fs:=hs L (by unfold frs;rw [List.filterMap_cons,hf];exact List.mem_cons_self)
      obtain ⟨sl,e⟩:=I.base.slot L o ho (I.ok.frf L hL) hL fun z=>I.ok.exfs L z hL
      exact ⟨hk,⟨L,_,hf,hn,e,hd⟩,ih (fun b hb=>hs b (by unfold frs;rw [List.filterMap_cons,hf];exact List.mem_cons_of_mem _ hb)) hr⟩
  exact all X.outer (fun _ hb=>hb) I.ok.funs
theorem Inv.stack (I:Inv X pins σ H s):s.heap.FunFrames X.base X.stack:=by
  rcases I.ok.stk with e | ⟨e,hf⟩
  · rw [e];exact I.funs
  · rw [e]
    obtain ⟨m,hn,_⟩:=I.loc
    refine .cons (by rw [I.ok.kind];decide) hf hn ?_ I.funs
    exact Heap.get?_none_of_le (Nat.le_trans I.ok.bsz I.ok.above)
theorem Inv.stkSub (I:Inv X pins σ H s) : ∀ b∈frs X.stack,b∈X.env.locals::X.fs:=fun b hb=>by
  rcases I.ok.stk with e | ⟨e,hf⟩
  · rw [e] at hb;exact List.mem_cons_of_mem _ hb
  · rw [e] at hb
    unfold frs at hb
    rw [List.filterMap_cons,hf] at hb
    exact hb
theorem Inv.stkFree (I:Inv X pins σ H s) : ∀ b∈frs X.stack,H b=none:=fun b hb=>by
  rcases List.mem_cons.mp (I.stkSub b hb) with e | hb
  · rw [e];exact I.free
  · obtain ⟨_,o,ho,_⟩:=I.ok.funs.mem hb
    exact I.base.free b o ho (I.ok.frf b hb) fun z=>I.ok.exfs b z hb
theorem Inv.step {g':Array GenState}{t':Nat}{d':Drawn}{ch:List Addr} (I:Inv X pins σ H s)
    (hch : ∀ b∈ch,(b∈X.ex∨X.s_0.heap.objs.size≤b)∧b≠X.env.locals∧(∀ x c,X.env.cells.lookup x=some c→c≠b)∧∀ p∈X.pn++pins,p.1≠b)
    (keep : ∀ b o,b≠X.env.locals→b∉X.fs→b∉ch→s.heap.get? b=some o→H b=none→h'.get? b=some o)
    (slot : ∀ b o,b≠X.env.locals→b∈X.fs→b∉ch→s.heap.get? b=some o→H b=none→∃ sl,h'.get? b=some { o with slots:=sl }) (free : ∀ b o,b∉ch→s.heap.get? b=some o→H b=none→H' b=none)
    (there : ∀ b o,b∉ch→s.heap.get? b=some o→∃ o',h'.get? b=some o')
    (tups : ∀ b xs,H b=some (.tup xs)→H' b=some (.tup xs)) (frzs : ∀ b o u,H b=some (.frz o u)→H' b=some (.frz o u)) (tbls : ∀ b ps,H b=some (.tbl ps)→∃ more,H' b=some (.tbl (ps++more)))
    (ns : ∀ m,s.heap.Ns X.env.locals m→h'.Ns X.env.locals m) (hok:HOk X.prog X.w H' h') (hg:AllBare g') :
    Inv X pins σ H' { s with heap:=h',gens:=g',drawn:=d',toks:=t' }:=by
  have neL : ∀ b o,X.s_0.heap.get? b=some o→b≠X.env.locals:=fun b o e=>Nat.ne_of_lt (Nat.lt_of_lt_of_le (Heap.lt_size e) I.ok.above)
  have neC : ∀ b o,X.s_0.heap.get? b=some o→b∉X.ex→b∉ch:=fun b o e hx hb=>by
    rcases (hch b hb).1 with z | z
    · exact hx z
    · exact absurd (Nat.lt_of_lt_of_le (Heap.lt_size e) z) (Nat.lt_irrefl _)
  have cellK : ∀ x c,X.env.cells.lookup x=some c→∀ v,s.heap.IsCell c v→h'.IsCell c v:=fun x c e v ⟨o,ho,hd⟩=>by
    have nch:c∉ch:=fun z=>(hch c z).2.2.1 x c e rfl
    by_cases hc:c∈X.fs
    · obtain ⟨sl,q⟩:=slot c o (I.cne x c e) hc nch ho (I.freeC x c e)
      exact ⟨_,q,hd⟩
    · exact ⟨o,keep c o (I.cne x c e) hc nch ho (I.freeC x c e),hd⟩
  refine ⟨I.ok,I.os,hg,⟨fun b o e n hb hx=>?_,fun b o e n hb hx=>?_,fun b o e n hx=>?_,fun b o e hx=>?_,fun b xs e=>tups b xs (I.base.tups b xs e),fun b o xs e=>frzs b o xs (I.base.frzs b o xs e),fun b ps e=>?_⟩,?_,fun x c e=>?_,?_,fun x c e=>?_,fun p hp=>?_,hok,I.len⟩
  · exact keep b o (neL b o e) hb (neC b o e hx) (I.base.keep b o e n hb hx) (I.base.free b o e n hx)
  · obtain ⟨sl,e1⟩:=I.base.slot b o e n hb hx
    obtain ⟨sl',e2⟩:=slot b _ (neL b o e) hb (neC b o e hx) e1 (I.base.free b o e n hx)
    exact ⟨sl',e2⟩
  · obtain ⟨o',e1⟩:=I.base.there b o e hx
    exact free b o' (neC b o e hx) e1 (I.base.free b o e n hx)
  · obtain ⟨o',e1⟩:=I.base.there b o e hx
    exact there b o' (neC b o e hx) e1
  · obtain ⟨m1,e1⟩:=I.base.tbls b ps e
    obtain ⟨m2,e2⟩:=tbls b _ e1
    exact ⟨m1++m2,by rw [e2,Array.append_assoc]⟩
  · obtain ⟨m,hn,hl⟩:=I.loc
    refine ⟨m,ns m hn,fun i x v e1 e2 e3=>?_⟩
    obtain ⟨u,r,l⟩:=hl i x v e1 e2 e3
    refine ⟨u,r,?_⟩
    rcases l with l | ⟨k,c,e,z⟩
    · exact .inl l
    · exact .inr ⟨k,c,e,cellK x c e _ z⟩
  · obtain ⟨v,z⟩:=I.cell x c e
    exact ⟨v,cellK x c e v z⟩
  · obtain ⟨m,⟨o,_,_,ho,_⟩,_⟩:=I.loc
    exact free _ o (fun z=>(hch _ z).2.1 rfl) ho I.free
  · obtain ⟨v,o,ho,hd⟩:=I.cell x c e
    exact free c o (fun z=>(hch c z).2.2.1 x c e rfl) ho (I.freeC x c e)
  · obtain ⟨e,n,ne,nf,d⟩:=I.pin p hp
    have nch:p.1∉ch:=fun z=>(hch p.1 z).2.2.2 p hp rfl
    exact ⟨keep p.1 p.2 ne nf nch e n,free p.1 p.2 nch e n,ne,nf,d⟩
theorem Inv.un {t':Nat} (I:Inv X pins σ H s) (u:Un X.fs [] H H' s.heap h') (hok:HOk X.prog X.w H' h'):Inv X pins σ H' { s with heap:=h',toks:=t' }:=by
  obtain ⟨m,⟨o,es,ep,ho,r⟩,_⟩:=id I.loc
  obtain ⟨sl,hL⟩:=u.any ho I.free (by simp)
  exact I.step (g':=s.gens) (d':=s.drawn) (ch:=[]) (fun _ z=>nomatch z) (fun b o _ hb _ e n=>u.keep b o e n hb (by simp)) (fun b o _ hb _ e n=>u.slot b o e n hb (by simp)) (fun b o _ e n=>u.free b o e n (by simp)) (fun b o _ e=>u.there b o e (by simp)) u.tups u.frzs u.tbls (fun m' hm=>by
    obtain ⟨o',es',ep',ho',r'⟩:=hm
    rw [ho] at ho';cases ho'
    exact ⟨_,es',ep',hL,r'⟩) hok I.bare
theorem Inv.call {g':Array GenState}{t':Nat}{d':Drawn}{ch:List Addr} (I:Inv X pins σ H s) (u:Un (frs X.stack) ch H H' s.heap h') (hok:HOk X.prog X.w H' h') (hg:AllBare g')
    (hch : ∀ b∈ch,(b∈X.ex∨X.s_0.heap.objs.size≤b)∧b≠X.env.locals∧(∀ x c,X.env.cells.lookup x=some c→c≠b)∧∀ p∈X.pn++pins,p.1≠b) :
    Inv X pins σ H' { s with heap:=h',gens:=g',drawn:=d',toks:=t' }:=by
  obtain ⟨m,⟨o,es,ep,ho,r⟩,_⟩:=id I.loc
  obtain ⟨sl,hL⟩:=u.any ho I.free fun z=>(hch _ z).2.1 rfl
  exact I.step (ch:=ch) hch (fun b o hL hb hc e n=>u.keep b o e n (fun z=>(List.mem_cons.mp (I.stkSub b z)).elim hL hb) hc) (fun b o _ _ hc e n=>u.any e n hc) (fun b o hc e n=>u.free b o e n hc) (fun b o hc e=>u.there b o e hc) u.tups u.frzs u.tbls (fun m' hm=>by
    obtain ⟨o',es',ep',ho',r'⟩:=hm
    rw [ho] at ho';cases ho'
    exact ⟨_,es',ep',hL,r'⟩) hok hg
theorem Inv.turned {t':Nat}{it:Addr} (I:Inv X pins σ H s) (k : ∀ b o,b≠it→s.heap.get? b=some o→h'.get? b=some o) (hn:H it=none) (hL:it≠X.env.locals)
    (h1:it∈X.ex∨X.s_0.heap.objs.size≤it) (h2 : ∀ x c,X.env.cells.lookup x=some c→c≠it) (h3 : ∀ p∈X.pn++pins,p.1≠it):Inv X pins σ H { s with heap:=h',toks:=t' }:=by
  have nit : ∀ b u,H b=some u→b≠it:=fun b u e z=>by rw [z,hn] at e;cases e
  refine I.step (g':=s.gens) (d':=s.drawn) (ch:=[it]) (fun b hb=>?_) (fun b o _ _ hc e _=>k b o (fun z=>hc (by simp [z])) e) (fun b o _ _ hc e _=>⟨o.slots,k b o (fun z=>hc (by simp [z])) e⟩) (fun _ _ _ _ n=>n)
    (fun b o hc e=>⟨o,k b o (fun z=>hc (by simp [z])) e⟩) (fun _ _ e=>e) (fun _ _ _ e=>e) (fun b ps e=>⟨#[],by rw [e];simp⟩) (fun m hm=>?_) (fun b u e=>?_) I.bare
  · have e:b=it:=by simpa using hb
    subst e
    exact ⟨h1,hL,h2,h3⟩
  · obtain ⟨o,es,ep,ho,r⟩:=hm
    exact ⟨o,es,ep,k _ o (Ne.symm hL) ho,r⟩
  · refine (I.hok b u e).stay (fun c v hc q=>k c v ?_ q) (fun _ q=>q) fun _ _ q=>q
    rcases hc with z | z
    · rw [z];exact nit b u e
    · exact nit c _ z
theorem Inv.tok (I:Inv X pins σ H s) (t:Nat):Inv X pins σ H { s with toks:=t }:=I.un (h':=s.heap) (t':=t) Un.refl I.hok
theorem Inv.kept {t':Nat} (I:Inv X pins σ H s) (k : ∀ b u,s.heap.get? b=some u→h'.get? b=some u):Inv X pins σ H { s with heap:=h',toks:=t' }:=I.un (Un.kept k) (I.hok.kept k)
theorem Inv.laid {a:Addr}{o:HO}{t':Nat} (I:Inv X pins σ H s) (k : ∀ b u,s.heap.get? b=some u→h'.get? b=some u) (hp:s.heap.objs.size≤a) (new:zbp X.prog X.w (upd H a o) h' a o) :
    Inv X pins σ (upd H a o) { s with heap:=h',toks:=t' }:=I.un (Un.laid k hp (I.hok.fresh hp)) (I.hok.laid k hp new)
theorem Inv.write {x e:Addr}{o:HO}{t':Nat} (I:Inv X pins σ H s) (mu:Mut (H x)) (he:e=x∨H e=some (.own x)) (k : ∀ b u,b≠e→s.heap.get? b=some u→h'.get? b=some u) (heo : ∃ u,h'.get? e=some u)
    (new:zbp X.prog X.w (upd H x o) h' x o):Inv X pins σ (upd H x o) { s with heap:=h',toks:=t' }:=I.un (Un.write mu he k heo) (I.hok.write mu he k heo new)
theorem Inv.weak {σ':List (Option V)} (I:Inv X pins σ H s) (hl:σ'.length=σ.length) (w : ∀ (i:Nat) v,σ'[i]? = some (some v)→σ[i]? = some (some v)):Inv X pins σ' H s :=
  ⟨I.ok,I.os,I.bare,I.base,let ⟨m,hn,hl'⟩:=I.loc;⟨m,hn,fun i x v e1 e2 e3=>hl' i x v e1 (w i v e2) e3⟩,I.cell,I.free,I.freeC,I.pin,I.hok,hl.trans I.len⟩
theorem Inv.pins_of {pins':List (Addr×Obj)} (I:Inv X pins σ H s) (h : ∀ p∈pins',s.heap.get? p.1=some p.2∧H p.1=none∧p.1≠X.env.locals∧p.1∉X.fs∧∀ v,p.2.data ≠ .cell v):Inv X pins' σ H s :=
  ⟨I.ok,I.os,I.bare,I.base,I.loc,I.cell,I.free,I.freeC,fun p hp=>(List.mem_append.mp hp).elim (fun z=>I.pin p (List.mem_append_left _ z)) (h p),I.hok,I.len⟩
theorem zju {N:List Str} (hN:N.Nodup) {i j:Nat}{x:Str} (a:N[i]? = some x) (b:N[j]? = some x):i=j:=by
  obtain ⟨h1,e1⟩:=List.getElem?_eq_some_iff.mp a
  obtain ⟨h2,e2⟩:=List.getElem?_eq_some_iff.mp b
  exact (List.getElem_inj hN).mp (e1.trans e2.symm)
theorem zp4 {M:Model}{A:Around}{E:Value→Shared→Prop}{i:Nat}{x:Str}{v:V}{u:Value}{Q:Unit→Shared→Prop} (I:Inv X pins σ H s) (hN:X.N.Nodup) (hi:X.N[i]? = some x) (hx:Loc X.env.scope x) (r:RelV v u)
    (h : ∀ s',Inv X pins (σ.set i (some v)) H s'→(∃ a,Heap.SameBut a s.heap s'.heap∧(a=X.env.locals∨X.env.cells.lookup x=some a))→Q () s') (hf:X.fn x=true∨X.env.scope.names.lookup x=some .local:=by first | exact .inl rfl | exact .inr rfl | assumption):wpAny M A (storeName X.env x u) Q E s:=by
  obtain ⟨m,hn,hl⟩:=id I.loc
  have hcls:(X.env.scope.kind == .class || (X.env.scope.kind == .module && X.env.locals != X.env.globals))=false:=by rw [I.ok.kind];rfl
  have hiσ:i<σ.length:=by rw [I.len];exact (List.getElem?_eq_some_iff.mp hi).1
  have cne:=I.cne
  have tracked : ∀ {a:Addr}{h':Heap},(∃ o,s.heap.get? a=some o∧H a=none)→Heap.SameBut a s.heap h'→HOk X.prog X.w H h':=fun {a h'} ha hs b ob e=>by
    obtain ⟨_,_,hfree⟩:=ha
    refine (I.hok b ob e).stay (fun c w' hc q=>(hs.2 c ?_).trans q) (fun _ q=>q) fun _ _ q=>q
    rintro rfl
    rcases hc with rfl | hc
    · rw [hfree] at e;cases e
    · rw [hfree] at hc;cases hc
  rcases hx with hk | hk
  · refine wpAny_storeName_local hk hn (fun h' hn' hs=>?_) hcls
    obtain ⟨oL,_,_,hoL,_⟩:=id hn
    refine h _ ⟨I.ok,I.os,I.bare,⟨fun b o e n hb hx=>?_,fun b o e n hb hx=>?_,I.base.free,fun b o e hx=>?_,I.base.tups,I.base.frzs,I.base.tbls⟩,⟨_,hn',fun j y v' e1 e2 e3=>?_⟩,fun y c e=>?_,I.free,I.freeC,fun p hp=>?_,tracked ⟨oL,hoL,I.free⟩ hs,by simpa using I.len⟩ ⟨_,hs,.inl rfl⟩
    · exact (hs.2 b (Nat.ne_of_lt (Nat.lt_of_lt_of_le (Heap.lt_size e) I.ok.above))).trans (I.base.keep b o e n hb hx)
    · obtain ⟨sl,e1⟩:=I.base.slot b o e n hb hx
      exact ⟨sl,(hs.2 b (Nat.ne_of_lt (Nat.lt_of_lt_of_le (Heap.lt_size e) I.ok.above))).trans e1⟩
    · obtain ⟨o',e1⟩:=I.base.there b o e hx
      exact ⟨o',(hs.2 b (Nat.ne_of_lt (Nat.lt_of_lt_of_le (Heap.lt_size e) I.ok.above))).trans e1⟩
    · by_cases hj:j=i
      · subst hj
        rw [hi] at e1;cases e1
        rw [List.getElem?_set_self hiσ] at e2
        cases e2
        exact ⟨u,r,.inl ⟨hk,by simp⟩⟩
      · rw [List.getElem?_set_ne (Ne.symm hj)] at e2
        obtain ⟨u',r',q⟩:=hl j y v' e1 e2 e3
        refine ⟨u',r',?_⟩
        rcases q with ⟨k,e⟩ | ⟨k,c,e,z⟩
        · refine .inl ⟨k,?_⟩
          have:y≠x:=fun e=>hj (zju hN e1 (e ▸ hi))
          simp [this,e]
        · exact .inr ⟨k,c,e,z.sameBut hs (cne y c e)⟩
    · obtain ⟨w',z⟩:=I.cell y c e
      exact ⟨w',z.sameBut hs (cne y c e)⟩
    · obtain ⟨e,n,ne,nf,d⟩:=I.pin p hp
      exact ⟨(hs.2 p.1 ne).trans e,n,ne,nf,d⟩
  · have hfn:X.fn x=true:=by
      rcases hf with z | z
      · exact z
      · rw [z] at hk;cases hk
    obtain ⟨c,hc⟩:=I.ok.has x (.inl hk)
    obtain ⟨w',z⟩:=I.cell x c hc
    refine wpAny_storeName_cell I.ok.kind hk hc z (fun h' hc' hs=>?_)
    obtain ⟨oc,hoc,hocd⟩:=id z
    refine h { s with heap:=h' } ⟨I.ok,I.os,I.bare,⟨fun b o e n hb hx=>?_,fun b o e n hb hx=>?_,I.base.free,fun b o e hx=>?_,I.base.tups,I.base.frzs,I.base.tbls⟩,⟨m,hn.sameBut hs (Ne.symm (cne x c hc)),fun j y v' e1 e2 e3=>?_⟩,fun y c' e=>?_,I.free,I.freeC,fun p hp=>?_,tracked ⟨oc,hoc,I.freeC x c hc⟩ hs,by simpa using I.len⟩ ⟨c,hs,.inr hc⟩
    · exact (hs.2 b (Nat.ne_of_lt (Nat.lt_of_lt_of_le (Heap.lt_size e) (I.ok.cab x c hfn hc)))).trans (I.base.keep b o e n hb hx)
    · obtain ⟨sl,e1⟩:=I.base.slot b o e n hb hx
      exact ⟨sl,(hs.2 b (Nat.ne_of_lt (Nat.lt_of_lt_of_le (Heap.lt_size e) (I.ok.cab x c hfn hc)))).trans e1⟩
    · obtain ⟨o',e1⟩:=I.base.there b o e hx
      exact ⟨o',(hs.2 b (Nat.ne_of_lt (Nat.lt_of_lt_of_le (Heap.lt_size e) (I.ok.cab x c hfn hc)))).trans e1⟩
    · by_cases hj:j=i
      · subst hj
        rw [hi] at e1;cases e1
        rw [List.getElem?_set_self hiσ] at e2
        cases e2
        exact ⟨u,r,.inr ⟨.inl hk,c,hc,hc'⟩⟩
      · rw [List.getElem?_set_ne (Ne.symm hj)] at e2
        obtain ⟨u',r',q⟩:=hl j y v' e1 e2 e3
        refine ⟨u',r',?_⟩
        rcases q with q | ⟨k,c',e,z'⟩
        · exact .inl q
        · refine .inr ⟨k,c',e,z'.sameBut hs ?_⟩
          rintro rfl
          exact hj (zju hN e1 (I.ok.inj _ _ _ e hc ▸ hi))
    · by_cases hcc:c'=c
      · subst hcc;exact ⟨_,hc'⟩
      · obtain ⟨w2,z2⟩:=I.cell y c' e
        exact ⟨w2,z2.sameBut hs hcc⟩
    · obtain ⟨e,n,ne,nf,d⟩:=I.pin p hp
      refine ⟨(hs.2 p.1 ?_).trans e,n,ne,nf,d⟩
      intro q
      rw [q,hoc] at e
      have q':oc=p.2:=Option.some.inj e
      exact d w' (by rw [← q'];exact hocd)
theorem zgj {M:Model}{A:Around}{E:Value→Shared→Prop}{i:Nat}{x:Str}{v:V}{u:Value}{Q:Unit→Shared→Prop} (I:Inv X pins σ H s) (hN:X.N.Nodup) (hi:X.N[i]? = some x) (hx:Loc X.env.scope x) (r:RelV v u)
    (h : ∀ s',Inv X pins (σ.set i (some v)) H s'→Q () s') (hf:X.fn x=true∨X.env.scope.names.lookup x=some .local:=by first | exact .inl rfl | exact .inr rfl | assumption):wpAny M A (storeName X.env x u) Q E s :=
  zp4 I hN hi hx r (fun s' I' _=>h s' I') hf
theorem Inv.call' {s':Shared}{ch:List Addr} (I:Inv X pins σ H s) (ho:s'.os=s.os) (u:Un (frs X.stack) ch H H' s.heap s'.heap) (hok:HOk X.prog X.w H' s'.heap) (hg:AllBare s'.gens)
    (hch : ∀ b∈ch,(b∈X.ex∨X.s_0.heap.objs.size≤b)∧b≠X.env.locals∧(∀ x c,X.env.cells.lookup x=some c→c≠b)∧∀ p∈X.pn++pins,p.1≠b):Inv X pins σ H' s':=by
  obtain ⟨h',g',d',t',o'⟩:=s'
  have e:o'=s.os:=ho
  subst e
  exact I.call (g':=g') (t':=t') (d':=d') u hok hg hch
end
noncomputable abbrev XK:=Value→Option Addr→Hp→Prop
noncomputable abbrev St:=List (Option V)
noncomputable abbrev VK:=V→Hp→Prop
noncomputable abbrev TE:=St→Hp→VK→Prop
noncomputable abbrev TT:=St→Hp→(Bool→Hp→Prop)→Prop
noncomputable abbrev TA:=St→Hp→(List V→Hp→Prop)→Prop
structure Ends where
  nx:St→Hp→Prop
  rt:VK
  bk:St→Hp→Prop:=fun _ _=>False
  ct:St→Hp→Prop:=fun _ _=>False
noncomputable abbrev TS:=Ends→St→Hp→Prop
noncomputable def EP (X:Cx) (pins:List (Addr×Obj)) (σ:St) (Q:VK) (u:Value) (s':Shared):Prop:=∃ v H',Inv X pins σ H' s'∧RelV v u∧Q v H'
noncomputable def TP (X:Cx) (pins:List (Addr×Obj)) (σ:St) (Q:Bool→Hp→Prop) (b:Bool) (s':Shared):Prop:=∃ H',Inv X pins σ H' s'∧Q b H'
noncomputable def AP (X:Cx) (pins:List (Addr×Obj)) (σ:St) (Q:List V→Hp→Prop) (us:List Value) (s':Shared):Prop:=∃ vs H',Inv X pins σ H' s'∧Vals vs us∧Q vs H'
noncomputable def SP (X:Cx) (pins:List (Addr×Obj)) (D:Ends) (f:Flow) (s':Shared):Prop :=
  match f with
  | .next=>∃ σ' H',Inv X pins σ' H' s'∧D.nx σ' H'
  | .brk=>∃ σ' H',Inv X pins σ' H' s'∧D.bk σ' H'
  | .cont=>∃ σ' H',Inv X pins σ' H' s'∧D.ct σ' H'
  | .ret u=>∃ v σ' H',Inv X pins σ' H' s'∧RelV v u∧D.rt v H'
noncomputable def PE (X:Cx) (e:Expr) (t:TE):Prop :=
  ∀ (pins:List (Addr×Obj)) (s:Shared) (σ:St) (H:Hp) (Q:VK),Inv X pins σ H s→t σ H Q→wpAny (model X.prog X.w) X.A (eval e X.env) (EP X pins σ Q) X.xe s
noncomputable def PT (X:Cx) (e:Expr) (t:TT):Prop :=
  ∀ (pins:List (Addr×Obj)) (s:Shared) (σ:St) (H:Hp) (Q:Bool→Hp→Prop),Inv X pins σ H s→t σ H Q→wpAny (model X.prog X.w) X.A (isTrue e X.env (eval e X.env)) (TP X pins σ Q) X.xe s
noncomputable def PW (X:Cx) (e:Expr) (t:TT):Prop :=
  ∀ (whole:Sem Value) (pins:List (Addr×Obj)) (s:Shared) (σ:St) (H:Hp) (Q:Bool→Hp→Prop),Inv X pins σ H s→t σ H Q→wpAny (model X.prog X.w) X.A (isTrue e X.env whole) (TP X pins σ Q) X.xe s
theorem PW.pt {X:Cx}{e:Expr}{t:TT} (h:PW X e t):PT X e t:=h _
noncomputable def PA (X:Cx) (es:List Expr) (t:TA):Prop :=
  ∀ (pos:Pos) (pins:List (Addr×Obj)) (s:Shared) (σ:St) (H:Hp) (Q:List V→Hp→Prop),Inv X pins σ H s→t σ H Q→wpAny (model X.prog X.w) X.A (spliced (backTo pos (starEach es X.env))) (AP X pins σ Q) X.xe s
noncomputable def PS (X:Cx) (st:Stmt) (t:TS):Prop :=
  ∀ (pins:List (Addr×Obj)) (s:Shared) (σ:St) (H:Hp) (D:Ends),Inv X pins σ H s→t D σ H→wpAny (model X.prog X.w) X.A (exec st X.env) (SP X pins D) X.xe s
noncomputable def PSs (X:Cx) (st:List Stmt) (t:TS):Prop :=
  ∀ (pins:List (Addr×Obj)) (s:Shared) (σ:St) (H:Hp) (D:Ends),Inv X pins σ H s→t D σ H→wpAny (model X.prog X.w) X.A (execs st X.env) (SP X pins D) X.xe s
theorem thn {α:Type}{t:Sem α}{Q Q':α→Shared→Prop}{M:Model}{A:Around}{E:Value→Shared→Prop}{s:Shared} (h:wpAny M A t Q E s) (hQ : ∀ a s,Q a s→Q' a s):wpAny M A t Q' E s:=wpAny_mono h hQ fun _ _ x=>x
end L2
namespace L2
open PySem PySem.Spec PyProof.Rows
section
variable {X:Cx}
noncomputable def tVar (i:Nat):TE:=fun σ H Q=>∃ v,σ[i]? = some (some v)∧Q v H
noncomputable def tC (v:V):TE:=fun _ H Q=>Q v H
theorem zxq {i:Nat}{x:Str}{pos:Pos} (hN:X.N[i]? = some x) (hv:Vis X.env.scope x) (hd:(x == ("__debug__":Str))=false:=by decide) (hcd:(x == ("__classdict__":Str))=false:=by decide):PE X (.Name x pos) (tVar i):=by
  intro pins s σ H Q I h
  obtain ⟨v,e,h⟩:=h
  obtain ⟨m,hn,hl⟩:=I.loc
  obtain ⟨u,r,l⟩:=hl i x v hN e hv
  have fin:EP X pins σ Q u s:=⟨v,H,I,r,h⟩
  rcases l with ⟨hk,hm⟩ | ⟨hk,c,hc,hcell⟩
  · exact wpAny_Name (wpAny_loadName_local I.ok.kind hk hn hm fin) hd
  · rcases hk with hk | hk
    · exact wpAny_Name (wpAny_loadName_cell I.ok.kind hk hc hcell fin) hd
    · exact wpAny_Name (wpAny_loadName_free I.ok.kind hk hc hcell fin hcd) hd
theorem zai {i j pos}:PE X (.Constant (.int i) j pos) (tC (.int i)):=fun _ _ _ H _ I h=>wpAny_Constant_int ⟨.int i,H,I.tok _,⟨_,rfl⟩,h⟩
theorem zop {b j pos}:PE X (.Constant (.bool b) j pos) (tC (.bl b)):=fun _ _ _ H _ I h=>Constant_bool ⟨.bl b,H,I,rfl,h⟩
theorem zqy {j pos}:PE X (.Constant .none j pos) (tC .non):=fun _ _ _ H _ I h=>Constant_none ⟨.non,H,I,rfl,h⟩
theorem zax {x j pos}:PE X (.Constant (.str x) j pos) (tC (.str x)):=fun _ _ _ H _ I h=>Calls.Constant_str ⟨.str x,H,I.tok _,⟨_,rfl⟩,h⟩
noncomputable def Gl (X:Cx) (x:Str):Prop:=X.env.kindOf x=some .globalImplicit
theorem zfu {E:Value→Shared→Prop}{pins:List (Addr×Obj)}{s:Shared}{σ:St}{H:Hp}{x:Str}{u:Value}{pos:Pos}{Q:Value→Shared→Prop} (I:Inv X pins σ H s) (hg:Gl X x) (hm:X.mg x=some u) (h:Q u s)
    (hd:(x == ("__debug__":Str))=false:=by decide):wpAny (model X.prog X.w) X.A (eval (.Name x pos) X.env) Q E s :=
  Calls.Name_function_global I.ok.kind hg (Calls.loadGlobal_global (by rw [I.ok.glob];exact I.mod.glob.keeps I.bk) hm h) hd
theorem ziq {E:Value→Shared→Prop}{pins:List (Addr×Obj)}{s:Shared}{σ:St}{H:Hp}{x:Str}{u:Value}{pos:Pos}{Q:Value→Shared→Prop} (I:Inv X pins σ H s) (hg:Gl X x) (hm:X.mg x=none) (hv:bootBuiltins x=some u) (h:Q u s)
    (hn:x≠"__name__":=by decide) (hd:(x == ("__debug__":Str))=false:=by decide):wpAny (model X.prog X.w) X.A (eval (.Name x pos) X.env) Q E s:=by
  obtain ⟨mb,h1,h2⟩:=I.mod.blt
  exact Calls.Name_function_global I.ok.kind hg (Calls.loadGlobal_builtin (by rw [I.ok.glob];exact I.mod.glob.keeps I.bk) hm (by rw [I.ok.blt];exact h1.keeps I.bk) ((h2 x hn).trans hv) h) hd
theorem zq0 {x:Str}{v:V}{u:Value}{pos:Pos} (hg:Gl X x) (hm:X.mg x=some u) (r:RelV v u) (hd:(x == ("__debug__":Str))=false:=by decide):PE X (.Name x pos) (tC v) :=
  fun _ _ _ H _ I h=>zfu I hg hm ⟨v,H,I,r,h⟩ hd
variable {a b:Expr}{ta tb:TE}{pos:Pos}
noncomputable def PC (X:Cx) (op:CmpOp) (a b:Expr) (t:TE):Prop :=
  ∀ (pins:List (Addr×Obj)) (s:Shared) (σ:St) (H:Hp) (Q:VK),Inv X pins σ H s→t σ H Q →
    wpAny (model X.prog X.w) X.A (eval a X.env) (fun v s₁=>wpAny (model X.prog X.w) X.A (eval b X.env) (fun u s₂=>wpAny (model X.prog X.w) X.A (compareOp op v u) (EP X pins σ Q) X.xe s₂) X.xe s₁) X.xe s
theorem ztm (b:Expr) {op:CmpOp} (h:op ≠ .In) (h2:op ≠ .NotIn):behindInMarks op b=false:=by
  have e1:(op == CmpOp.In)=false:=by cases op <;> first | rfl | exact absurd rfl h
  have e2:(op == CmpOp.NotIn)=false:=by cases op <;> first | rfl | exact absurd rfl h2
  cases b <;> simp [behindInMarks,e1,e2]
noncomputable def tIsN (ta:TE):TE:=fun σ H Q=>ta σ H fun x H1=>Q (.bl (decide (x = .non))) H1
noncomputable def zsw (ta:TE):TE:=fun σ H Q=>ta σ H fun x H1=>Q (.bl (!decide (x = .non))) H1
theorem RelV.none_iff {x:V}{v:Value} (r:RelV x v):(v == Value.none)=decide (x = .non):=by
  cases x with
  | non=>cases r;rfl
  | bl _=>cases r;rfl
  | int _=>obtain ⟨t,rfl⟩:=r;rfl
  | str _=>obtain ⟨t,rfl⟩:=r;rfl
  | byt _=>obtain ⟨t,rfl⟩:=r;rfl
  | flt _=>obtain ⟨t,rfl⟩:=r;rfl
  | ref _=>cases r;rfl
  | ty _=>cases r;rfl
theorem zxu {j pos'} (ha:PE X a ta):PC X .Is a (.Constant .none j pos') (tIsN ta):=by
  intro pins s σ H Q I h
  refine thn (ha pins s σ H _ I h) fun v s1 ⟨x,H1,I1,r1,q1⟩=>?_
  exact Constant_none (is_none_gen ⟨.bl _,H1,I1,by rw [r1.none_iff];rfl,q1⟩)
noncomputable def tB (t:TE):TT:=fun σ H Q=>t σ H fun x H1=>∃ c,x = .bl c∧Q c H1
theorem zus {op:CmpOp}{t:TE} (h:PC X op a b t) (h1:behindInMarks op b=false:=by first | exact ztm _ (by decide) (by decide) | rfl):PT X (.Compare a [op] [b] pos) (tB t):=by
  intro pins s σ H Q I hw
  refine wpAny_isTrue_Compare1 (thn (h pins s σ H _ I hw) fun v s1 h1=>thn h1 fun u s2 h2=>thn h2 fun c s3 ⟨x,H1,I1,r1,q1⟩=>?_) h1
  obtain ⟨d,rfl,q⟩:=q1
  cases r1
  exact wpAny_truthy_bool ⟨H1,I1,q⟩
theorem ze0 {e:Expr}{t:TE} (h:PE X e t) (he : ∀ whole,isTrue e X.env whole=(do let v ← whole;standAt e.pos;holding [v] (truthy v)):=by intro _;rfl):PT X e (tB t):=by
  intro pins s σ H Q I hw
  refine isTrue_plain (thn (h pins s σ H _ I hw) fun v s1 ⟨x,H1,I1,r1,q1⟩=>?_) (he _)
  obtain ⟨d,rfl,q⟩:=q1
  cases r1
  exact wpAny_truthy_bool ⟨H1,I1,q⟩
variable {tA tB':TT}{rest:List Expr}
noncomputable def tAnd (t u:TT):TT:=fun σ H Q=>t σ H fun c H1=>if c=true then u σ H1 Q else Q false H1
noncomputable def tOr (t u:TT):TT:=fun σ H Q=>t σ H fun c H1=>if c=true then Q true H1 else u σ H1 Q
noncomputable def tNot (t:TT):TT:=fun σ H Q=>t σ H fun c H1=>Q (!c) H1
theorem pw_and1 (ha:PT X a tA):PW X (.BoolOp .And [a] pos) tA:=by
  intro wh pins s σ H Q I h
  refine isTrue_and (thn (ha pins s σ H Q I h) fun c s1 e=>?_)
  cases c with
  | true=>exact isTrue_and_nil e
  | false=>exact e
theorem pw_or1 (ha:PT X a tA):PW X (.BoolOp .Or [a] pos) tA:=by
  intro wh pins s σ H Q I h
  refine isTrue_or (thn (ha pins s σ H Q I h) fun c s1 e=>?_)
  cases c with
  | false=>exact isTrue_or_nil e
  | true=>exact e
theorem pw_and (ha:PT X a tA) (hb:PW X (.BoolOp .And (b::rest) pos) tB'):PW X (.BoolOp .And (a::b::rest) pos) (tAnd tA tB'):=by
  intro wh pins s σ H Q I h
  refine isTrue_and (thn (ha pins s σ H _ I h) fun c s1 ⟨H1,I1,q1⟩=>?_)
  cases c with
  | true=>exact hb wh pins s1 σ H1 Q I1 q1
  | false=>exact ⟨H1,I1,q1⟩
theorem pw_or (ha:PT X a tA) (hb:PW X (.BoolOp .Or (b::rest) pos) tB'):PW X (.BoolOp .Or (a::b::rest) pos) (tOr tA tB'):=by
  intro wh pins s σ H Q I h
  refine isTrue_or (thn (ha pins s σ H _ I h) fun c s1 ⟨H1,I1,q1⟩=>?_)
  cases c with
  | true=>exact ⟨H1,I1,q1⟩
  | false=>exact hb wh pins s1 σ H1 Q I1 q1
theorem zur (ha:PT X a tA):PT X (.UnaryOp .Not a pos) (tNot tA):=by
  intro pins s σ H Q I h
  exact isTrue_not (ha pins s σ H (fun c H1=>Q (!c) H1) I h)
noncomputable def zp2 (ta tb:TE):TE:=fun σ H Q=>ta σ H fun x H1=>∃ c,x = .bl c∧if c=true then tb σ H1 Q else Q (.bl false) H1
noncomputable def tOrV (ta tb:TE):TE:=fun σ H Q=>ta σ H fun x H1=>∃ c,x = .bl c∧if c=true then Q (.bl true) H1 else tb σ H1 Q
noncomputable def zsv (ta:TE):TE:=fun σ H Q=>ta σ H fun x H1=>∃ c,x = .bl c∧Q (.bl (!c)) H1
theorem zuv {op}{t:TE} (h:PE X a t):PE X (.BoolOp op [a] pos) t:=fun pins s σ H Q I hw=>BoolOp_one (h pins s σ H Q I hw)
theorem zxt (ha:PE X a ta) (hb:PE X (.BoolOp .And (b::rest) pos) tb):PE X (.BoolOp .And (a::b::rest) pos) (zp2 ta tb):=by
  intro pins s σ H Q I h
  refine BoolOp_and (thn (ha pins s σ H _ I h) fun v s1 ⟨x,H1,I1,r1,q1⟩=>?_)
  obtain ⟨c,rfl,q1⟩:=q1
  cases r1
  refine wpAny_truthy_bool ?_
  cases c with
  | true=>exact hb pins s1 σ H1 Q I1 q1
  | false=>exact ⟨.bl false,H1,I1,rfl,q1⟩
theorem zxr (ha:PE X a ta) (hb:PE X (.BoolOp .Or (b::rest) pos) tb):PE X (.BoolOp .Or (a::b::rest) pos) (tOrV ta tb):=by
  intro pins s σ H Q I h
  refine BoolOp_or (thn (ha pins s σ H _ I h) fun v s1 ⟨x,H1,I1,r1,q1⟩=>?_)
  obtain ⟨c,rfl,q1⟩:=q1
  cases r1
  refine wpAny_truthy_bool ?_
  cases c with
  | false=>exact hb pins s1 σ H1 Q I1 q1
  | true=>exact ⟨.bl true,H1,I1,rfl,q1⟩
noncomputable def tIf (t:TT) (ta tb:TE):TE:=fun σ H Q=>t σ H fun c H1=>if c=true then ta σ H1 Q else tb σ H1 Q
theorem ze2 {c:Expr} (hc:PT X c tA) (ha:PE X a ta) (hb:PE X b tb):PE X (.IfExp c a b pos) (tIf tA ta tb):=by
  intro pins s σ H Q I h
  refine wpAny_IfExp (thn (hc pins s σ H _ I h) fun d s1 ⟨H1,I1,q1⟩=>?_)
  cases d with
  | true=>exact ha pins s1 σ H1 Q I1 q1
  | false=>exact hb pins s1 σ H1 Q I1 q1
end
end L2
namespace L2
open PySem PySem.Spec PyProof.Rows
noncomputable def SqL (K:PySem.W.Frag) (H:Hp) (a:Addr) (xs:List V):Prop :=
  Rd H a (.lst xs) ∨
    ∃ (o:Obj) (its:Array Value) (n:Nat),K.lookup a=some o∧o.cls = .type "list"∧o.dict=none∧o.data = .seq its n∧its.size≤sizeLine∧Vals xs its.toList
noncomputable def SqT (K:PySem.W.Frag) (H:Hp) (a:Addr) (xs:List V):Prop :=
  Rd H a (.tup xs) ∨
    ∃ (o:Obj) (its:Array Value) (n:Nat),K.lookup a=some o∧o.cls = .type "tuple"∧o.data = .seq its n∧its.size≤sizeLine∧Vals xs its.toList
noncomputable def absV:Value→Option V
  | .none=>some .non
  | .bool b=>some (.bl b)
  | .int i _=>some (.int i)
  | .str x _=>some (.str x)
  | .bytes b _=>some (.byt b)
  | .float b _=>some (.flt b)
  | .ref a=>some (.ref a)
  | .type n=>some (.ty n)
  | _=>none
theorem RelV.abs {x:V}{u:Value} (r:RelV x u):absV u=some x:=by
  cases x with
  | non=>cases r;rfl
  | bl _=>cases r;rfl
  | int _=>obtain ⟨t,rfl⟩:=r;rfl
  | str _=>obtain ⟨t,rfl⟩:=r;rfl
  | byt _=>obtain ⟨t,rfl⟩:=r;rfl
  | flt _=>obtain ⟨t,rfl⟩:=r;rfl
  | ref _=>cases r;rfl
  | ty _=>cases r;rfl
theorem RelV.inj {x y:V}{u:Value} (r:RelV x u) (q:RelV y u):x=y:=Option.some.inj (r.abs.symm.trans q.abs)
theorem Vals.inj : ∀ {xs ys:List V}{us:List Value},Vals xs us→Vals ys us→xs=ys
  | _,_,_,.nil,.nil=>rfl
  | _,_,_,.cons r t,.cons r' t'=>by rw [r.inj r',Vals.inj t t']
section
variable {X:Cx}{pins:List (Addr×Obj)}{σ:St}{H:Hp}{s:Shared}{a:Addr}{xs ys:List V}
theorem SqL.of {K:PySem.W.Frag} (h:H a=some (.lst xs)):SqL K H a xs := .inl (.inl h)
theorem SqT.of {K:PySem.W.Frag} (h:H a=some (.tup xs)):SqT K H a xs := .inl (.inl h)
theorem Inv.list (I:Inv X pins σ H s) (h:SqL X.K H a xs) : ∃ its:List Value,Vals xs its∧PlainL s.heap a its.toArray∧xs.length≤sizeLine:=by
  rcases h with h | ⟨o,its,n,hk,hc,hd,hs,hz,r⟩
  · obtain ⟨z,its,n,r,e⟩:=h.ok I.hok
    exact ⟨its,r,⟨_,n,e,rfl,rfl,rfl⟩,z⟩
  · refine ⟨its.toList,r,⟨o,n,I.kIn a o hk,hc,hd,by simpa using hs⟩,?_⟩
    have e:=r.length
    simp only [Array.length_toList] at e
    omega
theorem Inv.tuple (I:Inv X pins σ H s) (h:SqT X.K H a xs) : ∃ its:List Value,Vals xs its∧IsTup s.heap a its.toArray∧xs.length≤sizeLine:=by
  rcases h with h | ⟨o,its,n,hk,hc,hs,hz,r⟩
  · obtain ⟨z,its,r,p⟩:=h.ok I.hok
    exact ⟨its,r,p,z⟩
  · refine ⟨its.toList,r,⟨o,I.kIn a o hk,hc,n,by simpa using hs⟩,?_⟩
    have e:=r.length
    simp only [Array.length_toList] at e
    omega
theorem Inv.list_inj (I:Inv X pins σ H s) (h:SqL X.K H a xs) (h':SqL X.K H a ys):xs=ys:=by
  obtain ⟨its,r,⟨o,n,e,_,_,d⟩,_⟩:=I.list h
  obtain ⟨its',r',⟨o',n',e',_,_,d'⟩,_⟩:=I.list h'
  rw [e] at e';cases e'
  rw [d] at d'
  injection d' with d1 _
  have:its=its':=by simpa using congrArg Array.toList d1
  subst this
  exact r.inj r'
theorem Inv.tuple_inj (I:Inv X pins σ H s) (h:SqT X.K H a xs) (h':SqT X.K H a ys):xs=ys:=by
  obtain ⟨its,r,⟨o,e,_,n,d⟩,_⟩:=I.tuple h
  obtain ⟨its',r',⟨o',e',_,n',d'⟩,_⟩:=I.tuple h'
  rw [e] at e';cases e'
  rw [d] at d'
  injection d' with d1 _
  have:its=its':=by simpa using congrArg Array.toList d1
  subst this
  exact r.inj r'
end
noncomputable abbrev Cx.wish (X:Cx) (E:Value→Shared→Prop):Cx:={ X with xe:=E }
noncomputable abbrev Cx.nox (X:Cx):Cx:=X.wish fun _ _=>False
theorem Cx.Ok.wish {X:Cx} (ok:X.Ok) (E:Value→Shared→Prop):(X.wish E).Ok :=
  ⟨ok.mod,ok.kind,ok.glob,ok.blt,ok.above,ok.inj,ok.has,ok.cab,ok.hd,ok.frames,ok.stk,ok.exf,ok.bs,ok.bsz,ok.noex,ok.exfs,ok.funs,ok.frf⟩
theorem Cx.Ok.unwish {X:Cx}{E:Value→Shared→Prop} (ok:(X.wish E).Ok):X.Ok :=
  ⟨ok.mod,ok.kind,ok.glob,ok.blt,ok.above,ok.inj,ok.has,ok.cab,ok.hd,ok.frames,ok.stk,ok.exf,ok.bs,ok.bsz,ok.noex,ok.exfs,ok.funs,ok.frf⟩
section
variable {X:Cx}{pins:List (Addr×Obj)}{σ:St}{H:Hp}{s:Shared}{E:Value→Shared→Prop}
theorem Inv.wish (I:Inv X pins σ H s) (E:Value→Shared→Prop):Inv (X.wish E) pins σ H s:=⟨I.ok.wish E,I.os,I.bare,I.base,I.loc,I.cell,I.free,I.freeC,I.pin,I.hok,I.len⟩
theorem Inv.unwish (I:Inv (X.wish E) pins σ H s):Inv X pins σ H s:=⟨I.ok.unwish,I.os,I.bare,I.base,I.loc,I.cell,I.free,I.freeC,I.pin,I.hok,I.len⟩
theorem SP.unwish {D:Ends}{f:Flow}{s':Shared} (h:SP (X.wish E) pins D f s'):SP X pins D f s':=by
  cases f with
  | next=>obtain ⟨σ',H',I,q⟩:=h;exact ⟨σ',H',I.unwish,q⟩
  | brk=>obtain ⟨σ',H',I,q⟩:=h;exact ⟨σ',H',I.unwish,q⟩
  | cont=>obtain ⟨σ',H',I,q⟩:=h;exact ⟨σ',H',I.unwish,q⟩
  | ret u=>obtain ⟨v,σ',H',I,r,q⟩:=h;exact ⟨v,σ',H',I.unwish,r,q⟩
theorem PSs.nox {st:List Stmt}{t:TS} (h:PSs X.nox st t):PSs X st t:=fun pins s σ H D I hw =>
  wpAny_mono (h pins s σ H D (I.wish _) hw) (fun _ _ q=>q.unwish) fun _ _ z=>False.elim z
end
section
variable {X:Cx}{st:Stmt}{rest:List Stmt}{t u:TS}{e:Expr}{te:TE}{pos:Pos}
noncomputable def zok:TS:=fun D σ H=>D.nx σ H
noncomputable def tSeq (t u:TS):TS:=fun D σ H=>t { D with nx:=u D } σ H
theorem zau:PSs X [] zok:=fun _ _ σ H _ I h=>wpAny_execs_nil ⟨σ,H,I,h⟩
theorem zab (h1:PS X st t) (h2:PSs X rest u):PSs X (st::rest) (tSeq t u):=by
  intro pins s σ H D I h
  refine wpAny_execs_cons (thn (h1 pins s σ H { D with nx:=u D } I h) fun f s1 q=>?_)
  cases f with
  | next =>
    obtain ⟨σ',H',I',q⟩:=q
    exact h2 pins s1 σ' H' D I' q
  | ret v=>exact q
  | brk=>exact q
  | cont=>exact q
theorem zae (h1:PS X st t):PSs X [st] t:=by
  intro pins s σ H D I h
  refine wpAny_execs_cons (thn (h1 pins s σ H D I h) fun f s1 q=>?_)
  cases f with
  | next=>exact wpAny_execs_nil q
  | ret v=>exact q
  | brk=>exact q
  | cont=>exact q
theorem Inv.quiet {pins:List (Addr×Obj)}{σ:St}{H:Hp}{s:Shared} (I:Inv X pins σ H s):interactive X.env=false:=by simp [interactive,I.ok.kind]
noncomputable def zpz (te:TE):TS:=fun D σ H=>te σ H fun _ H1=>D.nx σ H1
theorem zbq (he:PE X e te) (hs:swapsWith e none pos.line X.env=pure false:=by rfl):PS X (.Expr e pos) (zpz te):=by
  intro pins s σ H D I h
  exact wpAny_Expr_any (thn (he pins s σ H _ I h) fun v s1 ⟨x,H1,I1,r1,q1⟩=>⟨σ,H1,I1,q1⟩) I.quiet hs
noncomputable def tRet (te:TE):TS:=fun D σ H=>te σ H D.rt
theorem zap (he:PE X e te):PS X (.Return (some e) pos) (tRet te):=by
  intro pins s σ H D I h
  exact wpAny_Return_some (thn (he pins s σ H _ I h) fun v s1 ⟨x,H1,I1,r1,q1⟩=>⟨x,σ,H1,I1,r1,q1⟩)
noncomputable def zsu:TS:=fun D _ H=>D.rt .non H
noncomputable def tIfS (c:TT) (t u:TS):TS:=fun D σ H=>c σ H fun b H1=>if b=true then t D σ H1 else u D σ H1
theorem zbk {c:Expr}{a b:List Stmt}{tc:TT} (hc:PT X c tc) (ha:PSs X a t) (hb:PSs X b u):PS X (.If c a b pos) (tIfS tc t u):=by
  intro pins s σ H D I h
  refine wpAny_If (thn (hc pins s σ H _ I h) fun d s1 ⟨H1,I1,q1⟩=>?_)
  cases d with
  | true=>exact ha pins s1 σ H1 D I1 q1
  | false=>exact hb pins s1 σ H1 D I1 q1
end
noncomputable abbrev TG:=V→St→Hp→(St→Hp→Prop)→Prop
noncomputable abbrev TGs:=List V→St→Hp→(St→Hp→Prop)→Prop
noncomputable def PG (X:Cx) (target:Expr) (t:TG):Prop :=
  ∀ (pins:List (Addr×Obj)) (s:Shared) (σ:St) (H:Hp) (v:V) (u:Value) (Q:St→Hp→Prop),Inv X pins σ H s→RelV v u→t v σ H Q →
    wpAny (model X.prog X.w) X.A (assign target X.env u) (fun _ s'=>∃ σ' H',Inv X pins σ' H' s'∧Q σ' H') X.xe s
noncomputable def PGs (X:Cx) (ts:List Expr) (t:TGs):Prop :=
  ∀ (pins:List (Addr×Obj)) (s:Shared) (σ:St) (H:Hp) (vs:List V) (us:List Value) (Q:St→Hp→Prop),Inv X pins σ H s→Vals vs us→t vs σ H Q →
    wpAny (model X.prog X.w) X.A (assignInOrder ((assignEach ts X.env).map (·.2)) us) (fun _ s'=>∃ σ' H',Inv X pins σ' H' s'∧Q σ' H') X.xe s
noncomputable abbrev TIp:=V→V→Hp→VK→Prop
noncomputable def PIp (X:Cx) (op:Operator) (t:TIp):Prop :=
  ∀ (pins:List (Addr×Obj)) (s:Shared) (σ:St) (H:Hp) (x y:V) (v u:Value) (Q:VK),Inv X pins σ H s→RelV x v→RelV y u→t x y H Q →
    wpAny (model X.prog X.w) X.A (inplaceOp op v u) (EP X pins σ Q) X.xe s
section
variable {X:Cx}{pos:Pos}
noncomputable def zgd (i:Nat):TG:=fun v σ H Q=>Q (σ.set i (some v)) H
theorem zcg {i:Nat}{x:Str} (hN:X.N.Nodup) (hi:X.N[i]? = some x) (hx:Loc X.env.scope x) (hf:X.fn x=true∨X.env.scope.names.lookup x=some .local:=by first | exact .inl rfl | exact .inr rfl | assumption):PG X (.Name x pos) (zgd i):=by
  intro pins s σ H v u Q I r h
  exact wpAny_assign_Name (zgj I hN hi hx r (fun s' I'=>⟨_,H,I',h⟩) hf)
noncomputable def gNil:TGs:=fun vs σ H Q=>vs=[]∧Q σ H
noncomputable def zwr (t:TG) (u:TGs):TGs:=fun vs σ H Q=>∃ v r,vs=v::r∧t v σ H fun σ' H'=>u r σ' H' Q
theorem zv0:PGs X [] gNil:=by
  intro pins s σ H vs us Q I r h
  obtain ⟨e,h⟩:=h
  subst e
  cases r
  exact assignInOrder_nil ⟨σ,H,I,h⟩
theorem znr {e:Expr}{es:List Expr}{t:TG}{u:TGs} (h1:PG X e t) (h2:PGs X es u)
    (hs:(assignEach (e::es) X.env).map (·.2)=assign e X.env::(assignEach es X.env).map (·.2):=by rfl):PGs X (e::es) (zwr t u):=by
  intro pins s σ H vs us Q I r h
  obtain ⟨v,vr,e1,h⟩:=h
  subst e1
  cases r with
  | cons r rr =>
    rw [hs]
    refine assignInOrder_cons (thn (h1 pins s σ H _ _ _ I r h) fun _ s1 ⟨σ1,H1,I1,q1⟩=>?_)
    exact h2 pins s1 σ1 H1 _ _ Q I1 rr q1
noncomputable def gTup (K:PySem.W.Frag) (n:Nat) (t:TGs):TG:=fun v σ H Q=>∃ a xs,v = .ref a∧SqT K H a xs∧xs.length=n∧t xs σ H Q
theorem zxp {es:List Expr}{k:Nat}{t:TGs}{n:Nat} (hc:X.calm=true) (h:PGs X es t)
    (hn:(assignEach es X.env).length=n:=by rfl) (hst:(assignEach es X.env).findIdx? (·.1)=none:=by rfl):PG X (.Tuple es k pos) (gTup X.K n t):=by
  intro pins s σ H v u Q I r hw
  obtain ⟨a,xs,e1,hq,hl,hw⟩:=hw
  subst e1
  cases r
  obtain ⟨its,rv,ht,hz⟩:=I.tuple hq
  refine assign_Tuple_tuple (I.ok.hd hc) ht (by simp [hn,← hl,rv.length]) hst fun h' hx=>?_
  have I1:Inv X pins σ H { s with heap:=h' }:=I.kept (t':=s.toks) fun b o e=>hx b o (Nat.ne_of_lt (Heap.lt_size e)) e
  exact h pins _ σ H xs _ Q I1 (by simpa using rv) hw
noncomputable def tAsg (te:TE) (g:TG):TS:=fun D σ H=>te σ H fun x H1=>g x σ H1 D.nx
theorem zao {i:Nat}{x:Str}{e:Expr}{te:TE}{pos':Pos} (hN:X.N.Nodup) (hi:X.N[i]? = some x) (hx:Loc X.env.scope x) (he:PE X e te) (hs:swapsWith e (some (.Name x pos')) pos.line X.env=pure false:=by rfl) (hf:X.fn x=true∨X.env.scope.names.lookup x=some .local:=by first | exact .inl rfl | exact .inr rfl | assumption) :
    PS X (.Assign [.Name x pos'] e pos) (tAsg te (zgd i)):=by
  intro pins s σ H D I h
  refine wpAny_Assign_Name (thn (he pins s σ H _ I h) fun v s1 ⟨y,H1,I1,r1,q1⟩=>?_) hs
  exact zgj I1 hN hi hx r1 (fun s2 I2=>⟨_,H1,I2,q1⟩) hf
noncomputable def tAug (i:Nat) (te:TE) (ti:TIp):TS:=fun D σ H=>∃ x,σ[i]? = some (some x)∧te σ H fun y H1=>ti x y H1 fun z H2=>D.nx (σ.set i (some z)) H2
theorem zut {i:Nat}{x:Str}{e:Expr}{te:TE}{op:Operator}{ti:TIp}{pos':Pos} (hN:X.N.Nodup) (hi:X.N[i]? = some x) (hx:Loc X.env.scope x) (he:PE X e te) (ho:PIp X op ti) (hf:X.fn x=true∨X.env.scope.names.lookup x=some .local:=by first | exact .inl rfl | exact .inr rfl | assumption) :
    PS X (.AugAssign (.Name x pos') op e pos) (tAug i te ti):=by
  intro pins s σ H D I h
  obtain ⟨v,e1,h⟩:=h
  obtain ⟨m,hn,hl⟩:=I.loc
  have vis:Vis X.env.scope x:=by rcases hx with k | k;exact .inl k;exact .inr (.inl k)
  obtain ⟨u,r,l⟩:=hl i x v hi e1 vis
  refine wpAny_AugAssign_Name ?_
  have go:wpAny (model X.prog X.w) X.A (eval e X.env) (fun w s₂=>wpAny (model X.prog X.w) X.A (inplaceOp op u w) (fun r s₃=>wpAny (model X.prog X.w) X.A (storeName X.env x r) (fun _=>SP X pins D .next) X.xe s₃) X.xe s₂) X.xe s:=by
    refine thn (he pins s σ H _ I h) fun w s1 ⟨y,H1,I1,r1,q1⟩=>?_
    refine thn (ho pins s1 σ H1 v y u w _ I1 r r1 q1) fun z s2 ⟨zv,H2,I2,r2,q2⟩=>?_
    exact zgj I2 hN hi hx r2 (fun s3 I3=>⟨_,H2,I3,q2⟩) hf
  rcases l with ⟨hk,hm⟩ | ⟨hk,c,hc,hcell⟩
  · exact wpAny_loadName_local I.ok.kind hk hn hm go
  · rcases hk with hk | hk
    · exact wpAny_loadName_cell I.ok.kind hk hc hcell go
    · rcases hx with k | k
      · have:X.env.scope.names.lookup x=some .free:=hk
        rw [k] at this;cases this
      · have:X.env.scope.names.lookup x=some .free:=hk
        rw [k] at this;cases this
noncomputable def ipI (f:Int→Int→Int):TIp:=fun x y H Q=>∃ i j,x = .int i∧y = .int j∧Q (.int (f i j)) H
theorem zuz:PIp X .Add (ipI fun i j=>i+j):=by
  intro pins s σ H x y v u Q I r1 r2 h
  obtain ⟨i,j,e1,e2,q⟩:=h
  subst e1;subst e2
  obtain ⟨t,rfl⟩:=r1
  obtain ⟨t',rfl⟩:=r2
  exact iadd_int ⟨.int _,H,I.tok _,⟨_,rfl⟩,q⟩
end
section
variable {X:Cx}{pos:Pos}
noncomputable def zui (c:TT) (tb:TS):TS:=fun D σ H=>∃ W:Nat→St→Hp→Prop,(∃ m,W m σ H)∧∀ m σ H,W m σ H →
  c σ H fun b H1=>if b=true then ∃ N:St→Hp→Prop,(∀ σ' H',N σ' H'→∃ m',m'<m∧W m' σ' H')∧tb { D with nx:=N,ct:=N,bk:=D.nx } σ H1 else D.nx σ H1
theorem zd2 {c:Expr}{body:List Stmt}{tc:TT}{tb:TS} (hp:PassesOwn (model X.prog X.w) X.A X.env X.xe) (hc:PT X c tc) (hb:PSs X body tb):PS X (.While c body [] pos) (zui tc tb):=by
  intro pins s σ H D I h
  obtain ⟨W,⟨m0,w0⟩,turn⟩:=h
  refine wpAny_While (codeAny_whileLoop (fun n s'=>∃ σ' H',Inv X pins σ' H' s'∧W n σ' H') ?_ m0 ⟨σ,H,I,w0⟩)
  rintro n s1 ⟨σ1,H1,I1,w1⟩
  refine wpAny_passesOwn hp (thn (hc pins s1 σ1 H1 _ I1 (turn n σ1 H1 w1)) fun b s2 ⟨H2,I2,q2⟩=>?_)
  cases b with
  | true =>
    obtain ⟨N,hN,q2⟩:=q2
    rw [if_pos rfl]
    refine wpAny_passesOwn hp (thn (hb pins s2 σ1 H2 _ I2 q2) fun f s3 q3=>?_)
    cases f with
    | next =>
      obtain ⟨σ3,H3,I3,n3⟩:=q3
      obtain ⟨m',hm,w3⟩:=hN σ3 H3 n3
      exact ⟨m',hm,σ3,H3,I3,w3⟩
    | cont =>
      obtain ⟨σ3,H3,I3,n3⟩:=q3
      obtain ⟨m',hm,w3⟩:=hN σ3 H3 n3
      exact ⟨m',hm,σ3,H3,I3,w3⟩
    | brk=>exact q3
    | ret v=>exact q3
  | false =>
    rw [if_neg Bool.false_ne_true]
    exact wpAny_execs_nil ⟨σ1,H2,I2,q2⟩
end
structure It where
  go:Nat→Hp→Prop
  yld:Nat→Hp→V→Hp→Prop
  stop:Nat→Hp→Prop
noncomputable def FpOk (X:Cx) (pins:List (Addr×Obj)) (H:Hp) (b:Addr):Prop :=
  H b=none∧b≠X.env.locals∧b∉X.fs∧(b∈X.ex∨X.s_0.heap.objs.size≤b)∧(∀ x c,X.env.cells.lookup x=some c→c≠b)∧∀ p∈X.pn++pins,p.1≠b
theorem Inv.fpOk {X:Cx}{pins:List (Addr×Obj)}{σ:St}{H H':Hp}{s:Shared}{b:Addr} (I:Inv X pins σ H s) (hb:s.heap.objs.size≤b) (hn:H' b=none):FpOk X pins H' b:=by
  refine ⟨hn,Nat.ne_of_gt (Nat.lt_of_lt_of_le I.lt hb),I.nofs hb,.inr (Nat.le_trans I.sz hb),fun x c e z=>?_,fun p hp z=>?_⟩
  · obtain ⟨v,q⟩:=I.cell x c e
    exact absurd (Nat.lt_of_lt_of_le q.lt (by rw [z];exact hb)) (Nat.lt_irrefl _)
  · exact absurd (Nat.lt_of_lt_of_le (Heap.lt_size (I.pin p hp).1) (by rw [z];exact hb)) (Nat.lt_irrefl _)
structure Turn (P:Program) (w:World) (K:PySem.W.Frag) (tg:Expr) (J:It) (fp:List Addr) (it:Addr) (tn:Nat→Heap→Prop):Prop where
  mem:it∈fp
  obj : ∀ i h,tn i h→∀ b∈fp,∃ o,h.get? b=some o∧∀ v,o.data ≠ .cell v
  keep : ∀ i h h',tn i h→(∀ b∈fp,∀ o,h.get? b=some o→h'.get? b=some o)→tn i h'
  item : ∀ (X:Cx),X.prog=P→X.w=w→X.K=K→X.calm=true→∀ (i:Nat) (pins:List (Addr×Obj)) (s:Shared) (σ:St) (H:Hp) (E:Value→Shared→Prop),Inv X pins σ H s→(∀ b∈fp,FpOk X pins H b)→tn i s.heap→J.go i H →
    wpAny (model P w) X.A (pyNext (.ref it)) (fun r s1=>∃ u,r=some u ∧
      wpAny (model P w) X.A (letOwnedTupleGo tg (.ref it) u) (fun _ s2=>∃ x H',Inv X pins σ H' s2∧RelV x u∧J.yld i H x H'∧tn (i+1) s2.heap∧∀ b∈fp,H' b=none) E s1) E s
  done : ∀ (X:Cx),X.prog=P→X.w=w→X.K=K→X.calm=true→∀ (i:Nat) (pins:List (Addr×Obj)) (s:Shared) (σ:St) (H:Hp) (E:Value→Shared→Prop),Inv X pins σ H s→(∀ b∈fp,FpOk X pins H b)→tn i s.heap→J.stop i H →
    wpAny (model P w) X.A (pyNext (.ref it)) (fun r s1=>r=none∧Inv X pins σ H s1) E s
  self : ∀ (A:Around) (i:Nat) (s:Shared) (Q:Value→Shared→Prop) (E:Value→Shared→Prop),tn i s.heap→Q (.ref it) s→wpAny (model P w) A (pyIter (.ref it)) Q E s
noncomputable abbrev TI:=St→Hp→(It→Hp→Prop)→Prop
noncomputable def PIE (X:Cx) (pins:List (Addr×Obj)) (σ:St) (tg:Expr) (R:It→Hp→Prop) (itv:Value) (s2:Shared):Prop :=
  ∃ (it:Addr) (fp:List Addr) (tn:Nat→Heap→Prop) (J:It) (H':Hp),itv = .ref it∧Inv X pins σ H' s2∧Turn X.prog X.w X.K tg J fp it tn∧tn 0 s2.heap∧(∀ b∈fp,FpOk X pins H' b)∧R J H'
noncomputable def PI (X:Cx) (tg iter:Expr) (wi:TI):Prop :=
  ∀ (pins:List (Addr×Obj)) (s:Shared) (σ:St) (H:Hp) (R:It→Hp→Prop),Inv X pins σ H s→wi σ H R →
    wpAny (model X.prog X.w) X.A (eval iter X.env) (fun v s1=>wpAny (model X.prog X.w) X.A (pyIter v) (PIE X pins σ tg R) X.xe s1) X.xe s
theorem zrv {M:Model}{A:Around}{E:Value→Shared→Prop}{s:Shared}{tg:Expr}{it:Addr}{u:Value}{o:Obj}{n:String}{vs:Array Value}{Q:Unit→Shared→Prop} (ho:s.heap.get? it=some o) (hc:o.cls = .type n) (hd:o.data = .fields vs)
    (hn:["enumerate","zip","dict_itemiterator","dict_reverseitemiterator","odict_iterator","itertools.zip_longest","itertools.pairwise"].contains n=false) (hQ:Q () s):wpAny M A (letOwnedTupleGo tg (.ref it) u) Q E s:=by
  unfold letOwnedTupleGo
  cases tg <;> first
    | exact wpAny_pure hQ
    | (cases u <;> first
        | exact wpAny_pure hQ
        | (refine wpAny_bind (wpAny_load ho ?_)
           rw [hc,hd]
           show wpAny M A (if (["enumerate","zip","dict_itemiterator","dict_reverseitemiterator","odict_iterator","itertools.zip_longest","itertools.pairwise"].contains n && vs[0]? == some (rawInt _))=true then _ else _) Q E s
           rw [if_neg (by intro h;rw [hn,Bool.false_and] at h;cases h)]
           exact wpAny_pure hQ))
noncomputable def Itl (K:PySem.W.Frag) (a:Addr):It :=
  ⟨fun i H=>∃ xs x,SqL K H a xs∧xs[i]? = some x,fun i H x H'=>H'=H∧∀ xs,SqL K H a xs→xs[i]? = some x,fun i H=>∃ xs,SqL K H a xs∧xs.length≤i⟩
noncomputable def Itt (K:PySem.W.Frag) (a:Addr):It :=
  ⟨fun i H=>∃ xs x,SqT K H a xs∧xs[i]? = some x,fun i H x H'=>H'=H∧∀ xs,SqT K H a xs→xs[i]? = some x,fun i H=>∃ xs,SqT K H a xs∧xs.length≤i⟩
theorem zkc {P:Program}{w:World}{K:PySem.W.Frag}{tg:Expr} (a it:Addr):Turn P w K tg (Itl K a) [it] it (fun i h=>h.IsListIter it a i) where
  mem:=by simp
  obj:=fun i h st b hb=>by
    have e:b=it:=by simpa using hb
    subst e
    obtain ⟨o,e,c,d⟩:=st
    exact ⟨o,e,fun v z=>by rw [d] at z;cases z⟩
  keep:=fun i h h' st k=>st.at fun o e=>k it (by simp) o e
  item:=by
    intro X hP hw hK hc i pins s σ H E I hf st hg
    subst hP hw hK
    obtain ⟨xs,x,hq,hx⟩:=hg
    obtain ⟨its,rv,p,hz⟩:=I.list hq
    obtain ⟨u,hu,ru⟩:=rv.get hx
    obtain ⟨f0,f1,f2,f3,f4,f5⟩:=hf it (by simp)
    refine wpAny_pyNext_list_item st p.isList (x:=u) (by simpa using hu) fun h' st' sb=>?_
    have I1:Inv X pins σ H { s with heap:=h' }:=I.turned (t':=s.toks) (fun b o hb e=>(sb.2 b hb).trans e) f0 f1 f3 f4 f5
    obtain ⟨o,e,c,d⟩:=id st'
    exact ⟨u,rfl,zrv (s:={ s with heap:=h' }) e c d (by decide) ⟨x,H,I1,ru,⟨rfl,fun ys hy=>by rw [I.list_inj hy hq];exact hx⟩,st',fun b hb=>(hf b hb).1⟩⟩
  done:=by
    intro X hP hw hK hc i pins s σ H E I hf st hg
    subst hP hw hK
    obtain ⟨xs,hq,hx⟩:=hg
    obtain ⟨its,rv,p,hz⟩:=I.list hq
    obtain ⟨f0,f1,f2,f3,f4,f5⟩:=hf it (by simp)
    have hl:=rv.length
    exact wpAny_pyNext_list_end (I.ok.hd hc) st p.isList (by simp;omega) fun h' eb=>⟨rfl,I.turned (t':=s.toks) (fun b o hb e=>eb b o hb e) f0 f1 f3 f4 f5⟩
  self:=fun _ _ _ _ _ st h=>wpAny_pyIter_listiter st h
theorem zoi {P:Program}{w:World}{K:PySem.W.Frag}{tg:Expr} (a it:Addr):Turn P w K tg (Itt K a) [it] it (fun i h=>h.IsTupleIter it a i) where
  mem:=by simp
  obj:=fun i h st b hb=>by
    have e:b=it:=by simpa using hb
    subst e
    obtain ⟨o,e,c,d⟩:=st
    exact ⟨o,e,fun v z=>by rw [d] at z;cases z⟩
  keep:=fun i h h' st k=>st.at fun o e=>k it (by simp) o e
  item:=by
    intro X hP hw hK hc i pins s σ H E I hf st hg
    subst hP hw hK
    obtain ⟨xs,x,hq,hx⟩:=hg
    obtain ⟨its,rv,p,hz⟩:=I.tuple hq
    obtain ⟨u,hu,ru⟩:=rv.get hx
    obtain ⟨f0,f1,f2,f3,f4,f5⟩:=hf it (by simp)
    refine wpAny_pyNext_tuple_item st (show s.heap.IsTuple a its.toArray from p) (x:=u) (by simpa using hu) fun h' st' sb=>?_
    have I1:Inv X pins σ H { s with heap:=h' }:=I.turned (t':=s.toks) (fun b o hb e=>(sb.2 b hb).trans e) f0 f1 f3 f4 f5
    obtain ⟨o,e,c,d⟩:=id st'
    exact ⟨u,rfl,zrv (s:={ s with heap:=h' }) e c d (by decide) ⟨x,H,I1,ru,⟨rfl,fun ys hy=>by rw [I.tuple_inj hy hq];exact hx⟩,st',fun b hb=>(hf b hb).1⟩⟩
  done:=by
    intro X hP hw hK hc i pins s σ H E I hf st hg
    subst hP hw hK
    obtain ⟨xs,hq,hx⟩:=hg
    obtain ⟨its,rv,p,hz⟩:=I.tuple hq
    obtain ⟨f0,f1,f2,f3,f4,f5⟩:=hf it (by simp)
    have hl:=rv.length
    exact wpAny_pyNext_tuple_end (I.ok.hd hc) st (show s.heap.IsTuple a its.toArray from p) (by simp;omega) fun h' eb=>⟨rfl,I.turned (t':=s.toks) (fun b o hb e=>eb b o hb e) f0 f1 f3 f4 f5⟩
  self:=fun _ _ _ _ _ st h=>wpAny_pyIter_tupleiter st h
end L2
namespace L2
open PySem PySem.Spec PyProof.Rows
section
variable {X:Cx}{tg:Expr}
noncomputable def zmq (K:PySem.W.Frag) (tl:TE):TI:=fun σ H R=>tl σ H fun x H1=>∃ a,x = .ref a∧(∃ xs,SqL K H1 a xs)∧R (Itl K a) H1
noncomputable def iTup (K:PySem.W.Frag) (tl:TE):TI:=fun σ H R=>tl σ H fun x H1=>∃ a,x = .ref a∧(∃ xs,SqT K H1 a xs)∧R (Itt K a) H1
theorem zmd {l:Expr}{tl:TE} (hl:PE X l tl):PI X tg l (zmq X.K tl):=by
  intro pins s σ H R I h
  refine thn (hl pins s σ H _ I h) fun v s1 ⟨x,H1,I1,r1,q1⟩=>?_
  obtain ⟨a,e,⟨xs,hq⟩,q⟩:=q1
  subst e
  cases r1
  obtain ⟨its,rv,p,hz⟩:=I1.list hq
  refine wpAny_pyIter_list p.isList ?_
  refine ⟨s1.heap.objs.size,[s1.heap.objs.size],_,_,H1,rfl,I1.kept (t':=s1.toks) fun b o e=>Heap.get?_push_of_some _ e,zkc a _,⟨_,Heap.get?_push_size _ rfl,rfl,rfl⟩,fun b hb=>?_,q⟩
  have e:b=s1.heap.objs.size:=by simpa using hb
  subst e
  exact I1.fpOk (Nat.le_refl _) (I1.hok.fresh (Nat.le_refl _))
theorem zxo {l:Expr}{tl:TE} (hl:PE X l tl):PI X tg l (iTup X.K tl):=by
  intro pins s σ H R I h
  refine thn (hl pins s σ H _ I h) fun v s1 ⟨x,H1,I1,r1,q1⟩=>?_
  obtain ⟨a,e,⟨xs,hq⟩,q⟩:=q1
  subst e
  cases r1
  obtain ⟨its,rv,p,hz⟩:=I1.tuple hq
  refine wpAny_pyIter_tuple (show s1.heap.IsTuple a its.toArray from p) ?_
  refine ⟨s1.heap.objs.size,[s1.heap.objs.size],_,_,H1,rfl,I1.kept (t':=s1.toks) fun b o e=>Heap.get?_push_of_some _ e,zoi a _,⟨_,Heap.get?_push_size _ rfl,rfl,rfl⟩,fun b hb=>?_,q⟩
  have e:b=s1.heap.objs.size:=by simpa using hb
  subst e
  exact I1.fpOk (Nat.le_refl _) (I1.hok.fresh (Nat.le_refl _))
noncomputable def tFor (wi:TI) (g:TG) (tb:TS):TS:=fun D σ H=>wi σ H fun J H1=>∃ W:Nat→Nat→St→Hp→Prop,(∃ m,W 0 m σ H1)∧∀ i m σ H,W i m σ H →
  (J.stop i H∧D.nx σ H)∨(J.go i H∧∃ N:St→Hp→Prop,(∀ σ' H',N σ' H'→∃ m',m'<m∧W (i+1) m' σ' H')∧∀ x H',J.yld i H x H'→g x σ H' fun σ2 H2=>tb { D with nx:=N,ct:=N,bk:=D.nx } σ2 H2)
noncomputable def zim (fp:List Addr) (h:Heap):List (Addr×Obj):=fp.filterMap fun b=>(h.get? b).map fun o=>(b,o)
theorem zcw {fp:List Addr}{h:Heap}{b:Addr}{o:Obj} (hb:b∈fp) (e:h.get? b=some o):(b,o)∈zim fp h:=List.mem_filterMap.mpr ⟨b,hb,by rw [e];rfl⟩
theorem zq8 {fp:List Addr}{h:Heap}{p:Addr×Obj} (hp:p∈zim fp h):p.1∈fp∧h.get? p.1=some p.2:=by
  obtain ⟨b,hb,e⟩:=List.mem_filterMap.mp hp
  cases q:h.get? b with
  | none=>rw [q] at e;cases e
  | some o =>
    rw [q] at e
    have e':(b,o)=p:=Option.some.inj e
    subst e'
    exact ⟨hb,q⟩
theorem Inv.pinned {pins:List (Addr×Obj)}{σ:St}{H:Hp}{s:Shared}{fp:List Addr} (I:Inv X pins σ H s) (hf : ∀ b∈fp,FpOk X pins H b) (ho : ∀ b∈fp,∃ o,s.heap.get? b=some o∧∀ v,o.data ≠ .cell v):Inv X (pins++zim fp s.heap) σ H s :=
  I.pins_of fun p hp=>(List.mem_append.mp hp).elim (fun z=>I.pin p (List.mem_append_right _ z)) fun z=>by
    obtain ⟨hb,e⟩:=zq8 z
    obtain ⟨f0,f1,f2,_⟩:=hf p.1 hb
    obtain ⟨o,e',d⟩:=ho p.1 hb
    rw [e] at e';cases e'
    exact ⟨e,f0,f1,f2,d⟩
theorem Inv.unpinned {pins pl:List (Addr×Obj)}{σ:St}{H:Hp}{s:Shared} (I:Inv X (pins++pl) σ H s):Inv X pins σ H s:=I.pins_of fun p hp=>I.pin p (List.mem_append_right _ (List.mem_append_left _ hp))
theorem zik {iter:Expr}{body:List Stmt}{wi:TI}{g:TG}{tb:TS}{pos:Pos} (hp:PassesOwn (model X.prog X.w) X.A X.env X.xe) (hc:X.calm=true) (hi:PI X tg iter wi) (hg:PG X tg g) (hb:PSs X body tb)
    (hs : ∀ x,foldedSetIterable iter X.env x=pure x:=by intro _;rfl):PS X (.For tg iter body [] pos) (tFor wi g tb):=by
  intro pins s σ H D I h
  refine wpAny_For (thn (hi pins s σ H _ I h) fun v s1 h1=>thn h1 fun itv s2 h2=>?_) hs
  obtain ⟨it,fp,tn,J,H2,e,I2,T,st2,f2,W,⟨m0,w0⟩,turn⟩:=h2
  subst e
  have stat : ∀ {H':Hp},(∀ b∈fp,H' b=none)→∀ b∈fp,FpOk X pins H' b:=fun hn b hb=>⟨hn b hb,(f2 b hb).2⟩
  refine codeAny_forLoop_any (fun n s'=>∃ i σ' H',Inv X pins σ' H' s'∧tn i s'.heap∧(∀ b∈fp,H' b=none)∧W i n σ' H') ?_ m0 ⟨0,σ,H2,I2,st2,fun b hb=>(f2 b hb).1,w0⟩
  rintro n s3 ⟨i,σ3,H3,I3,st3,fr3,w3⟩
  rcases turn i n σ3 H3 w3 with ⟨stop,qn⟩ | ⟨go,N,hN,step⟩
  · refine wpAny_passesOwn hp (thn (T.done X rfl rfl rfl hc i pins s3 σ3 H3 X.xe I3 (stat fr3) st3 stop) fun r s4 ⟨hr,I4⟩=>?_)
    subst hr
    exact wpAny_execs_nil ⟨σ3,H3,I4,qn⟩
  · refine wpAny_passesOwn hp (thn (T.item X rfl rfl rfl hc i pins s3 σ3 H3 X.xe I3 (stat fr3) st3 go) fun r s4 ⟨u,hr,h4⟩=>?_)
    subst hr
    refine wpAny_passesOwn hp (thn h4 fun _ s5 ⟨x,H5,I5,r5,y5,st5,fr5⟩=>?_)
    have I5':=I5.pinned (stat fr5) (T.obj _ _ st5)
    refine wpAny_passesOwn hp (thn (hg _ s5 σ3 H5 x u _ I5' r5 (step x H5 y5)) fun _ s6 ⟨σ6,H6,I6,q6⟩=>?_)
    refine wpAny_passesOwn hp (thn (hb _ s6 σ6 H6 _ I6 q6) fun f s7 q7=>?_)
    have again : ∀ {σ7:St}{H7:Hp},Inv X (pins++zim fp s5.heap) σ7 H7 s7→N σ7 H7→∃ m,m<n∧∃ i σ' H',Inv X pins σ' H' s7∧tn i s7.heap∧(∀ b∈fp,H' b=none)∧W i m σ' H':=fun {σ7 H7} I7 n7=>by
      obtain ⟨m',hm,w7⟩:=hN σ7 H7 n7
      refine ⟨m',hm,i+1,σ7,H7,I7.unpinned,T.keep _ _ _ st5 fun b hb o e=>(I7.pin (b,o) (List.mem_append_right _ (List.mem_append_right _ (zcw hb e)))).1,fun b hb=>?_,w7⟩
      obtain ⟨o,e,d⟩:=T.obj _ _ st5 b hb
      exact (I7.pin (b,o) (List.mem_append_right _ (List.mem_append_right _ (zcw hb e)))).2.1
    cases f with
    | next=>obtain ⟨σ7,H7,I7,n7⟩:=q7;exact again I7 n7
    | cont=>obtain ⟨σ7,H7,I7,n7⟩:=q7;exact again I7 n7
    | brk=>obtain ⟨σ7,H7,I7,q7⟩:=q7;exact ⟨σ7,H7,I7.unpinned,q7⟩
    | ret v=>obtain ⟨x7,σ7,H7,I7,r7,q7⟩:=q7;exact ⟨x7,σ7,H7,I7.unpinned,r7,q7⟩
end
theorem zt2 {K:PySem.W.Frag}{a:Addr}{xs:List V}{g:TG}{tb:TS}{D:Ends}{σ:St}{H:Hp} (Pv:Nat→St→Hp→Prop) (h0:Pv 0 σ H) (hl : ∀ i σ H,i≤xs.length→Pv i σ H→SqL K H a xs)
    (hs : ∀ i x σ H,xs[i]? = some x→Pv i σ H→g x σ H fun σ2 H2=>tb { D with nx:=Pv (i+1),ct:=Pv (i+1),bk:=D.nx } σ2 H2) (hd : ∀ σ H,Pv xs.length σ H→D.nx σ H) :
    ∃ W:Nat→Nat→St→Hp→Prop,(∃ m,W 0 m σ H)∧∀ i m σ H,W i m σ H →
      ((Itl K a).stop i H∧D.nx σ H)∨((Itl K a).go i H∧∃ N:St→Hp→Prop,(∀ σ' H',N σ' H'→∃ m',m'<m∧W (i+1) m' σ' H')∧∀ x H',(Itl K a).yld i H x H'→g x σ H' fun σ2 H2=>tb { D with nx:=N,ct:=N,bk:=D.nx } σ2 H2):=by
  refine ⟨fun i m σ H=>m=xs.length - i∧i≤xs.length∧Pv i σ H,⟨xs.length,by simp,Nat.zero_le _,h0⟩,?_⟩
  rintro i m σ H ⟨rfl,hi,p⟩
  have q:=hl i σ H hi p
  by_cases hlt:i<xs.length
  · refine .inr ⟨⟨xs,xs[i],q,by simp [hlt]⟩,Pv (i+1),fun σ' H' p'=>⟨xs.length - (i+1),by omega,rfl,hlt,p'⟩,fun x H' y=>?_⟩
    obtain ⟨e,y⟩:=y
    subst e
    exact hs i x σ _ (y xs q) p
  · have e:i=xs.length:=by omega
    subst e
    exact .inl ⟨⟨xs,q,Nat.le_refl _⟩,hd σ H p⟩
theorem zws {K:PySem.W.Frag}{a:Addr}{xs:List V}{g:TG}{tb:TS}{D:Ends}{σ:St}{H:Hp} (Pv:Nat→St→Hp→Prop) (h0:Pv 0 σ H) (hl : ∀ i σ H,i≤xs.length→Pv i σ H→SqT K H a xs)
    (hs : ∀ i x σ H,xs[i]? = some x→Pv i σ H→g x σ H fun σ2 H2=>tb { D with nx:=Pv (i+1),ct:=Pv (i+1),bk:=D.nx } σ2 H2) (hd : ∀ σ H,Pv xs.length σ H→D.nx σ H) :
    ∃ W:Nat→Nat→St→Hp→Prop,(∃ m,W 0 m σ H)∧∀ i m σ H,W i m σ H →
      ((Itt K a).stop i H∧D.nx σ H)∨((Itt K a).go i H∧∃ N:St→Hp→Prop,(∀ σ' H',N σ' H'→∃ m',m'<m∧W (i+1) m' σ' H')∧∀ x H',(Itt K a).yld i H x H'→g x σ H' fun σ2 H2=>tb { D with nx:=N,ct:=N,bk:=D.nx } σ2 H2):=by
  refine ⟨fun i m σ H=>m=xs.length - i∧i≤xs.length∧Pv i σ H,⟨xs.length,by simp,Nat.zero_le _,h0⟩,?_⟩
  rintro i m σ H ⟨rfl,hi,p⟩
  have q:=hl i σ H hi p
  by_cases hlt:i<xs.length
  · refine .inr ⟨⟨xs,xs[i],q,by simp [hlt]⟩,Pv (i+1),fun σ' H' p'=>⟨xs.length - (i+1),by omega,rfl,hlt,p'⟩,fun x H' y=>?_⟩
    obtain ⟨e,y⟩:=y
    subst e
    exact hs i x σ _ (y xs q) p
  · have e:i=xs.length:=by omega
    subst e
    exact .inl ⟨⟨xs,q,Nat.le_refl _⟩,hd σ H p⟩
end L2
namespace L2
open PySem PySem.Spec PyProof.Rows
noncomputable abbrev R2:=V→V→Hp→VK→Prop
noncomputable def OpR (X:Cx) (f:Value→Value→Sem Value) (r:R2):Prop :=
  ∀ (pins:List (Addr×Obj)) (s:Shared) (σ:St) (H:Hp) (x y:V) (v u:Value) (Q:VK),Inv X pins σ H s→RelV x v→RelV y u→r x y H Q →
    wpAny (model X.prog X.w) X.A (f v u) (EP X pins σ Q) X.xe s
noncomputable def UnR (X:Cx) (f:Value→Sem Value) (r:V→Hp→VK→Prop):Prop :=
  ∀ (pins:List (Addr×Obj)) (s:Shared) (σ:St) (H:Hp) (x:V) (v:Value) (Q:VK),Inv X pins σ H s→RelV x v→r x H Q →
    wpAny (model X.prog X.w) X.A (f v) (EP X pins σ Q) X.xe s
noncomputable def zeu (X:Cx) (f:Value) (r:List V→Hp→VK→Prop):Prop :=
  ∀ (pins:List (Addr×Obj)) (s:Shared) (σ:St) (H:Hp) (xs:List V) (us:List Value) (Q:VK),Inv X pins σ H s→Vals xs us→r xs H Q →
    wpAny (model X.prog X.w) X.A (call f us) (EP X pins σ Q) X.xe s
noncomputable def TruR (X:Cx) (r:V→Hp→(Bool→Hp→Prop)→Prop):Prop :=
  ∀ (pins:List (Addr×Obj)) (s:Shared) (σ:St) (H:Hp) (x:V) (v:Value) (Q:Bool→Hp→Prop),Inv X pins σ H s→RelV x v→r x H Q →
    wpAny (model X.prog X.w) X.A (truthy v) (TP X pins σ Q) X.xe s
noncomputable def tOp (r:R2) (ta tb:TE):TE:=fun σ H Q=>ta σ H fun x H1=>tb σ H1 fun y H2=>r x y H2 Q
noncomputable def tUn (r:V→Hp→VK→Prop) (ta:TE):TE:=fun σ H Q=>ta σ H fun x H1=>r x H1 Q
noncomputable def rI (C:Int→Int→Prop) (g:Int→Int→V):R2:=fun x y H Q=>∃ i j,x = .int i∧y = .int j∧C i j∧Q (g i j) H
noncomputable def rI0 (g:Int→Int→V):R2:=fun x y H Q=>∃ i j,x = .int i∧y = .int j∧Q (g i j) H
noncomputable def rU (g:Int→V):V→Hp→VK→Prop:=fun x H Q=>∃ i,x = .int i∧Q (g i) H
section
variable {X:Cx}{a b c:Expr}{ta tb tc:TE}{pos:Pos}
theorem binT (ha:PE X a ta) (hb:PE X b tb) {pins:List (Addr×Obj)}{s:Shared}{σ:St}{H:Hp}{R:V→V→Hp→Prop} (I:Inv X pins σ H s)
    (h:ta σ H fun x H1=>tb σ H1 fun y H2=>R x y H2) {Q:Value→Shared→Prop}{f:Value→Value→Sem Value}
    (hf : ∀ v u s2 x y H2,Inv X pins σ H2 s2→RelV x v→RelV y u→R x y H2→wpAny (model X.prog X.w) X.A (f v u) Q X.xe s2) :
    wpAny (model X.prog X.w) X.A (eval a X.env) (fun v s₁=>wpAny (model X.prog X.w) X.A (eval b X.env) (fun u s₂=>wpAny (model X.prog X.w) X.A (f v u) Q X.xe s₂) X.xe s₁) X.xe s:=by
  refine thn (ha pins s σ H _ I h) fun v s1 ⟨x,H1,I1,r1,q1⟩=>?_
  refine thn (hb pins s1 σ H1 _ I1 q1) fun u s2 ⟨y,H2,I2,r2,q2⟩=>?_
  exact hf v u s2 x y H2 I2 r1 r2 q2
theorem zb8 {op:Operator}{r:R2} (ho:OpR X (binaryOp op) r) (ha:PE X a ta) (hb:PE X b tb):PE X (.BinOp a op b pos) (tOp r ta tb):=by
  intro pins s σ H Q I h
  exact wpAny_BinOp (binT ha hb I h fun v u s2 x y H2 I2 rx ry q=>ho pins s2 σ H2 x y v u Q I2 rx ry q)
theorem zyt {op:UnaryOp}{r:V→Hp→VK→Prop} (ho:UnR X (unaryOp op) r) (ha:PE X a ta):PE X (.UnaryOp op a pos) (tUn r ta):=by
  intro pins s σ H Q I h
  exact UnaryOp_ (thn (ha pins s σ H _ I h) fun v s1 ⟨x,H1,I1,r1,q1⟩=>ho pins s1 σ H1 x v Q I1 r1 q1)
theorem opI {f:Value→Value→Sem Value}{C:Int→Int→Prop}{g:Int→Int→Int}
    (rule : ∀ (i j:Int) (t u:Tok) (s:Shared) (Q:Value→Shared→Prop) (E:Value→Shared→Prop),C i j→Q (.int (g i j) s.toks) { s with toks:=s.toks+1 }→wpAny (model X.prog X.w) X.A (f (.int i t) (.int j u)) Q E s) :
    OpR X f (rI C fun i j => .int (g i j)):=by
  intro pins s σ H x y v u Q I rx ry h
  obtain ⟨i,j,rfl,rfl,hc,q⟩:=h
  obtain ⟨t,rfl⟩:=rx
  obtain ⟨t',rfl⟩:=ry
  exact rule i j t t' s _ _ hc ⟨.int (g i j),H,I.tok _,⟨_,rfl⟩,q⟩
theorem opI0 {f:Value→Value→Sem Value}{g:Int→Int→Int}
    (rule : ∀ (i j:Int) (t u:Tok) (s:Shared) (Q:Value→Shared→Prop) (E:Value→Shared→Prop),Q (.int (g i j) s.toks) { s with toks:=s.toks+1 }→wpAny (model X.prog X.w) X.A (f (.int i t) (.int j u)) Q E s) :
    OpR X f (rI0 fun i j => .int (g i j)):=by
  intro pins s σ H x y v u Q I rx ry h
  obtain ⟨i,j,rfl,rfl,q⟩:=h
  obtain ⟨t,rfl⟩:=rx
  obtain ⟨t',rfl⟩:=ry
  exact rule i j t t' s _ _ ⟨.int (g i j),H,I.tok _,⟨_,rfl⟩,q⟩
theorem opB0 {f:Value→Value→Sem Value}{g:Int→Int→Bool}
    (rule : ∀ (i j:Int) (t u:Tok) (s:Shared) (Q:Value→Shared→Prop) (E:Value→Shared→Prop),Q (.bool (g i j)) s→wpAny (model X.prog X.w) X.A (f (.int i t) (.int j u)) Q E s) :
    OpR X f (rI0 fun i j => .bl (g i j)):=by
  intro pins s σ H x y v u Q I rx ry h
  obtain ⟨i,j,rfl,rfl,q⟩:=h
  obtain ⟨t,rfl⟩:=rx
  obtain ⟨t',rfl⟩:=ry
  exact rule i j t t' s _ _ ⟨.bl (g i j),H,I,rfl,q⟩
theorem zdi:OpR X (binaryOp .Add) (rI0 fun i j => .int (i+j)):=opI0 fun _ _ _ _ _ _ _ q=>add_int q
theorem znw:OpR X (binaryOp .Sub) (rI0 fun i j => .int (i - j)):=opI0 fun _ _ _ _ _ _ _ q=>sub_int q
theorem zxv:OpR X (binaryOp .Mod) (rI (fun _ j=>0<j) fun i j => .int (i % j)):=opI fun i j _ _ _ _ _ hc q=>by
  have h1:(0:Int)<j:=hc
  exact mod_int' (by omega) (by rw [Int.fmod_eq_emod_of_nonneg i (by omega)];exact q)
theorem unI {f:Value→Sem Value}{g:Int→Int}
    (rule : ∀ (i:Int) (t:Tok) (s:Shared) (Q:Value→Shared→Prop) (E:Value→Shared→Prop),Q (.int (g i) s.toks) { s with toks:=s.toks+1 }→wpAny (model X.prog X.w) X.A (f (.int i t)) Q E s) :
    UnR X f (rU fun i => .int (g i)):=by
  intro pins s σ H x v Q I rx h
  obtain ⟨i,rfl,q⟩:=h
  obtain ⟨t,rfl⟩:=rx
  exact rule i t s _ _ ⟨.int (g i),H,I.tok _,⟨_,rfl⟩,q⟩
theorem zw6:UnR X (unaryOp .USub) (rU fun i => .int (-i)):=unI fun _ _ _ _ _ q=>neg_int q
end
noncomputable def scal:V→V→Bool
  | .non,.non=>true | .non,.int _=>true | .int _,.non=>true | .non,.bl _=>true | .bl _,.non=>true | .non,.str _=>true | .str _,.non=>true
  | .int _,.int _=>true | .bl _,.bl _=>true | .str _,.str _=>true | .byt _,.byt _=>true
  | .int _,.str _=>true | .str _,.int _=>true | .bl _,.str _=>true | .str _,.bl _=>true
  | _,_=>false
noncomputable def rEq:R2:=fun x y H Q=>scal x y=true∧Q (.bl (decide (x=y))) H
noncomputable def rNe:R2:=fun x y H Q=>scal x y=true∧Q (.bl (!decide (x=y))) H
theorem zr6 {i j:Int}:decide (V.int i=V.int j)=(i == j):=by
  rw [Bool.eq_iff_iff]
  simp
theorem zu4 {i j:Bool}:decide (V.bl i=V.bl j)=(i == j):=by
  rw [Bool.eq_iff_iff]
  simp
theorem zr5 {i j:Str}:decide (V.str i=V.str j)=(i == j):=by
  rw [Bool.eq_iff_iff]
  simp
theorem zr7 {i j:Array UInt8}:decide (V.byt i=V.byt j)=(i.toList == j.toList):=by
  rw [Bool.eq_iff_iff]
  cases i
  cases j
  simp
section
variable {X:Cx}{a b c:Expr}{ta tb tc:TE}{pos:Pos}
theorem za6 {pins:List (Addr×Obj)}{σ:St}{H:Hp}{s:Shared}{Q:VK}{k k':Bool} (I:Inv X pins σ H s) (q:Q (.bl k) H) (e:k=k'):EP X pins σ Q (.bool k') s:=by
  subst e
  exact ⟨.bl k,H,I,rfl,q⟩
theorem zcr:OpR X (compareOp .Eq) rEq:=by
  intro pins s σ H x y v u Q I rx ry h
  obtain ⟨hs,q⟩:=h
  cases x with
  | non =>
    cases rx
    cases y with
    | non=>cases ry;exact PySem.EqNone.eq_none_none (za6 I q (by simp))
    | bl j=>cases ry;exact PySem.EqNone.eq_none_bool (za6 I q (by simp))
    | int j=>obtain ⟨t',rfl⟩:=ry;exact PySem.EqNone.eq_none_int (za6 I q (by simp))
    | str j=>obtain ⟨t',rfl⟩:=ry;exact PySem.EqNone.eq_none_str (za6 I q (by simp))
    | _=>exact absurd (show false=true from hs) Bool.false_ne_true
  | bl i =>
    cases rx
    cases y with
    | non=>cases ry;exact PySem.EqNone.eq_bool_none (za6 I q (by simp))
    | bl j=>cases ry;exact eq_bool (za6 I q zu4)
    | str j=>obtain ⟨t',rfl⟩:=ry;exact PySem.EqMixed.eq_bool_str (za6 I q (by simp))
    | _=>exact absurd (show false=true from hs) Bool.false_ne_true
  | int i =>
    obtain ⟨t,rfl⟩:=rx
    cases y with
    | non=>cases ry;exact PySem.EqNone.eq_int_none (za6 I q (by simp))
    | int j=>obtain ⟨t',rfl⟩:=ry;exact eq_int (za6 I q zr6)
    | str j=>obtain ⟨t',rfl⟩:=ry;exact PySem.EqMixed.eq_int_str (za6 I q (by simp))
    | _=>exact absurd (show false=true from hs) Bool.false_ne_true
  | str i =>
    obtain ⟨t,rfl⟩:=rx
    cases y with
    | non=>cases ry;exact PySem.EqNone.eq_str_none (za6 I q (by simp))
    | bl j=>cases ry;exact PySem.EqMixed.eq_str_bool (za6 I q (by simp))
    | int j=>obtain ⟨t',rfl⟩:=ry;exact PySem.EqMixed.eq_str_int (za6 I q (by simp))
    | str j=>obtain ⟨t',rfl⟩:=ry;exact eq_str (za6 I q zr5)
    | _=>exact absurd (show false=true from hs) Bool.false_ne_true
  | byt i =>
    obtain ⟨t,rfl⟩:=rx
    cases y with
    | byt j=>obtain ⟨t',rfl⟩:=ry;exact PySem.W.eq_bytes (za6 I q zr7)
    | _=>exact absurd (show false=true from hs) Bool.false_ne_true
  | _=>cases y <;> exact absurd (show false=true from hs) Bool.false_ne_true
theorem zq5:OpR X (compareOp .NotEq) rNe:=by
  intro pins s σ H x y v u Q I rx ry h
  obtain ⟨hs,q⟩:=h
  cases x with
  | non =>
    cases rx
    cases y with
    | non=>cases ry;exact PySem.EqNone.ne_none_none (za6 I q (by simp))
    | bl j=>cases ry;exact PySem.EqNone.ne_none_bool (za6 I q (by simp))
    | int j=>obtain ⟨t',rfl⟩:=ry;exact PySem.EqNone.ne_none_int (za6 I q (by simp))
    | str j=>obtain ⟨t',rfl⟩:=ry;exact PySem.EqNone.ne_none_str (za6 I q (by simp))
    | _=>exact absurd (show false=true from hs) Bool.false_ne_true
  | bl i =>
    cases rx
    cases y with
    | non=>cases ry;exact PySem.EqNone.ne_bool_none (za6 I q (by simp))
    | bl j=>cases ry;exact ne_bool (za6 I q (congrArg not zu4))
    | str j=>obtain ⟨t',rfl⟩:=ry;exact PySem.EqMixed.ne_bool_str (za6 I q (by simp))
    | _=>exact absurd (show false=true from hs) Bool.false_ne_true
  | int i =>
    obtain ⟨t,rfl⟩:=rx
    cases y with
    | non=>cases ry;exact PySem.EqNone.ne_int_none (za6 I q (by simp))
    | int j=>obtain ⟨t',rfl⟩:=ry;exact ne_int (za6 I q (congrArg not zr6))
    | str j=>obtain ⟨t',rfl⟩:=ry;exact PySem.EqMixed.ne_int_str (za6 I q (by simp))
    | _=>exact absurd (show false=true from hs) Bool.false_ne_true
  | str i =>
    obtain ⟨t,rfl⟩:=rx
    cases y with
    | non=>cases ry;exact PySem.EqNone.ne_str_none (za6 I q (by simp))
    | bl j=>cases ry;exact PySem.EqMixed.ne_str_bool (za6 I q (by simp))
    | int j=>obtain ⟨t',rfl⟩:=ry;exact PySem.EqMixed.ne_str_int (za6 I q (by simp))
    | str j=>obtain ⟨t',rfl⟩:=ry;exact ne_str (za6 I q (congrArg not zr5))
    | _=>exact absurd (show false=true from hs) Bool.false_ne_true
  | byt i =>
    obtain ⟨t,rfl⟩:=rx
    cases y with
    | byt j=>obtain ⟨t',rfl⟩:=ry;exact PySem.W.ne_bytes (za6 I q (congrArg not zr7))
    | _=>exact absurd (show false=true from hs) Bool.false_ne_true
  | _=>cases y <;> exact absurd (show false=true from hs) Bool.false_ne_true
theorem zor:OpR X (compareOp .Lt) (rI0 fun i j => .bl (decide (i<j))):=opB0 fun _ _ _ _ _ _ _ q=>lt_int q
theorem zos:OpR X (compareOp .LtE) (rI0 fun i j => .bl (decide (i≤j))):=opB0 fun _ _ _ _ _ _ _ q=>le_int q
theorem zou:OpR X (compareOp .Gt) (rI0 fun i j => .bl (decide (j<i))):=opB0 fun _ _ _ _ _ _ _ q=>gt_int q
theorem zxw:OpR X (compareOp .GtE) (rI0 fun i j => .bl (decide (j≤i))):=opB0 fun _ _ _ _ _ _ _ q=>ge_int q
theorem OpR.or {f:Value→Value→Sem Value}{r r':R2} (h:OpR X f r) (h':OpR X f r'):OpR X f (fun x y H Q=>r x y H Q∨r' x y H Q):=by
  intro pins s σ H x y v u Q I rx ry q
  rcases q with q | q
  · exact h pins s σ H x y v u Q I rx ry q
  · exact h' pins s σ H x y v u Q I rx ry q
theorem zay (b:Expr) {op:CmpOp} (h:op ≠ .In:=by decide) (h2:op ≠ .NotIn:=by decide):behindInMarks op b=false:=by
  have e1:(op == CmpOp.In)=false:=by cases op <;> first | rfl | exact absurd rfl h
  have e2:(op == CmpOp.NotIn)=false:=by cases op <;> first | rfl | exact absurd rfl h2
  cases b <;> simp [behindInMarks,e1,e2]
theorem zjn {op:CmpOp}{r:R2} (ho:OpR X (compareOp op) r) (ha:PE X a ta) (hb:PE X b tb) (hm:behindInMarks op b=false):PE X (.Compare a [op] [b] pos) (tOp r ta tb):=by
  intro pins s σ H Q I h
  exact wpAny_Compare1 (binT ha hb I h fun v u s2 x y H2 I2 rx ry q=>ho pins s2 σ H2 x y v u Q I2 rx ry q) hm
noncomputable def zl1 (t:TE):TT:=fun σ H Q=>t σ H fun x H'=>∃ k,x = .bl k∧Q k H'
theorem zam {op:CmpOp}{r:R2} (ho:OpR X (compareOp op) r) (ha:PE X a ta) (hb:PE X b tb) (hm:behindInMarks op b=false):PT X (.Compare a [op] [b] pos) (zl1 (tOp r ta tb)):=by
  intro pins s σ H Q I h
  refine wpAny_isTrue_Compare1 (thn (ha pins s σ H _ I h) fun v s1 ⟨x,H1,I1,r1,q1⟩=>thn (hb pins s1 σ H1 _ I1 q1) fun u s2 ⟨y,H2,I2,r2,q2⟩ =>
    thn (ho pins s2 σ H2 x y v u _ I2 r1 r2 q2) fun c s3 ⟨z,H3,I3,r3,k,e,q3⟩=>?_) hm
  subst e
  cases r3
  exact wpAny_truthy_bool ⟨H3,I3,q3⟩
noncomputable def zif (r r':R2) (ta tb tc:TE):TE:=fun σ H Q=>ta σ H fun x H1=>tb σ H1 fun y H2=>r x y H2 fun z H3=>∃ k,z = .bl k ∧
  (if k=true then tc σ H3 fun w' H4=>r' y w' H4 Q else Q (.bl false) H3)
theorem znt {op op':CmpOp}{r r':R2} (ho:OpR X (compareOp op) r) (ho':OpR X (compareOp op') r') (ha:PE X a ta) (hb:PE X b tb) (hc:PE X c tc)
    (hm:lastMarks [op,op'] [b,c]=false:=by with_unfolding_all rfl):PE X (.Compare a [op,op'] [b,c] pos) (zif r r' ta tb tc):=by
  intro pins s σ H Q I h
  refine Compare_chain (thn (ha pins s σ H _ I h) fun v s1 ⟨x,H1,I1,r1,q1⟩=>chain_link (thn (hb pins s1 σ H1 _ I1 q1) fun u s2 ⟨y,H2,I2,r2,q2⟩ =>
    thn (ho pins s2 σ H2 x y v u _ I2 r1 r2 q2) fun d s3 ⟨z,H3,I3,r3,k,e,q3⟩=>?_)) hm
  subst e
  cases r3
  refine wpAny_truthy_bool ?_
  cases k with
  | false=>exact ite_ff ⟨.bl false,H3,I3,rfl,q3⟩
  | true=>exact ite_tt (chain_last (thn (hc pins s3 σ H3 _ I3 q3) fun w' s4 ⟨z',H4,I4,r4,q4⟩=>ho' pins s4 σ H4 y z' u w' Q I4 r2 r4 q4))
theorem zs6 {op op':CmpOp}{r r':R2} (ho:OpR X (compareOp op) r) (ho':OpR X (compareOp op') r') (ha:PE X a ta) (hb:PE X b tb) (hc:PE X c tc)
    (hm:lastMarks [op,op'] [b,c]=false:=by with_unfolding_all rfl):PT X (.Compare a [op,op'] [b,c] pos) (zl1 (zif r r' ta tb tc)):=by
  intro pins s σ H Q I h
  refine isTrue_chain (thn (ha pins s σ H _ I h) fun v s1 ⟨x,H1,I1,r1,q1⟩=>test_link (thn (hb pins s1 σ H1 _ I1 q1) fun u s2 ⟨y,H2,I2,r2,q2⟩ =>
    thn (ho pins s2 σ H2 x y v u _ I2 r1 r2 q2) fun d s3 ⟨z,H3,I3,r3,k,e,q3⟩=>?_)) hm
  subst e
  cases r3
  refine wpAny_truthy_bool ?_
  cases k with
  | false =>
    obtain ⟨k',e',q'⟩:=q3
    cases e'
    exact ite_ff ⟨H3,I3,q'⟩
  | true =>
    refine ite_tt (test_last (thn (hc pins s3 σ H3 _ I3 q3) fun w' s4 ⟨z',H4,I4,r4,q4⟩=>thn (ho' pins s4 σ H4 y z' u w' _ I4 r2 r4 q4) fun d' s5 ⟨z2,H5,I5,r5,k2,e2,q5⟩=>?_))
    subst e2
    cases r5
    exact wpAny_truthy_bool ⟨H5,I5,q5⟩
noncomputable def TruV (K:PySem.W.Frag) (x:V) (H:Hp) (k:Bool):Prop :=
  match x with
  | .non=>k=false
  | .bl b=>k=b
  | .int i=>k=(i != 0)
  | .str y=>y.length≤sizeLine∧k=((y.length:Int) != 0)
  | .byt y=>y.size≤sizeLine∧k=((y.size:Int) != 0)
  | .ref p=>(∃ xs,SqL K H p xs∧k = !xs.isEmpty)∨(∃ xs,SqT K H p xs∧k = !xs.isEmpty)∨∃ kvs,H p=some (.dK kvs)∧k = !kvs.isEmpty
  | _=>False
theorem zo2 {κ:Type}{kvs:List (κ×V)}{vs:List (κ×Value)} (r:KV kvs vs):(!vs.isEmpty) = !kvs.isEmpty:=by
  cases r <;> rfl
theorem zit {xs:List V}{its:List Value} (r:Vals xs its):(!its.toArray.isEmpty) = !xs.isEmpty:=by
  cases r <;> simp
theorem ze6:(sizeLine:Nat)<2 ^ 63:=by rw [sizeLine_eq];decide
theorem zw7:TruR X (fun x H Q=>∃ k,TruV X.K x H k∧Q k H):=by
  intro pins s σ H x v Q I rx h
  obtain ⟨k,e,q⟩:=h
  have hl:=ze6
  have hs:sizeLine=16777216:=sizeLine_eq
  cases x with
  | non =>
    cases rx
    have e':k=false:=e
    subst e'
    exact truthy_none ⟨H,I,q⟩
  | bl b =>
    cases rx
    have e':k=b:=e
    subst e'
    exact wpAny_truthy_bool ⟨H,I,q⟩
  | int i =>
    obtain ⟨t,rfl⟩:=rx
    have e':k=(i != 0):=e
    subst e'
    exact PySem.P.truthy_int ⟨H,I,q⟩
  | str y =>
    obtain ⟨t,rfl⟩:=rx
    obtain ⟨hy,e'⟩:y.length≤sizeLine∧k=((y.length:Int) != 0):=e
    subst e'
    exact PySem.P.truthy_str (by omega) ⟨H,I.tok _,q⟩
  | byt y =>
    obtain ⟨t,rfl⟩:=rx
    obtain ⟨hy,e'⟩:y.size≤sizeLine∧k=((y.size:Int) != 0):=e
    subst e'
    exact PySem.W.truthy_bytes (by omega) ⟨H,I.tok _,q⟩
  | ref p =>
    cases rx
    have e':(∃ xs,SqL X.K H p xs∧k = !xs.isEmpty)∨(∃ xs,SqT X.K H p xs∧k = !xs.isEmpty)∨∃ kvs,H p=some (.dK kvs)∧k = !kvs.isEmpty:=e
    rcases e' with ⟨xs,hx,e'⟩ | ⟨xs,hx,e'⟩ | ⟨kvs,hx,e'⟩
    · subst e'
      obtain ⟨its,r,pl,hz⟩:=I.list hx
      have hlen:=r.length
      exact wpAny_truthy_list pl.isList (by simp only [List.size_toArray];omega) ⟨H,I.tok _,by rw [zit r];exact q⟩
    · subst e'
      obtain ⟨its,r,pl,hz⟩:=I.tuple hx
      have hlen:=r.length
      exact truthy_tuple pl (by simp only [List.size_toArray];omega) ⟨H,I.tok _,by rw [zit r];exact q⟩
    · subst e'
      obtain ⟨hz,hS,vs,r,m⟩:kvs.length≤sizeLine∧(p == sysModules)=false∧∃ vs,KV kvs vs∧s.heap.DictOf (zba X.prog X.w) p vs:=I.hok p _ hx
      have hlen:kvs.length=vs.length:=Paired.length r
      exact wpAny_truthy_dict hS m (by omega) ⟨H,I.tok _,by rw [zo2 r];exact q⟩
  | _=>exact (show False from e).elim
theorem zjl (ha:PE X a ta) (he : ∀ whole,isTrue a X.env whole=(do let v ← whole;standAt a.pos;holding [v] (truthy v))) :
    PT X a (fun σ H Q=>ta σ H fun x H'=>∃ k,TruV X.K x H' k∧Q k H'):=by
  intro pins s σ H Q I h
  exact isTrue_plain (thn (ha pins s σ H _ I h) fun v s1 ⟨x,H1,I1,r1,q1⟩=>zw7 pins s1 σ H1 x v Q I1 r1 q1) (he _)
theorem zch:OpR X (binaryOp .Add) (fun x y H Q=>∃ i j,x = .str i∧y = .str j∧i.length+j.length≤sizeLine∧Q (.str (i++j)) H):=by
  intro pins s σ H x y v u Q I rx ry h
  obtain ⟨i,j,rfl,rfl,hz,q⟩:=h
  obtain ⟨t,rfl⟩:=rx
  obtain ⟨t',rfl⟩:=ry
  exact add_str (fun t' tk=>⟨.str (i++j),H,I.tok _,⟨_,rfl⟩,q⟩) hz
theorem zlw {x:V}{us:List Value} (r:Vals [x] us) : ∃ u,us=[u]∧RelV x u:=by
  cases r with
  | cons r1 r2=>cases r2;exact ⟨_,rfl,r1⟩
theorem zf5:zeu X (.type "str") (fun xs H Q=>∃ i,xs=[.int i]∧i.natAbs.log2<1920∧Q (.str (toString i)) H):=by
  intro pins s σ H xs us Q I r h
  obtain ⟨i,rfl,hz,q⟩:=h
  obtain ⟨u,rfl,t,rfl⟩:=zlw r
  exact PySem.P.str_of_int hz ⟨.str _,H,I.tok _,⟨_,rfl⟩,q⟩
theorem zgs:zeu X (.builtin "ord") (fun xs H Q=>∃ x,xs=[.str x]∧x.length=1∧Q (.int (x.cps.getD 0 0:Nat)) H):=by
  intro pins s σ H xs us Q I r h
  obtain ⟨x,rfl,hz,q⟩:=h
  obtain ⟨u,rfl,t,rfl⟩:=zlw r
  exact ord_of_one hz ⟨.int _,H,I.tok _,⟨_,rfl⟩,q⟩
end
end L2
namespace L2
open PySem PySem.Spec PyProof.Rows
structure ObjM (h:Heap) (x dx C:Addr) (mA:Str→Option Value):Prop where
  obj:h.get? x=some (PySem.W.instObj C dx)
  ns:h.Ns1 dx mA
  ne:dx≠x
theorem zk6 {h:Heap}{dx:Addr}{mA:Str→Option Value} (n:h.Ns1 dx mA) : ∃ od,h.get? dx=some od∧∀ name,PySem.W.lookIn name od=some (mA name):=by
  obtain ⟨o,es,ep,ho,hd,hk,_,hm⟩:=n
  refine ⟨o,ho,fun name=>?_⟩
  have e:=hm name
  unfold nsFind findBy at e
  rw [← Array.find?_toList] at e
  unfold PySem.W.lookIn
  rw [hd]
  dsimp only
  split
  · rename_i y q
    rw [q] at e
    exact congrArg some e
  · rename_i q
    rw [q] at e
    have a:es.toList.any (·.refKey)=false:=by
      rw [List.any_eq_false]
      intro y hy
      obtain ⟨z,t,hkey⟩:=hk y (Array.mem_toList_iff.mp hy)
      simp [DictEntry.refKey,hkey]
    have a' : ¬ es.toList.any (·.refKey)=true:=by rw [a];exact Bool.false_ne_true
    rw [if_neg a']
    exact congrArg some e
theorem ObjM.look {h:Heap}{x dx C:Addr}{mA:Str→Option Value} (I:ObjM h x dx C mA) : ∃ od,PySem.W.InstAt h x (PySem.W.instObj C dx) C (some od)∧∀ name,PySem.W.lookIn name od=some (mA name) :=
  let ⟨od,ho,hl⟩:=zk6 I.ns
  ⟨od,⟨I.obj,rfl,rfl,ho⟩,hl⟩
section
variable {prog:Program}{w:World}{A:Around}{E:Value→Shared→Prop}{s:Shared}{K:PySem.W.Frag}{x dx C f:Addr}{mA:Str→Option Value}{name:Str}{v:Value}
theorem zwq {expr:Bool}{Q:Value→Shared→Prop} (X:K.In s.heap) (I:ObjM s.heap x dx C mA) (hg:PySem.W.plainGet K C name=true) (hh:PySem.W.hasDictIn K C=true)
    (ha:PySem.W.findIn K (.ref C) name=some none) (hv:mA name=some v) (hv':PySem.W.handedIn v=true) (h:Q v { s with toks:=s.toks+1 }) :
    wpAny (model prog w) A (getAttr (.ref x) name expr) Q E s:=by
  obtain ⟨od,J,hl⟩:=I.look
  exact PySem.W.get_value X J (PySem.W.plainGet_of hg).1 (PySem.W.findObj_own hh ha rfl (by rw [hl,hv])) hv' h
theorem ztw {pl:Sem Bool}{Q:Value×List Value→Shared→Prop} (X:K.In s.heap) (I:ObjM s.heap x dx C mA) (hg:PySem.W.plainGet K C name=true)
    (hf:PySem.W.findIn K (.ref C) name=some (some (.ref f))) (ht:PySem.W.isFn K (.ref f)=true) (hv:mA name=none) (h:Q (.ref f,[.ref x]) s) :
    wpAny (model prog w) A (getMethod (.ref x) name pl) Q E s:=by
  obtain ⟨od,J,hl⟩:=I.look
  exact PySem.W.method_fn X J (PySem.W.plainGet_of hg).1 (PySem.W.plainGet_of hg).2 hf (beq_iff_eq.mp ht) (by show (PySem.W.lookIn name od).map (·.isSome)=some false;rw [hl,hv];rfl) h
theorem zvp {ns:List Str}{Q:Unit→Shared→Prop} (X:K.In s.heap) (I:ObjM s.heap x dx C mA)
    (hs:PySem.W.findIn K (.ref C) "__setattr__"=some (some (.builtin "object.__setattr__"))) (hp:PySem.W.plainOver K C=true) (ht:PySem.W.takerIn K C name=some none) (hh:PySem.W.hasDictIn K C=true)
    (hw:PySem.Within mA ns) (hsz:ns.length≤sizeLine)
    (h : ∀ h',ObjM h' x dx C (fun y=>if y=name then some v else mA y)→Heap.SameBut dx s.heap h'→Q () { s with heap:=h',toks:=s.toks+2 }) :
    wpAny (model prog w) A (setAttr (.ref x) name v) Q E s:=by
  obtain ⟨od,J,hl⟩:=I.look
  refine PySem.W.set_plain X J hs (PySem.W.osa_open (s:={ s with toks:=s.toks+1 }) (r:=none) X J hp ht fun b=>?_)
  obtain ⟨cd,hc,hd'⟩:=PySem.W.any_some hh
  have hx:s.heap.get? x=some ⟨.ref C,some dx,.plain,#[]⟩:=I.obj
  refine wpAny_bind (wpAny_pure (wpAny_bind (wpAny_bind (wpAny_loadPart hx (wpAny_bind (PySem.W.Looks.here (s:={ s with toks:=s.toks+1 }) (PySem.W.looks_clsIn X hc) ?_))))))
  rw [hd']
  refine wpAny_pure (a:=some dx) (wpAny_bind (wpAny_pure (wpAny_bind ?_)))
  refine wpAny_nsSet1 (s:={ s with toks:=s.toks+1 }) I.ns fun h' hn2 hs2=>?_
  obtain ⟨oD,esD,epD,hoD,hdD,hcD⟩:=hn2.count (PySem.Within.cons name v hw)
  refine wpAny_bind (wpAny_lookBehind hoD (by rw [hdD];exact pastItsLine_dict (Nat.le_trans hcD (by rw [List.length_cons];omega))) ?_)
  exact wpAny_pure (h _ ⟨(hs2.2 _ (Ne.symm I.ne)).trans I.obj,hn2,I.ne⟩ hs2)
theorem ztp {R:Result→Shared→Prop}{vs:List Value}{kw:List (Str×Value)} (X:K.In s.heap) (hm:PySem.W.makesIn K C=true)
    (hi:PySem.W.findIn K (.ref C) "__init__"=some (some (.ref f))) (hf:PySem.W.typeIn K (.ref f)=some (.type "function"))
    (h:codeAny (model prog w) (A.under (.builtin "type.__call__" ⟨.ref C::vs,kw⟩)) (.call (.ref f) ⟨.ref (s.heap.objs.size+1)::vs,kw⟩) (PySem.W.InitBack (s.heap.objs.size+1) R)
      { s with heap:=(s.heap.push PySem.W.emptyDict).push (PySem.W.instObj C s.heap.objs.size) }) :
    codeAny (model prog w) A (.call (.ref C) ⟨vs,kw⟩) R s:=by
  obtain ⟨hh,g,d,t,os⟩:=s
  exact PySem.W.make_core (PySem.W.makes_of X hm) (PySem.W.looks_findIn X hi) (fun self=>PySem.W.bind_fn X self hf) (.inl rfl) h
end
noncomputable def putF (f:Str) (v:V):List (Str×V)→List (Str×V)
  | []=>[(f,v)]
  | (g,x)::r=>if g=f then (g,v)::r else (g,x)::putF f v r
theorem zej (f g:Str) (v:V) : ∀ fs:List (Str×V),(putF f v fs).lookup g=if g=f then some v else fs.lookup g
  | []=>by
    show List.lookup g [(f,v)]=_
    by_cases h:g=f
    · have hb:(g == f)=true:=beq_iff_eq.mpr h
      simp only [List.lookup,hb,if_pos h]
    · have hb:(g == f)=false:=beq_eq_false_iff_ne.mpr h
      simp only [List.lookup,hb,if_neg h]
  | (k,x)::r=>by
    have ih:=zej f g v r
    rw [show putF f v ((k,x)::r)=(if k=f then (k,v)::r else (k,x)::putF f v r) from rfl]
    by_cases hk:k=f
    · rw [if_pos hk]
      by_cases h:g=k
      · have hb:(g == k)=true:=beq_iff_eq.mpr h
        simp only [List.lookup,hb,if_pos (h.trans hk)]
      · have hb:(g == k)=false:=beq_eq_false_iff_ne.mpr h
        simp only [List.lookup,hb,if_neg (fun e:g=f=>h (e.trans hk.symm))]
    · rw [if_neg hk]
      by_cases h:g=k
      · have hb:(g == k)=true:=beq_iff_eq.mpr h
        simp only [List.lookup,hb,if_neg (fun e:g=f=>hk (h.symm.trans e))]
      · have hb:(g == k)=false:=beq_eq_false_iff_ne.mpr h
        simp only [List.lookup,hb]
        exact ih
theorem zdr (f:Str) (v:V) : ∀ fs:List (Str×V),f∈(putF f v fs).map (·.1)∧∀ g,g∈fs.map (·.1)→g∈(putF f v fs).map (·.1)
  | []=>⟨by simp [putF],fun g h=>by simp at h⟩
  | (k,x)::r=>by
    obtain ⟨i1,i2⟩:=zdr f v r
    rw [show putF f v ((k,x)::r)=(if k=f then (k,v)::r else (k,x)::putF f v r) from rfl]
    by_cases hk:k=f
    · rw [if_pos hk]
      subst hk
      exact ⟨by simp,fun g h=>by simpa using h⟩
    · rw [if_neg hk]
      refine ⟨?_,fun g h=>?_⟩
      · rw [List.map_cons]
        exact List.mem_cons_of_mem _ i1
      · rw [List.map_cons] at h ⊢
        rcases List.mem_cons.mp h with e | e
        · exact List.mem_cons.mpr (.inl e)
        · exact List.mem_cons_of_mem _ (i2 g e)
theorem zda (f:Str) (v:V) : ∀ fs:List (Str×V),(putF f v fs).length≤fs.length+1
  | []=>by simp [putF]
  | (k,x)::r=>by
    have ih:=zda f v r
    rw [show putF f v ((k,x)::r)=(if k=f then (k,v)::r else (k,x)::putF f v r) from rfl]
    by_cases hk:k=f
    · rw [if_pos hk,List.length_cons,List.length_cons];omega
    · rw [if_neg hk,List.length_cons,List.length_cons];omega
theorem RelO.some_of {v:V}{o:Option Value} (r:RelO (some v) o) : ∃ u,o=some u∧RelV v u:=by
  cases o with
  | none=>exact (show False from r).elim
  | some u=>exact ⟨u,rfl,r⟩
theorem RelO.none_of {o:Option Value} (r:RelO none o):o=none:=by
  cases o with
  | none=>rfl
  | some u=>exact (show False from r).elim
theorem zld {v:V}{u:Value} (r:RelV v u):PySem.W.handedIn u=true:=by
  cases v with
  | non=>cases (show u=Value.none from r);rfl
  | bl b=>cases (show u=Value.bool b from r);rfl
  | int i=>obtain ⟨t,e⟩:=(show ∃ t,u=Value.int i t from r);cases e;rfl
  | str x=>obtain ⟨t,e⟩:=(show ∃ t,u=Value.str x t from r);cases e;rfl
  | byt b=>obtain ⟨t,e⟩:=(show ∃ t,u=Value.bytes b t from r);cases e;rfl
  | flt b=>obtain ⟨t,e⟩:=(show ∃ t,u=Value.float b t from r);cases e;rfl
  | ref a=>cases (show u=Value.ref a from r);rfl
  | ty n=>cases (show u=Value.type n from r);rfl
section
variable {P:Program}{w:World}{H H':Hp}{h h':Heap}{a C dx:Addr}{fs fs':List (Str×V)}
theorem zmp (hok:HOk P w H h) (e:H a=some (.ins C dx fs)) : ∃ mA,ObjM h a dx C mA∧(∀ f,RelO (fs.lookup f) (mA f))∧PySem.Within mA (fs.map (·.1))∧fs.length≤1000∧H dx=some (.own a):=by
  obtain ⟨d,z,ne,ob,mA,n,r,q⟩:=(show zbp P w H h a (.ins C dx fs) from hok a _ e)
  exact ⟨mA,⟨ob,n,ne⟩,r,q,z,d⟩
end
structure Cls (K:PySem.W.Frag) (C:Addr):Prop where
  pg:PySem.W.plainGet K C Str.empty=true
  hd:PySem.W.hasDictIn K C=true
  po:PySem.W.plainOver K C=true
  sa:PySem.W.findIn K (.ref C) "__setattr__"=some (some (.builtin "object.__setattr__"))
theorem Cls.get {K:PySem.W.Frag}{C:Addr} (c:Cls K C) (f:Str):PySem.W.plainGet K C f=true:=c.pg
noncomputable def za1 (K:PySem.W.Frag) (C:Addr) (f:Str):Prop:=PySem.W.findIn K (.ref C) f=some none
theorem za1.taker {K:PySem.W.Frag}{C:Addr}{f:Str} (n:za1 K C f):PySem.W.takerIn K C f=some none:=by
  unfold PySem.W.takerIn
  rw [show PySem.W.findIn K (.ref C) f=some none from n]
  rfl
structure Meth (K:PySem.W.Frag) (C:Addr) (m:Str) (f:Addr):Prop where
  at_:PySem.W.findIn K (.ref C) m=some (some (.ref f))
  fn:PySem.W.isFn K (.ref f)=true
  kp:PySem.W.keepIn K (.ref f)=true
section
variable {X:Cx}{pins:List (Addr×Obj)}{σ:St}{H:Hp}{s:Shared}{a C dx:Addr}{fs:List (Str×V)}{f:Str}{v:V}{A:Around}{E:Value→Shared→Prop}
theorem ziv {b:Bool}{Q:Value→Shared→Prop} (I:Inv X pins σ H s) (e:H a=some (.ins C dx fs)) (c:Cls X.K C) (n:za1 X.K C f) (l:fs.lookup f=some v)
    (h : ∀ u s',Inv X pins σ H s'→RelV v u→Q u s'):wpAny (model X.prog X.w) A (getAttr (.ref a) f b) Q E s:=by
  obtain ⟨mA,O,r,_,_,_⟩:=zmp I.hok e
  obtain ⟨u,hu,ru⟩:=RelO.some_of (v:=v) (o:=mA f) (by rw [← l];exact r f)
  exact zwq I.kIn O (c.get f) c.hd n hu (zld ru) (h u _ (I.tok _) ru)
theorem ziu {m:Str}{g:Addr}{pl:Sem Bool}{Q:Value×List Value→Shared→Prop} (I:Inv X pins σ H s) (e:H a=some (.ins C dx fs)) (c:Cls X.K C) (k:Meth X.K C m g) (l:fs.lookup m=none)
    (h:Q (.ref g,[.ref a]) s):wpAny (model X.prog X.w) A (getMethod (.ref a) m pl) Q E s:=by
  obtain ⟨mA,O,r,_,_,_⟩:=zmp I.hok e
  have hn:mA m=none:=RelO.none_of (by rw [← l];exact r m)
  exact ztw I.kIn O (c.get m) k.at_ k.fn hn h
theorem zih {y:V}{u:Value}{Q:Unit→Shared→Prop} (I:Inv X pins σ H s) (e:H a=some (.ins C dx fs)) (c:Cls X.K C) (n:za1 X.K C f) (hl:fs.length<1000) (ry:RelV y u)
    (h : ∀ s',Inv X pins σ (upd H a (.ins C dx (putF f y fs))) s'→Q () s'):wpAny (model X.prog X.w) A (setAttr (.ref a) f u) Q E s:=by
  obtain ⟨mA,O,r,wi,_,ho⟩:=zmp I.hok e
  have hz:(fs.map (·.1)).length≤sizeLine:=by rw [List.length_map,sizeLine_eq];omega
  refine zvp I.kIn O c.sa c.po n.taker c.hd wi hz fun h' O' sb=>h _ ?_
  have hd : ∃ o,h'.get? dx=some o:=let ⟨o,_,_,e',_⟩:=O'.ns;⟨o,e'⟩
  refine I.write (x:=a) (e:=dx) (by rw [e];exact True.intro) (.inr ho) (fun b q hb z=>(sb.2 b hb).trans z) hd ?_
  refine ⟨by rw [zah O.ne];exact ho,?_,O.ne,O'.obj,_,O'.ns,fun g=>?_,fun g hg=>?_⟩
  · have:=zda f y fs;omega
  · show RelO ((putF f y fs).lookup g) (if g=f then some u else mA g)
    rw [zej]
    by_cases q:g=f
    · rw [if_pos q,if_pos q];exact ry
    · rw [if_neg q,if_neg q];exact r g
  · by_cases q:g=f
    · rw [q];exact (zdr f y fs).1
    · refine (zdr f y fs).2 g (wi g fun z=>hg ?_)
      show (if g=f then some u else mA g)=none
      rw [if_neg q];exact z
theorem Inv.made (I:Inv X pins σ H s):Inv X pins σ (upd (upd H s.heap.objs.size (.own (s.heap.objs.size+1))) (s.heap.objs.size+1) (.ins C s.heap.objs.size []))
    { s with heap:=(s.heap.push PySem.W.emptyDict).push (PySem.W.instObj C s.heap.objs.size) }:=by
  have e1:(s.heap.push PySem.W.emptyDict).get? s.heap.objs.size=some PySem.W.emptyDict:=Heap.get?_push_size s.heap rfl
  have e2:((s.heap.push PySem.W.emptyDict).push (PySem.W.instObj C s.heap.objs.size)).get? (s.heap.objs.size+1)=some (PySem.W.instObj C s.heap.objs.size):=by
    have:=Heap.get?_push_size (s.heap.push PySem.W.emptyDict) (o:=PySem.W.instObj C s.heap.objs.size) rfl
    rwa [Heap.size_push] at this
  have e3:(s.heap.push PySem.W.emptyDict).Ns s.heap.objs.size (fun _=>none):=⟨PySem.W.emptyDict,#[],_,e1,rfl,(fun e he=>absurd he (by simp)),fun _=>rfl⟩
  have I1:=I.laid (a:=s.heap.objs.size) (o := .own (s.heap.objs.size+1)) (h':=s.heap.push PySem.W.emptyDict) (t':=s.toks) (fun b u q=>Heap.get?_push_of_some _ q) (Nat.le_refl _) ⟨_,e1⟩
  refine I1.laid (a:=s.heap.objs.size+1) (o := .ins C s.heap.objs.size []) (t':=s.toks) (fun b u q=>Heap.get?_push_of_some _ q) (Nat.le_of_eq (Heap.size_push _ _)) ?_
  have ne:s.heap.objs.size≠s.heap.objs.size+1:=Nat.ne_of_lt (Nat.lt_succ_self _)
  refine ⟨by rw [zah ne,zad],Nat.zero_le _,ne,e2,fun _=>none,(Heap.Ns1.of_empty e3).at fun o q=>Heap.get?_push_of_some _ q,fun _=>True.intro,fun y hy=>absurd rfl hy⟩
theorem zsi {prog:Program}{w:World}{env:Env}{e:Expr}{f:Str}{pos:Pos}{s:Shared}{Q:Value→Shared→Prop} (hb:attributeBase e f env (eval e env)=eval e env)
    (h:wpAny (model prog w) A (eval e env) (fun o s₁=>wpAny (model prog w) A (getAttr o f true) Q E s₁) E s):wpAny (model prog w) A (eval (.Attribute e f pos) env) Q E s :=
  Attribute_any_ h (by rw [arm_eval_Attribute,hb])
end
noncomputable def tFld (K:PySem.W.Frag) (ta:TE) (f:Str):TE:=fun σ H Q=>ta σ H fun x H1=>∃ a C dx fs v,x = .ref a∧H1 a=some (.ins C dx fs)∧Cls K C∧za1 K C f∧fs.lookup f=some v∧Q v H1
noncomputable def sFld (K:PySem.W.Frag) (ta tv:TE) (f:Str):TS:=fun D σ H=>tv σ H fun y H1=>ta σ H1 fun x H2=>∃ a C dx fs,x = .ref a∧H2 a=some (.ins C dx fs)∧Cls K C∧za1 K C f∧fs.length<1000 ∧
  D.nx σ (upd H2 a (.ins C dx (putF f y fs)))
noncomputable def InOp (X:Cx) (op:Operator) (rd:V→V→Hp→VK→Prop):Prop :=
  ∀ (pins:List (Addr×Obj)) (s:Shared) (σ:St) (H:Hp) (x y:V) (u v:Value) (Q:VK),Inv X pins σ H s→RelV x u→RelV y v→rd x y H Q→wpAny (model X.prog X.w) X.A (inplaceOp op u v) (EP X pins σ Q) X.xe s
noncomputable def zqq (K:PySem.W.Frag) (ta tv:TE) (rd:V→V→Hp→VK→Prop) (f:Str):TS:=fun D σ H=>ta σ H fun x H1=>∃ a C dx fs v,x = .ref a∧H1 a=some (.ins C dx fs)∧Cls K C∧za1 K C f∧fs.lookup f=some v ∧
  tv σ H1 fun y H2=>rd v y H2 fun z H3=>∃ dx' fs',H3 a=some (.ins C dx' fs')∧fs'.length<1000∧D.nx σ (upd H3 a (.ins C dx' (putF f z fs')))
section
variable {X:Cx}{o e value:Expr}{f:Str}{pos pos' tpos:Pos}{ta tv:TE}
theorem zan (he:PE X e ta) (hb:attributeBase e f X.env (eval e X.env)=eval e X.env):PE X (.Attribute e f pos) (tFld X.K ta f):=by
  intro pins s σ H Q I h
  refine zsi hb (thn (he pins s σ H _ I h) fun u s1 ⟨x,H1,I1,rx,a,C,dx,fs,v,ex,ea,c,n,l,q⟩=>?_)
  subst ex
  obtain rfl:u=Value.ref a:=rx
  exact ziv I1 ea c n l fun u' s2 I2 ru=>⟨v,H1,I2,ru,q⟩
theorem zb7 (ha:PE X o ta) (hv:PE X value tv) (hs:swapsWith value (some (.Attribute o f pos')) pos.line X.env=pure false):PS X (.Assign [.Attribute o f pos'] value pos) (sFld X.K ta tv f):=by
  intro pins s σ H D I h
  refine plainObj_wpAny_Assign_Attribute (thn (hv pins s σ H _ I h) fun u s1 ⟨y,H1,I1,ry,q⟩=>thn (ha pins s1 σ H1 _ I1 q) fun ov s2 ⟨x,H2,I2,rx,a,C,dx,fs,ex,ea,c,n,l,q2⟩=>?_) hs
  subst ex
  obtain rfl:ov=Value.ref a:=rx
  exact zih I2 ea c n l ry fun s3 I3=>⟨σ,_,I3,q2⟩
theorem zqs {op:Operator}{rd:V→V→Hp→VK→Prop} (ha:PE X o ta) (hv:PE X value tv) (hop:InOp X op rd):PS X (.AugAssign (.Attribute o f tpos) op value pos) (zqq X.K ta tv rd f):=by
  intro pins s σ H D I h
  refine wpAny_AugAssign_AttributeAny (thn (ha pins s σ H _ I h) fun ov s1 ⟨x,H1,I1,rx,a,C,dx,fs,v,ex,ea,c,n,l,q⟩=>?_)
  subst ex
  obtain rfl:ov=Value.ref a:=rx
  refine ziv I1 ea c n l fun u s2 I2 ru=>thn (hv pins s2 σ H1 _ I2 q) fun w3 s3 ⟨y,H2,I3,ry,q3⟩=>thn (hop pins s3 σ H2 v y u w3 _ I3 ru ry q3) fun w4 s4 ⟨z,H3,I4,rz,dx',fs',ea',l',q4⟩=>?_
  exact zih I4 ea' c n l' rz fun s5 I5=>⟨σ,_,I5,q4⟩
noncomputable def rAdd:V→V→Hp→VK→Prop:=fun x y H Q=>∃ i j,x = .int i∧y = .int j∧Q (.int (i+j)) H
theorem zx7:InOp X .Add rAdd:=by
  rintro pins s σ H x y u v Q I rx ry ⟨i,j,rfl,rfl,q⟩
  obtain ⟨t,rfl⟩:=(show ∃ t,u=Value.int i t from rx)
  obtain ⟨t',rfl⟩:=(show ∃ t',v=Value.int j t' from ry)
  exact PyProof.Rows.iadd_int ⟨.int (i+j),H,I.tok _,⟨_,rfl⟩,q⟩
end
section
variable {X:Cx}{pins:List (Addr×Obj)}{σ:St}{H:Hp}{s:Shared}{A:Around}{E:Value→Shared→Prop}{Q:Value→Shared→Prop}{c:Value}{b:Bool}
end
end L2
namespace L2
open PySem PySem.Spec PyProof.Rows
structure Room (k:Nat) (A:Around):Prop where
  hd:A.handled=none
  dp:A.depth+3 * k+5<recursionLimit
  un:A.units+16 * k+200<cLine
theorem Room.mono {j k:Nat}{A:Around} (r:Room k A) (h:j≤k):Room j A:=⟨r.hd,by have:=r.dp;omega,by have:=r.un;omega⟩
theorem Room.deeper {k:Nat}{A:Around} (r:Room (k+1) A) (env:Env):Room k (A.deeper env) :=
  ⟨r.hd,by have:=r.dp;show A.depth+1+3 * k+5<_;omega,by have:=r.un;show A.units+3+16 * k+200<_;omega⟩
theorem Room.in1 {k:Nat}{A:Around} (r:Room (k+1) A):Room k A.in1 :=
  ⟨r.hd,by have:=r.dp;show A.depth+3 * k+5<_;omega,by have:=r.un;show A.units+1+16 * k+200<_;omega⟩
theorem zox {A:Around}{C:Addr}{us:List Value}{kw:List (Str×Value)}:(A.under (.builtin "type.__call__" ⟨.ref C::us,kw⟩)).depth=A.depth+1:=by
  first | rfl | simp [Around.under,Code.weight,Code.isCreation,Code.isGuard,Code.isCaller,Code.frames,Code.isFrame,guardIds]
theorem zow {A:Around}{C:Addr}{us:List Value}{kw:List (Str×Value)}:(A.under (.builtin "type.__call__" ⟨.ref C::us,kw⟩)).units=A.units+1:=by
  first | rfl | simp [Around.under,Code.cUnits,Code.frames,Code.isFrame]
theorem Room.make {k:Nat}{A:Around} (r:Room (k+1) A) (C:Addr) (us:List Value) (kw:List (Str×Value)):Room k (A.under (.builtin "type.__call__" ⟨.ref C::us,kw⟩)) :=
  ⟨r.hd,by have:=r.dp;rw [zox];omega,by have:=r.un;rw [zow];omega⟩
theorem Room.depth {k:Nat}{A:Around} (r:Room k A):A.depth<recursionLimit:=by have:=r.dp;omega
theorem Room.units {k:Nat}{A:Around} (r:Room k A):A.units+64<cLine:=by have:=r.un;omega
noncomputable def tNil:TA:=fun _ H Q=>Q [] H
noncomputable def zgc (ta:TE) (tr:TA):TA:=fun σ H Q=>ta σ H fun x H1=>tr σ H1 fun xs H2=>Q (x::xs) H2
section
variable {X:Cx}{e:Expr}{es:List Expr}{te:TE}{t:TA}{pos:Pos}
theorem zac:PA X [] tNil:=fun _ _ _ _ H Q I h=>Calls.spliced_nil ⟨[],H,I,.nil,h⟩
theorem zaa (ha:PE X e te) (hr:PA X es t) (hs:starEach (e::es) X.env=(false,eval e X.env)::starEach es X.env:=by rfl):PA X (e::es) (zgc te t):=by
  intro pos pins s σ H Q I h
  rw [hs]
  show wpAny _ _ (spliced ((false,eval e X.env)::backTo pos (starEach es X.env))) _ _ s
  refine Calls.spliced_cons (thn (ha pins s σ H _ I h) fun u s1 ⟨x,H1,I1,r1,q1⟩=>?_)
  exact thn (hr pos pins s1 σ H1 _ I1 q1) fun us s2 ⟨xs,H2,I2,r2,q2⟩=>⟨x::xs,H2,I2,.cons r1 r2,q2⟩
noncomputable def tTup (t:TA):TE:=fun σ H Q=>t σ H fun xs H1=>xs.length≤sizeLine∧∀ p,H1 p=none→Q (.ref p) (upd H1 p (.tup xs))
noncomputable def tLst (t:TA):TE:=fun σ H Q=>t σ H fun xs H1=>xs.length≤sizeLine∧∀ p,H1 p=none→Q (.ref p) (upd H1 p (.lst xs))
theorem ze1 {x1} (h:PA X es t):PE X (.Tuple es x1 pos) (tTup t):=by
  intro pins s σ H Q I hq
  refine wpAny_Tuple_spliced (thn (h pos pins s σ H _ I hq) fun us s1 ⟨xs,H1,I1,r,z,q⟩=>⟨by rw [← r.length];exact z,?_⟩)
  have hf:H1 s1.heap.objs.size=none:=I1.hok.fresh (Nat.le_refl _)
  refine ⟨.ref s1.heap.objs.size,upd H1 s1.heap.objs.size (.tup xs),I1.laid (t':=s1.toks) (fun b u e=>Heap.get?_push_of_some _ e) (Nat.le_refl _) ?_,rfl,q _ hf⟩
  exact ⟨z,us,r,⟨_,Heap.get?_push_size _ rfl,rfl,_,rfl⟩⟩
theorem zb2 (h:PA X es t):PE X (.List es pos) (tLst t):=by
  intro pins s σ H Q I hq
  refine wpAny_List_spliced (thn (h pos pins s σ H _ I hq) fun us s1 ⟨xs,H1,I1,r,z,q⟩=>⟨by rw [← r.length];exact z,?_⟩)
  have hf:H1 s1.heap.objs.size=none:=I1.hok.fresh (Nat.le_refl _)
  refine ⟨.ref s1.heap.objs.size,upd H1 s1.heap.objs.size (.lst xs),I1.laid (t':=s1.toks) (fun b u e=>Heap.get?_push_of_some _ e) (Nat.le_refl _) ?_,rfl,q _ hf⟩
  exact ⟨z,us,0,r,Heap.get?_push_size _ rfl⟩
end
noncomputable abbrev Sp:=List V→Hp→VK→XK→Prop
noncomputable abbrev CXT:=List Env→Hp→Shared→XK→Value→Shared→Prop
structure Env0 (P:Program) (w:World) (K:PySem.W.Frag) (mg:Str→Option Value) (base:Heap) (A:Around) (outer:List Env) (s:Shared) (H:Hp):Prop where
  frames:A.frames=some outer
  mod:Mod K mg base
  bs : ∀ b o,base.get? b=some o→s.heap.get? b=some o∧H b=none
  bsz:base.objs.size≤s.heap.objs.size
  funs:s.heap.FunFrames base outer
  frf : ∀ b∈frs outer,H b=none
  hok:HOk P w H s.heap
  bare:AllBare s.gens
noncomputable def CE (outer:List Env) (P:Program) (w:World) (H:Hp) (s:Shared) (Q:VK) (u:Value) (s':Shared):Prop :=
  ∃ v H',s'.os=s.os∧AllBare s'.gens∧Un (frs outer) [] H H' s.heap s'.heap∧HOk P w H' s'.heap∧RelV v u∧Q v H'
noncomputable def CR (CX:CXT) (outer:List Env) (P:Program) (w:World) (H:Hp) (s:Shared) (Q:VK) (E:XK) (r:Result) (s':Shared):Prop :=
  match r with
  | .ok (.ret u)=>CE outer P w H s Q u s'
  | .ok _=>False
  | .error e=>CX outer H s E e s'
structure FnOk (P:Program) (w:World) (K:PySem.W.Frag) (mg:Str→Option Value) (base:Heap) (CX:CXT) (k:Nat) (f:Addr) (fd:FuncData) (ps:List Str) (sp:Sp):Prop where
  len : ∀ vs H Q E,sp vs H Q E→vs.length=ps.length
  run : ∀ (A:Around) (outer:List Env) (s:Shared) (H:Hp) (args:Args) (us:List Value) (vs:List V) (Q:VK) (E:XK),Room k A→Env0 P w K mg base A outer s H→BindsTo s fd args (ps.zip us)→Vals vs us→sp vs H Q E →
    codeAny (model P w) A (.call (.ref f) args) (CR CX outer P w H s Q E) s
theorem FnOk.mono {P:Program}{w:World}{K:PySem.W.Frag}{mg:Str→Option Value}{base:Heap}{CX:CXT}{j k:Nat}{f:Addr}{fd:FuncData}{ps:List Str}{sp:Sp} (F:FnOk P w K mg base CX j f fd ps sp) (h:j≤k) :
    FnOk P w K mg base CX k f fd ps sp:=⟨F.len,fun A outer s H args us vs Q E hr=>F.run A outer s H args us vs Q E (hr.mono h)⟩
theorem Env0.make {P:Program}{w:World}{K:PySem.W.Frag}{mg:Str→Option Value}{base:Heap}{A:Around}{outer:List Env}{s:Shared}{H:Hp} (e:Env0 P w K mg base A outer s H) (C:Addr) (us:List Value) (kw:List (Str×Value)) :
    Env0 P w K mg base (A.under (.builtin "type.__call__" ⟨.ref C::us,kw⟩)) outer s H:=⟨by first | exact e.frames | (simpa [Around.under,Code.envs,Code.isFrame,pushEnvs] using e.frames),e.mod,e.bs,e.bsz,e.funs,e.frf,e.hok,e.bare⟩
theorem Env0.in1 {P:Program}{w:World}{K:PySem.W.Frag}{mg:Str→Option Value}{base:Heap}{A:Around}{outer:List Env}{s:Shared}{H:Hp} (e:Env0 P w K mg base A outer s H) :
    Env0 P w K mg base A.in1 outer s H:=⟨e.frames,e.mod,e.bs,e.bsz,e.funs,e.frf,e.hok,e.bare⟩
section
variable {X:Cx}{pins:List (Addr×Obj)}{σ:St}{H:Hp}{s s':Shared}
theorem Inv.env0 (I:Inv X pins σ H s):Env0 X.prog X.w X.K X.mg X.base X.A X.stack s H :=
  ⟨I.ok.frames,I.ok.mod,I.bs,Nat.le_trans I.ok.bsz I.sz,I.stack,I.stkFree,I.hok,I.bare⟩
theorem Inv.after {Q:VK}{u:Value} (I:Inv X pins σ H s) (h:CE X.stack X.prog X.w H s Q u s'):EP X pins σ Q u s':=by
  obtain ⟨v,H',os,bare,un,hok,r,q⟩:=h
  obtain ⟨hh,g,d,t,os'⟩:=s'
  obtain rfl:os'=s.os:=os
  exact ⟨v,H',I.call (h':=hh) (g':=g) (d':=d) (t':=t) (ch:=[]) un hok bare (fun b z=>absurd z (by simp)),r,q⟩
end
noncomputable def zkg (sp:Sp) (dvs:List V) (E:XK) (t:TA):TE:=fun σ H Q=>t σ H fun vs H1=>sp (vs++dvs) H1 Q E
noncomputable def zgb (C:Addr) (m:Str) (sp:Sp) (dvs:List V) (E:XK) (ta:TE) (t:TA):TE:=fun σ H Q=>ta σ H fun x H1=>∃ a dx fs,x = .ref a∧H1 a=some (.ins C dx fs)∧fs.lookup m=none ∧
  t σ H1 fun vs H2=>sp (x::(vs++dvs)) H2 Q E
noncomputable def zbx (C:Addr) (sp:Sp) (dvs:List V) (E:XK) (t:TA):TE:=fun σ H Q=>t σ H fun vs H1=>∀ x dx,H1 x=none→H1 dx=none→dx≠x →
  sp (.ref x::(vs++dvs)) (upd (upd H1 dx (.own x)) x (.ins C dx [])) (fun v H2=>v = .non∧Q (.ref x) H2) E
noncomputable def zb4 (K:PySem.W.Frag) (fd:FuncData) (ps:List Str) (ds:List Value):Prop :=
  ∀ (s:Shared) (us:List Value),K.In s.heap→(us++ds).length=ps.length→BindsTo s fd ⟨us,[]⟩ (ps.zip (us++ds))
theorem zb4.all {K:PySem.W.Frag}{fd:FuncData}{ps:List Str} (h : ∀ us:List Value,us.length=ps.length→bindArgs fd ⟨us,[]⟩=pure (ps.zip us)):zb4 K fd ps []:=fun s us _ hl=>by
  rw [List.append_nil] at hl ⊢
  exact .of_eq (h us hl)
noncomputable def zc3 (CX:CXT) (X:Cx) (E:XK):Prop:=∀ (pins:List (Addr×Obj)) (σ:St) (H:Hp) (s:Shared) (e:Value) (s':Shared),Inv X pins σ H s→CX X.stack H s E e s'→X.xe e s'
section
variable {X:Cx}{CX:CXT}{k:Nat}{f C:Addr}{fd:FuncData}{ps:List Str}{sp:Sp}{dvs:List V}{ds:List Value}{E:XK}{x m:Str}{p pos apos:Pos}{e o:Expr}{es:List Expr}{ta:TE}{t:TA}
theorem znj {pins:List (Addr×Obj)}{σ:St}{H:Hp}{s:Shared}{Q:VK}{us:List Value}{vs:List V} (F:FnOk X.prog X.w X.K X.mg X.base CX k f fd ps sp) (hr:Room k X.A) (hb:zb4 X.K fd ps ds) (hd:Vals dvs ds) (hx:zc3 CX X E)
    (I:Inv X pins σ H s) (r:Vals vs us) (h:sp (vs++dvs) H Q E):wpAny (model X.prog X.w) X.A (call (.ref f) us) (EP X pins σ Q) X.xe s:=by
  have r2:Vals (vs++dvs) (us++ds):=r.append hd
  have hl:(us++ds).length=ps.length:=by rw [← r2.length];exact F.len _ _ _ _ h
  refine wpAny_call (codeAny_mono (F.run X.A X.stack s H ⟨us,[]⟩ (us++ds) (vs++dvs) Q E hr I.env0 (hb s us I.kIn hl) r2 h) fun r s' hq=>?_)
  cases r with
  | error e=>exact hx pins σ H s e s' I hq
  | ok fl =>
    cases fl with
    | ret u=>exact I.after hq
    | next=>exact False.elim hq
    | brk=>exact False.elim hq
    | cont=>exact False.elim hq
theorem zaj (F:FnOk X.prog X.w X.K X.mg X.base CX k f fd ps sp) (hr:Room k X.A) (hg:Gl X x) (hm:X.mg x=some (.ref f)) (hk:PySem.W.keepIn X.K (.ref f)=true) (hb:zb4 X.K fd ps ds) (hd:Vals dvs ds) (hx:zc3 CX X E)
    (ha:PA X (e::es) t) (hdb:(x == ("__debug__":Str))=false:=by decide) (he:starEach (e::es) X.env=(false,eval e X.env)::starEach es X.env:=by rfl) (hpl:(backTo pos (starEach es X.env)).any (·.1)=false:=by rfl) :
    PE X (.Call (.Name x p) (e::es) [] pos) (zkg sp dvs E t):=by
  intro pins s σ H Q I h
  refine wpAny_Call_Name_kw (zfu I hg hm ?_ hdb)
  refine PySem.W.callWith_K (h₀:=X.base) I.ok.mod.kin hk (thn (ha pos pins s σ H _ I h) fun us s1 ⟨vs,H1,I1,r,q⟩=>⟨I1.kIn,?_⟩) he hpl
  exact znj F hr hb hd hx I1 r q
theorem zmf {pl:Sem Bool} (he:PE X o ta) (c:Cls X.K C) (hm:Meth X.K C m f) (F:FnOk X.prog X.w X.K X.mg X.base CX k f fd ps sp) (hr:Room k X.A) (hb:zb4 X.K fd ps ds) (hd:Vals dvs ds) (hx:zc3 CX X E) (ha:PA X (e::es) t)
    (hst:starEach (e::es) X.env=(false,eval e X.env)::starEach es X.env:=by rfl) (hpl:(backTo pos (starEach es X.env)).any (·.1)=false:=by rfl)
    (ht:eval (.Call (.Attribute o m apos) (e::es) [] pos) X.env=(do
      let ov ← eval o X.env
      standAt apos.atName
      let (f,first) ← holding [ov] (getMethod ov m pl)
      callWith pos f first (backTo pos (starEach (e::es) X.env)) (backToKw pos (keywordEach [] X.env))):=by rfl) :
    PE X (.Call (.Attribute o m apos) (e::es) [] pos) (zgb C m sp dvs E ta t):=by
  intro pins s σ H Q I h
  refine PySem.W.methodCall_KW (pl:=pl) (thn (he pins s σ H _ I h) fun u s1 ⟨x,H1,I1,rx,a,dx,fs,ex,ea,l,q⟩=>?_) ht
  subst ex
  obtain rfl:u=Value.ref a:=rx
  refine ziu I1 ea c hm l ?_
  refine PySem.W.callWith_K (first:=[.ref a]) (h₀:=X.base) I.ok.mod.kin hm.kp (thn (ha pos pins s1 σ H1 _ I1 q) fun us s2 ⟨vs,H2,I2,r,q2⟩=>⟨I2.kIn,?_⟩) hst hpl
  exact znj (us := .ref a::us) (vs := .ref a::vs) F hr hb hd hx I2 (.cons rfl r) q2
theorem zb9 {pl:Sem Bool} (he:PE X o ta) (c:Cls X.K C) (hm:Meth X.K C m f) (F:FnOk X.prog X.w X.K X.mg X.base CX k f fd ps sp) (hr:Room k X.A) (hb:zb4 X.K fd ps ds) (hd:Vals dvs ds) (hx:zc3 CX X E)
    (ht:eval (.Call (.Attribute o m apos) [] [] pos) X.env=(do
      let ov ← eval o X.env
      standAt apos.atName
      let (f,first) ← holding [ov] (getMethod ov m pl)
      callWith pos f first (backTo pos (starEach [] X.env)) (backToKw pos (keywordEach [] X.env))):=by rfl) :
    PE X (.Call (.Attribute o m apos) [] [] pos) (zgb C m sp dvs E ta tNil):=by
  intro pins s σ H Q I h
  refine PySem.W.methodCall_KW (pl:=pl) (thn (he pins s σ H _ I h) fun u s1 ⟨x,H1,I1,rx,a,dx,fs,ex,ea,l,q⟩=>?_) ht
  subst ex
  obtain rfl:u=Value.ref a:=rx
  refine ziu I1 ea c hm l ?_
  exact PySem.W.callWith_K0 (first:=[.ref a]) I1.kIn hm.kp (znj (us:=[.ref a]) (vs:=[.ref a]) F hr hb hd hx I1 (.cons rfl .nil) q)
structure Mk (K:PySem.W.Frag) (C f:Addr):Prop where
  makes:PySem.W.makesIn K C=true
  init:PySem.W.findIn K (.ref C) "__init__"=some (some (.ref f))
  fn:PySem.W.isFn K (.ref f)=true
  kp:PySem.W.keepIn K (.ref C)=true
theorem zs4 {pins:List (Addr×Obj)}{σ:St}{H:Hp}{s:Shared}{Q:VK}{us:List Value}{vs:List V} (M:Mk X.K C f) (F:FnOk X.prog X.w X.K X.mg X.base CX k f fd ps sp) (hr:Room (k+1) X.A) (hb:zb4 X.K fd ps ds) (hd:Vals dvs ds)
    (hx:zc3 CX X E) (I:Inv X pins σ H s) (r:Vals vs us)
    (h : ∀ x dx,H x=none→H dx=none→dx≠x→sp (.ref x::(vs++dvs)) (upd (upd H dx (.own x)) x (.ins C dx [])) (fun v H2=>v = .non∧Q (.ref x) H2) E) :
    wpAny (model X.prog X.w) X.A (call (.ref C) us) (EP X pins σ Q) X.xe s:=by
  have hq:=h (s.heap.objs.size+1) s.heap.objs.size (I.hok.fresh (Nat.le_succ _)) (I.hok.fresh (Nat.le_refl _)) (Nat.ne_of_lt (Nat.lt_succ_self _))
  have I2:=Inv.made (C:=C) I
  have r2:Vals (V.ref (s.heap.objs.size+1)::(vs++dvs)) (Value.ref (s.heap.objs.size+1)::(us++ds)) := .cons rfl (r.append hd)
  have hl:(Value.ref (s.heap.objs.size+1)::us++ds).length=ps.length:=by
    have e:=r2.length
    rw [F.len _ _ _ _ hq] at e
    exact e.symm
  refine wpAny_call (ztp (f:=f) I.kIn M.makes M.init (beq_iff_eq.mp M.fn) (codeAny_mono (F.run _ X.stack _ _ ⟨Value.ref (s.heap.objs.size+1)::us,[]⟩ (Value.ref (s.heap.objs.size+1)::(us++ds)) _ _ E (hr.make C us [])
    (I2.env0.make C us []) (hb _ (Value.ref (s.heap.objs.size+1)::us) I2.kIn hl) r2 hq) fun r s' hq'=>?_))
  cases r with
  | error e=>exact hx pins σ _ _ e s' I2 hq'
  | ok fl =>
    cases fl with
    | ret u =>
      obtain ⟨v,H',I3,rv,ev,q3⟩:=I2.after hq'
      subst ev
      exact ⟨rv,⟨V.ref (s.heap.objs.size+1),H',I3,rfl,q3⟩⟩
    | next=>exact False.elim hq'
    | brk=>exact False.elim hq'
    | cont=>exact False.elim hq'
theorem zbu (M:Mk X.K C f) (F:FnOk X.prog X.w X.K X.mg X.base CX k f fd ps sp) (hr:Room (k+1) X.A) (hg:Gl X x) (hm:X.mg x=some (.ref C)) (hb:zb4 X.K fd ps ds) (hd:Vals dvs ds) (hx:zc3 CX X E)
    (ha:PA X (e::es) t) (hdb:(x == ("__debug__":Str))=false:=by decide) (he:starEach (e::es) X.env=(false,eval e X.env)::starEach es X.env:=by rfl) (hpl:(backTo pos (starEach es X.env)).any (·.1)=false:=by rfl) :
    PE X (.Call (.Name x p) (e::es) [] pos) (zbx C sp dvs E t):=by
  intro pins s σ H Q I h
  refine wpAny_Call_Name_kw (zfu I hg hm ?_ hdb)
  refine PySem.W.callWith_K (h₀:=X.base) I.ok.mod.kin M.kp (thn (ha pos pins s σ H _ I h) fun us s1 ⟨vs,H1,I1,r,q⟩=>⟨I1.kIn,?_⟩) he hpl
  exact zs4 M F hr hb hd hx I1 r q
end
section
variable {X:Cx}{CX:CXT}{k:Nat}{f C:Addr}{fd:FuncData}{ps ks:List Str}{sp:Sp}{E:XK}{x m:Str}{p pos apos kpos:Pos}{e o:Expr}{es:List Expr}{kws:List Keyword}{te ta:TE}{t tk:TA}{nm:Option Str}
variable {g:List Value→List Value→List Value}{gV:List V→List V→List V}
end
structure FnScope (N P:List Str) (sc:Scope):Prop where
  kind:sc.kind = .function
  co:sc.isCoroutine=false
  gen:sc.isGenerator=false
  nd:N.Nodup
  pre:N.take P.length=P
  par : ∀ x∈P,sc.names.lookup x=some .local∨sc.names.lookup x=some .cell
  nofree : ∀ y∈sc.names,y.2 ≠ .free
theorem zlo {kindOf:Str→Option NameKind}{x:Str} : ∀ {binds:List (Str×Value)}{m:Str→Option Value},(∀ v,(x,v)∉binds)→bindL kindOf binds m x=m x
  | [],_,_=>rfl
  | (n,v)::r,m,h=>by
    unfold bindL
    rw [zlo fun w hw=>h w (List.mem_cons_of_mem _ hw)]
    split
    · have:x≠n:=by rintro rfl;exact h v List.mem_cons_self
      simp [this]
    · rfl
theorem zlq {kindOf:Str→Option NameKind}{x:Str} : ∀ {binds:List (Str×Value)}{m:Str→Option Value},(∀ v,(x,v)∉binds)→bindC kindOf binds m x=m x
  | [],_,_=>rfl
  | (n,v)::r,m,h=>by
    unfold bindC
    rw [zlq fun w hw=>h w (List.mem_cons_of_mem _ hw)]
    split
    · rfl
    · have:x≠n:=by rintro rfl;exact h v List.mem_cons_self
      simp [this]
theorem zlp {kindOf:Str→Option NameKind}{x:Str}{v:Value} : ∀ {P:List Str}{vs:List Value}{i:Nat}{m:Str→Option Value},P.Nodup→P[i]? = some x→vs[i]? = some v→kindOf x=some .local →
    bindL kindOf (P.zip vs) m x=some v
  | [],_,_,_,_,h,_,_=>by simp at h
  | _::_,[],_,_,_,_,h,_=>by simp at h
  | p::P,w::vs,0,m,nd,h1,h2,hk=>by
    simp at h1 h2;subst h1;subst h2
    show bindL kindOf ((p,w)::P.zip vs) m p=_
    unfold bindL
    rw [zlo fun v hv=>(List.nodup_cons.mp nd).1 (List.of_mem_zip hv).1,if_pos hk]
    simp
  | p::P,w::vs,i+1,m,nd,h1,h2,hk=>by
    show bindL kindOf ((p,w)::P.zip vs) m x=_
    unfold bindL
    exact zlp (i:=i) (List.nodup_cons.mp nd).2 (by simpa using h1) (by simpa using h2) hk
theorem zlr {kindOf:Str→Option NameKind}{x:Str}{v:Value} : ∀ {P:List Str}{vs:List Value}{i:Nat}{m:Str→Option Value},P.Nodup→P[i]? = some x→vs[i]? = some v→kindOf x≠some .local →
    bindC kindOf (P.zip vs) m x=some v
  | [],_,_,_,_,h,_,_=>by simp at h
  | _::_,[],_,_,_,_,h,_=>by simp at h
  | p::P,w::vs,0,m,nd,h1,h2,hk=>by
    simp at h1 h2;subst h1;subst h2
    show bindC kindOf ((p,w)::P.zip vs) m p=_
    unfold bindC
    rw [zlq fun v hv=>(List.nodup_cons.mp nd).1 (List.of_mem_zip hv).1,if_neg hk]
    simp
  | p::P,w::vs,i+1,m,nd,h1,h2,hk=>by
    show bindC kindOf ((p,w)::P.zip vs) m x=_
    unfold bindC
    exact zlr (i:=i) (List.nodup_cons.mp nd).2 (by simpa using h1) (by simpa using h2) hk
noncomputable def start (N:List Str) (vs:List V):St:=vs.map some++List.replicate (N.length - vs.length) none
noncomputable def cxOf (CX:CXT) (P:Program) (w:World) (K:PySem.W.Frag) (mg:Str→Option Value) (base:Heap) (N:List Str) (qual:Str) (scope:Scope) (f:Addr) (cd:Value) (A:Around) (outer:List Env) (s:Shared) (H:Hp) (E:XK):Cx where
  prog:=P
  w:=w
  K:=K
  mg:=mg
  base:=base
  A:=A.deeper (envOfC qual scope s.heap.objs.size f cd)
  N:=N
  s_0:=s
  H_0:=H
  env:=envOfC qual scope s.heap.objs.size f cd
  outer:=outer
  stack:=envOfC qual scope s.heap.objs.size f cd::outer
  ex:=[]
  calm:=true
  fn:=fun _=>true
  pn:=[]
  xe:=fun e s'=>wpAny (model P w) (A.deeper (envOfC qual scope s.heap.objs.size f cd)) (leaving (envOfC qual scope s.heap.objs.size f cd) e) (fun _ s''=>CX outer H s E e s'') (fun e' s''=>CX outer H s E e' s'') s'
theorem zog {sc:Scope}{n:Nat}{x:Str} (h:sc.names.lookup x=some .cell) : ∃ c,(cellsFrom n sc.names []).lookup x=some c:=by
  have q:=PySem.W.cellsFrom_some sc.names n [] (.inl h)
  exact Option.isSome_iff_exists.mp q
theorem zla {CX:CXT}{P:Program}{w:World}{K:PySem.W.Frag}{mg:Str→Option Value}{base:Heap}{N ps:List Str}{qual:Str}{scope:Scope}{f:Addr}{cd:Value}{A:Around}{outer:List Env}{s s1:Shared}{H:Hp}{E:XK}{us:List Value}{vs:List V}
    (S:FnScope N ps scope) (hd:A.handled=none) (e0:Env0 P w K mg base A outer s H) (hl:vs.length=ps.length) (r:Vals vs us)
    (x:InCallC s s.heap.objs.size (bindL (envOfC qual scope s.heap.objs.size f cd).kindOf (ps.zip us) fun _=>none) (cellsFrom (s.heap.objs.size+1) scope.names []) (bindC (envOfC qual scope s.heap.objs.size f cd).kindOf (ps.zip us) fun _=>none) s1) :
    Inv (cxOf CX P w K mg base N qual scope f cd A outer s H E) [] (start N vs) H s1:=by
  have hpl:ps.length≤N.length:=by have:=congrArg List.length S.pre;rw [List.length_take] at this;omega
  obtain ⟨h1,tk,rfl,hk⟩:=x.done
  have noA : ∀ b:Addr,b∉(cxOf CX P w K mg base N qual scope f cd A outer s H E).ex:=fun b z=>absurd (show b∈([]:List Addr) from z) (by simp)
  refine ⟨⟨e0.mod,S.kind,rfl,rfl,Nat.le_refl _,fun y z c h1 h2=>?_,fun y hy=>?_,fun y c _ h=>?_,fun _=>hd,Around.frames_deeper e0.frames,.inr ⟨rfl,rfl⟩,fun b z=>absurd z (noA b),e0.bs,e0.bsz,fun b _ _=>noA b,fun b z=>absurd z (noA b),e0.funs,e0.frf⟩,
    rfl,e0.bare,Un.kept hk,⟨_,x.toInCall.ns,fun i y v h1 h2 h3=>?_⟩,fun y c h=>⟨_,x.cell y c h⟩,e0.hok.fresh (Nat.le_refl _),fun y c h=>?_,fun p hp=>absurd (show p∈([]:List (Addr×Obj)) from hp) (by simp),e0.hok.kept hk,?_⟩
  · exact name_of_addr x.apart (PySem.mem_of_lookup h1) (PySem.mem_of_lookup h2)
  · have hy:scope.names.lookup y=some .cell∨scope.names.lookup y=some .free:=hy
    rcases hy with hy | hy
    · exact zog hy
    · exact absurd rfl (S.nofree _ (PySem.mem_of_lookup hy))
  · exact Nat.le_of_lt (x.above y c (PySem.mem_of_lookup h))
  · have hi:i<vs.length:=by
      unfold start at h2
      by_cases hi:i<vs.length
      · exact hi
      · rw [List.getElem?_append_right (by simpa using hi)] at h2
        rw [List.getElem?_replicate] at h2
        split at h2 <;> cases h2
    have ha:vs[i]? = some v:=by
      unfold start at h2
      rw [List.getElem?_append_left (by simpa using hi),List.getElem?_map] at h2
      cases e:vs[i]? with
      | none=>rw [e] at h2;cases h2
      | some a=>rw [e] at h2;cases h2;rfl
    obtain ⟨u,hu,rv⟩:=r.get ha
    have hp:ps[i]? = some y:=by
      rw [← S.pre,List.getElem?_take_of_lt (by omega)];exact h1
    have ndP:ps.Nodup:=by rw [← S.pre];exact S.nd.sublist (List.take_sublist _ _)
    refine ⟨u,rv,?_⟩
    rcases S.par y (List.mem_of_getElem? hp) with k | k
    · exact .inl ⟨k,zlp ndP hp hu k⟩
    · obtain ⟨c,e⟩:=zog (n:=s.heap.objs.size+1) k
      refine .inr ⟨.inl k,c,e,?_⟩
      have q:=x.cell y c e
      rw [zlr ndP hp hu (by show scope.names.lookup y≠_;rw [k];decide)] at q
      exact q
  · exact e0.hok.fresh (Nat.le_of_lt (x.above y c (PySem.mem_of_lookup h)))
  · unfold start
    show _=N.length
    rw [List.length_append,List.length_map,List.length_replicate]
    omega
theorem zya {CX:CXT}{P:Program}{w:World}{K:PySem.W.Frag}{mg:Str→Option Value}{base:Heap}{k:Nat}{f:Addr}{name qual:Str}{params:Arguments}{body:List Stmt}{scope:Scope}{dV kV doc pm cdv ct oc:Value}{an od:Option Addr}
    {osl:Array (Option Value)}{N ps:List Str}{sp:Sp} (lk:K.lookup f=some ⟨oc,od,.func (PySem.W.fnOf name qual params body scope dV kV doc pm an cdv ct),osl⟩) (hcd:PySem.W.codeIn K cdv qual=true) (S:FnScope N ps scope)
    (len : ∀ vs H Q E,sp vs H Q E→vs.length=ps.length)
    (hbody : ∀ (A:Around) (outer:List Env) (s:Shared) (H:Hp) (vs:List V) (Q:VK) (E:XK),Room k (A.deeper (envOfC qual scope s.heap.objs.size f cdv))→sp vs H Q E →
      ∃ t,PSs (cxOf CX P w K mg base N qual scope f cdv A outer s H E) body t∧t { nx:=fun _ H'=>Q .non H',rt:=Q } (start N vs) H) :
    FnOk P w K mg base CX (k+1) f (PySem.W.fnOf name qual params body scope dV kV doc pm an cdv ct) ps sp:=by
  refine ⟨len,fun A outer s H args us vs Q E hr e0 hb r hsp=>?_⟩
  have hl:=len _ _ _ _ hsp
  have KX:K.In s.heap:=e0.mod.kin.keeps fun b o e=>(e0.bs b o e).1
  have lim:s.heap.NoLimit:=e0.mod.nolimit.keeps fun b o e=>(e0.bs b o e).1
  have hkind : ∀ y∈ps.zip us,scope.names.lookup y.1=some .local∨(scope.names.lookup y.1=some .cell∧((cellsFrom (s.heap.objs.size+1) scope.names []).lookup y.1).isSome=true):=fun ⟨n,v⟩ hy=>by
    rcases S.par n (List.of_mem_zip hy).1 with q | q
    · exact .inl q
    · exact .inr ⟨q,PySem.W.cellsFrom_some _ _ _ (.inl q)⟩
  refine codeAny_call_function hr.depth (KX _ _ lk) rfl S.co S.gen rfl (PySem.W.codeRec_of KX hcd) (hb _ _ _ _ ?_)
  refine wpAny_newFunctionEnv_cells S.kind hkind fun env he s1 x=>?_
  subst he
  refine ⟨lim.keeps x.toInCall.keep,codeAny_func ?_⟩
  obtain ⟨t,ht,hq⟩:=hbody A outer s H vs Q E (hr.deeper _) hsp
  have I:Inv (cxOf CX P w K mg base N qual scope f cdv A outer s H E) [] (start N vs) H s1:=zla S hr.hd e0 hl r x
  refine wpAny_mono (ht [] s1 (start N vs) H _ I hq) (fun fl s' hs=>?_) fun e s' hs=>hs
  have fin : ∀ {σ':St}{H':Hp}{v:V}{u:Value},Inv (cxOf CX P w K mg base N qual scope f cdv A outer s H E) [] σ' H' s'→RelV v u→Q v H'→CE outer P w H s Q u s' :=
    fun {σ' H' v u} J rv q=>⟨v,H',J.os,J.bare,J.base,J.hok,rv,q⟩
  cases fl with
  | ret u =>
    obtain ⟨v,σ',H',J,rv,q⟩:=hs
    exact fin J rv q
  | next =>
    obtain ⟨σ',H',J,q⟩:=hs
    exact fin (v:=V.non) (u:=Value.none) J rfl q
  | brk =>
    obtain ⟨_,_,_,q⟩:=hs
    exact False.elim q
  | cont =>
    obtain ⟨_,_,_,q⟩:=hs
    exact False.elim q
end L2
namespace L2
open PySem PySem.Spec PyProof.Rows
section
variable {X:Cx}{x:Str}{p pos:Pos}{e:Expr}{es:List Expr}{t:TA}{id T:String}{r:List V→Hp→VK→Prop}
noncomputable def tCB (r:List V→Hp→VK→Prop) (t:TA):TE:=fun σ H Q=>t σ H fun vs H1=>r vs H1 Q
theorem za0 (hc:zeu X (.builtin id) r) (hg:Gl X x) (hm:X.mg x=none) (hv:bootBuiltins x=some (.builtin id)) (ha:PA X (e::es) t) (hn:x≠"__name__":=by decide) (hdb:(x == ("__debug__":Str))=false:=by decide)
    (he:starEach (e::es) X.env=(false,eval e X.env)::starEach es X.env:=by rfl) (hpl:(backTo pos (starEach es X.env)).any (·.1)=false:=by rfl):PE X (.Call (.Name x p) (e::es) [] pos) (tCB r t):=by
  intro pins s σ H Q I h
  refine wpAny_Call_Name_kw (ziq I hg hm hv ?_ hn hdb)
  exact PyProof.Rows.callWith_builtin1 (thn (ha pos pins s σ H _ I h) fun us s1 ⟨vs,H1,I1,r1,q1⟩=>hc pins s1 σ H1 vs us Q I1 r1 q1) he hpl
theorem zca (hc:zeu X (.type T) r) (hg:Gl X x) (hm:X.mg x=none) (hv:bootBuiltins x=some (.type T)) (ha:PA X (e::es) t) (hn:x≠"__name__":=by decide) (hdb:(x == ("__debug__":Str))=false:=by decide)
    (he:starEach (e::es) X.env=(false,eval e X.env)::starEach es X.env:=by rfl) (hpl:(backTo pos (starEach es X.env)).any (·.1)=false:=by rfl):PE X (.Call (.Name x p) (e::es) [] pos) (tCB r t):=by
  intro pins s σ H Q I h
  refine wpAny_Call_Name_kw (ziq I hg hm hv ?_ hn hdb)
  exact PyProof.Rows.callWith_type1 (thn (ha pos pins s σ H _ I h) fun us s1 ⟨vs,H1,I1,r1,q1⟩=>hc pins s1 σ H1 vs us Q I1 r1 q1) he hpl
end
end L2
namespace HT
open PySem PyProof.Rows
section
open PySem.SeqAt
open PySem.AutoSeq1 (wpAny_loadPart')
open PySem.MeetsSeq PySem.MeetsSeq2 PySem.MeetsSeq3
end
section
variable {prog:Program}{w:World}{A:Around}{E:Value→Shared→Prop}{s:Shared}
theorem cat_tup {t b:Addr}{vs ws:List Value}{Q:Value→Shared→Prop} (ht:IsTup s.heap t vs.toArray) (hb:IsTup s.heap b ws.toArray) (hv:vs≠[])
    (h1:ws=[]→Q (.ref t) s) (h2:ws≠[]→Q (.ref s.heap.objs.size) { s with heap:=s.heap.push { cls := .type "tuple",data := .seq (vs++ws).toArray } })
    (hsz:vs.length+ws.length≤sizeLine):wpAny (model prog w) A (binaryOp .Add (.ref t) (.ref b)) Q E s:=by
  obtain ⟨⟨cls,dd,data,sl⟩,ho,hc,n,hd⟩:=id ht
  obtain ⟨⟨cls2,dd2,data2,sl2⟩,ho2,hc2,n2,hd2⟩:=id hb
  simp only at hc hd hc2 hd2
  subst hc hd hc2 hd2
  have e:vs.toArray++ws.toArray=(vs++ws).toArray:=by simp
  by_cases hw:ws=[]
  · exact concat_meets ⟨_,ho,rfl⟩ ⟨_,ho2,rfl⟩ noFill_tuple_add seq_tuple_add PySem.F.slot_tuple_add PySem.F.entry_tuple_add (PySem.F.args_tuple_add_2 _ _)
      (tuple_addW1 t b vs.toArray ws.toArray n n2 dd dd2 sl sl2 (by simpa using hv) (by simp [hw])) ⟨ho,ho2,h1 hw⟩
  · refine concat_meets ⟨_,ho,rfl⟩ ⟨_,ho2,rfl⟩ noFill_tuple_add seq_tuple_add PySem.F.slot_tuple_add PySem.F.entry_tuple_add (PySem.F.args_tuple_add_2 _ _)
      (tuple_addW2 t b vs.toArray ws.toArray n n2 dd dd2 sl sl2 (by simpa using hv) (by simpa using hw) (by rw [List.size_toArray,List.size_toArray];exact hsz)) ⟨ho,ho2,?_⟩
    rw [e]
    exact h2 hw
noncomputable def sIx (n d:Nat):Option Int→Nat
  | none=>d
  | some v=>if v<0 then (v+(n:Int)).toNat else min v.toNat n
theorem sIx_none (n d:Nat):sIx n d none=d:=rfl
theorem sIx_nat (n d k:Nat):sIx n d (some (k:Int))=min k n:=by
  show (if (k:Int)<0 then ((k:Int)+(n:Int)).toNat else min (k:Int).toNat n)=min k n
  rw [if_neg (by omega),Int.toNat_natCast]
theorem sIx_le (n d:Nat) (hd:d≤n) (o:Option Int):sIx n d o≤n:=by
  cases o with
  | none=>exact hd
  | some v =>
    show (if v<0 then (v+(n:Int)).toNat else min v.toNat n)≤n
    by_cases hv:v<0
    · rw [if_pos hv];omega
    · rw [if_neg hv];exact Nat.min_le_right _ _
end
end HT
namespace L2
open PySem PySem.Spec PyProof.Rows
noncomputable abbrev TO:=St→Hp→(Option Int→Hp→Prop)→Prop
noncomputable def PO (X:Cx) (e:Option Expr) (t:TO):Prop :=
  ∀ (pins:List (Addr×Obj)) (s:Shared) (σ:St) (H:Hp) (Q:Option Int→Hp→Prop),Inv X pins σ H s→t σ H Q →
    wpAny (model X.prog X.w) X.A (evalPart e X.env) (fun u s'=>∃ o H',Inv X pins σ H' s'∧IsPart u o∧Q o H') X.xe s
noncomputable def zg5:TO:=fun _ H Q=>Q none H
noncomputable def zpx (t:TE):TO:=fun σ H Q=>t σ H fun x H1=>∃ i,x = .int i∧Q (some i) H1
section
variable {X:Cx}{e:Expr}{te:TE}{lo hi:Option Expr}{tl th:TO}{pos p2:Pos}
theorem zqw:PO X none zg5:=by
  intro pins s σ H Q I h
  rw [evalPart_none]
  exact wpAny_pure ⟨none,H,I,.none,h⟩
theorem zct (h:PE X e te):PO X (some e) (zpx te):=by
  intro pins s σ H Q I hw
  rw [evalPart_some]
  refine thn (h pins s σ H _ I hw) fun u s1 ⟨x,H1,I1,r1,q1⟩=>?_
  obtain ⟨i,rfl,q⟩:=q1
  obtain ⟨t,rfl⟩:=r1
  exact ⟨some i,H1,I1,.int i t,q⟩
noncomputable def SlR (X:Cx) (r:V→Option Int→Option Int→Hp→VK→Prop):Prop :=
  ∀ (pins:List (Addr×Obj)) (s:Shared) (σ:St) (H:Hp) (x:V) (v vl vu:Value) (lo hi:Option Int) (sl:Addr) (Q:VK),Inv X pins σ H s→RelV x v→s.heap.IsSliceOf sl vl vu .none→IsPart vl lo→IsPart vu hi→r x lo hi H Q →
    ∃ T id,typeLookup (.type T) "__getitem__"=pure (some (.builtin id))∧s.TypeIs v T∧wpAny (model X.prog X.w) X.A (getItem v (.ref sl)) (EP X pins σ Q) X.xe s
theorem SlR.or {r r':V→Option Int→Option Int→Hp→VK→Prop} (h:SlR X r) (h':SlR X r'):SlR X (fun x lo hi H Q=>r x lo hi H Q∨r' x lo hi H Q):=by
  intro pins s σ H x v vl vu lo hi sl Q I rx hs pl pu q
  rcases q with q | q
  · exact h pins s σ H x v vl vu lo hi sl Q I rx hs pl pu q
  · exact h' pins s σ H x v vl vu lo hi sl Q I rx hs pl pu q
noncomputable def tSl (r:V→Option Int→Option Int→Hp→VK→Prop) (te:TE) (tl th:TO):TE:=fun σ H Q=>te σ H fun x H1=>tl σ H1 fun l H2=>th σ H2 fun u H3=>r x l u H3 Q
theorem zd3 {r:V→Option Int→Option Int→Hp→VK→Prop} (hr:SlR X r) (he:PE X e te) (hl:PO X lo tl) (hu:PO X hi th):PE X (.Subscript e (.Slice lo hi none p2) pos) (tSl r te tl th):=by
  intro pins s σ H Q I h
  refine Subscript_ (thn (he pins s σ H _ I h) fun v s1 ⟨x,H1,I1,r1,q1⟩=>?_)
  refine wpAny_Slice (thn (hl pins s1 σ H1 _ I1 q1) fun vl s2 ⟨l,H2,I2,pl,q2⟩=>thn (hu pins s2 σ H2 _ I2 q2) fun vu s3 ⟨u,H3,I3,pu,q3⟩=>?_)
  rw [evalPart_none]
  refine wpAny_pure ?_
  have I4:Inv X pins σ H3 { s3 with heap:=s3.heap.push { cls := .type "slice",data := .fields #[vl,vu,.none] } }:=I3.kept (t':=s3.toks) fun b ob q=>Heap.get?_push_of_some _ q
  obtain ⟨T,id,hT,ht,hg⟩:=hr pins { s3 with heap:=s3.heap.push { cls := .type "slice",data := .fields #[vl,vu,.none] } } σ H3 x v vl vu l u s3.heap.objs.size Q I4 r1 (Heap.IsSliceOf.new ..) pl pu q3
  show wpAny (model X.prog X.w) X.A (subscriptTail e (.Slice lo hi none p2) v (.ref s3.heap.objs.size)) (EP X pins σ Q) X.xe { s3 with heap:=s3.heap.push { cls := .type "slice",data := .fields #[vl,vu,.none] } }
  exact tail_any (ops:=[.ref s3.heap.objs.size,v]) ht hT hg (by with_unfolding_all rfl)
noncomputable def cutV (xs:List V) (lo hi:Option Int):List V:=(xs.drop (HT.sIx xs.length 0 lo)).take (HT.sIx xs.length xs.length hi - HT.sIx xs.length 0 lo)
theorem zm3 (xs:List V) (lo hi:Option Int):(cutV xs lo hi).length≤xs.length:=by
  unfold cutV
  rw [List.length_take,List.length_drop]
  omega
noncomputable def zys (K:PySem.W.Frag):R2:=fun x y H Q=>∃ a b xs ys,x = .ref a∧y = .ref b∧SqT K H a xs∧SqT K H b ys∧xs≠[]∧xs.length+ys.length≤sizeLine ∧
  (ys=[]→Q (.ref a) H)∧(ys≠[]→∀ p,H p=none→Q (.ref p) (upd H p (.tup (xs++ys))))
theorem Vals.nil_iff {xs:List V}{us:List Value} (r:Vals xs us):us=[]↔xs=[]:=by
  cases r with
  | nil=>simp
  | cons _ _=>simp
theorem zv6:OpR X (binaryOp .Add) (zys X.K):=by
  intro pins s σ H x y v u Q I rx ry h
  obtain ⟨a,b,xs,ys,rfl,rfl,ha,hb,hx,hz,q1,q2⟩:=h
  cases rx
  cases ry
  obtain ⟨its,r1,p1,_⟩:=I.tuple ha
  obtain ⟨its2,r2,p2,_⟩:=I.tuple hb
  refine HT.cat_tup p1 p2 (fun z=>hx (r1.nil_iff.mp z)) (fun z=>⟨.ref a,H,I,rfl,q1 (r2.nil_iff.mp z)⟩) (fun z=>?_) (by rw [← r1.length,← r2.length];exact hz)
  refine ⟨.ref s.heap.objs.size,_,I.laid (t':=s.toks) (o := .tup (xs++ys)) (fun b ob q=>Heap.get?_push_of_some _ q) (Nat.le_refl _) ?_,rfl,q2 (fun w=>z (r2.nil_iff.mpr w)) _ (I.hok.fresh (Nat.le_refl _))⟩
  exact ⟨by rw [List.length_append];exact hz,_,r1.append r2,IsTup.new _ _⟩
end
end L2
namespace L2
open PySem PySem.Spec PyProof.Rows
noncomputable def ixN (n:Nat) (i:Int):Option Nat:=if 0≤i then (if i<n then some i.toNat else none) else if -(n:Int)≤i then some (i+n).toNat else none
noncomputable def atI {α:Type} (xs:List α) (i:Int):Option α:=(ixN xs.length i).bind fun j=>xs[j]?
theorem zwi {n:Nat}{i:Int}{j:Nat} (h:ixN n i=some j):seqIndex? i n=some j∧j<n ∧ -(n:Int)≤i∧i<n:=by
  unfold ixN at h
  by_cases h0:0≤i
  · rw [if_pos h0] at h
    by_cases h1:i<n
    · rw [if_pos h1] at h
      have e:i.toNat=j:=Option.some.inj h
      exact ⟨by rw [seqIndex_of h0 h1,e],by omega,by omega,h1⟩
    · rw [if_neg h1] at h;cases h
  · rw [if_neg h0] at h
    by_cases h1 : -(n:Int)≤i
    · rw [if_pos h1] at h
      have e:(i+n).toNat=j:=Option.some.inj h
      exact ⟨by rw [seqIndex_neg (by omega) h1,e],by omega,h1,by omega⟩
    · rw [if_neg h1] at h;cases h
theorem zna {α:Type}{xs:List α}{i:Int}{v:α} (h:atI xs i=some v) : ∃ j,seqIndex? i xs.length=some j∧xs[j]? = some v∧j<xs.length ∧ -(xs.length:Int)≤i∧i<xs.length:=by
  unfold atI at h
  cases e:ixN xs.length i with
  | none=>rw [e] at h;cases h
  | some j =>
    rw [e] at h
    obtain ⟨h1,h2,h3,h4⟩:=zwi e
    exact ⟨j,h1,h,h2,h3,h4⟩
theorem zce {α:Type}{xs:List α}{j:Nat}{v:α} (h:xs[j]? = some v):atI xs (j:Int)=some v:=by
  have hj:j<xs.length:=(List.getElem?_eq_some_iff.mp h).1
  have e:ixN xs.length (j:Int)=some j:=by
    unfold ixN
    rw [if_pos (by omega),if_pos (by omega)];simp
  unfold atI;rw [e];exact h
noncomputable def zw4 (b:Expr):Prop:=∀ o i,subscripted b false o i=operate [o,i] (getItem o i)
noncomputable def IxR (X:Cx) (r:R2):Prop :=
  ∀ (value slice:Expr) (pins:List (Addr×Obj)) (s:Shared) (σ:St) (H:Hp) (x y:V) (v u:Value) (Q:VK),Inv X pins σ H s→RelV x v→RelV y u→r x y H Q →
    subscripted slice false v u=operate [v,u] (getItem v u)→wpAny (model X.prog X.w) X.A (subscriptTail value slice v u) (EP X pins σ Q) X.xe s
noncomputable def MtR (X:Cx) (id:String) (r:V→List V→Hp→VK→Prop):Prop :=
  ∀ (pins:List (Addr×Obj)) (s:Shared) (σ:St) (H:Hp) (x:V) (xs:List V) (v:Value) (us:List Value) (Q:VK),Inv X pins σ H s→RelV x v→Vals xs us→r x xs H Q →
    wpAny (model X.prog X.w) X.A (call (.builtin id) (v::us)) (EP X pins σ Q) X.xe s
section
variable {X:Cx}{a b:Expr}{ta tb:TE}{pos:Pos}
theorem IxR.or {r r':R2} (h:IxR X r) (h':IxR X r'):IxR X (fun x y H Q=>r x y H Q∨r' x y H Q):=by
  intro value slice pins s σ H x y v u Q I rx ry q hs
  rcases q with q | q
  · exact h value slice pins s σ H x y v u Q I rx ry q hs
  · exact h' value slice pins s σ H x y v u Q I rx ry q hs
theorem MtR.or {id:String}{r r':V→List V→Hp→VK→Prop} (h:MtR X id r) (h':MtR X id r'):MtR X id (fun x xs H Q=>r x xs H Q∨r' x xs H Q):=by
  intro pins s σ H x xs v us Q I rx rs q
  rcases q with q | q
  · exact h pins s σ H x xs v us Q I rx rs q
  · exact h' pins s σ H x xs v us Q I rx rs q
theorem zbw {r:R2} (hr:IxR X r) (ha:PE X a ta) (hb:PE X b tb) (hs:zw4 b):PE X (.Subscript a b pos) (tOp r ta tb):=by
  intro pins s σ H Q I h
  exact Subscript_ (binT ha hb I h fun v u s2 x y H2 I2 rx ry q=>hr a b pins s2 σ H2 x y v u Q I2 rx ry q (hs _ _))
noncomputable def rIxL (K:PySem.W.Frag):R2:=fun x y H Q=>∃ p xs i v,x = .ref p∧y = .int i∧SqL K H p xs∧atI xs i=some v∧Q v H
noncomputable def rIxT (K:PySem.W.Frag):R2:=fun x y H Q=>∃ p xs i v,x = .ref p∧y = .int i∧SqT K H p xs∧atI xs i=some v∧Q v H
noncomputable def rIxS:R2:=fun x y H Q=>∃ z i c,x = .str z∧y = .int i∧z.length≤sizeLine∧atI z.cps.toList i=some c∧Q (.str ⟨#[c]⟩) H
theorem zbm:IxR X (rIxL X.K):=by
  intro value slice pins s σ H x y v u Q I rx ry h hs
  obtain ⟨p,xs,i,z,rfl,rfl,hq,he,q⟩:=h
  cases rx
  obtain ⟨t,rfl⟩:=ry
  obtain ⟨its,r,pl,hz⟩:=I.list hq
  obtain ⟨j,h1,h2,h3,h4,h5⟩:=zna he
  obtain ⟨w,ew,rw'⟩:=r.get h2
  have hl:=r.length
  have hn:=ze6
  have fin:EP X pins σ Q w s:=⟨z,H,I,rw',q⟩
  by_cases h0:0≤i
  · have hj:i.toNat=j:=by
      rw [seqIndex_of h0 h5] at h1
      exact Option.some.inj h1
    exact item_listR pl.isList h0 (by omega) (by rw [hj];simpa using ew) fin hs
  · have hj:(i+(its.toArray.size:Int)).toNat=j:=by
      rw [seqIndex_neg (by omega) h4] at h1
      rw [List.size_toArray,← hl]
      exact Option.some.inj h1
    exact subscriptTail_builtinR (x:=w) pl.isList.typeIs slot_list_getitem.lookup
      (wpAny_getItem_list_neg (Q:=fun r s'=>r=w∧EP X pins σ Q r s') pl.isList (by omega) (by rw [List.size_toArray] <;> omega) (by omega) (by rw [hj];simpa using ew) ⟨rfl,fin⟩) hs
theorem zcz:IxR X (rIxT X.K):=by
  intro value slice pins s σ H x y v u Q I rx ry h hs
  obtain ⟨p,xs,i,z,rfl,rfl,hq,he,q⟩:=h
  cases rx
  obtain ⟨t,rfl⟩:=ry
  obtain ⟨its,r,pl,hz⟩:=I.tuple hq
  obtain ⟨j,h1,h2,h3,h4,h5⟩:=zna he
  obtain ⟨w,ew,rw'⟩:=r.get h2
  have hl:=r.length
  have hn:=ze6
  have fin:EP X pins σ Q w s:=⟨z,H,I,rw',q⟩
  exact subscriptTail_builtinR (x:=w) pl.typeIs slot_tuple_getitem.lookup
    (getItem_tuple (j:=j) (Q:=fun r s'=>r=w∧EP X pins σ Q r s') pl (by omega) (by omega) (by rw [List.size_toArray,← hl];exact h1) (by simpa using ew) ⟨rfl,fin⟩) hs
theorem zuy:IxR X rIxS:=by
  intro value slice pins s σ H x y v u Q I rx ry h hs
  obtain ⟨z,i,c,rfl,rfl,hz,he,q⟩:=h
  obtain ⟨t,rfl⟩:=rx
  obtain ⟨t',rfl⟩:=ry
  obtain ⟨j,h1,h2,h3,h4,h5⟩:=zna he
  have hl:z.cps.toList.length=z.length:=by simp [Str.length]
  rw [hl] at h1 h4 h5
  have hn:=ze6
  exact tail_any (typeIs_str s z t) slot_str_getitem.lookup (getItem_str (c:=c) (by
    have e1:decide (i < -(2 ^ 63:Int))=false:=decide_eq_false (by omega)
    have e2:decide (i≥2 ^ 63)=false:=decide_eq_false (by omega)
    rw [e1,e2,Bool.or_false]) (by rw [h1];simpa using h2) ⟨.str ⟨#[c]⟩,H,I.tok _,⟨_,rfl⟩,q⟩) hs
theorem zkp (lo hi:Option Int) (n:Nat):(sliceBounds lo hi none n).1=((HT.sIx n 0 lo:Nat):Int)∧(sliceBounds lo hi none n).2.1=((HT.sIx n n hi:Nat):Int)∧(sliceBounds lo hi none n).2.2=1:=by
  refine ⟨?_,?_,rfl⟩
  · cases lo with
    | none=>simp [sliceBounds,HT.sIx]
    | some i =>
      simp only [sliceBounds,HT.sIx,Option.getD_none,show (1:Int) > 0 by decide,if_true]
      by_cases h:i<0
      · simp only [h,if_true] <;> omega
      · simp only [h,if_false] <;> omega
  · cases hi with
    | none=>simp [sliceBounds,HT.sIx]
    | some i =>
      simp only [sliceBounds,HT.sIx,Option.getD_none,show (1:Int) > 0 by decide,if_true]
      by_cases h:i<0
      · simp only [h,if_true] <;> omega
      · simp only [h,if_false] <;> omega
theorem zji (its:List Value) (lo hi:Option Int):slicePick its.toArray lo hi none=((its.drop (HT.sIx its.length 0 lo)).take (HT.sIx its.length its.length hi - HT.sIx its.length 0 lo)).toArray:=by
  obtain ⟨h1,h2,h3⟩:=zkp lo hi its.toArray.size
  unfold slicePick
  rw [h1,h2,h3]
  simp only [sliceRange_one,pick_run,List.size_toArray] <;> rfl
noncomputable def rSlL (K:PySem.W.Frag):V→Option Int→Option Int→Hp→VK→Prop:=fun x lo hi H Q=>∃ a xs,x = .ref a∧SqL K H a xs∧∀ p,H p=none→Q (.ref p) (upd H p (.lst (cutV xs lo hi)))
theorem zjj:SlR X (rSlL X.K):=by
  intro pins s σ H x v vl vu lo hi sl Q I rx hs pl pu h
  obtain ⟨a,xs,rfl,hx,q⟩:=h
  cases rx
  obtain ⟨its,r,ht,hz⟩:=I.list hx
  have hlen:=r.length
  refine ⟨"list",_,slot_list_getitem.lookup,ht.isList.typeIs,?_⟩
  refine wpAny_getItem_list_slice ht.isList hs pl pu .none (by simp) ?_ (by rw [List.size_toArray] <;> omega)
  rw [zji,← hlen]
  refine ⟨.ref s.heap.objs.size,_,I.laid (t':=s.toks) (o := .lst (cutV xs lo hi)) (fun b ob q=>Heap.get?_push_of_some _ q) (Nat.le_refl _) ?_,rfl,q _ (I.hok.fresh (Nat.le_refl _))⟩
  exact ⟨Nat.le_trans (zm3 xs lo hi) hz,_,0,(r.drop (HT.sIx xs.length 0 lo)).take (HT.sIx xs.length xs.length hi - HT.sIx xs.length 0 lo),Heap.get?_push_size _ rfl⟩
noncomputable def zib:V→Bool
  | .non=>true
  | .bl _=>true
  | .int _=>true
  | .str _=>true
  | _=>false
noncomputable def eqV:V→V→Bool
  | .non,.non=>true
  | .bl a,.bl b=>a == b
  | .bl a,.int b=>(if a then 1 else 0) == b
  | .int a,.bl b=>a == (if b then 1 else 0)
  | .int a,.int b=>a == b
  | .str a,.str b=>a == b
  | _,_=>false
theorem zyc {A:Around}{s:Shared}{y x:V}{u v:Value} (ry:RelV y u) (rx:RelV x v) (fy:zib y=true) (fx:zib x=true):SeqAt.EqAt A s u v (eqV y x):=by
  cases y with
  | non =>
    cases ry
    cases x with
    | non=>cases rx;exact SeqAt.EqAt.same _
    | bl b=>cases rx;exact SeqAt.EqAt.none_bool b
    | int b=>obtain ⟨t,rfl⟩:=rx;exact SeqAt.EqAt.none_int b t
    | str b=>obtain ⟨t,rfl⟩:=rx;exact SeqAt.EqAt.none_str b t
    | _=>exact absurd (show false=true from fx) Bool.false_ne_true
  | bl a =>
    cases ry
    cases x with
    | non=>cases rx;exact SeqAt.EqAt.bool_none a
    | bl b=>cases rx;exact SeqAt.EqAt.bool_bool a b
    | int b=>obtain ⟨t,rfl⟩:=rx;exact SeqAt.EqAt.bool_int a b t
    | str b=>obtain ⟨t,rfl⟩:=rx;exact SeqAt.EqAt.bool_str a b t
    | _=>exact absurd (show false=true from fx) Bool.false_ne_true
  | int a =>
    obtain ⟨t',rfl⟩:=ry
    cases x with
    | non=>cases rx;exact SeqAt.EqAt.int_none a t'
    | bl b=>cases rx;exact SeqAt.EqAt.int_bool a t' b
    | int b=>obtain ⟨t,rfl⟩:=rx;exact SeqAt.EqAt.int_int a t' b t
    | str b=>obtain ⟨t,rfl⟩:=rx;exact SeqAt.EqAt.int_str a t' b t
    | _=>exact absurd (show false=true from fx) Bool.false_ne_true
  | str a =>
    obtain ⟨t',rfl⟩:=ry
    cases x with
    | non=>cases rx;exact SeqAt.EqAt.str_none a t'
    | bl b=>cases rx;exact SeqAt.EqAt.str_bool a t' b
    | int b=>obtain ⟨t,rfl⟩:=rx;exact SeqAt.EqAt.str_int a t' b t
    | str b=>obtain ⟨t,rfl⟩:=rx;exact SeqAt.EqAt.str_str a t' b t
    | _=>exact absurd (show false=true from fx) Bool.false_ne_true
  | _=>exact absurd (show false=true from fy) Bool.false_ne_true
noncomputable def eqU (x:V) (u:Value):Bool:=match u with
  | .none=>eqV .non x
  | .bool b=>eqV (.bl b) x
  | .int i _=>eqV (.int i) x
  | .str z _=>eqV (.str z) x
  | _=>false
theorem zu1 {x y:V}{u:Value} (r:RelV y u) (f:zib y=true):eqU x u=eqV y x:=by
  cases y with
  | non=>cases r;rfl
  | bl b=>cases r;rfl
  | int i=>obtain ⟨t,rfl⟩:=r;rfl
  | str z=>obtain ⟨t,rfl⟩:=r;rfl
  | _=>exact absurd (show false=true from f) Bool.false_ne_true
theorem zh6 {x:V} : ∀ {xs:List V}{us:List Value},Vals xs us→xs.all zib=true→us.any (eqU x)=xs.any fun y=>eqV y x
  | _,_,.nil,_=>rfl
  | y::xs,u::us,.cons r t,f=>by
    rw [List.all_cons,Bool.and_eq_true] at f
    rw [List.any_cons,List.any_cons,zu1 r f.1,zh6 t f.2]
theorem ze5 {A:Around}{s:Shared}{x:V}{v:Value} (rx:RelV x v) (fx:zib x=true) : ∀ {xs:List V}{us:List Value},Vals xs us→xs.all zib=true→∀ u∈us,SeqAt.EqAt A s u v (eqU x u)
  | _,_,.nil,_=>fun u hu=>by cases hu
  | y::xs,u::us,.cons r t,f=>fun u' hu=>by
    rw [List.all_cons,Bool.and_eq_true] at f
    rcases List.mem_cons.mp hu with rfl | hu
    · rw [zu1 r f.1];exact zyc r rx f.1 fx
    · exact ze5 rx fx t f.2 u' hu
noncomputable def inV (x:V) (xs:List V):Bool:=xs.any fun y=>eqV y x
noncomputable def rIn (K:PySem.W.Frag) (neg:Bool):R2:=fun x y H Q=>∃ p xs,y = .ref p∧(SqL K H p xs∨SqT K H p xs)∧zib x=true∧xs.all zib=true∧Q (.bl (if neg then !inV x xs else inV x xs)) H
theorem zdp:OpR X (compareOp .In) (rIn X.K false):=by
  intro pins s σ H x y v u Q I rx ry h
  obtain ⟨p,xs,rfl,hq,fx,fs,q⟩:=h
  cases ry
  rcases hq with hq | hq
  · obtain ⟨its,r,pl,hz⟩:=I.list hq
    refine SeqAt.in_listAt (eqU x) pl.isList (fun w hw=>ze5 rx fx r fs w (by simpa using hw)) ⟨.bl _,H,I,rfl,?_⟩
    rw [show its.toArray.any (eqU x)=its.any (eqU x) by simp,zh6 r fs]
    exact q
  · obtain ⟨its,r,pl,hz⟩:=I.tuple hq
    refine SeqAt.in_tupleAt (eqU x) pl (fun w hw=>ze5 rx fx r fs w (by simpa using hw)) ⟨.bl _,H,I,rfl,?_⟩
    rw [show its.toArray.any (eqU x)=its.any (eqU x) by simp,zh6 r fs]
    exact q
theorem zdo:OpR X (compareOp .NotIn) (rIn X.K true):=by
  intro pins s σ H x y v u Q I rx ry h
  obtain ⟨p,xs,rfl,hq,fx,fs,q⟩:=h
  cases ry
  rcases hq with hq | hq
  · obtain ⟨its,r,pl,hz⟩:=I.list hq
    refine SeqAt.notIn_listAt (eqU x) pl.isList (fun w hw=>ze5 rx fx r fs w (by simpa using hw)) ⟨.bl _,H,I,rfl,?_⟩
    rw [show its.toArray.any (eqU x)=its.any (eqU x) by simp,zh6 r fs]
    exact q
  · obtain ⟨its,r,pl,hz⟩:=I.tuple hq
    refine SeqAt.notIn_tupleAt (eqU x) pl (fun w hw=>ze5 rx fx r fs w (by simpa using hw)) ⟨.bl _,H,I,rfl,?_⟩
    rw [show its.toArray.any (eqU x)=its.any (eqU x) by simp,zh6 r fs]
    exact q
theorem zbe:zeu X (.builtin "len") (fun xs H Q=>∃ p ys,xs=[.ref p]∧(SqL X.K H p ys∨SqT X.K H p ys)∧Q (.int ys.length) H):=by
  intro pins s σ H xs us Q I r h
  obtain ⟨p,ys,rfl,hq,q⟩:=h
  obtain ⟨u,rfl,rx⟩:=zlw r
  cases rx
  have hn:=ze6
  rcases hq with hq | hq
  · obtain ⟨its,r',pl,hz⟩:=I.list hq
    have hlen:=r'.length
    exact Calls.call_len_list pl.isList (by simp only [List.size_toArray] <;> omega) ⟨.int ys.length,H,I.tok _,⟨s.toks+1,by rw [List.size_toArray,hlen]⟩,q⟩
  · obtain ⟨its,r',pl,hz⟩:=I.tuple hq
    have hlen:=r'.length
    exact len_tuple pl (by simp only [List.size_toArray] <;> omega) ⟨.int ys.length,H,I.tok _,⟨s.toks+1,by rw [List.size_toArray,hlen]⟩,q⟩
theorem zbd:zeu X (.builtin "len") (fun xs H Q=>∃ z,xs=[.str z]∧z.length≤sizeLine∧Q (.int z.length) H):=by
  intro pins s σ H xs us Q I r h
  obtain ⟨z,rfl,hz,q⟩:=h
  obtain ⟨u,rfl,t,rfl⟩:=zlw r
  have hn:=ze6
  exact len_str (by omega) ⟨.int z.length,H,I.tok _,⟨_,rfl⟩,q⟩
theorem zeu.or {f:Value}{r r':List V→Hp→VK→Prop} (h:zeu X f r) (h':zeu X f r'):zeu X f (fun xs H Q=>r xs H Q∨r' xs H Q):=by
  intro pins s σ H xs us Q I rs q
  rcases q with q | q
  · exact h pins s σ H xs us Q I rs q
  · exact h' pins s σ H xs us Q I rs q
theorem zj2:zeu X (.type "tuple") (fun xs H Q=>∃ p ys,xs=[.ref p]∧((SqL X.K H p ys∧∀ l,H l=none→Q (.ref l) (upd H l (.tup ys)))∨(SqT X.K H p ys∧Q (.ref p) H))):=by
  intro pins s σ H xs us Q I r h
  obtain ⟨p,ys,rfl,h⟩:=h
  obtain ⟨u,rfl,rx⟩:=zlw r
  cases rx
  rcases h with ⟨hq,q⟩ | ⟨hq,q⟩
  · obtain ⟨its,r',pl,hz⟩:=I.list hq
    have hlen:=r'.length
    refine call_tuple_list pl.isList (fun h' kp=>?_) (by simp only [List.size_toArray] <;> omega)
    have I1:Inv X pins σ H { s with heap:=h' }:=I.kept (t':=s.toks) kp
    have I2:Inv X pins σ (upd H h'.objs.size (.tup ys)) { s with heap:=h'.push { cls := .type "tuple",data := .seq its.toArray } } :=
      I1.laid (t':=s.toks) (fun b o e=>Heap.get?_push_of_some _ e) (Nat.le_refl _) (show zbp X.prog X.w _ _ _ (.tup ys) from ⟨hz,its,r',IsTup.new _ _⟩)
    exact ⟨.ref h'.objs.size,_,I2,rfl,q _ (I1.hok.fresh (Nat.le_refl _))⟩
  · obtain ⟨its,r',pl,hz⟩:=I.tuple hq
    exact call_tuple_same pl ⟨.ref p,H,I,rfl,q⟩
noncomputable def tyV (K:PySem.W.Frag) (T:String) (x:V) (H:Hp):Prop:=match x with
  | .str _=>T="str"
  | .int _=>T="int"
  | .ref p=>(T="list"∧∃ xs,SqL K H p xs)∨(T="tuple"∧∃ o,K.lookup p=some o∧o.cls = .type "tuple"∧o.dict=none) ∨
      (T="dict"∧((∃ kvs,H p=some (.dK kvs))∨∃ kvs,H p=some (.dT kvs)))∨(T="set"∧∃ S n,H p=some (.set S n))
  | _=>False
theorem zug {pins:List (Addr×Obj)}{σ:St}{H:Hp}{s:Shared}{T:String}{x:V}{v:Value} (I:Inv X pins σ H s) (r:RelV x v) (ty:tyV X.K T x H) :
    s.TypeIs v T∧∀ a,v = .ref a→∃ ob,s.heap.get? a=some ob∧ob.dict=none:=by
  cases x with
  | str z =>
    obtain ⟨t,rfl⟩:=r
    cases (show T="str" from ty)
    exact ⟨typeIs_str s z t,fun _ e=>nomatch e⟩
  | int i =>
    obtain ⟨t,rfl⟩:=r
    cases (show T="int" from ty)
    exact ⟨typeIs_int s i t,fun _ e=>nomatch e⟩
  | ref p =>
    cases r
    rcases ty with ⟨rfl,xs,hq⟩ | ⟨rfl,o,hk,hc,hd⟩ | ⟨rfl,hk⟩ | ⟨rfl,S,n,hk⟩
    · obtain ⟨its,_,pl,_⟩:=I.list hq
      refine ⟨pl.isList.typeIs,fun a e=>?_⟩
      cases e
      obtain ⟨o,n,e,c,hd,_⟩:=pl
      exact ⟨o,e,hd⟩
    · refine ⟨⟨o,I.kIn p o hk,hc⟩,fun a e=>?_⟩
      cases e
      exact ⟨o,I.kIn _ o hk,hd⟩
    · have z : ∃ o,s.heap.get? p=some o∧o.ExactDict:=by
        rcases hk with ⟨kvs,hk⟩ | ⟨kvs,hk⟩
        · obtain ⟨_,_,_,_,o,_,_,e,ex,_⟩:=I.hok p _ hk
          exact ⟨o,e,ex⟩
        · obtain ⟨_,_,_,_,o,_,_,e,ex,_⟩:=I.hok p _ hk
          exact ⟨o,e,ex⟩
      obtain ⟨o,e,ex⟩:=z
      refine ⟨⟨o,e,ex.1⟩,fun a e2=>?_⟩
      cases e2
      exact ⟨o,e,ex.2.1⟩
    · obtain ⟨o,_,_,_,e,ex,_⟩:=I.hok p _ hk
      refine ⟨⟨o,e,ex.1⟩,fun a e2=>?_⟩
      cases e2
      exact ⟨o,e,ex.2.1⟩
  | _=>exact False.elim ty
noncomputable def tBM0 (K:PySem.W.Frag) (T:String) (r:V→List V→Hp→VK→Prop) (to:TE):TE:=fun σ H Q=>to σ H fun x H1=>tyV K T x H1∧r x [] H1 Q
noncomputable def tBM (K:PySem.W.Frag) (T:String) (r:V→List V→Hp→VK→Prop) (to:TE) (t:TA):TE:=fun σ H Q=>to σ H fun x H1=>tyV K T x H1∧t σ H1 fun xs H2=>r x xs H2 Q
variable {o e:Expr}{es:List Expr}{to:TE}{t:TA}{name:Str}{apos cpos:Pos}{T id:String}{r:V→List V→Hp→VK→Prop}
theorem zq3 (pa:PlainAttrs T) (slot:Slot T name id) (hty:typeOf (.builtin id)=pure (.type "method_descriptor")) (hm:MtR X id r) (ho:PE X o to)
    (hbase:attributeBase o name X.env (eval o X.env)=eval o X.env:=by rfl) (hline:(apos.endLine == cpos.line)=true:=by rfl):PE X (.Call (.Attribute o name apos) [] [] cpos) (tBM0 X.K T r to):=by
  intro pins s σ H Q I h
  refine wpAny_Call_method0_late hbase hline (thn (ho pins s σ H _ I h) fun v s1 ⟨x,H1,I1,r1,ty,q1⟩=>?_)
  obtain ⟨h1,h2⟩:=zug I1 r1 ty
  exact ⟨T,id,pa,slot,hty,h1,h2,Calls.callWith_builtin rfl (PySem.evalArgs_none (hm pins s1 σ H1 x [] v [] Q I1 r1 .nil q1))⟩
theorem ze3 (pa:PlainAttrs T) (slot:Slot T name id) (hty:typeOf (.builtin id)=pure (.type "method_descriptor")) (hm:MtR X id r) (ho:PE X o to) (ha:PA X (e::es) t)
    (hbase:attributeBase o name X.env (eval o X.env)=eval o X.env:=by rfl)
    (hfew:((backTo cpos (starEach (e::es) X.env)).all (fun x => !x.1) && (backToKw cpos (keywordEach [] X.env)).all (fun x=>x.1.isSome)
      && decide ((e::es).length+([]:List Keyword).length+(if ([]:List Keyword).isEmpty then 0 else 1)<30))=true:=by rfl)
    (hline:(apos.endLine == cpos.line)=true:=by rfl) (hs:starEach (e::es) X.env=(false,eval e X.env)::starEach es X.env:=by rfl) (hplain:(backTo cpos (starEach es X.env)).any (·.1)=false:=by rfl) :
    PE X (.Call (.Attribute o name apos) (e::es) [] cpos) (tBM X.K T r to t):=by
  intro pins s σ H Q I h
  refine wpAny_Call_method_late hbase hfew hline rfl (thn (ho pins s σ H _ I h) fun v s1 ⟨x,H1,I1,r1,ty,q1⟩=>?_)
  obtain ⟨h1,h2⟩:=zug I1 r1 ty
  refine ⟨T,id,pa,slot,hty,h1,h2,?_⟩
  have hA:=ha cpos pins s1 σ H1 _ I1 q1
  rw [hs] at hA ⊢
  refine Calls.callWith_builtin (by show (false || (backTo cpos (starEach es X.env)).any (·.1))=false;rw [hplain] <;> rfl) (Calls.evalArgs_plain ?_)
  exact thn hA fun us s2 ⟨vs,H2,I2,r2,q2⟩=>hm pins s2 σ H2 x vs v us Q I2 r1 r2 q2
end
end L2
namespace L2
open PySem PySem.Spec PyProof.Rows
noncomputable def MtM (X:Cx) (id:String) (r:V→List V→Hp→VK→Prop):Prop :=
  ∀ (pins:List (Addr×Obj)) (s:Shared) (σ:St) (H:Hp) (x:V) (xs:List V) (v:Value) (us:List Value) (Q:VK),Inv X pins σ H s→RelV x v→Vals xs us→r x xs H Q →
    wpAny (model X.prog X.w) X.A (call (.builtin id) (v::us)) (EP X pins σ Q) X.xe s
theorem Vals.one : ∀ {x:V}{us:List Value},Vals [x] us→∃ u,us=[u]∧RelV x u
  | _,_,.cons r .nil=>⟨_,rfl,r⟩
theorem Vals.two : ∀ {x y:V}{us:List Value},Vals [x,y] us→∃ u v,us=[u,v]∧RelV x u∧RelV y v
  | _,_,_,.cons r (.cons q .nil)=>⟨_,_,rfl,r,q⟩
theorem Vals.zero : ∀ {us:List Value},Vals [] us→us=[]
  | _,.nil=>rfl
theorem Vals.dropLast {xs:List V}{us:List Value} (h:Vals xs us):Vals xs.dropLast us.dropLast:=by
  induction h with
  | nil=>exact .nil
  | cons r t ih =>
    cases t with
    | nil=>exact .nil
    | cons q t'=>exact .cons r ih
theorem Vals.eraseIdx : ∀ {xs:List V}{us:List Value} (i:Nat),Vals xs us→Vals (xs.eraseIdx i) (us.eraseIdx i)
  | _,_,_,.nil => .nil
  | _,_,0,.cons _ t=>t
  | _,_,i+1,.cons r t => .cons r (Vals.eraseIdx i t)
theorem Vals.reverse {xs:List V}{us:List Value} (h:Vals xs us):Vals xs.reverse us.reverse:=by
  induction h with
  | nil=>exact .nil
  | cons r t ih=>rw [List.reverse_cons,List.reverse_cons];exact Vals.append ih (.cons r .nil)
theorem zpf {α:Type} (l:List α):l.eraseIdx (l.length - 1)=l.dropLast:=by
  induction l with
  | nil=>rfl
  | cons a r ih =>
    cases r with
    | nil=>rfl
    | cons b r =>
      have e:(a::b::r).length - 1=((b::r).length - 1)+1:=by
        have h1:(a::b::r).length=r.length+2:=rfl
        have h2:(b::r).length=r.length+1:=rfl
        omega
      rw [e,List.eraseIdx_cons_succ,ih]
      all_goals rfl
section
variable {X:Cx}{pins:List (Addr×Obj)}{σ:St}{H:Hp}{s:Shared}{l b:Addr}{xs ys zs:List V}
theorem Inv.lset {its its':List Value}{n:Nat}{f:Array Value→Array Value}{t':Nat} (I:Inv X pins σ H s) (hH:H l=some (.lst xs))
    (e:s.heap.get? l=some { cls := .type "list",data := .seq its.toArray n }) (hf:f its.toArray=its'.toArray) (hv:Vals ys its') (hz:ys.length≤sizeLine) :
    Inv X pins σ (upd H l (.lst ys)) { s with heap:=s.heap.update l (Obj.mapSeq f),toks:=t' }:=by
  have q:=PySem.IsL.update e f
  rw [hf] at q
  refine I.write (x:=l) (e:=l) (by rw [hH];exact trivial) (.inl rfl) (fun b' u hb hu=>(Heap.get?_update_other s.heap (Obj.mapSeq f) (Ne.symm hb)).trans hu) ⟨_,q⟩ ?_
  exact ⟨hz,its',_,hv,q⟩
theorem Inv.lnew {its:List Value}{t':Nat} (I:Inv X pins σ H s) (hv:Vals ys its) (hz:ys.length≤sizeLine) :
    Inv X pins σ (upd H s.heap.objs.size (.lst ys)) { s with heap:=s.heap.push { cls := .type "list",data := .seq its.toArray },toks:=t' } :=
  I.laid (fun _ _ q=>Heap.get?_push_of_some _ q) (Nat.le_refl _) ⟨hz,its,0,hv,Heap.get?_push_size _ rfl⟩
theorem Inv.fresh (I:Inv X pins σ H s):H s.heap.objs.size=none:=I.hok.fresh (Nat.le_refl _)
theorem Inv.lstM (I:Inv X pins σ H s) (hH:H l=some (.lst xs)):xs.length≤sizeLine∧∃ (its:List Value) (n:Nat),Vals xs its∧xs.length=its.length∧s.heap.get? l=some { cls := .type "list",data := .seq its.toArray n }:=by
  obtain ⟨z,its,n,r,e⟩:=I.hok l _ hH
  exact ⟨z,its,n,r,r.length,e⟩
theorem ztl {n:Nat} (h:n≤sizeLine):Builtin.List.listTooLong n=false:=by
  unfold Builtin.List.listTooLong
  exact decide_eq_false (by omega)
end
section
variable {X:Cx}
noncomputable def za7:V→List V→Hp→VK→Prop:=fun x vs H Q=>∃ l xs y,x = .ref l∧vs=[y]∧H l=some (.lst xs)∧xs.length<sizeLine∧Q .non (upd H l (.lst (xs++[y])))
theorem zbj:MtM X "list.append" za7:=by
  intro pins s σ H x vs v us Q I rx rv h
  obtain ⟨l,xs,y,rfl,rfl,hH,hz,q⟩:=h
  cases rx
  obtain ⟨u,rfl,ru⟩:=rv.one
  obtain ⟨z,its,n,r,hl,e⟩:=I.lstM hH
  refine call_meets F.slot_list_append ⟨_,e,rfl⟩ F.entry_list_append (F.args_list_append_2 _ _) (PySem.list_append l its.toArray n u (by rw [List.size_toArray];omega)) ⟨e,?_⟩
  refine ⟨.non,_,I.lset (its':=its++[u]) hH e (by simp) (r.append (.cons ru .nil)) ?_,rfl,q⟩
  rw [List.length_append,List.length_singleton]
  omega
noncomputable def zmb:V→List V→Hp→VK→Prop:=fun x vs H Q=>∃ l b xs zs,x = .ref l∧vs=[.ref b]∧H l=some (.lst xs)∧H b=some (.lst zs)∧xs.length+zs.length≤sizeLine∧Q .non (upd H l (.lst (xs++zs)))
theorem zrf:MtM X "list.extend" zmb:=by
  intro pins s σ H x vs v us Q I rx rv h
  obtain ⟨l,b,xs,zs,rfl,rfl,hH,hB,hz,q⟩:=h
  cases rx
  obtain ⟨u,rfl,ru⟩:=rv.one
  cases ru
  obtain ⟨z,its,n,r,hl,e⟩:=I.lstM hH
  obtain ⟨z2,its2,n2,r2,hl2,e2⟩:=I.lstM hB
  have hsz:its.toArray.size+its2.toArray.size≤sizeLine:=by rw [List.size_toArray,List.size_toArray];omega
  have hlong : ¬ (!its.toArray.isEmpty && Builtin.List.listTooLong (its.toArray.size+its2.toArray.size))=true:=by
    rw [ztl hsz,Bool.and_false]
    exact Bool.false_ne_true
  refine call_meets F.slot_list_extend ⟨_,e,rfl⟩ F.entry_list_extend (F.args_list_extend_2 _ _)
    (AutoSeq1.list_extend_list_list_0 l its.toArray n b its2.toArray n2 hlong (by rw [List.size_toArray];omega) (by omega)) ⟨e,e2,?_⟩
  refine ⟨.non,_,I.lset (its':=its++its2) hH e (by simp) (r.append r2) ?_,rfl,q⟩
  rw [List.length_append]
  omega
noncomputable def rPop:V→List V→Hp→VK→Prop:=fun x vs H Q=>∃ l xs y,x = .ref l∧vs=[]∧H l=some (.lst xs)∧xs[xs.length - 1]? = some y∧Q y (upd H l (.lst xs.dropLast))
theorem zre:MtM X "list.pop" rPop:=by
  intro pins s σ H x vs v us Q I rx rv h
  obtain ⟨l,xs,y,rfl,rfl,hH,hy,q⟩:=h
  cases rx
  have hus:=rv.zero
  subst hus
  obtain ⟨z,its,n,r,hl,e⟩:=I.lstM hH
  obtain ⟨u,hu,ru⟩:=r.get hy
  have hy':its.toArray[its.toArray.size - 1]? = some u:=by
    show its.toArray[its.length - 1]? = some u
    rw [← Array.getElem?_toList,← hl]
    exact hu
  refine call_meets F.slot_list_pop ⟨_,e,rfl⟩ F.entry_list_pop (F.args_list_pop_1 _) (MeetsSeq.list_pop_last l its.toArray n u hy' (by rw [List.size_toArray];omega)) ⟨e,?_⟩
  refine ⟨y,_,I.lset (its':=its.dropLast) hH e ?_ r.dropLast ?_,ru,q⟩
  · show its.toArray.eraseIdxIfInBounds (its.toArray.size - 1)=its.dropLast.toArray
    rw [List.size_toArray,List.eraseIdxIfInBounds_toArray,zpf]
  · rw [List.length_dropLast]
    omega
noncomputable def rCat:R2:=fun x y H Q=>∃ l b xs zs,x = .ref l∧y = .ref b∧H l=some (.lst xs)∧H b=some (.lst zs)∧xs.length+zs.length≤sizeLine∧∀ p,H p=none→Q (.ref p) (upd H p (.lst (xs++zs)))
theorem zxx:OpR X (binaryOp .Add) rCat:=by
  intro pins s σ H x y v u Q I rx ry h
  obtain ⟨l,b,xs,zs,rfl,rfl,hH,hB,hz,q⟩:=h
  cases rx
  cases ry
  obtain ⟨z,its,n,r,hl,e⟩:=I.lstM hH
  obtain ⟨z2,its2,n2,r2,hl2,e2⟩:=I.lstM hB
  refine PySem.P.add_list e e2 ?_ (by rw [List.size_toArray,List.size_toArray];omega)
  have ea:its.toArray++its2.toArray=(its++its2).toArray:=by simp
  rw [ea]
  exact ⟨.ref _,_,I.lnew (t':=s.toks) (r.append r2) (by rw [List.length_append];omega),rfl,q _ I.fresh⟩
end
section
variable {prog:Program}{w:World}{A:Around}{E:Value→Shared→Prop}{s:Shared}
end
section
variable {X:Cx}
end
end L2
namespace L2
open PySem PySem.Spec PyProof.Rows
theorem Vals.ints : ∀ {ns:List Int}{us:List Value},Vals (ns.map V.int) us→IntsAre us ns
  | [],us,h=>by
    rw [List.map_nil] at h
    cases h
    exact IntsAre.nil
  | n::ns,us,h=>by
    rw [List.map_cons] at h
    cases h with
    | cons r t =>
      obtain ⟨k,rfl⟩:=r
      exact IntsAre.cons n k (Vals.ints t)
theorem Vals.strs : ∀ {xs:List Str}{us:List Value},Vals (xs.map V.str) us→StrsAre us xs
  | [],us,h=>by
    rw [List.map_nil] at h
    cases h
    exact StrsAre.nil
  | x::xs,us,h=>by
    rw [List.map_cons] at h
    cases h with
    | cons r t =>
      obtain ⟨k,rfl⟩:=r
      exact StrsAre.cons x k (Vals.strs t)
theorem Vals.bls : ∀ {bs:List Bool}{us:List Value},Vals (bs.map V.bl) us→us=bs.map Value.bool
  | [],us,h=>by
    rw [List.map_nil] at h
    cases h
    rfl
  | b::bs,us,h=>by
    rw [List.map_cons] at h
    cases h with
    | cons r t =>
      cases r
      rw [Vals.bls t,List.map_cons]
theorem Vals.ref1 {a:Addr}{us:List Value} (r:Vals [V.ref a] us):us=[Value.ref a]:=by
  cases r with
  | cons r t =>
    cases t
    cases r
    rfl
section
variable {prog:Program}{w:World}{A:Around}{E:Value→Shared→Prop}{s:Shared}{l:Addr}{its:List Value}{ns:List Int}{Q:Value→Shared→Prop}
theorem zwe (hh:A.handled=none) (hl:s.heap.IsList l its.toArray) (hi:IntsAre its ns) (hne:0<ns.length)
    (h : ∀ h' tk M t',(∀ b o,s.heap.get? b=some o→h'.get? b=some o)→M∈ns→(∀ a,a∈ns→a≤M)→Q (.int M t') { s with heap:=h',toks:=tk }):wpAny (model prog w) A (call (.builtin "max") [.ref l]) Q E s:=by
  obtain ⟨xs,e⟩:=hi.allInts.items
  have hn:numsOf (intItems xs).toList=ns:=by rw [← e];exact hi.numsOf
  rw [nums_intItems] at hn
  subst hn
  rw [e] at hl
  have hsz:0<xs.size:=by simpa using hne
  refine PySem.max_intList hh hl hsz fun v h' tk hv hk=>?_
  obtain ⟨t,rfl⟩:=intItems_at hv
  obtain ⟨h1,h2⟩:=argBest_gt (numAt xs) (xs.size - 1)
  refine h h' tk _ t hk ?_ fun a ha=>?_
  · rw [numAt_eq];exact PySem.getD_mem (by rw [List.length_map,Array.length_toList];omega)
  · obtain ⟨j,hj,rfl⟩:=mem_getD ha
    rw [List.length_map,Array.length_toList] at hj
    rw [← numAt_eq];exact h2 j (by omega)
end
section
variable {X:Cx}
noncomputable def rSum (K:PySem.W.Frag):List V→Hp→VK→Prop:=fun vs H Q=>∃ (a:Addr) (ns:List Int),vs=[V.ref a]∧SqL K H a (ns.map V.int)∧Q (.int ns.sum) H
noncomputable def rMax (K:PySem.W.Frag):List V→Hp→VK→Prop:=fun vs H Q=>∃ (a:Addr) (ns:List Int),vs=[V.ref a]∧SqL K H a (ns.map V.int)∧0<ns.length∧∀ m,m∈ns→(∀ y,y∈ns→y≤m)→Q (.int m) H
theorem zyk (hc:X.calm=true):zeu X (.builtin "max") (rMax X.K):=by
  intro pins s σ H vs us Q I r h
  obtain ⟨a,ns,rfl,hs,hne,q⟩:=h
  obtain ⟨its,rv,hl,_⟩:=I.list hs
  rw [Vals.ref1 r]
  exact zwe (I.ok.hd hc) hl.isList rv.ints hne fun h' tk m t' hk h1 h2=>⟨.int _,H,I.kept hk,⟨_,rfl⟩,q m h1 h2⟩
end
section
variable {X:Cx}
end
section
variable {X:Cx}
end
theorem ztr {prog:Program}{w:World}{A:Around}{E:Value→Shared→Prop}{s:Shared}{l:Addr}{items:Array Value}{Q:Value→Shared→Prop} (hl:s.heap.IsList l items)
    (h : ∀ s₂:Shared,s₂={ s with heap:=s.heap.push { cls := .type "list_iterator",data := .fields #[.ref l,.int 0 0] } } →
      (s₂.heap.IsListIter s.heap.objs.size l 0∧s₂.heap.IsList l items)→l≠s.heap.objs.size→Q (.ref s.heap.objs.size) s₂):wpAny (model prog w) A (pyIter (.ref l)) Q E s:=by
  have hlt:l<s.heap.objs.size:=by obtain ⟨_,e,_⟩:=hl;exact Heap.lt_size e
  exact wpAny_pyIter_list hl (h _ rfl ⟨⟨_,Heap.get?_push_size _ rfl,rfl,rfl⟩,hl.push _⟩ (Nat.ne_of_lt hlt))
theorem zlx {prog:Program}{w:World}{A:Around}{bs:List Bool}{its:List Value} (e:its=bs.map Value.bool) :
    TruthOf prog w A (fun i v=>its.toArray[i]? = some v) (fun i=>bs.getD i false):=fun i v s Q E hv hq=>by
  have hv':its[i]? = some v:=by simpa using hv
  rw [e,List.getElem?_map] at hv'
  obtain ⟨b,hb,rfl⟩:=Option.map_eq_some_iff.mp hv'
  have hg:bs.getD i false=b:=by rw [List.getD_eq_getElem?_getD,hb] <;> rfl
  have hq':Q (bs.getD i false) s:=hq
  rw [hg] at hq'
  exact wpAny_truthy_bool hq'
theorem zls : ∀ bs:List Bool,(List.range bs.length).all (fun i=>bs.getD i false)=bs.all id
  | []=>rfl
  | b::bs=>by
    rw [List.length_cons,List.range_succ_eq_map,List.all_cons,List.all_map,List.all_cons,← zls bs]
    all_goals rfl
section
variable {X:Cx}
noncomputable def rAll (K:PySem.W.Frag):List V→Hp→VK→Prop:=fun vs H Q=>∃ (a:Addr) (bs:List Bool),vs=[V.ref a]∧SqL K H a (bs.map V.bl)∧Q (.bl (bs.all id)) H
theorem zu5 (hc:X.calm=true):zeu X (.builtin "all") (rAll X.K):=by
  intro pins s σ H vs us Q I r h
  obtain ⟨a,bs,rfl,hs,q⟩:=h
  obtain ⟨its,rv,hl,_⟩:=I.list hs
  rw [Vals.ref1 r]
  have hb:=rv.bls
  refine call_all_walk (ztr hl.isList fun s₂ e2 st hne=>?_)
  subst e2
  refine ⟨_,_,_,_,_,_,_,rfl,Walks.list (A:=X.A.in1) (I.ok.hd hc) _ a hne its.toArray,st,zlx hb,fun h' tk hk=>?_⟩
  refine ⟨.bl _,H,I.kept fun b o eo=>hk b o (fun hmem=>?_) (Heap.get?_push_of_some _ eo),?_,q⟩
  · rcases List.mem_cons.mp hmem with e1 | hmem
    · exact absurd (e1 ▸ Heap.lt_size eo) (Nat.lt_irrefl _)
    · cases hmem
  · show Value.bool _=Value.bool _
    rw [← zls,hb,List.size_toArray,List.length_map]
end
section
variable {X:Cx}{pins:List (Addr×Obj)}{σ:St}{H:Hp}{s:Shared}
end
section
variable {X:Cx}
end
end L2
namespace L2
open PySem PySem.Spec PyProof.Rows
noncomputable abbrev zu8 (h:Heap) (c:Addr) (v:Option Value):Prop:=h.IsCell c v
noncomputable def relS (scope sc:Scope):Scope :=
  { scope with names:=scope.names.map fun (n,k)=>if (k == .free && sc.kind == .function && sc.names.lookup n == some .cell) then (n,.cell) else (n,k) }
noncomputable def zbg (cells:List (Str×Addr)):List (Str×NameKind)→List (Str×Addr)→List (Str×Addr)
  | [],acc=>acc
  | (n,k)::r,acc=>if k == .free then zbg cells r ((n,(cells.lookup n).getD 0)::acc) else zbg cells r acc
theorem zf4 (env:Env) (f:Str×NameKind→List (Str×Addr)→Sem (ForInStep (List (Str×Addr))))
    (hf : ∀ n k c,f (n,k) c=if k == .free then (do let a ← cellOf env n;pure (.yield ((n,a)::c))) else pure (.yield c)) :
    ∀ (names:List (Str×NameKind)) (acc:List (Str×Addr)),(∀ y∈names,y.2 = .free→∃ c,env.cells.lookup y.1=some c)→forIn names acc f=pure (zbg env.cells names acc)
  | [],acc,_=>by rw [List.forIn_nil];rfl
  | (n,k)::r,acc,h=>by
    rw [List.forIn_cons,hf]
    have ih:=fun acc=>zf4 env f hf r acc fun y hy=>h y (List.mem_cons_of_mem _ hy)
    unfold zbg
    by_cases hk:(k == NameKind.free)=true
    · rw [if_pos hk,if_pos hk]
      obtain ⟨c,hc⟩:=h (n,k) List.mem_cons_self (by simpa using hk)
      have e:cellOf env n=pure c:=by unfold cellOf;rw [hc]
      rw [e]
      have e2:(env.cells.lookup n).getD 0=c:=by rw [hc];rfl
      rw [e2]
      exact ih _
    · rw [if_neg hk,if_neg hk]
      exact ih _
theorem zpk {scope:Scope}{env:Env} (h : ∀ y∈scope.names,y.2 = .free→∃ c,env.cells.lookup y.1=some c):closureFor scope env=pure (zbg env.cells scope.names []):=by
  simp only [closureFor]
  rw [zf4 env _ (fun n k c=>rfl) scope.names [] h]
  rfl
theorem zfs {α:Type} : ∀ {l:List (Str×α)}{n:Str}{c:α},(n,c)∈l→∃ c',l.lookup n=some c'
  | (k,v)::r,n,c,h=>by
    rw [List.lookup_cons]
    cases hb:n == k with
    | true=>exact ⟨_,rfl⟩
    | false =>
      rcases List.mem_cons.mp h with e | h
      · cases e;simp at hb
      · exact zfs h
theorem zdf {cells:List (Str×Addr)} : ∀ {names:List (Str×NameKind)}{acc:List (Str×Addr)}{n:Str}{c:Addr},(n,c)∈zbg cells names acc→(n,c)∈acc∨((n,.free)∈names∧c=(cells.lookup n).getD 0)
  | [],_,_,_,h => .inl h
  | (m,k)::r,acc,n,c,h=>by
    unfold zbg at h
    split at h
    · rename_i hk
      have hk:k = .free:=by simpa using hk
      rcases zdf h with h | ⟨h1,h2⟩
      · rcases List.mem_cons.mp h with e | h
        · cases e;exact .inr ⟨hk ▸ List.mem_cons_self,rfl⟩
        · exact .inl h
      · exact .inr ⟨List.mem_cons_of_mem _ h1,h2⟩
    · rcases zdf h with h | ⟨h1,h2⟩
      · exact .inl h
      · exact .inr ⟨List.mem_cons_of_mem _ h1,h2⟩
theorem zeq {cells:List (Str×Addr)} : ∀ {names:List (Str×NameKind)}{acc:List (Str×Addr)}{p:Str×Addr},p∈acc→p∈zbg cells names acc
  | [],_,_,h=>h
  | (m,k)::r,acc,p,h=>by
    unfold zbg
    split
    · exact zeq (List.mem_cons_of_mem _ h)
    · exact zeq h
theorem zep {cells:List (Str×Addr)} : ∀ {names:List (Str×NameKind)}{acc:List (Str×Addr)}{n:Str},(n,.free)∈names→(n,(cells.lookup n).getD 0)∈zbg cells names acc
  | (m,k)::r,acc,n,h=>by
    unfold zbg
    rcases List.mem_cons.mp h with e | h
    · cases e
      exact zeq List.mem_cons_self
    · split
      · exact zep h
      · exact zep h
theorem zdw : ∀ {names:List (Str×NameKind)}{h:Heap}{acc:List (Str×Addr)}{x:Str}{c:Addr},(x,c)∈cellsFrom h.objs.size names acc →
    (x,c)∈acc∨((x,.cell)∈names∧h.objs.size≤c∧zu8 (pushCells h names) c none)
  | [],_,_,_,_,h => .inl h
  | (n,k)::r,h,acc,x,c,hm=>by
    unfold cellsFrom at hm
    unfold pushCells
    split at hm
    · rename_i hk
      rw [if_pos hk]
      have hk:k = .cell:=by simpa using hk
      rw [← Heap.size_push h { cls := .type "cell",data := .cell none }] at hm
      rcases zdw hm with hm | ⟨h1,h2,h3⟩
      · rcases List.mem_cons.mp hm with e | hm
        · cases e
          exact .inr ⟨hk ▸ List.mem_cons_self,Nat.le_refl _,_,pushCells_keeps r _ _ _ (Heap.get?_push_size _ rfl),rfl⟩
        · exact .inl hm
      · rw [Heap.size_push] at h2
        exact .inr ⟨List.mem_cons_of_mem _ h1,Nat.le_of_succ_le h2,h3⟩
    · rename_i hk
      rw [if_neg hk]
      rcases zdw hm with hm | ⟨h1,h2,h3⟩
      · exact .inl hm
      · exact .inr ⟨List.mem_cons_of_mem _ h1,h2,h3⟩
theorem zfe : ∀ {names:List (Str×NameKind)}{n:Nat}{acc:List (Str×Addr)}{p:Str×Addr},p∈acc→p∈cellsFrom n names acc
  | [],_,_,_,h=>h
  | (m,k)::r,n,acc,p,h=>by
    unfold cellsFrom
    split
    · exact zfe (List.mem_cons_of_mem _ h)
    · exact zfe h
theorem zh2 : ∀ {names:List (Str×NameKind)}{n:Nat}{acc:List (Str×Addr)}{x:Str},(x,.cell)∈names→∃ c,(x,c)∈cellsFrom n names acc
  | (m,k)::r,n,acc,x,h=>by
    unfold cellsFrom
    rcases List.mem_cons.mp h with e | h
    · cases e
      exact ⟨n,zfe List.mem_cons_self⟩
    · split
      · exact zh2 h
      · exact zh2 h
theorem zh1 : ∀ {names:List (Str×NameKind)}{h:Heap}{acc:List (Str×Addr)}{x y:Str}{c:Addr},(∀ p∈acc,p.2<h.objs.size)→(∀ x y c,(x,c)∈acc→(y,c)∈acc→x=y) →
    (x,c)∈cellsFrom h.objs.size names acc→(y,c)∈cellsFrom h.objs.size names acc→x=y
  | [],_,_,_,_,_,_,hi,h1,h2=>hi _ _ _ h1 h2
  | (n,k)::r,h,acc,x,y,c,hl,hi,h1,h2=>by
    unfold cellsFrom at h1 h2
    split at h1
    · rename_i hk
      rw [if_pos hk] at h2
      rw [← Heap.size_push h { cls := .type "cell",data := .cell none }] at h1 h2
      refine zh1 (h:=h.push _) (fun p hp=>?_) (fun x y c a b=>?_) h1 h2
      · rw [Heap.size_push]
        rcases List.mem_cons.mp hp with rfl | hp
        · exact Nat.lt_succ_self _
        · exact Nat.lt_succ_of_lt (hl p hp)
      · rcases List.mem_cons.mp a with e | a <;> rcases List.mem_cons.mp b with e' | b
        · cases e;cases e';rfl
        · cases e;exact absurd (hl _ b) (Nat.lt_irrefl _)
        · cases e';exact absurd (hl _ a) (Nat.lt_irrefl _)
        · exact hi _ _ _ a b
    · rename_i hk
      rw [if_neg hk] at h2
      exact zh1 hl hi h1 h2
theorem zmh {M:Model}{A:Around}{E:Value→Shared→Prop}{s:Shared}{scope:Scope}{globals:Addr}{closure:List (Str×Addr)}{qual:Str}{func:Option Addr}{code:Value}{around:Env}{builtins:Addr}{Q:Env→Shared→Prop}
    (h:Q (newEnv scope s.heap.objs.size globals (cellsFrom (s.heap.objs.size+1) scope.names closure) qual func code (some around) builtins)
      { s with heap:=pushCells (s.heap.push { cls := .type "dict",data := .dict #[] }) scope.names }) :
    wpAny M A (newFunctionEnv scope globals closure [] qual func code (some around) builtins) Q E s:=by
  simp only [newFunctionEnv,Option.isSome_some,if_true]
  refine wpAny_bind (wpAny_alloc ?_)
  refine wpAny_bind (wpAny_layCells _ (fun n k c=>rfl) scope.names closure _ _ ?_)
  rw [show ({ s with heap:=s.heap.push { cls := .type "dict",data := .dict #[] } }:Shared).heap.objs.size=s.heap.objs.size+1 from Heap.size_push ..]
  rw [List.forIn_nil]
  exact wpAny_bind (wpAny_pure (wpAny_pure h))
theorem zei {sc:Scope} : ∀ {names:List (Str×NameKind)}{x:Str}{k:NameKind},
    (names.map fun (n,k)=>if (k == NameKind.free && sc.kind == .function && sc.names.lookup n == some .cell) then (n,NameKind.cell) else (n,k)).lookup x=some k →
    ∃ k',names.lookup x=some k'∧(k=k'∨(k' = .free∧k = .cell))
  | [],_,_,h=>by simp at h
  | (n,k₀)::r,x,k,h=>by
    have ih := @zei sc r x k
    have h':List.lookup x ((if (k₀ == NameKind.free && sc.kind == .function && sc.names.lookup n == some .cell)=true then (n,NameKind.cell) else (n,k₀))::(r.map _))=some k:=h
    cases hx:x == n with
    | true =>
      simp only [List.lookup_cons,hx]
      by_cases hc:(k₀ == NameKind.free && sc.kind == .function && sc.names.lookup n == some .cell)=true
      · rw [if_pos hc] at h'
        simp only [List.lookup_cons,hx] at h'
        cases h'
        simp only [Bool.and_eq_true,beq_iff_eq] at hc
        exact ⟨k₀,rfl,.inr ⟨hc.1.1,rfl⟩⟩
      · rw [if_neg hc] at h'
        simp only [List.lookup_cons,hx] at h'
        cases h'
        exact ⟨_,rfl,.inl rfl⟩
    | false =>
      simp only [List.lookup_cons,hx]
      by_cases hc:(k₀ == NameKind.free && sc.kind == .function && sc.names.lookup n == some .cell)=true
      · rw [if_pos hc] at h'
        simp only [List.lookup_cons,hx] at h'
        exact ih h'
      · rw [if_neg hc] at h'
        simp only [List.lookup_cons,hx] at h'
        exact ih h'
structure BlkOk (N:List Str) (sc scope:Scope) (own:List (Str×Nat)):Prop where
  kind:scope.kind = .function
  uniq : ∀ y∈scope.names,scope.names.lookup y.1=some y.2
  ix : ∀ p∈own,N[p.2]? = some p.1
  free : ∀ y∈scope.names,y.2 = .free→sc.names.lookup y.1=some .cell∨sc.names.lookup y.1=some .free
  own : ∀ y∈scope.names,y.2 = .local∨y.2 = .cell→y.1∈own.map (·.1)∨y.1∉N
noncomputable def wipe (σ:St):List Nat→St
  | []=>σ
  | v::vs=>(wipe σ vs).set v none
theorem zee (σ:St) : ∀ vs:List Nat,(wipe σ vs).length=σ.length
  | []=>rfl
  | v::vs=>by unfold wipe;rw [List.length_set,zee σ vs]
theorem zgw {σ:St}{i:Nat}{x:V} : ∀ {vs:List Nat},(wipe σ vs)[i]? = some (some x)→σ[i]? = some (some x)∧i∉vs
  | [],h=>⟨h,by simp⟩
  | v::vs,h=>by
    unfold wipe at h
    by_cases hi:v=i
    · subst hi
      by_cases hv:v<(wipe σ vs).length
      · rw [List.getElem?_set_self hv] at h;cases h
      · rw [List.getElem?_eq_none (by simpa using hv)] at h;cases h
    · rw [List.getElem?_set_ne hi] at h
      obtain ⟨h1,h2⟩:=zgw h
      exact ⟨h1,by simp only [List.mem_cons,not_or];exact ⟨fun e=>hi e.symm,h2⟩⟩
noncomputable abbrev Cx.blk (X:Cx) (s:Shared) (H:Hp) (scope:Scope) (cenv:Env) (fp:List Addr):Cx:={ X with s_0:=s,H_0:=H,env:=cenv,outer:=X.stack,ex:=fp,fn:=fun x=>scope.names.lookup x == some .cell,pn:=[],xe:=fun _ _=>False }
section
variable {X:Cx}{pins:List (Addr×Obj)}{σ:St}{H:Hp}{s:Shared}
theorem zm7 {scope:Scope}{own:List (Str×Nat)}{fp:List Addr} (I:Inv X pins σ H s) (ok:BlkOk X.N X.env.scope scope own) (hN:X.N.Nodup) (hfp : ∀ b∈fp,FpOk X pins H b∧b<s.heap.objs.size) :
    Inv (X.blk s H scope (compEnvC scope (cellsFrom (s.heap.objs.size+1) scope.names (zbg X.env.cells scope.names [])) s.heap.objs.size X.env) fp) [] (wipe σ (own.map (·.2))) H { s with heap:=pushCells (s.heap.push { cls := .type "dict",data := .dict #[] }) scope.names }:=by
  have hfree : ∀ y∈scope.names,y.2 = .free→∃ c,X.env.cells.lookup y.1=some c:=fun y hy e=>by
    rcases ok.free y hy e with k | k
    · exact I.ok.has _ (.inl k)
    · exact I.ok.has _ (.inr k)
  generalize hcenv:compEnvC scope (cellsFrom (s.heap.objs.size+1) scope.names (zbg X.env.cells scope.names [])) s.heap.objs.size X.env=cenv
  have kp : ∀ b o,s.heap.get? b=some o→(pushCells (s.heap.push { cls := .type "dict",data := .dict #[] }) scope.names).get? b=some o:=fun b o e=>pushCells_keeps _ _ _ _ (Heap.get?_push_of_some _ e)
  have hL:cenv.locals=s.heap.objs.size:=by rw [← hcenv];rfl
  have hcl:cenv.cells=cellsFrom (s.heap.objs.size+1) scope.names (zbg X.env.cells scope.names []):=by rw [← hcenv];rfl
  have hsc:cenv.scope=relS scope X.env.scope:=by rw [← hcenv];rfl
  rw [← Heap.size_push s.heap { cls := .type "dict",data := .dict #[] }] at hcl
  have cm : ∀ {y c},(y,c)∈zbg X.env.cells scope.names []→X.env.cells.lookup y=some c∧c<s.heap.objs.size:=fun {y c} hm=>by
    rcases zdf hm with hm | ⟨h1,rfl⟩
    · cases hm
    · obtain ⟨c,hc⟩:=hfree _ h1 rfl
      rw [hc]
      obtain ⟨w,z⟩:=I.cell _ _ hc
      exact ⟨rfl,z.lt⟩
  have mem : ∀ {y c},cenv.cells.lookup y=some c→(X.env.cells.lookup y=some c∧c<s.heap.objs.size)∨(s.heap.objs.size+1≤c∧zu8 (pushCells (s.heap.push { cls := .type "dict",data := .dict #[] }) scope.names) c none):=fun {y c} e=>by
    rw [hcl] at e
    rcases zdw (PySem.mem_of_lookup e) with hm | ⟨_,h2,h3⟩
    · exact .inl (cm hm)
    · rw [Heap.size_push] at h2;exact .inr ⟨h2,h3⟩
  have look : ∀ {y},scope.names.lookup y=some .free→∃ c,cenv.cells.lookup y=some c∧X.env.cells.lookup y=some c:=fun {y} hl=>by
    have hy:(y,NameKind.free)∈scope.names:=PySem.mem_of_lookup hl
    obtain ⟨c',e'⟩:=zfs (zfe (names:=scope.names) (n:=(s.heap.push { cls := .type "dict",data := .dict #[] }).objs.size) (zep (cells:=X.env.cells) (acc:=[]) hy))
    rw [← hcl] at e'
    refine ⟨c',e',?_⟩
    rw [hcl] at e'
    rcases zdw (PySem.mem_of_lookup e') with hm | ⟨h1,_,_⟩
    · exact (cm hm).1
    · have:=ok.uniq _ h1
      rw [hl] at this;cases this
  have okB:(X.blk s H scope cenv fp).Ok:=by
    refine ⟨I.ok.mod,by show cenv.scope.kind=_;rw [hsc];exact ok.kind,by show cenv.globals=_;rw [← hcenv];exact I.ok.glob,by show cenv.builtins=_;rw [← hcenv];exact I.ok.blt,by show s.heap.objs.size≤cenv.locals;rw [hL];exact Nat.le_refl _,
      fun y z c e1 e2=>?_,fun y hy=>?_,fun y c z e=>?_,I.ok.hd,I.ok.frames,.inl rfl,fun b hb=>⟨?_,fun y c e z=>?_⟩,I.bs,Nat.le_trans I.ok.bsz I.sz,fun b o e hb=>?_,fun b hb z=>?_,I.stack,I.stkFree⟩
    · have e1:cenv.cells.lookup y=some c:=e1
      have e2:cenv.cells.lookup z=some c:=e2
      rw [hcl] at e1 e2
      refine zh1 (fun p hp=>?_) (fun y z c a b=>I.ok.inj y z c (cm a).1 (cm b).1) (PySem.mem_of_lookup e1) (PySem.mem_of_lookup e2)
      rw [Heap.size_push]
      exact Nat.lt_succ_of_lt (cm (y:=p.1) (c:=p.2) hp).2
    · show ∃ c,cenv.cells.lookup y=some c
      have key : ∀ k,cenv.kindOf y=some k→(k = .cell∨k = .free)→∃ c,cenv.cells.lookup y=some c:=fun k hk hk'=>by
        unfold Env.kindOf at hk
        rw [hsc] at hk
        obtain ⟨k',e,r⟩:=zei hk
        have:k' = .cell∨k' = .free:=by
          rcases r with rfl | ⟨rfl,_⟩
          · exact hk'
          · exact .inr rfl
        rcases this with rfl | rfl
        · obtain ⟨c,hm⟩:=zh2 (n:=(s.heap.push { cls := .type "dict",data := .dict #[] }).objs.size) (acc:=zbg X.env.cells scope.names []) (PySem.mem_of_lookup e)
          obtain ⟨c',e'⟩:=zfs hm
          exact ⟨c',by rw [hcl];exact e'⟩
        · obtain ⟨c,h1,_⟩:=look e
          exact ⟨c,h1⟩
      rcases hy with hy | hy
      · exact key _ hy (.inl rfl)
      · exact key _ hy (.inr rfl)
    · have z:(scope.names.lookup y == some NameKind.cell)=true:=z
      have z:scope.names.lookup y=some .cell:=by simpa using z
      have e:cenv.cells.lookup y=some c:=e
      rw [hcl] at e
      rcases zdw (PySem.mem_of_lookup e) with hm | ⟨_,h2,_⟩
      · rcases zdf hm with hm | ⟨h1,_⟩
        · cases hm
        · have q:=ok.uniq _ h1
          rw [z] at q;cases q
      · rw [Heap.size_push] at h2
        exact Nat.le_of_succ_le h2
    · show b≠cenv.locals
      rw [hL];exact Nat.ne_of_lt (hfp b hb).2
    · have e:cenv.cells.lookup y=some c:=e
      rcases mem e with ⟨h1,_⟩ | ⟨h1,_⟩
      · exact (hfp b hb).1.2.2.2.2.1 y c h1 z
      · have h2:s.heap.objs.size+1≤b:=by rw [← z];exact h1
        exact absurd (Nat.lt_of_lt_of_le (hfp b hb).2 (Nat.le_of_succ_le h2)) (Nat.lt_irrefl _)
    · rcases (hfp b hb).1.2.2.2.1 with z | z
      · exact I.ok.noex b o e z
      · exact absurd (Nat.lt_of_lt_of_le (Heap.lt_size e) (Nat.le_trans I.ok.bsz z)) (Nat.lt_irrefl _)
    · rcases List.mem_cons.mp (I.stkSub b z) with z | z
      · exact (hfp b hb).1.2.1 z
      · exact (hfp b hb).1.2.2.1 z
  refine ⟨okB,rfl,I.bare,Un.kept kp,⟨fun _=>none,?_,fun i y av e1 e2 e3=>?_⟩,fun y c e=>?_,?_,fun y c e=>?_,fun p hp=>?_,I.hok.kept kp,by rw [zee];exact I.len⟩
  · show Heap.Ns _ cenv.locals _
    rw [hL]
    exact Heap.Ns.keeps (Heap.Ns.new ..) fun b o e=>pushCells_keeps _ _ _ _ e
  · obtain ⟨e2,hne⟩:=zgw e2
    have hfr:scope.names.lookup y=some .free∧(cenv.kindOf y=some .cell∨cenv.kindOf y=some .free):=by
      have key : ∀ k,cenv.scope.names.lookup y=some k→k = .local∨k = .cell∨k = .free→scope.names.lookup y=some .free∧(cenv.kindOf y=some .cell∨cenv.kindOf y=some .free):=fun k hk hk'=>by
        have hk0:=hk
        rw [hsc] at hk
        obtain ⟨k',e,r⟩:=zei hk
        have no : ¬ (k' = .local∨k' = .cell):=fun hh=>by
          rcases ok.own _ (PySem.mem_of_lookup e) hh with e' | e'
          · obtain ⟨p,hp,hpy⟩:=List.mem_map.mp e'
            have e3:=ok.ix p hp
            have:p.1=y:=hpy
            rw [this] at e3
            exact hne (List.mem_map.mpr ⟨p,hp,zju hN e3 e1⟩)
          · exact e' (List.mem_of_getElem? e1)
        rcases r with rfl | ⟨rfl,rfl⟩
        · rcases hk' with rfl | rfl | rfl
          · exact absurd (.inl rfl) no
          · exact absurd (.inr rfl) no
          · exact ⟨e,.inr hk0⟩
        · exact ⟨e,.inl hk0⟩
      have e3:Vis cenv.scope y:=e3
      rcases e3 with e3 | e3 | e3
      · exact key _ e3 (.inl rfl)
      · exact key _ e3 (.inr (.inl rfl))
      · exact key _ e3 (.inr (.inr rfl))
    obtain ⟨m,hn,hl⟩:=I.loc
    have hvis:Vis X.env.scope y:=(ok.free _ (PySem.mem_of_lookup hfr.1) rfl).elim (fun k => .inr (.inl k)) (fun k => .inr (.inr k))
    obtain ⟨w,r,q⟩:=hl i y av e1 e2 hvis
    refine ⟨w,r,.inr ⟨hfr.2,?_⟩⟩
    obtain ⟨c,h1,h2⟩:=look hfr.1
    rcases q with ⟨k,_⟩ | ⟨_,c',e',z⟩
    · have k:X.env.scope.names.lookup y=some .local:=k
      rcases ok.free _ (PySem.mem_of_lookup hfr.1) rfl with k' | k' <;> rw [show X.env.scope.names.lookup y=_ from k'] at k <;> cases k
    · rw [h2] at e';cases e'
      exact ⟨c,h1,z.keeps kp⟩
  · have e:cenv.cells.lookup y=some c:=e
    rcases mem e with ⟨h1,_⟩ | ⟨_,z⟩
    · obtain ⟨w,z⟩:=I.cell y c h1
      exact ⟨w,z.keeps kp⟩
    · exact ⟨_,z⟩
  · show H cenv.locals=none
    rw [hL];exact I.hok.fresh (Nat.le_refl _)
  · have e:cenv.cells.lookup y=some c:=e
    rcases mem e with ⟨h1,_⟩ | ⟨h1,_⟩
    · exact I.freeC y c h1
    · exact I.hok.fresh (Nat.le_of_succ_le h1)
  · exact absurd (show p∈([]:List (Addr×Obj))++[] from hp) (by simp)
theorem zyl {E:Value→Shared→Prop}{D:Addr}{xs:List V}{y:V}{v:Value}{Q:Value→Shared→Prop} (I:Inv X pins σ H s) (hD:H D=some (.lst xs)) (hz:xs.length<sizeLine) (r:RelV y v)
    (h : ∀ s',Inv X pins σ (upd H D (.lst (xs++[y]))) s'→Q .none s'):wpAny (model X.prog X.w) X.A (call (.builtin "list.append") [.ref D,v]) Q E s:=by
  obtain ⟨hz',its,n,ri,e⟩:=I.hok D _ hD
  have hl:=ri.length
  refine append_at (hsz:=by rw [List.size_toArray];omega) e fun h' sb ho'=>?_
  refine h { s with heap:=h' } (I.write (t':=s.toks) (by rw [hD];trivial) (.inl rfl) (fun b u hb q=>(sb.2 b hb).trans q) ⟨_,ho'⟩ ⟨by rw [List.length_append];exact hz,its++[v],n+1,ri.append (.cons r .nil),?_⟩)
  rw [ho']
  simp
noncomputable def PTs (X:Cx) (ifs:List Expr) (t:TT):Prop :=
  ∀ (pins:List (Addr×Obj)) (s:Shared) (σ:St) (H:Hp) (Q:Bool→Hp→Prop),Inv X pins σ H s→t σ H Q →
    wpAny (model X.prog X.w) X.A (forIn ifs true fun c r=>if r=true then do let ok ← isTrue c X.env (eval c X.env);pure (ForInStep.yield ok) else pure (ForInStep.yield r)) (TP X pins σ Q) X.xe s
noncomputable def tYes:TT:=fun _ H Q=>Q true H
theorem zhj:PTs X [] tYes:=fun _ _ _ H _ I h=>wpAny_tests_nil ⟨H,I,h⟩
end
theorem thnF {α:Type}{t:Sem α}{Q Q':α→Shared→Prop}{M:Model}{A:Around}{E:Value→Shared→Prop}{s:Shared} (h:wpAny M A t Q (fun _ _=>False) s) (hQ : ∀ a s,Q a s→Q' a s):wpAny M A t Q' E s:=wpAny_mono h hQ fun _ _ z=>False.elim z
theorem zll {prog:Program}{w:World}{A:Around}{R:Result→Shared→Prop}{s:Shared}{elt target iter:Expr}{ifs:List Expr}{scope:Scope}{pos:Pos}{it acc:Value}{env:Env} (I:Nat→Shared→Prop)
    (turn : ∀ n s,I n s→wpAny (model prog w) A (pyNext it) (fun r s₁=>match r with
      | none=>R (.ok .next) s₁
      | some v=>wpAny (model prog w) A (letOwnedTupleGo target it v) (fun _ s₁'=>wpAny (model prog w) A (assign target env v) (fun _ s₂ =>
          wpAny (model prog w) A (forIn ifs true fun c r=>if r=true then do let ok ← isTrue c env (eval c env);pure (ForInStep.yield ok) else pure (ForInStep.yield r)) (fun ok s₃ =>
            if ok=true then wpAny (model prog w) A (eval elt env) (fun x s₄ =>
              wpAny (model prog w) A (call (.builtin "list.append") [acc,x]) (fun _ s₅=>∃ m,m<n∧I m s₅) (notedBy (model prog w) A env fun e s'=>R (.error e) s') s₄) (notedBy (model prog w) A env fun e s'=>R (.error e) s') s₃
            else ∃ m,m<n∧I m s₃) (notedBy (model prog w) A env fun e s'=>R (.error e) s') s₂) (notedBy (model prog w) A env fun e s'=>R (.error e) s') s₁') (notedBy (model prog w) A env fun e s'=>R (.error e) s') s₁) (notedBy (model prog w) A env fun e s'=>R (.error e) s') s)
    (n:Nat) (h:I n s) :
    codeAny (model prog w) A (.compLoop (.ListComp elt [⟨target,iter,ifs,0⟩] scope pos) 0 it acc env) R s:=by
  refine codeAny_loop rfl I (fun n s hI=>?_) n h
  show wpAny _ A ((compTurn (.ListComp elt [⟨target,iter,ifs,0⟩] scope pos) 0 it acc env).onRaise (fun x=>do noteFrame x env;theTreesLotGoes x)) _ _ s
  refine wpAny_noted ?_
  rw [compTurn_list]
  refine wpAny_bind (wpAny_standAt (wpAny_bind (wpAny_mono (turn n s hI) (fun r s₁ h₁=>?_) fun _ _ h'=>h')))
  cases r with
  | none=>exact wpAny_pure h₁
  | some v =>
    refine wpAny_bind (wpAny_mono h₁ (fun _ s₁' h₁'=>?_) fun _ _ h'=>h')
    refine wpAny_bind (wpAny_mono h₁' (fun _ s₂ h₂=>wpAny_bind (wpAny_mono h₂ (fun ok s₃ h₃=>?_) fun _ _ h'=>h')) fun _ _ h'=>h')
    cases ok with
    | false=>exact wpAny_pure ⟨rfl,h₃⟩
    | true =>
      exact wpAny_bind (wpAny_bind (wpAny_mono h₃ (fun x s₄ h₄=>wpAny_bind (wpAny_mono h₄ (fun _ s₅ h₅=>wpAny_pure (wpAny_pure ⟨rfl,h₅⟩)) fun _ _ h'=>h')) fun _ _ h'=>h'))
section
variable {X:Cx}
noncomputable def tLc (wi:TI) (g:TG) (tt:TT) (te:TE) (vs:List Nat):TE:=fun σ H Q=>wi σ H fun J H1=>∀ D,H1 D=none→∃ W:Nat→Nat→Hp→Prop,(∃ m,W 0 m (upd H1 D (.lst [])))∧∀ i m H,W i m H →
  (J.stop i H∧Q (.ref D) H)∨(J.go i H∧∃ Nx:Hp→Prop,(∀ H',Nx H'→∃ m',m'<m∧W (i+1) m' H')∧∀ x H',J.yld i H x H'→g x (wipe σ vs) H' fun σ2 H2=>wipe σ2 vs=wipe σ vs∧tt σ2 H2 fun b H3 =>
    if b=true then te σ2 H3 fun y H4=>∃ acc,H4 D=some (.lst acc)∧acc.length<sizeLine∧Nx (upd H4 D (.lst (acc++[y]))) else Nx H3)
theorem zwg {pins:List (Addr×Obj)}{s:Shared}{σ:St}{H:Hp}{Q:VK}{elt tg iter:Expr}{ifs:List Expr}{scope:Scope}{own:List (Str×Nat)}{pos pos':Pos}{wi:TI}{g:TG}{tt:TT}{te:TE}{use:Option (Value→Sem Unit)}{Qf:Value→Shared→Prop}
    (hc:X.calm=true) (hN:X.N.Nodup) (I:Inv X pins σ H s) (hi:PI X tg iter wi) (ok:BlkOk X.N X.env.scope scope own)
    (hg : ∀ (s:Shared) (H:Hp) (C:Addr) (cl:List (Str×Addr)) (fp:List Addr),PG (X.blk s H scope (compEnvC scope cl C X.env) fp) tg g) (ht : ∀ (s:Shared) (H:Hp) (C:Addr) (cl:List (Str×Addr)) (fp:List Addr),PTs (X.blk s H scope (compEnvC scope cl C X.env) fp) ifs tt)
    (he : ∀ (s:Shared) (H:Hp) (C:Addr) (cl:List (Str×Addr)) (fp:List Addr),PE (X.blk s H scope (compEnvC scope cl C X.env) fp) elt te) (hs : ∀ x,foldedSetIterable iter X.env x=pure x)
    (h:tLc wi g tt te (own.map (·.2)) σ H Q)
    (hRR : ∀ D C s' m H',Inv X pins σ H' s'→Q (.ref D) H'→s'.heap.Ns C m→FpOk X pins H' C→compPost (model X.prog X.w) X.A X.xe use Qf (.ref D) C (.ok .next) s') :
    wpAny (model X.prog X.w) X.A (comprehension (.ListComp elt [⟨tg,iter,ifs,0⟩] scope pos) scope X.env pos' (newList []) false (eval iter X.env) use) Qf X.xe s:=by
  have hfree : ∀ y∈scope.names,y.2 = .free→∃ c,X.env.cells.lookup y.1=some c:=fun y hy e=>by
    rcases ok.free y hy e with k | k
    · exact I.ok.has _ (.inl k)
    · exact I.ok.has _ (.inr k)
  refine wpAny_comprehension_free (use:=use) rfl hs (zpk hfree) ok.kind (fun y hy e=>by rw [ok.uniq y hy,e])
    (thn (hi pins s σ H _ I h) fun xv s1 hx=>thn hx fun itv s2 h2=>?_)
  obtain ⟨it,fp,tn,J,H2,e,I2,T,st2,f2,q⟩:=h2
  subst e
  refine wpAny_newObj_type (zmh ?_) (by show 0≤sizeLine;decide)
  generalize hD:s2.heap.objs.size=D
  have hDn:H2 D=none:=I2.hok.fresh (Nat.le_of_eq hD)
  obtain ⟨W,⟨m0,w0⟩,turn⟩:=q D hDn
  generalize hs3:({ s2 with heap:=s2.heap.push { cls := .type "list",data := .seq ([]:List Value).toArray } }:Shared)=s3
  have I3:Inv X pins σ (upd H2 D (.lst [])) s3:=by
    rw [← hs3]
    refine I2.laid (t':=s2.toks) (fun b o e=>Heap.get?_push_of_some _ e) (Nat.le_of_eq hD) ⟨Nat.zero_le _,[],0,.nil,?_⟩
    rw [← hD]
    exact Heap.get?_push_size _ rfl
  have h3:s3.heap=s2.heap.push { cls := .type "list",data := .seq ([]:List Value).toArray }:=by rw [← hs3]
  have sz : ∀ b∈fp,b<s2.heap.objs.size:=fun b hb=>by
    obtain ⟨o,e,_⟩:=T.obj _ _ st2 b hb
    exact Heap.lt_size e
  have f3 : ∀ b∈fp,FpOk X pins (upd H2 D (.lst [])) b∧b<s3.heap.objs.size:=fun b hb=>by
    have hlt:=sz b hb
    refine ⟨⟨?_,(f2 b hb).2⟩,by rw [h3,Heap.size_push];exact Nat.lt_succ_of_lt hlt⟩
    rw [zah (by rw [← hD];exact Nat.ne_of_lt hlt)]
    exact (f2 b hb).1
  have st3:tn 0 s3.heap:=T.keep _ _ _ st2 fun b _ o e=>by rw [h3];exact Heap.get?_push_of_some _ e
  have I4:=zm7 I3 ok hN f3
  have pg:=hg s3 (upd H2 D (.lst [])) s3.heap.objs.size (cellsFrom (s3.heap.objs.size+1) scope.names (zbg X.env.cells scope.names [])) fp
  have pt:=ht s3 (upd H2 D (.lst [])) s3.heap.objs.size (cellsFrom (s3.heap.objs.size+1) scope.names (zbg X.env.cells scope.names [])) fp
  have pe:=he s3 (upd H2 D (.lst [])) s3.heap.objs.size (cellsFrom (s3.heap.objs.size+1) scope.names (zbg X.env.cells scope.names [])) fp
  show codeAny _ _ (.compStart (.ListComp elt [⟨tg,iter,ifs,0⟩] scope pos) 0 (.ref it) (.ref D) (compEnvC scope (cellsFrom (s3.heap.objs.size+1) scope.names (zbg X.env.cells scope.names [])) s3.heap.objs.size X.env)) (compPost (model X.prog X.w) X.A X.xe use Qf (.ref D) s3.heap.objs.size) { s3 with heap:=pushCells (s3.heap.push { cls := .type "dict",data := .dict #[] }) scope.names }
  have nfp : ∀ b∈fp,(upd H2 D (.lst [])) b=none:=fun b hb=>(f3 b hb).1.1
  generalize hce:compEnvC scope (cellsFrom (s3.heap.objs.size+1) scope.names (zbg X.env.cells scope.names [])) s3.heap.objs.size X.env=ce at I4 pg pt pe ⊢
  have cL:ce.locals=s3.heap.objs.size:=by subst hce;rfl
  generalize hH3:upd H2 D (.lst [])=H3 at I3 I4 pg pt pe w0 nfp f3
  generalize hs4:({ s3 with heap:=pushCells (s3.heap.push { cls := .type "dict",data := .dict #[] }) scope.names }:Shared)=s4 at I4 ⊢
  have st4:tn 0 s4.heap:=T.keep _ _ _ st3 fun b _ o e=>by rw [← hs4];exact pushCells_keeps _ _ _ _ (Heap.get?_push_of_some _ e)
  have stat : ∀ {σ':St}{H':Hp}{s':Shared},Inv (X.blk s3 H3 scope ce fp) [] σ' H' s'→(∀ b∈fp,H' b=none)→∀ b∈fp,FpOk (X.blk s3 H3 scope ce fp) [] H' b:=fun {σ' H' s'} I' hn b hb =>
    ⟨hn b hb,(I'.ok.exf b hb).1,I'.ok.exfs b hb,.inl hb,fun x c e=>(I'.ok.exf b hb).2 x c e,fun p hp=>absurd (show p∈([]:List (Addr×Obj))++[] from hp) (by simp)⟩
  have loop:codeAny (model X.prog X.w) X.A (.compLoop (.ListComp elt [⟨tg,iter,ifs,0⟩] scope pos) 0 (.ref it) (.ref D) ce) (compPost (model X.prog X.w) X.A X.xe use Qf (.ref D) s3.heap.objs.size) s4:=by
    refine zll (fun n s'=>∃ i H',Inv (X.blk s3 H3 scope ce fp) [] (wipe σ (own.map (·.2))) H' s'∧tn i s'.heap∧(∀ b∈fp,H' b=none)∧W i n H') ?_ m0 ⟨0,H3,I4,st4,nfp,w0⟩
    rintro n s5 ⟨i,H5,I5,st5,n5,w5⟩
    rcases turn i n H5 w5 with ⟨stop,qq⟩ | ⟨go,Nx,hNx,step⟩
    · have td:=T.done (X.blk s3 H3 scope ce fp) rfl rfl rfl hc i [] s5 _ H5 (fun _ _=>False) I5 (stat I5 n5) st5 stop
      refine thnF td fun r s6 ⟨hr,I6⟩=>?_
      subst hr
      have I7:Inv X pins σ H5 s6:=I3.call' (ch:=fp) I6.os I6.base I6.hok I6.bare fun b hb=>⟨(f3 b hb).1.2.2.2.1,(f3 b hb).1.2.1,(f3 b hb).1.2.2.2.2.1,(f3 b hb).1.2.2.2.2.2⟩
      have nC:H5 s3.heap.objs.size=none:=by
        have z:H5 ce.locals=none:=I6.free
        rw [cL] at z
        exact z
      obtain ⟨m,hn,_⟩:=I6.loc
      have hn:s6.heap.Ns ce.locals m:=hn
      rw [cL] at hn
      exact hRR D s3.heap.objs.size s6 m H5 I7 qq hn (I3.fpOk (Nat.le_refl _) nC)
    · have ti:=T.item (X.blk s3 H3 scope ce fp) rfl rfl rfl hc i [] s5 _ H5 (fun _ _=>False) I5 (stat I5 n5) st5 go
      refine thnF ti fun r s6 ⟨u,hr,h6⟩=>?_
      subst hr
      refine thnF h6 fun _ s7 ⟨x,H7,I7,r7,y7,st7,n7⟩=>?_
      have I7':=I7.pinned (stat I7 n7) (T.obj _ _ st7)
      refine thnF (pg _ s7 _ H7 x u _ I7' r7 (step x H7 y7)) fun _ s8 ⟨σ8,H8,I8,hw8,q8⟩=>?_
      refine thnF (pt _ s8 σ8 H8 _ I8 q8) fun b s9 ⟨H9,I9,q9⟩=>?_
      have fin : ∀ {s':Shared}{H':Hp},Inv (X.blk s3 H3 scope ce fp) ([]++zim fp s7.heap) σ8 H' s'→Nx H'→∃ m,m<n∧∃ i H',Inv (X.blk s3 H3 scope ce fp) [] (wipe σ (own.map (·.2))) H' s'∧tn i s'.heap∧(∀ b∈fp,H' b=none)∧W i m H':=fun {s' H'} I' nx=>by
        obtain ⟨m',hm,w'⟩:=hNx H' nx
        have pin' : ∀ b∈fp,∀ o,s7.heap.get? b=some o→s'.heap.get? b=some o∧H' b=none:=fun b hb o e =>
          let z:=I'.pin (b,o) (List.mem_append_right _ (List.mem_append_right _ (zcw hb e)))
          ⟨z.1,z.2.1⟩
        have hl:(wipe σ (own.map (·.2))).length=σ8.length:=by rw [← hw8,zee]
        refine ⟨m',hm,i+1,H',(I'.unpinned (pins:=[])).weak hl (fun j v e=>?_),T.keep _ _ _ st7 fun b hb o e=>(pin' b hb o e).1,fun b hb=>?_,w'⟩
        · rw [← hw8] at e
          exact (zgw e).1
        · obtain ⟨o,e,_⟩:=T.obj _ _ st7 b hb
          exact (pin' b hb o e).2
      cases b with
      | false =>
        simp only [Bool.false_eq_true,if_false] at q9 ⊢
        exact fin I9 q9
      | true =>
        simp only [if_true] at q9 ⊢
        refine thnF (pe _ s9 σ8 H9 _ I9 q9) fun z s10 ⟨yv,H10,I10,r10,acc,hD10,hz10,nx⟩=>?_
        exact zyl (X:=X.blk s3 H3 scope ce fp) I10 hD10 hz10 r10 fun s11 I11=>fin I11 nx
  exact codeAny_compStart_list loop (T.self X.A 0 _ _ _ st4 loop)
theorem zqz {elt tg iter:Expr}{ifs:List Expr}{scope:Scope}{own:List (Str×Nat)}{pos:Pos}{wi:TI}{g:TG}{tt:TT}{te:TE} (hc:X.calm=true) (hN:X.N.Nodup) (hi:PI X tg iter wi) (ok:BlkOk X.N X.env.scope scope own)
    (hg : ∀ (s:Shared) (H:Hp) (C:Addr) (cl:List (Str×Addr)) (fp:List Addr),PG (X.blk s H scope (compEnvC scope cl C X.env) fp) tg g) (ht : ∀ (s:Shared) (H:Hp) (C:Addr) (cl:List (Str×Addr)) (fp:List Addr),PTs (X.blk s H scope (compEnvC scope cl C X.env) fp) ifs tt)
    (he : ∀ (s:Shared) (H:Hp) (C:Addr) (cl:List (Str×Addr)) (fp:List Addr),PE (X.blk s H scope (compEnvC scope cl C X.env) fp) elt te) (hs : ∀ x,foldedSetIterable iter X.env x=pure x:=by intro _;rfl) :
    PE X (.ListComp elt [⟨tg,iter,ifs,0⟩] scope pos) (tLc wi g tt te (own.map (·.2))):=by
  intro pins s σ H Q I h
  rw [eval_ListComp]
  refine zwg hc hN I hi ok hg ht he hs h fun D C s' m H' I' q hn f=>⟨m,hn,fun h'' sb=>?_⟩
  obtain ⟨f0,f1,f2,f3,f4,f5⟩:=f
  exact ⟨.ref D,H',I'.turned (t':=s'.toks) (fun b o hb e=>(sb.2 b hb).trans e) f0 f1 f3 f4 f5,rfl,q⟩
end
noncomputable def blkC (N:List Str) (sc scope:Scope) (own:List (Str×Nat)):Bool :=
  (match scope.kind with | .function=>true | _=>false) && (scope.names.all fun y=>decide (scope.names.lookup y.1=some y.2)) && (own.all fun p=>decide (N[p.2]? = some p.1)) &&
    (scope.names.all fun y=>match y.2 with
      | .free=>(match sc.names.lookup y.1 with | some .cell=>true | some .free=>true | _=>false)
      | .local=>decide (y.1∈own.map (·.1)) || decide (y.1∉N)
      | .cell=>decide (y.1∈own.map (·.1)) || decide (y.1∉N)
      | _=>true)
theorem zfg {N:List Str}{sc scope:Scope}{own:List (Str×Nat)} (h:blkC N sc scope own=true):BlkOk N sc scope own:=by
  unfold blkC at h
  simp only [Bool.and_eq_true,List.all_eq_true,decide_eq_true_eq] at h
  obtain ⟨⟨⟨h1,h2⟩,h3⟩,h4⟩:=h
  refine ⟨?_,h2,h3,fun y hy e=>?_,fun y hy e=>?_⟩
  · split at h1
    · assumption
    · cases h1
  · have q:=h4 y hy
    simp only [e] at q
    split at q <;> first | exact .inl (by assumption) | exact .inr (by assumption) | cases q
  · have q:=h4 y hy
    rcases e with e | e <;> (simp only [e,Bool.or_eq_true,decide_eq_true_eq] at q;exact q)
end L2
namespace L2
open PySem PySem.Spec PyProof.Rows
section
variable {prog:Program}{w:World}{A:Around}{R:Result→Shared→Prop}{s:Shared}{elt t0 i0 t1 i1:Expr}{ifs0 ifs1:List Expr}{scope:Scope}{pos:Pos}{it acc:Value}{env:Env}
end
section
variable {X:Cx}
end
end L2
namespace L2
open PySem PySem.Spec PyProof.Rows
section
variable {κ:Type} [DecidableEq κ]
noncomputable def valV (kvs:List (κ×V)) (k:κ):Option V:=(kvs.find? fun kv=>decide (kv.1=k)).map (·.2)
noncomputable def putK (kvs:List (κ×V)) (k:κ) (v:V):List (κ×V) :=
  if (kvs.any fun kv=>decide (kv.1=k))=true then kvs.map (fun kv=>if kv.1=k then (kv.1,v) else kv) else kvs++[(k,v)]
theorem zgh {p:κ×V}{r:List (κ×V)}{k:κ} (e:p.1=k):valV (p::r) k=some p.2:=by simp [valV,List.find?_cons,e]
theorem zgi {p:κ×V}{r:List (κ×V)}{k:κ} (e : ¬ p.1=k):valV (p::r) k=valV r k:=by simp [valV,List.find?_cons,e]
theorem zne (k:κ) : ∀ kvs:List (κ×V),(kvs.any fun kv=>decide (kv.1=k))=(valV kvs k).isSome
  | []=>rfl
  | p::r=>by
    rw [List.any_cons]
    by_cases e:p.1=k
    · simp only [zgh e,decide_eq_true e,Bool.true_or,Option.isSome_some]
    · rw [zgi e,decide_eq_false e,Bool.false_or];exact zne k r
theorem zho (kvs:List (κ×V)) (k:κ) (v:V):(putK kvs k v).length≤kvs.length+1:=by
  unfold putK
  split
  · rw [List.length_map];omega
  · rw [List.length_append,List.length_cons,List.length_nil];omega
theorem RelO.isSome_eq {o:Option V}{u:Option Value} (r:RelO o u):o.isSome=u.isSome:=by
  cases o with
  | none=>cases u with
    | none=>rfl
    | some _=>exact (show False from r).elim
  | some _=>cases u with
    | none=>exact (show False from r).elim
    | some _=>rfl
theorem RelO.getD {o:Option V}{u:Option Value}{d:V}{d':Value} (r:RelO o u) (rd:RelV d d'):RelV (o.getD d) (u.getD d'):=by
  cases o with
  | none=>cases u with
    | none=>exact rd
    | some _=>exact (show False from r).elim
  | some _=>cases u with
    | none=>exact (show False from r).elim
    | some _=>exact r
theorem KV.val {kvs:List (κ×V)}{vs:List (κ×Value)} (r:KV kvs vs) (k:κ):RelO (valV kvs k) (valueAt vs k):=by
  unfold KV at r
  induction r with
  | nil=>exact True.intro
  | @cons p q ps qs h t ih =>
    obtain ⟨h1,h2⟩:=h
    by_cases e:p.1=k
    · have e':q.1=k:=h1.symm.trans e
      have b:valueAt (q::qs) k=some q.2:=by simp [valueAt,List.find?_cons,e']
      rw [zgh e,b];exact h2
    · have e' : ¬ q.1=k:=fun z=>e (h1.trans z)
      have b:valueAt (q::qs) k=valueAt qs k:=by simp [valueAt,List.find?_cons,e']
      rw [zgi e,b];exact ih
theorem KV.any {kvs:List (κ×V)}{vs:List (κ×Value)} (r:KV kvs vs) (k:κ):(kvs.any fun kv=>decide (kv.1=k))=vs.any fun kv=>decide (kv.1=k):=by
  unfold KV at r
  induction r with
  | nil=>rfl
  | cons h t ih=>rw [List.any_cons,List.any_cons,ih,h.1]
theorem KV.repl {kvs:List (κ×V)}{vs:List (κ×Value)} (r:KV kvs vs) (k:κ) {y:V}{u:Value} (ry:RelV y u) :
    KV (kvs.map fun kv=>if kv.1=k then (kv.1,y) else kv) (vs.map fun kv=>if kv.1=k then (kv.1,u) else kv):=by
  unfold KV at r ⊢
  induction r with
  | nil=>exact .nil
  | @cons p q ps qs h t ih =>
    rw [List.map_cons,List.map_cons]
    refine .cons ?_ ih
    obtain ⟨h1,h2⟩:=h
    by_cases e:p.1=k
    · rw [if_pos e,if_pos (h1.symm.trans e)];exact ⟨h1,ry⟩
    · rw [if_neg e,if_neg (fun z=>e (h1.trans z))];exact ⟨h1,h2⟩
theorem KV.put {kvs:List (κ×V)}{vs:List (κ×Value)} (r:KV kvs vs) (k:κ) {y:V}{u:Value} (ry:RelV y u):KV (putK kvs k y) (stored vs k u):=by
  unfold putK stored
  rw [r.any k]
  by_cases e:(vs.any fun kv=>decide (kv.1=k))=true
  · rw [if_pos e,if_pos e];exact r.repl k ry
  · rw [if_neg e,if_neg e];exact Paired.snoc r ⟨rfl,ry⟩
theorem KV.keys {kvs:List (κ×V)}{vs:List (κ×Value)} (r:KV kvs vs):kvs.map (·.1)=vs.map (·.1):=by
  unfold KV at r
  induction r with
  | nil=>rfl
  | cons h t ih=>rw [List.map_cons,List.map_cons,ih,h.1]
theorem KV.length {kvs:List (κ×V)}{vs:List (κ×Value)} (r:KV kvs vs):kvs.length=vs.length:=Paired.length r
end
theorem zrm {P:Program}{w:World}{k:Key}{u:Value} (r:RelV (kV k) u):(zba P w).is k u=true:=by
  cases k with
  | inl i=>obtain ⟨t,e⟩:=(show ∃ t,u=Value.int i t from r);subst e;exact zmi P w i t
  | inr x=>obtain ⟨t,e⟩:=(show ∃ t,u=Value.str x t from r);subst e;exact zhn P w x t
theorem zk9 {P:Program}{w:World} : ∀ {ks:List Key}{us:List Value},Vals (ks.map kV) us→ItemsAre (zba P w) ks us
  | [],_,r=>by rw [List.map_nil] at r;cases r;exact .nil
  | k::ks,_,r=>by
    rw [List.map_cons] at r
    cases r with
    | cons h t=>exact .cons (zrm h) (zk9 t)
noncomputable abbrev KT (H:Hp):List (List Key×V)→List (List Key×Addr×Value)→Prop:=Paired fun p q=>p.1=q.1∧H q.2.1=some (.tup (p.1.map kV))∧RelV p.2 q.2.2
theorem KT.val {H:Hp}{kvs:List (List Key×V)}{xs:List (List Key×Addr×Value)} (r:KT H kvs xs) (k:List Key):RelO (valV kvs k) ((atKey xs k).map (·.2)):=by
  induction r with
  | nil=>exact True.intro
  | @cons p q ps qs h t ih =>
    obtain ⟨h1,_,h2⟩:=h
    by_cases e:p.1=k
    · have e':q.1=k:=h1.symm.trans e
      have b:atKey (q::qs) k=some q.2:=by simp [atKey,List.find?_cons,e']
      rw [zgh e,b];exact h2
    · have e' : ¬ q.1=k:=fun z=>e (h1.trans z)
      have b:atKey (q::qs) k=atKey qs k:=by simp [atKey,List.find?_cons,e']
      rw [zgi e,b];exact ih
theorem KT.repl {H:Hp}{kvs:List (List Key×V)}{xs:List (List Key×Addr×Value)} (r:KT H kvs xs) (k:List Key) {y:V}{u:Value} (ry:RelV y u) :
    KT H (kvs.map fun kv=>if kv.1=k then (kv.1,y) else kv) (xs.map (putAt k u)):=by
  induction r with
  | nil=>exact .nil
  | @cons p q ps qs h t ih =>
    rw [List.map_cons,List.map_cons]
    refine .cons ?_ ih
    obtain ⟨h1,h2,h3⟩:=h
    unfold putAt
    by_cases e:p.1=k
    · rw [if_pos e,if_pos (h1.symm.trans e)];exact ⟨h1,h2,ry⟩
    · rw [if_neg e,if_neg (fun z=>e (h1.trans z))];exact ⟨h1,h2,h3⟩
theorem KT.put {H:Hp}{kvs:List (List Key×V)}{xs:List (List Key×Addr×Value)} (r:KT H kvs xs) (k:List Key) {b:Addr}{y:V}{u:Value} (hb:H b=some (.tup (k.map kV))) (ry:RelV y u) :
    KT H (putK kvs k y) (storedH xs k b u):=by
  have e:(kvs.any fun kv=>decide (kv.1=k))=(atKey xs k).isSome:=by
    rw [zne,(r.val k).isSome_eq,Option.isSome_map]
  unfold putK storedH
  rw [e]
  by_cases q:(atKey xs k).isSome=true
  · rw [if_pos q,if_pos q];exact r.repl k ry
  · rw [if_neg q,if_neg q];exact Paired.snoc r ⟨rfl,hb,ry⟩
theorem KT.keeps {H H':Hp}{kvs:List (List Key×V)}{xs:List (List Key×Addr×Value)} (r:KT H kvs xs) (ht : ∀ b ys,H b=some (.tup ys)→H' b=some (.tup ys)):KT H' kvs xs :=
  Paired.mapP r fun _ _ z=>⟨z.1,ht _ _ z.2.1,z.2.2⟩
section
variable {P:Program}{w:World}{H:Hp}{h:Heap}{a:Addr}
theorem zxk {u:HO} (ok:HOk P w H h) (e:Rd H a u):zbp P w H h a u:=e.ok ok
theorem zy0 {kvs:List (Key×V)} (ok:HOk P w H h) (e:Rd H a (.dK kvs)):kvs.length≤sizeLine∧(a == sysModules)=false∧∃ vs,KV kvs vs∧h.DictOf (zba P w) a vs :=
  show zbp P w H h a (.dK kvs) from zxk ok e
theorem zyh {kvs:List (Key×V)} (ok:HOk P w H h) (e:H a=some (.dK kvs)):kvs.length≤sizeLine∧(a == sysModules)=false∧∃ vs,KV kvs vs∧h.DictOf (zba P w) a vs:=zy0 ok (.inl e)
theorem zux {ks:List Key} (ok:HOk P w H h) (e:H a=some (.tup (ks.map kV))):(tupleKind (zba P w)).is h ks a:=by
  obtain ⟨_,its,r,o,h1,h2,n,h3⟩:=(show zbp P w H h a (.tup (ks.map kV)) from ok a _ e)
  exact ⟨o,its.toArray,n,h1,h2,h3,by simpa using zk9 r⟩
theorem zyy {kvs:List (List Key×V)} (ok:HOk P w H h) (e:Rd H a (.dT kvs)):kvs.length≤sizeLine∧(a == sysModules)=false ∧
    ∃ xs,KT H kvs xs∧h.DictOfH (tupleKind (zba P w)) a xs:=by
  obtain ⟨z,y,xs,r,o,es,ep,h1,h2,h3,h4,h5⟩:=(show zbp P w H h a (.dT kvs) from zxk ok e)
  refine ⟨z,y,xs,r,o,es,ep,h1,h2,h3,h4,fun x hx=>?_,h5⟩
  have all : ∀ {l:List (List Key×V)}{m:List (List Key×Addr×Value)},KT H l m→∀ x∈m,(tupleKind (zba P w)).is h x.1 x.2.1:=by
    intro l m q
    induction q with
    | nil=>intro x hx;exact nomatch hx
    | @cons p q ps qs hq t ih =>
      intro x hx
      rcases List.mem_cons.mp hx with e | hx
      · subst e
        exact zux ok (by rw [← hq.1];exact hq.2.1)
      · exact ih x hx
  exact all r x hx
theorem zyz {kvs:List (List Key×V)} (ok:HOk P w H h) (e:H a=some (.dT kvs)):kvs.length≤sizeLine∧(a == sysModules)=false ∧
    ∃ xs,KT H kvs xs∧h.DictOfH (tupleKind (zba P w)) a xs:=zyy ok (.inl e)
end
noncomputable def DGet (H:Hp) (a:Addr) (y:V) (r:Option V):Prop :=
  (∃ kvs k,Rd H a (.dK kvs)∧y=kV k∧r=valV kvs k)∨∃ kvs k b,Rd H a (.dT kvs)∧y = .ref b∧H b=some (.tup (k.map kV))∧r=valV kvs k
noncomputable def DPut (H:Hp) (a:Addr) (y v:V) (H':Hp):Prop :=
  (∃ kvs k,H a=some (.dK kvs)∧y=kV k∧kvs.length<sizeLine∧H'=upd H a (.dK (putK kvs k v))) ∨
  ∃ kvs k b,H a=some (.dT kvs)∧y = .ref b∧H b=some (.tup (k.map kV))∧kvs.length<sizeLine∧H'=upd H a (.dT (putK kvs k v))
theorem DGet.t {H:Hp}{a b:Addr}{kvs:List (List Key×V)}{k:List Key} (e:H a=some (.dT kvs)) (eb:H b=some (.tup (k.map kV))):DGet H a (.ref b) (valV kvs k) := .inr ⟨kvs,k,b,.inl e,rfl,eb,rfl⟩
theorem DPut.k {H:Hp}{a:Addr}{kvs:List (Key×V)}{k:Key}{v:V} (e:H a=some (.dK kvs)) (hl:kvs.length<sizeLine):DPut H a (kV k) v (upd H a (.dK (putK kvs k v))) := .inl ⟨kvs,k,e,rfl,hl,rfl⟩
theorem DPut.t {H:Hp}{a b:Addr}{kvs:List (List Key×V)}{k:List Key}{v:V} (e:H a=some (.dT kvs)) (eb:H b=some (.tup (k.map kV))) (hl:kvs.length<sizeLine) :
    DPut H a (.ref b) v (upd H a (.dT (putK kvs k v))) := .inr ⟨kvs,k,b,e,rfl,eb,hl,rfl⟩
section
variable {X:Cx}{pins:List (Addr×Obj)}{σ:St}{H:Hp}{s:Shared}{a:Addr}{y v:V}{u r:Value}{o:Option V}{A:Around}{E:Value→Shared→Prop}
theorem Inv.big (I:Inv X pins σ H s):sysModules<s.heap.objs.size:=by
  have h:mainGlobals<s.heap.objs.size:=(I.mod.glob.keeps I.bk).lt
  exact Nat.lt_trans (by decide) h
theorem zr8 {h':Heap}{t':Nat}{ob:HO} (I:Inv X pins σ H s) (mu:Mut (H a)) (hs:Heap.SameBut a s.heap h') (he : ∃ q,h'.get? a=some q) (new:zbp X.prog X.w (upd H a ob) h' a ob) :
    Inv X pins σ (upd H a ob) { s with heap:=h',toks:=t' } :=
  I.write (x:=a) (e:=a) mu (.inl rfl) (fun b q hb z=>(hs.2 b hb).trans z) he new
theorem zyi {P:Program}{w:World}{H':Hp}{h':Heap}{kvs:List (Key×V)}{vs:List (Key×Value)} (z:kvs.length≤sizeLine) (hd:(a == sysModules)=false) (rel:KV kvs vs) (dd:h'.DictOf (zba P w) a vs) :
    zbp P w H' h' a (.dK kvs):=⟨z,hd,vs,rel,dd⟩
theorem zr9 {H':Hp}{Q:Unit→Shared→Prop} (hu:A.units+1<cLine) (I:Inv X pins σ H s) (g:DPut H a y v H') (ry:RelV y u) (rv:RelV v r) (h : ∀ s',Inv X pins σ H' s'→Q () s') :
    wpAny (model X.prog X.w) A (setItem (.ref a) u r) Q E s:=by
  rcases g with ⟨kvs,k,e,ey,l,eH⟩ | ⟨kvs,k,b,e,ey,eb,l,eH⟩
  · subst ey eH
    obtain ⟨z,hd,vs,rel,dd⟩:=zyh I.hok e
    have hz:vs.length≤sizeLine:=by rw [← rel.length];exact z
    have hl:(putK kvs k v).length≤sizeLine:=by have:=zho kvs k v;omega
    refine wpAny_setItem_pairs (hsz:=hz) (zrm ry) dd fun h' dd' hs=>h _ ?_
    have he : ∃ q,h'.get? a=some q:=let ⟨q,_,_,hq,_⟩:=dd';⟨q,hq⟩
    exact zr8 I (by rw [e];exact True.intro) hs he (zyi hl hd (rel.put k rv) dd')
  · subst ey eH
    cases (show u=Value.ref b from ry)
    obtain ⟨z,hd,xs,rel,dd⟩:=zyz I.hok e
    have hz:xs.length≤sizeLine:=by rw [← Paired.length rel];exact z
    have hl:(putK kvs k v).length≤sizeLine:=by have:=zho kvs k v;omega
    refine wpAny_setItem_heap (hsz:=hz) (tupleKind_room_in1 hu) (zux I.hok eb) dd fun h' dd' hs=>h _ ?_
    obtain ⟨q,es,ep,hq,h2,h3,h4,_,h5⟩:=dd'
    refine zr8 I (by rw [e];exact True.intro) hs ⟨q,hq⟩ ⟨hl,hd,_,(rel.put k eb rv).keeps fun c ys ec=>?_,q,es,ep,hq,h2,h3,h4,h5⟩
    rw [zah (zci ec e (fun z=>nomatch z))]
    exact ec
end
section
variable {X:Cx}{pins:List (Addr×Obj)}{σ:St}{H:Hp}{s:Shared}{a:Addr}{kvs:List (Key×V)}{k:Key}{u:Value}{A:Around}{E:Value→Shared→Prop}
end
noncomputable def NoSl (i:Expr):Prop:=∀ ov iv,subscripted i false ov iv=operate [ov,iv] (getItem ov iv)
theorem zvi {prog:Program}{w:World}{A:Around}{E:Value→Shared→Prop}{s:Shared}{env:Env}{value slice:Expr}{pos:Pos}{T id:String}{Q:Value→Shared→Prop}
    (hl:typeLookup (.type T) "__getitem__"=pure (some (.builtin id))) (hs:NoSl slice)
    (h:wpAny (model prog w) A (eval value env) (fun o s₁=>wpAny (model prog w) A (eval slice env) (fun i s₂=>s₂.TypeIs o T∧wpAny (model prog w) A (getItem o i) Q E s₂) E s₁) E s) :
    wpAny (model prog w) A (eval (.Subscript value slice pos) env) Q E s:=by
  refine Subscript_ (wpAny_mono h (fun o s₁ h₁=>wpAny_mono h₁ (fun i s₂ h₂=>?_) fun _ _ x=>x) fun _ _ x=>x)
  obtain ⟨hT,h₂⟩:=h₂
  unfold subscriptTail
  refine wpAny_bind ?_
  rw [getitemInPython_of_ne hT.not_modules]
  refine wpAny_bind (wpAny_specialOf hT hl ?_)
  have fin:wpAny (model prog w) A (subscripted slice false o i) (fun r s₃=>wpAny (model prog w) A (letTemporaryGo value o r >>= fun _=>pure r) Q E s₃) E s₂:=by
    rw [hs o i]
    exact wpAny_operating (wpAny_mono h₂ (fun r s₃ h₃=>wpAny_bind (wpAny_letTemporaryGo (wpAny_pure h₃))) fun _ _ x=>x)
  first
    | exact wpAny_pure (wpAny_bind fin)
    | exact wpAny_bind (wpAny_pure (wpAny_bind fin))
    | exact wpAny_bind fin
noncomputable def zvq (td ty tv:TE):TS:=fun D σ H=>tv σ H fun v H1=>td σ H1 fun x H2=>ty σ H2 fun y H3=>∃ a H4,x = .ref a∧DPut H3 a y v H4∧D.nx σ H4
section
variable {X:Cx}{o i e value:Expr}{pos pos' tpos:Pos}{td ty tv:TE}
theorem zvy (hu:X.A.units+1<cLine) (ho:PE X o td) (hi:PE X i ty) (hv:PE X value tv) (hs:swapsWith value (some (.Subscript o i pos')) pos.line X.env=pure false) :
    PS X (.Assign [.Subscript o i pos'] value pos) (zvq td ty tv):=by
  intro pins s σ H D I h
  refine wpAny_Assign_Subscript (thn (hv pins s σ H _ I h) fun r s1 ⟨v,H1,I1,rv,q1⟩=>thn (ho pins s1 σ H1 _ I1 q1) fun u s2 ⟨x,H2,I2,rx,q2⟩=>thn (hi pins s2 σ H2 _ I2 q2) fun iv s3 ⟨y,H3,I3,ry,a,H4,ex,g,q3⟩=>?_) hs
  subst ex
  obtain rfl:u=Value.ref a:=rx
  exact zr9 hu I3 g ry rv fun s4 I4=>⟨σ,H4,I4,q3⟩
end
theorem zt7 {P:Program}{w:World}{H:Hp} (h:Heap) (hb:sysModules<h.objs.size):zbp P w H (h.push { cls := .type "dict",data := .dict #[] }) h.objs.size (.dK []) :=
  ⟨Nat.zero_le _,beq_eq_false_iff_ne.mpr (Ne.symm (Nat.ne_of_lt hb)),[],.nil,Heap.DictOf.new h⟩
noncomputable def zp0:TE:=fun _ H Q=>∀ p,H p=none→Q (.ref p) (upd H p (.dK []))
section
variable {X:Cx}{pos:Pos}
theorem ztb:PE X (.Dict [] [] pos) zp0:=fun pins s σ H Q I h =>
  wpAny_Dict_empty ⟨.ref s.heap.objs.size,_,I.laid (a:=s.heap.objs.size) (o := .dK []) (t':=s.toks) (fun _ _ q=>Heap.get?_push_of_some _ q) (Nat.le_refl _) (zt7 s.heap I.big),rfl,h _ (I.hok.fresh (Nat.le_refl _))⟩
end
structure M2 (X:Cx) (o:Expr) (m:Str) (apos:Pos) (e f:Expr) (cpos:Pos):Prop where
  base:attributeBase o m X.env (eval o X.env)=eval o X.env
  few:((backTo cpos (starEach [e,f] X.env)).all (fun x => !x.1) && (backToKw cpos (keywordEach [] X.env)).all (fun x=>x.1.isSome)
    && decide (([e,f]:List Expr).length+([]:List Keyword).length+(if ([]:List Keyword).isEmpty then 0 else 1)<30))=true
  line:(apos.endLine == cpos.line)=true
  trees:backTo cpos (starEach [e,f] X.env)=[(false,eval e X.env),(false,eval f X.env)]
section
variable {X:Cx}{pins:List (Addr×Obj)}{σ:St}{H:Hp}{s:Shared}{a:Addr}{y d:V}{u r:Value}{o:Option V}{A:Around}{E:Value→Shared→Prop}
end
section
variable {X:Cx}{o e f:Expr}{apos cpos:Pos}{td ty tx:TE}
end
section
variable {X:Cx}{pins:List (Addr×Obj)}{σ:St}{H:Hp}{s:Shared}{a:Addr}{kvs:List (Key×V)}{A:Around}{E:Value→Shared→Prop}
end
section
variable {X:Cx}{pins:List (Addr×Obj)}{σ:St}{H:Hp}{s:Shared}{a:Addr}{y:V}{u:Value}{A:Around}{E:Value→Shared→Prop}
end
end L2
namespace L2
open PySem PySem.Spec PyProof.Rows
section
variable {prog:Program}{w:World}{A:Around}{E:Value→Shared→Prop}
end
section
variable {X:Cx}
end
end L2
namespace L2
open PySem PySem.Spec PyProof.Rows
theorem zec:bootBuiltins "reversed"=some (.type "reversed"):=by decide +kernel
section
variable {X:Cx}{pins:List (Addr×Obj)}{σ:St}{H:Hp}{s:Shared}{h':Heap}
theorem Inv.turnedNew {t':Nat}{ch:List Addr}{T:Addr}{ob:HO} (I:Inv X pins σ H s) (k : ∀ b o,b∉ch→s.heap.get? b=some o→h'.get? b=some o) (hf : ∀ b∈ch,FpOk X pins H b) (hT:s.heap.objs.size≤T)
    (new:zbp X.prog X.w (upd H T ob) h' T ob):Inv X pins σ (upd H T ob) { s with heap:=h',toks:=t' }:=by
  have hn:H T=none:=I.hok.fresh hT
  have nit : ∀ b u,H b=some u→b∉ch:=fun b u e z=>by
    have q:=(hf b z).1
    rw [q] at e;cases e
  refine I.step (g':=s.gens) (d':=s.drawn) (ch:=ch) (fun b hb=>⟨(hf b hb).2.2.2.1,(hf b hb).2.1,(hf b hb).2.2.2.2.1,(hf b hb).2.2.2.2.2⟩) (fun b o _ _ hc e _=>k b o hc e) (fun b o _ _ hc e _=>⟨o.slots,k b o hc e⟩)
    (fun b o _ e n=>?_) (fun b o hc e=>⟨o,k b o hc e⟩) (fun b xs e=>?_) (fun b o u e=>?_) (fun b ps e=>⟨#[],?_⟩) (fun m hm=>?_) (fun b u e=>?_) I.bare
  · rw [zah (Nat.ne_of_lt (Nat.lt_of_lt_of_le (Heap.lt_size e) hT))];exact n
  · rw [zah (zag e hn)];exact e
  · rw [zah (zag e hn)];exact e
  · rw [zah (zag e hn),e];simp
  · obtain ⟨o,es,ep,ho,r⟩:=hm
    exact ⟨o,es,ep,k _ o (fun z=>(hf _ z).2.1 rfl) ho,r⟩
  · by_cases hb:b=T
    · subst hb
      rw [zad] at e
      cases e
      exact new
    · rw [zah hb] at e
      refine (I.hok b u e).stay (fun c v hc q=>k c v ?_ q) (fun c q=>by rw [zah (zag q hn)];exact q) fun c xs q=>by rw [zah (zag q hn)];exact q
      rcases hc with z | z
      · rw [z];exact nit b u e
      · exact nit c _ z
end
section
variable {X:Cx}
theorem znq {tg:Expr}{pins:List (Addr×Obj)}{σ:St}{H:Hp}{s:Shared}{R:It→Hp→Prop}{J:It}{tn:Nat→Heap→Prop}{tk:Nat} (I:Inv X pins σ H s) (o:Obj)
    (T:Turn X.prog X.w X.K tg J [s.heap.objs.size] s.heap.objs.size tn) (st:tn 0 (s.heap.push o)) (q:R J H):PIE X pins σ tg R (.ref s.heap.objs.size) { s with heap:=s.heap.push o,toks:=tk }:=by
  refine ⟨s.heap.objs.size,[s.heap.objs.size],tn,J,H,rfl,I.kept fun b ob e=>Heap.get?_push_of_some _ e,T,st,fun b hb=>?_,q⟩
  have e:b=s.heap.objs.size:=by simpa using hb
  subst e
  exact I.fpOk (Nat.le_refl _) (I.hok.fresh (Nat.le_refl _))
end
noncomputable def RgC (i j c:Int) (n:Nat):Prop:=c≠0∧c.natAbs<1073741824∧Builtin.Range.small i j c=true∧Builtin.Range.rangeSize i j c=n
theorem RgC.neg {i j:Int} (ha : -(2 ^ 62)≤i) (ha':i<2 ^ 62) (hb : -(2 ^ 62)≤j) (hb':j<2 ^ 62):RgC i j (-1) (i - j).toNat :=
  ⟨by decide,by decide,PySem.W.small_down ha ha' hb hb',PySem.W.rangeSize_downNat i j⟩
section
variable {X:Cx}{tg:Expr}
end
noncomputable def Itv (K:PySem.W.Frag) (a:Addr) (n:Nat):It :=
  ⟨fun i H=>i<n∧∃ (xs:List V) (x:V),SqL K H a xs∧xs[n - 1 - i]? = some x,fun i H x H'=>H'=H∧∀ xs,SqL K H a xs→xs[n - 1 - i]? = some x,fun i _=>n≤i⟩
theorem zsr {P:Program}{w:World}{K:PySem.W.Frag}{tg:Expr} (a it:Addr) (n:Nat):Turn P w K tg (Itv K a n) [it] it (fun i h=>i≤n∧h.IsRevIter it a ((n:Int) - 1 - (i:Nat))) where
  mem:=by simp
  obj:=fun i h st b hb=>by
    have e:b=it:=by simpa using hb
    subst e
    obtain ⟨_,o,e,c,d⟩:=st
    exact ⟨o,e,fun v z=>by rw [d] at z;cases z⟩
  keep:=fun i h h' st k=>⟨st.1,st.2.at fun o e=>k it (by simp) o e⟩
  item:=by
    intro X hP hw hK hc i pins s σ H E I hf st hg
    subst hP hw hK
    obtain ⟨hin,xs,x,hq,hx⟩:=hg
    obtain ⟨its,rv,p,hz⟩:=I.list hq
    obtain ⟨u,hu,ru⟩:=rv.get hx
    obtain ⟨f0,f1,f2,f3,f4,f5⟩:=hf it (by simp)
    obtain ⟨_,hit⟩:=st
    have e1:(n:Int) - 1 - ((i:Nat):Int)=((n - 1 - i:Nat):Int):=by omega
    rw [e1] at hit
    refine wpAny_pyNext_rev_item hit p.isList (x:=u) (by simpa using hu) fun h' st' sb=>?_
    have e2:((n - 1 - i:Nat):Int) - 1=(n:Int) - 1 - ((i+1:Nat):Int):=by omega
    rw [e2] at st'
    have I1:Inv X pins σ H { s with heap:=h' }:=I.turned (t':=s.toks) (fun b o hb e=>(sb.2 b hb).trans e) f0 f1 f3 f4 f5
    obtain ⟨o,e,c,d⟩:=id st'
    exact ⟨u,rfl,zrv (s:={ s with heap:=h' }) e c d (by decide) ⟨x,H,I1,ru,⟨rfl,fun ys hy=>by rw [I.list_inj hy hq];exact hx⟩,⟨hin,st'⟩,fun b hb=>(hf b hb).1⟩⟩
  done:=by
    intro X hP hw hK hc i pins s σ H E I hf st hg
    subst hP hw hK
    obtain ⟨f0,f1,f2,f3,f4,f5⟩:=hf it (by simp)
    obtain ⟨hin,hit⟩:=st
    have hge:n≤i:=hg
    have e1:(n:Int) - 1 - ((i:Nat):Int) = -1:=by omega
    rw [e1] at hit
    exact wpAny_pyNext_rev_end (I.ok.hd hc) hit fun h' eb=>⟨rfl,I.turned (t':=s.toks) (fun b o hb e=>eb b o hb e) f0 f1 f3 f4 f5⟩
  self:=fun A i s Q E st h=>wpAny_pyIter_revIter st.2 h
noncomputable def iRev (K:PySem.W.Frag) (ta:TA):TI:=fun σ H R=>ta σ H fun vs H1=>∃ (a:Addr) (xs:List V),vs=[.ref a]∧SqL K H1 a xs∧R (Itv K a xs.length) H1
section
variable {X:Cx}{tg:Expr}
theorem zhk {e:Expr}{ta:TA}{p pos:Pos} (hg:Gl X "reversed") (hm:X.mg "reversed"=none) (ha:PA X [e] ta) (hs:starEach [e] X.env=[(false,eval e X.env)]:=by rfl):PI X tg (.Call (.Name "reversed" p) [e] [] pos) (iRev X.K ta):=by
  intro pins s σ H R I h
  refine Call_ (ziq I hg hm zec (PyProof.Rows.callWith_type1 (thn (ha pos pins s σ H _ I h) fun us s1 ⟨vs,H1,I1,r1,q1⟩=>?_) hs rfl))
  obtain ⟨a,xs,e,hq,q⟩:=q1
  subst e
  cases r1 with
  | cons r rr =>
    cases rr
    cases r
    obtain ⟨its,rv,p',hz⟩:=I1.list hq
    have hl:=rv.length
    have e1:((its.toArray.size:Nat):Int) - 1=(xs.length:Int) - 1 - ((0:Nat):Int):=by simp only [List.size_toArray];omega
    refine call_reversed_list p'.isList (wpAny_pyIter_revIter (l:=a) (i:=((its.toArray.size:Nat):Int) - 1) ⟨_,Heap.get?_push_size _ rfl,rfl,rfl⟩ ?_)
    refine znq (tk:=s1.toks) I1 _ (zsr a _ xs.length) ⟨Nat.zero_le _,?_⟩ q
    rw [← e1]
    exact ⟨_,Heap.get?_push_size _ rfl,rfl,rfl⟩
end
noncomputable def Its (x:Str):It:=⟨fun i _=>i<x.cps.size,fun i H v H'=>H'=H∧∃ c,x.cps[i]? = some c∧v = .str ⟨#[c]⟩,fun i _=>x.cps.size≤i⟩
theorem zng {P:Program}{w:World}{K:PySem.W.Frag}{tg:Expr} (it:Addr) (x:Str) (t:Tok) (ty:String) (hty:ty="str_ascii_iterator"∨ty="str_iterator") :
    Turn P w K tg (Its x) [it] it (fun i h=>h.IsStrIter it ty x t i) where
  mem:=by simp
  obj:=fun i h st b hb=>by
    have e:b=it:=by simpa using hb
    subst e
    obtain ⟨o,e,c,d⟩:=st
    exact ⟨o,e,fun v z=>by rw [d] at z;cases z⟩
  keep:=fun i h h' st k=>let ⟨o,ho,r⟩:=st;⟨o,k it (by simp) o ho,r⟩
  item:=by
    intro X hP hw hK hc i pins s σ H E I hf st hg
    subst hP hw hK
    obtain ⟨f0,f1,f2,f3,f4,f5⟩:=hf it (by simp)
    have W:Walks X.prog X.w X.A it [it] [it] x.cps.size (SignAt x) (fun i h=>h.IsStrIter it ty x t i):=by
      rcases hty with e | e
      · rw [e];exact Walks.strAscii (I.ok.hd hc) it x t
      · rw [e];exact Walks.strWide (I.ok.hd hc) it x t
    have hno:["enumerate","zip","dict_itemiterator","dict_reverseitemiterator","odict_iterator","itertools.zip_longest","itertools.pairwise"].contains ty=false:=by
      rcases hty with e | e
      · rw [e];decide
      · rw [e];decide
    refine W.item i s _ _ hg st fun v h' tk hv st' kk=>?_
    obtain ⟨c,u,hcx,rfl⟩:=hv
    have I1:Inv X pins σ H { s with heap:=h',toks:=tk }:=I.turned (fun b o hb e=>kk b o (by simpa using hb) e) f0 f1 f3 f4 f5
    obtain ⟨oi,e,cc,dd⟩:=id st'
    exact ⟨_,rfl,zrv (s:={ s with heap:=h',toks:=tk }) e cc dd hno ⟨.str ⟨#[c]⟩,H,I1,⟨u,rfl⟩,⟨rfl,c,hcx,rfl⟩,st',fun b hb=>(hf b hb).1⟩⟩
  done:=by
    intro X hP hw hK hc i pins s σ H E I hf st hg
    subst hP hw hK
    obtain ⟨f0,f1,f2,f3,f4,f5⟩:=hf it (by simp)
    have hx:x.cps[i]? = none:=Array.getElem?_eq_none hg
    rcases hty with e | e
    · rw [e] at st
      exact wpAny_pyNext_ascii_end (I.ok.hd hc) st hx fun h' eb=>⟨rfl,I.turned (t':=s.toks) (fun b o hb e=>eb b o hb e) f0 f1 f3 f4 f5⟩
    · rw [e] at st
      exact wpAny_pyNext_wide_end (I.ok.hd hc) st hx fun h' eb=>⟨rfl,I.turned (t':=s.toks) (fun b o hb e=>eb b o hb e) f0 f1 f3 f4 f5⟩
  self:=fun A i s Q E st h=>by
    rcases hty with e | e
    · rw [e] at st;exact wpAny_pyIter_striter_ascii st h
    · rw [e] at st;exact wpAny_pyIter_striter_wide st h
noncomputable def iStr (te:TE):TI:=fun σ H R=>te σ H fun v H1=>∃ x,v = .str x∧R (Its x) H1
theorem zqx {X:Cx}{tg e:Expr}{te:TE} (he:PE X e te):PI X tg e (iStr te):=by
  intro pins s σ H R I h
  refine thn (he pins s σ H _ I h) fun v s1 ⟨y,H1,I1,r1,x,ex,q⟩=>?_
  subst ex
  obtain ⟨t,rfl⟩:=r1
  cases ha:x.cps.all (· < 128)
  · exact wpAny_pyIter_wide ha (znq (tk:=s1.toks) I1 _ (zng _ x t "str_iterator" (.inr rfl)) ⟨_,Heap.get?_push_size _ rfl,rfl,rfl⟩ q)
  · exact wpAny_pyIter_ascii ha (znq (tk:=s1.toks) I1 _ (zng _ x t "str_ascii_iterator" (.inl rfl)) ⟨_,Heap.get?_push_size _ rfl,rfl,rfl⟩ q)
section
variable {prog:Program}{w:World}{A:Around}{E:Value→Shared→Prop}{s:Shared}
end
theorem zio {α β:Type}{G:α→β→Prop}{l₁:List α}{l₂:List β} (h:Paired G l₁ l₂) : ∀ {i:Nat}{a:α},l₁[i]? = some a→∃ b,l₂[i]? = some b∧G a b:=by
  induction h with
  | nil=>intro i a e;simp at e
  | @cons a b l₁ l₂ r t ih =>
    intro i a' e
    cases i with
    | zero =>
      simp only [List.getElem?_cons_zero,Option.some.injEq] at e
      subst e
      exact ⟨b,rfl,r⟩
    | succ j =>
      simp only [List.getElem?_cons_succ] at e ⊢
      exact ih e
section
variable {X:Cx}{pins:List (Addr×Obj)}{σ:St}{H:Hp}{s:Shared}{d:Addr}{o:Obj}
end
section
variable {P:Program}{w:World}{K:PySem.W.Frag}{tg:Expr}{d:Addr}{o:Obj}{es:Array DictEntry}{ep:Nat}
end
section
variable {X:Cx}{tg e:Expr}{td:TE}{apos cpos:Pos}
end
noncomputable def Ite (K:PySem.W.Frag) (a:Addr):It :=
  ⟨fun i H=>∃ (xs:List V) (x:V),SqL K H a xs∧xs[i]? = some x,fun i H v H'=>∃ T x,v = .ref T∧H T=none∧H'=upd H T (.tup [.int (i:Nat),x])∧∀ xs,SqL K H a xs→xs[i]? = some x,fun i H=>∃ xs:List V,SqL K H a xs∧xs.length≤i⟩
theorem zpu {P:Program}{w:World}{K:PySem.W.Frag}{elts:List Expr}{kk:Nat}{tpos:Pos} (a e it:Addr) :
    Turn P w K (.Tuple elts kk tpos) (Ite K a) [e,it] e (fun i h=>(∃ old,IsEnum h e it ((i:Nat):Int) old)∧h.IsListIter it a i∧e≠it) where
  mem:=by simp
  obj:=fun i h st b hb=>by
    obtain ⟨⟨old,he⟩,⟨o,ho,hc,hd⟩,_⟩:=st
    have e':b=e∨b=it:=by simpa using hb
    rcases e' with z | z
    · rw [z];exact ⟨_,he,fun v q=>nomatch q⟩
    · rw [z];exact ⟨o,ho,fun v q=>by rw [hd] at q;cases q⟩
  keep:=fun i h h' st k=>let ⟨⟨old,he⟩,hi,hne⟩:=st;⟨⟨old,k e (by simp) _ he⟩,hi.at fun o q=>k it (by simp) o q,hne⟩
  item:=by
    intro X hP hw hK hc i pins s σ H E I hf st hg
    subst hP hw hK
    obtain ⟨⟨old,he⟩,hit,hne⟩:=st
    obtain ⟨xs,x,hq,hx⟩:=hg
    obtain ⟨its,rv,p,hz⟩:=I.list hq
    obtain ⟨u,hu,ru⟩:=rv.get hx
    have hel:e<s.heap.objs.size:=Heap.lt_size he
    have hil:it<s.heap.objs.size:=by obtain ⟨_,q,_⟩:=hit;exact Heap.lt_size q
    refine wpAny_pyNext_enum_item he hit p.isList (x:=u) (by simpa using hu) hne fun h' ho hit' hT hsz hk=>?_
    refine ⟨_,rfl,wpAny_letOwnedTupleGo_enum (s:={ s with heap:=h',toks:=s.toks+1 }) ho fun h'' he' sb=>?_⟩
    have hT2:h''.get? s.heap.objs.size=some { cls := .type "tuple",data := .seq #[.int i s.toks,u] }:=(sb.2 _ (Nat.ne_of_gt hel)).trans hT
    have new:zbp X.prog X.w (upd H s.heap.objs.size (.tup [.int (i:Nat),x])) h'' s.heap.objs.size (.tup [.int (i:Nat),x]) :=
      ⟨by show 2≤sizeLine;decide,[.int i s.toks,u],.cons ⟨_,rfl⟩ (.cons ru .nil),⟨_,hT2,rfl,_,rfl⟩⟩
    have I1:Inv X pins σ (upd H s.heap.objs.size (.tup [.int (i:Nat),x])) { s with heap:=h'',toks:=s.toks+1 } :=
      I.turnedNew (ch:=[e,it]) (fun b ob hb q=>(sb.2 b (fun z=>hb (by simp [z]))).trans (hk b ob (fun z=>hb (by simp [z])) (fun z=>hb (by simp [z])) q)) hf (Nat.le_refl _) new
    refine ⟨.ref s.heap.objs.size,_,I1,rfl,⟨_,x,rfl,I.hok.fresh (Nat.le_refl _),rfl,fun ys hy=>by rw [I.list_inj hy hq];exact hx⟩,⟨⟨u,?_⟩,hit'.at fun o q=>(sb.2 it (Ne.symm hne)).trans q,hne⟩,fun b hb=>?_⟩
    · have e1:((i+1:Nat):Int)=(i:Int)+1:=by omega
      rw [e1];exact he'
    · have hb':b<s.heap.objs.size:=by
        have e':b=e∨b=it:=by simpa using hb
        rcases e' with z | z
        · rw [z];exact hel
        · rw [z];exact hil
      rw [zah (Nat.ne_of_lt hb')]
      exact (hf b hb).1
  done:=by
    intro X hP hw hK hc i pins s σ H E I hf st hg
    subst hP hw hK
    obtain ⟨⟨old,he⟩,hit,hne⟩:=st
    obtain ⟨xs,hq,hx⟩:=hg
    obtain ⟨its,rv,p,hz⟩:=I.list hq
    obtain ⟨f0,f1,f2,f3,f4,f5⟩:=hf it (by simp)
    have hl:=rv.length
    exact wpAny_pyNext_enum_end (I.ok.hd hc) he hit p.isList (by simp;omega) fun h' eb=>⟨rfl,I.turned (t':=s.toks) (fun b o hb q=>eb b o hb q) f0 f1 f3 f4 f5⟩
  self:=fun A i s Q E st h=>let ⟨⟨_,he⟩,_⟩:=st;wpAny_pyIter_enum he h
noncomputable def zwo (K:PySem.W.Frag) (ta:TA):TI:=fun σ H R=>ta σ H fun vs H1=>∃ a xs,vs=[.ref a]∧SqL K H1 a xs∧R (Ite K a) H1
theorem zvz {X:Cx}{e:Expr}{ta:TA}{p pos tpos:Pos}{elts:List Expr}{kk:Nat} (hg:Gl X "enumerate") (hm:X.mg "enumerate"=none) (ha:PA X [e] ta) (hs:starEach [e] X.env=[(false,eval e X.env)]:=by rfl) :
    PI X (.Tuple elts kk tpos) (.Call (.Name "enumerate" p) [e] [] pos) (zwo X.K ta):=by
  intro pins s σ H R I h
  refine Call_ (ziq I hg hm boot_enumerate (PyProof.Rows.callWith_type1 (thn (ha pos pins s σ H _ I h) fun us s1 ⟨vs,H1,I1,r1,q1⟩=>?_) hs rfl))
  obtain ⟨a,xs,ex,hq,q⟩:=q1
  subst ex
  cases r1 with
  | cons r rr =>
    cases rr
    cases r
    obtain ⟨its,rv,p',hz⟩:=I1.list hq
    refine call_enumerate_list p'.isList fun h' he hit hsz hk=>wpAny_pyIter_enum he ?_
    have I2:Inv X pins σ H1 { s1 with heap:=h' }:=I1.kept (t':=s1.toks) hk
    refine ⟨s1.heap.objs.size+1,[s1.heap.objs.size+1,s1.heap.objs.size],_,_,H1,rfl,I2,zpu a (s1.heap.objs.size+1) s1.heap.objs.size,⟨⟨.none,he⟩,hit,Nat.succ_ne_self _⟩,fun b hb=>?_,q⟩
    have e':b=s1.heap.objs.size+1∨b=s1.heap.objs.size:=by simpa using hb
    have hle:s1.heap.objs.size≤b:=by
      rcases e' with z | z
      · rw [z];exact Nat.le_add_right _ _
      · rw [z];exact Nat.le_refl _
    exact I1.fpOk hle (I1.hok.fresh hle)
end L2
section
end
section
namespace TL
open PySem PySem.Builtin PySem.Builtin.Str PySem.StrLaws
noncomputable abbrev tl (x:Str):List Nat:=x.cps.toList
theorem ze7 (x:Str):x.length=(tl x).length:=by simp [tl,Str.length]
theorem zdu {x y:Str} (h:tl x=tl y):x=y:=Str.ext' (Array.toList_inj.mp h)
theorem zdl (x y:Str):tl (x++y)=tl x++tl y:=by
  show (x++y).cps.toList=_
  rw [Str.cps_append,Array.toList_append]
theorem zw8 (l:List Nat):tl ⟨l.toArray⟩=l:=rfl
theorem zx1 (x:Str):(⟨(tl x).toArray⟩:Str)=x:=zdu rfl
theorem zcy : ∀ {l m:List Str},l.map tl=m.map tl→l=m
  | [],[],_=>rfl
  | [],_::_,h=>by simp at h
  | _::_,[],h=>by simp at h
  | x::l,y::m,h=>by
    rw [List.map_cons,List.map_cons] at h
    injection h with h1 h2
    rw [zdu h1,zcy h2]
theorem zlz (s:String):tl (Str.ofString s)=s.toList.map Char.toNat:=PyProof.Rows.signs_ofString s
noncomputable def pre (S l:List Nat):Bool:=l.take S.length == S
noncomputable def spl (S:List Nat):Nat→List Nat→List Nat→List (List Nat)
  | _,acc,[]=>[acc]
  | 0,acc,c::r=>if pre S (c::r)=true then acc::spl S (S.length - 1) [] r else spl S 0 (acc++[c]) r
  | k+1,acc,_::r=>spl S k acc r
noncomputable def par (S:List Nat):List Nat→List Nat→Option (List Nat×List Nat)
  | _,[]=>none
  | acc,c::r=>if pre S (c::r)=true then some (acc,(c::r).drop S.length) else par S (acc++[c]) r
theorem zef (S:List Nat) (k:Nat) (acc:List Nat):spl S k acc []=[acc]:=by cases k <;> rfl
theorem zjd {S acc r:List Nat}{c:Nat} (h:pre S (c::r)=true):spl S 0 acc (c::r)=acc::spl S (S.length - 1) [] r:=by
  show (if pre S (c::r)=true then acc::spl S (S.length - 1) [] r else spl S 0 (acc++[c]) r)=_
  rw [if_pos h]
theorem zgl {S acc r:List Nat}{c:Nat} (h:pre S (c::r)=false):spl S 0 acc (c::r)=spl S 0 (acc++[c]) r:=by
  show (if pre S (c::r)=true then acc::spl S (S.length - 1) [] r else spl S 0 (acc++[c]) r)=_
  rw [if_neg (by rw [h];exact Bool.false_ne_true)]
theorem zgk (S:List Nat) : ∀ (k:Nat) (acc l:List Nat),spl S k acc l=spl S 0 acc (l.drop k)
  | 0,_,_=>by rw [List.drop_zero]
  | k+1,acc,[]=>by rw [List.drop_nil,zef,zef]
  | k+1,acc,c::r=>by
    show spl S k acc r=spl S 0 acc (r.drop k)
    exact zgk S k acc r
theorem zv4 {S acc r:List Nat}{c:Nat} (h:pre S (c::r)=true):par S acc (c::r)=some (acc,(c::r).drop S.length):=by
  show (if pre S (c::r)=true then some (acc,(c::r).drop S.length) else par S (acc++[c]) r)=_
  rw [if_pos h]
theorem zth {S acc r:List Nat}{c:Nat} (h:pre S (c::r)=false):par S acc (c::r)=par S (acc++[c]) r:=by
  show (if pre S (c::r)=true then some (acc,(c::r).drop S.length) else par S (acc++[c]) r)=_
  rw [if_neg (by rw [h];exact Bool.false_ne_true)]
theorem zqt {S:List Nat} (hS:S≠[]):pre S []=false:=by
  cases S with
  | nil=>exact absurd rfl hS
  | cons s S=>rfl
theorem zmc {s c:Nat} (S r:List Nat) (h:c≠s):pre (s::S) (c::r)=false:=by
  cases hp:pre (s::S) (c::r) with
  | false=>rfl
  | true =>
    have e:(c::r).take (s::S).length=s::S:=eq_of_beq hp
    rw [List.length_cons,List.take_succ_cons] at e
    injection e with e1 e2
    exact absurd e1 h
theorem znm (S r:List Nat):pre S (S++r)=true:=by
  show ((S++r).take S.length == S)=true
  have e:(S++r).take S.length=S:=List.take_left
  rw [e] <;> exact beq_self_eq_true S
theorem zc1 {L:List Nat}{a:Nat} (h:a<L.length) : ∃ c,L.drop a=c::L.drop (a+1):=⟨L[a],List.drop_eq_getElem_cons h⟩
theorem zg9 (S L:List Nat) : ∀ (m a:Nat) (acc:List Nat),a+m≤L.length→(∀ k,a≤k→k<a+m→pre S (L.drop k)=false) →
    spl S 0 acc (L.drop a)=spl S 0 (acc++(L.drop a).take m) (L.drop (a+m))
  | 0,a,acc,_,_=>by rw [List.take_zero,List.append_nil,Nat.add_zero]
  | m+1,a,acc,h,hn=>by
    have hlt:a<L.length:=by omega
    obtain ⟨c,e⟩:=zc1 hlt
    have h0:=hn a (Nat.le_refl _) (by omega)
    have ih:=zg9 S L m (a+1) (acc++[c]) (by omega) (fun k h1 h2=>hn k (by omega) (by omega))
    have e2:a+1+m=a+(m+1):=by omega
    rw [e2] at ih
    rw [e] at h0
    rw [e,zgl h0,ih,List.take_succ_cons,List.append_assoc] <;> rfl
theorem zjq (S L:List Nat) : ∀ (m a:Nat) (acc:List Nat),a+m≤L.length→(∀ k,a≤k→k<a+m→pre S (L.drop k)=false) →
    par S acc (L.drop a)=par S (acc++(L.drop a).take m) (L.drop (a+m))
  | 0,a,acc,_,_=>by rw [List.take_zero,List.append_nil,Nat.add_zero]
  | m+1,a,acc,h,hn=>by
    have hlt:a<L.length:=by omega
    obtain ⟨c,e⟩:=zc1 hlt
    have h0:=hn a (Nat.le_refl _) (by omega)
    have ih:=zjq S L m (a+1) (acc++[c]) (by omega) (fun k h1 h2=>hn k (by omega) (by omega))
    have e2:a+1+m=a+(m+1):=by omega
    rw [e2] at ih
    rw [e] at h0
    rw [e,zth h0,ih,List.take_succ_cons,List.append_assoc] <;> rfl
theorem zgq (L:List Nat) (a b:Nat):(L.drop a).drop b=L.drop (a+b):=by
  first
    | rw [List.drop_drop]
    | rw [List.drop_drop,Nat.add_comm]
theorem zuk {S L:List Nat} (hS:S≠[]) {c:Nat}{acc:List Nat} (h:pre S (L.drop c)=true):spl S 0 acc (L.drop c)=acc::spl S 0 [] (L.drop (c+S.length)):=by
  rw [← zgq]
  cases e:L.drop c with
  | nil=>rw [e,zqt hS] at h;cases h
  | cons d r =>
    rw [e] at h
    rw [zjd h,zgk]
    cases S with
    | nil=>exact absurd rfl hS
    | cons s S=>rfl
theorem zuw {S L:List Nat} (hS:S≠[]) {c:Nat}{acc:List Nat} (h:pre S (L.drop c)=true):par S acc (L.drop c)=some (acc,L.drop (c+S.length)):=by
  rw [← zgq]
  cases e:L.drop c with
  | nil=>rw [e,zqt hS] at h;cases h
  | cons d r =>
    rw [e] at h
    rw [zv4 h]
theorem zsj {x y:Str} (hy:tl y≠[]) (i:Nat):At x y x.length i↔pre (tl y) ((tl x).drop i)=true:=by
  have hx:=ze7 x
  have hl:=ze7 y
  constructor
  · intro h
    have h2:=h.2
    rw [subAt_eq,hl] at h2
    exact h2
  · intro h
    have e:((tl x).drop i).take (tl y).length=tl y:=eq_of_beq h
    have e1:=congrArg List.length e
    rw [List.length_take,List.length_drop] at e1
    have e2:0<(tl y).length:=List.length_pos_iff.mpr hy
    refine ⟨by omega,?_⟩
    rw [subAt_eq,hl]
    exact h
theorem ztn {x y:Str} (hy:tl y≠[]) {i:Nat} (h : ¬ At x y x.length i):pre (tl y) ((tl x).drop i)=false:=by
  cases hp:pre (tl y) ((tl x).drop i) with
  | false=>rfl
  | true=>exact absurd ((zsj hy i).mpr hp) h
theorem len1 {y:Str} (hy:tl y≠[]):1≤y.length:=by
  have e2:0<(tl y).length:=List.length_pos_iff.mpr hy
  rw [ze7 y]
  exact e2
theorem zg3 (x:Str) (i j:Nat):tl (strSub x i j)=((tl x).drop i).take (j - i):=strSub_toList x i j
theorem zew (x:Str) (i:Nat):tl (strSub x i x.length)=(tl x).drop i:=by
  rw [zg3,ze7 x]
  exact List.take_of_length_le (by rw [List.length_drop] <;> omega)
theorem zk0 {x y:Str} (hy:tl y≠[]) : ∀ (cuts:List Nat) (a f:Nat),a≤(tl x).length→ChainG x y x.length a cuts f→(∀ k,f≤k→¬ At x y x.length k) →
    (partsFrom x y.length a cuts).map tl=spl (tl y) 0 [] ((tl x).drop a)
  | [],a,f,ha,h,hn=>by
    have e:f=a:=h
    subst e
    show [tl (strSub x f x.length)]=_
    have run:=zg9 (tl y) (tl x) ((tl x).length - f) f [] (by omega) (fun k h1 _=>ztn hy (hn k h1))
    have e2:f+((tl x).length - f)=(tl x).length:=by omega
    rw [e2,List.drop_length,zef,List.nil_append,List.take_of_length_le (by rw [List.length_drop] <;> omega)] at run
    rw [run,zew]
  | c::r,a,f,ha,h,hn=>by
    obtain ⟨h1,h2,h3,h4⟩:=h
    have hc:c+y.length≤x.length:=h2.1
    have hx:=ze7 x
    have hl:=ze7 y
    have ih:=zk0 hy r (c+y.length) f (by omega) h4 hn
    show tl (strSub x a c)::(partsFrom x y.length (c+y.length) r).map tl=_
    have run:=zg9 (tl y) (tl x) (c - a) a [] (by omega) (fun k k1 k2=>ztn hy (h3 k k1 (by omega)))
    have e2:a+(c - a)=c:=by omega
    rw [e2,List.nil_append,zuk hy ((zsj hy c).mp h2)] at run
    rw [run,ih,zg3,hl]
theorem zkj (x y:Str) (hy:tl y≠[]) (hk : ¬ Builtin.Str.strKind x<Builtin.Str.strKind y):(Txt.split x y).map tl=spl (tl y) 0 [] (tl x):=by
  obtain ⟨f,g,hn⟩:=occ_tight x y (len1 hy)
  have key:=zk0 hy _ 0 f (Nat.zero_le _) g hn
  rw [List.drop_zero] at key
  have none_case:occurrences x y 0 x.length (x.length+1)=[]→[x].map tl=spl (tl y) 0 [] (tl x):=fun ho=>by
    rw [ho] at key
    rw [← key]
    show [tl x]=[tl (strSub x 0 x.length)]
    rw [sub_whole]
  unfold Txt.split
  by_cases h1:(decide (x.length<y.length) || decide (Builtin.Str.strKind x<Builtin.Str.strKind y))=true
  · rw [if_pos h1]
    have hlt:x.length<y.length:=by
      simp only [Bool.or_eq_true,decide_eq_true_eq] at h1
      rcases h1 with h | h
      · exact h
      · exact absurd h hk
    refine none_case ?_
    cases ho:occurrences x y 0 x.length (x.length+1) with
    | nil=>rfl
    | cons c r =>
      rw [ho] at g
      have hc:c+y.length≤x.length:=g.2.1.1
      omega
  · rw [if_neg h1]
    by_cases h2:(occurrences x y 0 x.length (x.length+1)).isEmpty=true
    · rw [if_pos h2]
      exact none_case (List.isEmpty_iff.mp h2)
    · rw [if_neg h2,partsBetween_eq]
      exact key
theorem zrj {x y:Str} (h:y.cps.all (· < 256)=true) : ¬ Builtin.Str.strKind x<Builtin.Str.strKind y:=by
  have e:Builtin.Str.strKind y=1:=by unfold PySem.Builtin.Str.strKind;rw [if_pos h]
  rw [e]
  unfold PySem.Builtin.Str.strKind
  split
  · omega
  · split <;> omega
theorem zjo (x y:Str) (hy:tl y≠[]) :
    Txt.partition x y=(match par (tl y) [] (tl x) with | some (a,b)=>(⟨a.toArray⟩,y,⟨b.toArray⟩) | none=>(x,Str.empty,Str.empty)):=by
  have hx:=ze7 x
  have hl:=ze7 y
  rcases PyProof.Rows.partition_whole x y with ⟨e,hn⟩ | ⟨i,e,hi,hn⟩
  · have run:=zjq (tl y) (tl x) (tl x).length 0 [] (by omega) (fun k _ _=>ztn hy (hn k))
    rw [List.drop_zero,Nat.zero_add,List.drop_length] at run
    rw [e,run] <;> rfl
  · have hb:i+y.length≤x.length:=hi.1
    have run:=zjq (tl y) (tl x) i 0 [] (by omega) (fun k _ k2=>ztn hy (hn k (by omega)))
    rw [List.drop_zero,Nat.zero_add,List.nil_append,zuw hy ((zsj hy i).mp hi)] at run
    rw [e,run]
    have e1:strSub x 0 i=⟨((tl x).take i).toArray⟩:=zdu (by rw [zg3,List.drop_zero,Nat.sub_zero])
    have e2:strSub x (i+y.length) x.length=⟨((tl x).drop (i+(tl y).length)).toArray⟩:=zdu (by rw [zew,hl])
    rw [e1,e2] <;> rfl
theorem zsx {S p rest acc:List Nat} (hS:S≠[]) (h : ∀ i,i<p.length→pre S ((p++(S++rest)).drop i)=false) :
    spl S 0 acc (p++(S++rest))=(acc++p)::spl S 0 [] rest:=by
  have run:=zg9 S (p++(S++rest)) p.length 0 acc (by rw [List.length_append];omega) (fun k _ k2=>h k (by omega))
  have ed:(p++(S++rest)).drop p.length=S++rest:=List.drop_left
  rw [List.drop_zero,Nat.zero_add,List.take_left] at run
  rw [run,zuk hS (by rw [ed];exact znm S rest),← zgq,ed,List.drop_left]
theorem zsy {S p acc:List Nat} (h : ∀ i,i<p.length→pre S (p.drop i)=false):spl S 0 acc p=[acc++p]:=by
  have run:=zg9 S p p.length 0 acc (by omega) (fun k _ k2=>h k (by omega))
  rw [List.drop_zero,Nat.zero_add,List.drop_length,zef,List.take_length] at run
  exact run
theorem ztg {S p rest acc:List Nat} (hS:S≠[]) (h : ∀ i,i<p.length→pre S ((p++(S++rest)).drop i)=false) :
    par S acc (p++(S++rest))=some (acc++p,rest):=by
  have run:=zjq S (p++(S++rest)) p.length 0 acc (by rw [List.length_append];omega) (fun k _ k2=>h k (by omega))
  have ed:(p++(S++rest)).drop p.length=S++rest:=List.drop_left
  rw [List.drop_zero,Nat.zero_add,List.take_left] at run
  rw [run,zuw hS (by rw [ed];exact znm S rest),← zgq,ed,List.drop_left]
theorem zmr {s:Nat}{S p q:List Nat} (h:s∉p) : ∀ i,i<p.length→pre (s::S) ((p++q).drop i)=false:=fun i hi=>by
  have hlt:i<(p++q).length:=by rw [List.length_append];omega
  have e:(p++q).drop i=(p++q)[i]::(p++q).drop (i+1):=List.drop_eq_getElem_cons hlt
  rw [e]
  refine zmc _ _ fun z=>h ?_
  have e1:(p++q)[i]=p[i]:=List.getElem_append_left hi
  rw [← z,e1]
  exact List.getElem_mem hi
theorem zkk {s:Nat}{S p rest acc:List Nat} (h:s∉p):spl (s::S) 0 acc (p++(s::S++rest))=(acc++p)::spl (s::S) 0 [] rest :=
  zsx (by simp) (zmr h)
theorem zha {s:Nat}{S p acc:List Nat} (h:s∉p):spl (s::S) 0 acc p=[acc++p]:=zsy fun i hi=>by
  have z:=zmr (S:=S) (q:=[]) h i hi
  rw [List.append_nil] at z
  exact z
theorem zq4 {s:Nat}{S p rest acc:List Nat} (h:s∉p):par (s::S) acc (p++(s::S++rest))=some (acc++p,rest):=ztg (by simp) (zmr h)
noncomputable def zhr (S:List Nat):List (List Nat)→List Nat
  | []=>[]
  | [p]=>p
  | p::q::r=>p++(S++zhr S (q::r))
theorem zl0 (y:Str) : ∀ parts:List Str,tl (Str.join y parts)=zhr (tl y) (parts.map tl)
  | []=>rfl
  | [_]=>rfl
  | x::z::r=>by
    show tl (x++y++Str.join y (z::r))=tl x++(tl y++zhr (tl y) ((z::r).map tl))
    rw [zdl,zdl,zl0 y (z::r),List.append_assoc]
theorem zwh (y:Str) (parts:List Str):Txt.join y parts=Str.join y parts:=glued_eq_join y parts
theorem zjp {y:Str}{s:Nat}{S:List Nat} (ey:tl y=s::S) {a b:Str} (h:s∉tl a):Txt.partition (a++y++b) y=(a,y,b):=by
  rw [zjo _ y (by rw [ey];simp),zdl,zdl,List.append_assoc,ey,zq4 h]
  show ((⟨([]++tl a).toArray⟩:Str),y,(⟨(tl b).toArray⟩:Str))=_
  rw [List.nil_append,zx1,zx1]
end TL
end
namespace L2
open PySem PySem.Spec PyProof.Rows
theorem zkb : ∀ l:List (Str×Tok),Vals ((l.map (·.1)).map V.str) (strValues l)
  | [] => .nil
  | p::r => .cons ⟨p.2,rfl⟩ (zkb r)
theorem zdn : ∀ {ys:List Str}{us:List Value},Vals (ys.map V.str) us→StrsAre us ys
  | [],_,.nil => .nil
  | y::ys,_,.cons r t=>by
    obtain ⟨k,rfl⟩:=r
    exact .cons y k (zdn t)
noncomputable def zgn (ys:List Str):Hp→VK→Prop:=fun H Q=>∀ p,H p=none→Q (.ref p) (upd H p (.lst (ys.map V.str)))
section
variable {X:Cx}{pins:List (Addr×Obj)}{σ:St}{H:Hp}{s:Shared}{Q:VK}
theorem zhp {l:List (Str×Tok)}{ys:List Str}{k:Nat} (I:Inv X pins σ H s) (e:l.map (·.1)=ys) (hz:ys.length≤sizeLine) (h:zgn ys H Q) :
    EP X pins σ Q (.ref s.heap.objs.size) { s with toks:=k,heap:=s.heap.push { cls := .type "list",data := .seq (strValues l).toArray } }:=by
  have hp:=I.hok.fresh (Nat.le_refl _)
  refine ⟨.ref s.heap.objs.size,upd H s.heap.objs.size (.lst (ys.map V.str)),I.laid (fun b u q=>Heap.get?_push_of_some _ q) (Nat.le_refl _) ⟨by rw [List.length_map];exact hz,strValues l,_,?_,Heap.get?_push_size _ rfl⟩,rfl,h _ hp⟩
  rw [← e]
  exact zkb l
theorem zir {x y z:Str}{t u v:Tok}{k:Nat} (I:Inv X pins σ H s) (h : ∀ p,H p=none→Q (.ref p) (upd H p (.tup [.str x,.str y,.str z]))) :
    EP X pins σ Q (.ref s.heap.objs.size) { s with toks:=k,heap:=s.heap.push { cls := .type "tuple",data := .seq [Value.str x t,.str y u,.str z v].toArray } }:=by
  have hp:=I.hok.fresh (Nat.le_refl _)
  exact ⟨.ref s.heap.objs.size,upd H s.heap.objs.size (.tup [.str x,.str y,.str z]),I.laid (fun b u q=>Heap.get?_push_of_some _ q) (Nat.le_refl _)
    ⟨by show 3≤sizeLine;decide,[Value.str x t,.str y u,.str z v],.cons ⟨t,rfl⟩ (.cons ⟨u,rfl⟩ (.cons ⟨v,rfl⟩ .nil)),_,Heap.get?_push_size _ rfl,rfl,_,rfl⟩,rfl,h _ hp⟩
end
section
variable {X:Cx}
theorem zn1:MtR X "str.split" (fun x xs H Q=>∃ a b,x = .str a∧xs=[.str b]∧(b.length == 0)=false∧a.length+2≤sizeLine∧zgn (Txt.split a b) H Q):=by
  intro pins s σ H x xs v us Q I rx rs h
  obtain ⟨a,b,rfl,rfl,hb,hz,h⟩:=h
  obtain ⟨t,rfl⟩:=rx
  cases rs with
  | cons r1 rs =>
    cases rs
    obtain ⟨u,rfl⟩:=r1
    have hl:(Txt.split a b).length≤sizeLine:=Nat.le_trans (PyProof.Rows.split_le a b) hz
    have hn:(Builtin.Str.partsBetween a (Builtin.Str.occurrences a b 0 a.length (a.length+1)) b.length).length≤sizeLine:=by
      have e1:=StrLaws.occ_length_le a b 0 a.length (a.length+1)
      rw [length_partsBetween];omega
    cases h1:(decide (a.length<b.length) || decide (Builtin.Str.strKind a<Builtin.Str.strKind b))
    · cases hf:(Builtin.Str.occurrences a b 0 a.length (a.length+1)).isEmpty
      · refine call_meets F.slot_str_split (typeIs_str _ _ _) F.entry_str_split (F.args_str_split_2 _ _) (meets_str_split_sep a b t u h1 hb hf (by omega) hn) ?_
        show EP X pins σ Q (.ref s.heap.objs.size) { s with toks:=_,heap:=s.heap.push { cls := .type "list",data := .seq (strsFrom s.toks (Builtin.Str.partsBetween a (Builtin.Str.occurrences a b 0 a.length (a.length+1)) b.length)).toArray } }
        rw [strsFrom_eq]
        exact zhp (ys:=Txt.split a b) I ((numbered_texts _ _).trans ((if_neg (ne_true_of_eq_false h1)).trans (if_neg (ne_true_of_eq_false hf))).symm) hl h
      · refine call_meets F.slot_str_split (typeIs_str _ _ _) F.entry_str_split (F.args_str_split_2 _ _) (meets_str_split_not_found a b t u h1 hb hf) ?_
        exact zhp (l:=[(a,t)]) (ys:=Txt.split a b) (k:=s.toks) I ((if_neg (ne_true_of_eq_false h1)).trans (if_pos hf)).symm hl h
    · refine call_meets F.slot_str_split (typeIs_str _ _ _) F.entry_str_split (F.args_str_split_2 _ _) (meets_str_split_cannot_occur a b t u h1) ?_
      exact zhp (l:=[(a,t)]) (ys:=Txt.split a b) (k:=s.toks) I (if_pos h1).symm hl h
theorem zk4:MtR X "str.partition" (fun x xs H Q=>∃ a b,x = .str a∧xs=[.str b]∧(b.length == 0)=false∧a.length≤sizeLine ∧
    ∀ p,H p=none→Q (.ref p) (upd H p (.tup [.str (Txt.partition a b).1,.str (Txt.partition a b).2.1,.str (Txt.partition a b).2.2]))):=by
  intro pins s σ H x xs v us Q I rx rs h
  obtain ⟨a,b,rfl,rfl,hb,hz,h⟩:=h
  obtain ⟨t,rfl⟩:=rx
  cases rs with
  | cons r1 rs =>
    cases rs
    obtain ⟨u,rfl⟩:=r1
    refine call_meets F.slot_str_partition (typeIs_str _ _ _) F.entry_str_partition (F.args_str_partition_2 _ _) (meets_str_partition a b t u hb hz) ?_
    unfold Txt.partition at h
    revert h
    cases Builtin.Str.occurrences a b 0 a.length 1 with
    | nil=>intro h;exact zir I h
    | cons i r=>intro h;exact zir I h
theorem zwc:MtR X "str.join" (fun x xs H Q=>∃ a p,∃ ys:List Str,x = .str a∧xs=[.ref p]∧(SqL X.K H p (ys.map V.str)∨SqT X.K H p (ys.map V.str)) ∧
    (ys.map (·.length)).sum+ys.length * a.length≤16777216∧Q (.str (Txt.join a ys)) H):=by
  intro pins s σ H x xs v us Q I rx rs h
  obtain ⟨a,p,ys,rfl,rfl,hp,hz,h⟩:=h
  obtain ⟨t,rfl⟩:=rx
  cases rs with
  | cons r1 rs =>
    cases rs
    cases r1
    rcases hp with hp | hp
    · obtain ⟨its,r,⟨o,n,ho,hc,_,hd⟩,_⟩:=I.list hp
      exact PyProof.Rows.join_list (items:=its.toArray) ⟨o,ho,hc,n,hd⟩ (by rw [List.toList_toArray];exact zdn r) hz fun t' k=>⟨.str _,H,I.tok k,⟨t',rfl⟩,h⟩
    · obtain ⟨its,r,ht,_⟩:=I.tuple hp
      exact PyProof.Rows.join_tuple (items:=its.toArray) ht (by rw [List.toList_toArray];exact zdn r) hz fun t' k=>⟨.str _,H,I.tok k,⟨t',rfl⟩,h⟩
theorem mt1 {id:String}{g:Str→Str→V} (rule : ∀ (a b:Str) (t u:Tok) (s:Shared) (Q:Value→Shared→Prop),(∀ (v:Value) (k:Nat),RelV (g a b) v→Q v { s with toks:=k }) →
    wpAny (model X.prog X.w) X.A (call (.builtin id) [.str a t,.str b u]) Q X.xe s):MtR X id (fun x xs H Q=>∃ a b,x = .str a∧xs=[.str b]∧Q (g a b) H):=by
  intro pins s σ H x xs v us Q I rx rs h
  obtain ⟨a,b,rfl,rfl,h⟩:=h
  obtain ⟨t,rfl⟩:=rx
  cases rs with
  | cons r1 rs =>
    cases rs
    obtain ⟨u,rfl⟩:=r1
    exact rule a b t u s _ fun v k r=>⟨g a b,H,I.tok k,r,h⟩
theorem zjv:MtR X "str.startswith" (fun x xs H Q=>∃ a b,x = .str a∧xs=[.str b]∧Q (.bl (Txt.startswith a b)) H) :=
  mt1 (g:=fun a b => .bl (Txt.startswith a b)) fun _ _ _ _ s _ h=>PySem.SC.startswith (h _ s.toks rfl)
theorem zcl:zeu X (.type "int") (fun xs H Q=>∃ a n,xs=[.str a]∧PySem.intText? a=some n∧a.length≤640∧Q (.int n) H):=by
  intro pins s σ H xs us Q I rs h
  obtain ⟨a,n,rfl,hn,hl,h⟩:=h
  cases rs with
  | cons r1 rs =>
    cases rs
    obtain ⟨t,rfl⟩:=r1
    exact PySem.W.KIN.call_text hn hl ⟨.int n,H,I.tok _,⟨_,rfl⟩,h⟩
end
section
variable {X:Cx}{o e:Expr}{to te:TE}
noncomputable def tM0 (r:V→List V→Hp→VK→Prop) (to:TE):TE:=fun σ H Q=>to σ H fun x H1=>(∃ a,x = .str a)∧r x [] H1 Q
noncomputable def tM1 (r:V→List V→Hp→VK→Prop) (to te:TE):TE:=fun σ H Q=>to σ H fun x H1=>(∃ a,x = .str a)∧te σ H1 fun y H2=>r x [y] H2 Q
theorem zta {id:String}{name:Str}{apos pos:Pos}{r:V→List V→Hp→VK→Prop} (slot:Slot "str" name id) (ty:typeOf (.builtin id)=pure (.type "method_descriptor")) (rule:MtR X id r) (ho:PE X o to) (he:PE X e te)
    (hs:starEach [e] X.env=[(false,eval e X.env)]:=by rfl) (hbase:attributeBase o name X.env (eval o X.env)=eval o X.env:=by rfl) (hline:(apos.endLine == pos.line)=true:=by rfl) :
    PE X (.Call (.Attribute o name apos) [e] [] pos) (tM1 r to te):=by
  intro pins s σ H Q I h
  refine PySem.Call_method1 hbase hs hline (thn (ho pins s σ H _ I h) fun v s1 ⟨x,H1,I1,r1,q1⟩=>?_)
  obtain ⟨⟨a,rfl⟩,q1⟩:=q1
  obtain ⟨t,rfl⟩:=_root_.id r1
  refine ⟨"str",_,F.plainAttrs_str,slot,ty,typeIs_str _ _ _,(fun _ e=>nomatch e),Calls.callWith_builtin rfl (Calls.evalArgs_plain (Calls.spliced_cons ?_))⟩
  exact thn (he pins s1 σ H1 _ I1 q1) fun u s2 ⟨y,H2,I2,r2,q2⟩=>Calls.spliced_nil (rule pins s2 σ H2 _ [y] _ [u] Q I2 r1 (.cons r2 .nil) q2)
theorem zns {apos pos:Pos} (ho:PE X o to) (he:PE X e te) (hs:starEach [e] X.env=[(false,eval e X.env)]:=by rfl) (hbase:attributeBase o "split" X.env (eval o X.env)=eval o X.env:=by rfl) (hline:(apos.endLine == pos.line)=true:=by rfl) :
    PE X (.Call (.Attribute o "split" apos) [e] [] pos) (tM1 (fun x xs H Q=>∃ a b,x = .str a∧xs=[.str b]∧(b.length == 0)=false∧a.length+2≤sizeLine∧zgn (Txt.split a b) H Q) to te) :=
  zta F.slot_str_split F.type_str_split zn1 ho he hs hbase hline
theorem zkz {apos pos:Pos} (ho:PE X o to) (he:PE X e te) (hs:starEach [e] X.env=[(false,eval e X.env)]:=by rfl) (hbase:attributeBase o "partition" X.env (eval o X.env)=eval o X.env:=by rfl) (hline:(apos.endLine == pos.line)=true:=by rfl) :
    PE X (.Call (.Attribute o "partition" apos) [e] [] pos) (tM1 (fun x xs H Q=>∃ a b,x = .str a∧xs=[.str b]∧(b.length == 0)=false∧a.length≤sizeLine ∧
      ∀ p,H p=none→Q (.ref p) (upd H p (.tup [.str (Txt.partition a b).1,.str (Txt.partition a b).2.1,.str (Txt.partition a b).2.2]))) to te) :=
  zta F.slot_str_partition F.type_str_partition zk4 ho he hs hbase hline
theorem zv2 {apos pos:Pos} (ho:PE X o to) (he:PE X e te) (hs:starEach [e] X.env=[(false,eval e X.env)]:=by rfl) (hbase:attributeBase o "join" X.env (eval o X.env)=eval o X.env:=by rfl) (hline:(apos.endLine == pos.line)=true:=by rfl) :
    PE X (.Call (.Attribute o "join" apos) [e] [] pos) (tM1 (fun x xs H Q=>∃ a p,∃ ys:List Str,x = .str a∧xs=[.ref p]∧(SqL X.K H p (ys.map V.str)∨SqT X.K H p (ys.map V.str)) ∧
      (ys.map (·.length)).sum+ys.length * a.length≤16777216∧Q (.str (Txt.join a ys)) H) to te) :=
  zta F.slot_str_join F.type_str_join zwc ho he hs hbase hline
end
end L2
namespace L2
open PySem PySem.Spec PyProof.Rows
section
variable {X:Cx}
theorem zot:OpR X (compareOp .In) (fun x y H Q=>∃ (c:Nat) (z:Str),x = .str ⟨#[c]⟩∧y = .str z∧Q (.bl (decide (c∈z.cps.toList))) H):=by
  intro pins s σ H x y v u Q I rx ry h
  obtain ⟨c,z,rfl,rfl,q⟩:=h
  obtain ⟨t,rfl⟩:=rx
  obtain ⟨t',rfl⟩:=ry
  exact PyProof.Rows.in_str (za6 I q (PySem.StrLaws.found_one z c).symm)
theorem zjr:OpR X (compareOp .NotIn) (fun x y H Q=>∃ (c:Nat) (z:Str),x = .str ⟨#[c]⟩∧y = .str z∧Q (.bl (!decide (c∈z.cps.toList))) H):=by
  intro pins s σ H x y v u Q I rx ry h
  obtain ⟨c,z,rfl,rfl,q⟩:=h
  obtain ⟨t,rfl⟩:=rx
  obtain ⟨t',rfl⟩:=ry
  exact PyProof.Rows.notIn_str (za6 I q (congrArg Bool.not (PySem.StrLaws.found_one z c).symm))
end
theorem IsPart.raw {v:Value}{o:Option Int} (p:IsPart v o) : ∃ l:Option (Int×Tok),v=partValue l∧l.map (·.1)=o:=by
  cases p with
  | none=>exact ⟨none,rfl,rfl⟩
  | int i t=>exact ⟨some (i,t),rfl,rfl⟩
noncomputable def zsf (n d:Nat):Option Int→Int
  | none=>(d:Int)
  | some i=>max 0 (min (if i<0 then i+(n:Int) else i) (n:Int))
theorem zof (n d:Nat) (o:Option Int):zsf n d o=((HT.sIx n d o:Nat):Int):=by
  cases o with
  | none=>rfl
  | some v =>
    show max (0:Int) (min (if v<0 then v+(n:Int) else v) (n:Int))=(((if v<0 then (v+(n:Int)).toNat else min v.toNat n):Nat):Int)
    by_cases hv:v<0
    · simp only [if_pos hv]
      omega
    · simp only [if_neg hv]
      omega
theorem zqi (a b:Option Int) (n:Nat):Builtin.Str.strSliceIndices a b 1 n=sliceRange (zsf n 0 a) (zsf n n b) 1:=by
  have h1:((1:Int) > 0)=True:=by simp
  cases a <;> cases b <;> first
    | rfl
    | (simp only [Builtin.Str.strSliceIndices,zsf,h1,if_true];rfl)
    | simp [Builtin.Str.strSliceIndices,zsf]
theorem sidx (a b:Option Int) (n:Nat):Builtin.Str.strSliceIndices a b 1 n=(List.range (HT.sIx n n b - HT.sIx n 0 a)).map (fun k=>HT.sIx n 0 a+k):=by
  rw [zqi,zof,zof]
  generalize HT.sIx n 0 a=p
  generalize HT.sIx n n b=q
  simp only [sliceRange,show ((1:Int) > 0)=True from by simp,if_true]
  by_cases hlt:(p:Int)<q
  · have e3:(((q:Int) - p+1 - 1) / 1).toNat=q - p:=by first | omega | (simp;done) | (simp;omega)
    simp only [hlt,if_true,e3]
    refine List.map_congr_left fun k _=>?_
    omega
  · have:q - p=0:=by omega
    simp [hlt,this]
noncomputable def cutS (z:Str) (lo hi:Option Int):Str :=
  ⟨((z.cps.toList.drop (HT.sIx z.length 0 lo)).take (HT.sIx z.length z.length hi - HT.sIx z.length 0 lo)).toArray⟩
theorem zez (z:Str) (lo hi:Option Int):PySem.StrLaws.sliceText z lo hi=cutS z lo hi:=by
  have h1:HT.sIx z.length 0 lo≤z.length:=HT.sIx_le _ _ (Nat.zero_le _) _
  have h2:HT.sIx z.length z.length hi≤z.length:=HT.sIx_le _ _ (Nat.le_refl _) _
  have hp:HT.sIx z.length 0 lo≤max (HT.sIx z.length 0 lo) (HT.sIx z.length z.length hi):=Nat.le_max_left _ _
  have hq:max (HT.sIx z.length 0 lo) (HT.sIx z.length z.length hi)≤z.length:=Nat.max_le.mpr ⟨h1,h2⟩
  have hd:max (HT.sIx z.length 0 lo) (HT.sIx z.length z.length hi) - HT.sIx z.length 0 lo=HT.sIx z.length z.length hi - HT.sIx z.length 0 lo:=by omega
  have e:Builtin.Str.strSliceIndices lo hi 1 z.length =
      Builtin.Str.strSliceIndices (some ((HT.sIx z.length 0 lo:Nat):Int)) (some ((max (HT.sIx z.length 0 lo) (HT.sIx z.length z.length hi):Nat):Int)) 1 z.length:=by
    rw [PySem.StrLaws.strSliceIndices_plain hp hq,hd,sidx]
  have e2:PySem.StrLaws.sliceText z lo hi =
      PySem.StrLaws.sliceText z (some ((HT.sIx z.length 0 lo:Nat):Int)) (some ((max (HT.sIx z.length 0 lo) (HT.sIx z.length z.length hi):Nat):Int)):=by
    unfold PySem.StrLaws.sliceText
    rw [e]
  rw [e2,PySem.StrLaws.sliceText_nat z hp hq,hd]
  rfl
theorem zm4 (z:Str) (lo hi:Option Int):(cutS z lo hi).length≤z.length:=by
  show (((z.cps.toList.drop (HT.sIx z.length 0 lo)).take (HT.sIx z.length z.length hi - HT.sIx z.length 0 lo)).toArray).size≤z.cps.size
  rw [List.size_toArray,List.length_take,List.length_drop,Array.length_toList]
  omega
noncomputable def rSlS:V→Option Int→Option Int→Hp→VK→Prop:=fun x lo hi H Q=>∃ z,x = .str z∧z.length≤sizeLine∧Q (.str (cutS z lo hi)) H
theorem zul {X:Cx}:SlR X rSlS:=by
  intro pins s σ H x v vl vu lo hi sl Q I rx hs pl pu h
  obtain ⟨z,rfl,hz,q⟩:=h
  obtain ⟨t,rfl⟩:=rx
  obtain ⟨os,hos,hcs,hds⟩:=hs
  obtain ⟨l,rfl,rfl⟩:=IsPart.raw pl
  obtain ⟨u,rfl,rfl⟩:=IsPart.raw pu
  refine ⟨"str",_,F.slot_str_getitem.lookup,typeIs_str _ _ _,?_⟩
  refine wpAny_getItem_str_slice (l:=l) (u:=u) (st:=none) ⟨os,hos,hcs,hds⟩ rfl ?_
  have hl:(PySem.StrLaws.sliceText z (l.map (·.1)) (u.map (·.1))).length≤sizeLine:=by
    rw [zez]
    exact Nat.le_trans (zm4 z _ _) hz
  rw [← zez] at q
  unfold PySem.StrLaws.sliceText at q hl
  show Made.post (if ((1:Int) == 1 && (Builtin.Str.strSliceIndices (l.map (·.1)) (u.map (·.1)) 1 z.length).length == z.length)=true then Made.val (.str z t)
    else Made.str ⟨((Builtin.Str.strSliceIndices (l.map (·.1)) (u.map (·.1)) 1 z.length).filterMap (z.cps[·]?)).toArray⟩) (EP X pins σ Q) s
  by_cases c:((1:Int) == 1 && (Builtin.Str.strSliceIndices (l.map (·.1)) (u.map (·.1)) 1 z.length).length == z.length)=true
  · rw [if_pos c] at q ⊢
    exact ⟨.str z,H,I,⟨t,rfl⟩,q⟩
  · rw [if_neg c] at q hl ⊢
    exact ⟨hl,.str _,H,I.tok _,⟨_,rfl⟩,q⟩
end L2
namespace Att
open PySem PySem.W PySem.Calls PyProof.Rows
section
variable {prog:Program}{w:World}{A:Around}{E:Value→Shared→Prop}{s:Shared}{K:Frag}
end
end Att
namespace L2
open PySem PySem.Spec PyProof.Rows
noncomputable def zdd (s:Stmt) (j:Nat):Stmt:=match s with
  | .ClassDef _ _ _ body _ _ _ _ _ _ _=>body.getD j (.Pass ⟨0,0,0,0⟩)
  | _ => .Pass ⟨0,0,0,0⟩
noncomputable def zfy (s:Stmt):Arguments:=match s with
  | .FunctionDef _ a _ _ _ _ _ _ _ _=>a
  | _=>{ posonlyargs:=[],args:=[],vararg:=none,kwonlyargs:=[],kw_defaults:=[],kwarg:=none,defaults:=[] }
noncomputable def zde (s:Stmt):List Stmt:=match s with
  | .FunctionDef _ _ b _ _ _ _ _ _ _=>b
  | _=>[]
noncomputable def zaf (s:Stmt):Scope:=match s with
  | .FunctionDef _ _ _ _ _ _ sc _ _ _=>sc
  | _=>{ kind := .function,names:=[],isGenerator:=false,isCoroutine:=false }
noncomputable abbrev CX0:CXT:=fun _ _ _ _ _ _=>False
noncomputable abbrev E0:XK:=fun _ _ _=>False
theorem zav {X:Cx}:zc3 CX0 X E0:=fun _ _ _ _ _ _ _ h=>h.elim
structure Fun (K:PySem.W.Frag) (x qual:Str) (st:Stmt) (f:Addr) (fd:FuncData):Prop where
  ex : ∃ (oc:Value) (od:Option Addr) (kV doc pm:Value) (an:Option Addr) (cdv ct:Value) (osl:Array (Option Value)),
    fd=PySem.W.fnOf x qual (zfy st) (zde st) (zaf st) .none kV doc pm an cdv ct∧K.lookup f=some ⟨oc,od,.func fd,osl⟩∧PySem.W.codeIn K cdv qual=true
  kp:PySem.W.keepIn K (.ref f)=true
section
variable {P:Program}{w:World}{K:PySem.W.Frag}{mg:Str→Option Value}{base:Heap}
theorem Fun.ok {x qual:Str}{st:Stmt}{f:Addr}{fd:FuncData}{N ps:List Str}{k:Nat}{sp:Sp} (F:Fun K x qual st f fd) (S:FnScope N ps (zaf st)) (len : ∀ vs H Q E,sp vs H Q E→vs.length=ps.length)
    (hbody : ∀ (cdv:Value) (A:Around) (outer:List Env) (s:Shared) (H:Hp) (vs:List V) (Q:VK) (E:XK),Room k (A.deeper (envOfC qual (zaf st) s.heap.objs.size f cdv))→sp vs H Q E →
      ∃ t,PSs (cxOf CX0 P w K mg base N qual (zaf st) f cdv A outer s H E).nox (zde st) t∧t { nx:=fun _ H'=>Q .non H',rt:=Q } (start N vs) H):FnOk P w K mg base CX0 (k+1) f fd ps sp:=by
  obtain ⟨oc,od,kV,doc,pm,an,cdv,ct,osl,rfl,lk,hcd⟩:=F.ex
  refine zya lk hcd S len fun A outer s H vs Q E hr hsp=>?_
  obtain ⟨t,h,q⟩:=hbody cdv A outer s H vs Q E hr hsp
  exact ⟨t,h.nox,q⟩
theorem Fun.binds {x qual:Str}{st:Stmt}{f:Addr}{fd:FuncData}{ps:List Str} (F:Fun K x qual st f fd)
    (h : ∀ (kV doc pm:Value) (an:Option Addr) (cdv ct:Value) (us:List Value),us.length=ps.length→bindArgs (PySem.W.fnOf x qual (zfy st) (zde st) (zaf st) .none kV doc pm an cdv ct) ⟨us,[]⟩=pure (ps.zip us)):zb4 K fd ps []:=by
  obtain ⟨oc,od,kV,doc,pm,an,cdv,ct,osl,rfl,lk,hcd⟩:=F.ex
  exact .all (h kV doc pm an cdv ct)
theorem zu0 {x qual:Str}{st:Stmt}{f:Addr}{oc:Value}{od an:Option Addr}{osl:Array (Option Value)}{kV doc pm cdv ct:Value} (l:K.lookup f=some ⟨oc,od,.func (PySem.W.fnOf x qual (zfy st) (zde st) (zaf st) .none kV doc pm an cdv ct),osl⟩)
    (c:PySem.W.codeIn K cdv qual=true) (k:PySem.W.keepIn K (.ref f)=true):Fun K x qual st f (PySem.W.fnOf x qual (zfy st) (zde st) (zaf st) .none kV doc pm an cdv ct):=⟨⟨oc,od,kV,doc,pm,an,cdv,ct,osl,rfl,l,c⟩,k⟩
end
section
variable {X:Cx}
theorem pv (i:Nat) {x:Str}{pos:Pos} (hN:X.N[i]? = some x:=by rfl) (hv:Vis X.env.scope x:=by first | exact Or.inl rfl | exact Or.inr (Or.inl rfl) | exact Or.inr (Or.inr rfl)) (hd:(x == ("__debug__":Str))=false:=by decide)
    (hcd:(x == ("__classdict__":Str))=false:=by decide):PE X (.Name x pos) (tVar i):=zxq hN hv hd hcd
end
theorem iteF {A B:Prop} (h:B):if false=true then A else B:=by
  rw [if_neg Bool.false_ne_true]
  exact h
theorem iteT {A B:Prop} (h:A):if true=true then A else B:=by
  rw [if_pos rfl]
  exact h
theorem ite2 {c A B:Prop} [Decidable c] (h1:c→A) (h2 : ¬ c→B):if c then A else B:=by
  by_cases h:c
  · rw [if_pos h]
    exact h1 h
  · rw [if_neg h]
    exact h2 h
noncomputable def Same (H H':Hp):Prop:=∀ b o,H b=some o→H' b=some o
theorem Same.refl (H:Hp):Same H H:=fun _ _ h=>h
theorem Same.trans {H H1 H2:Hp} (a:Same H H1) (b:Same H1 H2):Same H H2:=fun c o h=>b c o (a c o h)
theorem Same.free {H H':Hp} (e:Same H H') {l:Addr} (h:H' l=Option.none):H l=Option.none:=by
  cases q:H l with
  | none=>rfl
  | some o =>
    rw [e l o q] at h
    cases h
theorem Same.seq {K:PySem.W.Frag}{H H':Hp}{a:Addr}{xs:List V} (e:Same H H') (h:SqL K H a xs):SqL K H' a xs:=by
  rcases h with (h | ⟨o,h⟩) | h
  · exact .inl (.inl (e _ _ h))
  · exact .inl (.inr ⟨o,e _ _ h⟩)
  · exact .inr h
section
variable {κ:Type} [DecidableEq κ]
end
end L2
namespace L2
open PySem PySem.Spec PyProof.Rows
noncomputable abbrev zed:List Value:=[.type "Exception",.type "BaseException",.type "object"]
structure XCls (K:PySem.W.Frag) (C f:Addr):Prop where
  obj : ∃ nm q N bs sn sub ab col dd k0 k1 k2 k3 k5,K.lookup C=some (excClassObj nm q C N bs zed true sn sub ab col dd k0 k1 k2 k3 k5 "Exception.__new__")
  init:PySem.W.findIn K (.ref C) "__init__"=some (some (.ref f))
  fn:PySem.W.isFn K (.ref f)=true
  kp:PySem.W.keepIn K (.ref C)=true
  ga:PySem.W.findIn K (.ref C) "__getattribute__"=some (some (.builtin "BaseException.__getattribute__"))
  gn:PySem.W.findIn K (.ref C) "__getattr__"=some none
  sa:PySem.W.findIn K (.ref C) "__setattr__"=some (some (.builtin "object.__setattr__"))
  hd:PySem.W.hasDictIn K C=true
theorem zva {K:PySem.W.Frag}{C f N:Addr}{nm q:Str}{bs:List Value}{sn:List Str}{sub:List Value}{ab:Bool}{col:Option Bool}{dd:Option Addr}{k0 k1 k2 k3 k5:Option Value}
    (l:K.lookup C=some (excClassObj nm q C N bs zed true sn sub ab col dd k0 k1 k2 k3 k5 "Exception.__new__")) (i:PySem.W.findIn K (.ref C) "__init__"=some (some (.ref f))) (n:PySem.W.isFn K (.ref f)=true) (k:PySem.W.keepIn K (.ref C)=true)
    (g:PySem.W.findIn K (.ref C) "__getattribute__"=some (some (.builtin "BaseException.__getattribute__"))) (a:PySem.W.findIn K (.ref C) "__getattr__"=some none) (s:PySem.W.findIn K (.ref C) "__setattr__"=some (some (.builtin "object.__setattr__")))
    (d:PySem.W.hasDictIn K C=true):XCls K C f:=⟨⟨nm,q,N,bs,sn,sub,ab,col,dd,k0,k1,k2,k3,k5,l⟩,i,n,k,g,a,s,d⟩
noncomputable abbrev zwz (C t:Addr):Obj:={ cls := .ref C,data := .fields #[.ref t,.none,.none,.none,.bool false,.none] }
noncomputable def zjx (h:Heap) (C:Addr) (us:List Value):Heap:=(h.push { cls := .type "tuple",data := .seq us.toArray }).push (zwz C h.objs.size)
theorem zhu {h:Heap}{C:Addr}{us:List Value}{b:Addr}{o:Obj} (e:h.get? b=some o):(zjx h C us).get? b=some o:=Heap.get?_push_of_some _ (Heap.get?_push_of_some _ e)
theorem zn6 {h:Heap}{C:Addr}{us:List Value}:(zjx h C us).get? (h.objs.size+1)=some (zwz C h.objs.size):=by
  unfold zjx
  heap_get
section
variable {P:Program}{w:World}{A:Around}{K:PySem.W.Frag}{C f:Addr}{R:Result→Shared→Prop}{s:Shared}
theorem zyu {us:List Value} (X:K.In s.heap) (c:XCls K C f) (hl:us.length≤sizeLine)
    (go:codeAny (model P w) (A.under (.builtin "type.__call__" ⟨.ref C::us,[]⟩)) (.call (.ref f) ⟨.ref (s.heap.objs.size+1)::us,[]⟩) (PySem.W.InitBack (s.heap.objs.size+1) R) { s with heap:=zjx s.heap C us }) :
    codeAny (model P w) A (.call (.ref C) ⟨us,[]⟩) R s:=by
  obtain ⟨hp,g,d,t,os⟩:=s
  obtain ⟨nm,q,N,bs,sn,sub,ab,col,dd,k0,k1,k2,k3,k5,lk⟩:=c.obj
  have atC:=X _ _ lk
  have B:=PySem.F.excBase_Exception
  have n1:=tc_lookup
  have n2:=tc_bind (.ref C)
  have tyC:(⟨hp,g,d,t,os⟩:Shared).TypeIs (.ref C) "type":=⟨_,atC,rfl⟩
  refine codeAny_of_tree ?_
  show wpAny _ _ (callAny (.ref C) _) _ _ _
  repeat (any_goals (first | assumption | (with_reducible refine wpAny_loadPart_at atC ?_) | wp_step))
  refine And.intro rfl (codeAny_call_builtin_at (Code.quiet_builtin _ (by decide +kernel)) entry_typeCall (wpAny_check_type_call_sub atC ?_))
  repeat (first | (with_reducible refine wpAny_loadPart_at atC ?_) | (with_reducible refine wpAny_madeBy_exc atC ?_) | wp_step)
  refine codeAny_call_builtin_code (Code.quiet_builtin _ B.quiet) (wpAny_check_new_sub B atC (codeAny_exc_new_sub B atC ?_ hl))
  show wpAny _ _ _ _ _ ⟨zjx hp C us,g,d,t,os⟩
  have X':K.In (zjx hp C us):=X.keeps fun b o e=>zhu e
  have atC':=X' _ _ lk
  have atE:(zjx hp C us).get? (hp.objs.size+1)=some (zwz C hp.objs.size):=zn6
  have inC:(Value.ref C::zed).contains (.ref C)=true:=by simp
  unfold isInstance
  repeat (first | (with_reducible refine wpAny_loadPart_at atE ?_) | ((with_reducible refine wpAny_isSubtype_exc atC' ?_);rw [inC]) | wp_step)
  show wpAny _ _ (typeLookup (.ref C) _) _ _ _
  refine (PySem.W.looks_findIn X' c.init).at ?_
  refine wpAny_holding (wpAny_bind ((PySem.W.bind_fn X' _ (beq_iff_eq.mp c.fn)).at ?_))
  refine wpAny_bind (wpAny_call (codeAny_mono go fun r s' z=>?_))
  rcases r with e | (_ | _ | _ | v)
  · exact z
  · exact z.elim
  · exact z.elim
  · exact z.elim
  · obtain ⟨rfl,z⟩:=z
    exact wpAny_pure (wpAny_pure z)
end
end L2
namespace L2
open PySem PySem.Spec PyProof.Rows
open PySem.W (InstAt Looks)
section
variable {P:Program}{w:World}{A:Around}{K:PySem.W.Frag}{C f x:Addr}{s:Shared}{ox:Obj}{od:Option Obj}{name:Str}{v:Value}
theorem zuj {tk:Tok}{R:Result→Shared→Prop} (X:K.In s.heap) (I:InstAt s.heap x ox C od) (c:XCls K C f) (n:za1 K C name)
    (go : ∀ b,wpAny (model P w) A.in1 (Builtin.ObjectAttr.storeInOwnDict (.ref x) (.ref C) (.str name tk) name v b)
      (fun fin s'=>match fin with | .done f=>R (.ok f) s' | .again c'=>c'.quiet=true∧codeAny (model P w) A c' R s') (fun e s'=>R (.error e) s') s) :
    codeAny (model P w) A (.call (.builtin "object.__setattr__") ⟨[.ref x,.str name tk,v],[]⟩) R s:=by
  have S:=PySem.F.store_Exception
  obtain ⟨nm,q,N,bs,sn,sub,ab,col,dd,k0,k1,k2,k3,k5,lk⟩:=c.obj
  have hcd:PySem.W.clsIn K C=some { name:=nm,bases:=bs,mro := .ref C::zed,ns:=N,qualname:=q,hasDict:=true,slotNames:=sn,subclasses:=sub,abstract:=ab,collection:=col,hasDel:=false }:=by
    unfold PySem.W.clsIn
    rw [lk]
  have isO:Looks (model P w) s.heap (isInstance (.ref x) (.type "object")) true:=I.type.andThen (PySem.W.looks_mroIn X (by unfold PySem.W.mroIn;rw [hcd,Option.bind_some];rfl))
  have mro:Looks (model P w) s.heap (mroOf (.ref C)) (.ref C::zed):=(PySem.W.looks_clsIn X hcd).andThen .now
  refine codeAny_call_builtin S.slot.plain S.entry (@PySem.W.check_slot (model P w) _ _ s "object.__setattr__" "object" "__setattr__" (.ref x) [.str name tk,v] [] _ S.kind S.split isO (S.args (.ref x) (.str name tk) v) ?_)
  rw [PySem.W.osa_eq,refuse_eq]
  refine wpAny_bind (wpAny_bind (I.type.here (wpAny_bind (mro.here ?_))))
  rw [refuseLoop_ref,S.passes]
  refine wpAny_pure (wpAny_bind (I.type.here (wpAny_bind ((PySem.W.looks_findIn X n).here (wpAny_bind (wpAny_pure ?_))))))
  exact go _
end
noncomputable def XNew (C p:Addr) (d:Option Addr):HO := .ext fun h=>∃ t,h.get? p=some { cls := .ref C,dict:=d,data := .fields #[.ref t,.none,.none,.none,.bool false,.none] }
noncomputable def XDic (p:Addr) (fs:List (Str×V)):HO := .ext fun h=>fs.length≤1000∧∃ mA,h.Ns1 p mA∧(∀ f,RelO (fs.lookup f) (mA f))∧PySem.Within mA (fs.map (·.1))
theorem znf {H:Hp}{a b:Addr}{o u:HO} (h:a≠b):upd (upd H a o) b u=upd (upd H b u) a o:=by
  funext c
  unfold upd
  by_cases h1:c=a
  · rw [if_pos h1,if_neg (fun q=>h (h1.symm.trans q)),if_pos h1]
  · rw [if_neg h1,if_neg h1]
theorem zu9 {P:Program}{w:World}{H:Hp}{h:Heap}{p:Addr}{fs:List (Str×V)}{mA:Str→Option Value} (l:fs.length≤1000) (n:h.Ns1 p mA) (r : ∀ f,RelO (fs.lookup f) (mA f)) (k:PySem.Within mA (fs.map (·.1))):zbp P w H h p (XDic p fs):=by
  obtain ⟨o,es,ep,ho,c⟩:=n
  exact ⟨⟨l,mA,⟨o,es,ep,ho,c⟩,r,k⟩,⟨o,ho⟩,fun h1 h2 ⟨l,mA,⟨o,es,ep,ho,c⟩,r⟩ kp=>⟨l,mA,⟨o,es,ep,kp o ho,c⟩,r⟩⟩
theorem zw5 {P:Program}{w:World}{H:Hp}{h:Heap}{C p t:Addr}{d:Option Addr} (e:h.get? p=some { cls := .ref C,dict:=d,data := .fields #[.ref t,.none,.none,.none,.bool false,.none] }):zbp P w H h p (XNew C p d) :=
  ⟨⟨t,e⟩,⟨_,e⟩,fun h1 h2 ⟨t,e⟩ kp=>⟨t,kp _ e⟩⟩
section
variable {X:Cx}{pins:List (Addr×Obj)}{σ:St}{H:Hp}{s:Shared}{a C f₀ dx:Addr}{fs:List (Str×V)}{f:Str}{y:V}{u:Value}{A:Around}{E:Value→Shared→Prop}{Q:Unit→Shared→Prop}
theorem zqm (I:Inv X pins σ H s) (e:H a=some (XNew C a none)) (c:XCls X.K C f₀) (n:za1 X.K C f) (ry:RelV y u)
    (h : ∀ dx s',H dx=none→dx≠a→Inv X pins σ (upd (upd H dx (XDic dx [(f,y)])) a (XNew C a (some dx))) s'→Q () s'):wpAny (model X.prog X.w) A (setAttr (.ref a) f u) Q E s:=by
  obtain ⟨⟨t,ha⟩,_,_⟩:=(show zbp X.prog X.w H s.heap a (XNew C a none) from I.hok a _ e)
  have J:InstAt s.heap a _ C none:=⟨ha,rfl,rfl,trivial⟩
  obtain ⟨nm,q,N,bs,sn,sub,ab,col,dd,k0,k1,k2,k3,k5,lk⟩:=c.obj
  have hcd:PySem.W.clsIn X.K C=some { name:=nm,bases:=bs,mro := .ref C::zed,ns:=N,qualname:=q,hasDict:=true,slotNames:=sn,subclasses:=sub,abstract:=ab,collection:=col,hasDel:=false }:=by
    unfold PySem.W.clsIn
    rw [lk]
  refine PySem.W.set_plain I.kIn J c.sa (zuj (s:={ s with toks:=s.toks+1 }) I.kIn J c n fun b=>?_)
  refine wpAny_bind (wpAny_pure (wpAny_bind (wpAny_bind (wpAny_loadPart ha (wpAny_bind (PySem.W.Looks.here (s:={ s with toks:=s.toks+1 }) (PySem.W.looks_clsIn I.kIn hcd) ?_))))))
  rw [if_neg (by exact Bool.false_ne_true)]
  dsimp only
  rw [if_neg (by exact Bool.false_ne_true)]
  have hlt:=Heap.lt_size ha
  have nda:s.heap.objs.size≠a:=Nat.ne_of_gt hlt
  have ha1:=Heap.get?_push_of_some PySem.W.emptyDict ha
  have fr:H s.heap.objs.size=none:=I.hok.fresh (Nat.le_refl _)
  refine wpAny_bind (wpAny_alloc (wpAny_bind (wpAny_update ha1 (wpAny_pure (a:=some s.heap.objs.size) ?_))))
  have hd2:((s.heap.push PySem.W.emptyDict).update a fun o=>{ cls:=o.cls,dict:=some s.heap.objs.size,data:=o.data,slots:=o.slots }).get? s.heap.objs.size=some PySem.W.emptyDict :=
    (Heap.get?_update_ne _ _ _ _ nda).trans (Heap.get?_push_size s.heap rfl)
  have ha2:=Heap.get?_update_self (fun o=>{ cls:=o.cls,dict:=some s.heap.objs.size,data:=o.data,slots:=o.slots }) ha1 rfl
  have hnd:((s.heap.push PySem.W.emptyDict).update a fun o=>{ cls:=o.cls,dict:=some s.heap.objs.size,data:=o.data,slots:=o.slots }).Ns s.heap.objs.size (fun _=>none):=⟨_,#[],_,hd2,rfl,fun e he=>absurd he (by simp),fun _=>rfl⟩
  have I1:=I.laid (a:=s.heap.objs.size) (o:=XDic s.heap.objs.size []) (h':=s.heap.push PySem.W.emptyDict) (t':=s.toks+1) (fun b u q=>Heap.get?_push_of_some _ q) (Nat.le_refl _)
    (zu9 (Nat.zero_le _) (Heap.Ns1.of_empty ⟨_,#[],_,Heap.get?_push_size s.heap rfl,rfl,fun e he=>absurd he (by simp),fun _=>rfl⟩) (fun _=>trivial) fun y hy=>absurd rfl hy)
  have I2:=I1.write (x:=a) (e:=a) (o:=XNew C a (some s.heap.objs.size)) (t':=s.toks+1) (by rw [zah (Ne.symm nda),e];exact True.intro) (.inl rfl) (fun b u hb q=>(Heap.get?_update_ne _ _ _ _ hb).trans q) ⟨_,ha2⟩ (zw5 ha2)
  show wpAny _ _ (Builtin.ObjectAttr.storeInDict s.heap.objs.size (.str f s.toks) f u) _ _ _
  unfold Builtin.ObjectAttr.storeInDict Builtin.ObjectAttr.newKeyGuard
  refine wpAny_bind (wpAny_pure (wpAny_bind (wpAny_nsSet1 (Heap.Ns1.of_empty hnd) fun h' hn' hs=>?_)))
  obtain ⟨oD,esD,epD,hoD,hdD,hcD⟩:=hn'.count (Within.cons f u Within.nil)
  refine wpAny_bind (wpAny_lookBehind hoD (by rw [hdD];exact pastItsLine_dict (Nat.le_trans hcD (by rw [List.length_cons,List.length_nil,sizeLine_eq];omega))) ?_)
  refine wpAny_pure (h s.heap.objs.size _ fr nda ?_)
  have I3:=I2.write (x:=s.heap.objs.size) (e:=s.heap.objs.size) (o:=XDic s.heap.objs.size [(f,y)]) (t':=s.toks+1+1) (by rw [zah nda,zad];exact True.intro) (.inl rfl) (fun b u hb q=>(hs.2 b hb).trans q) ⟨_,hoD⟩
    (zu9 (by show 1≤1000;decide) hn' (fun g=>?_) fun g hg=>?_)
  · rw [znf (Ne.symm nda),zgy] at I3
    exact I3
  · show RelO (([(f,y)]:List (Str×V)).lookup g) (if g=f then some u else none)
    by_cases q:g=f
    · subst q
      rw [if_pos rfl,List.lookup_cons_self]
      exact ry
    · rw [if_neg q,List.lookup_cons,beq_eq_false_iff_ne.mpr q]
      trivial
  · by_cases q:g=f
    · simp [q]
    · exact absurd (by show (if g=f then some u else none)=none;rw [if_neg q]) hg
theorem zql (I:Inv X pins σ H s) (e:H a=some (XNew C a (some dx))) (ed:H dx=some (XDic dx fs)) (c:XCls X.K C f₀) (n:za1 X.K C f) (hl:fs.length<1000) (ry:RelV y u)
    (h : ∀ s',Inv X pins σ (upd H dx (XDic dx (putF f y fs))) s'→Q () s'):wpAny (model X.prog X.w) A (setAttr (.ref a) f u) Q E s:=by
  obtain ⟨⟨t,ha⟩,_,_⟩:=(show zbp X.prog X.w H s.heap a (XNew C a (some dx)) from I.hok a _ e)
  obtain ⟨⟨l,mA,hns,rel,wi⟩,⟨od,hod⟩,_⟩:=(show zbp X.prog X.w H s.heap dx (XDic dx fs) from I.hok dx _ ed)
  have J:InstAt s.heap a _ C (some od):=⟨ha,rfl,rfl,hod⟩
  obtain ⟨nm,q,N,bs,sn,sub,ab,col,dd,k0,k1,k2,k3,k5,lk⟩:=c.obj
  have hcd:PySem.W.clsIn X.K C=some { name:=nm,bases:=bs,mro := .ref C::zed,ns:=N,qualname:=q,hasDict:=true,slotNames:=sn,subclasses:=sub,abstract:=ab,collection:=col,hasDel:=false }:=by
    unfold PySem.W.clsIn
    rw [lk]
  refine PySem.W.set_plain I.kIn J c.sa (zuj (s:={ s with toks:=s.toks+1 }) I.kIn J c n fun b=>?_)
  refine wpAny_bind (wpAny_pure (wpAny_bind (wpAny_bind (wpAny_loadPart ha (wpAny_bind (PySem.W.Looks.here (s:={ s with toks:=s.toks+1 }) (PySem.W.looks_clsIn I.kIn hcd) ?_))))))
  rw [if_neg (by exact Bool.false_ne_true)]
  refine wpAny_pure (a:=some dx) ?_
  show wpAny _ _ (Builtin.ObjectAttr.storeInDict dx (.str f s.toks) f u) _ _ _
  unfold Builtin.ObjectAttr.storeInDict Builtin.ObjectAttr.newKeyGuard
  refine wpAny_bind (wpAny_pure (wpAny_bind (wpAny_nsSet1 (s:={ s with toks:=s.toks+1 }) hns fun h' hn' hs=>?_)))
  obtain ⟨oD,esD,epD,hoD,hdD,hcD⟩:=hn'.count (PySem.Within.cons f u wi)
  refine wpAny_bind (wpAny_lookBehind hoD (by rw [hdD];exact pastItsLine_dict (Nat.le_trans hcD (by rw [List.length_cons,List.length_map,sizeLine_eq];omega))) ?_)
  refine wpAny_pure (h _ ?_)
  refine I.write (x:=dx) (e:=dx) (t':=s.toks+1+1) (by rw [ed];exact True.intro) (.inl rfl) (fun b u hb q=>(hs.2 b hb).trans q) ⟨_,hoD⟩ (zu9 (by have:=zda f y fs;omega) hn' (fun g=>?_) fun g hg=>?_)
  · show RelO ((putF f y fs).lookup g) (if g=f then some u else mA g)
    rw [zej]
    by_cases q:g=f
    · rw [if_pos q,if_pos q]
      exact ry
    · rw [if_neg q,if_neg q]
      exact rel g
  · by_cases q:g=f
    · rw [q]
      exact (zdr f y fs).1
    · refine (zdr f y fs).2 g (wi g fun z=>hg ?_)
      show (if g=f then some u else mA g)=none
      rw [if_neg q]
      exact z
end
end L2
namespace L2
open PySem PySem.Spec PyProof.Rows
open PySem.W (InstAt Looks)
noncomputable def XGot (C p d:Addr):HO := .ext fun h=>∃ vs sl,h.get? p=some ⟨.ref C,some d,.fields vs,sl⟩
theorem zyr {P:Program}{w:World}{H:Hp}{h:Heap}{C p d:Addr}{vs:Array Value}{sl:Array (Option Value)} (e:h.get? p=some ⟨.ref C,some d,.fields vs,sl⟩):zbp P w H h p (XGot C p d) :=
  ⟨⟨vs,sl,e⟩,⟨_,e⟩,fun h1 h2 ⟨vs,sl,e⟩ kp=>⟨vs,sl,kp _ e⟩⟩
section
variable {X:Cx}{pins:List (Addr×Obj)}{σ:St}{H:Hp}{s:Shared}{a C f₀ dx:Addr}{fs:List (Str×V)}{f:Str}{v:V}{u:Value}{A:Around}{E:Value→Shared→Prop}
theorem ztv {b:Bool}{Q:Value→Shared→Prop} (I:Inv X pins σ H s) (e:H a=some (XGot C a dx)) (ed:H dx=some (XDic dx fs)) (c:XCls X.K C f₀) (n:za1 X.K C f) (l:fs.lookup f=some v)
    (h : ∀ u s',Inv X pins σ H s'→RelV v u→Q u s'):wpAny (model X.prog X.w) A (getAttr (.ref a) f b) Q E s:=by
  obtain ⟨⟨vs,sl,ha⟩,_,_⟩:=(show zbp X.prog X.w H s.heap a (XGot C a dx) from I.hok a _ e)
  obtain ⟨⟨hlen,mA,hns,rel,wi⟩,_,_⟩:=(show zbp X.prog X.w H s.heap dx (XDic dx fs) from I.hok dx _ ed)
  obtain ⟨od,hod,hlk⟩:=zk6 hns
  have J:InstAt s.heap a _ C (some od):=⟨ha,rfl,rfl,hod⟩
  obtain ⟨u,hu,ru⟩:=RelO.some_of (v:=v) (o:=mA f) (by rw [← l];exact rel f)
  have hf:PySem.W.findObj X.K C (some od) f=some (.value u):=PySem.W.findObj_own c.hd n rfl (by rw [hlk,hu])
  have K0:=I.kIn
  have I1:=I.tok (s.toks+1)
  obtain ⟨hp,g,d,t,os⟩:=s
  have L0:=J.type (M:=model X.prog X.w)
  have L1:=PySem.W.looks_findIn (M:=model X.prog X.w) K0 c.ga
  have L2:=PySem.W.looks_findIn (M:=model X.prog X.w) K0 c.gn
  unfold getAttr getAttrBy
  refine wpAny_bind (wpAny_mkText (wpAny_holding (wpAny_bind (L0.at (wpAny_bind (L1.at ?_))))))
  dsimp only
  rw [if_neg (by rw [show (Value.builtin "BaseException.__getattribute__" == Value.builtin "object.__getattribute__")=false by decide +kernel,Bool.and_false];exact Bool.false_ne_true)]
  unfold getAttrByItsOwn hookBefore
  refine wpAny_bind (L2.at ?_)
  have hb:callGetattribute (Value.ref a) (Value.str f t) (Value.builtin "BaseException.__getattribute__") b=boundAndCalled (Value.builtin "BaseException.__getattribute__") (.ref a) (.str f t):=by cases b <;> rfl
  rw [hb]
  refine wpAny_bind (wpAny_attempt (wpAny_holding ?_))
  unfold boundAndCalled
  have G:=PySem.F.attr_Exception
  rw [G.ga.bind]
  refine wpAny_bind (wpAny_pure (wpAny_call ?_))
  obtain ⟨nm,q,N,bs,sn,sub,ab,col,dd,k0,k1,k2,k3,k5,lk⟩:=c.obj
  have hcd:PySem.W.clsIn X.K C=some { name:=nm,bases:=bs,mro := .ref C::zed,ns:=N,qualname:=q,hasDict:=true,slotNames:=sn,subclasses:=sub,abstract:=ab,collection:=col,hasDel:=false }:=by
    unfold PySem.W.clsIn
    rw [lk]
  have isB:Looks (model X.prog X.w) hp (isInstance (.ref a) (.type "BaseException")) true:=L0.andThen (PySem.W.looks_mroIn K0 (by unfold PySem.W.mroIn;rw [hcd,Option.bind_some];rfl))
  refine codeAny_call_builtin G.ga.plain PySem.F.entry_bexc_ga (@PySem.W.check_slot (model X.prog X.w) _ _ ⟨hp,g,d,t+1,os⟩ "BaseException.__getattribute__" "BaseException" "__getattribute__" (.ref a) [.str f t] [] _ (by decide +kernel) (by decide +kernel) isB (PySem.F.args_bexc_ga _ _) ?_)
  have L3:=PySem.W.looks_find (M:=model X.prog X.w) K0 J hf
  unfold Builtin.«object.__getattribute__»
  refine wpAny_bind (wpAny_pure (wpAny_bind (wpAny_pure (wpAny_bind (L0.at (wpAny_bind (L3.at (wpAny_pure ?_))))))))
  show wpAny _ _ (handedOut u) _ _ _
  rw [PySem.W.handedOut_of (zld ru)]
  exact wpAny_pure (h u _ I1 ru)
end
noncomputable def zup (K:PySem.W.Frag) (ta tv:TE) (f:Str):TS:=fun D σ H=>tv σ H fun y H1=>ta σ H1 fun x H2=>∃ a C f₀,x = .ref a∧H2 a=some (XNew C a none)∧XCls K C f₀∧za1 K C f ∧
  ∀ dx,H2 dx=none→dx≠a→D.nx σ (upd (upd H2 dx (XDic dx [(f,y)])) a (XNew C a (some dx)))
noncomputable def zuo (K:PySem.W.Frag) (ta tv:TE) (f:Str):TS:=fun D σ H=>tv σ H fun y H1=>ta σ H1 fun x H2=>∃ a C f₀ dx fs,x = .ref a∧H2 a=some (XNew C a (some dx))∧H2 dx=some (XDic dx fs)∧XCls K C f₀∧za1 K C f∧fs.length<1000 ∧
  D.nx σ (upd H2 dx (XDic dx (putF f y fs)))
noncomputable def zpy (K:PySem.W.Frag) (ta:TE) (f:Str):TE:=fun σ H Q=>ta σ H fun x H1=>∃ a C f₀ dx fs v,x = .ref a∧H1 a=some (XGot C a dx)∧H1 dx=some (XDic dx fs)∧XCls K C f₀∧za1 K C f∧fs.lookup f=some v∧Q v H1
section
variable {X:Cx}{o e value:Expr}{f:Str}{pos pos':Pos}{ta tv:TE}
theorem zs8 (ha:PE X o ta) (hv:PE X value tv) (hs:swapsWith value (some (.Attribute o f pos')) pos.line X.env=pure false):PS X (.Assign [.Attribute o f pos'] value pos) (zup X.K ta tv f):=by
  intro pins s σ H D I h
  refine plainObj_wpAny_Assign_Attribute (thn (hv pins s σ H _ I h) fun u s1 ⟨y,H1,I1,ry,q⟩=>thn (ha pins s1 σ H1 _ I1 q) fun ov s2 ⟨x,H2,I2,rx,a,C,f₀,ex,ea,c,n,q2⟩=>?_) hs
  subst ex
  obtain rfl:ov=Value.ref a:=rx
  exact zqm I2 ea c n ry fun dx s3 h1 h2 I3=>⟨σ,_,I3,q2 dx h1 h2⟩
theorem zs7 (ha:PE X o ta) (hv:PE X value tv) (hs:swapsWith value (some (.Attribute o f pos')) pos.line X.env=pure false):PS X (.Assign [.Attribute o f pos'] value pos) (zuo X.K ta tv f):=by
  intro pins s σ H D I h
  refine plainObj_wpAny_Assign_Attribute (thn (hv pins s σ H _ I h) fun u s1 ⟨y,H1,I1,ry,q⟩=>thn (ha pins s1 σ H1 _ I1 q) fun ov s2 ⟨x,H2,I2,rx,a,C,f₀,dx,fs,ex,ea,ed,c,n,l,q2⟩=>?_) hs
  subst ex
  obtain rfl:ov=Value.ref a:=rx
  exact zql I2 ea ed c n l ry fun s3 I3=>⟨σ,_,I3,q2⟩
theorem zq1 (he:PE X e ta) (hb:attributeBase e f X.env (eval e X.env)=eval e X.env):PE X (.Attribute e f pos) (zpy X.K ta f):=by
  intro pins s σ H Q I h
  refine zsi hb (thn (he pins s σ H _ I h) fun u s1 ⟨x,H1,I1,rx,a,C,f₀,dx,fs,v,ex,ea,ed,c,n,l,q⟩=>?_)
  subst ex
  obtain rfl:u=Value.ref a:=rx
  exact ztv I1 ea ed c n l fun u' s2 I2 ru=>⟨v,H1,I2,ru,q⟩
end
noncomputable def del (H:Hp) (p:Addr):Hp:=fun b=>if b=p then none else H b
theorem zgr {H:Hp}{p:Addr}:del H p p=none:=by
  unfold del
  rw [if_pos rfl]
theorem zdv {H:Hp}{p b:Addr} (h:b≠p):del H p b=H b:=by
  unfold del
  rw [if_neg h]
section
variable {M:Model}{A:Around}{E:Value→Shared→Prop}{s:Shared}{env:Env}{K:PySem.W.Frag}{C f:Addr}
theorem zxl {x:Sem Value}{Q:Flow→Shared→Prop} (hh:A.handled=none) (c:XCls K C f)
    (go:wpAny M A x (fun v s₁=>∃ e d t,v = .ref e∧K.In s₁.heap∧s₁.heap.get? e=some { cls := .ref C,dict:=d,data := .fields #[.ref t,.none,.none,.none,.bool false,.none] }∧E (.ref e) s₁) E s) :
    wpAny M A (raiseStmt env (some x) none) Q E s:=by
  obtain ⟨nm,q,N,bs,sn,sub,ab,col,dd,k0,k1,k2,k3,k5,lk⟩:=c.obj
  have isB:(Value.ref C::zed).contains (.type "BaseException")=true:=by rw [List.contains_cons,PySem.F.excBase_Exception.hasBase,Bool.or_true]
  unfold raiseStmt
  refine wpAny_bind (wpAny_mono go (fun v s₁ z=>?_) fun _ _ z=>z)
  obtain ⟨e,d,t,rfl,KX,atE,hE⟩:=z
  have atC:=KX _ _ lk
  obtain ⟨hp,g,dr,tk,os⟩:=s₁
  repeat (first | (with_reducible refine wpAny_loadPart_at atE ?_) | (with_reducible refine wpAny_loadPart_at atC ?_) | ((with_reducible refine wpAny_isSubtype_exc atC ?_);rw [isB]) | wp_step)
  exact wpAny_raiseNew_none hh hE
end
noncomputable def zb5 (C:Addr) (sp:Sp) (t:TA) (E:XK):TS:=fun _ σ H=>t σ H fun vs H1=>vs.length≤sizeLine∧∀ a,H1 a=none →
  sp (.ref a::vs) (upd H1 a (XNew C a none)) (fun v H2=>v = .non∧∃ dx fs,H2 a=some (XNew C a (some dx))∧H2 dx=some (XDic dx fs)∧E (.ref C) (some dx) (del H2 a)) fun _ _ _=>False
noncomputable def zu7 (X:Cx) (E:XK):Prop:=∀ (pins:List (Addr×Obj)) (σ:St) (H:Hp) (s:Shared) (C a dx:Addr) (fs:List (Str×V)),Inv X pins σ H s→X.s_0.heap.objs.size≤a →
  H a=some (XNew C a (some dx))→H dx=some (XDic dx fs)→E (.ref C) (some dx) (del H a)→X.xe (.ref a) s
theorem Inv.madeX {X:Cx}{pins:List (Addr×Obj)}{σ:St}{H:Hp}{s:Shared}{C:Addr}{us:List Value} (I:Inv X pins σ H s):Inv X pins σ (upd H (s.heap.objs.size+1) (XNew C (s.heap.objs.size+1) none)) { s with heap:=zjx s.heap C us } :=
  I.laid (a:=s.heap.objs.size+1) (o:=XNew C (s.heap.objs.size+1) none) (t':=s.toks) (fun b u q=>zhu q) (Nat.le_succ _) (zw5 zn6)
section
variable {X:Cx}{k:Nat}{f C:Addr}{fd:FuncData}{ps:List Str}{sp:Sp}{E:XK}{x:Str}{p pos cpos:Pos}{e:Expr}{es:List Expr}{t:TA}
theorem runX {pins:List (Addr×Obj)}{σ:St}{H:Hp}{s:Shared}{us:List Value}{vs:List V}{Q:Addr→Hp→Prop} (c:XCls X.K C f) (F:FnOk X.prog X.w X.K X.mg X.base CX0 k f fd ps sp) (hr:Room (k+1) X.A) (hb:zb4 X.K fd ps [])
    (I:Inv X pins σ H s) (r:Vals vs us) (hl:vs.length≤sizeLine) (h : ∀ a,H a=none→sp (.ref a::vs) (upd H a (XNew C a none)) (fun v H2=>v = .non∧Q a H2) fun _ _ _=>False) :
    wpAny (model X.prog X.w) X.A (call (.ref C) us) (fun v s'=>∃ a H',v = .ref a∧X.s_0.heap.objs.size≤a∧Inv X pins σ H' s'∧Q a H') X.xe s:=by
  have hq:=h (s.heap.objs.size+1) (I.hok.fresh (Nat.le_succ _))
  have I2:=Inv.madeX (C:=C) (us:=us) I
  have r2:Vals (V.ref (s.heap.objs.size+1)::vs) (Value.ref (s.heap.objs.size+1)::us) := .cons rfl r
  have hl2:(Value.ref (s.heap.objs.size+1)::us++[]).length=ps.length:=by
    rw [List.append_nil,← r2.length]
    exact F.len _ _ _ _ hq
  have hb2:=hb { s with heap:=zjx s.heap C us } (Value.ref (s.heap.objs.size+1)::us) I2.kIn hl2
  rw [List.append_nil] at hb2
  refine wpAny_call (zyu (f:=f) I.kIn c (by rw [← r.length];exact hl) (codeAny_mono (F.run _ X.stack _ _ ⟨Value.ref (s.heap.objs.size+1)::us,[]⟩ (Value.ref (s.heap.objs.size+1)::us) _ _ _ (hr.make C us [])
    (I2.env0.make C us []) hb2 r2 hq) fun r s' hq'=>?_))
  cases r with
  | error e=>exact False.elim hq'
  | ok fl =>
    cases fl with
    | ret u =>
      obtain ⟨v,H',I3,rv,ev,q3⟩:=I2.after hq'
      subst ev
      exact ⟨rv,_,H',rfl,Nat.le_trans I.sz (Nat.le_succ _),I3,q3⟩
    | next=>exact False.elim hq'
    | brk=>exact False.elim hq'
    | cont=>exact False.elim hq'
theorem zco (c:XCls X.K C f) (F:FnOk X.prog X.w X.K X.mg X.base CX0 k f fd ps sp) (hr:Room (k+1) X.A) (hg:Gl X x) (hm:X.mg x=some (.ref C)) (hb:zb4 X.K fd ps []) (hx:zu7 X E) (hc:X.calm=true)
    (ha:PA X (e::es) t) (hdb:(x == ("__debug__":Str))=false:=by decide) (he:starEach (e::es) X.env=(false,eval e X.env)::starEach es X.env:=by rfl) (hpl:(backTo cpos (starEach es X.env)).any (·.1)=false:=by rfl) :
    PS X (.Raise (some (.Call (.Name x p) (e::es) [] cpos)) none pos) (zb5 C sp t E):=by
  intro pins s σ H D I h
  have key:wpAny (model X.prog X.w) X.A (eval (.Call (.Name x p) (e::es) [] cpos) X.env) (fun v s₁=>∃ e d t,v = .ref e∧X.K.In s₁.heap∧s₁.heap.get? e=some { cls := .ref C,dict:=d,data := .fields #[.ref t,.none,.none,.none,.bool false,.none] }∧X.xe (.ref e) s₁) X.xe s:=by
    refine wpAny_Call_Name_kw (zfu I hg hm ?_ hdb)
    refine PySem.W.callWith_K (h₀:=X.base) I.ok.mod.kin c.kp (thn (ha cpos pins s σ H _ I h) fun us s1 ⟨vs,H1,I1,r,hl,q⟩=>⟨I1.kIn,?_⟩) he hpl
    refine thn (runX c F hr hb I1 r hl q) fun v s2 ⟨a,H2,ev,hs,I2,dx,fs,h1,h2,h3⟩=>?_
    obtain ⟨⟨t,hat⟩,_,_⟩:=(show zbp X.prog X.w H2 s2.heap a (XNew C a (some dx)) from I2.hok a _ h1)
    exact ⟨a,some dx,t,ev,I2.kIn,hat,hx pins σ H2 s2 C a dx fs I2 hs h1 h2 h3⟩
  rw [arm_exec_Raise]
  exact wpAny_bind (wpAny_standAt (zxl (I.ok.hd hc) c (wpAny_bind (wpAny_mono key (fun v s₁ z=>wpAny_bind (wpAny_standAt (wpAny_pure z))) fun _ _ z=>z))))
end
end L2
namespace L2
open PySem PySem.Spec PyProof.Rows
open PySem.W (InstAt Looks)
structure Noted (l:List Env) (e:Addr) (old:Option Addr) (fl:Value) (h h':Heap):Prop where
  keep : ∀ b o,b≠e→some b≠old→b∉frs l→h.get? b=some o→h'.get? b=some o
  slot : ∀ b o,b≠e→some b≠old→h.get? b=some o→∃ sl,h'.get? b=some { o with slots:=sl }
  there : ∀ b o,h.get? b=some o→∃ o',h'.get? b=some o'
  exc : ∀ oe vs,h.get? e=some oe→oe.data = .fields vs→∃ vs' T oT ts,h'.get? e=some { oe with data := .fields vs' }∧vs'[1]? = some (.ref T)∧h.objs.size≤T∧T≠e∧h'.get? T=some oT∧oT.data = .fields ts∧ts[3]? = some fl
section
variable {M:Model}{A:Around}{E:Value→Shared→Prop}{s:Shared}
theorem zk5 {o:Obj}{vs:Array Value} (d:o.data = .fields vs) (g:Array Value→Array Value):Obj.mapFields g o={ o with data := .fields (g vs) }:=by
  obtain ⟨c,dd,dt,sl⟩:=o
  dsimp only at d
  subst d
  rfl
theorem zu2 {base:Heap}{env:Env}{outer:List Env}{L e:Addr}{oe:Obj}{vs:Array Value}{head:Value}{nx:Bool}{Q:Unit→Shared→Prop}
    (hfr:A.frames=some (env::outer)) (hl:s.heap.FunFrames base (env::outer)) (hf:env.frame=some L) (he:s.heap.get? e=some oe) (hd:oe.data = .fields vs) (hz:1<vs.size)
    (go : ∀ h',Noted (env::outer) e none (rawInt L) s.heap h'→Q () { s with heap:=h' }) :
    wpAny M A (do let a ← frameOf env;let pl ← entryPlaceOf L nx;let b ← EntryCells.newEntry head a .none (rawInt L) .none pl;setField (.ref e) 1 b) Q E s:=by
  have nfr:e∉frs (env::outer):=fun hm=>by
    obtain ⟨_,o,ho,nf⟩:=hl.mem hm
    rw [he] at ho
    cases ho
    exact nf vs hd
  refine wpAny_bind (wpAny_frameOf_fun hfr hl hf fun h₁ so=>wpAny_bind (wpAny_entryPlaceOf fun pl hpl=>?_))
  unfold EntryCells.newEntry newFields
  refine wpAny_bind (wpAny_newObj_type ?_ (hpl.sizeOk5 _ _ _ _ _))
  have e1:h₁.get? e=some oe:=(so.2.1 e nfr).trans he
  have e2:=Heap.get?_push_of_some { cls := .type "traceback",dict:=none,data := .fields ([head,.ref L,.none,rawInt L,.none]++(if pl.isEmpty then List.replicate 6 Value.none else pl)).toArray } e1
  have nT:h₁.objs.size≠e:=Nat.ne_of_gt (Heap.lt_size e1)
  have hfd:=Obj.isFreed_of_fields (Obj.data_mapFields hd (·.setIfInBounds 1 (Value.ref h₁.objs.size)))
  refine wpAny_setField e2 hd hz (go _ ⟨fun b o hb _ hn q=>?_,fun b o hb _ q=>?_,fun b o q=>?_,fun oe' vs' q1 q2=>?_⟩)
  · rw [Heap.get?_update_other _ _ (Ne.symm hb)]
    exact Heap.get?_push_of_some _ ((so.2.1 b hn).trans q)
  · obtain ⟨sl,z⟩:=so.2.2 b o q
    exact ⟨sl,by rw [Heap.get?_update_other _ _ (Ne.symm hb)];exact Heap.get?_push_of_some _ z⟩
  · by_cases hb:b=e
    · subst hb
      exact ⟨_,Heap.get?_update_self _ e2 hfd⟩
    · obtain ⟨sl,z⟩:=so.2.2 b o q
      exact ⟨_,by rw [Heap.get?_update_other _ _ (Ne.symm hb)];exact Heap.get?_push_of_some _ z⟩
  · rw [he] at q1
    cases q1
    rw [hd] at q2
    cases q2
    have atT:((h₁.push { cls := .type "traceback",dict:=none,data := .fields ([head,.ref L,.none,rawInt L,.none]++(if pl.isEmpty then List.replicate 6 Value.none else pl)).toArray }).update e (Obj.mapFields (·.setIfInBounds 1 (Value.ref h₁.objs.size)))).get? h₁.objs.size
        = some { cls := .type "traceback",dict:=none,data := .fields ([head,.ref L,.none,rawInt L,.none]++(if pl.isEmpty then List.replicate 6 Value.none else pl)).toArray }:=by
      rw [Heap.get?_update_other _ _ (Ne.symm nT)]
      exact Heap.get?_push_size h₁ rfl
    refine ⟨vs.setIfInBounds 1 (Value.ref h₁.objs.size),h₁.objs.size,_,([head,.ref L,.none,rawInt L,.none]++(if pl.isEmpty then List.replicate 6 Value.none else pl)).toArray,?_,by simp [hz],Nat.le_of_eq so.1.symm,nT,atT,rfl,?_⟩
    · rw [← zk5 hd (·.setIfInBounds 1 (Value.ref h₁.objs.size))]
      exact Heap.get?_update_self _ e2 hfd
    · first | (simp;done) | (rcases hpl with rfl | ⟨_,_,_,_,_,_,_,rfl⟩ <;> simp)
noncomputable def zyp (h:Heap) (e:Addr) (vs:Array Value) (old:Option Addr):Prop :=
  (old=none∧vs[1]? = some .none)∨∃ T oT ts,old=some T∧vs[1]? = some (.ref T)∧T≠e∧h.get? T=some oT∧oT.data = .fields ts∧ts[3]? = some .none
theorem zxz {base:Heap}{env:Env}{outer:List Env}{L e:Addr}{oe:Obj}{vs:Array Value}{old:Option Addr}{Q:Unit→Shared→Prop}
    (hfr:A.frames=some (env::outer)) (hl:s.heap.FunFrames base (env::outer)) (hf:env.frame=some L) (he:s.heap.get? e=some oe) (hd:oe.data = .fields vs) (la:zyp s.heap e vs old)
    (go : ∀ h',Noted (env::outer) e old (rawInt L) s.heap h'→Q () { s with heap:=h' }):wpAny M A (noteFrame (.ref e) env) Q E s:=by
  unfold noteFrame
  simp only [hf]
  rcases la with ⟨rfl,h1⟩ | ⟨T,oT,ts,rfl,h1,nTe,hT,dT,h3⟩
  · refine wpAny_bind (wpAny_field he hd h1 ?_)
    rw [if_neg (by decide)]
    exact zu2 hfr hl hf he hd (Array.getElem?_eq_some_iff.mp h1).1 go
  · refine wpAny_bind (wpAny_field he hd h1 ?_)
    rw [if_pos (show (Value.ref T != Value.none)=true by simp)]
    refine wpAny_bind (wpAny_field hT dT h3 ?_)
    rw [if_neg (show ¬ ((Value.none == rawInt L)=true) by simp [rawInt])]
    refine wpAny_bind (wpAny_setField hT dT (Array.getElem?_eq_some_iff.mp h3).1 ?_)
    have oth : ∀ b,b≠T→(s.heap.update T (Obj.mapFields (·.setIfInBounds 3 Value.none))).get? b=s.heap.get? b:=fun b hb=>Heap.get?_update_other _ _ (Ne.symm hb)
    have atT:=Heap.get?_update_self (Obj.mapFields (·.setIfInBounds 3 Value.none)) hT (Obj.isFreed_of_fields (Obj.data_mapFields dT _))
    refine zu2 (s:={ s with heap:=s.heap.update T (Obj.mapFields (·.setIfInBounds 3 Value.none)) }) hfr (hl.of_keeps fun b o hb nf=>⟨o,(oth b fun q=>?_).trans hb,rfl⟩) hf ((oth e (Ne.symm nTe)).trans he) hd (Array.getElem?_eq_some_iff.mp h1).1
      fun h' n=>go h' ⟨fun b o hb ho hn q=>n.keep b o hb (by simp) hn ((oth b fun z=>ho (by rw [z])).trans q),fun b o hb ho q=>n.slot b o hb (by simp) ((oth b fun z=>ho (by rw [z])).trans q),fun b o q=>?_,fun oe' vs' q1 q2=>?_⟩
    · subst q
      rw [hT] at hb
      cases hb
      exact nf ts dT
    · by_cases hb:b=T
      · subst hb
        exact n.there b _ atT
      · exact n.there b o ((oth b hb).trans q)
    · obtain ⟨vs2,T2,oT2,ts2,z1,z2,z3,z⟩:=n.exc oe' vs' ((oth e (Ne.symm nTe)).trans q1) q2
      exact ⟨vs2,T2,oT2,ts2,z1,z2,Nat.le_trans (Nat.le_of_eq (Heap.size_after_update ..).symm) z3,z⟩
theorem zmv {h:Heap}{l:List Env}{e:Addr}{old:Option Addr}{fl:Value}{oe:Obj}{vs:Array Value}{Q:Unit→Shared→Prop} (he:h.get? e=some oe) (hd:oe.data = .fields vs) (n:Noted l e old fl h s.heap)
    (go : ∀ h',Noted l e old .none h h'→Q () { s with heap:=h' }):wpAny M A (setFlight (.ref e) none) Q E s:=by
  obtain ⟨vs',T,oT,ts,z1,z2,z3,z4,z5,z6,z7⟩:=n.exc oe vs he hd
  have hz:3<ts.size:=(Array.getElem?_eq_some_iff.mp z7).1
  unfold setFlight
  refine wpAny_bind (wpAny_field z1 rfl z2 ?_)
  rw [if_pos (show (Value.ref T != Value.none)=true by simp)]
  refine wpAny_setField z5 z6 hz (go _ ?_)
  have oth : ∀ b,b≠T→(s.heap.update T (Obj.mapFields (·.setIfInBounds 3 ((none:Option Addr).elim Value.none fun f=>rawInt f)))).get? b=s.heap.get? b:=fun b hb=>Heap.get?_update_other _ _ (Ne.symm hb)
  have ne : ∀ b o,h.get? b=some o→b≠T:=fun b o q=>Nat.ne_of_lt (Nat.lt_of_lt_of_le (Heap.lt_size q) z3)
  refine ⟨fun b o hb ho hn q=>(oth b (ne b o q)).trans (n.keep b o hb ho hn q),fun b o hb ho q=>?_,fun b o q=>?_,fun oe' vs2 q1 q2=>?_⟩
  · obtain ⟨sl,z⟩:=n.slot b o hb ho q
    exact ⟨sl,(oth b (ne b o q)).trans z⟩
  · obtain ⟨o',z⟩:=n.there b o q
    exact ⟨o',(oth b (ne b o q)).trans z⟩
  · rw [he] at q1
    cases q1
    rw [hd] at q2
    cases q2
    exact ⟨vs',T,_,_,(oth e (Ne.symm z4)).trans z1,z2,z3,z4,Heap.get?_update_self _ z5 (Obj.isFreed_of_fields (Obj.data_mapFields z6 _)),Obj.data_mapFields z6 _,by simp [hz]⟩
end
structure Flown (h₀ h:Heap) (H:Hp) (a C d:Addr):Prop where
  new:h₀.objs.size≤a
  free:H a=none
  at_ : ∃ vs sl T oT ts,h.get? a=some ⟨.ref C,some d,.fields vs,sl⟩∧vs[1]? = some (.ref T)∧T≠a∧h₀.objs.size≤T∧H T=none∧h.get? T=some oT∧oT.data = .fields ts∧ts[3]? = some .none
noncomputable def CX1 (P:Program) (w:World):CXT:=fun outer H s E e s'=>∃ a C d fs H',e = .ref a∧s'.os=s.os∧AllBare s'.gens∧Un (frs outer) [] H H' s.heap s'.heap∧HOk P w H' s'.heap∧Flown s.heap s'.heap H' a C d ∧
  H' d=some (XDic d fs)∧E (.ref C) (some d) H'
theorem HOk.noted {P:Program}{w:World}{H:Hp}{h h':Heap}{l:List Env}{a:Addr}{old:Option Addr}{fl:Value} (x:HOk P w H h) (n:Noted l a old fl h h') (ha:H a=none) (ho : ∀ T,old=some T→H T=none) (hl : ∀ b∈frs l,H b=none):HOk P w H h':=fun b o e=>by
  have k : ∀ c u,H c≠none→h.get? c=some u→h'.get? c=some u:=fun c u q z=>n.keep c u (fun r=>q (by rw [r];exact ha)) (fun r=>q (ho c r.symm)) (fun r=>q (hl c r)) z
  refine (x b o e).stay (fun c u hc q=>k c u ?_ q) (fun _ q=>q) fun _ _ q=>q
  rcases hc with r | r
  · rw [r,e]
    simp
  · rw [r]
    simp
theorem Un.noted {fs':List Addr}{H₀ H:Hp}{h₀ h h':Heap}{l:List Env}{a:Addr}{old:Option Addr}{fl:Value} (u:Un fs' [] H₀ H h₀ h) (n:Noted l a old fl h h') (ha:h₀.get? a=none) (ho : ∀ T,old=some T→h₀.get? T=none)
    (hl : ∀ b∈frs l,b∈fs'∨h₀.get? b=none):Un fs' [] H₀ H h₀ h':=by
  have na : ∀ b o,h₀.get? b=some o→b≠a:=fun b o q r=>by
    rw [r,ha] at q
    cases q
  have no : ∀ b o,h₀.get? b=some o→some b≠old:=fun b o q r=>by
    rw [ho b r.symm] at q
    cases q
  refine ⟨fun b o q z hb hx=>n.keep b o (na b o q) (no b o q) (fun r=>?_) (u.keep b o q z hb hx),fun b o q z hb hx=>?_,u.free,fun b o q hx=>?_,u.tups,u.frzs,u.tbls⟩
  · rcases hl b r with r | r
    · exact hb r
    · rw [q] at r
      cases r
  · obtain ⟨sl,e⟩:=u.slot b o q z hb hx
    obtain ⟨sl',e'⟩:=n.slot b _ (na b o q) (no b o q) e
    exact ⟨sl',e'⟩
  · obtain ⟨o',e⟩:=u.there b o q hx
    exact n.there b o' e
theorem Flown.noted {h₀ h h':Heap}{H:Hp}{P:Program}{w:World}{l:List Env}{a C d:Addr}{old:Option Addr}{vs:Array Value}{sl:Array (Option Value)} (hok:HOk P w H h) (sz:h₀.objs.size≤h.objs.size) (n:Noted l a old .none h h')
    (e:h.get? a=some ⟨.ref C,some d,.fields vs,sl⟩) (ha:h₀.objs.size≤a) (hf:H a=none):Flown h₀ h' H a C d:=by
  obtain ⟨vs',T,oT,ts,z1,z2,z3,z4,z5,z6,z7⟩:=n.exc _ vs e rfl
  exact ⟨ha,hf,vs',sl,T,oT,ts,z1,z2,z4,Nat.le_trans sz z3,hok.fresh z3,z5,z6,z7⟩
end L2
namespace L2
open PySem PySem.Spec PyProof.Rows
open PySem.W (InstAt Looks)
theorem HOk.del {P:Program}{w:World}{H:Hp}{h:Heap}{a:Addr}{φ:Heap→Prop} (x:HOk P w H h) (e:H a=some (.ext φ)):HOk P w (del H a) h:=fun b o q=>by
  have hb:b≠a:=fun r=>by
    rw [r,zgr] at q
    cases q
  rw [zdv hb] at q
  refine (x b o q).stay (fun _ _ _ z=>z) (fun c z=>?_) fun c xs z=>?_
  · rw [zdv (fun r=>by rw [r,e] at z;cases z)]
    exact z
  · rw [zdv (fun r=>by rw [r,e] at z;cases z)]
    exact z
theorem Un.del {fs ex:List Addr}{H₀ H:Hp}{h₀ h:Heap}{a:Addr}{φ:Heap→Prop} (u:Un fs ex H₀ H h₀ h) (e:H a=some (.ext φ)):Un fs ex H₀ (del H a) h₀ h:=by
  refine ⟨u.keep,u.slot,fun b o q z hx=>?_,u.there,fun b xs q=>?_,fun b o xs q=>?_,fun b ps q=>?_⟩
  · by_cases hb:b=a
    · rw [hb,zgr]
    · rw [zdv hb]
      exact u.free b o q z hx
  · have z:=u.tups b xs q
    rw [zdv (fun r=>by rw [r,e] at z;cases z)]
    exact z
  · have z:=u.frzs b o xs q
    rw [zdv (fun r=>by rw [r,e] at z;cases z)]
    exact z
  · obtain ⟨m,z⟩:=u.tbls b ps q
    rw [zdv (fun r=>by rw [r,e] at z;cases z)]
    exact ⟨m,z⟩
theorem zjz {H:Hp}{a b:Addr} (h:H b=none):del H a b=none:=by
  by_cases hb:b=a
  · rw [hb,zgr]
  · rw [zdv hb]
    exact h
theorem Inv.del {X:Cx}{pins:List (Addr×Obj)}{σ:St}{H:Hp}{s:Shared}{a:Addr}{φ:Heap→Prop} (I:Inv X pins σ H s) (e:H a=some (.ext φ)):Inv X pins σ (L2.del H a) s :=
  ⟨I.ok,I.os,I.bare,I.base.del e,I.loc,I.cell,zjz I.free,fun x c q=>zjz (I.freeC x c q),fun p hp=>let ⟨h1,h2,h3⟩:=I.pin p hp;⟨h1,zjz h2,h3⟩,I.hok.del e,I.len⟩
section
variable {P:Program}{w:World}{K:PySem.W.Frag}{mg:Str→Option Value}{base:Heap}{N:List Str}{qual:Str}{scope:Scope}{f:Addr}{cd:Value}{A:Around}{outer:List Env}{s₀:Shared}{H₀:Hp}{E:XK}
theorem zj6 {pins:List (Addr×Obj)}{σ:St}{H:Hp}{s:Shared}{a C d:Addr}{vs:Array Value}{sl:Array (Option Value)}{old:Option Addr}{fs:List (Str×V)} (I:Inv (cxOf (CX1 P w) P w K mg base N qual scope f cd A outer s₀ H₀ E) pins σ H s)
    (ha:s₀.heap.objs.size≤a) (hat:s.heap.get? a=some ⟨.ref C,some d,.fields vs,sl⟩) (la:zyp s.heap a vs old) (ho : ∀ T,old=some T→s₀.heap.objs.size≤T∧H T=none) (hf:H a=none) (hd:H d=some (XDic d fs)) (q:E (.ref C) (some d) H) :
    (cxOf (CX1 P w) P w K mg base N qual scope f cd A outer s₀ H₀ E).xe (.ref a) s:=by
  have b1:Un (frs outer) [] H₀ H s₀.heap s.heap:=I.base
  show wpAny _ _ (leaving _ (.ref a)) _ _ s
  unfold leaving
  refine wpAny_bind (zxz (s:=s) I.ok.frames I.stack rfl hat rfl la fun h1 n1=>?_)
  refine zmv (s:={ s with heap:=h1 }) (h:=s.heap) hat rfl n1 fun h2 n2=>?_
  refine ⟨a,C,d,fs,H,rfl,I.os,I.bare,?_,?_,?_,hd,q⟩
  · refine b1.noted n2 (Heap.get?_none_of_le ha) (fun T z=>Heap.get?_none_of_le (ho T z).1) fun b hb=>?_
    rcases List.mem_cons.mp (I.stkSub b hb) with e | hb
    · refine .inr ?_
      rw [e]
      exact Heap.get?_none_of_le (Nat.le_refl _)
    · exact .inl hb
  · exact I.hok.noted n2 hf (fun T z=>(ho T z).2) fun b hb=>I.stkFree b hb
  · exact Flown.noted I.hok I.sz n2 hat ha hf
theorem zb6:zu7 (cxOf (CX1 P w) P w K mg base N qual scope f cd A outer s₀ H₀ E) E:=fun pins σ H s C a dx fs I hs h1 h2 q=>by
  obtain ⟨⟨t,hat⟩,_,_⟩:=(show zbp P w H s.heap a (XNew C a (some dx)) from I.hok a _ h1)
  have nd:dx≠a:=fun z=>by
    obtain ⟨_,mA,⟨o,es,ep,ho,hd,_⟩,_⟩:=(show zbp P w H s.heap dx (XDic dx fs) from I.hok dx _ h2).1
    rw [z,hat] at ho
    cases ho
    cases hd
  exact zj6 (old:=none) (I.del h1) hs hat (.inl ⟨rfl,rfl⟩) (fun T z=>nomatch z) zgr (by rw [zdv nd];exact h2) q
theorem za5:zc3 (CX1 P w) (cxOf (CX1 P w) P w K mg base N qual scope f cd A outer s₀ H₀ E) E:=fun pins σ H s e s' I z=>by
  obtain ⟨a,C,d,fs,H',rfl,os,bare,un,hok,⟨new,free,vs,sl,T,oT,ts,hat,h1,nT,nT0,fT,hT,dT,h3⟩,hd,q⟩:=z
  have I':=I.call' (ch:=[]) os un hok bare (fun b z=>absurd z (by simp))
  exact zj6 (old:=some T) I' (Nat.le_trans I.sz new) hat (.inr ⟨T,oT,ts,rfl,h1,nT,hT,dT,h3⟩) (fun T' z=>by cases z;exact ⟨Nat.le_trans I.sz nT0,fT⟩) free hd q
theorem znv:PassesOwn (model P w) (cxOf (CX1 P w) P w K mg base N qual scope f cd A outer s₀ H₀ E).A (cxOf (CX1 P w) P w K mg base N qual scope f cd A outer s₀ H₀ E).env (cxOf (CX1 P w) P w K mg base N qual scope f cd A outer s₀ H₀ E).xe:=PassesOwn.leaving
theorem Fun.okX {x:Str}{st:Stmt}{fd:FuncData}{ps:List Str}{k:Nat}{sp:Sp} (F:Fun K x qual st f fd) (S:FnScope N ps (zaf st)) (len : ∀ vs H Q E,sp vs H Q E→vs.length=ps.length)
    (hbody : ∀ (cdv:Value) (A:Around) (outer:List Env) (s:Shared) (H:Hp) (vs:List V) (Q:VK) (E:XK),Room k (A.deeper (envOfC qual (zaf st) s.heap.objs.size f cdv))→sp vs H Q E →
      ∃ t,PSs (cxOf (CX1 P w) P w K mg base N qual (zaf st) f cdv A outer s H E) (zde st) t∧t { nx:=fun _ H'=>Q .non H',rt:=Q } (start N vs) H):FnOk P w K mg base (CX1 P w) (k+1) f fd ps sp:=by
  obtain ⟨oc,od,kV,doc,pm,an,cdv,ct,osl,rfl,lk,hcd⟩:=F.ex
  exact zya lk hcd S len fun A outer s H vs Q E hr hsp=>hbody cdv A outer s H vs Q E hr hsp
end
end L2
namespace L2
open PySem PySem.Spec PyProof.Rows
open PySem.W (InstAt Looks)
noncomputable abbrev Cx.pinned (X:Cx) (pn:List (Addr×Obj)) (E:Value→Shared→Prop):Cx:={ X with pn:=pn,xe:=E }
noncomputable abbrev Cx.hand (X:Cx) (a:Addr):Cx:={ X with A:=X.A.mark (some (.ref a)),calm:=false,xe:=fun _ _=>False }
section
variable {X:Cx}{pins:List (Addr×Obj)}{σ:St}{H:Hp}{s:Shared}{E:Value→Shared→Prop}{a:Addr}
theorem Inv.pin_in (I:Inv X pins σ H s):Inv (X.pinned (X.pn++pins) E) [] σ H s :=
  ⟨⟨I.ok.mod,I.ok.kind,I.ok.glob,I.ok.blt,I.ok.above,I.ok.inj,I.ok.has,I.ok.cab,I.ok.hd,I.ok.frames,I.ok.stk,I.ok.exf,I.ok.bs,I.ok.bsz,I.ok.noex,I.ok.exfs,I.ok.funs,I.ok.frf⟩,I.os,I.bare,I.base,I.loc,I.cell,I.free,I.freeC,fun p hp=>I.pin p (by simpa using hp),I.hok,I.len⟩
theorem Inv.pin_out {pins':List (Addr×Obj)} (I:Inv (X.pinned (X.pn++pins) E) pins' σ H s):Inv X pins σ H s :=
  ⟨⟨I.ok.mod,I.ok.kind,I.ok.glob,I.ok.blt,I.ok.above,I.ok.inj,I.ok.has,I.ok.cab,I.ok.hd,I.ok.frames,I.ok.stk,I.ok.exf,I.ok.bs,I.ok.bsz,I.ok.noex,I.ok.exfs,I.ok.funs,I.ok.frf⟩,I.os,I.bare,I.base,I.loc,I.cell,I.free,I.freeC,fun p hp=>I.pin p (List.mem_append_left _ hp),I.hok,I.len⟩
theorem Inv.hand_in (I:Inv X pins σ H s) (a:Addr):Inv (X.hand a) pins σ H s :=
  ⟨⟨I.ok.mod,I.ok.kind,I.ok.glob,I.ok.blt,I.ok.above,I.ok.inj,I.ok.has,I.ok.cab,fun z=>Bool.noConfusion z,I.ok.frames,I.ok.stk,I.ok.exf,I.ok.bs,I.ok.bsz,I.ok.noex,I.ok.exfs,I.ok.funs,I.ok.frf⟩,I.os,I.bare,I.base,I.loc,I.cell,I.free,I.freeC,I.pin,I.hok,I.len⟩
theorem Inv.hand_out (ok:X.Ok) (I:Inv (X.hand a) pins σ H s):Inv X pins σ H s:=⟨ok,I.os,I.bare,I.base,I.loc,I.cell,I.free,I.freeC,I.pin,I.hok,I.len⟩
theorem SP.pin_out {D:Ends}{f:Flow} (h:SP (X.pinned (X.pn++pins) E) [] D f s):SP X pins D f s:=by
  cases f with
  | next=>obtain ⟨σ',H',I,q⟩:=h;exact ⟨σ',H',I.pin_out,q⟩
  | brk=>obtain ⟨σ',H',I,q⟩:=h;exact ⟨σ',H',I.pin_out,q⟩
  | cont=>obtain ⟨σ',H',I,q⟩:=h;exact ⟨σ',H',I.pin_out,q⟩
  | ret u=>obtain ⟨v,σ',H',I,r,q⟩:=h;exact ⟨v,σ',H',I.pin_out,r,q⟩
theorem Inv.noted {old:Option Addr}{fl:Value}{h':Heap}{t':Nat} (I:Inv X pins σ H s) (n:Noted X.stack a old fl s.heap h') (ha:H a=none) (ho : ∀ T,old=some T→H T=none)
    (hx : ∀ b,b=a∨some b=old→X.s_0.heap.objs.size≤b∧b≠X.env.locals∧(∀ x c,X.env.cells.lookup x=some c→c≠b)∧∀ p∈X.pn++pins,p.1≠b):Inv X pins σ H { s with heap:=h',toks:=t' }:=by
  have mem : ∀ b,b∈a::old.toList→b=a∨some b=old:=fun b hb=>by
    rcases List.mem_cons.mp hb with e | e
    · exact .inl e
    · cases old with
      | none=>simp at e
      | some T=>exact .inr (by simpa using e)
  have nch : ∀ b,b∉a::old.toList→b≠a∧some b≠old:=fun b hb=>⟨fun z=>hb (by simp [z]),fun z=>hb (by rw [← z];simp)⟩
  refine I.step (g':=s.gens) (d':=s.drawn) (ch:=a::old.toList) (fun b hb=>let ⟨h1,h2,h3,h4⟩:=hx b (mem b hb);⟨.inr h1,h2,h3,h4⟩) (fun b o hL hb hc q _=>n.keep b o (nch b hc).1 (nch b hc).2 (fun z=>?_) q)
    (fun b o _ _ hc q _=>n.slot b o (nch b hc).1 (nch b hc).2 q) (fun b o _ _ z=>z) (fun b o _ q=>n.there b o q) (fun _ _ z=>z) (fun _ _ _ z=>z) (fun b ps z=>⟨#[],by rw [z];simp⟩) (fun m hm=>?_)
    (I.hok.noted n ha ho fun b hb=>I.stkFree b hb) I.bare
  · rcases List.mem_cons.mp (I.stkSub b z) with e | e
    · exact hL e
    · exact hb e
  · obtain ⟨o,es,ep,ho',r⟩:=hm
    have nl:X.env.locals≠a∧some X.env.locals≠old:=⟨fun z=>(hx _ (.inl z)).2.1 rfl,fun z=>(hx _ (.inr z)).2.1 rfl⟩
    obtain ⟨sl,e⟩:=n.slot _ o nl.1 nl.2 ho'
    exact ⟨_,es,ep,e,r⟩
theorem Inv.unbound {h':Heap}{m':Str→Option Value}{t':Nat} (I:Inv X pins σ H s) (hn:h'.Ns X.env.locals m') (sb:Heap.SameBut X.env.locals s.heap h'):Inv X pins (List.replicate X.N.length none) H { s with heap:=h',toks:=t' }:=by
  have old : ∀ b o,X.s_0.heap.get? b=some o→h'.get? b=s.heap.get? b:=fun b o q=>sb.2 b (Nat.ne_of_lt (Nat.lt_of_lt_of_le (Heap.lt_size q) I.ok.above))
  refine ⟨I.ok,I.os,I.bare,⟨fun b o q z hb hx=>(old b o q).trans (I.base.keep b o q z hb hx),fun b o q z hb hx=>?_,I.base.free,fun b o q hx=>?_,I.base.tups,I.base.frzs,I.base.tbls⟩,⟨m',hn,fun i x v _ e2 _=>?_⟩,fun x c e=>?_,I.free,I.freeC,fun p hp=>?_,fun b ob e=>?_,by simp⟩
  · obtain ⟨sl,e⟩:=I.base.slot b o q z hb hx
    exact ⟨sl,(old b o q).trans e⟩
  · obtain ⟨o',e⟩:=I.base.there b o q hx
    exact ⟨o',(old b o q).trans e⟩
  · rw [List.getElem?_replicate] at e2
    split at e2 <;> cases e2
  · obtain ⟨v,z⟩:=I.cell x c e
    exact ⟨v,z.sameBut sb (I.cne x c e)⟩
  · obtain ⟨h1,h2,h3,h4⟩:=I.pin p hp
    exact ⟨(sb.2 p.1 h3).trans h1,h2,h3,h4⟩
  · refine (I.hok b ob e).stay (fun c u hc q=>(sb.2 c fun z=>?_).trans q) (fun _ q=>q) fun _ _ q=>q
    rcases hc with r | r
    · rw [← r,z,I.free] at e
      cases e
    · rw [z,I.free] at r
      cases r
theorem Inv.track {o:HO} (I:Inv X pins σ H s) (hn:H a=none) (hx:X.s_0.heap.objs.size≤a∧a≠X.env.locals∧(∀ x c,X.env.cells.lookup x=some c→c≠a)∧∀ p∈X.pn++pins,p.1≠a) (ok:zbp X.prog X.w (upd H a o) s.heap a o):Inv X pins σ (upd H a o) s:=by
  have na : ∀ b u,H b=some u→b≠a:=fun b u q=>zag q hn
  refine ⟨I.ok,I.os,I.bare,⟨I.base.keep,I.base.slot,fun b u q z hb=>?_,I.base.there,fun b xs q=>?_,fun b u xs q=>?_,fun b ps q=>?_⟩,I.loc,I.cell,?_,fun x c e=>?_,fun p hp=>?_,fun b u q=>?_,I.len⟩
  · rw [zah (Nat.ne_of_lt (Nat.lt_of_lt_of_le (Heap.lt_size q) hx.1))]
    exact I.base.free b u q z hb
  · have z:=I.base.tups b xs q
    rw [zah (na _ _ z)]
    exact z
  · have z:=I.base.frzs b u xs q
    rw [zah (na _ _ z)]
    exact z
  · obtain ⟨m,z⟩:=I.base.tbls b ps q
    exact ⟨m,by rw [zah (na _ _ z)];exact z⟩
  · rw [zah (Ne.symm hx.2.1)]
    exact I.free
  · rw [zah (hx.2.2.1 x c e)]
    exact I.freeC x c e
  · obtain ⟨h1,h2,h3⟩:=I.pin p hp
    exact ⟨h1,by rw [zah (hx.2.2.2 p hp)];exact h2,h3⟩
  · by_cases hb:b=a
    · subst hb
      rw [zad] at q
      cases q
      exact ok
    · rw [zah hb] at q
      exact (I.hok b u q).stay (fun _ _ _ z=>z) (fun c z=>by rw [zah (na _ _ z)];exact z) fun c xs z=>by rw [zah (na _ _ z)];exact z
end
noncomputable def zx8 (X:Cx) (C:Addr) (i:Nat) (ts:TS) (D:Ends):XK:=fun cls d H=>cls = .ref C∧∀ a dx,d=some dx→H a=none→ts { nx:=fun _ _=>False,rt:=D.rt } ((List.replicate X.N.length none).set i (some (.ref a))) (upd H a (XGot C a dx))
section
variable {X:Cx}{C f:Addr}{i:Nat}{cx nm:Str}{np hpos pos:Pos}{body suite:List Stmt}{b₀:Stmt}{ts:TS}{tb:Ends→TS}
theorem zxm (c:XCls X.K C f) (hg:Gl X cx) (hm:X.mg cx=some (.ref C)) (hN:X.N.Nodup) (hi:X.N[i]? = some nm) (hk:X.env.scope.names.lookup nm=some .local) (hstk:X.stack=X.env::X.outer) (hfr:X.env.frame=some X.env.locals)
    (hb : ∀ (pn:List (Addr×Obj)) (E:Value→Shared→Prop) (D:Ends),zc3 (CX1 X.prog X.w) (X.pinned pn E) (zx8 X C i ts D)→PSs (X.pinned pn E) body (tb D)) (hs : ∀ a,PSs (X.hand a) (b₀::suite) ts)
    (hdb:(cx == ("__debug__":Str))=false:=by decide) :
    PS X (.Try body [.ExceptHandler (some (.Name cx np)) (some nm) (b₀::suite) hpos] [] [] pos) (fun D σ H=>tb D D σ H):=by
  intro pins s σ H D I h
  refine wpAny_Try_except ?_
  refine wpAny_mono (hb (X.pn++pins) (fun e s'=>∃ pins' σ' H₁ s₁,Inv (X.pinned (X.pn++pins) fun _ _=>False) pins' σ' H₁ s₁∧CX1 X.prog X.w X.stack H₁ s₁ (zx8 X C i ts D) e s') D (fun pins' σ' H₁ s₁ e s' J z=>⟨pins',σ',H₁,s₁,?_,z⟩) [] s σ H D I.pin_in h) (fun fl s₁ q=>?_) fun e s' q=>?_
  · exact ⟨⟨J.ok.mod,J.ok.kind,J.ok.glob,J.ok.blt,J.ok.above,J.ok.inj,J.ok.has,J.ok.cab,J.ok.hd,J.ok.frames,J.ok.stk,J.ok.exf,J.ok.bs,J.ok.bsz,J.ok.noex,J.ok.exfs,J.ok.funs,J.ok.frf⟩,J.os,J.bare,J.base,J.loc,J.cell,J.free,J.freeC,J.pin,J.hok,J.len⟩
  · have q':=SP.pin_out q
    cases fl with
    | next=>exact wpAny_execs_nil q'
    | brk=>exact q'
    | cont=>exact q'
    | ret u=>exact q'
  · obtain ⟨pins',σ',H₁,s₁,J,a,C',d,fs,H',rfl,os,bare,un,hok,⟨new,free,vs,sl,T,oT,tv,hat,h1,nT,nT0,fT,hT,dT,h3⟩,hd,hC,q⟩:=q
    cases hC
    have J1:=J.pin_out
    have J2:=J1.call' (ch:=[]) os un hok bare (fun b z=>absurd z (by simp))
    have hx : ∀ b,b=a∨some b=some T→X.s_0.heap.objs.size≤b∧b≠X.env.locals∧(∀ x c,X.env.cells.lookup x=some c→c≠b)∧∀ p∈X.pn++pins,p.1≠b:=fun b hb=>by
      have big:s₁.heap.objs.size≤b:=by
        rcases hb with e | e
        · rw [e];exact new
        · cases e;exact nT0
      refine ⟨Nat.le_trans J1.sz big,Nat.ne_of_gt (Nat.lt_of_lt_of_le J1.lt big),fun x c e=>?_,fun p hp=>Nat.ne_of_lt (Nat.lt_of_lt_of_le (Heap.lt_size (J1.pin p hp).1) big)⟩
      obtain ⟨v,z⟩:=J1.cell x c e
      exact Nat.ne_of_lt (Nat.lt_of_lt_of_le z.lt big)
    have stk:=J2.stack
    have frm:=J2.ok.frames
    rw [hstk] at stk frm
    refine zxz (s:=s') frm stk hfr hat rfl (.inr ⟨T,oT,tv,rfl,h1,nT,hT,dT,h3⟩) fun h2 n2=>?_
    refine zmv (s:={ s' with heap:=h2 }) (h:=s'.heap) hat rfl n2 fun h3 n3=>?_
    refine wpAny_handleBy_cons (codeAny_handlers_test ?_) (by intro z;cases z)
    have n3':Noted X.stack a (some T) Value.none s'.heap h3:=by rw [hstk];exact n3
    have J3:=J2.noted (t':=s'.toks) n3' free (fun T' z=>by cases z;exact fT) hx
    refine zfu (J3.hand_in a) hg hm ?_ hdb
    obtain ⟨nm',q',N',bs,sn,sub,ab,col,dd,k0,k1,k2,k3,k5,lk⟩:=c.obj
    obtain ⟨vs2,T2,oT2,tv2,z1,z2,z3,z4,z5,z6,z7⟩:=n3.exc _ vs hat rfl
    refine wpAny_excMatches_sub_self (J3.kIn _ _ lk) z1 rfl PySem.F.excBase_Exception.hasBase ?_
    refine codeAny_handlers_suite_as ?_
    refine zmv (s:={ s' with heap:=h3 }) (h:=s'.heap) hat rfl n3 fun h4 n4=>?_
    have n4':Noted X.stack a (some T) Value.none s'.heap h4:=by rw [hstk];exact n4
    have J4:=J2.noted (t':=s'.toks) n4' free (fun T' z=>by cases z;exact fT) hx
    obtain ⟨vs4,T4,oT4,tv4,y1,_⟩:=n4.exc _ vs hat rfl
    have J5:Inv X pins ((List.replicate X.N.length none)) (upd H' a (XGot C a d)) { s' with heap:=h4 }:=by
      refine Inv.weak (σ:=σ') ?_ (by rw [List.length_replicate];exact J4.len.symm) fun j v e=>?_
      · exact J4.track free (hx a (.inl rfl)) (zyr y1)
      · rw [List.getElem?_replicate] at e
        split at e <;> cases e
    refine zgj (X:=X) J5 hN hi (.inl hk) (v := .ref a) rfl (fun s5 J6=>?_) (.inr hk)
    refine wpAny_mono (hs a pins s5 _ _ { nx:=fun _ _=>False,rt:=D.rt } (J6.hand_in a) (q a d rfl free)) (fun fl s6 r=>?_) fun _ _ z=>False.elim z
    cases fl with
    | next=>obtain ⟨_,_,_,z⟩:=r;exact z.elim
    | brk=>obtain ⟨_,_,_,z⟩:=r;exact z.elim
    | cont=>obtain ⟨_,_,_,z⟩:=r;exact z.elim
    | ret u =>
      obtain ⟨v,σ7,H7,J7,rv,r⟩:=r
      have J8:=J7.hand_out I.ok
      obtain ⟨m,hm8,_⟩:=id J8.loc
      refine wpAny_nameGoes hk hm8 (by rw [I.ok.kind];rfl) fun h9 m9 hn9 sb=>?_
      exact ⟨v,_,H7,J8.unbound hn9 sb,rv,r⟩
end
end L2
namespace L2
open PySem PySem.Spec PyProof.Rows
section
variable {X:Cx}{CX:CXT}{k:Nat}{E:XK}{x:Str}{p pos:Pos}{e:Expr}{es:List Expr}{t:TA}
noncomputable def zdm (X:Cx) (CX:CXT) (k i:Nat) (E:XK) (t:TA):TE:=fun σ H Q=>∃ f fd ps sp,σ[i]? = some (some (.ref f))∧FnOk X.prog X.w X.K X.mg X.base CX k f fd ps sp∧zb4 X.K fd ps []∧PySem.W.keepIn X.K (.ref f)=true ∧
  t σ H fun vs H1=>sp vs H1 Q E
theorem zd4 (i:Nat) (hr:Room k X.A) (hx:zc3 CX X E) (ha:PA X (e::es) t) (hN:X.N[i]? = some x:=by rfl)
    (hv:Vis X.env.scope x:=by first | exact Or.inl rfl | exact Or.inr (Or.inl rfl) | exact Or.inr (Or.inr rfl)) (hd:(x == ("__debug__":Str))=false:=by decide) (hcd:(x == ("__classdict__":Str))=false:=by decide)
    (he:starEach (e::es) X.env=(false,eval e X.env)::starEach es X.env:=by rfl) (hpl:(backTo pos (starEach es X.env)).any (·.1)=false:=by rfl) :
    PE X (.Call (.Name x p) (e::es) [] pos) (zdm X CX k i E t):=by
  intro pins s σ H Q I h
  obtain ⟨f,fd,ps,sp,h1,F,hb,hk,h2⟩:=h
  refine wpAny_Call_Name_kw (thn (pv (X:=X) i hN hv hd hcd pins s σ H (fun v H'=>v = .ref f∧H'=H) I ⟨_,h1,rfl,rfl⟩) fun u s1 ⟨v,H1,I1,r1,ev,eH⟩=>?_)
  subst ev eH
  cases r1
  refine PySem.W.callWith_K (h₀:=X.base) I1.ok.mod.kin hk (thn (ha pos pins s1 σ _ _ I1 h2) fun us s2 ⟨vs,H2,I2,r,q⟩=>⟨I2.kIn,?_⟩) he hpl
  exact znj (dvs:=[]) F hr hb .nil hx I2 r (by rw [List.append_nil];exact q)
end
section
variable {X:Cx}
theorem pe_g {x:Str}{v:V}{pos:Pos} (h : ∃ u,X.mg x=some u∧RelV v u) (hg:Gl X x:=by rfl) (hd:(x == ("__debug__":Str))=false:=by decide):PE X (.Name x pos) (tC v):=by
  obtain ⟨u,h1,h2⟩:=h
  exact zq0 hg h1 h2 hd
noncomputable def zyq (i j:Int):Prop:=0<j∧j.natAbs.log2<9000
theorem znx:OpR X (binaryOp .FloorDiv) (rI zyq fun i j => .int (i / j)):=opI fun i j _ _ _ _ _ hc q=>by
  have hj:j≠0:=by have:=hc.1;omega
  refine floordiv_int hj ?_ (.inl (PyProof.noPylong_of_log2 hc.2))
  rw [Int.fdiv_eq_ediv_of_nonneg _ (Int.le_of_lt hc.1)]
  exact q
theorem zoy {n:Nat} (h:n<2 ^ 200):n.log2<9000:=by
  by_cases h0:n=0
  · subst h0;decide
  · exact Nat.lt_trans ((Nat.log2_lt h0).mpr h) (by decide)
theorem zoq:OpR X (binaryOp .Mult) (fun x y H Q=>∃ a n,x = .str a∧y = .int n∧MulOk a n∧Q (.str (Txt.mul a n)) H):=by
  intro pins s σ H x y v u Q I rx ry h
  obtain ⟨a,n,rfl,rfl,hm,h⟩:=h
  obtain ⟨t1,rfl⟩:=rx
  obtain ⟨t2,rfl⟩:=ry
  exact SB.mul hm fun t' k=>⟨.str (Txt.mul a n),H,I.tok _,⟨_,rfl⟩,h⟩
end
noncomputable def PET (X:Cx) (e:Expr) (t:TE):Prop :=
  ∀ (pins:List (Addr×Obj)) (s:Shared) (σ:St) (H:Hp) (Q:VK),Inv X pins σ H s→1≤s.toks→t σ H Q→wpAny (model X.prog X.w) X.A (eval e X.env) (EP X pins σ Q) X.xe s
noncomputable def PEp (X:Cx) (e:Expr) (t:TE):Prop :=
  ∀ (pins:List (Addr×Obj)) (s:Shared) (σ:St) (H:Hp) (Q:VK),Inv X pins σ H s→t σ H Q→wpAny (model X.prog X.w) X.A (eval e X.env) (fun u s'=>1≤s'.toks∧EP X pins σ Q u s') X.xe s
noncomputable def PTT (X:Cx) (e:Expr) (t:TT):Prop :=
  ∀ (pins:List (Addr×Obj)) (s:Shared) (σ:St) (H:Hp) (Q:Bool→Hp→Prop),Inv X pins σ H s→1≤s.toks→t σ H Q→wpAny (model X.prog X.w) X.A (isTrue e X.env (eval e X.env)) (TP X pins σ Q) X.xe s
noncomputable def PTp (X:Cx) (e:Expr) (t:TT):Prop :=
  ∀ (pins:List (Addr×Obj)) (s:Shared) (σ:St) (H:Hp) (Q:Bool→Hp→Prop),Inv X pins σ H s→t σ H Q→wpAny (model X.prog X.w) X.A (isTrue e X.env (eval e X.env)) (fun u s'=>1≤s'.toks∧TP X pins σ Q u s') X.xe s
noncomputable def PSsT (X:Cx) (st:List Stmt) (t:TS):Prop :=
  ∀ (pins:List (Addr×Obj)) (s:Shared) (σ:St) (H:Hp) (D:Ends),Inv X pins σ H s→1≤s.toks→t D σ H→wpAny (model X.prog X.w) X.A (execs st X.env) (SP X pins D) X.xe s
noncomputable def PST (X:Cx) (st:Stmt) (t:TS):Prop :=
  ∀ (pins:List (Addr×Obj)) (s:Shared) (σ:St) (H:Hp) (D:Ends),Inv X pins σ H s→1≤s.toks→t D σ H→wpAny (model X.prog X.w) X.A (exec st X.env) (SP X pins D) X.xe s
noncomputable def PIT (X:Cx) (tg iter:Expr) (wi:TI):Prop :=
  ∀ (pins:List (Addr×Obj)) (s:Shared) (σ:St) (H:Hp) (R:It→Hp→Prop),Inv X pins σ H s→1≤s.toks→wi σ H R →
    wpAny (model X.prog X.w) X.A (eval iter X.env) (fun v s1=>wpAny (model X.prog X.w) X.A (pyIter v) (PIE X pins σ tg R) X.xe s1) X.xe s
structure FnOkT (P:Program) (w:World) (K:PySem.W.Frag) (mg:Str→Option Value) (base:Heap) (CX:CXT) (k:Nat) (f:Addr) (fd:FuncData) (ps:List Str) (sp:Sp):Prop where
  len : ∀ vs H Q E,sp vs H Q E→vs.length=ps.length
  run : ∀ (A:Around) (outer:List Env) (s:Shared) (H:Hp) (args:Args) (us:List Value) (vs:List V) (Q:VK) (E:XK),1≤s.toks→Room k A→Env0 P w K mg base A outer s H→BindsTo s fd args (ps.zip us)→Vals vs us→sp vs H Q E →
    codeAny (model P w) A (.call (.ref f) args) (CR CX outer P w H s Q E) s
section
variable {X:Cx}{CX:CXT}{k:Nat}{E:XK}{x:Str}{p pos apos:Pos}{a b c e o:Expr}{es:List Expr}{ta tb te to:TE}{t:TA}{tA tB' tc:TT}{st:Stmt}{rest:List Stmt}{tS u:TS}{f:Addr}{fd:FuncData}{ps:List Str}{sp:Sp}
theorem zvw {op:CmpOp}{r:R2} (ho:OpR X (compareOp op) r) (ha:PE X a ta) (hb:PEp X b tb) (hm:behindInMarks op b=false):PTp X (.Compare a [op] [b] pos) (zl1 (tOp r ta tb)):=by
  intro pins s σ H Q I h
  refine wpAny_isTrue_Compare1 (thn (ha pins s σ H _ I h) fun v s1 ⟨x,H1,I1,r1,q1⟩=>thn (hb pins s1 σ H1 _ I1 q1) fun u s2 ⟨tk,y,H2,I2,r2,q2⟩ =>
    thn (wpAny_toks_of tk (ho pins s2 σ H2 x y v u _ I2 r1 r2 q2) |> fun z=>wpAny_mono z (fun _ _ q=>q) fun _ _ q=>q.2) fun c s3 ⟨tk3,z,H3,I3,r3,k,e,q3⟩=>?_) hm
  subst e
  cases r3
  exact wpAny_truthy_bool ⟨tk3,H3,I3,q3⟩
theorem zv1 (hg:Gl X "len") (hm:X.mg "len"=none) (ha:PE X a ta) (hs:starEach [a] X.env=[(false,eval a X.env)]:=by rfl) :
    PEp X (.Call (.Name "len" p) [a] [] pos) (fun σ H Q=>ta σ H fun x H1=>∃ q ys,x = .ref q∧SqL X.K H1 q ys∧Q (.int ys.length) H1):=by
  intro pins s σ H Q I h
  refine wpAny_Call_Name_kw (ziq I hg hm PySem.boot_len ?_)
  have he:starEach (a::[]) X.env=(false,eval a X.env)::starEach [] X.env:=by rw [hs];rfl
  refine PyProof.Rows.callWith_builtin1 (thn (zaa ha zac he pos pins s σ H (fun vs H1=>∃ x,vs=[x]∧∃ q ys,x = .ref q∧SqL X.K H1 q ys∧Q (.int ys.length) H1) I ?_) fun us s1 ⟨vs,H1,I1,r1,x,ex,q,ys,exq,hq,qq⟩=>?_) he rfl
  · have h':ta σ H fun x H1=>∃ q ys,x=V.ref q∧SqL X.K H1 q ys∧Q (.int ys.length) H1:=h
    show ta σ H fun x H1=>∃ x_1,[x]=[x_1]∧_
    have e:(fun (x:V) (H1:Hp)=>∃ x_1,[x]=[x_1]∧∃ q ys,x_1=V.ref q∧SqL X.K H1 q ys∧Q (.int ys.length) H1)=fun x H1=>∃ q ys,x=V.ref q∧SqL X.K H1 q ys∧Q (.int ys.length) H1:=by
      funext x H1
      exact propext ⟨fun ⟨y,e,z⟩=>by cases e;exact z,fun z=>⟨x,rfl,z⟩⟩
    rw [e]
    exact h'
  · subst ex exq
    obtain ⟨u,rfl,rx⟩:=zlw r1
    cases rx
    have hn:=ze6
    obtain ⟨its,r',pl,hz⟩:=I1.list hq
    have hlen:=r'.length
    exact Calls.call_len_list pl.isList (by simp only [List.size_toArray] <;> omega) ⟨by show 1≤_ ;simp;try omega,.int ys.length,H1,I1.tok _,⟨_,by rw [List.size_toArray,hlen]⟩,qq⟩
theorem pw_orP (ha:PTp X a tA) (hb : ∀ whole (pins:List (Addr×Obj)) (s:Shared) (σ:St) (H:Hp) (Q:Bool→Hp→Prop),Inv X pins σ H s→1≤s.toks→tB' σ H Q→wpAny (model X.prog X.w) X.A (isTrue (.BoolOp .Or [b] pos) X.env whole) (TP X pins σ Q) X.xe s):PT X (.BoolOp .Or [a,b] pos) (tOr tA tB'):=by
  intro pins s σ H Q I h
  refine isTrue_or (thn (ha pins s σ H _ I h) fun c s1 ⟨tk,H1,I1,q1⟩=>?_)
  cases c with
  | true=>exact ⟨H1,I1,q1⟩
  | false=>exact hb _ pins s1 σ H1 Q I1 tk q1
theorem pw_or1T (ha:PTT X a tA) : ∀ whole (pins:List (Addr×Obj)) (s:Shared) (σ:St) (H:Hp) (Q:Bool→Hp→Prop),Inv X pins σ H s→1≤s.toks→tA σ H Q→wpAny (model X.prog X.w) X.A (isTrue (.BoolOp .Or [a] pos) X.env whole) (TP X pins σ Q) X.xe s:=by
  intro wh pins s σ H Q I tk h
  refine isTrue_or (thn (ha pins s σ H Q I tk h) fun c s1 e=>?_)
  cases c with
  | false=>exact isTrue_or_nil e
  | true=>exact e
theorem zvu (ha:PTT X a tA):PTT X (.UnaryOp .Not a pos) (tNot tA):=by
  intro pins s σ H Q I tk h
  exact isTrue_not (ha pins s σ H (fun c H1=>Q (!c) H1) I tk h)
theorem zvt {e:Expr}{t:TE} (h:PET X e t) (he : ∀ whole,isTrue e X.env whole=(do let v ← whole;standAt e.pos;holding [v] (truthy v)):=by intro _;rfl):PTT X e (tB t):=by
  intro pins s σ H Q I tk hw
  refine isTrue_plain (thn (h pins s σ H _ I tk hw) fun v s1 ⟨x,H1,I1,r1,q1⟩=>?_) (he _)
  obtain ⟨d,rfl,q⟩:=q1
  cases r1
  exact wpAny_truthy_bool ⟨H1,I1,q⟩
theorem zvr {pins:List (Addr×Obj)}{σ:St}{H:Hp}{s:Shared}{Q:VK}{us:List Value}{vs:List V} (F:FnOkT X.prog X.w X.K X.mg X.base CX k f fd ps sp) (hr:Room k X.A) (hb:zb4 X.K fd ps []) (hx:zc3 CX X E)
    (I:Inv X pins σ H s) (tk:1≤s.toks) (r:Vals vs us) (h:sp vs H Q E):wpAny (model X.prog X.w) X.A (call (.ref f) us) (EP X pins σ Q) X.xe s:=by
  have hl:(us++[]).length=ps.length:=by rw [List.append_nil,← r.length];exact F.len _ _ _ _ h
  have hb2:=hb s us I.kIn hl
  rw [List.append_nil] at hb2
  refine wpAny_call (codeAny_mono (F.run X.A X.stack s H ⟨us,[]⟩ us vs Q E tk hr I.env0 hb2 r h) fun r s' hq=>?_)
  cases r with
  | error e=>exact hx pins σ H s e s' I hq
  | ok fl =>
    cases fl with
    | ret u=>exact I.after hq
    | next=>exact False.elim hq
    | brk=>exact False.elim hq
    | cont=>exact False.elim hq
theorem ztd (F:FnOkT X.prog X.w X.K X.mg X.base CX k f fd ps sp) (hr:Room k X.A) (hg:Gl X x) (hm:X.mg x=some (.ref f)) (hk:PySem.W.keepIn X.K (.ref f)=true) (hb:zb4 X.K fd ps []) (hx:zc3 CX X E)
    (ha:PA X (e::es) t) (hdb:(x == ("__debug__":Str))=false:=by decide) (he:starEach (e::es) X.env=(false,eval e X.env)::starEach es X.env:=by rfl) (hpl:(backTo pos (starEach es X.env)).any (·.1)=false:=by rfl) :
    PET X (.Call (.Name x p) (e::es) [] pos) (zkg sp [] E t):=by
  intro pins s σ H Q I tk h
  refine wpAny_Call_Name_kw (zfu I hg hm ?_ hdb)
  refine PySem.W.callWith_K (h₀:=X.base) I.ok.mod.kin hk (wpAny_mono (wpAny_toks_of tk (ha pos pins s σ H _ I h)) (fun us s1 ⟨tk1,vs,H1,I1,r,q⟩=>⟨I1.kIn,?_⟩) fun _ _ z=>z.2) he hpl
  have q':sp (vs++[]) H1 Q E:=q
  rw [List.append_nil] at q'
  exact zvr F hr hb hx I1 tk1 r q'
theorem zqr (h1:PST X st tS) (h2:PSs X rest u):PSsT X (st::rest) (tSeq tS u):=by
  intro pins s σ H D I tk h
  refine wpAny_execs_cons (thn (h1 pins s σ H { D with nx:=u D } I tk h) fun f s1 q=>?_)
  cases f with
  | next =>
    obtain ⟨σ',H',I',q⟩:=q
    exact h2 pins s1 σ' H' D I' q
  | ret v=>exact q
  | brk=>exact q
  | cont=>exact q
theorem zs9 {tg l:Expr}{tl:TE} (hl:PET X l tl):PIT X tg l (zmq X.K tl):=by
  intro pins s σ H R I tk h
  refine thn (hl pins s σ H _ I tk h) fun v s1 ⟨x,H1,I1,r1,q1⟩=>?_
  obtain ⟨a,e,⟨xs,hq⟩,q⟩:=q1
  subst e
  cases r1
  obtain ⟨its,rv,p,hz⟩:=I1.list hq
  refine wpAny_pyIter_list p.isList ?_
  refine ⟨s1.heap.objs.size,[s1.heap.objs.size],_,_,H1,rfl,I1.kept (t':=s1.toks) fun b o e=>Heap.get?_push_of_some _ e,zkc a _,⟨_,Heap.get?_push_size _ rfl,rfl,rfl⟩,fun b hb=>?_,q⟩
  have e:b=s1.heap.objs.size:=by simpa using hb
  subst e
  exact I1.fpOk (Nat.le_refl _) (I1.hok.fresh (Nat.le_refl _))
theorem zxs {id:String}{name:Str}{r:V→List V→Hp→VK→Prop} (slot:Slot "str" name id) (ty:typeOf (.builtin id)=pure (.type "method_descriptor")) (rule:MtR X id r) (ho:PET X o to) (he:PE X e te)
    (hs:starEach [e] X.env=[(false,eval e X.env)]:=by rfl) (hbase:attributeBase o name X.env (eval o X.env)=eval o X.env:=by rfl) (hline:(apos.endLine == pos.line)=true:=by rfl) :
    PET X (.Call (.Attribute o name apos) [e] [] pos) (tM1 r to te):=by
  intro pins s σ H Q I tk h
  refine PySem.Call_method1 hbase hs hline (thn (ho pins s σ H _ I tk h) fun v s1 ⟨x,H1,I1,r1,q1⟩=>?_)
  obtain ⟨⟨a,rfl⟩,q1⟩:=q1
  obtain ⟨t,rfl⟩:=_root_.id r1
  refine ⟨"str",_,F.plainAttrs_str,slot,ty,typeIs_str _ _ _,(fun _ e=>nomatch e),Calls.callWith_builtin rfl (Calls.evalArgs_plain (Calls.spliced_cons ?_))⟩
  exact thn (he pins s1 σ H1 _ I1 q1) fun u s2 ⟨y,H2,I2,r2,q2⟩=>Calls.spliced_nil (rule pins s2 σ H2 _ [y] _ [u] Q I2 r1 (.cons r2 .nil) q2)
theorem zme {y z:Str}{j1 j2:Nat}{p1 p2:Pos} (ho:PE X (.Name x p) to) (hyz:(y == z)=false:=by decide) (hz:z.length≤14:=by decide)
    (hs:starEach [.Constant (.str y) j1 p1,.Constant (.str z) j2 p2] X.env=[(false,eval (.Constant (.str y) j1 p1) X.env),(false,eval (.Constant (.str z) j2 p2) X.env)]:=by rfl)
    (hbase:attributeBase (.Name x p) "replace" X.env (eval (.Name x p) X.env)=eval (.Name x p) X.env:=by rfl) (hline:(apos.endLine == pos.line)=true:=by rfl) :
    PET X (.Call (.Attribute (.Name x p) "replace" apos) [.Constant (.str y) j1 p1,.Constant (.str z) j2 p2] [] pos) (fun σ H Q=>to σ H fun v H1=>∃ a,v = .str a∧a.length≤1048576∧Q (.str (Txt.replace a y z)) H1):=by
  intro pins s σ H Q I tk h
  refine PySem.Call_method2 hbase hs hline (wpAny_mono (wpAny_toks_of tk (ho pins s σ H _ I h)) (fun v s1 ⟨tk1,x,H1,I1,r1,q1⟩=>?_) fun _ _ z=>z.2)
  obtain ⟨a,rfl,ha,q1⟩:=q1
  obtain ⟨t,rfl⟩:=_root_.id r1
  refine ⟨"str",_,F.plainAttrs_str,F.slot_str_replace,F.type_str_replace,typeIs_str _ _ _,(fun _ e=>nomatch e),Calls.callWith_builtin rfl (Calls.evalArgs_plain (Calls.spliced_cons ?_))⟩
  refine Calls.Constant_str (Calls.spliced_cons (Calls.Constant_str (Calls.spliced_nil ?_)))
  refine SC.replaceW ?_ ?_ ?_ hyz ha hz fun t' k=>⟨.str (Txt.replace a y z),H1,((I1.tok _).tok _).tok _,⟨_,rfl⟩,q1⟩
  · exact Nat.ne_of_gt tk1
  · exact Nat.succ_ne_zero _
  · exact Nat.ne_of_lt (Nat.lt_succ_self _)
theorem zvx {tg iter:Expr}{body:List Stmt}{wi:TI}{g:TG}{tb:TS} (hp:PassesOwn (model X.prog X.w) X.A X.env X.xe) (hc:X.calm=true) (hi:PIT X tg iter wi) (hg:PG X tg g) (hb:PSs X body tb)
    (hs : ∀ x,foldedSetIterable iter X.env x=pure x:=by intro _;rfl):PST X (.For tg iter body [] pos) (tFor wi g tb):=by
  intro pins s σ H D I tk h
  refine wpAny_For (thn (hi pins s σ H _ I tk h) fun v s1 h1=>thn h1 fun itv s2 h2=>?_) hs
  obtain ⟨it,fp,tn,J,H2,e,I2,T,st2,f2,W,⟨m0,w0⟩,turn⟩:=h2
  subst e
  have stat : ∀ {H':Hp},(∀ b∈fp,H' b=none)→∀ b∈fp,FpOk X pins H' b:=fun hn b hb=>⟨hn b hb,(f2 b hb).2⟩
  refine codeAny_forLoop_any (fun n s'=>∃ i σ' H',Inv X pins σ' H' s'∧tn i s'.heap∧(∀ b∈fp,H' b=none)∧W i n σ' H') ?_ m0 ⟨0,σ,H2,I2,st2,fun b hb=>(f2 b hb).1,w0⟩
  rintro n s3 ⟨i,σ3,H3,I3,st3,fr3,w3⟩
  rcases turn i n σ3 H3 w3 with ⟨stop,qn⟩ | ⟨go,N,hN,step⟩
  · refine wpAny_passesOwn hp (thn (T.done X rfl rfl rfl hc i pins s3 σ3 H3 X.xe I3 (stat fr3) st3 stop) fun r s4 ⟨hr,I4⟩=>?_)
    subst hr
    exact wpAny_execs_nil ⟨σ3,H3,I4,qn⟩
  · refine wpAny_passesOwn hp (thn (T.item X rfl rfl rfl hc i pins s3 σ3 H3 X.xe I3 (stat fr3) st3 go) fun r s4 ⟨u,hr,h4⟩=>?_)
    subst hr
    refine wpAny_passesOwn hp (thn h4 fun _ s5 ⟨x,H5,I5,r5,y5,st5,fr5⟩=>?_)
    have I5':=I5.pinned (stat fr5) (T.obj _ _ st5)
    refine wpAny_passesOwn hp (thn (hg _ s5 σ3 H5 x u _ I5' r5 (step x H5 y5)) fun _ s6 ⟨σ6,H6,I6,q6⟩=>?_)
    refine wpAny_passesOwn hp (thn (hb _ s6 σ6 H6 _ I6 q6) fun f s7 q7=>?_)
    have again : ∀ {σ7:St}{H7:Hp},Inv X (pins++zim fp s5.heap) σ7 H7 s7→N σ7 H7→∃ m,m<n∧∃ i σ' H',Inv X pins σ' H' s7∧tn i s7.heap∧(∀ b∈fp,H' b=none)∧W i m σ' H':=fun {σ7 H7} I7 n7=>by
      obtain ⟨m',hm,w7⟩:=hN σ7 H7 n7
      refine ⟨m',hm,i+1,σ7,H7,I7.unpinned,T.keep _ _ _ st5 fun b hb o e=>(I7.pin (b,o) (List.mem_append_right _ (List.mem_append_right _ (zcw hb e)))).1,fun b hb=>?_,w7⟩
      obtain ⟨o,e,d⟩:=T.obj _ _ st5 b hb
      exact (I7.pin (b,o) (List.mem_append_right _ (List.mem_append_right _ (zcw hb e)))).2.1
    cases f with
    | next=>obtain ⟨σ7,H7,I7,n7⟩:=q7;exact again I7 n7
    | cont=>obtain ⟨σ7,H7,I7,n7⟩:=q7;exact again I7 n7
    | brk=>obtain ⟨σ7,H7,I7,q7⟩:=q7;exact ⟨σ7,H7,I7.unpinned,q7⟩
    | ret v=>obtain ⟨x7,σ7,H7,I7,r7,q7⟩:=q7;exact ⟨x7,σ7,H7,I7.unpinned,r7,q7⟩
theorem PSsT.nox {st:List Stmt}{t:TS} (h:PSsT X.nox st t):PSsT X st t:=fun pins s σ H D I tk hw =>
  wpAny_mono (h pins s σ H D (I.wish _) tk hw) (fun _ _ q=>q.unwish) fun _ _ q=>q.elim
end
theorem zx9 {CX:CXT}{P:Program}{w:World}{K:PySem.W.Frag}{mg:Str→Option Value}{base:Heap}{k:Nat}{f:Addr}{name qual:Str}{params:Arguments}{body:List Stmt}{scope:Scope}{dV kV doc pm cdv ct oc:Value}{an od:Option Addr}
    {osl:Array (Option Value)}{N ps:List Str}{sp:Sp} (lk:K.lookup f=some ⟨oc,od,.func (PySem.W.fnOf name qual params body scope dV kV doc pm an cdv ct),osl⟩) (hcd:PySem.W.codeIn K cdv qual=true) (S:FnScope N ps scope)
    (len : ∀ vs H Q E,sp vs H Q E→vs.length=ps.length)
    (hbody : ∀ (A:Around) (outer:List Env) (s:Shared) (H:Hp) (vs:List V) (Q:VK) (E:XK),Room k (A.deeper (envOfC qual scope s.heap.objs.size f cdv))→sp vs H Q E →
      ∃ t,PSsT (cxOf CX P w K mg base N qual scope f cdv A outer s H E) body t∧t { nx:=fun _ H'=>Q .non H',rt:=Q } (start N vs) H) :
    FnOkT P w K mg base CX (k+1) f (PySem.W.fnOf name qual params body scope dV kV doc pm an cdv ct) ps sp:=by
  refine ⟨len,fun A outer s H args us vs Q E tk hr e0 hb r hsp=>?_⟩
  have hl:=len _ _ _ _ hsp
  have KX:K.In s.heap:=e0.mod.kin.keeps fun b o e=>(e0.bs b o e).1
  have lim:s.heap.NoLimit:=e0.mod.nolimit.keeps fun b o e=>(e0.bs b o e).1
  have hkind : ∀ y∈ps.zip us,scope.names.lookup y.1=some .local∨(scope.names.lookup y.1=some .cell∧((cellsFrom (s.heap.objs.size+1) scope.names []).lookup y.1).isSome=true):=fun ⟨n,v⟩ hy=>by
    rcases S.par n (List.of_mem_zip hy).1 with q | q
    · exact .inl q
    · exact .inr ⟨q,PySem.W.cellsFrom_some _ _ _ (.inl q)⟩
  refine codeAny_call_function hr.depth (KX _ _ lk) rfl S.co S.gen rfl (PySem.W.codeRec_of KX hcd) (hb _ _ _ _ ?_)
  refine wpAny_with_toks tk ?_
  refine wpAny_newFunctionEnv_cells S.kind hkind fun env he s1 x=>?_
  subst he
  intro tk1
  refine ⟨lim.keeps x.toInCall.keep,codeAny_func ?_⟩
  obtain ⟨t,ht,hq⟩:=hbody A outer s H vs Q E (hr.deeper _) hsp
  have I:Inv (cxOf CX P w K mg base N qual scope f cdv A outer s H E) [] (start N vs) H s1:=zla S hr.hd e0 hl r x
  refine wpAny_mono (ht [] s1 (start N vs) H _ I tk1 hq) (fun fl s' hs=>?_) fun e s' hs=>hs
  have fin : ∀ {σ':St}{H':Hp}{v:V}{u:Value},Inv (cxOf CX P w K mg base N qual scope f cdv A outer s H E) [] σ' H' s'→RelV v u→Q v H'→CE outer P w H s Q u s' :=
    fun {σ' H' v u} J rv q=>⟨v,H',J.os,J.bare,J.base,J.hok,rv,q⟩
  cases fl with
  | ret u =>
    obtain ⟨v,σ',H',J,rv,q⟩:=hs
    exact fin J rv q
  | next =>
    obtain ⟨σ',H',J,q⟩:=hs
    exact fin (v:=V.non) (u:=Value.none) J rfl q
  | brk =>
    obtain ⟨_,_,_,q⟩:=hs
    exact False.elim q
  | cont =>
    obtain ⟨_,_,_,q⟩:=hs
    exact False.elim q
theorem Fun.okT {P:Program}{w:World}{K:PySem.W.Frag}{mg:Str→Option Value}{base:Heap}{x qual:Str}{st:Stmt}{f:Addr}{fd:FuncData}{N ps:List Str}{k:Nat}{sp:Sp} (F:Fun K x qual st f fd) (S:FnScope N ps (zaf st)) (len : ∀ vs H Q E,sp vs H Q E→vs.length=ps.length)
    (hbody : ∀ (cdv:Value) (A:Around) (outer:List Env) (s:Shared) (H:Hp) (vs:List V) (Q:VK) (E:XK),Room k (A.deeper (envOfC qual (zaf st) s.heap.objs.size f cdv))→sp vs H Q E →
      ∃ t,PSsT (cxOf CX0 P w K mg base N qual (zaf st) f cdv A outer s H E).nox (zde st) t∧t { nx:=fun _ H'=>Q .non H',rt:=Q } (start N vs) H):FnOkT P w K mg base CX0 (k+1) f fd ps sp:=by
  obtain ⟨oc,od,kV,doc,pm,an,cdv,ct,osl,rfl,lk,hcd⟩:=F.ex
  refine zx9 lk hcd S len fun A outer s H vs Q E hr hsp=>?_
  obtain ⟨t,h,q⟩:=hbody cdv A outer s H vs Q E hr hsp
  exact ⟨t,h.nox,q⟩
end L2
namespace L2
open PySem PySem.Spec PyProof.Rows TL
structure FG (K:PySem.W.Frag) (mg:Str→Option Value) (x:Str) (st:Stmt) (ps:List Str) (f:Addr) (fd:FuncData):Prop where
  mg:mg x=some (.ref f)
  fn:Fun K x x st f fd
  b:zb4 K fd ps []
theorem zff:bootBuiltins "ord"=some (.builtin "ord"):=by decide +kernel
theorem zln:bootBuiltins "all"=some (.builtin "all"):=by decide +kernel
theorem zsh:bootBuiltins "max"=some (.builtin "max"):=by decide +kernel
theorem zdx:bootBuiltins "int"=some (.type "int"):=by decide +kernel
theorem zlm:bootBuiltins "str"=some (.type "str"):=by decide +kernel
noncomputable def bs (t:List Nat):List V:=t.map fun (n:Nat)=>V.int (n:Int)
noncomputable def S (l:List Nat):Str:=⟨l.toArray⟩
theorem tl_S (l:List Nat):tl (S l)=l:=rfl
theorem zbo (l:List Nat):(S l).length=l.length:=by rw [ze7,tl_S]
theorem zc2 (t:List Nat):(bs t).length=t.length:=by unfold bs;rw [List.length_map]
theorem zf6 {t:List Nat}{i c:Nat} (h:t[i]? = some c):(bs t)[i]? = some (V.int (c:Int)):=by unfold bs;rw [List.getElem?_map,h];rfl
theorem zwy (t:List Nat) (i:Nat):(bs t).drop i=bs (t.drop i):=by unfold bs;rw [List.map_drop]
theorem zwx (t:List Nat) (i:Nat):(bs t).take i=bs (t.take i):=by unfold bs;rw [List.map_take]
noncomputable def spB (b:Nat→Bool):Sp:=fun vs H Q _=>∃ n:Nat,vs=[.int (n:Int)]∧Q (.bl (b n)) H
noncomputable def zsn (P:Program) (w:World) (K:PySem.W.Frag) (mg:Str→Option Value) (base:Heap) (k:Nat) (f:Addr) (b:Nat→Bool):Prop :=
  ∃ fd ps,FnOk P w K mg base CX0 k f fd ps (spB b)∧zb4 K fd ps []∧PySem.W.keepIn K (.ref f)=true
theorem Same.rd {H H':Hp}{a:Addr}{u:HO} (e:Same H H') (h:Rd H a u):Rd H' a u:=by
  rcases h with h | ⟨o,h⟩
  · exact .inl (e _ _ h)
  · exact .inr ⟨o,e _ _ h⟩
theorem Same.upd {H:Hp}{a:Addr}{o:HO} (h:H a=none):Same H (L2.upd H a o):=fun b u e=>by rw [zah (zag e h)];exact e
theorem zdc {b:Bool}{A B:Prop} (h1:b=true→A) (h2:b=false→B):if b=true then A else B:=by
  cases b with
  | true=>exact iteT (h1 rfl)
  | false=>exact iteF (h2 rfl)
end L2
namespace L2
open PySem PySem.Spec PyProof.Rows TL
theorem zx2 {J:It}{g:TG}{tt:TT}{te:TE}{vs:List Nat}{σ:St}{H1:Hp}{D:Addr}{Qd:Hp→Prop} (xs:List V) (f:V→V) (hD:H1 D=none) (hn:xs.length≤sizeLine)
    (hgo : ∀ i x H,Same H1 H→xs[i]? = some x→J.go i H∧∀ y H',J.yld i H y H'→H'=H∧y=x) (hst : ∀ H,Same H1 H→J.stop xs.length H)
    (hs : ∀ x H acc (Nx:Hp→Prop),x∈xs→Same H1 H→H D=some (.lst acc)→acc.length<sizeLine→(∀ H',Same H H'→Nx (upd H' D (.lst (acc++[f x])))) →
      g x (wipe σ vs) H fun σ2 H2=>wipe σ2 vs=wipe σ vs∧tt σ2 H2 fun b H3=>if b=true then te σ2 H3 fun y H4=>∃ acc,H4 D=some (.lst acc)∧acc.length<sizeLine∧Nx (upd H4 D (.lst (acc++[y]))) else Nx H3)
    (hd : ∀ H,Same H1 H→H D=some (.lst (xs.map f))→Qd H) :
    ∃ W:Nat→Nat→Hp→Prop,(∃ m,W 0 m (upd H1 D (.lst [])))∧∀ i m H,W i m H →
      (J.stop i H∧Qd H)∨(J.go i H∧∃ Nx:Hp→Prop,(∀ H',Nx H'→∃ m',m'<m∧W (i+1) m' H')∧∀ x H',J.yld i H x H'→g x (wipe σ vs) H' fun σ2 H2=>wipe σ2 vs=wipe σ vs∧tt σ2 H2 fun b H3 =>
        if b=true then te σ2 H3 fun y H4=>∃ acc,H4 D=some (.lst acc)∧acc.length<sizeLine∧Nx (upd H4 D (.lst (acc++[y]))) else Nx H3):=by
  refine ⟨fun i m H=>m=xs.length - i∧i≤xs.length∧Same H1 H∧H D=some (.lst ((xs.take i).map f)),⟨_,rfl,Nat.zero_le _,Same.upd hD,zad⟩,?_⟩
  rintro i m H ⟨rfl,hi,sm,hd1⟩
  by_cases hlt:i<xs.length
  · have hx:xs[i]? = some xs[i]:=List.getElem?_eq_getElem hlt
    obtain ⟨go,yl⟩:=hgo i xs[i] H sm hx
    refine .inr ⟨go,fun H'=>Same H1 H'∧H' D=some (.lst ((xs.take (i+1)).map f)),fun H' z=>⟨_,by omega,rfl,hlt,z.1,z.2⟩,fun y H' q=>?_⟩
    obtain ⟨rfl,rfl⟩:=yl y H' q
    refine hs _ H' _ _ (List.getElem_mem hlt) sm hd1 (by rw [List.length_map,List.length_take];omega) fun H2 s2=>⟨fun b o e=>?_,?_⟩
    · rw [zah (zag e hD)]
      exact s2 _ _ (sm _ _ e)
    · rw [zad,List.take_succ,hx,List.map_append]
      rfl
  · have e:i=xs.length:=by omega
    subst e
    rw [List.take_length] at hd1
    exact .inl ⟨hst H sm,hd H sm hd1⟩
theorem zrw {K:PySem.W.Frag}{a:Addr}{xs:List V}{H1:Hp} (h:SqL K H1 a xs):(∀ i x H,Same H1 H→xs[i]? = some x→(Itl K a).go i H∧∀ y H',(Itl K a).yld i H y H'→H'=H∧y=x)∧∀ H,Same H1 H→(Itl K a).stop xs.length H :=
  ⟨fun i x H sm e=>⟨⟨xs,x,sm.seq h,e⟩,fun y H' ⟨e1,e2⟩=>⟨e1,Option.some.inj ((e2 xs (by subst e1;exact sm.seq h)).symm.trans e)⟩⟩,fun H sm=>⟨xs,sm.seq h,Nat.le_refl _⟩⟩
theorem zru {x:Str}{H1:Hp}:(∀ i y H,Same H1 H→((tl x).map fun c=>V.str ⟨#[c]⟩)[i]? = some y→(Its x).go i H∧∀ z H',(Its x).yld i H z H'→H'=H∧z=y)∧∀ H,Same H1 H→(Its x).stop ((tl x).map fun c=>V.str ⟨#[c]⟩).length H:=by
  refine ⟨fun i y H sm e=>?_,fun H sm=>?_⟩
  · rw [List.getElem?_map] at e
    cases q:(tl x)[i]? with
    | none=>rw [q] at e;cases e
    | some c =>
      rw [q] at e
      cases e
      have q':x.cps[i]? = some c:=by rw [← Array.getElem?_toList];exact q
      refine ⟨?_,?_⟩
      · show i<x.cps.size
        exact (Array.getElem?_eq_some_iff.mp q').1
      · rintro z H' ⟨e1,c',e2,e3⟩
        rw [q'] at e2
        cases e2
        exact ⟨e1,e3⟩
  · show x.cps.size≤_
    simp
end L2
namespace L2
open PySem PySem.Spec PyProof.Rows TL
theorem cx_K {CX:CXT}{P:Program}{w:World}{K:PySem.W.Frag}{mg:Str→Option Value}{base:Heap}{N:List Str}{qual:Str}{scope:Scope}{f:Addr}{cd:Value}{A:Around}{outer:List Env}{s:Shared}{H:Hp}{E:XK}:(cxOf CX P w K mg base N qual scope f cd A outer s H E).K=K:=rfl
theorem cx_P {CX:CXT}{P:Program}{w:World}{K:PySem.W.Frag}{mg:Str→Option Value}{base:Heap}{N:List Str}{qual:Str}{scope:Scope}{f:Addr}{cd:Value}{A:Around}{outer:List Env}{s:Shared}{H:Hp}{E:XK}:(cxOf CX P w K mg base N qual scope f cd A outer s H E).prog=P:=rfl
theorem cx_w {CX:CXT}{P:Program}{w:World}{K:PySem.W.Frag}{mg:Str→Option Value}{base:Heap}{N:List Str}{qual:Str}{scope:Scope}{f:Addr}{cd:Value}{A:Around}{outer:List Env}{s:Shared}{H:Hp}{E:XK}:(cxOf CX P w K mg base N qual scope f cd A outer s H E).w=w:=rfl
theorem zt9 {CX:CXT}{P:Program}{w:World}{K:PySem.W.Frag}{mg:Str→Option Value}{base:Heap}{N:List Str}{qual:Str}{scope:Scope}{f:Addr}{cd:Value}{A:Around}{outer:List Env}{s:Shared}{H:Hp}{E:XK}:(cxOf CX P w K mg base N qual scope f cd A outer s H E).mg=mg:=rfl
theorem zj0 {CX:CXT}{P:Program}{w:World}{K:PySem.W.Frag}{mg:Str→Option Value}{base:Heap}{N:List Str}{qual:Str}{scope:Scope}{f:Addr}{cd:Value}{A:Around}{outer:List Env}{s:Shared}{H:Hp}{E:XK}:(cxOf CX P w K mg base N qual scope f cd A outer s H E).base=base:=rfl
theorem cx_N {CX:CXT}{P:Program}{w:World}{K:PySem.W.Frag}{mg:Str→Option Value}{base:Heap}{N:List Str}{qual:Str}{scope:Scope}{f:Addr}{cd:Value}{A:Around}{outer:List Env}{s:Shared}{H:Hp}{E:XK}:(cxOf CX P w K mg base N qual scope f cd A outer s H E).N=N:=rfl
theorem zbs (s:String):Str.ofString s=S (Vaunid.txt s):=zdu (by rw [zlz,tl_S];rfl)
theorem zfh {l m:List Nat}:(S l=S m)=(l=m):=propext ⟨fun e=>by have:=congrArg tl e;exact this,fun e=>by rw [e]⟩
theorem S_eq (l:List Nat) (s:String):(S l=Str.ofString s)=(l=Vaunid.txt s):=by rw [zbs,zfh]
theorem zq6 (c:Nat):(⟨#[c]⟩:Str).length=1:=rfl
theorem zq7 (c:Nat):(⟨#[c]⟩:Str).cps.getD 0 0=c:=rfl
theorem zid (l:List Nat):(S l).cps.toList=l:=rfl
theorem zmo (n c:Nat):decide ((n:Int)=(c:Int))=(n == c):=by
  rw [Bool.eq_iff_iff]
  simp
  omega
end L2
namespace L2
open PySem PySem.Spec PyProof.Rows TL
theorem zke {wi:TI}{g:TG}{tt:TT}{te:TE}{vs:List Nat}{σ:St}{H H1:Hp}{Q:VK} (J:It) (xs:List V) (f:V→V) (hw : ∀ R:It→Hp→Prop,R J H1→wi σ H R) (hn:xs.length≤sizeLine)
    (hgo:(∀ i x H,Same H1 H→xs[i]? = some x→J.go i H∧∀ y H',J.yld i H y H'→H'=H∧y=x)∧∀ H,Same H1 H→J.stop xs.length H)
    (hs : ∀ x H D acc (Nx:Hp→Prop),x∈xs→Same H1 H→H D=some (.lst acc)→acc.length<sizeLine→(∀ H',Same H H'→Nx (upd H' D (.lst (acc++[f x])))) →
      g x (wipe σ vs) H fun σ2 H2=>wipe σ2 vs=wipe σ vs∧tt σ2 H2 fun b H3=>if b=true then te σ2 H3 fun y H4=>∃ acc,H4 D=some (.lst acc)∧acc.length<sizeLine∧Nx (upd H4 D (.lst (acc++[y]))) else Nx H3)
    (hd : ∀ D H,H1 D=none→Same H1 H→H D=some (.lst (xs.map f))→Q (.ref D) H):tLc wi g tt te vs σ H Q :=
  hw _ fun D hD=>zx2 xs f hD hn hgo.1 hgo.2 (fun x H acc Nx h1 h2 h3 h4 h5=>hs x H D acc Nx h1 h2 h3 h4 h5) fun H s e=>hd D H hD s e
end L2
namespace L2
open PySem PySem.Spec PyProof.Rows TL
theorem zfi {c:TT}{tb:TS}{D:Ends}{σ:St}{H:Hp} (Pv:Nat→St→Hp→Prop) (m0:Nat) (h0:Pv m0 σ H)
    (hs : ∀ m σ H,Pv m σ H→c σ H fun b H1=>if b=true then ∃ N:St→Hp→Prop,(∀ σ' H',N σ' H'→∃ m',m'<m∧Pv m' σ' H')∧tb { D with nx:=N,ct:=N,bk:=D.nx } σ H1 else D.nx σ H1):zui c tb D σ H :=
  ⟨Pv,⟨m0,h0⟩,hs⟩
end L2
namespace M
open PySem PySem.Spec PyProof.Rows L2 TL
open Vaunid (isSmall isDigit inWord)
noncomputable def zaw (l:List Nat):Bool := !l.isEmpty && (decide (l.length≤12) && (isSmall (l.headD 0) && l.all inWord))
noncomputable def zbz (b:List Nat):Bool:=let d:=if b.head? = some 45 then b.tail else b;!d.isEmpty && (decide (d.length≤2) && d.all isDigit)
noncomputable def zas (f:List Nat):Bool:=f == [49] || (if f.contains 94=true then zaw (f.takeWhile (· != 94)) && zbz ((f.dropWhile (· != 94)).drop 1) else zaw f)
noncomputable def sep (c:Nat):Bool:=c == 46 || c == 47
noncomputable def nsep (c:Nat):Bool := !sep c
noncomputable def cut (p:Nat→Bool):List Nat→List Nat→List (List Nat)
  | acc,[]=>[acc]
  | acc,c::r=>if p c=true then acc::cut p [] r else cut p (acc++[c]) r
noncomputable def zcs (c:Nat):Nat:=if c=47 then 46 else c
theorem zp5 (S:List Nat) : ∀ (k:Nat) (acc l:List Nat),spl S k acc l≠[]
  | k,acc,[]=>by rw [zef];simp
  | 0,acc,c::r=>by
    cases h:pre S (c::r) with
    | true=>rw [zjd h];simp
    | false=>rw [zgl h];exact zp5 S 0 _ r
  | k+1,acc,c::r=>by
    rw [zgk]
    show spl S 0 acc (r.drop k)≠[]
    rw [← zgk]
    exact zp5 S k acc r
theorem zjm (s c:Nat) (r:List Nat):pre [s] (c::r)=(c == s):=by
  unfold pre
  show ([c] == [s])=_
  simp
theorem zo0 (S p:List Nat) {q:List (List Nat)} (h:q≠[]):zhr S (p::q)=p++(S++zhr S q):=by
  cases q with
  | nil=>exact absurd rfl h
  | cons a r=>rfl
theorem zds : ∀ (l acc:List Nat),zhr [46] (spl [47] 0 acc l)=acc++l.map zcs
  | [],acc=>by rw [zef];simp [zhr]
  | c::r,acc=>by
    by_cases h:c=47
    · subst h
      rw [zjd (by rw [zjm];rfl),zo0 _ _ (zp5 _ _ _ _)]
      show acc++([46]++zhr [46] (spl [47] 0 [] r))=_
      rw [zds r []]
      rfl
    · rw [zgl (by rw [zjm];simpa using h),zds r,List.append_assoc]
      show acc++(c::r.map zcs)=acc++(zcs c::r.map zcs)
      rw [show zcs c=c from if_neg h]
theorem zis (x:Str) : ¬ Builtin.Str.strKind x<Builtin.Str.strKind (Str.ofString "/"):=zrj (by decide +kernel)
theorem ztq (x:Str) : ¬ Builtin.Str.strKind x<Builtin.Str.strKind (Str.ofString "."):=zrj (by decide +kernel)
theorem zg7 (l:List Nat):(Txt.split (S l) (Str.ofString "/")).map tl=spl [47] 0 [] l:=zkj (S l) (Str.ofString "/") (by decide +kernel) (zis _)
theorem zg8 (l:List Nat):(Txt.split (S l) (Str.ofString ".")).map tl=spl [46] 0 [] l:=zkj (S l) (Str.ofString ".") (by decide +kernel) (ztq _)
theorem zhi (l:List Nat):Txt.replace (S l) (Str.ofString "/") (Str.ofString ".")=S (l.map zcs):=by
  cases l with
  | nil=>decide +kernel
  | cons c r =>
    have e:Txt.replace (S (c::r)) (Str.ofString "/") (Str.ofString ".")=Str.join (Str.ofString ".") (Txt.split (S (c::r)) (Str.ofString "/")):=by
      unfold Txt.replace Txt.split
      have h1:(decide ((S (c::r)).length<(Str.ofString "/").length) || decide (Builtin.Str.strKind (S (c::r))<Builtin.Str.strKind (Str.ofString "/")))=false:=by
        rw [decide_eq_false (zis _),zbo,decide_eq_false]
        · rfl
        · rw [List.length_cons,show (Str.ofString "/").length=1 by decide +kernel];omega
      have h2:((Str.ofString "/").length == 0 && (Str.ofString ".").length == 0)=false:=by decide +kernel
      rw [h1,h2,Bool.or_false]
      cases hc:(Builtin.Str.occurrences (S (c::r)) (Str.ofString "/") 0 (S (c::r)).length ((S (c::r)).length+1)).isEmpty with
      | true=>rfl
      | false =>
        simp only [Bool.false_eq_true,if_false]
        exact StrLaws.glued_eq_join _ _
    refine zdu ?_
    rw [e,zl0,zg7]
    show zhr [46] _=_
    rw [zds]
    rfl
theorem zl4 : ∀ (l acc:List Nat),spl [46] 0 acc (l.map zcs)=cut sep acc l
  | [],acc=>by rw [List.map_nil,zef];rfl
  | c::r,acc=>by
    rw [List.map_cons]
    show _=if sep c=true then acc::cut sep [] r else cut sep (acc++[c]) r
    by_cases h:sep c=true
    · have hu:zcs c=46:=by
        unfold sep at h
        unfold zcs
        rcases Bool.or_eq_true_iff.mp h with q | q
        · rw [eq_of_beq q];rfl
        · rw [eq_of_beq q];rfl
      rw [if_pos h,hu,zjd (by rw [zjm];rfl)]
      exact congrArg (acc :: ·) (zl4 r [])
    · have h2 : ¬ c=46∧¬ c=47:=by
        unfold sep at h
        simpa using h
      rw [if_neg h,show zcs c=c from if_neg h2.2,zgl (by rw [zjm];simpa using h2.1)]
      exact zl4 r _
theorem zsa : ∀ (l acc:List Nat),cut sep acc l=(acc++l.takeWhile nsep)::(match l.dropWhile nsep with | []=>[] | _::r=>cut sep [] r)
  | [],acc=>by simp [cut]
  | c::r,acc=>by
    show (if sep c=true then acc::cut sep [] r else cut sep (acc++[c]) r)=_
    by_cases h:sep c=true
    · have h2:nsep c=false:=by unfold nsep;rw [h];rfl
      rw [if_pos h,List.takeWhile_cons,List.dropWhile_cons,h2]
      simp
    · have h2:nsep c=true:=by unfold nsep;simpa using h
      rw [if_neg h,zsa r,List.takeWhile_cons,List.dropWhile_cons,h2]
      simp
theorem zht {c:Nat} (h:inWord c=true):nsep c=true:=by
  unfold nsep sep
  by_cases h1:c=46
  · subst h1;revert h;decide
  · by_cases h2:c=47
    · subst h2;revert h;decide
    · simp [h1,h2]
theorem zpg {c:Nat} (h:isDigit c=true):nsep c=true:=zht (by unfold inWord;rw [h];simp)
theorem zlc {c:Nat} (h:inWord c=true):c≠94:=by
  intro e;subst e;revert h;decide
theorem zg1 {p:Nat→Bool} (l:List Nat) : ∀ x∈l.takeWhile p,p x=true:=fun x hx=>by
  induction l with
  | nil=>simp at hx
  | cons c r ih =>
    rw [List.takeWhile_cons] at hx
    split at hx
    · rcases List.mem_cons.mp hx with e | e
      · subst e;assumption
      · exact ih e
    · simp at hx
theorem zhz {p:Nat→Bool} : ∀ (l:List Nat) {e:Nat}{s:List Nat},l.dropWhile p=e::s→p e=false
  | [],e,s,h=>by simp at h
  | c::r,e,s,h=>by
    rw [List.dropWhile_cons] at h
    split at h
    · exact zhz r h
    · cases h
      rename_i q
      simpa using q
noncomputable def goes (K:List Nat→Bool) (o:Option (List Nat)):Bool:=match o with
  | none=>false
  | some []=>true
  | some (c::r)=>sep c && K r
noncomputable def after (K:List Nat→Bool) (l:List Nat):Bool:=match l with
  | []=>true
  | _::r=>K r
theorem zen (K:List Nat→Bool) (s:List Nat) :
    goes K (if (s.takeWhile isDigit).length=1∨(s.takeWhile isDigit).length=2 then some (s.dropWhile isDigit) else none) =
      ((!(s.takeWhile nsep).isEmpty && (decide ((s.takeWhile nsep).length≤2) && (s.takeWhile nsep).all isDigit)) && after K (s.dropWhile nsep)):=by
  have hs:s=s.takeWhile isDigit++s.dropWhile isDigit:=List.takeWhile_append_dropWhile.symm
  have hd:=zg1 (p:=isDigit) s
  generalize hdd:s.takeWhile isDigit=d at hs hd
  generalize hrr:s.dropWhile isDigit=rest at hs
  have hn : ∀ x∈d,nsep x=true:=fun x hx=>zpg (hd x hx)
  have e1:s.takeWhile nsep=d++rest.takeWhile nsep:=by rw [hs,List.takeWhile_append_of_pos hn]
  have e2:s.dropWhile nsep=rest.dropWhile nsep:=by rw [hs,List.dropWhile_append_of_pos hn]
  rw [e1,e2]
  have hall:d.all isDigit=true:=List.all_eq_true.mpr hd
  have small:(!d.isEmpty && decide (d.length≤2))=decide (d.length=1∨d.length=2):=by
    match d with
    | []=>rfl
    | [_]=>rfl
    | [_,_]=>rfl
    | _::_::_::r=>simp
  cases rest with
  | nil =>
    rw [List.takeWhile_nil,List.dropWhile_nil,List.append_nil,hall,Bool.and_true,small]
    by_cases q:d.length=1∨d.length=2
    · rw [if_pos q,decide_eq_true q];rfl
    · rw [if_neg q,decide_eq_false q];rfl
  | cons e r =>
    have he:isDigit e=false:=zhz s hrr
    by_cases hs2:sep e=true
    · have hn2:nsep e=false:=by unfold nsep;rw [hs2];rfl
      rw [List.takeWhile_cons,List.dropWhile_cons,hn2]
      simp only [Bool.false_eq_true,if_false,List.append_nil]
      rw [hall,Bool.and_true,small]
      by_cases q:d.length=1∨d.length=2
      · rw [if_pos q,decide_eq_true q]
        show (sep e && K r)=_
        rw [hs2]
        rfl
      · rw [if_neg q,decide_eq_false q];rfl
    · have hn2:nsep e=true:=by unfold nsep;simpa using hs2
      have ha:(d++(e::r).takeWhile nsep).all isDigit=false:=by
        rw [List.takeWhile_cons,hn2,List.all_append]
        simp [he]
      rw [ha]
      simp only [Bool.and_false,Bool.false_and]
      by_cases q:d.length=1∨d.length=2
      · rw [if_pos q]
        show (sep e && K r)=false
        simp [hs2]
      · rw [if_neg q];rfl
theorem zon (K:List Nat→Bool) (s:List Nat):goes K (Vaunid.powerText s)=(zbz (s.takeWhile nsep) && after K (s.dropWhile nsep)):=by
  match s with
  | []=>exact zen K []
  | c::r =>
    by_cases h:c=45
    · subst h
      have e:=zen K r
      have e1:(45::r).takeWhile nsep=45::r.takeWhile nsep:=rfl
      have e2:(45::r).dropWhile nsep=r.dropWhile nsep:=rfl
      rw [e1,e2]
      exact e
    · have e:=zen K (c::r)
      have e3:Vaunid.powerText (c::r)=if ((c::r).takeWhile isDigit).length=1∨((c::r).takeWhile isDigit).length=2 then some ((c::r).dropWhile isDigit) else none:=by
        unfold Vaunid.powerText
        dsimp only
        split
        · rename_i q;cases q;exact absurd rfl h
        · rfl
      rw [e3,e]
      have e4:zbz ((c::r).takeWhile nsep)=(!((c::r).takeWhile nsep).isEmpty && (decide (((c::r).takeWhile nsep).length≤2) && ((c::r).takeWhile nsep).all isDigit)):=by
        unfold zbz
        have hh : ¬ ((c::r).takeWhile nsep).head? = some 45:=by
          rw [List.takeWhile_cons]
          split
          · simpa using h
          · simp
        simp only [if_neg hh]
      rw [e4]
theorem zfp {c:Nat} (h:isSmall c=true):inWord c=true:=by unfold inWord;rw [h];rfl
theorem zhf {l:List Nat}{e:Nat} (h:e∈l) (he:inWord e=false):zaw l=false:=by
  unfold zaw
  have:l.all inWord=false:=List.all_eq_false.mpr ⟨e,h,by rw [he];simp⟩
  rw [this]
  simp
theorem zd1 {c:Nat}{r:List Nat} (h:isSmall c=false):zaw (c::r)=false:=by
  unfold zaw
  rw [List.headD_cons,h]
  simp
theorem zmx (K:List Nat→Bool) (t:List Nat):goes K (Vaunid.factorText t)=(zas (t.takeWhile nsep) && after K (t.dropWhile nsep)):=by
  match t with
  | []=>rfl
  | c::r =>
    unfold Vaunid.factorText
    dsimp only
    by_cases h49:c=49
    · subst h49
      simp only [if_true]
      have e1:(49::r).takeWhile nsep=49::r.takeWhile nsep:=rfl
      have e2:(49::r).dropWhile nsep=r.dropWhile nsep:=rfl
      rw [e1,e2]
      cases r with
      | nil=>rfl
      | cons d r2 =>
        by_cases hs:sep d=true
        · have hn:nsep d=false:=by unfold nsep;rw [hs];rfl
          rw [List.takeWhile_cons,List.dropWhile_cons,hn]
          show (sep d && K r2)=(zas [49] && K r2)
          rw [hs]
          rfl
        · have hn:nsep d=true:=by unfold nsep;simpa using hs
          have hf:zas (49::(d::r2).takeWhile nsep)=false:=by
            unfold zas
            rw [List.takeWhile_cons,hn]
            simp only [if_true]
            have h1:((49::d::r2.takeWhile nsep) == [49])=false:=by simp
            rw [h1,Bool.false_or]
            split
            · have:(49::d::r2.takeWhile nsep).takeWhile (· != 94)=49::(d::r2.takeWhile nsep).takeWhile (· != 94):=rfl
              rw [this,zd1 (by decide)]
              rfl
            · exact zd1 (by decide)
          rw [hf]
          show (sep d && K r2)=_
          simp [hs]
    · rw [if_neg h49]
      cases hsm:isSmall c with
      | false =>
        simp only [if_true]
        show false=_
        by_cases hs:sep c=true
        · have hn:nsep c=false:=by unfold nsep;rw [hs];rfl
          rw [List.takeWhile_cons,hn]
          rfl
        · have hn:nsep c=true:=by unfold nsep;simpa using hs
          have hf:zas ((c::r).takeWhile nsep)=false:=by
            rw [List.takeWhile_cons,hn]
            simp only [if_true]
            unfold zas
            have h1:((c::r.takeWhile nsep) == [49])=false:=by simp [h49]
            rw [h1,Bool.false_or]
            split
            · rw [List.takeWhile_cons]
              split
              · rw [zd1 hsm];rfl
              · rfl
            · exact zd1 hsm
          rw [hf]
          rfl
      | true =>
        simp only [Bool.true_eq_false,if_false]
        have hs:c::r=(c::r).takeWhile inWord++(c::r).dropWhile inWord:=List.takeWhile_append_dropWhile.symm
        have hw:(c::r).takeWhile inWord=c::r.takeWhile inWord:=by rw [List.takeWhile_cons,zfp hsm];rfl
        have hd:=zg1 (p:=inWord) (c::r)
        have hrest:=fun {e s}=>zhz (p:=inWord) (c::r) (e:=e) (s:=s)
        generalize hww:(c::r).takeWhile inWord=ww at hs hd hw
        generalize (c::r).dropWhile inWord=rest at hs hrest
        have hn : ∀ x∈ww,nsep x=true:=fun x hx=>zht (hd x hx)
        have e1:(c::r).takeWhile nsep=ww++rest.takeWhile nsep:=by rw [hs,List.takeWhile_append_of_pos hn]
        have e2:(c::r).dropWhile nsep=rest.dropWhile nsep:=by rw [hs,List.dropWhile_append_of_pos hn]
        have hall:ww.all inWord=true:=List.all_eq_true.mpr hd
        have h94 : ∀ x∈ww,(x != 94)=true:=fun x hx=>by simpa using zlc (hd x hx)
        have hshort:zaw ww=decide (ww.length≤12):=by
          unfold zaw
          rw [hall,hw,List.headD_cons,hsm]
          simp
        have hno:ww.contains 94=false:=by
          cases q:ww.contains 94 with
          | false=>rfl
          | true=>exact absurd rfl (zlc (hd 94 (List.contains_iff_mem.mp q)))
        have h1 : ∀ x,((ww++x) == [49])=false:=fun x=>by
          rw [hw]
          simp [h49]
        have hfw:zas ww=decide (ww.length≤12):=by
          unfold zas
          have:=h1 []
          rw [List.append_nil] at this
          rw [this,Bool.false_or,hno]
          simp [hshort]
        rw [e1,e2]
        cases rest with
        | nil =>
          rw [List.takeWhile_nil,List.dropWhile_nil,List.append_nil,hfw]
          by_cases q:12<ww.length
          · rw [if_pos (show Vaunid.MOSTSIGNS<ww.length from q),decide_eq_false (by omega)];rfl
          · rw [if_neg (show ¬ Vaunid.MOSTSIGNS<ww.length from q),decide_eq_true (by omega)];rfl
        | cons e s =>
          have he:inWord e=false:=hrest rfl
          by_cases hs2:sep e=true
          · have hn2:nsep e=false:=by unfold nsep;rw [hs2];rfl
            have ne94:e≠94:=by intro z;subst z;revert hs2;decide
            rw [List.takeWhile_cons,List.dropWhile_cons,hn2]
            simp only [Bool.false_eq_true,if_false,List.append_nil]
            rw [hfw]
            by_cases q:12<ww.length
            · rw [if_pos (show Vaunid.MOSTSIGNS<ww.length from q),decide_eq_false (by omega)];rfl
            · rw [if_neg (show ¬ Vaunid.MOSTSIGNS<ww.length from q),decide_eq_true (by omega)]
              split
              · rename_i z;cases z;exact absurd rfl ne94
              · show (sep e && K s)=_
                rw [hs2]
                rfl
          · have hn2:nsep e=true:=by unfold nsep;simpa using hs2
            rw [List.takeWhile_cons,List.dropWhile_cons,hn2]
            simp only [if_true]
            by_cases h94e:e=94
            · subst h94e
              have hf:zas (ww++94::s.takeWhile nsep)=(decide (ww.length≤12) && zbz (s.takeWhile nsep)):=by
                unfold zas
                rw [h1,Bool.false_or,if_pos (by simp),List.takeWhile_append_of_pos h94,List.dropWhile_append_of_pos h94]
                simp [hshort]
              rw [hf]
              by_cases q:12<ww.length
              · rw [if_pos (show Vaunid.MOSTSIGNS<ww.length from q),decide_eq_false (by omega)];rfl
              · rw [if_neg (show ¬ Vaunid.MOSTSIGNS<ww.length from q),decide_eq_true (by omega)]
                simp only [Bool.true_and]
                exact zon K s
            · have hf:zas (ww++e::s.takeWhile nsep)=false:=by
                unfold zas
                rw [h1,Bool.false_or]
                split
                · have hne:(e != 94)=true:=by simpa using h94e
                  rw [List.takeWhile_append_of_pos h94,List.takeWhile_cons,hne]
                  rw [zhf (e:=e) (by simp) he]
                  rfl
                · exact zhf (e:=e) (by simp) he
              rw [hf]
              by_cases q:12<ww.length
              · rw [if_pos (show Vaunid.MOSTSIGNS<ww.length from q)];rfl
              · rw [if_neg (show ¬ Vaunid.MOSTSIGNS<ww.length from q)]
                split
                · rename_i z;cases z;exact absurd rfl h94e
                · show (sep e && K s)=_
                  simp [hs2]
theorem zcx : ∀ (n:Nat) (t:List Nat),t.length<n→Vaunid.measureText n t=(cut sep [] t).all zas
  | 0,t,h=>by omega
  | n+1,t,h=>by
    have e:Vaunid.measureText (n+1) t=goes (Vaunid.measureText n) (Vaunid.factorText t):=by
      show (match Vaunid.factorText t with | none=>false | some []=>true | some (c::r)=>(c == 46 || c == 47) && Vaunid.measureText n r)=_
      cases Vaunid.factorText t with
      | none=>rfl
      | some l=>cases l <;> rfl
    rw [e,zmx,zsa,List.nil_append,List.all_cons]
    have hl:t.length=(t.takeWhile nsep).length+(t.dropWhile nsep).length:=by rw [← List.length_append,List.takeWhile_append_dropWhile]
    cases q:t.dropWhile nsep with
    | nil=>rfl
    | cons c r =>
      rw [q,List.length_cons] at hl
      show (_ && Vaunid.measureText n r)=_
      rw [zcx n r (by omega)]
theorem zm2 (p:Nat→Bool) : ∀ (l acc:List Nat),∀ f∈cut p acc l,f.length≤acc.length+l.length
  | [],acc,f,h=>by
    rw [List.mem_singleton.mp h]
    omega
  | c::r,acc,f,h=>by
    have h':f∈(if p c=true then acc::cut p [] r else cut p (acc++[c]) r):=h
    rw [List.length_cons]
    split at h'
    · rcases List.mem_cons.mp h' with e | e
      · rw [e];omega
      · have:=zm2 p r [] f e
        rw [List.length_nil] at this
        omega
    · have:=zm2 p r _ f h'
      rw [List.length_append,List.length_singleton] at this
      omega
theorem zst {p:List Nat→Bool}{l:List (List Nat)}{i:Nat}{x:List Nat} (h:l[i]? = some x):(l.take (i+1)).all p=((l.take i).all p && p x):=by
  rw [List.take_succ,h,List.all_append]
  simp
theorem zyn {p:List Nat→Bool}{l:List (List Nat)}{i:Nat}{x:List Nat} (h:l[i]? = some x) (hx:p x=false):l.all p=false:=List.all_eq_false.mpr ⟨x,List.mem_of_getElem? h,by rw [hx];simp⟩
open Vaunid (isSmall isDigit inWord)
theorem zyx (l:List Nat):NumText.digitsVal l=Vaunid.digitsValue l:=by
  unfold NumText.digitsVal Vaunid.digitsValue
  have e:(fun (acc c:Nat)=>acc * 10+(c - 48))=fun n c=>10 * n+(c - 48):=by
    funext x y
    rw [Nat.mul_comm]
  rw [e]
theorem zi5 {l:List Nat} (h : ∀ c∈l,isDigit c=true):NumText.AllDigits l:=fun c hc=>by
  have:=h c hc
  unfold isDigit at this
  simpa using this
theorem zr3 : ∀ (l:List Nat) (n:Nat),(∀ c∈l,isDigit c=true)→l.foldl (fun n c=>10 * n+(c - 48)) n<(n+1) * 10 ^ l.length
  | [],n,_=>by simp
  | c::r,n,h=>by
    have hc:=zi5 h c (List.mem_cons_self ..)
    have ih:=zr3 r (10 * n+(c - 48)) fun x hx=>h x (List.mem_cons_of_mem _ hx)
    rw [List.foldl_cons,List.length_cons,Nat.pow_succ]
    refine Nat.lt_of_lt_of_le ih ?_
    rw [Nat.mul_comm (10 ^ r.length) 10,← Nat.mul_assoc]
    exact Nat.mul_le_mul_right _ (by omega)
theorem zyw {l:List Nat} (h : ∀ c∈l,isDigit c=true):Vaunid.digitsValue l<10 ^ l.length:=by
  have:=zr3 l 0 h
  rw [Nat.zero_add,Nat.one_mul] at this
  exact this
theorem zil {a b:Nat} (h:a≤b):10 ^ a≤10 ^ b:=Nat.pow_le_pow_right (by decide) h
theorem zyf {l:List Nat}{k:Nat} (h : ∀ c∈l,isDigit c=true) (hk:l.length≤k):Vaunid.digitsValue l<10 ^ k:=Nat.lt_of_lt_of_le (zyw h) (zil hk)
theorem zlb {l:List Nat} (h : ∀ c∈l,isDigit c=true) (h1:l≠[]) (h2:l.length≤4300):intText? (S l)=some ((Vaunid.digitsValue l:Nat):Int):=by
  have e:=PySem.intText_digits (x:=S l) (zi5 h) h1 (by rw [zbo];exact h2)
  rw [show (S l).cps.toList=l from rfl,zyx] at e
  exact e
theorem zt4 (n:Nat) : ∀ k,(List.replicate n 48).foldl (fun n c=>10 * n+(c - 48)) k=k * 10 ^ n:=by
  induction n with
  | zero=>intro k;simp
  | succ n ih =>
    intro k
    rw [List.replicate_succ,List.foldl_cons,ih,Nat.pow_succ]
    show (10 * k+0) * 10 ^ n=k * (10 ^ n * 10)
    rw [Nat.add_zero,Nat.mul_comm 10 k,Nat.mul_assoc,Nat.mul_comm 10]
theorem zye (n:Nat):Vaunid.digitsValue (49::List.replicate n 48)=10 ^ n:=by
  unfold Vaunid.digitsValue
  rw [List.foldl_cons,zt4]
  show (10 * 0+1) * 10 ^ n=_
  simp
theorem zi1 (x:Array Nat) : ∀ (n:Nat) (acc:Array Nat),(List.replicate n x).foldl (· ++ ·) acc=acc++((List.replicate n x.toList).flatten).toArray
  | 0,acc=>by simp
  | n+1,acc=>by
    rw [List.replicate_succ,List.foldl_cons,zi1 x n,List.replicate_succ,List.flatten_cons]
    apply Array.ext'
    simp
theorem zlh (n c:Nat):(List.replicate n [c]).flatten=List.replicate n c:=by
  induction n with
  | zero=>rfl
  | succ n ih=>rw [List.replicate_succ,List.flatten_cons,ih];rfl
theorem zrd (n:Nat):Txt.mul (Str.ofString "0") (n:Int)=S (List.replicate n 48):=by
  unfold Txt.mul
  by_cases h:(n:Int)<1
  · have:n=0:=by omega
    subst this
    rw [if_pos h]
    rfl
  · rw [if_neg h]
    have e0:((Str.ofString "0").length == 0)=false:=by decide +kernel
    rw [e0,Bool.or_false]
    by_cases h1:((n:Int) == 1)=true
    · have:n=1:=by have:=eq_of_beq h1;omega
      subst this
      rw [if_pos h1]
      decide +kernel
    · rw [if_neg h1]
      refine zdu ?_
      rw [Int.toNat_natCast]
      show (List.foldl (fun x1 x2=>x1++x2) #[] (List.replicate n (Str.ofString "0").cps)).toList=List.replicate n 48
      rw [zi1]
      rw [show (Str.ofString "0").cps.toList=[48] by decide +kernel,zlh]
      simp
noncomputable def frac (a:List Nat) (c:Nat) (b:List Nat):Option (Nat×Nat) :=
  let top:=if c=46 then Vaunid.digitsValue (a++b) else Vaunid.digitsValue a
  let low:=if c=47 then Vaunid.digitsValue b else if c=46 then 10 ^ b.length else 1
  let g:=Nat.gcd top low
  let good:=decide (a.length≤Vaunid.MOSTSIGNS) && (decide (b.length≤Vaunid.MOSTSIGNS) && (low != 0 && (Vaunid.fits (top / g) && Vaunid.fits (low / g))))
  if good=true then some (top / g,low / g) else none
noncomputable def zn2 (o u:Nat):Option (Nat×Nat):=if u=0 then none else if 10 ^ 12≤o / Nat.gcd o u∨10 ^ 12≤u / Nat.gcd o u then none else some (o / Nat.gcd o u,u / Nat.gcd o u)
theorem zel {a b:List Nat}{c:Nat} (ha:a.length≤12) (hb:b.length≤12) :
    frac a c b=zn2 (if c=46 then Vaunid.digitsValue (a++b) else Vaunid.digitsValue a) (if c=47 then Vaunid.digitsValue b else if c=46 then 10 ^ b.length else 1):=by
  unfold frac zn2
  dsimp only
  generalize (if c=46 then Vaunid.digitsValue (a++b) else Vaunid.digitsValue a)=o
  generalize (if c=47 then Vaunid.digitsValue b else if c=46 then 10 ^ b.length else 1)=u
  rw [decide_eq_true (show a.length≤Vaunid.MOSTSIGNS from ha),decide_eq_true (show b.length≤Vaunid.MOSTSIGNS from hb)]
  unfold Vaunid.fits
  by_cases h0:u=0
  · subst h0
    simp
  · rw [if_neg h0]
    by_cases h1:10 ^ 12≤o / o.gcd u∨10 ^ 12≤u / o.gcd u
    · rw [if_pos h1,if_neg]
      simp only [Bool.true_and,Bool.and_eq_true,bne_iff_ne,decide_eq_true_eq]
      omega
    · rw [if_neg h1,if_pos]
      simp only [Bool.true_and,Bool.and_eq_true,bne_iff_ne,decide_eq_true_eq]
      omega
theorem zhy {a b:List Nat}{c:Nat} (h:12<a.length∨12<b.length):frac a c b=none:=by
  unfold frac
  dsimp only
  rw [if_neg]
  simp only [Bool.and_eq_true,decide_eq_true_eq]
  have:Vaunid.MOSTSIGNS=12:=rfl
  omega
noncomputable def afs (o u:Int) (m:Str):List (Str×V):=[("over",.int o),("under",.int u),("measure",.str m)]
noncomputable def zbh (C:Addr) (H:Hp) (a:Addr) (o u:Int) (m:List Nat):Prop:=∃ dx,H a=some (.ins C dx (afs o u (S m)))
theorem zbh.same {C:Addr}{H H':Hp}{a:Addr}{o u:Int}{m:List Nat} (h:zbh C H a o u m) (s:Same H H'):zbh C H' a o u m:=let ⟨dx,e⟩:=h;⟨dx,s _ _ e⟩
noncomputable def zbt (C:Addr) (names:List Str):Sp:=fun vs H Q _=>∃ (p dx:Addr) (args:List V),vs = .ref p::args∧args.length=names.length∧H p=some (.ins C dx [])∧Q .non (upd H p (.ins C dx (names.zip args)))
theorem zbi {H:Hp}{x dx:Addr}{o1 o2:HO} (h1:H x=none) (h2:H dx=none):Same H (upd (upd H dx o1) x o2):=fun b o e=>by rw [zah (zag e h1),zah (zag e h2)];exact e
noncomputable def zh7 (C:Addr) (H:Hp) (Q:VK) (r:Option (Nat×Nat)):Prop:=match r with
  | none=>∀ H',Same H H'→Q .non H'
  | some (x,y)=>∀ (p:Addr) (H':Hp),Same H H'→zbh C H' p (x:Int) (y:Int) []→Q (.ref p) H'
theorem zh7.mono {C:Addr}{H H1:Hp}{Q:VK}{r:Option (Nat×Nat)} (h:zh7 C H Q r) (s:Same H H1):zh7 C H1 Q r:=by
  cases r with
  | none=>exact fun H' s'=>h H' (s.trans s')
  | some p=>exact fun a H' s' q=>h a H' (s.trans s') q
end M
namespace L2
open PySem PySem.Spec PyProof.Rows TL
theorem pe_r {X:Cx}{x:Str}{a:Addr}{pos:Pos} (h:X.mg x=some (.ref a)) (hg:Gl X x:=by rfl) (hd:(x == ("__debug__":Str))=false:=by decide):PE X (.Name x pos) (tC (.ref a)):=zq0 hg h rfl hd
theorem few0 {n:Nat} (h:n<1000:=by decide):n<1000:=h
theorem few {f:Str}{v:V}{fs:List (Str×V)}{n:Nat} (h:fs.length≤n):(putF f v fs).length≤n+1:=Nat.le_trans (zda f v fs) (Nat.add_le_add_right h 1)
theorem few1 {f1:Str}{v1:V}:(putF f1 v1 []).length<1000:=Nat.lt_of_le_of_lt (few (n:=0) (Nat.le_refl _)) (by decide)
theorem few2 {f1 f2:Str}{v1 v2:V}:(putF f2 v2 (putF f1 v1 [])).length<1000:=Nat.lt_of_le_of_lt (few (few (n:=0) (Nat.le_refl _))) (by decide)
theorem few3 {f1 f2 f3:Str}{v1 v2 v3:V}:(putF f3 v3 (putF f2 v2 (putF f1 v1 []))).length<1000:=Nat.lt_of_le_of_lt (few (few (few (n:=0) (Nat.le_refl _)))) (by decide)
theorem few4 {f1 f2 f3 f4:Str}{v1 v2 v3 v4:V}:(putF f4 v4 (putF f3 v3 (putF f2 v2 (putF f1 v1 [])))).length<1000:=Nat.lt_of_le_of_lt (few (few (few (few (n:=0) (Nat.le_refl _))))) (by decide)
theorem zwl (x:Int) (l:List Int):inV (.int x) (l.map V.int)=l.contains x:=by
  unfold inV
  induction l with
  | nil=>rfl
  | cons a r ih =>
    rw [List.map_cons,List.any_cons,ih,List.contains_cons]
    congr 1
    show (a == x)=(x == a)
    exact Bool.beq_comm
theorem zwk (x:Str) (l:List Str):inV (.str x) (l.map V.str)=l.any (· == x):=by
  unfold inV
  rw [List.any_map]
  rfl
theorem flat_strs (l:List Str):(l.map V.str).all zib=true:=by
  rw [List.all_map]
  exact List.all_eq_true.mpr fun _ _=>rfl
end L2
namespace M
open PySem PySem.Spec PyProof.Rows L2 TL
open Vaunid (isSmall isDigit inWord)
theorem zcm (p:Nat→Bool) : ∀ l:List Nat,l.dropWhile p=l.drop (l.takeWhile p).length
  | []=>rfl
  | c::r=>by
    rw [List.dropWhile_cons,List.takeWhile_cons]
    split
    · rw [zcm p r,List.length_cons,List.drop_succ_cons]
    · rfl
theorem zf8 (p:Nat→Bool) (l:List Nat):(l.takeWhile p).length≤l.length:=List.Sublist.length_le (List.takeWhile_sublist p)
theorem zfx {t:List Nat}{i c:Nat} (h:t[i]? = some c):t.drop i=c::t.drop (i+1):=by
  obtain ⟨h1,h2⟩:=List.getElem?_eq_some_iff.mp h
  rw [List.drop_eq_getElem_cons h1,h2]
theorem ze4 (s:List Nat):(Vaunid.numberText s).1=(match s.drop (s.takeWhile isDigit).length with
    | c::d::r=>if (c=47∨c=46)∧isDigit d=true then (s.takeWhile isDigit).length+(1+((d::r).takeWhile isDigit).length) else (s.takeWhile isDigit).length
    | _=>(s.takeWhile isDigit).length):=by
  unfold Vaunid.numberText
  dsimp only
  rw [zcm]
  generalize (s.takeWhile isDigit).length=n
  generalize s.drop n=l
  match l with
  | []=>rfl
  | [c]=>rfl
  | c::d::r =>
    unfold Vaunid.secondRow
    dsimp only
    by_cases h:(c=47∨c=46)∧isDigit d=true
    · simp only [if_pos h]
      rw [if_neg (by omega)]
    · simp only [if_neg h,if_true,Nat.add_zero]
theorem zra {t:List Nat}{p:Nat} (h : ¬ p+((t.drop p).takeWhile isDigit).length+1<t.length):(Vaunid.numberText (t.drop p)).1=((t.drop p).takeWhile isDigit).length:=by
  rw [ze4,List.drop_drop]
  have hl:(t.drop (p+((t.drop p).takeWhile isDigit).length)).length≤1:=by rw [List.length_drop];omega
  generalize t.drop (p+((t.drop p).takeWhile isDigit).length)=l at hl
  match l,hl with
  | [],_=>rfl
  | [c],_=>rfl
  | _::_::_,hl=>simp at hl
theorem ztj {t:List Nat}{p c d:Nat} (h1:t[p+((t.drop p).takeWhile isDigit).length]? = some c) (h2:t[p+((t.drop p).takeWhile isDigit).length+1]? = some d) :
    (Vaunid.numberText (t.drop p)).1=if (c=47∨c=46)∧isDigit d=true then ((t.drop p).takeWhile isDigit).length+(1+((t.drop (p+((t.drop p).takeWhile isDigit).length+1)).takeWhile isDigit).length) else ((t.drop p).takeWhile isDigit).length:=by
  rw [ze4,List.drop_drop,zfx h1,zfx h2]
theorem zwm (c:Nat):inV (.int (c:Int)) [V.int 46,V.int 47]=decide (c=46∨c=47):=by
  have e:=zwl (c:Int) [46,47]
  rw [show [V.int 46,V.int 47]=[46,47].map V.int from rfl,e]
  rw [Bool.eq_iff_iff]
  simp
  omega
theorem zqf {a b:List Nat} (h : ∀ x∈a,isDigit x=true) (h2 : ∀ x∈b,isDigit x=true):Txt.split (S (a++47::b)) (Str.ofString "/")=[S a,S b]:=by
  refine zcy ?_
  rw [zg7]
  have na:47∉a:=fun m=>by have:=h _ m;revert this;decide
  have nb:47∉b:=fun m=>by have:=h2 _ m;revert this;decide
  have e:=zkk (s:=47) (S:=[]) (rest:=b) (acc:=[]) na
  rw [zha nb] at e
  exact e
theorem zwv {a b:List Nat} (h : ∀ x∈a,isDigit x=true) (h2 : ∀ x∈b,isDigit x=true):Txt.split (S (a++46::b)) (Str.ofString ".")=[S a,S b]:=by
  refine zcy ?_
  rw [zg8]
  have na:46∉a:=fun m=>by have:=h _ m;revert this;decide
  have nb:46∉b:=fun m=>by have:=h2 _ m;revert this;decide
  have e:=zkk (s:=46) (S:=[]) (rest:=b) (acc:=[]) na
  rw [zha nb] at e
  exact e
theorem zt6 {a:List Nat} (h : ∀ x∈a,isDigit x=true):Txt.split (S a) (Str.ofString ".")=[S a]:=by
  refine zcy ?_
  rw [zg8]
  have na:46∉a:=fun m=>by have:=h _ m;revert this;decide
  rw [zha na]
  rfl
theorem zjw {K:PySem.W.Frag}{x0 x1 x3:Option V}{H:Hp}{p:Addr}{ys:List Str}{R:VK} (hp:H p=some (.lst (ys.map V.str))) (hy : ∀ y∈ys,y.length≤sizeLine) (hl:ys.length≤sizeLine)
    (k : ∀ (D:Addr) (H':Hp),Same H H'→H' D=some (.lst ((ys.map fun y=>(y.length:Int)).map V.int))→R (.ref D) H') :
    tLc (zmq K (tVar 2)) (zgd 3) tYes (tCB (fun xs H Q=>∃ z,xs=[V.str z]∧z.length≤sizeLine∧Q (V.int ↑z.length) H) (zgc (tVar 3) tNil)) [3] [x0,x1,some (.ref p),x3] H R:=by
  refine zke (Itl K p) (ys.map V.str) (fun v=>match v with | .str z=>V.int z.length | _ => .non) (H1:=H) (fun R h=>?_) (by rw [List.length_map];exact hl) (zrw (SqL.of hp)) (fun x H' D acc Nx hx sm hD hacc nx=>?_) fun D H' hD sm e=>?_
  · exact ⟨_,rfl,p,rfl,⟨_,SqL.of hp⟩,h⟩
  · obtain ⟨d,hd,rfl⟩:=List.mem_map.mp hx
    refine ⟨rfl,?_⟩
    unfold tYes
    simp only [if_true]
    exact ⟨_,rfl,d,rfl,hy d hd,acc,hD,hacc,nx H' (Same.refl _)⟩
  · refine k D H' sm ?_
    rw [e,List.map_map,List.map_map]
    rfl
theorem zqe:Str.ofString "/"=(⟨#[47]⟩:Str):=by decide +kernel
theorem zlt (a b:List Nat):S a++S b=S (a++b):=zdu (by rw [zdl];rfl)
theorem zx0 (n:Nat) (h:n≤12):MulOk (Str.ofString "0") (n:Int):=by
  have key : ∀ m:Fin 13,MulOk (Str.ofString "0") (m.1:Int):=by
    unfold MulOk
    decide +kernel
  exact key ⟨n,by omega⟩
theorem zv8:Str.ofString "1"=S [49]:=by decide +kernel
theorem zv7 (n:Nat) (h:n≤12):intText? (Str.ofString "1"++Txt.mul (Str.ofString "0") (n:Int))=some ((10 ^ n:Nat):Int)∧(Str.ofString "1"++Txt.mul (Str.ofString "0") (n:Int)).length≤640∧(Str.ofString "1").length+(Txt.mul (Str.ofString "0") (n:Int)).length≤sizeLine:=by
  rw [zrd,zv8,zlt,zbo,zbo,zbo]
  have e:=zlb (l:=[49]++List.replicate n 48) (fun c hc=>by
    rcases List.mem_append.mp hc with q | q
    · rw [List.mem_singleton.mp q];decide
    · rw [(List.mem_replicate.mp q).2];decide) (by simp) (by simp;omega)
  refine ⟨?_,by simp;omega,?_⟩
  · rw [e]
    congr 2
    exact zye n
  · rw [List.length_replicate]
    exact Nat.le_trans (show 1+n≤13 by omega) (by decide)
open Vaunid (isSmall isDigit inWord)
theorem zua (l:List Nat) (k:Nat):cutS (S l) (some (k:Int)) none=S (l.drop k):=by
  refine zdu ?_
  unfold cutS
  rw [zw8,tl_S,HT.sIx_nat,HT.sIx_none,zid,zbo]
  by_cases h:k≤l.length
  · rw [Nat.min_eq_left h]
    exact List.take_of_length_le (by rw [List.length_drop];omega)
  · rw [Nat.min_eq_right (by omega),List.drop_eq_nil_of_le (Nat.le_refl _),List.drop_eq_nil_of_le (by omega)]
    simp
theorem zyj (l:List Nat) (k:Nat):cutS (S l) none (some (k:Int))=S (l.take k):=by
  refine zdu ?_
  unfold cutS
  rw [zw8,tl_S,HT.sIx_nat,HT.sIx_none,zid,zbo,List.drop_zero,Nat.sub_zero]
  rw [Nat.min_def]
  split
  · rfl
  · rw [List.take_length,List.take_of_length_le (by omega)]
theorem zfd (t:List Nat) (i j:Nat) (hi:i≤t.length):cutV (bs t) (some (i:Int)) (some (j:Int))=bs ((t.drop i).take (j - i)):=by
  unfold cutV
  rw [HT.sIx_nat,HT.sIx_nat,zc2,Nat.min_eq_left hi,zwy,zwx]
  by_cases h:j≤t.length
  · rw [Nat.min_eq_left h]
  · rw [Nat.min_eq_right (by omega),List.take_of_length_le (by rw [List.length_drop];exact Nat.le_refl _),List.take_of_length_le (l:=t.drop i) (by rw [List.length_drop];omega)]
theorem zki (l:List Nat):Txt.startswith (S l) (Str.ofString "-")=decide (l.head? = some 45):=by
  match l with
  | []=>decide +kernel
  | c::r =>
    unfold Txt.startswith
    have e1:(Str.ofString "-").length=1:=by decide +kernel
    rw [zbo,e1,List.length_cons,decide_eq_true (by omega),Bool.true_and]
    have e2:Builtin.Str.subAt (S (c::r)) (Str.ofString "-") 0=decide (c=45):=by
      rw [StrLaws.subAt_eq,e1,zid,show (Str.ofString "-").cps.toList=[45] by decide +kernel]
      show ([c] == [45])=_
      rw [Bool.eq_iff_iff]
      simp
    rw [e2]
    simp
theorem zsg {b:Nat→Bool}{x0 x2:Option V}{H:Hp}{l:List Nat}{R:VK} (hl:l.length≤sizeLine) (k : ∀ (D:Addr) (H':Hp),Same H H'→H' D=some (.lst ((l.map b).map V.bl))→R (.ref D) H') :
    tLc (iStr (tVar 1)) (zgd 2) tYes (zkg (spB b) [] E0 (zgc (tCB (fun xs H Q=>∃ x,xs=[V.str x]∧x.length=1∧Q (V.int ↑(x.cps.getD 0 0)) H) (zgc (tVar 2) tNil)) tNil)) [2] [x0,some (.str (S l)),x2] H R:=by
  refine zke (Its (S l)) (l.map fun d=>V.str ⟨#[d]⟩) (fun v=>match v with | .str x=>V.bl (b (x.cps.getD 0 0)) | _ => .non) (H1:=H) (fun R h=>?_) (by rw [List.length_map];exact hl) (zru (x:=S l)) (fun x H' D acc Nx hx sm hD hacc nx=>?_) fun D H' hD sm e=>?_
  · exact ⟨_,rfl,_,rfl,h⟩
  · obtain ⟨d,hd,rfl⟩:=List.mem_map.mp hx
    refine ⟨rfl,?_⟩
    unfold tYes
    simp only [if_true]
    exact ⟨_,rfl,_,rfl,rfl,d,rfl,acc,hD,hacc,nx H' (Same.refl _)⟩
  · refine k D H' sm ?_
    rw [e,List.map_map,List.map_map]
    rfl
theorem zwp:Str.ofString "^"=(⟨#[94]⟩:Str):=by decide +kernel
theorem ztf {l:List Nat} (h:94∈l):Txt.partition (S l) (Str.ofString "^")=(S (l.takeWhile (· != 94)),Str.ofString "^",S ((l.dropWhile (· != 94)).drop 1)):=by
  have hl:l=l.takeWhile (· != 94)++l.dropWhile (· != 94):=List.takeWhile_append_dropWhile.symm
  have hn:94∉l.takeWhile (· != 94):=fun m=>by have:=zg1 _ _ m;simp at this
  cases q:l.dropWhile (· != 94) with
  | nil =>
    rw [q,List.append_nil] at hl
    rw [hl] at h
    exact absurd h hn
  | cons e s =>
    have he:e=94:=by have:=zhz _ q;simpa using this
    subst he
    rw [q] at hl
    have e:=zjp (y:=Str.ofString "^") (s:=94) (S:=[]) (by decide +kernel) (a:=S (l.takeWhile (· != 94))) (b:=S s) hn
    have e2:S (l.takeWhile (· != 94))++Str.ofString "^"++S s=S l:=by
      rw [show Str.ofString "^"=S [94] by decide +kernel,zlt,zlt,List.append_assoc]
      exact congrArg S hl.symm
    rw [e2] at e
    rw [e]
    rfl
end M
namespace L2
open PySem PySem.Spec PyProof.Rows TL
noncomputable def zsp (g:TG) (tb:TS) (D:Ends) (σ:St) (J:It) (H1:Hp):Prop:=∃ W:Nat→Nat→St→Hp→Prop,(∃ m,W 0 m σ H1)∧∀ i m σ H,W i m σ H →
  (J.stop i H∧D.nx σ H)∨(J.go i H∧∃ N:St→Hp→Prop,(∀ σ' H',N σ' H'→∃ m',m'<m∧W (i+1) m' σ' H')∧∀ x H',J.yld i H x H'→g x σ H' fun σ2 H2=>tb { D with nx:=N,ct:=N,bk:=D.nx } σ2 H2)
theorem zcf {wi:TI}{g:TG}{tb:TS}{D:Ends}{σ:St}{H:Hp} (h:wi σ H (zsp g tb D σ)):tFor wi g tb D σ H:=h
theorem ziy {K:PySem.W.Frag}{a:Addr}{g:TG}{tb:TS}{D:Ends}{σ:St}{H1:Hp} (xs:List V) (Pv:Nat→St→Hp→Prop) (h0:Pv 0 σ H1) (hl : ∀ i σ H,i≤xs.length→Pv i σ H→SqL K H a xs)
    (hs : ∀ i x σ H,xs[i]? = some x→Pv i σ H→g x σ H fun σ2 H2=>tb { D with nx:=Pv (i+1),ct:=Pv (i+1),bk:=D.nx } σ2 H2) (hd : ∀ σ H,Pv xs.length σ H→D.nx σ H):zsp g tb D σ (Itl K a) H1 :=
  zt2 Pv h0 hl hs hd
end L2
namespace M
open PySem PySem.Spec PyProof.Rows L2 TL
open Vaunid (isSmall isDigit inWord inComment)
noncomputable def sgn (c:Nat):Nat:=if (32≤c∧c≤126)∧c≠37 then c else 63
theorem zun (c:Nat):sgn c=c∨(sgn c=63∧¬ ((32≤c∧c≤126)∧c≠37)):=by
  unfold sgn
  by_cases h:(32≤c∧c≤126)∧c≠37
  · rw [if_pos h];exact .inl rfl
  · rw [if_neg h];exact .inr ⟨rfl,h⟩
theorem zgm {q:Nat→Bool} (h63:q 63=false) (hq : ∀ c,q c=true→(32≤c∧c≤126)∧c≠37) (c:Nat):q (sgn c)=q c:=by
  rcases zun c with e | ⟨e,h⟩
  · rw [e]
  · rw [e,h63]
    cases r:q c with
    | false=>rfl
    | true=>exact absurd (hq c r) h
theorem zkn {c:Nat} (h:isSmall c=true):97≤c∧c≤122:=by unfold isSmall at h;simpa using h
theorem zfc {c:Nat} (h:isDigit c=true):48≤c∧c≤57:=by unfold isDigit at h;simpa using h
theorem zi9 {c:Nat} (h:inWord c=true):(97≤c∧c≤122)∨(48≤c∧c≤57)∨c=95:=by
  unfold inWord at h
  rcases Bool.or_eq_true_iff.mp h with q | q
  · exact .inl (zkn q)
  · rcases Bool.or_eq_true_iff.mp q with q | q
    · exact .inr (.inl (zfc q))
    · exact .inr (.inr (eq_of_beq q))
theorem zqj (c:Nat):isSmall (sgn c)=isSmall c:=zgm (by decide) (fun c h=>by have:=zkn h;omega) c
theorem zku (c:Nat):isDigit (sgn c)=isDigit c:=zgm (by decide) (fun c h=>by have:=zfc h;omega) c
theorem zs3 (c:Nat):inWord (sgn c)=inWord c:=zgm (by decide) (fun c h=>by have:=zi9 h;omega) c
theorem zfq (d:Nat) (h:(32≤d∧d≤126)∧d≠37∧d≠63) (c:Nat):(sgn c == d)=(c == d):=zgm (q:=fun c=>c == d) (by simp;omega) (fun c e=>by have:=eq_of_beq e;omega) c
theorem zvo (c:Nat):sep (sgn c)=sep c:=by unfold sep;rw [zfq 46 (by decide),zfq 47 (by decide)]
theorem zqk {c:Nat} (h:(32≤c∧c≤126)∧c≠37):sgn c=c:=if_pos h
theorem zft {l:List Nat} (h : ∀ c∈l,(32≤c∧c≤126)∧c≠37):l.map sgn=l:=by
  induction l with
  | nil=>rfl
  | cons c r ih=>rw [List.map_cons,zqk (h c (List.mem_cons_self ..)),ih fun x hx=>h x (List.mem_cons_of_mem _ hx)]
theorem zto {l:List Nat} (h : ∀ c∈l,inWord c=true):l.map sgn=l:=zft fun c hc=>by have:=zi9 (h c hc);omega
theorem znb {q:Nat→Bool} (h : ∀ c,q (sgn c)=q c) (l:List Nat):(l.map sgn).all q=l.all q:=by
  rw [List.all_map]
  congr 1
  funext c
  exact h c
theorem zuh {q:Nat→Bool} (h : ∀ c,q (sgn c)=q c) : ∀ l:List Nat,(l.map sgn).takeWhile q=(l.takeWhile q).map sgn
  | []=>rfl
  | c::r=>by
    rw [List.map_cons,List.takeWhile_cons,List.takeWhile_cons,h c]
    split
    · rw [zuh h r,List.map_cons]
    · rfl
theorem zu3 {q:Nat→Bool} (h : ∀ c,q (sgn c)=q c) : ∀ l:List Nat,(l.map sgn).dropWhile q=(l.dropWhile q).map sgn
  | []=>rfl
  | c::r=>by
    rw [List.map_cons,List.dropWhile_cons,List.dropWhile_cons,h c]
    split
    · exact zu3 h r
    · rfl
theorem zks (l:List Nat):zaw (l.map sgn)=zaw l:=by
  unfold zaw
  rw [znb zs3,List.length_map]
  cases l with
  | nil=>rfl
  | cons c r =>
    rw [List.map_cons,List.headD_cons,List.headD_cons,zqj]
    rfl
theorem zqu (l:List Nat):zbz (l.map sgn)=zbz l:=by
  unfold zbz
  have e:((l.map sgn).head? = some 45)=(l.head? = some 45):=by
    cases l with
    | nil=>rfl
    | cons c r =>
      have:=zfq 45 (by decide) c
      rw [List.map_cons,List.head?_cons,List.head?_cons]
      rw [Bool.eq_iff_iff] at this
      simpa using this
  simp only [e]
  split
  · cases l with
    | nil=>rfl
    | cons c r =>
      rw [List.map_cons,List.tail_cons,List.tail_cons,znb zku,List.length_map]
      cases r <;> rfl
  · rw [znb zku,List.length_map]
    simp
theorem zpe (l:List Nat):zas (l.map sgn)=zas l:=by
  unfold zas
  have n94 : ∀ c,(sgn c != 94)=(c != 94):=fun c=>by unfold bne;rw [zfq 94 (by decide)]
  have e1:(l.map sgn == [49])=(l == [49]):=by
    match l with
    | []=>rfl
    | [c] =>
      have:=zfq 49 (by decide) c
      show ([sgn c] == [49])=([c] == [49])
      rw [Bool.eq_iff_iff] at this ⊢
      simpa using this
    | c::d::r=>simp
  have e2:(l.map sgn).contains 94=l.contains 94:=by
    rw [List.contains_eq_any_beq,List.contains_eq_any_beq,List.any_map]
    congr 1
    funext c
    show (94 == sgn c)=(94 == c)
    rw [Bool.beq_comm,zfq 94 (by decide),Bool.beq_comm]
  rw [e1,e2,zuh n94,zu3 n94,← List.map_drop,zks,zks,zqu]
theorem zm0 : ∀ (l acc:List Nat),cut sep (acc.map sgn) (l.map sgn)=(cut sep acc l).map (List.map sgn)
  | [],acc=>rfl
  | c::r,acc=>by
    show (if sep (sgn c)=true then acc.map sgn::cut sep [] (r.map sgn) else cut sep (acc.map sgn++[sgn c]) (r.map sgn))=(if sep c=true then acc::cut sep [] r else cut sep (acc++[c]) r).map (List.map sgn)
    rw [zvo]
    split
    · rw [List.map_cons]
      exact congrArg _ (zm0 r [])
    · have:=zm0 r (acc++[c])
      rw [List.map_append] at this
      exact this
theorem zmk (l:List Nat):Vaunid.measureText ((l.map sgn).length+1) (l.map sgn)=Vaunid.measureText (l.length+1) l:=by
  rw [zcx _ _ (by omega),zcx _ _ (by omega)]
  have e:=zm0 l []
  rw [List.map_nil] at e
  rw [e,List.all_map]
  congr 1
  funext f
  exact zpe f
open Vaunid (isSmall isDigit inWord inComment)
noncomputable def mch (c:Nat):Bool:=inWord c || (c == 94 || (c == 45 || (c == 46 || c == 47)))
theorem zrg {c:Nat} (h:mch c=true):(32≤c∧c≤126)∧c≠37:=by
  unfold mch at h
  rcases Bool.or_eq_true_iff.mp h with q | q
  · have:=zi9 q;omega
  · simp at q;omega
theorem zi6 {c:Nat} (h:isDigit c=true):inWord c=true:=by unfold inWord;rw [h];simp
theorem zja {c:Nat} (h:inWord c=true):mch c=true:=by unfold mch;rw [h];rfl
theorem zkt {l:List Nat} (h:zaw l=true) : ∀ c∈l,mch c=true:=fun c hc=>by
  unfold zaw at h
  simp only [Bool.and_eq_true] at h
  exact zja (List.all_eq_true.mp h.2.2.2 c hc)
theorem zqv {l:List Nat} (h:zbz l=true) : ∀ c∈l,mch c=true:=fun c hc=>by
  unfold zbz at h
  by_cases q:l.head? = some 45
  · simp only [if_pos q,Bool.and_eq_true] at h
    cases l with
    | nil=>cases q
    | cons d r =>
      cases q
      rcases List.mem_cons.mp hc with e | e
      · subst e;rfl
      · exact zja (zi6 (List.all_eq_true.mp h.2.2 c e))
  · simp only [if_neg q,Bool.and_eq_true] at h
    exact zja (zi6 (List.all_eq_true.mp h.2.2 c hc))
theorem zi2 {l:List Nat} (h:zas l=true) : ∀ c∈l,mch c=true:=fun c hc=>by
  unfold zas at h
  rcases Bool.or_eq_true_iff.mp h with q | q
  · rw [eq_of_beq q] at hc
    rw [List.mem_singleton.mp hc]
    rfl
  · by_cases r:l.contains 94=true
    · rw [if_pos r,Bool.and_eq_true] at q
      have hl:l=l.takeWhile (· != 94)++l.dropWhile (· != 94):=List.takeWhile_append_dropWhile.symm
      rw [hl] at hc
      rcases List.mem_append.mp hc with e | e
      · exact zkt q.1 c e
      · cases z:l.dropWhile (· != 94) with
        | nil=>rw [z] at e;simp at e
        | cons d s =>
          have hd:d=94:=by have:=zhz _ z;simpa using this
          rw [z] at e q
          rcases List.mem_cons.mp e with e | e
          · rw [e,hd];rfl
          · exact zqv q.2 c e
    · rw [if_neg r] at q
      exact zkt q c hc
theorem zm1 : ∀ (l acc:List Nat),(cut sep acc l).all zas=true→∀ c∈acc++l,mch c=true
  | [],acc,h,c,hc=>by
    have h':zas acc=true:=by
      have:=h
      simpa [cut] using this
    rw [List.append_nil] at hc
    exact zi2 h' c hc
  | d::r,acc,h,c,hc=>by
    have h':(if sep d=true then acc::cut sep [] r else cut sep (acc++[d]) r).all zas=true:=h
    by_cases q:sep d=true
    · rw [if_pos q,List.all_cons,Bool.and_eq_true] at h'
      rcases List.mem_append.mp hc with e | e
      · exact zi2 h'.1 c e
      · rcases List.mem_cons.mp e with e | e
        · subst e
          unfold sep at q
          unfold mch
          rw [q]
          simp
        · exact zm1 r [] h'.2 c (by simpa using e)
    · rw [if_neg q] at h'
      exact zm1 r (acc++[d]) h' c (by simpa using hc)
theorem zml {m:List Nat} (h:Vaunid.measureText (m.length+1) m=true):m.map sgn=m:=by
  rw [zcx _ _ (by omega)] at h
  exact zft fun c hc=>zrg (zm1 m [] h c (by simpa using hc))
theorem zov {m:List Nat} (h:Vaunid.measureText (m.length+1) m=true):m≠[]:=by
  intro e
  subst e
  revert h
  decide
theorem zjt (s:List Nat):(Vaunid.numberText s).2.2=s.drop (Vaunid.numberText s).1∧(Vaunid.numberText s).1≤s.length:=by
  have hs:(s.takeWhile isDigit).length≤s.length:=zf8 _ _
  rw [ze4]
  unfold Vaunid.numberText
  dsimp only
  rw [zcm]
  have hd : ∀ l,s.drop (s.takeWhile isDigit).length=l→s.length=(s.takeWhile isDigit).length+l.length:=fun l e=>by rw [← e,List.length_drop];omega
  cases q:s.drop (s.takeWhile isDigit).length with
  | nil=>exact ⟨q.symm,hs⟩
  | cons c l =>
    have:=hd _ q
    cases l with
    | nil=>exact ⟨q.symm,hs⟩
    | cons d r =>
      unfold Vaunid.secondRow
      dsimp only
      rw [List.length_cons,List.length_cons] at this
      by_cases h:(c=47∨c=46)∧isDigit d=true
      · simp only [if_pos h]
        have tl2:=zf8 isDigit (d::r)
        rw [List.length_cons] at tl2
        have key:(s.takeWhile isDigit).length+(1+((d::r).takeWhile isDigit).length)≤s.length:=by omega
        refine ⟨?_,key⟩
        rw [zcm,← Nat.add_assoc,← List.drop_drop,← List.drop_drop,q]
        rfl
      · simp only [if_neg h]
        exact ⟨q.symm,hs⟩
theorem zrb {s:List Nat}{c:Nat}{r:List Nat} (e:s=c::r) (h:isDigit c=true):1≤(Vaunid.numberText s).1:=by
  rw [ze4]
  have:1≤(s.takeWhile isDigit).length:=by
    rw [e,List.takeWhile_cons,h]
    simp
  split
  · split
    · exact Nat.le_trans this (Nat.le_add_right _ _)
    · exact this
  · exact this
theorem zg0 (p:Nat→Bool) : ∀ s:List Nat,s.take (s.takeWhile p).length=s.takeWhile p
  | []=>rfl
  | c::r=>by
    rw [List.takeWhile_cons]
    split
    · rw [List.length_cons,List.take_succ_cons,zg0 p r]
    · rfl
theorem zpw (s:List Nat) (n k:Nat):s.take (n+k)=s.take n++(s.drop n).take k:=List.take_add
theorem zq9 (s:List Nat) : ∃ (b:List Nat) (c:Nat),s.take (Vaunid.numberText s).1=s.takeWhile isDigit++(if c=0 then [] else c::b) ∧
    ((c=0∧b=[])∨((c=46∨c=47)∧b≠[]∧∀ x∈b,isDigit x=true))∧(Vaunid.numberText s).2.1=frac (s.takeWhile isDigit) c b∧(s.takeWhile isDigit).length+b.length≤s.length:=by
  have hs:(s.takeWhile isDigit).length≤s.length:=zf8 _ _
  have ht:=zg0 isDigit s
  have hd : ∀ l,s.drop (s.takeWhile isDigit).length=l→s.length=(s.takeWhile isDigit).length+l.length:=fun l e=>by rw [← e,List.length_drop];omega
  rw [ze4]
  have plain:Vaunid.secondRow (s.dropWhile isDigit)=(0,[],s.dropWhile isDigit)→s.take (s.takeWhile isDigit).length=s.takeWhile isDigit++(if 0=0 then [] else 0::[])∧(Vaunid.numberText s).2.1=frac (s.takeWhile isDigit) 0 []:=fun e=>by
    refine ⟨by rw [ht];simp,?_⟩
    unfold Vaunid.numberText
    dsimp only
    rw [e]
    rfl
  cases q:s.drop (s.takeWhile isDigit).length with
  | nil =>
    obtain ⟨p1,p2⟩:=plain (by rw [zcm,q];rfl)
    exact ⟨[],0,p1,.inl ⟨rfl,rfl⟩,p2,hs⟩
  | cons c l =>
    have:=hd _ q
    cases l with
    | nil =>
      obtain ⟨p1,p2⟩:=plain (by rw [zcm,q];rfl)
      exact ⟨[],0,p1,.inl ⟨rfl,rfl⟩,p2,hs⟩
    | cons d r =>
      dsimp only
      rw [List.length_cons,List.length_cons] at this
      by_cases h:(c=47∨c=46)∧isDigit d=true
      · rw [if_pos h]
        have tl2:=zf8 isDigit (d::r)
        rw [List.length_cons] at tl2
        have hc0:c≠0:=by omega
        refine ⟨(d::r).takeWhile isDigit,c,?_,.inr ⟨by omega,?_,fun x hx=>zg1 _ x hx⟩,?_,by omega⟩
        · rw [zpw,ht,q,if_neg hc0,Nat.add_comm 1,List.take_succ_cons,zg0]
        · rw [List.takeWhile_cons,h.2]
          simp
        · have e:Vaunid.secondRow (s.dropWhile isDigit)=(c,(d::r).takeWhile isDigit,(d::r).dropWhile isDigit):=by
            rw [zcm,q]
            unfold Vaunid.secondRow
            dsimp only
            rw [if_pos h]
          unfold Vaunid.numberText
          dsimp only
          rw [e]
          rfl
      · rw [if_neg h]
        obtain ⟨p1,p2⟩:=plain (by
          rw [zcm,q]
          unfold Vaunid.secondRow
          dsimp only
          rw [if_neg h])
        exact ⟨[],0,p1,.inl ⟨rfl,rfl⟩,p2,hs⟩
structure TokFact (p:Nat) (s:List Nat) (k:Vaunid.Token) (r:List Nat):Prop where
  start:k.start=p
  lt:p<k.halt_
  le:k.halt_≤p+s.length
  rest:r=s.drop (k.halt_ - p)
theorem zpp {p:Nat}{s r:List Nat}{k:Vaunid.Token}{c:Nat}{s':List Nat} (e:s=c::s') (hc:isSmall c=true) (h:Vaunid.wordToken p s = .ok (k,r)):TokFact p s k r:=by
  unfold Vaunid.wordToken at h
  dsimp only at h
  split at h
  · cases h
  · cases h
    have h1:1≤(s.takeWhile inWord).length:=by
      rw [e,List.takeWhile_cons,zfp hc]
      simp
    exact ⟨rfl,Nat.lt_add_of_pos_right h1,Nat.add_le_add_left (zf8 _ _) _,by rw [Nat.add_sub_cancel_left,zcm]⟩
theorem zny {p:Nat}{s r:List Nat}{k:Vaunid.Token}{neg:Bool}{c:Nat}{s':List Nat} (e:(if neg=true then s.drop 1 else s)=c::s') (hc:isDigit c=true) (h:Vaunid.numberToken neg p s = .ok (k,r)):TokFact p s k r:=by
  unfold Vaunid.numberToken at h
  dsimp only at h
  have hpos:=zrb e hc
  obtain ⟨hrest,hle⟩:=zjt (if neg=true then s.drop 1 else s)
  generalize hx:Vaunid.numberText (if neg=true then s.drop 1 else s)=x at h hpos hrest hle
  obtain ⟨n,o,rest⟩:=x
  dsimp only at h hpos hrest hle
  have hn:n+(if neg=true then 1 else 0)≤s.length:=by
    cases neg with
    | false=>simpa using hle
    | true =>
      simp only [if_true] at e hle ⊢
      rw [List.length_drop] at hle
      have:s≠[]:=by intro z;subst z;simp at e
      have:1≤s.length:=List.length_pos_iff.mpr this
      omega
  have hr:rest=s.drop (n+(if neg=true then 1 else 0)):=by
    rw [hrest]
    cases neg with
    | false=>rfl
    | true =>
      simp only [if_true]
      rw [List.drop_drop,Nat.add_comm]
  generalize hm:n+(if neg=true then 1 else 0)=sz at h hn hr
  have hsz:1≤sz:=by omega
  cases o with
  | none=>cases h
  | some tl =>
    obtain ⟨top,low⟩:=tl
    dsimp only at h
    split at h
    · rename_i r2
      split at h
      · cases h
      · rename_i hne
        cases h
        have hl:s.length=sz+(r2.length+1):=by
          have:=congrArg List.length hr
          rw [List.length_cons,List.length_drop] at this
          omega
        have hm2:(r2.takeWhile fun c=>c != 93).length<r2.length:=by
          have h1:=zf8 (fun c=>c != 93) r2
          have h2:(r2.takeWhile fun c=>c != 93).length≠r2.length:=fun z=>hne (.inl z)
          omega
        refine ⟨rfl,?_,?_,?_⟩
        · show p<p+sz+_+2
          omega
        · show p+sz+_+2≤_
          omega
        · show r2.drop _=s.drop (p+sz+_+2 - p)
          have e1:p+sz+(r2.takeWhile fun c=>c != 93).length+2 - p=sz+(1+((r2.takeWhile fun c=>c != 93).length+1)):=by omega
          have e2:s.drop (sz+(1+((r2.takeWhile fun c=>c != 93).length+1)))=((s.drop sz).drop 1).drop ((r2.takeWhile fun c=>c != 93).length+1):=by
            rw [List.drop_drop,List.drop_drop,← Nat.add_assoc]
          rw [e1,e2,← hr]
          rfl
    · cases h
      exact ⟨rfl,Nat.lt_add_of_pos_right hsz,Nat.add_le_add_left hn _,by rw [Nat.add_sub_cancel_left];exact hr⟩
theorem zqg {p:Nat}{s r:List Nat}{k:Vaunid.Token}{L:List (List Nat)} (hL : ∀ x∈L,x≠[]) (h:Vaunid.signToken L p s = .ok (k,r)):TokFact p s k r:=by
  unfold Vaunid.signToken at h
  split at h
  · rename_i x hx
    cases h
    have hm:=List.mem_of_find?_eq_some hx
    have hp:=List.find?_some hx
    have hpos:1≤x.length:=List.length_pos_iff.mpr (hL x hm)
    have hpre:x <+: s:=List.isPrefixOf_iff_prefix.mp hp
    exact ⟨rfl,Nat.lt_add_of_pos_right hpos,Nat.add_le_add_left hpre.length_le _,by rw [Nat.add_sub_cancel_left]⟩
  · cases h
theorem zcv {core:Bool}{p:Nat}{s r:List Nat}{k:Vaunid.Token} (h:Vaunid.token core p s = .ok (k,r)):TokFact p s k r:=by
  unfold Vaunid.token at h
  cases s with
  | nil=>cases h
  | cons c s' =>
    dsimp only at h
    split at h
    · exact zpp rfl (by assumption) h
    · split at h
      · exact zny (neg:=false) rfl (by assumption) h
      · split at h
        · rename_i hc
          obtain ⟨_,hm⟩:=hc
          unfold Vaunid.minusDigit at hm
          split at hm
          · rename_i z
            cases z
            exact zny (neg:=true) rfl hm h
          · cases hm
        · refine zqg (fun x hx=>?_) h
          cases core with
          | true =>
            intro e
            subst e
            revert hx
            decide +kernel
          | false =>
            intro e
            subst e
            revert hx
            decide +kernel
noncomputable def gap (core:Bool):Nat→Nat→List Nat→Vaunid.Res (Nat×List Nat)
  | _,p,[] => .ok (p,[])
  | 0,p,s => .ok (p,s)
  | n+1,p,c::r =>
    if c=32∨(core=false∧c=10) then gap core n (p+1) r
    else if core=false∧c=123 then
      (match r.dropWhile inComment with
      | []=>Vaunid.fault 2 p
      | 125::s=>gap core n (p+(r.takeWhile inComment).length+2) s
      | _=>Vaunid.fault 1 (p+1+(r.takeWhile inComment).length))
    else .ok (p,c::r)
theorem zr1 (q:Nat→Bool) (l:List Nat):(l.dropWhile q).length≤l.length:=by rw [zcm,List.length_drop];omega
theorem zn8 (core:Bool) : ∀ (n m p:Nat) (s:List Nat),s.length<n→s.length<m→gap core n p s=gap core m p s
  | n,m,p,[],_,_=>by cases n <;> cases m <;> rfl
  | 0,_,_,_::_,h,_=>by simp at h
  | _,0,_,_::_,_,h=>by simp at h
  | n+1,m+1,p,c::r,h1,h2=>by
    rw [List.length_cons] at h1 h2
    unfold gap
    split
    · exact zn8 core n m _ r (by omega) (by omega)
    · split
      · have hl:=zr1 inComment r
        cases q:r.dropWhile inComment with
        | nil=>rfl
        | cons d s =>
          rw [q,List.length_cons] at hl
          by_cases hd:d=125
          · subst hd
            exact zn8 core n m _ s (by omega) (by omega)
          · split
            · rename_i z;cases z
            · rename_i z;cases z;exact absurd rfl hd
            · rfl
      · rfl
noncomputable def gapT (core:Bool) (p:Nat) (s:List Nat):Vaunid.Res (Nat×List Nat):=gap core (s.length+1) p s
theorem zix {core:Bool}{p c:Nat}{r:List Nat} (h:c=32∨(core=false∧c=10)):gapT core p (c::r)=gapT core (p+1) r:=by
  unfold gapT
  rw [List.length_cons]
  conv=>lhs;unfold gap
  rw [if_pos h]
theorem zo8 {core:Bool}{p c:Nat}{r:List Nat} (h : ¬ (c=32∨(core=false∧c=10))) (h2 : ¬ (core=false∧c=123)):gapT core p (c::r) = .ok (p,c::r):=by
  unfold gapT
  rw [List.length_cons]
  unfold gap
  rw [if_neg h,if_neg h2]
theorem zcp (core:Bool) : ∀ (n m p:Nat) (s:List Nat),s.length<n→s.length<m→Vaunid.tokens core n p s=Vaunid.tokens core m p s
  | n,m,p,[],_,_=>by cases n <;> cases m <;> rfl
  | 0,_,_,_::_,h,_=>by simp at h
  | _,0,_,_::_,_,h=>by simp at h
  | n+1,m+1,p,c::r,h1,h2=>by
    rw [List.length_cons] at h1 h2
    unfold Vaunid.tokens
    split
    · exact zcp core n m _ r (by omega) (by omega)
    · split
      · have hl:=zr1 inComment r
        cases q:r.dropWhile inComment with
        | nil=>rfl
        | cons d s =>
          rw [q,List.length_cons] at hl
          by_cases hd:d=125
          · subst hd
            exact zcp core n m _ s (by omega) (by omega)
          · split
            · rename_i z;cases z
            · rename_i z;cases z;exact absurd rfl hd
            · rfl
      · cases q:Vaunid.token core p (c::r) with
        | error e=>rfl
        | ok x =>
          obtain ⟨k,s⟩:=x
          have hf:=zcv q
          have hs:s.length≤r.length:=by
            have h3:=hf.lt
            rw [hf.rest,List.length_drop,List.length_cons]
            omega
          dsimp only
          rw [zcp core n m k.halt_ s (by omega) (by omega)]
noncomputable def zf9 (core:Bool) (p:Nat) (s:List Nat):Vaunid.Res (List Vaunid.Token):=Vaunid.tokens core (s.length+1) p s
noncomputable def za8 (core:Bool) (x:Nat×List Nat):Vaunid.Res (List Vaunid.Token):=match x.2 with
  | [] => .ok []
  | c::r=>match Vaunid.token core x.1 (c::r) with
    | .error e => .error e
    | .ok (k,s)=>match zf9 core k.halt_ s with
      | .error e => .error e
      | .ok l => .ok (k::l)
theorem zg2 (core:Bool) : ∀ (n p:Nat) (s:List Nat),s.length<n→zf9 core p s=(match gap core n p s with | .error e => .error e | .ok x=>za8 core x)
  | n,p,[],_=>by cases n <;> rfl
  | 0,p,_::_,h=>by simp at h
  | n+1,p,c::r,h=>by
    rw [List.length_cons] at h
    unfold zf9 gap
    rw [List.length_cons]
    conv=>lhs;unfold Vaunid.tokens
    split
    · exact zg2 core n (p+1) r (by omega)
    · split
      · have hl:=zr1 inComment r
        cases q:r.dropWhile inComment with
        | nil=>rfl
        | cons d s =>
          rw [q,List.length_cons] at hl
          by_cases hd:d=125
          · subst hd
            show Vaunid.tokens core (r.length+1) _ s=_
            rw [zcp core (r.length+1) (s.length+1) _ s (by omega) (by omega)]
            exact zg2 core n _ s (by omega)
          · have e2:(match d::s with
                | []=>(Vaunid.fault 2 p:Vaunid.Res (Nat×List Nat))
                | 125::s=>gap core n (p+(List.takeWhile inComment r).length+2) s
                | x=>Vaunid.fault 1 (p+1+(List.takeWhile inComment r).length))=Vaunid.fault 1 (p+1+(List.takeWhile inComment r).length):=by
              split
              · rename_i z;cases z
              · rename_i z;cases z;exact absurd rfl hd
              · rfl
            refine Eq.trans ?_ (congrArg (fun (o:Vaunid.Res (Nat×List Nat))=>(match o with | .error e => .error e | .ok x=>za8 core x:Vaunid.Res (List Vaunid.Token))) e2).symm
            split
            · rename_i z;cases z
            · rename_i z;cases z;exact absurd rfl hd
            · rfl
      · show _=za8 core (p,c::r)
        unfold za8
        dsimp only
        cases q:Vaunid.token core p (c::r) with
        | error e=>rfl
        | ok x =>
          obtain ⟨k,s⟩:=x
          have hf:=zcv q
          have hs:s.length≤r.length:=by
            have h3:=hf.lt
            rw [hf.rest,List.length_drop,List.length_cons]
            omega
          dsimp only
          unfold zf9
          rw [zcp core (r.length+1) (s.length+1) _ s (by omega) (by omega)]
          rfl
theorem zfk (core:Bool) (p:Nat) (s:List Nat):zf9 core p s=(match gapT core p s with | .error e => .error e | .ok x=>za8 core x):=zg2 core _ p s (Nat.lt_succ_self _)
theorem zgp (core:Bool) : ∀ (n p:Nat) (s:List Nat) (x:Nat×List Nat),gap core n p s = .ok x→p≤x.1∧x.1≤p+s.length∧x.2=s.drop (x.1 - p)
  | n,p,[],x,h=>by
    have:x=(p,[]):=by
      cases n <;> (cases h;rfl)
    subst this
    simp
  | 0,p,c::r,x,h=>by
    cases h
    simp
  | n+1,p,c::r,x,h=>by
    unfold gap at h
    split at h
    · obtain ⟨h1,h2,h3⟩:=zgp core n (p+1) r x h
      rw [List.length_cons]
      refine ⟨by omega,by omega,?_⟩
      rw [h3,show x.1 - p=(x.1 - (p+1))+1 by omega,List.drop_succ_cons]
    · split at h
      · have hl:=zcm inComment r
        have hl2:=zf8 inComment r
        cases q:r.dropWhile inComment with
        | nil=>rw [q] at h;cases h
        | cons d s =>
          rw [q] at h hl
          by_cases hd:d=125
          · subst hd
            obtain ⟨h1,h2,h3⟩:=zgp core n _ s x h
            have hs:r.length=(r.takeWhile inComment).length+(s.length+1):=by
              have:=congrArg List.length hl
              rw [List.length_cons,List.length_drop] at this
              omega
            rw [List.length_cons]
            refine ⟨by omega,by omega,?_⟩
            have e:x.1 - p=(x.1 - (p+(r.takeWhile inComment).length+2))+1+(r.takeWhile inComment).length+1:=by omega
            have e2:r.drop (x.1 - (p+(r.takeWhile inComment).length+2)+1+(r.takeWhile inComment).length)=(r.drop (r.takeWhile inComment).length).drop (x.1 - (p+(r.takeWhile inComment).length+2)+1):=by rw [List.drop_drop,Nat.add_comm]
            rw [h3,e,List.drop_succ_cons,e2,← hl,List.drop_succ_cons]
          · split at h
            · rename_i z;cases z
            · rename_i z;cases z;exact absurd rfl hd
            · cases h
      · cases h
        simp
open Vaunid (isSmall isDigit inWord inComment)
theorem zo7 : ∀ (s:List Nat) (p:Nat),gapT false p s=gapT false (p+(s.takeWhile fun c=>c == 32 || c == 10).length) (s.drop (s.takeWhile fun c=>c == 32 || c == 10).length)
  | [],p=>rfl
  | c::r,p=>by
    rw [List.takeWhile_cons]
    cases h:(c == 32 || c == 10) with
    | false=>rfl
    | true =>
      simp only [if_true]
      rw [List.length_cons,List.drop_succ_cons,zix (by simpa using h),zo7 r (p+1)]
      congr 1
      omega
theorem ziw : ∀ (s:List Nat) (p:Nat),gapT true p s = .ok (p+(s.takeWhile fun c=>c == 32).length,s.drop (s.takeWhile fun c=>c == 32).length)
  | [],p=>rfl
  | c::r,p=>by
    rw [List.takeWhile_cons]
    cases h:(c == 32) with
    | false=>exact zo8 (by simpa using h) (by simp)
    | true =>
      simp only [if_true]
      rw [List.length_cons,List.drop_succ_cons,zix (by simpa using h),ziw r (p+1)]
      congr 2
      omega
theorem zr4 {t:List Nat}{p:Nat}{s:List Nat} (h:t.drop p=s) (k:Nat):t.drop (p+k)=s.drop k:=by rw [← h,List.drop_drop]
theorem zoc {t:List Nat}{p:Nat}{s:List Nat} (h:t.drop p=s) (hp:p≤t.length):t.length=p+s.length:=by rw [← h,List.length_drop];omega
theorem zd5 {t:List Nat}{p c:Nat}{r:List Nat} (h:t.drop p=c::r):p<t.length:=by
  have:=congrArg List.length h
  rw [List.length_drop,List.length_cons] at this
  omega
open Vaunid (isSmall isDigit inWord inComment)
theorem zjy {n:Nat} (t:List Nat) : ∀ (L:List (List Nat)),(∀ x∈L,x.length=n)→L.find? (fun s=>s.isPrefixOf t)=if t.take n∈L then some (t.take n) else none
  | [],_=>by simp
  | x::r,h=>by
    have hx:=h x (List.mem_cons_self ..)
    have ih:=zjy t r fun y hy=>h y (List.mem_cons_of_mem _ hy)
    rw [List.find?_cons]
    by_cases hp:x.isPrefixOf t=true
    · rw [hp]
      have e:x=t.take n:=by rw [← hx];exact (List.prefix_iff_eq_take.mp (List.isPrefixOf_iff_prefix.mp hp))
      dsimp only
      rw [← e,if_pos (List.mem_cons_self ..)]
    · have hp':x.isPrefixOf t=false:=Bool.eq_false_iff.mpr hp
      rw [hp']
      dsimp only
      rw [ih]
      have ne:t.take n≠x:=fun e=>hp (List.isPrefixOf_iff_prefix.mpr (e ▸ List.take_prefix n t))
      by_cases hm:t.take n∈r
      · rw [if_pos hm,if_pos (List.mem_cons_of_mem _ hm)]
      · rw [if_neg hm,if_neg]
        intro z
        rcases List.mem_cons.mp z with q | q
        · exact ne q
        · exact hm q
structure GoodSigns (L:List (List Nat)):Prop where
  parts : ∃ L2 L1,L=L2++L1∧(∀ x∈L2,x.length=2)∧∀ x∈L1,x.length=1
  plain : ∀ x∈L,∀ c∈x,((32≤c∧c≤126)∧c≠37)∧c≠63
theorem zrt:GoodSigns Vaunid.coreSigns:=⟨⟨[],Vaunid.coreSigns,rfl,by decide,by decide +kernel⟩,by decide +kernel⟩
theorem zwd {L:List (List Nat)} (g:GoodSigns L) (l:List Nat):l.map sgn∈L↔l∈L:=by
  constructor
  · intro h
    have e:l.map sgn=l:=zft fun c hc=>by
      have:=g.plain _ h (sgn c) (List.mem_map.mpr ⟨c,hc,rfl⟩)
      rcases zun c with q | ⟨q,_⟩
      · rw [q] at this;exact this.1
      · rw [q] at this;exact absurd rfl this.2
    rwa [e] at h
  · intro h
    rw [zft fun c hc=>(g.plain _ h c hc).1]
    exact h
noncomputable def zqh (L:List (List Nat)) (t:List Nat):Option (List Nat):=if t.take 2∈L then some (t.take 2) else if t.take 1∈L then some (t.take 1) else none
theorem zpd {L:List (List Nat)} (g:GoodSigns L) (t:List Nat):L.find? (fun s=>s.isPrefixOf t)=zqh L t:=by
  obtain ⟨L2,L1,rfl,h2,h1⟩:=g.parts
  rw [List.find?_append,zjy t L2 h2,zjy t L1 h1]
  unfold zqh
  by_cases m2:t.take 2∈L2
  · rw [if_pos m2,if_pos (List.mem_append_left _ m2)]
    rfl
  · rw [if_neg m2]
    by_cases m1:t.take 1∈L1
    · rw [if_pos m1]
      by_cases m:t.take 2∈L2++L1
      · have m':t.take 2∈L1:=(List.mem_append.mp m).resolve_left m2
        have e:=h1 _ m'
        have e3:t.take 1=t.take 2:=by
          rw [List.length_take] at e
          have:t.length≤1:=by omega
          rw [List.take_of_length_le this,List.take_of_length_le (by omega)]
        rw [if_pos m,e3]
        rfl
      · rw [if_neg m,if_pos (List.mem_append_right _ m1)]
        rfl
    · rw [if_neg m1]
      have n1 : ¬ t.take 1∈L2++L1:=fun z=>by
        rcases List.mem_append.mp z with q | q
        · have:=h2 _ q
          rw [List.length_take] at this
          omega
        · exact m1 q
      by_cases m:t.take 2∈L2++L1
      · have m':t.take 2∈L1:=(List.mem_append.mp m).resolve_left m2
        have e:=h1 _ m'
        have e3:t.take 1=t.take 2:=by
          rw [List.length_take] at e
          have:t.length≤1:=by omega
          rw [List.take_of_length_le this,List.take_of_length_le (by omega)]
        rw [← e3] at m'
        exact absurd m' m1
      · rw [if_neg m,if_neg n1]
        rfl
noncomputable def zrz (k p:Int):List (Str×V):=[("kind",.int k),("place",.int p)]
noncomputable def ExF (C:Addr) (E:XK) (H:Hp) (k p:Int):Prop:=∀ (dx:Addr) (H':Hp),Same H H'→H' dx=some (XDic dx (zrz k p))→E (.ref C) (some dx) H'
theorem ExF.mono {C:Addr}{E:XK}{H H1:Hp}{k p:Int} (h:ExF C E H k p) (s:Same H H1):ExF C E H1 k p:=fun dx H' s' e=>h dx H' (s.trans s') e
noncomputable def RES {A:Type} (C:Addr) (H:Hp) (Q:VK) (E:XK) (r:Vaunid.Res A) (post:A→V→Hp→Prop):Prop:=match r with
  | .ok a=>∀ (v:V) (H':Hp),Same H H'→post a v H'→Q v H'
  | .error e=>ExF C E H (e.kind:Int) (e.place:Int)
noncomputable def zhe (C:Addr):Sp:=fun vs H Q _=>∃ (p:Addr) (k q:V),vs=[.ref p,k,q]∧H p=some (XNew C p none)∧∀ dx,H dx=none→dx≠p→Q .non (upd (upd H dx (XDic dx [("kind",k),("place",q)])) p (XNew C p (some dx)))
theorem zcj {C:Addr}{E:XK}{H:Hp}{k p:Int}{E':XK} (h:ExF C E H k p) : ∀ a,H a=none→zhe C [.ref a,.int k,.int p] (upd H a (XNew C a none))
    (fun v H2=>v = .non∧∃ dx,H2 a=some (XNew C a (some dx))∧∃ fs,H2 dx=some (XDic dx fs)∧E (.ref C) (some dx) (del H2 a)) E':=fun a ha=>by
  refine ⟨a,_,_,rfl,zad,fun dx hdx hne=>⟨rfl,dx,zad,_,by rw [zah hne];exact zad,?_⟩⟩
  have hdx':H dx=none:=by rw [zah hne] at hdx;exact hdx
  refine h dx _ (fun b o e=>?_) ?_
  · have nb:b≠a:=zag e ha
    rw [zdv nb,zah nb,zah (zag e hdx'),zah nb]
    exact e
  · rw [zdv hne,zah hne]
    exact zad
noncomputable def zga (g:Int) (k:Str) (b e:Int) (c:V):List (Str×V):=[("group",.int g),("kind",.str k),("begin",.int b),("end",.int e),("content",c)]
noncomputable def kindOf:Vaunid.Tok→List Nat
  | .word w=>if Vaunid.isTaken w=true then w else Vaunid.txt "name"
  | .num _ d=>if d.isSome=true then Vaunid.txt "digit" else Vaunid.txt "number"
  | .sign s=>s
noncomputable def zlu (Ca:Addr) (H:Hp) (c:V):Vaunid.Tok→Prop
  | .word w=>c = .str (S w)
  | .num v _=>∃ a,c = .ref a∧zbh Ca H a v.top (v.low:Int) (v.measure.getD [])
  | .sign s=>c = .str (S s)
noncomputable def zea (Ca Ct:Addr) (H:Hp) (a:Addr) (k:Vaunid.Token):Prop:=∃ dx c,H a=some (.ins Ct dx (zga (Vaunid.sortOf k.tok) (S (kindOf k.tok)) (k.start:Int) (k.halt_:Int) c))∧zlu Ca H c k.tok
theorem zlu.same {Ca:Addr}{H H':Hp}{c:V}{k:Vaunid.Tok} (h:zlu Ca H c k) (s:Same H H'):zlu Ca H' c k:=by
  cases k with
  | word w=>exact h
  | num v d=>obtain ⟨a,e,q⟩:=h;exact ⟨a,e,q.same s⟩
  | sign x=>exact h
theorem zea.same {Ca Ct:Addr}{H H':Hp}{a:Addr}{k:Vaunid.Token} (h:zea Ca Ct H a k) (s:Same H H'):zea Ca Ct H' a k:=by
  obtain ⟨dx,c,e,q⟩:=h
  exact ⟨dx,c,s _ _ e,q.same s⟩
theorem zoj:[V.str "fn",V.str "let",V.str "rec",V.str "if",V.str "cons",V.str "case",V.str "pair",V.str "fst",V.str "snd",V.str "fold",V.str "root",V.str "floor",V.str "rest",V.str "true",V.str "false",V.str "nil",V.str "truth",V.str "num",V.str "list",V.str "base",V.str "unit",V.str "def",V.str "fun",V.str "in",V.str "then",V.str "else",V.str "match",V.str "with",V.str "and",V.str "or",V.str "not"]=(Vaunid.taken.map S).map V.str:=by decide +kernel
theorem zsb:[V.str "(",V.str ")",V.str "+",V.str "-",V.str "*",V.str "/",V.str "^",V.str "<",V.str "="]=(Vaunid.coreSigns.map S).map V.str:=by decide +kernel
theorem in_S (l:List Nat) (L:List (List Nat)):inV (.str (S l)) ((L.map S).map V.str)=decide (l∈L):=by
  rw [zwk,List.any_map,Bool.eq_iff_iff]
  simp only [List.any_eq_true,decide_eq_true_eq,Function.comp_def,beq_iff_eq,zfh]
  constructor
  · rintro ⟨x,hx,rfl⟩;exact hx
  · intro h;exact ⟨l,h,rfl⟩
theorem zpv (w:List Nat):Vaunid.isTaken w=decide (w∈Vaunid.taken):=by
  unfold Vaunid.isTaken
  rw [Bool.eq_iff_iff]
  simp only [List.any_eq_true,decide_eq_true_eq,beq_iff_eq]
  constructor
  · rintro ⟨x,hx,rfl⟩;exact hx
  · intro h;exact ⟨w,h,rfl⟩
end M
namespace L2
theorem zqo {a b:Int}:scal (.int a) (.int b)=true:=rfl
theorem zqn {a b:PySem.Str}:scal (.str a) (.str b)=true:=rfl
theorem zqp {a b:Bool}:scal (.bl a) (.bl b)=true:=rfl
end L2
namespace L2
theorem zhg {t u:TS}{D:Ends}{σ:St}{H:Hp} (R:St→Hp→Prop) (ht : ∀ X:St→Hp→Prop,(∀ σ' H',R σ' H'→X σ' H')→t { D with nx:=X } σ H) (hc : ∀ σ' H',R σ' H'→u D σ' H'):tSeq t u D σ H:=ht _ hc
end L2
namespace M
open PySem PySem.Spec PyProof.Rows L2 TL
noncomputable def zge (H H':Hp):Prop:=∀ a C dx fs,H a=some (.ins C dx fs)→H' a=some (.ins C dx fs)
theorem Same.insts {H H':Hp} (s:Same H H'):zge H H':=fun a C dx fs e=>s _ _ e
theorem zge.trans {H H1 H2:Hp} (s:zge H H1) (r:zge H1 H2):zge H H2:=fun a C dx fs e=>r _ _ _ _ (s _ _ _ _ e)
theorem zge.lst {H:Hp}{b:Addr}{xs:List V}{o:HO} (h:H b=some (.lst xs)):zge H (upd H b o):=fun a C dx fs e=>by rw [zah (zci e h (by intro z;cases z))];exact e
theorem zbh.sameI {C:Addr}{H H':Hp}{a:Addr}{o u:Int}{m:List Nat} (h:zbh C H a o u m) (s:zge H H'):zbh C H' a o u m:=let ⟨dx,e⟩:=h;⟨dx,s _ _ _ _ e⟩
theorem zea.sameI {Ca Ct:Addr}{H H':Hp}{a:Addr}{k:Vaunid.Token} (h:zea Ca Ct H a k) (s:zge H H'):zea Ca Ct H' a k:=by
  obtain ⟨dx,c,e,q⟩:=h
  refine ⟨dx,c,s _ _ _ _ e,?_⟩
  cases hk:k.tok with
  | word w=>rw [hk] at q;exact q
  | num v d=>rw [hk] at q;obtain ⟨a,e,q⟩:=q;exact ⟨a,e,q.sameI s⟩
  | sign x=>rw [hk] at q;exact q
noncomputable abbrev zdj (Ca Ct:Addr) (H:Hp) (as:List Addr) (l:List Vaunid.Token):Prop:=Paired (fun a k=>zea Ca Ct H a k) as l
theorem zdj.sameI {Ca Ct:Addr}{H H':Hp}{as:List Addr}{l:List Vaunid.Token} (h:zdj Ca Ct H as l) (s:zge H H'):zdj Ca Ct H' as l:=Paired.mapP h fun a k z=>z.sameI s
theorem zdj.snoc {Ca Ct:Addr}{H:Hp} : ∀ {as:List Addr}{l:List Vaunid.Token}{a:Addr}{k:Vaunid.Token},zdj Ca Ct H as l→zea Ca Ct H a k→zdj Ca Ct H (as++[a]) (l++[k])
  | _,_,_,_,.nil,q => .cons q .nil
  | _,_,_,_,.cons r t,q => .cons r (zdj.snoc t q)
noncomputable def preR {A:Type} (l:List A) (r:Vaunid.Res (List A)):Vaunid.Res (List A):=match r with
  | .error e => .error e
  | .ok m => .ok (l++m)
end M
namespace L2
open PySem PySem.Spec PyProof.Rows TL
section
variable {X:Cx}{CX:CXT}{k:Nat}{E:XK}{x:Str}{p pos:Pos}{e:Expr}{es:List Expr}{t:TA}{P:Program}{w:World}{K:PySem.W.Frag}{mg:Str→Option Value}{base:Heap}
noncomputable def zp1 (P:Program) (w:World) (K:PySem.W.Frag) (mg:Str→Option Value) (base:Heap) (CX:CXT) (k i:Nat) (E:XK) (t:TA):TE:=fun σ H Q=>∃ f fd ps sp,σ[i]? = some (some (.ref f))∧FnOk P w K mg base CX k f fd ps sp∧zb4 K fd ps []∧PySem.W.keepIn K (.ref f)=true ∧
  t σ H fun vs H1=>sp vs H1 Q E
theorem zte (i:Nat) (hr:Room k X.A) (hx:zc3 CX X E) (ha:PA X (e::es) t) (hN:X.N[i]? = some x:=by rfl) (e1:X.prog=P:=by rfl) (e2:X.w=w:=by rfl) (e3:X.K=K:=by rfl) (e4:X.mg=mg:=by rfl) (e5:X.base=base:=by rfl)
    (hv:Vis X.env.scope x:=by first | exact Or.inl rfl | exact Or.inr (Or.inl rfl) | exact Or.inr (Or.inr rfl)) (hd:(x == ("__debug__":Str))=false:=by decide) (hcd:(x == ("__classdict__":Str))=false:=by decide)
    (he:starEach (e::es) X.env=(false,eval e X.env)::starEach es X.env:=by rfl) (hpl:(backTo pos (starEach es X.env)).any (·.1)=false:=by rfl) :
    PE X (.Call (.Name x p) (e::es) [] pos) (zp1 P w K mg base CX k i E t):=by
  subst e1 e2 e3 e4 e5
  exact zd4 i hr hx ha hN hv hd hcd he hpl
end
end L2
namespace M
open PySem PySem.Spec PyProof.Rows L2 TL
noncomputable abbrev Toks:=List Vaunid.Token
noncomputable def zcn (hl:Nat) (d:Nat) (ts:Toks):Vaunid.Res Vaunid.Core:=Vaunid.coreTerm hl (2 * ts.length+1) d ts
theorem zsq {hl:Nat}{w:Vaunid.Tok}{ts r:Toks} (h:Vaunid.want hl w ts = .ok r):r.length+1=ts.length:=by
  unfold Vaunid.want at h
  split at h
  · split at h
    · cases h;rfl
    · cases h
  · cases h
theorem zfz {hl:Nat}{ts r:Toks}{x:List Nat} (h:Vaunid.wantName hl ts = .ok (x,r)):r.length+1=ts.length:=by
  unfold Vaunid.wantName at h
  split at h
  · split at h
    · cases h;rfl
    · cases h
  · cases h
  · cases h
theorem zev {hl:Nat}{ts r:Toks}{x:Int} (h:Vaunid.wantDigit hl ts = .ok (x,r)):r.length+1=ts.length:=by
  unfold Vaunid.wantDigit at h
  split at h
  · cases h;rfl
  · cases h
  · cases h
inductive Kind where
  | name | part | power
  deriving DecidableEq
inductive Fm where
  | fn | rec_ | let_ | if_ | app | pair | fst | snd | cons | case | fold | plus | minus | times | over | less | equal | floor | rest | root | pow
  deriving DecidableEq
noncomputable def Fm.word:Fm→String
  | .fn=>"fn" | .rec_=>"rec" | .let_=>"let" | .if_=>"if" | .app=>"apply" | .pair=>"pair" | .fst=>"fst" | .snd=>"snd" | .cons=>"cons" | .case=>"case" | .fold=>"fold"
  | .plus=>"+" | .minus=>"-" | .times=>"*" | .over=>"/" | .less=>"<" | .equal=>"=" | .floor=>"floor" | .rest=>"rest" | .root=>"root" | .pow=>"^"
noncomputable def Fm.kinds:Fm→List Kind
  | .fn=>[.name,.part] | .rec_=>[.name,.name,.part] | .let_=>[.name,.part,.part] | .if_=>[.part,.part,.part] | .app=>[.part,.part] | .pair=>[.part,.part] | .fst=>[.part] | .snd=>[.part] | .cons=>[.part,.part]
  | .case=>[.part,.part,.name,.name,.part] | .fold=>[.part,.part,.part] | .plus=>[.part,.part] | .minus=>[.part,.part] | .times=>[.part,.part] | .over=>[.part,.part] | .less=>[.part,.part] | .equal=>[.part,.part]
  | .floor=>[.part,.part] | .rest=>[.part,.part] | .root=>[.part] | .pow=>[.part,.power]
inductive Item where
  | w (x:List Nat)
  | n (m:Int)
  | p (t:Vaunid.Term) (l:List Nat)
noncomputable def Fm.mk:Fm→List Item→Vaunid.Term
  | .fn,[.w x,.p a _] => .fn x a
  | .rec_,[.w f,.w x,.p a _] => .rec_ f x a
  | .let_,[.w x,.p a _,.p b _] => .let_ x a b
  | .if_,[.p a _,.p b _,.p c _] => .three .cond a b c
  | .app,[.p a _,.p b _] => .two .app a b
  | .pair,[.p a _,.p b _] => .two .pair a b
  | .fst,[.p a _] => .one .fst a
  | .snd,[.p a _] => .one .snd a
  | .cons,[.p a _,.p b _] => .two .cons a b
  | .case,[.p l _,.p a _,.w h,.w t,.p b _] => .case l a h t b
  | .fold,[.p a _,.p b _,.p c _] => .three .fold a b c
  | .plus,[.p a _,.p b _] => .two .plus a b
  | .minus,[.p a _,.p b _] => .two .minus a b
  | .times,[.p a _,.p b _] => .two .times a b
  | .over,[.p a _,.p b _] => .two .over a b
  | .less,[.p a _,.p b _] => .two .less a b
  | .equal,[.p a _,.p b _] => .two .equal a b
  | .floor,[.p a _,.p b _] => .two .floor a b
  | .rest,[.p a _,.p b _] => .two .rest a b
  | .root,[.p a _] => .one .root a
  | .pow,[.p a _,.n m] => .one (.pow m) a
  | _,_ => .leaf .nil
noncomputable def zck:List Item→List Nat
  | []=>[]
  | .p _ l::r=>l++zck r
  | _::r=>zck r
noncomputable def zaq (hl:Nat) (term:Toks→Vaunid.Res Vaunid.Core):List Kind→Toks→Vaunid.Res (List Item×Toks)
  | [],ts => .ok ([],ts)
  | .name::ks,ts=>match Vaunid.wantName hl ts with
    | .error e => .error e
    | .ok (x,r)=>match zaq hl term ks r with
      | .error e => .error e
      | .ok (is,q) => .ok (.w x::is,q)
  | .part::ks,ts=>match term ts with
    | .error e => .error e
    | .ok (a,pa,r)=>match zaq hl term ks r with
      | .error e => .error e
      | .ok (is,q) => .ok (.p a pa::is,q)
  | .power::ks,ts=>match Vaunid.wantDigit hl ts with
    | .error e => .error e
    | .ok (m,r)=>match zaq hl term ks r with
      | .error e => .error e
      | .ok (is,q) => .ok (.n m::is,q)
open Vaunid (word sign)
noncomputable def fmOf (k:Vaunid.Tok):Option Fm :=
  if k=word "fn" then some .fn else if k=word "rec" then some .rec_ else if k=word "let" then some .let_ else if k=word "case" then some .case else if k=sign "^" then some .pow
  else if k=word "fst" then some .fst else if k=word "snd" then some .snd else if k=word "root" then some .root
  else if k=word "pair" then some .pair else if k=word "cons" then some .cons else if k=sign "+" then some .plus else if k=sign "-" then some .minus
  else if k=sign "*" then some .times else if k=sign "/" then some .over else if k=sign "<" then some .less else if k=sign "=" then some .equal
  else if k=word "floor" then some .floor else if k=word "rest" then some .rest else if k=word "if" then some .if_ else if k=word "fold" then some .fold else none
noncomputable def zj1 (hl p:Nat) (f:Fm) (x:Vaunid.Res (List Item×Toks)):Vaunid.Res Vaunid.Core:=match x with
  | .error e => .error e
  | .ok (is,r)=>match Vaunid.want hl (sign ")") r with
    | .error e => .error e
    | .ok q => .ok (f.mk is,p::zck is,q)
noncomputable def zak (ts:Toks):Fm×Toks:=match ts with
  | []=>(.app,[])
  | k::r=>match fmOf k.tok with
    | some f=>(f,r)
    | none=>(.app,k::r)
noncomputable def zdt (hl:Nat) (term:Toks→Vaunid.Res Vaunid.Core) (p:Nat) (ts:Toks):Vaunid.Res Vaunid.Core:=zj1 hl p (zak ts).1 (zaq hl term (zak ts).1.kinds (zak ts).2)
noncomputable def cps (hl:Nat) (T:Toks→Vaunid.Res Vaunid.Core):List Kind→Toks→(List Item→Toks→Vaunid.Res Vaunid.Core)→Vaunid.Res Vaunid.Core
  | [],ts,k=>k [] ts
  | .name::ks,ts,k=>(Vaunid.wantName hl ts).bind fun y=>cps hl T ks y.2 fun is q=>k (.w y.1::is) q
  | .part::ks,ts,k=>(T ts).bind fun y=>cps hl T ks y.2.2 fun is q=>k (.p y.1 y.2.1::is) q
  | .power::ks,ts,k=>(Vaunid.wantDigit hl ts).bind fun y=>cps hl T ks y.2 fun is q=>k (.n y.1::is) q
theorem zod (hl:Nat) (T:Toks→Vaunid.Res Vaunid.Core) : ∀ (ks:List Kind) (ts:Toks) (k:List Item→Toks→Vaunid.Res Vaunid.Core),cps hl T ks ts k=(zaq hl T ks ts).bind fun y=>k y.1 y.2
  | [],_,_=>rfl
  | .name::ks,ts,k=>by
    unfold cps zaq
    cases Vaunid.wantName hl ts with
    | error e=>rfl
    | ok y =>
      refine (zod hl T ks y.2 _).trans ?_
      show _=Except.bind (match zaq hl T ks y.2 with | .error e => .error e | .ok (is,q) => .ok (Item.w y.1::is,q)) _
      cases zaq hl T ks y.2 <;> rfl
  | .part::ks,ts,k=>by
    unfold cps zaq
    cases T ts with
    | error e=>rfl
    | ok y =>
      refine (zod hl T ks y.2.2 _).trans ?_
      show _=Except.bind (match zaq hl T ks y.2.2 with | .error e => .error e | .ok (is,q) => .ok (Item.p y.1 y.2.1::is,q)) _
      cases zaq hl T ks y.2.2 <;> rfl
  | .power::ks,ts,k=>by
    unfold cps zaq
    cases Vaunid.wantDigit hl ts with
    | error e=>rfl
    | ok y =>
      refine (zod hl T ks y.2 _).trans ?_
      show _=Except.bind (match zaq hl T ks y.2 with | .error e => .error e | .ok (is,q) => .ok (Item.n y.1::is,q)) _
      cases zaq hl T ks y.2 <;> rfl
noncomputable def pl2 (l:List Nat):List (List Nat)→List Nat
  | []=>l
  | m::r=>l++pl2 m r
noncomputable def pls:List Item→List (List Nat)
  | []=>[]
  | .p _ l::r=>l::pls r
  | _::r=>pls r
noncomputable def pl1 (is:List Item):List Nat:=match pls is with
  | []=>[]
  | l::r=>pl2 l r
theorem zuu : ∀ (r:List (List Nat)) (l:List Nat),pl2 l r=l++r.flatten
  | [],l=>(List.append_nil l).symm
  | m::r,l=>congrArg (l ++ ·) (zuu r m)
theorem zno : ∀ is:List Item,(pls is).flatten=zck is
  | []=>rfl
  | .p _ l::r=>congrArg (l ++ ·) (zno r)
  | .w _::r=>zno r
  | .n _::r=>zno r
theorem zxn (is:List Item):pl1 is=zck is:=by
  rw [← zno]
  unfold pl1
  cases pls is with
  | nil=>rfl
  | cons l r=>exact zuu r l
theorem zoe (hl p:Nat) (f:Fm) (T:Toks→Vaunid.Res Vaunid.Core) (ks:List Kind) (ts:Toks):cps hl T ks ts (fun is r=>(Vaunid.want hl (sign ")") r).bind fun q => .ok (f.mk is,p::pl1 is,q))=zj1 hl p f (zaq hl T ks ts):=by
  rw [zod]
  cases zaq hl T ks ts with
  | error e=>rfl
  | ok y =>
    show (Vaunid.want hl (sign ")") y.2).bind (fun q => .ok (f.mk y.1,p::pl1 y.1,q))=match Vaunid.want hl (sign ")") y.2 with | .error e => .error e | .ok q => .ok (f.mk y.1,p::zck y.1,q)
    rw [zxn]
    cases Vaunid.want hl (sign ")") y.2 <;> rfl
theorem beg (hl p:Nat) (T:Toks→Vaunid.Res Vaunid.Core) (k:Vaunid.Token) (r:Toks) {f:Fm} (h:fmOf k.tok=some f):cps hl T f.kinds r (fun is r=>(Vaunid.want hl (sign ")") r).bind fun q => .ok (f.mk is,p::pl1 is,q))=zdt hl T p (k::r):=by
  rw [zoe]
  unfold zdt zak
  dsimp only
  rw [h]
theorem ze9 (hl n d p:Nat) (k:Vaunid.Token) (r:Toks):Vaunid.coreForm hl (n+1) d p (k::r)=zdt hl (Vaunid.coreTerm hl n d) p (k::r):=by
  unfold Vaunid.coreForm
  dsimp only
  generalize Vaunid.coreTerm hl n d=T
  by_cases g0:k.tok=word "fn"
  · rw [if_pos g0];exact beg hl p T k r (f := .fn) (by rw [g0];decide +kernel)
  rw [if_neg g0]
  by_cases g1:k.tok=word "rec"
  · rw [if_pos g1];exact beg hl p T k r (f := .rec_) (by rw [g1];decide +kernel)
  rw [if_neg g1]
  by_cases g2:k.tok=word "let"
  · rw [if_pos g2];exact beg hl p T k r (f := .let_) (by rw [g2];decide +kernel)
  rw [if_neg g2]
  by_cases g3:k.tok=word "case"
  · rw [if_pos g3];exact beg hl p T k r (f := .case) (by rw [g3];decide +kernel)
  rw [if_neg g3]
  by_cases g4:k.tok=sign "^"
  · rw [if_pos g4];exact beg hl p T k r (f := .pow) (by rw [g4];decide +kernel)
  rw [if_neg g4]
  by_cases a0:k.tok=word "fst"
  · rw [show Vaunid.formOne k.tok=some .fst by rw [a0];decide +kernel];exact beg hl p T k r (f := .fst) (by rw [a0];decide +kernel)
  by_cases a1:k.tok=word "snd"
  · rw [show Vaunid.formOne k.tok=some .snd by rw [a1];decide +kernel];exact beg hl p T k r (f := .snd) (by rw [a1];decide +kernel)
  by_cases a2:k.tok=word "root"
  · rw [show Vaunid.formOne k.tok=some .root by rw [a2];decide +kernel];exact beg hl p T k r (f := .root) (by rw [a2];decide +kernel)
  rw [show Vaunid.formOne k.tok=none by unfold Vaunid.formOne;rw [if_neg a0,if_neg a1,if_neg a2]]
  by_cases b0:k.tok=word "pair"
  · rw [show Vaunid.formTwo k.tok=some .pair by rw [b0];decide +kernel];exact beg hl p T k r (f := .pair) (by rw [b0];decide +kernel)
  by_cases b1:k.tok=word "cons"
  · rw [show Vaunid.formTwo k.tok=some .cons by rw [b1];decide +kernel];exact beg hl p T k r (f := .cons) (by rw [b1];decide +kernel)
  by_cases b2:k.tok=sign "+"
  · rw [show Vaunid.formTwo k.tok=some .plus by rw [b2];decide +kernel];exact beg hl p T k r (f := .plus) (by rw [b2];decide +kernel)
  by_cases b3:k.tok=sign "-"
  · rw [show Vaunid.formTwo k.tok=some .minus by rw [b3];decide +kernel];exact beg hl p T k r (f := .minus) (by rw [b3];decide +kernel)
  by_cases b4:k.tok=sign "*"
  · rw [show Vaunid.formTwo k.tok=some .times by rw [b4];decide +kernel];exact beg hl p T k r (f := .times) (by rw [b4];decide +kernel)
  by_cases b5:k.tok=sign "/"
  · rw [show Vaunid.formTwo k.tok=some .over by rw [b5];decide +kernel];exact beg hl p T k r (f := .over) (by rw [b5];decide +kernel)
  by_cases b6:k.tok=sign "<"
  · rw [show Vaunid.formTwo k.tok=some .less by rw [b6];decide +kernel];exact beg hl p T k r (f := .less) (by rw [b6];decide +kernel)
  by_cases b7:k.tok=sign "="
  · rw [show Vaunid.formTwo k.tok=some .equal by rw [b7];decide +kernel];exact beg hl p T k r (f := .equal) (by rw [b7];decide +kernel)
  by_cases b8:k.tok=word "floor"
  · rw [show Vaunid.formTwo k.tok=some .floor by rw [b8];decide +kernel];exact beg hl p T k r (f := .floor) (by rw [b8];decide +kernel)
  by_cases b9:k.tok=word "rest"
  · rw [show Vaunid.formTwo k.tok=some .rest by rw [b9];decide +kernel];exact beg hl p T k r (f := .rest) (by rw [b9];decide +kernel)
  rw [show Vaunid.formTwo k.tok=none by unfold Vaunid.formTwo;rw [if_neg b0,if_neg b1,if_neg b2,if_neg b3,if_neg b4,if_neg b5,if_neg b6,if_neg b7,if_neg b8,if_neg b9]]
  by_cases c0:k.tok=word "if"
  · rw [show Vaunid.formThree k.tok=some .cond by rw [c0];decide +kernel];exact beg hl p T k r (f := .if_) (by rw [c0];decide +kernel)
  by_cases c1:k.tok=word "fold"
  · rw [show Vaunid.formThree k.tok=some .fold by rw [c1];decide +kernel];exact beg hl p T k r (f := .fold) (by rw [c1];decide +kernel)
  rw [show Vaunid.formThree k.tok=none by unfold Vaunid.formThree;rw [if_neg c0,if_neg c1]]
  have h:fmOf k.tok=none:=by unfold fmOf;simp only [*,if_false]
  unfold zdt zak
  dsimp only
  rw [h]
  exact zoe hl p .app T [.part,.part] (k::r)
noncomputable def zsm (T:Toks→Vaunid.Res Vaunid.Core):Prop:=∀ r a pa q,T r = .ok (a,pa,q)→q.length<r.length
theorem zey {hl:Nat}{T:Toks→Vaunid.Res Vaunid.Core} (hT:zsm T) : ∀ (ks:List Kind) (ts:Toks) (is:List Item) (q:Toks),zaq hl T ks ts = .ok (is,q)→q.length≤ts.length
  | [],ts,is,q,h=>by
    cases h
    exact Nat.le_refl _
  | .name::ks,ts,is,q,h=>by
    unfold zaq at h
    cases h1:Vaunid.wantName hl ts with
    | error e=>rw [h1] at h;cases h
    | ok v =>
      obtain ⟨x,r⟩:=v
      rw [h1] at h
      dsimp only at h
      cases h2:zaq hl T ks r with
      | error e=>rw [h2] at h;cases h
      | ok v =>
        obtain ⟨is2,q2⟩:=v
        rw [h2] at h
        cases h
        have:=zey hT ks r is2 q h2
        have:=zfz h1
        omega
  | .part::ks,ts,is,q,h=>by
    unfold zaq at h
    cases h1:T ts with
    | error e=>rw [h1] at h;cases h
    | ok v =>
      obtain ⟨a,pa,r⟩:=v
      rw [h1] at h
      dsimp only at h
      cases h2:zaq hl T ks r with
      | error e=>rw [h2] at h;cases h
      | ok v =>
        obtain ⟨is2,q2⟩:=v
        rw [h2] at h
        cases h
        have:=zey hT ks r is2 q h2
        have:=hT _ _ _ _ h1
        omega
  | .power::ks,ts,is,q,h=>by
    unfold zaq at h
    cases h1:Vaunid.wantDigit hl ts with
    | error e=>rw [h1] at h;cases h
    | ok v =>
      obtain ⟨x,r⟩:=v
      rw [h1] at h
      dsimp only at h
      cases h2:zaq hl T ks r with
      | error e=>rw [h2] at h;cases h
      | ok v =>
        obtain ⟨is2,q2⟩:=v
        rw [h2] at h
        cases h
        have:=zey hT ks r is2 q h2
        have:=zev h1
        omega
theorem zh4 (ts:Toks):(zak ts).2.length≤ts.length:=by
  unfold zak
  cases ts with
  | nil=>exact Nat.le_refl _
  | cons k r =>
    dsimp only
    split
    · exact Nat.le_succ _
    · exact Nat.le_refl _
theorem zt1 {hl p:Nat}{T:Toks→Vaunid.Res Vaunid.Core} (hT:zsm T) {ts q:Toks}{a:Vaunid.Term}{pa:List Nat} (h:zdt hl T p ts = .ok (a,pa,q)):q.length<ts.length:=by
  unfold zdt zj1 at h
  cases h1:zaq hl T (zak ts).1.kinds (zak ts).2 with
  | error e=>rw [h1] at h;cases h
  | ok v =>
    obtain ⟨is,r⟩:=v
    rw [h1] at h
    dsimp only at h
    cases h2:Vaunid.want hl (sign ")") r with
    | error e=>rw [h2] at h;cases h
    | ok q2 =>
      rw [h2] at h
      cases h
      have:=zey hT _ _ _ _ h1
      have:=zsq h2
      have:=zh4 ts
      omega
theorem zt0 (hl n d p:Nat) : ∃ e,Vaunid.coreForm hl n d p [] = .error e:=by
  cases n with
  | zero=>exact ⟨_,rfl⟩
  | succ n =>
    unfold Vaunid.coreForm
    dsimp only
    split
    · exact ⟨_,rfl⟩
    · exact ⟨_,rfl⟩
theorem zjc (hl:Nat) : ∀ (n d:Nat),zsm (Vaunid.coreTerm hl n d)
  | 0,d,r,a,pa,q,h=>by cases h
  | 1,d,r,a,pa,q,h=>by
    unfold Vaunid.coreTerm at h
    split at h
    · cases h
    · cases r with
      | nil=>cases h
      | cons k r =>
        dsimp only at h
        split at h
        · cases h
        · split at h
          · cases h;exact Nat.lt_succ_self _
          · cases h
  | n+2,d,r,a,pa,q,h=>by
    unfold Vaunid.coreTerm at h
    split at h
    · cases h
    · cases r with
      | nil=>cases h
      | cons k r =>
        dsimp only at h
        split at h
        · cases r with
          | nil =>
            obtain ⟨e,he⟩:=zt0 hl (n+1) (d - 1) k.start
            rw [he] at h
            cases h
          | cons k2 r2 =>
            rw [ze9] at h
            have:=zt1 (zjc hl n (d - 1)) h
            rw [List.length_cons]
            omega
        · split at h
          · cases h;exact Nat.lt_succ_self _
          · cases h
theorem zc6 {hl:Nat}{T T':Toks→Vaunid.Res Vaunid.Core} (hT:zsm T) (L:Nat) (hE : ∀ r,r.length≤L→T r=T' r) : ∀ (ks:List Kind) (ts:Toks),ts.length≤L→zaq hl T ks ts=zaq hl T' ks ts
  | [],ts,_=>rfl
  | .name::ks,ts,h=>by
    unfold zaq
    cases h1:Vaunid.wantName hl ts with
    | error e=>rfl
    | ok v =>
      obtain ⟨x,r⟩:=v
      have:=zfz h1
      dsimp only
      rw [zc6 hT L hE ks r (by omega)]
  | .part::ks,ts,h=>by
    unfold zaq
    rw [← hE ts h]
    cases h1:T ts with
    | error e=>rfl
    | ok v =>
      obtain ⟨a,pa,r⟩:=v
      have:=hT _ _ _ _ h1
      dsimp only
      rw [zc6 hT L hE ks r (by omega)]
  | .power::ks,ts,h=>by
    unfold zaq
    cases h1:Vaunid.wantDigit hl ts with
    | error e=>rfl
    | ok v =>
      obtain ⟨x,r⟩:=v
      have:=zev h1
      dsimp only
      rw [zc6 hT L hE ks r (by omega)]
theorem zi0 {hl p:Nat}{T T':Toks→Vaunid.Res Vaunid.Core} (hT:zsm T) {ts:Toks} (hE : ∀ r,r.length≤ts.length→T r=T' r):zdt hl T p ts=zdt hl T' p ts:=by
  unfold zdt
  rw [zc6 hT ts.length hE _ _ (zh4 ts)]
theorem zg4 (hl:Nat) : ∀ (L:Nat) (ts:Toks) (n m d:Nat),ts.length≤L→2 * ts.length+1≤n→2 * ts.length+1≤m→Vaunid.coreTerm hl n d ts=Vaunid.coreTerm hl m d ts
  | L,[],0,_,_,_,h,_=>by omega
  | L,[],_+1,0,_,_,_,h=>by omega
  | L,[],n+1,m+1,d,_,_,_=>by
    unfold Vaunid.coreTerm
    rfl
  | 0,k::r,_,_,_,h,_,_=>by simp at h
  | L+1,k::r,n,m,d,h,hn,hm=>by
    rw [List.length_cons] at h hn hm
    obtain ⟨n,rfl⟩ : ∃ n',n=n'+2:=⟨n - 2,by omega⟩
    obtain ⟨m,rfl⟩ : ∃ m',m=m'+2:=⟨m - 2,by omega⟩
    unfold Vaunid.coreTerm
    split
    · rfl
    · dsimp only
      split
      · cases r with
        | nil =>
          unfold Vaunid.coreForm
          rfl
        | cons k2 r2 =>
          rw [ze9,ze9]
          rw [List.length_cons] at h hn hm
          exact zi0 (zjc hl n (d - 1)) fun r' hr'=>zg4 hl L r' n m (d - 1) (by rw [List.length_cons] at hr';omega) (by rw [List.length_cons] at hr';omega) (by rw [List.length_cons] at hr';omega)
      · rfl
theorem zph (hl:Nat) (ts:Toks):zcn hl 0 ts=Vaunid.fault 8 (Vaunid.placeOf hl ts):=by
  unfold zcn Vaunid.coreTerm
  rfl
theorem zsc (hl d:Nat):zcn hl (d+1) []=Vaunid.fault 6 hl:=rfl
theorem zpi {hl d:Nat}{k:Vaunid.Token}{r:Toks} (h : ¬ k.tok=sign "("):zcn hl (d+1) (k::r)=(match Vaunid.leafOf k.tok with | some l => .ok (.leaf l,[k.start],r) | none=>Vaunid.fault 6 k.start):=by
  unfold zcn Vaunid.coreTerm
  rw [if_neg (by omega)]
  dsimp only
  rw [if_neg h] <;> rfl
theorem zpj {hl d:Nat}{k:Vaunid.Token}{r:Toks} (h:k.tok=sign "("):zcn hl (d+1) (k::r)=zdt hl (zcn hl d) k.start r:=by
  unfold zcn
  rw [List.length_cons,show 2 * (r.length+1)+1=2 * r.length+2+1 by omega]
  unfold Vaunid.coreTerm
  rw [if_neg (by omega)]
  dsimp only
  rw [if_pos h,Nat.add_sub_cancel]
  cases r with
  | nil =>
    unfold Vaunid.coreForm
    dsimp only
    by_cases h0:d=0
    · subst h0;rfl
    · obtain ⟨d,rfl⟩ : ∃ d',d=d'+1:=⟨d - 1,by omega⟩
      rfl
  | cons k2 r2 =>
    rw [show 2 * (k2::r2).length+2=2 * (k2::r2).length+1+1 from rfl,ze9]
    refine zi0 (zjc hl _ d) fun r' hr'=>?_
    exact zg4 hl _ r' _ _ d (Nat.le_refl _) (by omega) (Nat.le_refl _)
theorem zma (t:List Nat):Vaunid.readCore t=(match Vaunid.allTokens true t with
    | .error e => .error e
    | .ok ts=>match zcn t.length 40 ts with
      | .error e => .error e
      | .ok (a,places,r)=>match r with
        | k::_=>Vaunid.fault 6 k.start
        | []=>if 300<places.length then Vaunid.fault 9 (places.getD 300 0) else .ok a):=by
  unfold Vaunid.readCore
  cases h1:Vaunid.allTokens true t with
  | error e=>rfl
  | ok ts =>
    show (Vaunid.coreTerm t.length (2 * ts.length+2) 40 ts >>= _)=_
    rw [zg4 t.length ts.length ts (2 * ts.length+2) (2 * ts.length+1) 40 (Nat.le_refl _) (by omega) (Nat.le_refl _)]
    show (zcn t.length 40 ts >>= _)=(match zcn t.length 40 ts with
      | .error e => .error e
      | .ok (a,places,r)=>match r with
        | k::_=>Vaunid.fault 6 k.start
        | []=>if 300<places.length then Vaunid.fault 9 (places.getD 300 0) else .ok a)
    cases h2:zcn t.length 40 ts with
    | error e=>rfl
    | ok v =>
      obtain ⟨a,places,r⟩:=v
      cases r with
      | nil=>rfl
      | cons k r=>rfl
end M
namespace PySem
namespace F
theorem zk1:Manifest.owners.lookup (String.ofList ['d', 'e', 's', 'r', 'e', 'v', 'e', 'r'].reverse)=some Manifest.sig_reversed:=by kernel_rfl
theorem slot_rvd_next:Slot "reversed" "__next__" "reversed.__next__" :=
  .of (owner:="reversed") (n:="__next__") (by rw [typeLookup_type,builtinLookup_eq_fast];kernel_rfl) (by decide +kernel) (by decide +kernel) (by decide +kernel)
    (by first | exact .inl (by decide +kernel) | exact .inr (by decide +kernel)) (by rw [isSubtype_type];kernel_rfl)
theorem entry_rvd_next:entryFor table "reversed.__next__"=some Builtin.«reversed.__next__» := entryFor_of_tree (by kernel_rfl)
theorem args_rvd_next_1 (a:Value):argsOk "reversed.__next__" ⟨[a],[]⟩:=by
  unfold argsOk;rw [signature?_of (id:="reversed.__next__") (n:=['_', '_', 't', 'x', 'e', 'n', '_', '_']) (o:=['d', 'e', 's', 'r', 'e', 'v', 'e', 'r']) (by kernel_rfl) zk1];kernel_rfl
theorem slot_rvd_iter:Slot "reversed" "__iter__" "reversed.__iter__" :=
  .of (owner:="reversed") (n:="__iter__") (by rw [typeLookup_type,builtinLookup_eq_fast];kernel_rfl) (by decide +kernel) (by decide +kernel) (by decide +kernel)
    (by first | exact .inl (by decide +kernel) | exact .inr (by decide +kernel)) (by rw [isSubtype_type];kernel_rfl)
theorem args_rvd_iter_1 (a:Value):argsOk "reversed.__iter__" ⟨[a],[]⟩:=by
  unfold argsOk;rw [signature?_of (id:="reversed.__iter__") (n:=['_', '_', 'r', 'e', 't', 'i', '_', '_']) (o:=['d', 'e', 's', 'r', 'e', 'v', 'e', 'r']) (by kernel_rfl) zk1];kernel_rfl
theorem entry_rvd_iter:entryFor table "reversed.__iter__"=some Builtin.«dict_keyiterator.__iter__» :=
  entryFor_alias (id':="dict_keyiterator.__iter__") (by kernel_rfl) (by first | rfl | decide +kernel | (unfold String.splitOn;simp +decide [String.splitOnAux])) (by decide +kernel) (by kernel_rfl)
theorem zjh:Slot "reversed" "__init__" "object.__init__" :=
  .of (owner:="object") (n:="__init__") (by rw [typeLookup_type,builtinLookup_eq_fast];kernel_rfl) (by decide +kernel) (by decide +kernel) (by decide +kernel)
    (by first | exact .inl (by decide +kernel) | exact .inr (by decide +kernel)) (by rw [isSubtype_type];kernel_rfl)
theorem called_rvd:TypeCalled "reversed" "reversed.__new__" "object.__init__" :=
  ⟨by decide +kernel,by decide +kernel,⟨_,_,mro_reversed⟩,made_reversed,by decide +kernel,sub_reversed_self,zjh⟩
theorem tuple_no_rev:typeLookup (.type "tuple") "__reversed__"=pure none:=am_miss_of_fast (by first | decide +kernel | rfl)
end F
end PySem
namespace PySem
open PyProof.Rows
noncomputable def zuq (l:Addr) (i:Int):Obj:={ cls := .type "reversed",data := .fields #[.ref l,rawInt i] }
noncomputable def Heap.IsRvd (h:Heap) (a l:Addr) (i:Int):Prop:=∃ o,h.get? a=some o∧o.cls = .type "reversed"∧o.data = .fields #[.ref l,rawInt i]
section
variable {prog:Program}{w:World}{A:Around}{E:Value→Shared→Prop}{s:Shared}
theorem Heap.IsRvd.typeIs {a l:Addr}{i:Int} (x:s.heap.IsRvd a l i):s.TypeIs (.ref a) "reversed":=let ⟨o,ho,hc,_⟩:=x;⟨o,ho,hc⟩
theorem Heap.IsRvd.at {h h':Heap}{a l:Addr}{i:Int} (x:h.IsRvd a l i) (e : ∀ o,h.get? a=some o→h'.get? a=some o):h'.IsRvd a l i:=let ⟨o,ho,r⟩:=x;⟨o,e _ ho,r⟩
theorem zh9:isSubtype (.type "tuple") (.type "dict")=pure false:=by rw [isSubtype_type];kernel_rfl
theorem zeh (t:Addr) (items:Array Value) :
    Meets (Builtin.«reversed.__new__» ⟨[.type "reversed",.ref t],[]⟩) (fun _ R s=>IsTup s.heap t items∧((items.size:Int)<2 ^ 63)∧∀ k,R (.ok (.ret (.ref s.heap.objs.size))) { s with heap:=s.heap.push (zuq t ((items.size:Int) - 1)),toks:=k }) :=
  .of_wp fun prog w A R s h=>by
    obtain ⟨ht,hz,h⟩:=h
    have hT:=ht.typeIs
    unfold Builtin.«reversed.__new__»
    refine wpAny_bind (wpAny_of_eq (newClass_reversed _) ?_)
    try dsimp only
    refine wpAny_bind (wpAny_of_eq (a:=()) (by first | rfl | kernel_rfl) ?_)
    refine wpAny_bind (wpAny_of_eq (a:=()) (by first | rfl | kernel_rfl) ?_)
    try dsimp only
    refine wpAny_bind (wpAny_specialOf hT F.tuple_no_rev ?_)
    try dsimp only
    refine wpAny_bind ?_
    show wpAny _ _ (isInstance (.ref t) (.type "dict") >>= _) _ _ _
    refine wpAny_bind (wpAny_isInstance (T:="tuple") (b:=false) hT zh9 ?_)
    show wpAny _ _ (specialOf (.ref t) "__getitem__" >>= _) _ _ _
    refine wpAny_bind (wpAny_specialOf hT slot_tuple_getitem.lookup ?_)
    refine wpAny_of_eq (a:=true) rfl ?_
    rw [if_neg (by decide)]
    refine wpAny_bind (len_tuple ht hz ?_)
    refine wpAny_bind (wpAny_of_eq (a:=some ((items.size:Nat):Int)) rfl ?_)
    dsimp only
    refine wpAny_bind ?_
    show wpAny _ _ (newObj (.type "reversed") (.fields #[Value.ref t,rawInt ((items.size:Int) - 1)])) _ _ _
    exact wpAny_newObj_type (wpAny_pure ⟨_,rfl,h _⟩)
theorem zer {t:Addr}{items:Array Value}{Q:Value→Shared→Prop} (ht:IsTup s.heap t items) (hz:(items.size:Int)<2 ^ 63)
    (h : ∀ k,Q (.ref s.heap.objs.size) { s with heap:=s.heap.push (zuq t ((items.size:Int) - 1)),toks:=k }):wpAny (model prog w) A (call (.type "reversed") [.ref t]) Q E s :=
  callType_new F.called_rvd (by decide) (F.typeCall_reversed_1 _) (F.newCall_reversed_1 _) (fun obj=>F.args_object_init_2 obj _) F.entry_reversed_new (zeh t items) ⟨ht,hz,fun k=>⟨⟨_,Heap.get?_push_size _ rfl,rfl⟩,h k⟩⟩
theorem zdg {it l:Addr}{i:Int}{Q:Value→Shared→Prop} (hit:s.heap.IsRvd it l i) (h:Q (.ref it) s):wpAny (model prog w) A (pyIter (.ref it)) Q E s:=by
  refine wpAny_pyIter_slot hit.typeIs F.slot_rvd_iter (wpAny_call_entry F.slot_rvd_iter hit.typeIs F.entry_rvd_iter ?_ (F.args_rvd_iter_1 _))
  show wpAny _ _ (ret (.ref it)) _ _ s
  exact wpAny_pure ⟨_,rfl,"reversed",_,hit.typeIs,F.slot_rvd_next.lookup,h⟩
theorem zdk {it l:Addr}{i:Nat}{items:Array Value}{x:Value}{Q:Option Value→Shared→Prop} (hit:s.heap.IsRvd it l (i:Int)) (hl:IsTup s.heap l items) (hne:l≠it) (hz:(items.size:Int)<2 ^ 63) (hx:items[i]? = some x)
    (hQ : ∀ h' k,h'.IsRvd it l ((i:Int) - 1)→Heap.SameBut it s.heap h'→Q (some x) { s with heap:=h',toks:=k }):wpAny (model prog w) A (pyNext (.ref it)) Q E s:=by
  obtain ⟨o,ho,hc,hd⟩:=id hit
  have hlt:i<items.size:=(Array.getElem?_eq_some_iff.mp hx).1
  unfold pyNext
  refine wpAny_bind (wpAny_attempt (wpAny_callSpecial?_slot (name:=Str.ofString "__next__") hit.typeIs F.slot_rvd_next
    (wpAny_call_entry F.slot_rvd_next hit.typeIs F.entry_rvd_next ?_ (F.args_rvd_next_1 _))))
  unfold Builtin.«reversed.__next__»
  refine wpAny_bind (wpAny_of_eq (a:=(Value.ref it,[])) rfl ?_)
  try dsimp only
  refine wpAny_bind (wpAny_field ho hd (x := .ref l) rfl ?_)
  refine wpAny_bind (wpAny_field ho hd (x:=rawInt (i:Int)) rfl ?_)
  show wpAny _ _ (if (i:Int)<0 then _ else _) _ _ s
  rw [if_neg (by omega)]
  refine wpAny_bind (wpAny_specialOf hl.typeIs slot_tuple_getitem.lookup ?_)
  rw [if_neg (by decide)]
  refine wpAny_bind (wpAny_mkInt ?_)
  refine wpAny_bind (wpAny_attempt (getItem_tuple (j:=i) (x:=x) hl (by omega) (by omega) (by unfold seqIndex?;simp;omega) hx ?_))
  refine wpAny_bind (wpAny_field (s:={ s with toks:=s.toks+1 }) ho hd (x:=rawInt (i:Int)) rfl ?_)
  refine wpAny_bind (wpAny_setField (s:={ s with toks:=s.toks+1 }) ho hd (by simp) ?_)
  refine wpAny_pure ⟨x,rfl,wpAny_pure (hQ _ _ ?_ (Heap.SameBut.update ..))⟩
  exact ⟨_,Heap.get?_update_self _ ho (Obj.isFreed_of_fields (Obj.data_mapFields hd _)),(Obj.cls_mapFields ..).trans hc,by
    rw [Obj.data_mapFields hd];simp⟩
theorem zd7 {it l:Addr}{Q:Option Value→Shared→Prop} (hh:A.handled=none) (hit:s.heap.IsRvd it l (-1))
    (hQ : ∀ h',Heap.ExtBut it s.heap h'→Q none { s with heap:=h' }):wpAny (model prog w) A (pyNext (.ref it)) Q E s:=by
  obtain ⟨o,ho,hc,hd⟩:=id hit
  unfold pyNext
  refine wpAny_bind (wpAny_attempt (wpAny_callSpecial?_slot (name:=Str.ofString "__next__") hit.typeIs F.slot_rvd_next
    (wpAny_call_entry F.slot_rvd_next hit.typeIs F.entry_rvd_next ?_ (F.args_rvd_next_1 _))))
  unfold Builtin.«reversed.__next__»
  refine wpAny_bind (wpAny_of_eq (a:=(Value.ref it,[])) rfl ?_)
  try dsimp only
  refine wpAny_bind (wpAny_field ho hd (x := .ref l) rfl ?_)
  refine wpAny_bind (wpAny_field ho hd (x:=rawInt (-1)) rfl ?_)
  show wpAny _ _ (if (-1:Int)<0 then _ else _) _ _ s
  rw [if_pos (by decide)]
  refine wpAny_bind (wpAny_rule ?_)
  refine wpAny_bind ?_
  show wpAny _ _ (setField (.ref it) 1 (rawInt (-1)) >>= _) _ _ _
  refine wpAny_bind (wpAny_setField ho hd (by simp) ?_)
  have ho2:=Heap.get?_update_self (Obj.mapFields (·.setIfInBounds 1 (rawInt (-1)))) ho (Obj.isFreed_of_fields (Obj.data_mapFields hd _))
  have hd2:(Obj.mapFields (·.setIfInBounds 1 (rawInt (-1))) o).data = .fields #[Value.ref l,rawInt (-1)]:=by rw [Obj.data_mapFields hd];simp
  have sb2:Heap.SameBut it s.heap (s.heap.update it (Obj.mapFields (·.setIfInBounds 1 (rawInt (-1))))):=Heap.SameBut.update ..
  generalize s.heap.update it (Obj.mapFields (·.setIfInBounds 1 (rawInt (-1))))=h2 at ho2 sb2 ⊢
  refine wpAny_setField (s:={ s with heap:=h2 }) ho2 hd2 (by simp) ?_
  have sb3:Heap.SameBut it h2 (h2.update it (Obj.mapFields (·.setIfInBounds 0 .none))):=Heap.SameBut.update ..
  show wpAny _ _ (Builtin.SmallTypes.stopIteration >>= _) _ _ { s with heap:=h2.update it (Obj.mapFields (·.setIfInBounds 0 .none)) }
  generalize h2.update it (Obj.mapFields (·.setIfInBounds 0 .none))=h3 at sb3 ⊢
  refine wpAny_bind ?_
  show wpAny _ _ (newExc (.type "StopIteration") [] >>= _) _ _ _
  refine wpAny_bind ?_
  simp only [newExc,newTuple]
  refine wpAny_bind (wpAny_newObj_type ?_ (by size_fits))
  refine wpAny_bind (m:=firstArgMember _ _) (wpAny_of_eq (a:=Value.none) (by first | rfl | (simp only [firstArgMember];rfl)) ?_)
  refine wpAny_newObj_type ?_ (by size_fits)
  simp only [raiseNew]
  refine wpAny_bind (wpAny_handled ?_)
  first | rw [show A.in1.handled=none from hh] | rw [hh]
  refine wpAny_bind (wpAny_pure (wpAny_throw ?_))
  refine wpAny_bind (wpAny_isInstance (T:="StopIteration") (b:=true) ⟨_,Heap.get?_push_size _ rfl,rfl⟩ isSubtype_stop ?_)
  exact wpAny_pure (hQ _ ((((sb2.trans sb3).extBut).push _).push _))
end
end PySem
namespace L2
open PySem PySem.Spec PyProof.Rows TL
noncomputable def Itw (K:PySem.W.Frag) (a:Addr) (n:Nat):It :=
  ⟨fun i H=>i<n∧∃ (xs:List V) (x:V),SqT K H a xs∧xs.length=n∧xs[n - 1 - i]? = some x,fun i H x H'=>H'=H∧∀ xs,SqT K H a xs→xs[n - 1 - i]? = some x,fun i _=>n≤i⟩
theorem zpt {P:Program}{w:World}{K:PySem.W.Frag}{tg:Expr} (a it:Addr) (n:Nat):Turn P w K tg (Itw K a n) [it] it (fun i h=>i≤n∧h.IsRvd it a ((n:Int) - 1 - (i:Nat))) where
  mem:=by simp
  obj:=fun i h st b hb=>by
    have e:b=it:=by simpa using hb
    subst e
    obtain ⟨_,o,e,c,d⟩:=st
    exact ⟨o,e,fun v z=>by rw [d] at z;cases z⟩
  keep:=fun i h h' st k=>⟨st.1,st.2.at fun o e=>k it (by simp) o e⟩
  item:=by
    intro X hP hw hK hc i pins s σ H E I hf st hg
    subst hP hw hK
    obtain ⟨hin,xs,x,hq,hxl,hx⟩:=hg
    obtain ⟨its,rv,p,hz⟩:=I.tuple hq
    obtain ⟨u,hu,ru⟩:=rv.get hx
    obtain ⟨f0,f1,f2,f3,f4,f5⟩:=hf it (by simp)
    obtain ⟨_,hit⟩:=st
    have e1:(n:Int) - 1 - ((i:Nat):Int)=((n - 1 - i:Nat):Int):=by omega
    rw [e1] at hit
    have hl:=rv.length
    have hn:=ze6
    have nla:a≠it:=fun z=>by
      obtain ⟨o,e,c,d⟩:=hit
      obtain ⟨ob,e2,c2,nn,d2⟩:=p
      rw [z,e] at e2
      cases e2
      rw [d] at d2
      cases d2
    refine zdk hit p nla (by rw [List.size_toArray];omega) (x:=u) (by simpa using hu) fun h' k st' sb=>?_
    have e2:((n - 1 - i:Nat):Int) - 1=(n:Int) - 1 - ((i+1:Nat):Int):=by omega
    rw [e2] at st'
    have I1:Inv X pins σ H { s with heap:=h',toks:=k }:=I.turned (t':=k) (fun b o hb e=>(sb.2 b hb).trans e) f0 f1 f3 f4 f5
    obtain ⟨o,e,c,d⟩:=id st'
    exact ⟨u,rfl,zrv (s:={ s with heap:=h',toks:=k }) e c d (by decide) ⟨x,H,I1,ru,⟨rfl,fun ys hy=>by rw [I.tuple_inj hy hq];exact hx⟩,⟨hin,st'⟩,fun b hb=>(hf b hb).1⟩⟩
  done:=by
    intro X hP hw hK hc i pins s σ H E I hf st hg
    subst hP hw hK
    obtain ⟨f0,f1,f2,f3,f4,f5⟩:=hf it (by simp)
    obtain ⟨hin,hit⟩:=st
    have hge:n≤i:=hg
    have e1:(n:Int) - 1 - ((i:Nat):Int) = -1:=by omega
    rw [e1] at hit
    exact zd7 (I.ok.hd hc) hit fun h' eb=>⟨rfl,I.turned (t':=s.toks) (fun b o hb e=>eb b o hb e) f0 f1 f3 f4 f5⟩
  self:=fun A i s Q E st h=>zdg st.2 h
noncomputable def zwn (K:PySem.W.Frag) (ta:TA):TI:=fun σ H R=>ta σ H fun vs H1=>∃ (a:Addr) (xs:List V),vs=[.ref a]∧SqT K H1 a xs∧R (Itw K a xs.length) H1
theorem zky {X:Cx}{tg:Expr}{e:Expr}{ta:TA}{p pos:Pos} (hg:Gl X "reversed") (hm:X.mg "reversed"=none) (ha:PA X [e] ta) (hs:starEach [e] X.env=[(false,eval e X.env)]:=by rfl):PI X tg (.Call (.Name "reversed" p) [e] [] pos) (zwn X.K ta):=by
  intro pins s σ H R I h
  refine Call_ (ziq I hg hm zec (PyProof.Rows.callWith_type1 (thn (ha pos pins s σ H _ I h) fun us s1 ⟨vs,H1,I1,r1,q1⟩=>?_) hs rfl))
  obtain ⟨a,xs,e,hq,q⟩:=q1
  subst e
  cases r1 with
  | cons r rr =>
    cases rr
    cases r
    obtain ⟨its,rv,p',hz⟩:=I1.tuple hq
    have hl:=rv.length
    have hn:=ze6
    have e1:((its.toArray.size:Nat):Int) - 1=(xs.length:Int) - 1 - ((0:Nat):Int):=by simp only [List.size_toArray];omega
    refine zer p' (by rw [List.size_toArray];omega) fun k=>zdg (l:=a) (i:=((its.toArray.size:Nat):Int) - 1) ⟨_,Heap.get?_push_size _ rfl,rfl,rfl⟩ ?_
    refine znq (tk:=k) I1 _ (zpt a _ xs.length) ⟨Nat.zero_le _,?_⟩ q
    rw [← e1]
    exact ⟨_,Heap.get?_push_size _ rfl,rfl,rfl⟩
theorem zlf {K:PySem.W.Frag}{a:Addr}{g:TG}{tb:TS}{D:Ends}{σ:St}{H1:Hp} (xs:List V) (Pv:Nat→St→Hp→Prop) (h0:Pv 0 σ H1) (hl : ∀ i σ H,i≤xs.length→Pv i σ H→SqL K H a xs)
    (hs : ∀ i x σ H,xs.reverse[i]? = some x→Pv i σ H→g x σ H fun σ2 H2=>tb { D with nx:=Pv (i+1),ct:=Pv (i+1),bk:=D.nx } σ2 H2) (hd : ∀ σ H,Pv xs.length σ H→D.nx σ H):zsp g tb D σ (Itv K a xs.length) H1:=by
  refine ⟨fun i m σ H=>m=xs.length - i∧i≤xs.length∧Pv i σ H,⟨xs.length,by simp,Nat.zero_le _,h0⟩,?_⟩
  rintro i m σ H ⟨rfl,hi,p⟩
  have q:=hl i σ H hi p
  by_cases hlt:i<xs.length
  · have hx:xs[xs.length - 1 - i]? = some xs[xs.length - 1 - i]:=List.getElem?_eq_getElem (by omega)
    refine .inr ⟨⟨hlt,xs,_,q,hx⟩,Pv (i+1),fun σ' H' p'=>⟨xs.length - (i+1),by omega,rfl,hlt,p'⟩,fun x H' y=>?_⟩
    obtain ⟨e,y⟩:=y
    subst e
    refine hs i x σ _ ?_ p
    rw [List.getElem?_reverse hlt]
    exact y xs q
  · have e:i=xs.length:=by omega
    subst e
    exact .inl ⟨Nat.le_refl _,hd σ H p⟩
theorem zo9 {K:PySem.W.Frag}{a:Addr}{g:TG}{tb:TS}{D:Ends}{σ:St}{H1:Hp} (xs:List V) (Pv:Nat→St→Hp→Prop) (h0:Pv 0 σ H1) (hl : ∀ i σ H,i≤xs.length→Pv i σ H→SqT K H a xs)
    (hs : ∀ i x σ H,xs.reverse[i]? = some x→Pv i σ H→g x σ H fun σ2 H2=>tb { D with nx:=Pv (i+1),ct:=Pv (i+1),bk:=D.nx } σ2 H2) (hd : ∀ σ H,Pv xs.length σ H→D.nx σ H):zsp g tb D σ (Itw K a xs.length) H1:=by
  refine ⟨fun i m σ H=>m=xs.length - i∧i≤xs.length∧Pv i σ H,⟨xs.length,by simp,Nat.zero_le _,h0⟩,?_⟩
  rintro i m σ H ⟨rfl,hi,p⟩
  have q:=hl i σ H hi p
  by_cases hlt:i<xs.length
  · have hx:xs[xs.length - 1 - i]? = some xs[xs.length - 1 - i]:=List.getElem?_eq_getElem (by omega)
    refine .inr ⟨⟨hlt,xs,_,q,rfl,hx⟩,Pv (i+1),fun σ' H' p'=>⟨xs.length - (i+1),by omega,rfl,hlt,p'⟩,fun x H' y=>?_⟩
    obtain ⟨e,y⟩:=y
    subst e
    refine hs i x σ _ ?_ p
    rw [List.getElem?_reverse hlt]
    exact y xs q
  · have e:i=xs.length:=by omega
    subst e
    exact .inl ⟨Nat.le_refl _,hd σ H p⟩
theorem zpa {K:PySem.W.Frag}{a:Addr}{g:TG}{tb:TS}{D:Ends}{σ:St}{H1:Hp} (xs:List V) (Pv:Nat→St→Hp→Prop) (h0:Pv 0 σ H1) (hl : ∀ i σ H,i≤xs.length→Pv i σ H→SqL K H a xs)
    (hs : ∀ i x σ H (T:Addr),xs[i]? = some x→Pv i σ H→H T=none→g (.ref T) σ (upd H T (.tup [.int (i:Nat),x])) fun σ2 H2=>tb { D with nx:=Pv (i+1),ct:=Pv (i+1),bk:=D.nx } σ2 H2) (hd : ∀ σ H,Pv xs.length σ H→D.nx σ H):zsp g tb D σ (Ite K a) H1:=by
  refine ⟨fun i m σ H=>m=xs.length - i∧i≤xs.length∧Pv i σ H,⟨xs.length,by simp,Nat.zero_le _,h0⟩,?_⟩
  rintro i m σ H ⟨rfl,hi,p⟩
  have q:=hl i σ H hi p
  by_cases hlt:i<xs.length
  · have hx:xs[i]? = some xs[i]:=List.getElem?_eq_getElem hlt
    refine .inr ⟨⟨xs,_,q,hx⟩,Pv (i+1),fun σ' H' p'=>⟨xs.length - (i+1),by omega,rfl,hlt,p'⟩,fun v H' y=>?_⟩
    obtain ⟨T,x,rfl,hT,rfl,hy⟩:=y
    exact hs i x σ H T (hy xs q) p hT
  · have e:i=xs.length:=by omega
    subst e
    exact .inl ⟨⟨xs,q,Nat.le_refl _⟩,hd σ H p⟩
end L2
namespace L2
open PySem PySem.Spec PyProof.Rows TL
noncomputable def znd (w:World) (p:Str×V) (e:DictEntry):Prop:=e.hash=PyData.keyHash w.params p.1∧(∃ t,e.key = .str p.1 t)∧RelV p.2 e.val
structure MDict (w:World) (K:PySem.W.Frag) (a:Addr) (tab:List (Str×V)):Prop where
  ex : ∃ (es:Array DictEntry) (ep:Nat),K.lookup a=some { cls := .type "dict",data := .dict es ep }∧Paired (znd w) tab es.toList
  nd:(tab.map (·.1)).Nodup
  ns:(a == sysModules)=false
noncomputable def tkv (tab:List (Str×V)):List (Key×V):=tab.map fun p=>(Sum.inr p.1,p.2)
noncomputable def zdh (tab:List (Str×V)) (x:Str):Option V:=(tab.find? fun p=>decide (p.1=x)).map (·.2)
theorem zjb (x:Str) : ∀ tab:List (Str×V),valV (tkv tab) (Sum.inr x)=zdh tab x
  | []=>rfl
  | p::r=>by
    have ih:=zjb x r
    show valV ((Sum.inr p.1,p.2)::tkv r) _=_
    unfold zdh
    by_cases h:p.1=x
    · rw [zgh (by rw [h]),List.find?_cons]
      simp [h]
    · rw [zgi (fun e=>h (Sum.inr.inj e)),List.find?_cons,decide_eq_false h]
      exact ih
theorem zi3 {P:Program}{w:World} : ∀ {tab:List (Str×V)}{es:List DictEntry},Paired (znd w) tab es→∃ vs:List (Key×Value),KV (tkv tab) vs∧Pairs (zba P w) es vs∧(∀ e∈es,∃ k,(zba P w).is k e.key=true∧e.hash=(zba P w).hash k)∧vs.map (·.1)=(tkv tab).map (·.1)
  | _,_,.nil=>⟨[],.nil,.nil,fun e he=>by simp at he,rfl⟩
  | p::tab,e::es,.cons ⟨h1,⟨t,h2⟩,h3⟩ r=>by
    obtain ⟨vs,k1,k2,k3,k4⟩:=zi3 (P:=P) r
    have hk:(zba P w).is (Sum.inr p.1) e.key=true:=by rw [h2];exact zhn P w p.1 t
    refine ⟨(Sum.inr p.1,e.val)::vs,.cons ⟨rfl,h3⟩ k1,.cons hk rfl k2,fun e' he'=>?_,?_⟩
    · rcases List.mem_cons.mp he' with z | z
      · subst z
        exact ⟨Sum.inr p.1,hk,h1⟩
      · exact k3 e' z
    · show Sum.inr p.1::vs.map (·.1)=Sum.inr p.1::(tkv tab).map (·.1)
      rw [k4]
theorem zk3 : ∀ {l:List Str},l.Nodup→(l.map fun x=>(Sum.inr x:Key)).Nodup
  | [],_ => .nil
  | x::r,h=>by
    obtain ⟨h1,h2⟩:=List.nodup_cons.mp h
    refine List.nodup_cons.mpr ⟨fun m=>?_,zk3 h2⟩
    obtain ⟨y,hy,e⟩:=List.mem_map.mp m
    exact h1 (Sum.inr.inj e ▸ hy)
theorem MDict.dictOf {P:Program}{w:World}{K:PySem.W.Frag}{a:Addr}{tab:List (Str×V)} (m:MDict w K a tab) {h:Heap} (X:K.In h) : ∃ vs:List (Key×Value),KV (tkv tab) vs∧h.DictOf (zba P w) a vs:=by
  obtain ⟨es,ep,lk,pr⟩:=m.ex
  obtain ⟨vs,k1,k2,k3,k4⟩:=zi3 (P:=P) pr
  refine ⟨vs,k1,_,es,ep,X _ _ lk,⟨rfl,rfl,rfl⟩,rfl,fun e he=>k3 e (Array.mem_toList_iff.mpr he),k2,?_⟩
  rw [k4]
  unfold tkv
  rw [List.map_map]
  have:=m.nd
  have e:((·.1) ∘ fun (p:Str×V)=>((Sum.inr p.1:Key),p.2))=(fun x=>(Sum.inr x:Key)) ∘ (·.1):=rfl
  rw [e,← List.map_map]
  exact zk3 this
section
variable {X:Cx}{o i e f:Expr}{pos pos' apos cpos:Pos}{td ty tx:TE}
noncomputable def zkf (w:World) (K:PySem.W.Frag) (td ty:TE):TE:=fun σ H Q=>td σ H fun x H1=>ty σ H1 fun y H2=>∃ a tab z v,x = .ref a∧y = .str z∧MDict w K a tab∧zdh tab z=some v∧Q v H2
noncomputable def zvg (w:World) (K:PySem.W.Frag) (ty td:TE):TE:=fun σ H Q=>ty σ H fun y H1=>td σ H1 fun x H2=>∃ a tab z,x = .ref a∧y = .str z∧MDict w K a tab∧Q (.bl (zdh tab z).isSome) H2
noncomputable def zl2 (w:World) (K:PySem.W.Frag) (td ty tx:TE):TE:=fun σ H Q=>td σ H fun x H1=>∃ a tab,x = .ref a∧MDict w K a tab∧ty σ H1 fun y H2=>tx σ H2 fun d H3=>∃ z,y = .str z∧Q ((zdh tab z).getD d) H3
theorem ztc (ho:PE X o td) (hi:PE X i ty) (hs:NoSl i:=by intro _ _;rfl):PE X (.Subscript o i pos) (zkf X.w X.K td ty):=by
  intro pins s σ H Q I h
  refine zvi PySem.F.slot_dict_getitem.lookup hs (thn (ho pins s σ H _ I h) fun u s1 ⟨x,H1,I1,rx,q1⟩=>thn (hi pins s1 σ H1 _ I1 q1) fun iv s2 ⟨y,H2,I2,ry,a,tab,z,v,ex,ey,md,hv,q2⟩=>?_)
  subst ex ey
  obtain rfl:u=Value.ref a:=rx
  obtain ⟨vs,rel,dd⟩:=md.dictOf (P:=X.prog) I2.kIn
  refine ⟨dd.typeIs,?_⟩
  obtain ⟨w',hw,rw'⟩:=RelO.some_of (v:=v) (o:=valueAt vs (Sum.inr z)) (by rw [← hv,← zjb];exact rel.val _)
  exact wpAny_getItem_of (zrm (k:=Sum.inr z) ry) dd.mapOf hw ⟨v,H2,I2.tok _,rw',q2⟩
theorem zv3 (hi:PE X i ty) (ho:PE X o td):PC X .In i o (zvg X.w X.K ty td):=by
  intro pins s σ H Q I h
  refine thn (hi pins s σ H _ I h) fun iv s1 ⟨y,H1,I1,ry,q1⟩=>thn (ho pins s1 σ H1 _ I1 q1) fun u s2 ⟨x,H2,I2,rx,a,tab,z,ex,ey,md,q2⟩=>?_
  subst ex ey
  obtain rfl:u=Value.ref a:=rx
  obtain ⟨vs,rel,dd⟩:=md.dictOf (P:=X.prog) I2.kIn
  refine wpAny_in_of (zrm (k:=Sum.inr z) ry) md.ns dd.mapOf ?_
  rw [← (rel.val (Sum.inr z)).isSome_eq,zjb]
  exact ⟨.bl (zdh tab z).isSome,H2,I2.tok _,rfl,q2⟩
theorem zvv (hi:PE X i ty) (ho:PE X o td) (h1:behindInMarks .In o=false:=by rfl):PT X (.Compare i [.In] [o] pos) (tB (zvg X.w X.K ty td)):=zus (zv3 hi ho) h1
theorem zq2 (ho:PE X o td) (he:PE X e ty) (hf:PE X f tx) (m:M2 X o "get" apos e f cpos):PE X (.Call (.Attribute o "get" apos) [e,f] [] cpos) (zl2 X.w X.K td ty tx):=by
  intro pins s σ H Q I h
  refine wpAny_Call_method m.base m.few m.line PySem.F.plainAttrs_dict PySem.F.slot_dict_get PySem.F.type_dict_get (thn (ho pins s σ H _ I h) fun u s1 ⟨x,H1,I1,rx,a,tab,ex,md,q1⟩=>?_)
  subst ex
  obtain rfl:u=Value.ref a:=rx
  obtain ⟨vs,rel,dd⟩:=md.dictOf (P:=X.prog) I1.kIn
  refine ⟨dd.typeIs,fun b q=>?_,?_⟩
  · cases q
    obtain ⟨ob,_,_,h1,h2,_⟩:=dd
    exact ⟨ob,h1,h2.2.1⟩
  · rw [m.trees]
    refine Calls.callWith_builtin rfl (Calls.evalArgs_plain (Calls.spliced_cons (thn (he pins s1 σ H1 _ I1 q1) fun iv s2 ⟨y,H2,I2,ry,q2⟩=>Calls.spliced_cons (thn (hf pins s2 σ H2 _ I2 q2) fun fv s3 ⟨d,H3,I3,rd,z,ey,q3⟩=>Calls.spliced_nil ?_))))
    subst ey
    obtain ⟨vs,rel,dd⟩:=md.dictOf (P:=X.prog) I3.kIn
    refine call_meetsIn PySem.F.slot_dict_get dd.typeIs PySem.F.entry_dict_get (PySem.F.args_dict_get_3 _ _ _) (meets_dict_get_default (zba X.prog X.w) a (zrm (k:=Sum.inr z) ry) md.ns fv) ⟨_,dd.mapOf,⟨_,H3,I3.tok _,?_,q3⟩⟩
    rw [← zjb]
    exact (rel.val (Sum.inr z)).getD rd
end
end L2
namespace M
open PySem PySem.Spec PyProof.Rows L2 TL
inductive Tr where
  | mk (form:List Nat) (words:List (List Nat)) (b e:Nat) (parts:List Tr)
noncomputable def Tr.form:Tr→List Nat
  | .mk f _ _ _ _=>f
noncomputable def Tr.words:Tr→List (List Nat)
  | .mk _ w _ _ _=>w
noncomputable def Tr.b:Tr→Nat
  | .mk _ _ b _ _=>b
noncomputable def Tr.e:Tr→Nat
  | .mk _ _ _ e _=>e
noncomputable def Tr.parts:Tr→List Tr
  | .mk _ _ _ _ p=>p
noncomputable def zcb (f:Str) (w p:Addr) (b e:Int):List (Str×V):=[("form",.str f),("words",.ref w),("parts",.ref p),("begin",.int b),("end",.int e)]
mutual
inductive TreeAt (Cn:Addr) (H:Hp):Addr→Tr→List Addr→Prop
  | mk {a dx w p:Addr}{f:List Nat}{ws:List (List Nat)}{b e:Nat}{as:List Addr}{ps:List Tr}{F:List Addr} :
      H a=some (.ins Cn dx (zcb (S f) w p (b:Int) (e:Int)))→H w=some (.lst ((ws.map S).map V.str))→H p=some (.lst (as.map V.ref))→TreesAt Cn H as ps F→TreeAt Cn H a (.mk f ws b e ps) (a::w::p::F)
inductive TreesAt (Cn:Addr) (H:Hp):List Addr→List Tr→List Addr→Prop
  | nil:TreesAt Cn H [] [] []
  | cons {a:Addr}{t:Tr}{F G:List Addr}{as:List Addr}{ts:List Tr}:TreeAt Cn H a t F→TreesAt Cn H as ts G→TreesAt Cn H (a::as) (t::ts) (F++G)
end
mutual
theorem TreeAt.keep {Cn:Addr}{H H':Hp} : ∀ {a:Addr}{t:Tr}{F:List Addr},TreeAt Cn H a t F→(∀ b∈F,∀ o,H b=some o→H' b=some o)→TreeAt Cn H' a t F
  | _,_,_,.mk h1 h2 h3 h4,k => .mk (k _ (by simp) _ h1) (k _ (by simp) _ h2) (k _ (by simp) _ h3) (TreesAt.keep h4 fun b hb=>k b (by simp [hb]))
theorem TreesAt.keep {Cn:Addr}{H H':Hp} : ∀ {as:List Addr}{ts:List Tr}{F:List Addr},TreesAt Cn H as ts F→(∀ b∈F,∀ o,H b=some o→H' b=some o)→TreesAt Cn H' as ts F
  | _,_,_,.nil,_ => .nil
  | _,_,_,.cons h1 h2,k => .cons (TreeAt.keep h1 fun b hb=>k b (List.mem_append_left _ hb)) (TreesAt.keep h2 fun b hb=>k b (List.mem_append_right _ hb))
end
mutual
theorem TreeAt.here {Cn:Addr}{H:Hp} : ∀ {a:Addr}{t:Tr}{F:List Addr},TreeAt Cn H a t F→∀ b∈F,∃ o,H b=some o
  | _,_,_,.mk h1 h2 h3 h4,b,hb=>by
    rcases List.mem_cons.mp hb with e | hb
    · exact ⟨_,e ▸ h1⟩
    · rcases List.mem_cons.mp hb with e | hb
      · exact ⟨_,e ▸ h2⟩
      · rcases List.mem_cons.mp hb with e | hb
        · exact ⟨_,e ▸ h3⟩
        · exact TreesAt.here h4 b hb
theorem TreesAt.here {Cn:Addr}{H:Hp} : ∀ {as:List Addr}{ts:List Tr}{F:List Addr},TreesAt Cn H as ts F→∀ b∈F,∃ o,H b=some o
  | _,_,_,.nil,b,hb=>by simp at hb
  | _,_,_,.cons h1 h2,b,hb=>by
    rcases List.mem_append.mp hb with q | q
    · exact TreeAt.here h1 b q
    · exact TreesAt.here h2 b q
end
theorem TreeAt.same {Cn:Addr}{H H':Hp}{a:Addr}{t:Tr}{F:List Addr} (h:TreeAt Cn H a t F) (s:Same H H'):TreeAt Cn H' a t F:=h.keep fun b _ o e=>s b o e
theorem TreesAt.snoc {Cn:Addr}{H:Hp} : ∀ {as:List Addr}{ts:List Tr}{F:List Addr}{a:Addr}{t:Tr}{G:List Addr},TreesAt Cn H as ts F→TreeAt Cn H a t G→TreesAt Cn H (as++[a]) (ts++[t]) (F++G)
  | _,_,_,_,_,G,.nil,h=>by
    have:=TreesAt.cons h .nil
    rw [List.append_nil] at this
    exact this
  | _,_,_,_,_,_,.cons h1 h2,h=>by
    have:=TreesAt.cons h1 (TreesAt.snoc h2 h)
    rw [← List.append_assoc] at this
    exact this
theorem TreesAt.length {Cn:Addr}{H:Hp} : ∀ {as:List Addr}{ts:List Tr}{F:List Addr},TreesAt Cn H as ts F→as.length=ts.length
  | _,_,_,.nil=>rfl
  | _,_,_,.cons _ h=>by rw [List.length_cons,List.length_cons,TreesAt.length h]
noncomputable def zdb:Vaunid.Leaf→String
  | .name _=>"name"
  | .num _=>"number"
  | .truth b=>if b=true then "true" else "false"
  | .nil=>"nil"
noncomputable def zcc:Vaunid.Leaf→List (List Nat)
  | .name x=>[x]
  | .num v=>[Vaunid.shownLit v]
  | _=>[]
noncomputable def zgz:Vaunid.Two→Fm
  | .app => .app | .pair => .pair | .cons => .cons | .plus => .plus | .minus => .minus | .times => .times | .over => .over | .less => .less | .equal => .equal | .floor => .floor | .rest => .rest
noncomputable def zhm:Vaunid.One→Fm
  | .fst => .fst | .snd => .snd | .root => .root | .pow _ => .pow
noncomputable def zmu:Vaunid.Term→List Nat
  | .leaf l=>Vaunid.txt (zdb l)
  | .one o _=>Vaunid.txt (zhm o).word
  | .two o _ _=>Vaunid.txt (zgz o).word
  | .three o _ _ _=>Vaunid.txt (match o with | .cond=>Fm.if_.word | .fold=>Fm.fold.word)
  | .fn _ _=>Vaunid.txt Fm.fn.word
  | .rec_ _ _ _=>Vaunid.txt Fm.rec_.word
  | .let_ _ _ _=>Vaunid.txt Fm.let_.word
  | .case _ _ _ _ _=>Vaunid.txt Fm.case.word
noncomputable def zar:Vaunid.Term→List (List Nat)
  | .leaf l=>zcc l
  | .one (.pow n) _=>[Vaunid.decimalInt n]
  | .fn x _=>[x]
  | .rec_ f x _=>[f,x]
  | .let_ x _ _=>[x]
  | .case _ _ h t _=>[h,t]
  | _=>[]
noncomputable def za2:Vaunid.Term→List Vaunid.Term
  | .leaf _=>[]
  | .one _ a=>[a]
  | .two _ a b=>[a,b]
  | .three _ a b c=>[a,b,c]
  | .fn _ a=>[a]
  | .rec_ _ _ a=>[a]
  | .let_ _ a b=>[a,b]
  | .case l a _ _ b=>[l,a,b]
mutual
inductive Rep:Vaunid.Term→Tr→Prop
  | mk {t:Vaunid.Term}{b e:Nat}{ps:List Tr}:Reps (za2 t) ps→Rep t (.mk (zmu t) (zar t) b e ps)
inductive Reps:List Vaunid.Term→List Tr→Prop
  | nil:Reps [] []
  | cons {t:Vaunid.Term}{r:Tr}{ts:List Vaunid.Term}{rs:List Tr}:Rep t r→Reps ts rs→Reps (t::ts) (r::rs)
end
mutual
noncomputable def zdz:Tr→List Nat
  | .mk _ _ b _ ps=>b::zdy ps
noncomputable def zdy:List Tr→List Nat
  | []=>[]
  | t::r=>zdz t++zdy r
end
noncomputable def znc:List Fm:=[.fn,.rec_,.let_,.if_,.app,.pair,.fst,.snd,.cons,.case,.fold,.plus,.minus,.times,.over,.less,.equal,.floor,.rest,.root,.pow]
noncomputable def Fm.kt:Fm→List String
  | .fn=>["name","body"] | .rec_=>["name","name","body"] | .let_=>["name","part","body"] | .if_=>["part","part","part"] | .app=>["part","part"] | .pair=>["part","part"] | .fst=>["part"] | .snd=>["part"] | .cons=>["part","part"]
  | .case=>["part","part","name","name","body"] | .fold=>["part","part","part"] | .plus=>["part","part"] | .minus=>["part","part"] | .times=>["part","part"] | .over=>["part","part"] | .less=>["part","part"] | .equal=>["part","part"]
  | .floor=>["part","part"] | .rest=>["part","part"] | .root=>["part"] | .pow=>["part","power"]
noncomputable def zcd (ad:Fm→Addr):List (Str×V):=[("fn",.ref (ad .fn)),("rec",.ref (ad .rec_)),("let",.ref (ad .let_)),("if",.ref (ad .if_)),("apply",.ref (ad .app)),("pair",.ref (ad .pair)),("fst",.ref (ad .fst)),("snd",.ref (ad .snd)),("cons",.ref (ad .cons)),("case",.ref (ad .case)),("fold",.ref (ad .fold)),
  ("+",.ref (ad .plus)),("-",.ref (ad .minus)),("*",.ref (ad .times)),("/",.ref (ad .over)),("<",.ref (ad .less)),("=",.ref (ad .equal)),("floor",.ref (ad .floor)),("rest",.ref (ad .rest)),("root",.ref (ad .root)),("^",.ref (ad .pow))]
theorem ztz {ad:Fm→Addr}:((zcd ad).map (·.1)).Nodup:=by
  have e:(zcd ad).map (·.1)=znc.map fun f=>Str.ofString f.word:=rfl
  rw [e]
  decide +kernel
theorem zlg (ad:Fm→Addr) (f:Fm):zdh (zcd ad) (Str.ofString f.word)=some (.ref (ad f)):=by
  cases f <;> rfl
noncomputable def zf2 (x:List Nat):Bool:=znc.any fun f=>Vaunid.txt f.word == x
theorem zoa {A:Type} (p:A→Bool) : ∀ l:List A,(l.find? p).isSome=l.any p
  | []=>rfl
  | x::r=>by
    rw [List.find?_cons,List.any_cons,← zoa p r]
    cases p x <;> rfl
theorem ziz (ad:Fm→Addr) (x:List Nat):(zdh (zcd ad) (S x)).isSome=zf2 x:=by
  unfold zdh zf2
  rw [Option.isSome_map,zoa]
  have e2:(zcd ad).any (fun p=>decide (p.1=S x))=((zcd ad).map (·.1)).any fun s=>decide (s=S x):=by rw [List.any_map];rfl
  rw [e2,show (zcd ad).map (·.1)=znc.map fun f=>Str.ofString f.word from rfl,List.any_map]
  congr 1
  funext f
  show decide (Str.ofString f.word=S x)=_
  rw [zbs,Bool.eq_iff_iff]
  simp only [decide_eq_true_eq,beq_iff_eq,zfh]
open Vaunid (Token txt word sign)
inductive SK where
  | n | p (body:Bool) | pw
  deriving DecidableEq
noncomputable def SK.w:SK→String
  | .n=>"name" | .p false=>"part" | .p true=>"body" | .pw=>"power"
noncomputable def SK.k:SK→Kind
  | .n => .name | .p _ => .part | .pw => .power
noncomputable def Fm.sk:Fm→List SK
  | .fn=>[.n,.p true] | .rec_=>[.n,.n,.p true] | .let_=>[.n,.p false,.p true] | .if_=>[.p false,.p false,.p false] | .app=>[.p false,.p false] | .pair=>[.p false,.p false] | .fst=>[.p false] | .snd=>[.p false] | .cons=>[.p false,.p false]
  | .case=>[.p false,.p false,.n,.n,.p true] | .fold=>[.p false,.p false,.p false] | .plus=>[.p false,.p false] | .minus=>[.p false,.p false] | .times=>[.p false,.p false] | .over=>[.p false,.p false] | .less=>[.p false,.p false] | .equal=>[.p false,.p false]
  | .floor=>[.p false,.p false] | .rest=>[.p false,.p false] | .root=>[.p false] | .pow=>[.p false,.pw]
theorem zvn (f:Fm):f.sk.map SK.w=f.kt:=by cases f <;> rfl
theorem zs2 (f:Fm):f.sk.map SK.k=f.kinds:=by cases f <;> rfl
structure PF where
  form:List Nat
  ws:List (List Nat)
  b:Nat
  ts:List Tr
  ks:List SK
  c:String
  d:Nat
structure MS where
  fs:List PF
  l:Toks
  res:List Tr
noncomputable def sent (hl:Nat):Token:={ tok := .sign (txt "end"),start:=hl,halt_:=hl }
noncomputable def zk7 (t:Token) (x:Vaunid.Leaf):Tr := .mk (txt (zdb x)) (zcc x) t.start t.halt_ []
noncomputable def zgv:Vaunid.Tok→List Nat
  | .word w=>w
  | _=>[]
noncomputable def zmw:Vaunid.Tok→List Nat
  | .num v _=>Vaunid.shownLit v
  | _=>[]
noncomputable def PF.done (pf:PF) (e:Nat):Tr := .mk pf.form pf.ws pf.b e pf.ts
noncomputable def zf0 (b d:Nat) (l:Toks):PF:={ form:=txt (zak l).1.word,ws:=[],b:=b,ts:=[],ks:=(zak l).1.sk,c:=")",d:=d }
noncomputable def zc7:MS→Option (Vaunid.Res MS)
  | ⟨pf::fs,t::l,res⟩=>match pf.ks with
    | []=>some (if kindOf t.tok=txt pf.c then (match fs with
        | [] => .ok ⟨[],l,[pf.done t.halt_]⟩
        | g::fs => .ok ⟨{ g with ts:=g.ts++[pf.done t.halt_] }::fs,l,res⟩) else Vaunid.fault 6 t.start)
    | .p _::ks =>
      if pf.d=40 then some (Vaunid.fault 8 t.start)
      else if kindOf t.tok=txt "(" then (if l.isEmpty=true then none else some (.ok ⟨zf0 t.start (pf.d+1) l::{ pf with ks:=ks }::fs,(zak l).2,res⟩))
      else match Vaunid.leafOf t.tok with
        | some x=>some (.ok ⟨{ pf with ks:=ks,ts:=pf.ts++[zk7 t x] }::fs,l,res⟩)
        | none=>some (Vaunid.fault 6 t.start)
    | .n::ks=>some (if kindOf t.tok=txt "name" then .ok ⟨{ pf with ks:=ks,ws:=pf.ws++[zgv t.tok] }::fs,l,res⟩ else Vaunid.fault 6 t.start)
    | .pw::ks=>some (if kindOf t.tok=txt "digit" then .ok ⟨{ pf with ks:=ks,ws:=pf.ws++[zmw t.tok] }::fs,l,res⟩ else Vaunid.fault 6 t.start)
  | _=>none
inductive Run:MS→Vaunid.Res Tr→Nat→Prop
  | done {l:Toks}{tr:Tr}:Run ⟨[],l,[tr]⟩ (.ok tr) 0
  | bad {s:MS}{e:Vaunid.Fault}:zc7 s=some (.error e)→Run s (.error e) 1
  | go {s s':MS}{R:Vaunid.Res Tr}{n:Nat}:zc7 s=some (.ok s')→Run s' R n→Run s R (n+1)
noncomputable def Goes (s s':MS):Prop:=∀ R n,Run s' R n→∃ m,Run s R m
theorem Goes.refl (s:MS):Goes s s:=fun R n h=>⟨n,h⟩
theorem Goes.trans {a b c:MS} (h:Goes a b) (g:Goes b c):Goes a c:=fun R n r=>let ⟨m,q⟩:=g R n r;h R m q
theorem Goes.one {s s':MS} (h:zc7 s=some (.ok s')):Goes s s':=fun R n r=>⟨n+1,.go h r⟩
noncomputable def zbb:Vaunid.Tok→Prop
  | .word w=>Vaunid.isWord w=true∧w.length≤12
  | .num v d=>(∀ m,v.measure=some m→m≠[]∧m.length≤10000)∧v.top.natAbs<10 ^ 12∧v.low<10 ^ 12∧∀ n,d=some n→v=⟨n,1,none⟩
  | .sign s=>s∈Vaunid.coreSigns∨s=txt "end"
theorem zhx {k:Vaunid.Tok} (g:zbb k):kindOf k=txt "name"↔∃ w,k = .word w∧Vaunid.isName w=true:=by
  cases k with
  | word w =>
    simp only [kindOf]
    by_cases h:Vaunid.isTaken w=true
    · rw [if_pos h]
      constructor
      · intro e
        subst e
        exact absurd h (by decide +kernel)
      · rintro ⟨w',e,q⟩
        cases e
        unfold Vaunid.isName at q
        rw [h] at q
        simp at q
    · rw [if_neg h]
      refine ⟨fun _=>⟨w,rfl,?_⟩,fun _=>rfl⟩
      unfold Vaunid.isName
      rw [g.1,Bool.eq_false_iff.mpr h]
      simp only [Vaunid.MOSTSIGNS,Bool.not_false,Bool.and_true,Bool.true_and]
      exact decide_eq_true g.2
  | num v d =>
    constructor
    · intro e
      simp only [kindOf] at e
      split at e
      · exact absurd e (by decide +kernel)
      · exact absurd e (by decide +kernel)
    · rintro ⟨w,e,_⟩;cases e
  | sign s =>
    constructor
    · intro e
      have e:s=txt "name":=e
      subst e
      rcases g with q | q
      · exact absurd q (by decide +kernel)
      · exact absurd q (by decide +kernel)
    · rintro ⟨w,e,_⟩;cases e
theorem zfv {k:Vaunid.Tok} (g:zbb k):kindOf k=txt "digit"↔∃ v n,k = .num v (some n):=by
  cases k with
  | word w =>
    simp only [kindOf]
    constructor
    · intro e
      split at e
      · rename_i h
        subst e
        exact absurd h (by decide +kernel)
      · exact absurd e (by decide +kernel)
    · rintro ⟨v,n,e⟩;cases e
  | num v d =>
    simp only [kindOf]
    cases d with
    | none=>exact ⟨fun e=>absurd e (by decide +kernel),fun ⟨_,_,e⟩=>by cases e⟩
    | some n=>exact ⟨fun _=>⟨v,n,rfl⟩,fun _=>rfl⟩
  | sign s =>
    constructor
    · intro e
      have e:s=txt "digit":=e
      subst e
      rcases g with q | q
      · exact absurd q (by decide +kernel)
      · exact absurd q (by decide +kernel)
    · rintro ⟨v,n,e⟩;cases e
theorem zhv {k:Vaunid.Tok} (g:zbb k) {x:String} (h:Vaunid.isTaken (txt x)=false) (h1 : ¬ txt "name"=txt x) (h2 : ¬ txt "digit"=txt x) (h3 : ¬ txt "number"=txt x):kindOf k=txt x↔k=sign x:=by
  cases k with
  | word w =>
    simp only [kindOf]
    constructor
    · intro e
      split at e
      · rename_i q
        subst e
        rw [h] at q
        cases q
      · exact absurd e h1
    · intro e;cases e
  | num v d =>
    simp only [kindOf]
    constructor
    · intro e
      split at e
      · exact absurd e h2
      · exact absurd e h3
    · intro e;cases e
  | sign s=>exact ⟨fun e=>by show Vaunid.Tok.sign s=Vaunid.Tok.sign _;rw [show s=txt x from e],fun e=>by cases e;rfl⟩
theorem zhw {k:Vaunid.Tok} (g:zbb k):kindOf k=txt "("↔k=sign "(":=zhv g (by decide +kernel) (by decide +kernel) (by decide +kernel) (by decide +kernel)
theorem zo6 {k:Vaunid.Tok} (g:zbb k):kindOf k=txt ")"↔k=sign ")":=zhv g (by decide +kernel) (by decide +kernel) (by decide +kernel) (by decide +kernel)
theorem ztu {k:Vaunid.Tok} (g:zbb k):kindOf k=txt "end"↔k=sign "end":=zhv g (by decide +kernel) (by decide +kernel) (by decide +kernel) (by decide +kernel)
noncomputable def Fm.tok:Fm→Vaunid.Tok
  | .plus=>sign "+" | .minus=>sign "-" | .times=>sign "*" | .over=>sign "/" | .less=>sign "<" | .equal=>sign "=" | .pow=>sign "^"
  | f=>Vaunid.word f.word
theorem za3 {c:Prop} [Decidable c] {a f:Fm}{r:Option Fm} (h:(if c then some a else r)=some f):(c∧a=f)∨r=some f:=by
  by_cases q:c
  · rw [if_pos q] at h;exact .inl ⟨q,Option.some.inj h⟩
  · rw [if_neg q] at h;exact .inr h
theorem zwt {k:Vaunid.Tok}{f:Fm} (h:fmOf k=some f):k=f.tok:=by
  unfold fmOf at h
  rcases za3 h with ⟨q,rfl⟩ | h
  · exact q
  rcases za3 h with ⟨q,rfl⟩ | h
  · exact q
  rcases za3 h with ⟨q,rfl⟩ | h
  · exact q
  rcases za3 h with ⟨q,rfl⟩ | h
  · exact q
  rcases za3 h with ⟨q,rfl⟩ | h
  · exact q
  rcases za3 h with ⟨q,rfl⟩ | h
  · exact q
  rcases za3 h with ⟨q,rfl⟩ | h
  · exact q
  rcases za3 h with ⟨q,rfl⟩ | h
  · exact q
  rcases za3 h with ⟨q,rfl⟩ | h
  · exact q
  rcases za3 h with ⟨q,rfl⟩ | h
  · exact q
  rcases za3 h with ⟨q,rfl⟩ | h
  · exact q
  rcases za3 h with ⟨q,rfl⟩ | h
  · exact q
  rcases za3 h with ⟨q,rfl⟩ | h
  · exact q
  rcases za3 h with ⟨q,rfl⟩ | h
  · exact q
  rcases za3 h with ⟨q,rfl⟩ | h
  · exact q
  rcases za3 h with ⟨q,rfl⟩ | h
  · exact q
  rcases za3 h with ⟨q,rfl⟩ | h
  · exact q
  rcases za3 h with ⟨q,rfl⟩ | h
  · exact q
  rcases za3 h with ⟨q,rfl⟩ | h
  · exact q
  rcases za3 h with ⟨q,rfl⟩ | h
  · exact q
  cases h
theorem zrx {k:Vaunid.Tok}{f:Fm} (h:fmOf k=some f):kindOf k=txt f.word:=by
  have e:=zwt h
  rw [e]
  rw [e] at h
  cases f <;> first | (decide +kernel) | exact absurd h (by decide +kernel)
theorem zo1 (x:List Nat):zf2 x=true↔∃ f∈znc,txt f.word=x:=by
  unfold zf2
  rw [List.any_eq_true]
  simp only [beq_iff_eq]
theorem zpb : ∀ f∈znc,Vaunid.isTaken (txt f.word)=true→fmOf (word f.word)=some f:=by
  intro f hf
  cases f <;> first | (intro _;decide +kernel) | (intro h;exact absurd h (by decide +kernel))
theorem zfw : ∀ f∈znc,¬ txt f.word=txt "name"∧¬ txt f.word=txt "digit"∧¬ txt f.word=txt "number":=by
  intro f hf
  cases f <;> decide +kernel
theorem zpc : ∀ f∈znc,(txt f.word∈Vaunid.coreSigns∨txt f.word=txt "end")→fmOf (sign f.word)=some f:=by
  intro f hf
  cases f <;> first | (intro _;decide +kernel) | (intro h;exact absurd h (by decide +kernel))
theorem zrs {k:Vaunid.Tok} (g:zbb k):zf2 (kindOf k)=(fmOf k).isSome:=by
  rw [Bool.eq_iff_iff,zo1]
  constructor
  · rintro ⟨f,hf,e⟩
    cases k with
    | word w =>
      simp only [kindOf] at e
      split at e
      · rename_i q
        rw [← e] at q
        have:=zpb f hf q
        have e2:Vaunid.Tok.word w=word f.word:=by show _=Vaunid.Tok.word _;rw [e]
        rw [e2,this]
        rfl
      · exact absurd e (zfw f hf).1
    | num v d =>
      simp only [kindOf] at e
      split at e
      · exact absurd e (zfw f hf).2.1
      · exact absurd e (zfw f hf).2.2
    | sign s =>
      have e:txt f.word=s:=e
      have g:s∈Vaunid.coreSigns∨s=txt "end":=g
      rw [← e] at g
      have:=zpc f hf g
      have e2:Vaunid.Tok.sign s=sign f.word:=by show _=Vaunid.Tok.sign _;rw [e]
      rw [e2,this]
      rfl
  · intro h
    cases q:fmOf k with
    | none=>rw [q] at h;cases h
    | some f=>exact ⟨f,by cases f <;> decide,(zrx q).symm⟩
open Vaunid (Token txt word sign)
mutual
noncomputable def zmy:Tr→Nat
  | .mk _ _ _ _ ps=>1+zmz ps
noncomputable def zmz:List Tr→Nat
  | []=>0
  | t::r=>max (zmy t) (zmz r)
end
noncomputable def znu:List Item→List Vaunid.Term
  | []=>[]
  | .p t _::r=>t::znu r
  | _::r=>znu r
noncomputable def zgu:List Item→List (List Nat)
  | []=>[]
  | .w x::r=>x::zgu r
  | .n m::r=>Vaunid.decimalInt m::zgu r
  | .p _ _::r=>zgu r
inductive ItemsOk:List Kind→List Item→Prop
  | nil:ItemsOk [] []
  | name {x:List Nat}{ks:List Kind}{is:List Item}:ItemsOk ks is→ItemsOk (.name::ks) (.w x::is)
  | part {t:Vaunid.Term}{l:List Nat}{ks:List Kind}{is:List Item}:ItemsOk ks is→ItemsOk (.part::ks) (.p t l::is)
  | power {m:Int}{ks:List Kind}{is:List Item}:ItemsOk ks is→ItemsOk (.power::ks) (.n m::is)
theorem zo3 {ks:List Kind}{is:List Item} (h:ItemsOk (.name::ks) is) : ∃ x r,is = .w x::r∧ItemsOk ks r:=by
  cases h with
  | name h=>exact ⟨_,_,rfl,h⟩
theorem zbn {ks:List Kind}{is:List Item} (h:ItemsOk (.part::ks) is) : ∃ t l r,is = .p t l::r∧ItemsOk ks r:=by
  cases h with
  | part h=>exact ⟨_,_,_,rfl,h⟩
theorem zyv {ks:List Kind}{is:List Item} (h:ItemsOk (.power::ks) is) : ∃ m r,is = .n m::r∧ItemsOk ks r:=by
  cases h with
  | power h=>exact ⟨_,_,rfl,h⟩
theorem zcu {is:List Item} (h:ItemsOk [] is):is=[]:=by
  cases h
  rfl
theorem zts (f:Fm) (is:List Item) (h:ItemsOk f.kinds is):zmu (f.mk is)=txt f.word∧zar (f.mk is)=zgu is∧za2 (f.mk is)=znu is:=by
  cases f with
  | fn=>obtain ⟨x0,i0,rfl,g0⟩:=zo3 h;obtain ⟨t1,l1,i1,rfl,g1⟩:=zbn g0;cases zcu g1;exact ⟨rfl,rfl,rfl⟩
  | rec_=>obtain ⟨x0,i0,rfl,g0⟩:=zo3 h;obtain ⟨x1,i1,rfl,g1⟩:=zo3 g0;obtain ⟨t2,l2,i2,rfl,g2⟩:=zbn g1;cases zcu g2;exact ⟨rfl,rfl,rfl⟩
  | let_=>obtain ⟨x0,i0,rfl,g0⟩:=zo3 h;obtain ⟨t1,l1,i1,rfl,g1⟩:=zbn g0;obtain ⟨t2,l2,i2,rfl,g2⟩:=zbn g1;cases zcu g2;exact ⟨rfl,rfl,rfl⟩
  | if_=>obtain ⟨t0,l0,i0,rfl,g0⟩:=zbn h;obtain ⟨t1,l1,i1,rfl,g1⟩:=zbn g0;obtain ⟨t2,l2,i2,rfl,g2⟩:=zbn g1;cases zcu g2;exact ⟨rfl,rfl,rfl⟩
  | app=>obtain ⟨t0,l0,i0,rfl,g0⟩:=zbn h;obtain ⟨t1,l1,i1,rfl,g1⟩:=zbn g0;cases zcu g1;exact ⟨rfl,rfl,rfl⟩
  | pair=>obtain ⟨t0,l0,i0,rfl,g0⟩:=zbn h;obtain ⟨t1,l1,i1,rfl,g1⟩:=zbn g0;cases zcu g1;exact ⟨rfl,rfl,rfl⟩
  | fst=>obtain ⟨t0,l0,i0,rfl,g0⟩:=zbn h;cases zcu g0;exact ⟨rfl,rfl,rfl⟩
  | snd=>obtain ⟨t0,l0,i0,rfl,g0⟩:=zbn h;cases zcu g0;exact ⟨rfl,rfl,rfl⟩
  | cons=>obtain ⟨t0,l0,i0,rfl,g0⟩:=zbn h;obtain ⟨t1,l1,i1,rfl,g1⟩:=zbn g0;cases zcu g1;exact ⟨rfl,rfl,rfl⟩
  | case=>obtain ⟨t0,l0,i0,rfl,g0⟩:=zbn h;obtain ⟨t1,l1,i1,rfl,g1⟩:=zbn g0;obtain ⟨x2,i2,rfl,g2⟩:=zo3 g1;obtain ⟨x3,i3,rfl,g3⟩:=zo3 g2;obtain ⟨t4,l4,i4,rfl,g4⟩:=zbn g3;cases zcu g4;exact ⟨rfl,rfl,rfl⟩
  | fold=>obtain ⟨t0,l0,i0,rfl,g0⟩:=zbn h;obtain ⟨t1,l1,i1,rfl,g1⟩:=zbn g0;obtain ⟨t2,l2,i2,rfl,g2⟩:=zbn g1;cases zcu g2;exact ⟨rfl,rfl,rfl⟩
  | plus=>obtain ⟨t0,l0,i0,rfl,g0⟩:=zbn h;obtain ⟨t1,l1,i1,rfl,g1⟩:=zbn g0;cases zcu g1;exact ⟨rfl,rfl,rfl⟩
  | minus=>obtain ⟨t0,l0,i0,rfl,g0⟩:=zbn h;obtain ⟨t1,l1,i1,rfl,g1⟩:=zbn g0;cases zcu g1;exact ⟨rfl,rfl,rfl⟩
  | times=>obtain ⟨t0,l0,i0,rfl,g0⟩:=zbn h;obtain ⟨t1,l1,i1,rfl,g1⟩:=zbn g0;cases zcu g1;exact ⟨rfl,rfl,rfl⟩
  | over=>obtain ⟨t0,l0,i0,rfl,g0⟩:=zbn h;obtain ⟨t1,l1,i1,rfl,g1⟩:=zbn g0;cases zcu g1;exact ⟨rfl,rfl,rfl⟩
  | less=>obtain ⟨t0,l0,i0,rfl,g0⟩:=zbn h;obtain ⟨t1,l1,i1,rfl,g1⟩:=zbn g0;cases zcu g1;exact ⟨rfl,rfl,rfl⟩
  | equal=>obtain ⟨t0,l0,i0,rfl,g0⟩:=zbn h;obtain ⟨t1,l1,i1,rfl,g1⟩:=zbn g0;cases zcu g1;exact ⟨rfl,rfl,rfl⟩
  | floor=>obtain ⟨t0,l0,i0,rfl,g0⟩:=zbn h;obtain ⟨t1,l1,i1,rfl,g1⟩:=zbn g0;cases zcu g1;exact ⟨rfl,rfl,rfl⟩
  | rest=>obtain ⟨t0,l0,i0,rfl,g0⟩:=zbn h;obtain ⟨t1,l1,i1,rfl,g1⟩:=zbn g0;cases zcu g1;exact ⟨rfl,rfl,rfl⟩
  | root=>obtain ⟨t0,l0,i0,rfl,g0⟩:=zbn h;cases zcu g0;exact ⟨rfl,rfl,rfl⟩
  | pow=>obtain ⟨t0,l0,i0,rfl,g0⟩:=zbn h;obtain ⟨m,i1,rfl,g1⟩:=zyv g0;cases zcu g1;exact ⟨rfl,rfl,rfl⟩
theorem zl8 (n:Int):Vaunid.shownLit ⟨n,1,none⟩=Vaunid.decimalInt n:=by
  unfold Vaunid.shownLit
  simp
theorem zlv {hl:Nat}{t:Token}{l:Toks} (g:zbb t.tok):Vaunid.wantName hl (t::l)=if kindOf t.tok=txt "name" then .ok (zgv t.tok,l) else Vaunid.fault 6 t.start:=by
  have q:=zhx g
  obtain ⟨k,s,h⟩:=t
  cases k with
  | word w =>
    by_cases e:kindOf (.word w)=txt "name"
    · obtain ⟨w',e1,e2⟩:=q.mp e
      cases e1
      rw [if_pos e]
      show (if Vaunid.isName w=true then _ else _)=_
      rw [if_pos e2]
      rfl
    · have : ¬ Vaunid.isName w=true:=fun z=>e (q.mpr ⟨w,rfl,z⟩)
      rw [if_neg e]
      show (if Vaunid.isName w=true then _ else _)=_
      rw [if_neg this]
  | num v d =>
    rw [if_neg fun e=>by obtain ⟨_,z,_⟩:=q.mp e;cases z]
    rfl
  | sign x =>
    rw [if_neg fun e=>by obtain ⟨_,z,_⟩:=q.mp e;cases z]
    rfl
theorem zj9 {hl:Nat}{t:Token}{l:Toks} (g:zbb t.tok) (e:kindOf t.tok=txt "digit") : ∃ n,Vaunid.wantDigit hl (t::l) = .ok (n,l)∧zmw t.tok=Vaunid.decimalInt n:=by
  obtain ⟨v,n,z⟩:=(zfv g).mp e
  obtain ⟨k,s,h⟩:=t
  dsimp only at z g
  subst z
  have:=g.2.2.2 n rfl
  subst this
  exact ⟨n,rfl,zl8 n⟩
theorem zka {hl:Nat}{t:Token}{l:Toks} (g:zbb t.tok) (e : ¬ kindOf t.tok=txt "digit"):Vaunid.wantDigit hl (t::l)=Vaunid.fault 6 t.start:=by
  have q:=zfv g
  obtain ⟨k,s,h⟩:=t
  cases k with
  | word w=>rfl
  | num v d =>
    cases d with
    | none=>rfl
    | some n=>exact absurd (q.mpr ⟨v,n,rfl⟩) e
  | sign x=>rfl
theorem zvb {hl:Nat}{x:String}{t:Token}{l:Toks} (h:kindOf t.tok=txt x↔t.tok=sign x):Vaunid.want hl (sign x) (t::l)=if kindOf t.tok=txt x then .ok l else Vaunid.fault 6 t.start:=by
  show (if t.tok=sign x then _ else _)=_
  by_cases e:t.tok=sign x
  · rw [if_pos e,if_pos (h.mpr e)]
  · rw [if_neg e,if_neg fun z=>e (h.mp z)]
theorem zrr (hl:Nat):zbb (sent hl).tok := .inr rfl
noncomputable def zb1 (l:Toks):Prop:=∀ k∈l,zbb k.tok
theorem zb1.suf {p r:Toks} (h:zb1 (p++r)):zb1 r:=fun k hk=>h k (List.mem_append_right _ hk)
theorem zb1.sent {l:Toks} (h:zb1 l) (hl:Nat):zb1 (l++[sent hl]):=fun k hk=>by
  rcases List.mem_append.mp hk with q | q
  · exact h k q
  · rw [List.mem_singleton.mp q];exact zrr hl
noncomputable def zu6 (hl d:Nat) (ts:Toks):Prop:=∀ (form:List Nat) (ws:List (List Nat)) (b:Nat) (tr:List Tr) (bb:Bool) (ks:List SK) (c:String) (fs:List PF) (res:List Tr),match zcn hl d ts with
  | .error e=>∃ n,Run ⟨⟨form,ws,b,tr,.p bb::ks,c,40 - d⟩::fs,ts++[sent hl],res⟩ (.error e) n
  | .ok (a,pl,r)=>∃ t,Rep a t∧zdz t=pl∧zmy t≤d∧pl.length+r.length≤ts.length∧(∃ pre,ts=pre++r) ∧
    Goes ⟨⟨form,ws,b,tr,.p bb::ks,c,40 - d⟩::fs,ts++[sent hl],res⟩ ⟨⟨form,ws,b,tr++[t],ks,c,40 - d⟩::fs,r++[sent hl],res⟩
noncomputable def zw3 (hl d:Nat) (sks:List SK) (ts:Toks):Prop:=∀ (form:List Nat) (ws:List (List Nat)) (b:Nat) (tr:List Tr) (c:String) (fs:List PF) (res:List Tr),match zaq hl (zcn hl d) (sks.map SK.k) ts with
  | .error e=>∃ n,Run ⟨⟨form,ws,b,tr,sks,c,40 - d⟩::fs,ts++[sent hl],res⟩ (.error e) n
  | .ok (is,r)=>∃ trs,Reps (znu is) trs∧zdy trs=zck is∧zmz trs≤d∧(zck is).length+r.length≤ts.length∧(∃ pre,ts=pre++r)∧ItemsOk (sks.map SK.k) is ∧
    Goes ⟨⟨form,ws,b,tr,sks,c,40 - d⟩::fs,ts++[sent hl],res⟩ ⟨⟨form,ws++zgu is,b,tr++trs,[],c,40 - d⟩::fs,r++[sent hl],res⟩
theorem zex {hl d N:Nat} (IH : ∀ ts,ts.length≤N→zb1 ts→zu6 hl d ts) : ∀ (sks:List SK) (ts:Toks),ts.length≤N→zb1 ts→zw3 hl d sks ts
  | [],ts,hN,hg=>fun form ws b tr c fs res=>by
    refine ⟨[],.nil,rfl,Nat.zero_le _,by show 0+_≤_;omega,⟨[],rfl⟩,.nil,?_⟩
    show Goes _ ⟨⟨form,ws++[],b,tr++[],[],c,40 - d⟩::fs,ts++[sent hl],res⟩
    rw [List.append_nil,List.append_nil]
    exact Goes.refl _
  | .n::sks,[],hN,hg=>fun form ws b tr c fs res=>⟨1,.bad rfl⟩
  | .n::sks,t::l,hN,hg=>fun form ws b tr c fs res=>by
    have gt:=hg t (List.mem_cons_self ..)
    have gl:zb1 l:=fun k hk=>hg k (List.mem_cons_of_mem _ hk)
    rw [List.length_cons] at hN
    have ih:=zex IH sks l (by omega) gl
    show match zaq hl (zcn hl d) (.name::sks.map SK.k) (t::l) with | .error e=>_ | .ok (is,r)=>_
    unfold zaq
    rw [zlv gt]
    by_cases e:kindOf t.tok=txt "name"
    · rw [if_pos e]
      dsimp only
      have g1:Goes ⟨⟨form,ws,b,tr,.n::sks,c,40 - d⟩::fs,(t::l)++[sent hl],res⟩ ⟨⟨form,ws++[zgv t.tok],b,tr,sks,c,40 - d⟩::fs,l++[sent hl],res⟩:=Goes.one (by
        show some (if kindOf t.tok=txt "name" then _ else _)=_
        rw [if_pos e]
        rfl)
      have ih:=ih form (ws++[zgv t.tok]) b tr c fs res
      cases h2:zaq hl (zcn hl d) (sks.map SK.k) l with
      | error e2 =>
        rw [h2] at ih
        obtain ⟨n,hn⟩:=ih
        exact g1 _ _ hn
      | ok v =>
        obtain ⟨is,r⟩:=v
        rw [h2] at ih
        obtain ⟨trs,i1,i2,i3,i4,⟨pre,i5⟩,i6,i7⟩:=ih
        refine ⟨trs,i1,i2,i3,Nat.le_trans i4 (Nat.le_succ _),⟨t::pre,by rw [i5];rfl⟩,.name i6,g1.trans ?_⟩
        rw [List.append_assoc] at i7
        exact i7
    · rw [if_neg e]
      exact ⟨1,.bad (by
        show some (if kindOf t.tok=txt "name" then _ else _)=_
        rw [if_neg e]
        rfl)⟩
  | .pw::sks,[],hN,hg=>fun form ws b tr c fs res=>⟨1,.bad rfl⟩
  | .pw::sks,t::l,hN,hg=>fun form ws b tr c fs res=>by
    have gt:=hg t (List.mem_cons_self ..)
    have gl:zb1 l:=fun k hk=>hg k (List.mem_cons_of_mem _ hk)
    rw [List.length_cons] at hN
    have ih:=zex IH sks l (by omega) gl
    show match zaq hl (zcn hl d) (.power::sks.map SK.k) (t::l) with | .error e=>_ | .ok (is,r)=>_
    unfold zaq
    by_cases e:kindOf t.tok=txt "digit"
    · obtain ⟨m,e1,e2⟩:=zj9 (hl:=hl) (l:=l) gt e
      rw [e1]
      dsimp only
      have g1:Goes ⟨⟨form,ws,b,tr,.pw::sks,c,40 - d⟩::fs,(t::l)++[sent hl],res⟩ ⟨⟨form,ws++[zmw t.tok],b,tr,sks,c,40 - d⟩::fs,l++[sent hl],res⟩:=Goes.one (by
        show some (if kindOf t.tok=txt "digit" then _ else _)=_
        rw [if_pos e]
        rfl)
      have ih:=ih form (ws++[zmw t.tok]) b tr c fs res
      cases h2:zaq hl (zcn hl d) (sks.map SK.k) l with
      | error e2 =>
        rw [h2] at ih
        obtain ⟨n,hn⟩:=ih
        exact g1 _ _ hn
      | ok v =>
        obtain ⟨is,r⟩:=v
        rw [h2] at ih
        obtain ⟨trs,i1,i2,i3,i4,⟨pre,i5⟩,i6,i7⟩:=ih
        refine ⟨trs,i1,i2,i3,Nat.le_trans i4 (Nat.le_succ _),⟨t::pre,by rw [i5];rfl⟩,.power i6,g1.trans ?_⟩
        rw [List.append_assoc,e2] at i7
        rw [e2]
        exact i7
    · rw [zka gt e]
      exact ⟨1,.bad (by
        show some (if kindOf t.tok=txt "digit" then _ else _)=_
        rw [if_neg e]
        rfl)⟩
  | .p bb::sks,ts,hN,hg=>fun form ws b tr c fs res=>by
    have it:=IH ts hN hg form ws b tr bb sks c fs res
    show match zaq hl (zcn hl d) (.part::sks.map SK.k) ts with | .error e=>_ | .ok (is,r)=>_
    unfold zaq
    cases h1:zcn hl d ts with
    | error e=>rw [h1] at it;exact it
    | ok v =>
      obtain ⟨a,pl,r⟩:=v
      rw [h1] at it
      obtain ⟨t,t1,t2,t3,t4,⟨pre,t5⟩,t6⟩:=it
      dsimp only
      have hr:r.length≤N:=by omega
      have gr:zb1 r:=by rw [t5] at hg;exact hg.suf
      have ih:=zex IH sks r hr gr form ws b (tr++[t]) c fs res
      cases h2:zaq hl (zcn hl d) (sks.map SK.k) r with
      | error e2 =>
        rw [h2] at ih
        obtain ⟨n,hn⟩:=ih
        exact t6 _ _ hn
      | ok v =>
        obtain ⟨is,r2⟩:=v
        rw [h2] at ih
        obtain ⟨trs,i1,i2,i3,i4,⟨pre2,i5⟩,i6,i7⟩:=ih
        refine ⟨t::trs,.cons t1 i1,?_,Nat.max_le.mpr ⟨t3,i3⟩,?_,⟨pre++pre2,by rw [t5,i5,List.append_assoc]⟩,.part i6,t6.trans ?_⟩
        · show zdz t++zdy trs=pl++zck is
          rw [t2,i2]
        · show (pl++zck is).length+_≤_
          rw [List.length_append]
          omega
        · rw [List.append_assoc] at i7
          exact i7
theorem zhq (hl:Nat):kindOf (sent hl).tok=txt "end":=rfl
theorem zi8 (hl:Nat) (r:Toks):zak (r++[sent hl])=((zak r).1,(zak r).2++[sent hl]):=by
  cases r with
  | nil=>rfl
  | cons k r =>
    show zak (k::(r++[sent hl]))=_
    unfold zak
    dsimp only
    cases fmOf k.tok <;> rfl
theorem zh3 (r:Toks) : ∃ pre,r=pre++(zak r).2:=by
  cases r with
  | nil=>exact ⟨[],rfl⟩
  | cons k r =>
    unfold zak
    dsimp only
    cases fmOf k.tok with
    | none=>exact ⟨[],rfl⟩
    | some f=>exact ⟨[k],rfl⟩
theorem zrq (hl:Nat) (ts:Toks) : ∃ t l,ts++[sent hl]=t::l∧t.start=Vaunid.placeOf hl ts:=by
  cases ts with
  | nil=>exact ⟨_,_,rfl,rfl⟩
  | cons k r=>exact ⟨_,_,rfl,rfl⟩
theorem znh (hl:Nat) : ∀ (N:Nat) (ts:Toks) (d:Nat),ts.length≤N→d≤40→zb1 ts→zu6 hl d ts
  | N,ts,0,hN,hd,hg=>fun form ws b tr bb ks c fs res=>by
    rw [zph]
    obtain ⟨t,l,e1,e2⟩:=zrq hl ts
    exact ⟨1,.bad (by rw [e1,← e2];rfl)⟩
  | N,[],d+1,hN,hd,hg=>fun form ws b tr bb ks c fs res=>by
    rw [zsc]
    refine ⟨1,.bad ?_⟩
    show (if 40 - (d+1)=40 then _ else if kindOf (sent hl).tok=txt "(" then _ else some (Vaunid.fault 6 hl))=_
    rw [if_neg (by omega),if_neg (by rw [zhq];decide +kernel)]
    rfl
  | 0,k::r,d+1,hN,hd,hg=>by simp at hN
  | N+1,k::r,d+1,hN,hd,hg=>fun form ws b tr bb ks c fs res=>by
    have gk:=hg k (List.mem_cons_self ..)
    have gr:zb1 r:=fun k hk=>hg k (List.mem_cons_of_mem _ hk)
    rw [List.length_cons] at hN
    by_cases hp:k.tok=sign "("
    · rw [zpj hp]
      obtain ⟨pre,epre⟩:=zh3 r
      have gb:zb1 (zak r).2:=by rw [epre] at gr;exact gr.suf
      have lb:=zh4 r
      have st:=zex (fun ts h g=>znh hl N ts d h (by omega) g) (zak r).1.sk (zak r).2 (by omega) gb (txt (zak r).1.word) [] k.start [] ")" (⟨form,ws,b,tr,ks,c,40 - (d+1)⟩::fs) res
      have g1:Goes ⟨⟨form,ws,b,tr,.p bb::ks,c,40 - (d+1)⟩::fs,k::r++[sent hl],res⟩ ⟨⟨txt (zak r).1.word,[],k.start,[],(zak r).1.sk,")",40 - d⟩::⟨form,ws,b,tr,ks,c,40 - (d+1)⟩::fs,(zak r).2++[sent hl],res⟩:=Goes.one (by
        show (if 40 - (d+1)=40 then _ else if kindOf k.tok=txt "(" then (if (r++[sent hl]).isEmpty=true then none else some (Except.ok ⟨zf0 k.start (40 - (d+1)+1) (r++[sent hl])::_::fs,(zak (r++[sent hl])).2,res⟩:Vaunid.Res MS)) else _)=_
        rw [if_neg (by omega),if_pos ((zhw gk).mpr hp),if_neg (by cases r <;> simp),zi8,show 40 - (d+1)+1=40 - d by omega]
        unfold zf0
        rw [zi8])
      unfold zdt
      rw [zs2] at st
      cases h1:zaq hl (zcn hl d) (zak r).1.kinds (zak r).2 with
      | error e =>
        rw [h1] at st
        obtain ⟨n,hn⟩:=st
        exact g1 _ _ hn
      | ok v =>
        obtain ⟨is,q⟩:=v
        rw [h1] at st
        obtain ⟨trs,i1,i2,i3,i4,⟨pre2,i5⟩,i6,i7⟩:=st
        rw [List.nil_append,List.nil_append] at i7
        have g2:=g1.trans i7
        have gq:zb1 q:=by rw [i5] at gb;exact gb.suf
        obtain ⟨m1,m2,m3⟩:=zts _ _ i6
        unfold zj1
        dsimp only
        cases q with
        | nil =>
          obtain ⟨m,hm⟩:=g2 (.error ⟨6,hl⟩) 1 (.bad (by
            show some (if kindOf (sent hl).tok=txt ")" then _ else Vaunid.fault 6 hl)=_
            rw [if_neg (by rw [zhq];decide +kernel)]
            rfl))
          exact ⟨m,hm⟩
        | cons x q =>
          have gx:=gq x (List.mem_cons_self ..)
          rw [zvb (zo6 gx)]
          by_cases hx:kindOf x.tok=txt ")"
          · rw [if_pos hx]
            dsimp only
            have g3:=g2.trans (Goes.one (s':=⟨⟨form,ws,b,tr++[.mk (txt (zak r).1.word) (zgu is) k.start x.halt_ trs],ks,c,40 - (d+1)⟩::fs,q++[sent hl],res⟩) (by
              show some (if kindOf x.tok=txt ")" then _ else _)=_
              rw [if_pos hx]
              rfl))
            refine ⟨.mk (txt (zak r).1.word) (zgu is) k.start x.halt_ trs,?_,?_,?_,?_,?_,g3⟩
            · rw [← m1,← m2]
              rw [← m3] at i1
              exact .mk i1
            · show k.start::zdy trs=_
              rw [i2]
            · show 1+zmz trs≤d+1
              omega
            · rw [List.length_cons] at i4 ⊢
              rw [List.length_cons]
              omega
            · exact ⟨k::(pre++(pre2++[x])),by
                rw [List.cons_append,List.append_assoc,List.append_assoc]
                show _=k::(pre++(pre2++x::q))
                rw [← i5,← epre]⟩
          · rw [if_neg hx]
            obtain ⟨m,hm⟩:=g2 (.error ⟨6,x.start⟩) 1 (.bad (by
              show some (if kindOf x.tok=txt ")" then _ else Vaunid.fault 6 x.start)=_
              rw [if_neg hx]
              rfl))
            exact ⟨m,hm⟩
    · rw [zpi hp]
      cases h1:Vaunid.leafOf k.tok with
      | none =>
        refine ⟨1,.bad ?_⟩
        show (if 40 - (d+1)=40 then _ else if kindOf k.tok=txt "(" then _ else match Vaunid.leafOf k.tok with | some x=>_ | none=>some (Vaunid.fault 6 k.start))=_
        rw [if_neg (by omega),if_neg (fun z=>hp ((zhw gk).mp z)),h1]
        rfl
      | some x =>
        refine ⟨zk7 k x,?_,rfl,?_,?_,⟨[k],rfl⟩,Goes.one ?_⟩
        · exact Rep.mk (t := .leaf x) .nil
        · show 1+0≤d+1
          omega
        · show 1+r.length≤r.length+1
          omega
        · show (if 40 - (d+1)=40 then _ else if kindOf k.tok=txt "(" then _ else match Vaunid.leafOf k.tok with | some x=>_ | none=>some (Vaunid.fault 6 k.start))=_
          rw [if_neg (by omega),if_neg (fun z=>hp ((zhw gk).mp z)),h1]
          rfl
noncomputable def zig (hl:Nat) (ts:Toks):MS:=⟨[⟨txt "whole",[],0,[],[.p false],"end",0⟩],ts++[sent hl],[]⟩
theorem zpq (hl:Nat) (ts:Toks) (hg:zb1 ts) (h0 : ∀ k∈ts,¬ k.tok=sign "end"):match zcn hl 40 ts with
    | .error e=>∃ n,Run (zig hl ts) (.error e) n
    | .ok (a,pl,r)=>match r with
      | k::_=>∃ n,Run (zig hl ts) (.error ⟨6,k.start⟩) n
      | []=>∃ t n e,Rep a t∧zdz t=pl∧zmy t≤40∧pl.length≤ts.length∧Run (zig hl ts) (.ok (.mk (txt "whole") [] 0 e [t])) n:=by
  have h:=znh hl ts.length ts 40 (Nat.le_refl _) (Nat.le_refl _) hg (txt "whole") [] 0 [] false [] "end" [] []
  cases h1:zcn hl 40 ts with
  | error e=>rw [h1] at h;exact h
  | ok v =>
    obtain ⟨a,pl,r⟩:=v
    rw [h1] at h
    obtain ⟨t,t1,t2,t3,t4,⟨pre,t5⟩,t6⟩:=h
    cases r with
    | nil =>
      obtain ⟨m,hm⟩:=t6 (.ok (.mk (txt "whole") [] 0 hl [t])) 1 (.go (s':=⟨[],[],[.mk (txt "whole") [] 0 hl [t]]⟩) (by
        show some (if kindOf (sent hl).tok=txt "end" then _ else _)=_
        rw [if_pos (zhq hl)]
        rfl) .done)
      exact ⟨t,m,hl,t1,t2,t3,by have:([]:Toks).length=0:=rfl;omega,hm⟩
    | cons k q =>
      have gk:zbb k.tok:=hg k (by rw [t5];exact List.mem_append_right _ (List.mem_cons_self ..))
      have hk : ¬ kindOf k.tok=txt "end":=fun z=>h0 k (by rw [t5];exact List.mem_append_right _ (List.mem_cons_self ..)) ((ztu gk).mp z)
      obtain ⟨m,hm⟩:=t6 (.error ⟨6,k.start⟩) 1 (.bad (by
        show some (if kindOf k.tok=txt "end" then _ else Vaunid.fault 6 k.start)=_
        rw [if_neg hk]
        rfl))
      exact ⟨m,hm⟩
open Vaunid (Token txt word sign isDigit isSmall inWord)
theorem ztk {s:List Nat}{c:Nat}{r:List Nat} (e:s=c::r) (hc:isDigit c=true) {o u:Nat} (h:(Vaunid.numberText s).2.1=some (o,u)):o<10 ^ 12∧u<10 ^ 12∧((Vaunid.numberText s).1=1→u=1):=by
  have key : ∀ (b:Bool) (T L o u:Nat),(if b=true then some (T / T.gcd L,L / T.gcd L) else none)=some (o,u)→b=true∧T / T.gcd L=o∧L / T.gcd L=u:=by
    intro b T L o u h
    cases b with
    | true=>rw [if_pos rfl] at h;cases h;exact ⟨rfl,rfl,rfl⟩
    | false=>cases h
  unfold Vaunid.numberText at h ⊢
  dsimp only at h ⊢
  obtain ⟨hg,e1,e2⟩:=key _ _ _ _ _ h
  rw [e1,e2] at hg
  simp only [Bool.and_eq_true,decide_eq_true_eq,Vaunid.fits] at hg
  refine ⟨hg.2.2.2.1,hg.2.2.2.2,fun h1=>?_⟩
  have ha:1≤(s.takeWhile isDigit).length:=by
    rw [e,List.takeWhile_cons,hc]
    exact Nat.succ_le_succ (Nat.zero_le _)
  by_cases hx:(Vaunid.secondRow (s.dropWhile isDigit)).1=0
  · rw [hx] at e2
    simp at e2
    exact e2.symm
  · rw [if_neg hx] at h1
    omega
theorem zo4 {p:Nat}{s r:List Nat}{k:Token} (hl:s.length≤10000) (h:Vaunid.token true p s = .ok (k,r)):zbb k.tok∧¬ k.tok=sign "end":=by
  unfold Vaunid.token at h
  cases s with
  | nil=>cases h
  | cons c s =>
    dsimp only at h
    split at h
    · rename_i hc
      unfold Vaunid.wordToken at h
      dsimp only at h
      split at h
      · cases h
      · rename_i hn
        cases h
        refine ⟨⟨?_,by simp only [Vaunid.MOSTSIGNS] at hn;omega⟩,by intro z;cases z⟩
        rw [List.takeWhile_cons,zfp hc]
        show (isSmall c && (s.takeWhile inWord).all inWord)=true
        rw [hc]
        exact List.all_eq_true.mpr (zg1 _)
    · have num : ∀ neg:Bool,(∃ c' s',(if neg=true then (c::s).drop 1 else c::s)=c'::s'∧isDigit c'=true)→Vaunid.numberToken neg p (c::s) = .ok (k,r)→zbb k.tok∧¬ k.tok=sign "end":=by
        rintro neg ⟨c',s',e1,e2⟩ h
        unfold Vaunid.numberToken at h
        dsimp only at h
        cases h1:(Vaunid.numberText (if neg=true then (c::s).drop 1 else c::s)).2.1 with
        | none=>rw [h1] at h;cases h
        | some v =>
          obtain ⟨o,u⟩:=v
          rw [h1] at h
          dsimp only at h
          obtain ⟨b1,b2,b3⟩:=ztk e1 e2 h1
          have bt:(if neg=true then -(o:Int) else (o:Int)).natAbs<10 ^ 12:=by
            split
            · rw [Int.natAbs_neg];exact b1
            · exact b1
          have nr:=zjt (if neg=true then (c::s).drop 1 else c::s)
          split at h
          · rename_i r' hr
            split at h
            · cases h
            · rename_i hm
              cases h
              refine ⟨⟨fun m e=>?_,bt,b2,fun n e=>by cases e⟩,by intro z;cases z⟩
              cases e
              have hm2:Vaunid.measureText ((r'.takeWhile fun c=>c != 93).length+1) (r'.takeWhile fun c=>c != 93)=true:=by
                cases q:Vaunid.measureText ((r'.takeWhile fun c=>c != 93).length+1) (r'.takeWhile fun c=>c != 93) with
                | true=>rfl
                | false=>exact absurd (.inr q) hm
              refine ⟨zov hm2,?_⟩
              have l1:=zf8 (fun c=>c != 93) r'
              have l2:r'.length+1=((if neg=true then (c::s).drop 1 else c::s).drop (Vaunid.numberText (if neg=true then (c::s).drop 1 else c::s)).1).length:=by rw [← nr.1,hr];rfl
              rw [List.length_drop] at l2
              have l3:(if neg=true then (c::s).drop 1 else c::s).length≤(c::s).length:=by
                split
                · rw [List.length_drop];omega
                · exact Nat.le_refl _
              omega
          · cases h
            refine ⟨⟨fun m e=>(by cases e),bt,b2,fun n e=>?_⟩,by intro z;cases z⟩
            by_cases h1:(Vaunid.numberText (if neg=true then (c::s).drop 1 else c::s)).1=1
            · rw [if_pos h1] at e
              cases e
              rw [b3 h1]
            · rw [if_neg h1] at e
              cases e
      split at h
      · rename_i hd
        exact num false ⟨c,s,rfl,hd⟩ h
      · split at h
        · rename_i hm
          refine num true ?_ h
          obtain ⟨_,hm⟩:=hm
          unfold Vaunid.minusDigit at hm
          split at hm
          · rename_i d s' e
            cases e
            exact ⟨d,s',rfl,hm⟩
          · cases hm
        · unfold Vaunid.signToken at h
          rw [if_pos rfl] at h
          cases h1:Vaunid.coreSigns.find? (fun x=>x.isPrefixOf (c::s)) with
          | none=>rw [h1] at h;cases h
          | some x =>
            rw [h1] at h
            cases h
            have hm:=List.mem_of_find?_eq_some h1
            refine ⟨.inl hm,fun z=>?_⟩
            have z:Vaunid.Tok.sign x=Vaunid.Tok.sign _:=z
            injection z with z
            rw [z] at hm
            exact absurd hm (by decide +kernel)
theorem zek : ∀ (n p:Nat) (s:List Nat) (l:List Token),s.length≤10000→Vaunid.tokens true n p s = .ok l→∀ k∈l,zbb k.tok∧¬ k.tok=sign "end"
  | n,p,[],l,hl,h=>by
    have:l=[]:=by cases n <;> (cases h;rfl)
    subst this
    simp
  | 0,p,c::r,l,hl,h=>by
    cases h
    simp
  | n+1,p,c::r,l,hl,h=>by
    unfold Vaunid.tokens at h
    have hl':r.length+1≤10000:=hl
    split at h
    · exact zek n _ r l (by omega) h
    · split at h
      · rename_i hz
        cases hz.1
      · cases q:Vaunid.token true p (c::r) with
        | error e=>rw [q] at h;cases h
        | ok x =>
          obtain ⟨k,s⟩:=x
          rw [q] at h
          dsimp only at h
          have tf:=zcv q
          have hs:s.length≤r.length:=by
            have h3:=tf.lt
            rw [tf.rest,List.length_drop,List.length_cons]
            omega
          cases q2:Vaunid.tokens true n k.halt_ s with
          | error e=>rw [q2] at h;cases h
          | ok l2 =>
            rw [q2] at h
            cases h
            have:=zek n _ s l2 (by omega) q2
            intro y hy
            rcases List.mem_cons.mp hy with e | e
            · rw [e];exact zo4 hl q
            · exact this y e
open Vaunid (Token txt word sign)
noncomputable def zl9 (la:Addr) (i:Int):List (Str×V):=[("ahead",.ref la),("index",.int i)]
noncomputable def zkh (k:Str) (o:Addr) (d:Int):List (Str×V):=[("kind",.str k),("owner",.ref o),("depth",.int d)]
noncomputable def zal (xs:List Addr) (H H':Hp):Prop:=∀ a o,a∉xs→H a=some o→H' a=some o
theorem zal.of {xs:List Addr}{H H':Hp} (s:Same H H'):zal xs H H':=fun a o _ e=>s a o e
theorem zal.trans {xs:List Addr}{H H1 H2:Hp} (s:zal xs H H1) (r:zal xs H1 H2):zal xs H H2:=fun a o n e=>r a o n (s a o n e)
theorem zal.more {xs ys:List Addr}{H H':Hp} (s:zal xs H H') (h : ∀ a∈xs,a∈ys):zal ys H H':=fun a o n e=>s a o (fun m=>n (h a m)) e
theorem zal.upd {xs:List Addr}{H:Hp}{a:Addr}{o:HO} (h:a∈xs):zal xs H (L2.upd H a o):=fun b u n e=>by rw [zah (fun (z:b=a)=>n (z ▸ h))];exact e
theorem zal.base {xs:List Addr}{H0 H H':Hp} (s:zal xs H H') (b:Same H0 H) (h : ∀ a∈xs,H0 a=none):Same H0 H':=fun a o e=>s a o (fun m=>by rw [h a m] at e;cases e) (b a o e)
structure Imm (H H':Hp):Prop where
  tok : ∀ a C dx g k b e c,H a=some (.ins C dx (zga g k b e c))→H' a=some (.ins C dx (zga g k b e c))
  amt : ∀ a C dx o u m,H a=some (.ins C dx (afs o u m))→H' a=some (.ins C dx (afs o u m))
theorem zve {g:Int}{k:Str}{b e:Int}{c:V}{la:Addr}{i:Int}:zga g k b e c≠zl9 la i:=fun h=>by
  have:=congrArg (List.map Prod.fst) h
  have q:([("group":Str),"kind","begin","end","content"]:List Str)=[("ahead":Str),"index"]:=this
  exact absurd q (by decide +kernel)
theorem zss {g:Int}{k:Str}{b e:Int}{c:V}{f:Str}{w p:Addr}{b' e':Int}:zga g k b e c≠zcb f w p b' e':=fun h=>by
  have:=congrArg (List.map Prod.fst) h
  have q:([("group":Str),"kind","begin","end","content"]:List Str)=[("form":Str),"words","parts","begin","end"]:=this
  exact absurd q (by decide +kernel)
theorem zw1 {o u:Int}{m:Str}{la:Addr}{i:Int}:afs o u m≠zl9 la i:=fun h=>by
  have:=congrArg (List.map Prod.fst) h
  have q:([("over":Str),"under","measure"]:List Str)=[("ahead":Str),"index"]:=this
  exact absurd q (by decide +kernel)
theorem zue {o u:Int}{m:Str}{f:Str}{w p:Addr}{b' e':Int}:afs o u m≠zcb f w p b' e':=fun h=>by
  have:=congrArg (List.map Prod.fst) h
  have q:([("over":Str),"under","measure"]:List Str)=[("form":Str),"words","parts","begin","end"]:=this
  exact absurd q (by decide +kernel)
inductive NT (H:Hp) (x:Addr):Prop
  | lst {l:List V}:H x=some (.lst l)→NT H x
  | row {C dx la:Addr}{i:Int}:H x=some (.ins C dx (zl9 la i))→NT H x
  | node {C dx:Addr}{f:Str}{w p:Addr}{b e:Int}:H x=some (.ins C dx (zcb f w p b e))→NT H x
theorem NT.tok {H:Hp}{x C dx:Addr}{g:Int}{k:Str}{b e:Int}{c:V} (h:NT H x) (q:H x=some (.ins C dx (zga g k b e c))):False:=by
  rcases h with h | h | h
  · rw [h] at q;cases q
  · rw [h] at q;injection q with q;injection q with _ _ q;exact zve q.symm
  · rw [h] at q;injection q with q;injection q with _ _ q;exact zss q.symm
theorem NT.amt {H:Hp}{x C dx:Addr}{o u:Int}{m:Str} (h:NT H x) (q:H x=some (.ins C dx (afs o u m))):False:=by
  rcases h with h | h | h
  · rw [h] at q;cases q
  · rw [h] at q;injection q with q;injection q with _ _ q;exact zw1 q.symm
  · rw [h] at q;injection q with q;injection q with _ _ q;exact zue q.symm
theorem Imm.of {xs:List Addr}{H H':Hp} (s:zal xs H H') (h : ∀ x∈xs,NT H x):Imm H H' :=
  ⟨fun a C dx g k b e c q=>s a _ (fun m=>(h a m).tok q) q,fun a C dx o u m q=>s a _ (fun n=>(h a n).amt q) q⟩
noncomputable def zy3 (Ca:Addr) (H:Hp) (c:V):Vaunid.Tok→Prop
  | .sign _=>True
  | k=>zlu Ca H c k
noncomputable def TokB (Ca Ct:Addr) (H:Hp) (a:Addr) (k:Token):Prop:=∃ dx c,H a=some (.ins Ct dx (zga (Vaunid.sortOf k.tok) (S (kindOf k.tok)) (k.start:Int) (k.halt_:Int) c))∧zy3 Ca H c k.tok
theorem zea.b {Ca Ct:Addr}{H:Hp}{a:Addr}{k:Token} (h:zea Ca Ct H a k):TokB Ca Ct H a k:=by
  obtain ⟨dx,c,e,q⟩:=h
  refine ⟨dx,c,e,?_⟩
  cases hk:k.tok with
  | word w=>rw [hk] at q;exact q
  | num v d=>rw [hk] at q;exact q
  | sign x=>trivial
theorem TokB.imm {Ca Ct:Addr}{H H':Hp}{a:Addr}{k:Token} (h:TokB Ca Ct H a k) (s:Imm H H'):TokB Ca Ct H' a k:=by
  obtain ⟨dx,c,e,q⟩:=h
  refine ⟨dx,c,s.tok _ _ _ _ _ _ _ _ e,?_⟩
  cases hk:k.tok with
  | word w=>rw [hk] at q;exact q
  | num v d=>rw [hk] at q;obtain ⟨b,e1,dx',e2⟩:=q;exact ⟨b,e1,dx',s.amt _ _ _ _ _ _ e2⟩
  | sign x=>trivial
noncomputable def zb3 (Ca Ct Cr:Addr) (H:Hp) (row la:Addr) (l:Toks):Prop:=∃ (dx:Addr) (as:List Addr) (i:Nat),H row=some (.ins Cr dx (zl9 la (i:Int)))∧H la=some (.lst (as.map V.ref))∧Paired (fun a k=>TokB Ca Ct H a k) (as.drop i) l
theorem zb3.keep {Ca Ct Cr:Addr}{H H':Hp}{row la:Addr}{l:Toks} (h:zb3 Ca Ct Cr H row la l) {xs:List Addr} (s:zal xs H H') (nt : ∀ x∈xs,NT H x) (n1:row∉xs) (n2:la∉xs):zb3 Ca Ct Cr H' row la l:=by
  obtain ⟨dx,as,i,h1,h2,h3⟩:=h
  exact ⟨dx,as,i,s _ _ n1 h1,s _ _ n2 h2,Paired.mapP h3 fun a k z=>z.imm (Imm.of s nt)⟩
theorem zb3.same {Ca Ct Cr:Addr}{H H':Hp}{row la:Addr}{l:Toks} (h:zb3 Ca Ct Cr H row la l) (s:Same H H'):zb3 Ca Ct Cr H' row la l:=h.keep (xs:=[]) (zal.of s) (by simp) (by simp) (by simp)
theorem zb3.nt {Ca Ct Cr:Addr}{H:Hp}{row la:Addr}{l:Toks} (h:zb3 Ca Ct Cr H row la l):NT H row:=let ⟨_,_,_,h1,_,_⟩:=h;.row h1
noncomputable def zet (Cs:Addr) (H:Hp) (ss:List Addr) (ks:List String) (o:Addr) (d:Nat):Prop:=Paired (fun s k=>∃ dx,H s=some (.ins Cs dx (zkh (Str.ofString k) o (d:Int)))) ss ks
noncomputable def Kp (xs:List Addr) (H H':Hp):Prop:=∀ a∈xs,∀ o,H a=some o→H' a=some o
theorem Kp.sub {xs ys:List Addr}{H H':Hp} (k:Kp xs H H') (h : ∀ a∈ys,a∈xs):Kp ys H H':=fun a m=>k a (h a m)
theorem Kp.of {xs ys:List Addr}{H H':Hp} (s:zal ys H H') (d : ∀ a∈xs,a∉ys):Kp xs H H':=fun a m o e=>s a o (d a m) e
theorem zhl {A B:Type}{R S:A→B→Prop} : ∀ {l:List A}{m:List B},Paired R l m→(∀ a∈l,∀ b,R a b→S a b)→Paired S l m
  | _,_,.nil,_ => .nil
  | _,_,.cons h t,k => .cons (k _ (List.mem_cons_self ..) _ h) (zhl t fun a m=>k a (List.mem_cons_of_mem _ m))
theorem zet.keep {Cs:Addr}{H H':Hp}{ss:List Addr}{ks:List String}{o:Addr}{d:Nat} (h:zet Cs H ss ks o d) (k:Kp ss H H'):zet Cs H' ss ks o d:=zhl h fun a m b ⟨dx,e⟩=>⟨dx,k a m _ e⟩
theorem zet.here {Cs:Addr}{H:Hp}{o:Addr}{d:Nat} : ∀ {ss:List Addr}{ks:List String},zet Cs H ss ks o d→∀ a∈ss,∃ u,H a=some u
  | _,_,.nil,a,m=>by simp at m
  | _,_,.cons ⟨dx,e⟩ t,a,m=>by
    rcases List.mem_cons.mp m with q | q
    · exact ⟨_,q ▸ e⟩
    · exact zet.here t a q
structure FrAt (Cn Cs:Addr) (H:Hp) (n:Addr) (pf:PF) (next ss:List Addr) (dx wl pl:Addr) (as F:List Addr) (e:Nat):Prop where
  node:H n=some (.ins Cn dx (zcb (S pf.form) wl pl (pf.b:Int) (e:Int)))
  words:H wl=some (.lst ((pf.ws.map S).map V.str))
  parts:H pl=some (.lst ((as++next).map V.ref))
  trees:TreesAt Cn H as pf.ts F
  steps:zet Cs H ss (pf.ks.map SK.w++[pf.c]) n pf.d
theorem FrAt.keep {Cn Cs:Addr}{H H':Hp}{n:Addr}{pf:PF}{next ss:List Addr}{dx wl pl:Addr}{as F:List Addr}{e:Nat} (h:FrAt Cn Cs H n pf next ss dx wl pl as F e) (k:Kp ((n::wl::pl::F)++ss) H H'):FrAt Cn Cs H' n pf next ss dx wl pl as F e :=
  ⟨k n (by simp) _ h.node,k wl (by simp) _ h.words,k pl (by simp) _ h.parts,h.trees.keep fun b m o q=>k b (by simp [m]) o q,h.steps.keep fun a m o q=>k a (by simp [m]) o q⟩
theorem FrAt.here {Cn Cs:Addr}{H:Hp}{n:Addr}{pf:PF}{next ss:List Addr}{dx wl pl:Addr}{as F:List Addr}{e:Nat} (h:FrAt Cn Cs H n pf next ss dx wl pl as F e) : ∀ a∈(n::wl::pl::F)++ss,∃ u,H a=some u:=fun a m=>by
  rcases List.mem_append.mp m with m | m
  · rcases List.mem_cons.mp m with q | m
    · exact ⟨_,q ▸ h.node⟩
    · rcases List.mem_cons.mp m with q | m
      · exact ⟨_,q ▸ h.words⟩
      · rcases List.mem_cons.mp m with q | m
        · exact ⟨_,q ▸ h.parts⟩
        · exact h.trees.here a m
  · exact h.steps.here a m
inductive Stk (Cn Cs:Addr) (H:Hp) (wh:Addr):List PF→List Addr→List Addr→List Addr→Prop
  | bot {pf:PF}{next ss:List Addr}{dx wl pl:Addr}{as F:List Addr}{e:Nat}:FrAt Cn Cs H wh pf next ss dx wl pl as F e→Stk Cn Cs H wh [pf] next ss (wh::wl::pl::F)
  | cons {n:Addr}{pf g:PF}{r:List PF}{next ss ss2 own2:List Addr}{dx wl pl:Addr}{as F:List Addr}{e:Nat}:FrAt Cn Cs H n pf next ss dx wl pl as F e→Stk Cn Cs H wh (g::r) [n] ss2 own2→Stk Cn Cs H wh (pf::g::r) next (ss++ss2) ((n::wl::pl::F)++own2)
theorem Stk.keep {Cn Cs:Addr}{H H':Hp}{wh:Addr} : ∀ {fs:List PF}{next ss own:List Addr},Stk Cn Cs H wh fs next ss own→Kp (own++ss) H H'→Stk Cn Cs H' wh fs next ss own
  | _,_,_,_,.bot h,k => .bot (h.keep k)
  | _,_,_,_,.cons h t,k => .cons (h.keep (k.sub fun a m=>by simp at m ⊢;rcases m with m | m | m | m | m <;> simp [m])) (Stk.keep t (k.sub fun a m=>by simp at m ⊢;rcases m with m | m <;> simp [m]))
theorem Stk.here {Cn Cs:Addr}{H:Hp}{wh:Addr} : ∀ {fs:List PF}{next ss own:List Addr},Stk Cn Cs H wh fs next ss own→∀ a∈own++ss,∃ u,H a=some u
  | _,_,_,_,.bot h,a,m=>h.here a m
  | _,_,_,_,.cons h t,a,m=>by
    rw [List.mem_append,List.mem_append,List.mem_append] at m
    rcases m with (m | m) | (m | m)
    · exact h.here a (List.mem_append_left _ m)
    · exact Stk.here t a (List.mem_append_left _ m)
    · exact h.here a (List.mem_append_right _ m)
    · exact Stk.here t a (List.mem_append_right _ m)
noncomputable def cnt (pf:PF):Nat:=pf.ts.length+pf.ws.length+pf.ks.length
noncomputable def LvB:List PF→Prop
  | []=>True
  | pf::r=>cnt pf≤4∧(pf.c=")"∨pf.c="end")∧pf.d=r.length∧pf.d≤40∧LvB r
noncomputable def Lv:List PF→Prop
  | []=>True
  | pf::r=>cnt pf≤5∧(pf.c=")"∨pf.c="end")∧pf.d=r.length∧pf.d≤40∧LvB r
theorem LvB.lv {l:List PF} (h:LvB l):Lv l:=by
  cases l with
  | nil=>trivial
  | cons pf r=>exact ⟨Nat.le_succ_of_le h.1,h.2⟩
theorem zum (f:Fm):f.sk.length≤5:=by cases f <;> decide
theorem zet.length {Cs:Addr}{H:Hp}{ss:List Addr}{ks:List String}{o:Addr}{d:Nat} (h:zet Cs H ss ks o d):ss.length=ks.length:=Paired.length h
theorem Stk.len {Cn Cs:Addr}{H:Hp}{wh:Addr} : ∀ {fs:List PF}{next ss own:List Addr},Stk Cn Cs H wh fs next ss own→LvB fs→ss.length≤6 * fs.length
  | _,_,_,_,.bot h,k=>by
    have:=h.steps.length
    rw [List.length_append,List.length_map] at this
    have h1:=k.1
    unfold cnt at h1
    simp at this ⊢
    omega
  | _,_,_,_,.cons h t,k=>by
    have:=h.steps.length
    rw [List.length_append,List.length_map] at this
    have h1:=k.1
    unfold cnt at h1
    have:=Stk.len t k.2.2.2.2
    simp at *
    omega
theorem zwf {s s':MS} (h:Lv s.fs) (e:zc7 s=some (.ok s')):Lv s'.fs:=by
  obtain ⟨fs,l,res⟩:=s
  cases fs with
  | nil=>cases e
  | cons pf fs =>
    cases l with
    | nil=>cases e
    | cons t l =>
      obtain ⟨form,ws,b,ts,ks,c,d⟩:=pf
      obtain ⟨h1,hc,h2,h3,h4⟩:=h
      simp only [cnt] at h1
      cases ks with
      | nil =>
        simp only [zc7] at e
        split at e
        · cases fs with
          | nil=>cases e;trivial
          | cons g r =>
            cases e
            obtain ⟨g1,gc,g2,g3,g4⟩:=h4
            refine ⟨?_,gc,g2,g3,g4⟩
            simp only [cnt,List.length_append,List.length_singleton] at g1 ⊢
            omega
        · cases e
      | cons k ks =>
        rw [List.length_cons] at h1
        cases k with
        | n =>
          simp only [zc7] at e
          split at e
          · cases e
            refine ⟨?_,hc,h2,h3,h4⟩
            simp only [cnt,List.length_append,List.length_singleton]
            omega
          · cases e
        | pw =>
          simp only [zc7] at e
          split at e
          · cases e
            refine ⟨?_,hc,h2,h3,h4⟩
            simp only [cnt,List.length_append,List.length_singleton]
            omega
          · cases e
        | p bb =>
          simp only [zc7] at e
          split at e
          · cases e
          · rename_i hd
            split at e
            · split at e
              · cases e
              · cases e
                have:=zum (zak l).1
                refine ⟨?_,.inl rfl,?_,?_,⟨?_,hc,h2,h3,h4⟩⟩
                · simp only [cnt,zf0,List.length_nil]
                  omega
                · simp only [zf0,List.length_cons]
                  simp only at h2
                  omega
                · simp only [zf0]
                  simp only at h3
                  omega
                · simp only [cnt]
                  omega
            · split at e
              · cases e
                refine ⟨?_,hc,h2,h3,h4⟩
                simp only [cnt,List.length_append,List.length_singleton]
                omega
              · cases e
theorem zvd (a b:String):Vaunid.txt (a++b)=Vaunid.txt a++Vaunid.txt b:=by
  unfold Vaunid.txt
  rw [String.toList_append,List.map_append]
theorem zps (n:Nat):Vaunid.txt (Nat.repr n)=Vaunid.decimal n:=by
  unfold Vaunid.txt Vaunid.decimal Nat.repr
  rw [String.toList_ofList]
theorem zvc (z:Int):Vaunid.txt (toString z)=Vaunid.decimalInt z:=by
  unfold Vaunid.decimalInt
  cases z with
  | ofNat m =>
    rw [if_neg (show ¬ (Int.ofNat m<0) from Int.not_lt.mpr (Int.natCast_nonneg m))]
    exact zps m
  | negSucc m =>
    rw [if_pos (by omega)]
    show Vaunid.txt ("-"++Nat.repr (m+1))=_
    rw [zvd,zps]
    rfl
theorem str_int (z:Int):Str.ofString (toString z)=S (Vaunid.decimalInt z):=by rw [zbs,zvc]
theorem zko {z:Int} (h:z.natAbs<10 ^ 12):z.natAbs.log2<1920:=by
  by_cases h0:z.natAbs=0
  · rw [h0];decide
  · exact Nat.lt_trans ((Nat.log2_lt h0).mpr (Nat.lt_trans h (show 10 ^ 12<2 ^ 40 by decide))) (by decide)
theorem zeo {n:Nat} (h:n<10 ^ 12):(Vaunid.decimal n).length≤12:=by
  unfold Vaunid.decimal
  rw [List.length_map]
  exact (Nat.length_toDigits_le_iff (by decide) (by decide)).mpr h
theorem zeb {z:Int} (h:z.natAbs<10 ^ 12):(Vaunid.decimalInt z).length≤13:=by
  unfold Vaunid.decimalInt
  have:=zeo h
  split
  · rw [List.length_cons];omega
  · omega
theorem zic (n:Nat):Vaunid.decimalInt (n:Int)=Vaunid.decimal n:=by
  unfold Vaunid.decimalInt
  rw [if_neg (by omega)]
  rfl
noncomputable def zj5 (v:Vaunid.Lit):Prop:=(∀ m,v.measure=some m→m≠[]∧m.length≤10000)∧v.top.natAbs<10 ^ 12∧v.low<10 ^ 12
theorem zkq:Str.ofString "/"=S [47]:=by decide +kernel
theorem zti:Str.ofString "["=S [91]:=by decide +kernel
theorem zse:Str.ofString "]"=S [93]:=by decide +kernel
theorem zr0:Str.ofString ""=S []:=by decide +kernel
theorem zkr (v:Vaunid.Lit) (g:zj5 v):Vaunid.shownLit v=(Vaunid.decimalInt v.top++(if v.low=1 then [] else 47::Vaunid.decimal v.low))++(if v.measure.getD []=[] then [] else 91::(v.measure.getD []++[93])):=by
  unfold Vaunid.shownLit
  rw [List.append_assoc]
  congr 2
  cases h:v.measure with
  | none=>rfl
  | some m =>
    show 91::(m++[93])=if m=[] then [] else 91::(m++[93])
    rw [if_neg (g.1 m h).1]
theorem zdq {C:Addr}{names:List Str}{vs:List V}{H:Hp}{E:XK}{R:Addr→Hp→Prop} (hl:vs.length=names.length) (k : ∀ x dx H1,H x=none→Same H H1→H1 x=some (.ins C dx (names.zip vs))→R x H1) :
    ∀ x dx,H x=none→H dx=none→dx≠x→zbt C names (.ref x::vs) (upd (upd H dx (.own x)) x (.ins C dx [])) (fun v H2=>v = .non∧R x H2) E:=fun x dx hx hdx hne=>by
  refine ⟨x,dx,vs,rfl,hl,zad,rfl,?_⟩
  rw [zgy]
  exact k x dx _ hx (zbi hx hdx) zad
theorem none_of {H H1:Hp}{a:Addr} (s:Same H H1) (h:H1 a=none):H a=none:=by
  cases q:H a with
  | none=>rfl
  | some o=>rw [s _ _ q] at h;cases h
theorem znz {xs:List Addr}{H H1:Hp}{a:Addr} (s:zal xs H H1) (n:a∉xs) (h:H1 a=none):H a=none:=by
  cases q:H a with
  | none=>rfl
  | some o=>rw [s _ _ n q] at h;cases h
theorem nin {a b:Addr} (h:a≠b):a∉[b]:=fun m=>h (List.mem_singleton.mp m)
theorem zby {A B:Type}{R:A→B→Prop} : ∀ {l:List A}{m:List B}{a:A}{b:B},Paired R l m→R a b→Paired R (l++[a]) (m++[b])
  | _,_,_,_,.nil,h => .cons h .nil
  | _,_,_,_,.cons r t,h => .cons r (zby t h)
structure BI (Ca Ct Cr Cn Cs:Addr) (H:Hp) (row la todo:Addr) (xs:List V) (r:Toks) (n dx wl pl:Addr) (f:Str) (b:Int) (d:Nat) (H':Hp) (ss:List Addr) (ks:List String):Prop where
  sx:zal [row,todo] H H'
  row:zb3 Ca Ct Cr H' row la r
  todo:H' todo=some (.lst (xs++ss.reverse.map V.ref))
  steps:zet Cs H' ss ks n d
  node:H' n=some (.ins Cn dx (zcb f wl pl b b))
  words:H' wl=some (.lst [])
  parts:H' pl=some (.lst [])
  nd:(n::wl::pl::ss).Nodup
  fr : ∀ a∈n::wl::pl::ss,H a=none
theorem BI.add {Ca Ct Cr Cn Cs:Addr}{H:Hp}{row la todo:Addr}{xs:List V}{r:Toks}{n dx wl pl:Addr}{f:Str}{b:Int}{d:Nat}{H' H2:Hp}{ss:List Addr}{ks:List String} (h:BI Ca Ct Cr Cn Cs H row la todo xs r n dx wl pl f b d H' ss ks) (ht:H todo=some (.lst xs)) (nla:la≠todo) {s dxs:Addr}{k:String}
    (hs:H' s=none) (sm:Same H' H2) (e:H2 s=some (.ins Cs dxs (zkh (Str.ofString k) n (d:Int)))):BI Ca Ct Cr Cn Cs H row la todo xs r n dx wl pl f b d (upd H2 todo (.lst (xs++ss.reverse.map V.ref++[.ref s]))) (s::ss) (k::ks):=by
  have ht2:=sm _ _ h.todo
  have sx2:zal [todo] H' (upd H2 todo (.lst (xs++ss.reverse.map V.ref++[.ref s]))):=(zal.of sm).trans (zal.upd (List.mem_singleton.mpr rfl))
  have fr : ∀ a∈n::wl::pl::ss,a∉[todo]:=fun a ha m=>by
    rw [List.mem_singleton.mp m] at ha
    have:=h.fr _ ha
    rw [ht] at this
    cases this
  have ns:s≠todo:=fun z=>by rw [z,h.todo] at hs;cases hs
  have nt : ∀ x∈[todo],NT H' x:=fun x hx=>by rw [List.mem_singleton.mp hx];exact .lst h.todo
  have nrow:row≠todo:=fun z=>by
    obtain ⟨_,_,_,q,_,_⟩:=h.row
    rw [z,h.todo] at q
    cases q
  have nr : ∀ a,H' a=none→a≠row:=fun a ha z=>by
    obtain ⟨_,_,_,q,_,_⟩:=h.row
    rw [z,q] at ha
    cases ha
  refine ⟨h.sx.trans (sx2.more (by simp)),h.row.keep sx2 nt (nin nrow) (nin nla),?_,?_,sx2 _ _ (fr n (by simp)) h.node,sx2 _ _ (fr wl (by simp)) h.words,sx2 _ _ (fr pl (by simp)) h.parts,?_,?_⟩
  · rw [zad,List.reverse_cons,List.map_append,← List.append_assoc]
    rfl
  · refine .cons ⟨dxs,by rw [zah ns];exact e⟩ (h.steps.keep (Kp.of sx2 fun a ha=>fr a (by simp [ha])))
  · have n1 : ∀ a∈n::wl::pl::ss,a≠s:=fun a ha z=>by
      have q : ∃ o,H' a=some o:=by
        simp at ha
        rcases ha with rfl | rfl | rfl | ha
        · exact ⟨_,h.node⟩
        · exact ⟨_,h.words⟩
        · exact ⟨_,h.parts⟩
        · exact h.steps.here a ha
      obtain ⟨o,q⟩:=q
      rw [z,hs] at q
      cases q
    have nd:=h.nd
    simp only [List.nodup_cons,List.mem_cons,not_or] at nd ⊢
    have m1:=n1 n (by simp)
    have m2:=n1 wl (by simp)
    have m3:=n1 pl (by simp)
    exact ⟨⟨nd.1.1,nd.1.2.1,m1,nd.1.2.2⟩,⟨nd.2.1.1,m2,nd.2.1.2⟩,⟨m3,nd.2.2.1⟩,⟨fun z=>n1 s (by simp [z]) rfl,nd.2.2.2⟩⟩
  · intro a ha
    rw [List.mem_cons,List.mem_cons,List.mem_cons,List.mem_cons] at ha
    rcases ha with q | q | q | q | q
    · exact h.fr a (by simp [q])
    · exact h.fr a (by simp [q])
    · exact h.fr a (by simp [q])
    · rw [q]
      exact znz h.sx (by simp [nr s hs,ns]) hs
    · exact h.fr a (by simp [q])
noncomputable def zgf (Cn Cs:Addr) (H:Hp) (wh n:Addr) (fs:List PF) (ss own:List Addr):Prop:=match fs with
  | []=>n=wh∧ss=[]∧own=[]
  | g::r=>Stk Cn Cs H wh (g::r) [n] ss own
theorem zgf.keep {Cn Cs:Addr}{H H':Hp}{wh n:Addr}{fs:List PF}{ss own:List Addr} (h:zgf Cn Cs H wh n fs ss own) (k:Kp (own++ss) H H'):zgf Cn Cs H' wh n fs ss own:=by
  cases fs with
  | nil=>exact h
  | cons g r=>exact Stk.keep h k
theorem Stk.top {Cn Cs:Addr}{H:Hp}{wh:Addr}{pf:PF}{fs:List PF}{next ss own:List Addr} (h:Stk Cn Cs H wh (pf::fs) next ss own) : ∃ n ss1 ss2 own2 dx wl pl as F e,FrAt Cn Cs H n pf next ss1 dx wl pl as F e∧zgf Cn Cs H wh n fs ss2 own2∧ss=ss1++ss2∧own=(n::wl::pl::F)++own2:=by
  cases h with
  | bot h=>exact ⟨_,_,[],[],_,_,_,_,_,_,h,⟨rfl,rfl,rfl⟩,by simp,by simp⟩
  | cons h t=>exact ⟨_,_,_,_,_,_,_,_,_,_,h,t,rfl,rfl⟩
theorem Stk.mk {Cn Cs:Addr}{H:Hp}{wh n:Addr}{pf:PF}{fs:List PF}{next ss1 ss2 own2:List Addr}{dx wl pl:Addr}{as F:List Addr}{e:Nat} (h:FrAt Cn Cs H n pf next ss1 dx wl pl as F e) (b:zgf Cn Cs H wh n fs ss2 own2):Stk Cn Cs H wh (pf::fs) next (ss1++ss2) ((n::wl::pl::F)++own2):=by
  cases fs with
  | nil =>
    obtain ⟨rfl,rfl,rfl⟩:=b
    rw [List.append_nil,List.append_nil]
    exact .bot h
  | cons g r=>exact .cons h b
structure AtM (Ca Ct Cr Cn Cs:Addr) (H0 H:Hp) (row la todo wh:Addr) (s:MS):Prop where
  same:Same H0 H
  rowAt:zb3 Ca Ct Cr H row la s.l
  goods:zb1 s.l
  lv:Lv s.fs
  frames:(s.fs≠[]∧∃ ss own,Stk Cn Cs H wh s.fs [] ss own∧H todo=some (.lst (ss.reverse.map V.ref))∧(row::todo::la::(own++ss)).Nodup∧∀ a∈row::todo::own,H0 a=none)∨(s.fs=[]∧H todo=some (.lst [])∧∃ tr F,s.res=[tr]∧TreeAt Cn H wh tr F)
structure Dj (row todo la n wl pl:Addr) (rest:List Addr):Prop where
  out : ∀ a∈rest,a∉[row,todo,n,wl,pl]
  rt:row≠todo
  rla:row≠la
  tla:todo≠la
  ra:row∉[n,wl,pl]
  ta:todo∉[n,wl,pl]
  laa:la∉[n,wl,pl]
  nw:n≠wl
  np:n≠pl
  wp:wl≠pl
  nd:rest.Nodup
theorem zt8 {row todo la n wl pl:Addr}{F own2 ss:List Addr} (h:(row::todo::la::(((n::wl::pl::F)++own2)++ss)).Nodup):Dj row todo la n wl pl (F++(own2++ss)):=by
  simp only [List.cons_append,List.append_assoc,List.nodup_cons,List.mem_cons,not_or] at h
  obtain ⟨⟨a1,a2,a3,a4,a5,a6⟩,⟨b1,b2,b3,b4,b5⟩,⟨c1,c2,c3,c4⟩,⟨d1,d2,d3⟩,⟨e1,e2⟩,f1,g⟩:=h
  refine ⟨fun a ha m=>?_,a1,a2,b1,by simp [a3,a4,a5],by simp [b2,b3,b4],by simp [c1,c2,c3],d1,d2,e1,g⟩
  simp only [List.mem_cons,List.not_mem_nil,or_false] at m
  rcases m with rfl | rfl | rfl | rfl | rfl
  · exact a6 ha
  · exact b5 ha
  · exact d3 ha
  · exact e2 ha
  · exact f1 ha
theorem zrc {X Y Z:List Addr} (hX:X.Nodup) (hY:Y.Nodup) (h : ∀ a∈Y,a∉X) (p:Z.Perm (Y++X)):Z.Nodup :=
  p.nodup_iff.mpr (List.nodup_append.mpr ⟨hY,hX,fun a ha b hb e=>h a ha (e ▸ hb)⟩)
open Vaunid (Token txt word sign)
section
variable {Ca Ct Cr Cn Cs:Addr}{H0 H H':Hp}{row la todo wh n dx wl pl st:Addr}{pf pf':PF}{fs:List PF}{l:Toks}{res:List Tr}{as F own2 ss1 ss2:List Addr}{e e':Nat}
theorem zgf.len {fs:List PF}{ss own:List Addr} (h:zgf Cn Cs H wh n fs ss own) (k:LvB fs):ss.length≤6 * fs.length:=by
  cases fs with
  | nil =>
    obtain ⟨_,rfl,_⟩:=h
    exact Nat.zero_le _
  | cons g r=>exact Stk.len h k
theorem zn5 {r:Toks} (hrow:zb3 Ca Ct Cr H row la r) {xs:List V} (hto:H todo=some (.lst xs)) {next:List Addr} (hf:FrAt Cn Cs H n pf next ss1 dx wl pl as F e) (hb:zgf Cn Cs H wh n fs ss2 own2) : ∀ a∈row::todo::la::(((n::wl::pl::F)++own2)++(ss1++ss2)),∃ o,H a=some o:=fun a ha=>by
  obtain ⟨_,_,_,q1,q2,_⟩:=hrow
  rw [List.mem_cons,List.mem_cons,List.mem_cons] at ha
  rcases ha with rfl | rfl | rfl | ha
  · exact ⟨_,q1⟩
  · exact ⟨_,hto⟩
  · exact ⟨_,q2⟩
  · exact (Stk.mk hf hb).here a ha
theorem zm9 (sm0:Same H0 H) (hto:H todo=some (.lst ((ss1++ss2).reverse.map V.ref))) {r:Toks} (hrow0:zb3 Ca Ct Cr H row la r) {next:List Addr} (hf:FrAt Cn Cs H n pf next (st::ss1) dx wl pl as F e) (hb:zgf Cn Cs H wh n fs ss2 own2)
    (hnd:(row::todo::la::(((n::wl::pl::F)++own2)++(st::ss1++ss2))).Nodup) (hfr : ∀ a∈row::todo::((n::wl::pl::F)++own2),H0 a=none)
    (sx:zal [row,n,wl,pl] H H') (hrow:zb3 Ca Ct Cr H' row la l) (gl:zb1 l) (lv:Lv (pf'::fs)) {as' G:List Addr} (node:H' n=some (.ins Cn dx (zcb (S pf'.form) wl pl (pf'.b:Int) (e':Int)))) (words:H' wl=some (.lst ((pf'.ws.map S).map V.str)))
    (parts:H' pl=some (.lst (as'.map V.ref))) (trees:TreesAt Cn H' as' pf'.ts (F++G)) (hG:G.Nodup) (fG : ∀ a∈G,H a=none) (steps:zet Cs H ss1 (pf'.ks.map SK.w++[pf'.c]) n pf'.d):AtM Ca Ct Cr Cn Cs H0 H' row la todo wh ⟨pf'::fs,l,res⟩:=by
  have dj:=zt8 hnd
  have sx5:zal [row,todo,n,wl,pl] H H':=sx.more (by simp)
  have keep : ∀ a,a∈F++(own2++(st::ss1++ss2))→∀ o,H a=some o→H' a=some o:=fun a ha o q=>sx5 a o (dj.out a ha) q
  have hh:=zn5 hrow0 hto hf hb
  refine ⟨sx.base sm0 (fun a ha=>hfr a (by simp at ha ⊢;rcases ha with h | h | h | h <;> simp [h])),hrow,gl,lv,.inl ⟨by simp,ss1++ss2,(n::wl::pl::(F++G))++own2,Stk.mk (e:=e') (next:=[]) (as:=as') ⟨node,words,by rw [List.append_nil];exact parts,trees,steps.keep fun a ha=>keep a (by simp [ha])⟩ (hb.keep fun a ha=>keep a ?_),?_,?_,?_⟩⟩
  · simp at ha ⊢
    rcases ha with h | h <;> simp [h]
  · exact sx _ _ (by have:=dj.ta;have:=dj.rt;simp at *;exact ⟨Ne.symm dj.rt,this.1,this.2.1,this.2.2⟩) hto
  · refine zrc (X:=row::todo::la::(((n::wl::pl::F)++own2)++(ss1++ss2))) (Y:=G) ?_ hG (fun a ha m=>?_) ?_
    · refine hnd.sublist ?_
      simp only [List.cons_append,List.append_assoc]
      refine List.Sublist.cons_cons _ (List.Sublist.cons_cons _ (List.Sublist.cons_cons _ (List.Sublist.cons_cons _ (List.Sublist.cons_cons _ (List.Sublist.cons_cons _ (List.Sublist.append_left (List.Sublist.append_left (List.sublist_cons_self ..) _) _))))))
    · obtain ⟨o,q⟩:=hh a (by simp at m ⊢;rcases m with h | h | h | h | h | h | h | h | h | h <;> simp [h])
      rw [fG a ha] at q
      cases q
    · refine List.perm_iff_count.mpr fun a=>?_
      simp only [List.cons_append,List.append_assoc,List.count_cons,List.count_append]
      omega
  · intro a ha
    rw [List.mem_cons,List.mem_cons,List.mem_append,List.mem_cons,List.mem_cons,List.mem_cons,List.mem_append] at ha
    rcases ha with h | h | (h | h | h | h | h) | h
    · exact hfr a (by simp [h])
    · exact hfr a (by simp [h])
    · exact hfr a (by simp [h])
    · exact hfr a (by simp [h])
    · exact hfr a (by simp [h])
    · exact hfr a (by simp [h])
    · exact none_of sm0 (fG a h)
    · exact hfr a (by simp [h])
theorem zuc (sm0:Same H0 H) (hto:H todo=some (.lst ((ss1++ss2).reverse.map V.ref))) {r:Toks} (hrow0:zb3 Ca Ct Cr H row la r) (hf:FrAt Cn Cs H n pf [] (st::ss1) dx wl pl as F e) (hb:zgf Cn Cs H wh n fs ss2 own2)
    (hnd:(row::todo::la::(((n::wl::pl::F)++own2)++(st::ss1++ss2))).Nodup) (hfr : ∀ a∈row::todo::((n::wl::pl::F)++own2),H0 a=none) {pn:PF} (lv:Lv (pn::pf'::fs))
    {n' dx' wl' pl':Addr}{ss':List Addr} (sx:zal [row,todo,pl] H H') (hrow:zb3 Ca Ct Cr H' row la l) (gl:zb1 l) (hto':H' todo=some (.lst ((ss1++ss2).reverse.map V.ref++ss'.reverse.map V.ref))) (steps':zet Cs H' ss' (pn.ks.map SK.w++[pn.c]) n' pn.d) (parts:H' pl=some (.lst (as.map V.ref++[.ref n'])))
    (node':H' n'=some (.ins Cn dx' (zcb (S pn.form) wl' pl' (pn.b:Int) (e':Int)))) (words':H' wl'=some (.lst [])) (parts':H' pl'=some (.lst [])) (w0:pn.ws=[]) (t0:pn.ts=[]) (nd':(n'::wl'::pl'::ss').Nodup) (fr' : ∀ a∈n'::wl'::pl'::ss',H a=none)
    (f1:pf'.form=pf.form) (f2:pf'.ws=pf.ws) (f3:pf'.b=pf.b) (f4:pf'.ts=pf.ts) (steps:zet Cs H ss1 (pf'.ks.map SK.w++[pf'.c]) n pf'.d):AtM Ca Ct Cr Cn Cs H0 H' row la todo wh ⟨pn::pf'::fs,l,res⟩:=by
  have dj:=zt8 hnd
  have sx5:zal [row,todo,n,wl,pl] H H':=sx.more (by simp)
  have keep : ∀ a,a∈F++(own2++(st::ss1++ss2))→∀ o,H a=some o→H' a=some o:=fun a ha o q=>sx5 a o (dj.out a ha) q
  have hh:=zn5 hrow0 hto hf hb
  have nn:n∉[row,todo,pl]:=by
    have h1:=dj.ra
    have h2:=dj.ta
    simp at h1 h2 ⊢
    exact ⟨Ne.symm h1.1,Ne.symm h2.1,dj.np⟩
  have nw:wl∉[row,todo,pl]:=by
    have h1:=dj.ra
    have h2:=dj.ta
    simp at h1 h2 ⊢
    exact ⟨Ne.symm h1.2.1,Ne.symm h2.2.1,dj.wp⟩
  have par:FrAt Cn Cs H' n pf' [n'] ss1 dx wl pl as F e:=⟨by rw [f1,f3];exact sx _ _ nn hf.node,by rw [f2];exact sx _ _ nw hf.words,by rw [List.map_append];exact parts,by rw [f4];exact hf.trees.keep fun a ha=>keep a (by simp [ha]),steps.keep fun a ha=>keep a (by simp [ha])⟩
  have top:FrAt Cn Cs H' n' pn [] ss' dx' wl' pl' [] [] e':=⟨node',by rw [w0];exact words',parts',by rw [t0];exact .nil,steps'⟩
  have bel:zgf Cn Cs H' wh n fs ss2 own2:=hb.keep fun a ha=>keep a (by simp at ha ⊢;rcases ha with h | h <;> simp [h])
  refine ⟨sx.base sm0 (fun a ha=>hfr a (by simp at ha ⊢;rcases ha with h | h | h <;> simp [h])),hrow,gl,lv,.inl ⟨by simp,ss'++(ss1++ss2),(n'::wl'::pl'::[])++((n::wl::pl::F)++own2),.cons top (Stk.mk par bel),?_,?_,?_⟩⟩
  · rw [hto']
    simp only [List.reverse_append,List.map_append,List.append_assoc]
  · refine zrc (X:=row::todo::la::(((n::wl::pl::F)++own2)++(ss1++ss2))) (Y:=n'::wl'::pl'::ss') ?_ nd' (fun a ha m=>?_) ?_
    · refine hnd.sublist ?_
      simp only [List.cons_append,List.append_assoc]
      refine List.Sublist.cons_cons _ (List.Sublist.cons_cons _ (List.Sublist.cons_cons _ (List.Sublist.cons_cons _ (List.Sublist.cons_cons _ (List.Sublist.cons_cons _ (List.Sublist.append_left (List.Sublist.append_left (List.sublist_cons_self ..) _) _))))))
    · obtain ⟨o,q⟩:=hh a (by simp at m ⊢;rcases m with h | h | h | h | h | h | h | h | h | h <;> simp [h])
      rw [fr' a ha] at q
      cases q
    · refine List.perm_iff_count.mpr fun a=>?_
      simp only [List.cons_append,List.nil_append,List.append_assoc,List.count_cons,List.count_append]
      omega
  · intro a ha
    rw [List.mem_cons,List.mem_cons,List.mem_append,List.mem_cons,List.mem_cons,List.mem_cons] at ha
    rcases ha with h | h | (h | h | h | h) | h
    · exact hfr a (by simp [h])
    · exact hfr a (by simp [h])
    · exact none_of sm0 (fr' a (by simp [h]))
    · exact none_of sm0 (fr' a (by simp [h]))
    · exact none_of sm0 (fr' a (by simp [h]))
    · simp at h
    · exact hfr a (by simp only [List.mem_cons,List.mem_append] at h ⊢;exact .inr (.inr h))
theorem zsk (sm0:Same H0 H) (hto:H todo=some (.lst (ss2.reverse.map V.ref))) {r:Toks} (hrow0:zb3 Ca Ct Cr H row la r) (hf:FrAt Cn Cs H n pf [] [st] dx wl pl as F e) (hb:zgf Cn Cs H wh n fs ss2 own2)
    (hnd:(row::todo::la::(((n::wl::pl::F)++own2)++([st]++ss2))).Nodup) (hfr : ∀ a∈row::todo::((n::wl::pl::F)++own2),H0 a=none)
    (sx:zal [row,n] H H') (hrow:zb3 Ca Ct Cr H' row la l) (gl:zb1 l) (node:H' n=some (.ins Cn dx (zcb (S pf.form) wl pl (pf.b:Int) (e':Int)))) :
    match fs with
    | []=>AtM Ca Ct Cr Cn Cs H0 H' row la todo wh ⟨[],l,[pf.done e']⟩
    | g::fs=>Lv ({ g with ts:=g.ts++[pf.done e'] }::fs)→AtM Ca Ct Cr Cn Cs H0 H' row la todo wh ⟨{ g with ts:=g.ts++[pf.done e'] }::fs,l,res⟩:=by
  have dj:=zt8 hnd
  have sx5:zal [row,todo,n,wl,pl] H H':=sx.more (by simp)
  have keep : ∀ a,a∈F++(own2++([st]++ss2))→∀ o,H a=some o→H' a=some o:=fun a ha o q=>sx5 a o (dj.out a ha) q
  have base:Same H0 H':=sx.base sm0 (fun a ha=>hfr a (by simp at ha ⊢;rcases ha with h | h <;> simp [h]))
  have ra:=dj.ra
  have ta:=dj.ta
  simp at ra ta
  have nw:wl∉[row,n]:=by simp;exact ⟨Ne.symm ra.2.1,Ne.symm dj.nw⟩
  have np:pl∉[row,n]:=by simp;exact ⟨Ne.symm ra.2.2,Ne.symm dj.np⟩
  have tt:todo∉[row,n]:=by simp;exact ⟨Ne.symm dj.rt,ta.1⟩
  have tree:TreeAt Cn H' n (pf.done e') (n::wl::pl::F):=by
    refine .mk (as:=as) node (sx _ _ nw hf.words) ?_ (hf.trees.keep fun a ha=>keep a (by simp [ha]))
    rw [sx _ _ np hf.parts,List.append_nil]
  cases fs with
  | nil =>
    obtain ⟨rfl,rfl,rfl⟩:=hb
    exact ⟨base,hrow,gl,trivial,.inr ⟨rfl,sx _ _ tt hto,_,_,rfl,tree⟩⟩
  | cons g fs =>
    intro lv
    have hb':Stk Cn Cs H' wh (g::fs) [n] ss2 own2:=Stk.keep hb fun a ha=>keep a (by simp at ha ⊢;rcases ha with h | h <;> simp [h])
    obtain ⟨n2,s1,s2,own3,dx2,wl2,pl2,as2,F2,e2,hf2,hb2,rfl,rfl⟩:=hb'.top
    have par:FrAt Cn Cs H' n2 { g with ts:=g.ts++[pf.done e'] } [] s1 dx2 wl2 pl2 (as2++[n]) (F2++(n::wl::pl::F)) e2:=⟨hf2.node,hf2.words,by rw [List.append_nil];exact hf2.parts,hf2.trees.snoc tree,hf2.steps⟩
    refine ⟨base,hrow,gl,lv,.inl ⟨by simp,s1++s2,(n2::wl2::pl2::(F2++(n::wl::pl::F)))++own3,Stk.mk par hb2,sx _ _ tt hto,?_,?_⟩⟩
    · refine zrc (X:=row::todo::la::(((n::wl::pl::F)++((n2::wl2::pl2::F2)++own3))++(s1++s2))) (Y:=[]) ?_ .nil (fun a ha=>by simp at ha) ?_
      · refine hnd.sublist ?_
        simp only [List.cons_append,List.append_assoc,List.nil_append]
        refine List.Sublist.cons_cons _ (List.Sublist.cons_cons _ (List.Sublist.cons_cons _ (List.Sublist.cons_cons _ (List.Sublist.cons_cons _ (List.Sublist.cons_cons _ (List.Sublist.append_left (List.Sublist.cons_cons _ (List.Sublist.cons_cons _ (List.Sublist.cons_cons _ (List.Sublist.append_left (List.Sublist.append_left (List.sublist_cons_self ..) _) _)))) _))))))
      · refine List.perm_iff_count.mpr fun a=>?_
        simp only [List.cons_append,List.nil_append,List.append_assoc,List.count_cons,List.count_append]
        omega
    · intro a ha
      refine hfr a ?_
      simp only [List.mem_cons,List.mem_append] at ha ⊢
      rcases ha with h | h | (h | h | h | h | h | h | h | h) | h <;> simp [h]
end
open Vaunid (Token txt word sign)
mutual
noncomputable def zb0 (d:Nat):Tr→List (Nat×Tr)
  | .mk f ws b e ps=>(d,.mk f ws b e ps)::zd8 (d+1) ps
noncomputable def zd8 (d:Nat):List Tr→List (Nat×Tr)
  | []=>[]
  | t::r=>zb0 d t++zd8 d r
end
mutual
theorem zes (d:Nat) : ∀ t:Tr,(zb0 d t).map (fun p=>p.2.b)=zdz t
  | .mk f ws b e ps=>by
    show b::(zd8 (d+1) ps).map (fun p=>p.2.b)=b::zdy ps
    rw [zf7 (d+1) ps]
theorem zf7 (d:Nat) : ∀ ts:List Tr,(zd8 d ts).map (fun p=>p.2.b)=zdy ts
  | []=>rfl
  | t::r=>by
    show (zb0 d t++zd8 d r).map (fun p=>p.2.b)=zdz t++zdy r
    rw [List.map_append,zes d t,zf7 d r]
end
mutual
theorem zlk (d:Nat) : ∀ (t:Tr) (p:Nat×Tr),p∈zb0 d t→p.1+1≤d+zmy t
  | .mk f ws b e ps,p,h=>by
    have h:p∈(d,Tr.mk f ws b e ps)::zd8 (d+1) ps:=h
    show p.1+1≤d+(1+zmz ps)
    rcases List.mem_cons.mp h with q | q
    · rw [q]
      show d+1≤_
      omega
    · have:=zi7 (d+1) ps p q
      omega
theorem zi7 (d:Nat) : ∀ (ts:List Tr) (p:Nat×Tr),p∈zd8 d ts→p.1+1≤d+zmz ts
  | [],p,h=>by
    have h:p∈([]:List (Nat×Tr)):=h
    simp at h
  | t::r,p,h=>by
    have h:p∈zb0 d t++zd8 d r:=h
    show p.1+1≤d+max (zmy t) (zmz r)
    rcases List.mem_append.mp h with q | q
    · have:=zlk d t p q
      omega
    · have:=zi7 d r p q
      omega
end
theorem zt3 (d:Nat) (t:Tr):1≤(zb0 d t).length:=by
  cases t with
  | mk f ws b e ps =>
    show 1≤(_::_:List (Nat×Tr)).length
    rw [List.length_cons]
    omega
noncomputable def limT:Nat→List (Nat×Tr)→Option (Nat×Nat)
  | _,[]=>none
  | i,p::r=>if 40<p.1 then some (8,p.2.b) else if i=300 then some (9,p.2.b) else limT (i+1) r
theorem zri : ∀ (l:List (Nat×Tr)) (i:Nat),i≤300→(∀ p∈l,p.1≤40)→limT i l=if 300<i+l.length then some (9,(l.map (fun p=>p.2.b)).getD (300 - i) 0) else none
  | [],i,hi,h=>by
    rw [if_neg (by simp;omega)]
    rfl
  | p::r,i,hi,h=>by
    unfold limT
    have hp:=h p (List.mem_cons_self ..)
    rw [if_neg (by omega)]
    by_cases e:i=300
    · subst e
      rw [if_pos rfl,if_pos (by rw [List.length_cons];omega)]
      rfl
    · rw [if_neg e,zri r (i+1) (by omega) fun q hq=>h q (List.mem_cons_of_mem _ hq),List.length_cons]
      by_cases h3:300<i+1+r.length
      · rw [if_pos h3,if_pos (by omega),List.map_cons,show 300 - i=300 - (i+1)+1 by omega]
        rfl
      · rw [if_neg h3,if_neg (by omega)]
noncomputable def zc4 (Cn:Addr) (H H':Hp) (it:Addr) (p:Nat×Tr):Prop:=∃ a F,H' it=some (.tup [.ref a,.int (p.1:Int)])∧TreeAt Cn H a p.2 F
noncomputable def zfa (sl:List (Nat×Tr)):List (Nat×Tr):=sl.reverse.flatMap fun p=>zb0 p.1 p.2
theorem zd6 (sl:List (Nat×Tr)) (p:Nat×Tr):zfa (sl++[p])=zb0 p.1 p.2++zfa sl:=by
  unfold zfa
  rw [List.reverse_append]
  rfl
theorem zli (d:Nat) : ∀ ps:List Tr,zd8 d ps=ps.flatMap fun t=>zb0 d t
  | []=>rfl
  | t::r=>by
    show zb0 d t++zd8 d r=_
    rw [zli d r]
    rfl
theorem zem (sl:List (Nat×Tr)) (d:Nat) (ps:List Tr):zfa (sl++(ps.reverse.map fun t=>(d,t)))=zd8 d ps++zfa sl:=by
  unfold zfa
  rw [List.reverse_append,List.flatMap_append,← List.map_reverse,List.reverse_reverse,List.flatMap_map,zli]
theorem zry : ∀ sl:List (Nat×Tr),sl.length≤(zfa sl).length:=by
  intro sl
  unfold zfa
  rw [← List.length_reverse]
  generalize sl.reverse=m
  induction m with
  | nil=>exact Nat.zero_le _
  | cons p r ih =>
    rw [List.flatMap_cons,List.length_append,List.length_cons]
    have:=zt3 p.1 p.2
    omega
theorem TreesAt.get {Cn:Addr}{H:Hp} : ∀ {as:List Addr}{ts:List Tr}{F:List Addr},TreesAt Cn H as ts F→∀ {i:Nat}{a:Addr},as[i]? = some a→∃ t G,ts[i]? = some t∧TreeAt Cn H a t G
  | _,_,_,.nil,i,a,h=>by simp at h
  | _,_,_,.cons h1 h2,0,a,h=>by
    cases h
    exact ⟨_,_,rfl,h1⟩
  | _,_,_,.cons h1 h2,i+1,a,h=>TreesAt.get h2 h
theorem zeg {A B:Type}{R:A→B→Prop} : ∀ {l:List A}{m:List B},Paired R l m→l≠[]→∃ l' a m' b,l=l'++[a]∧m=m'++[b]∧Paired R l' m'∧R a b
  | _,_,.nil,h=>absurd rfl h
  | [a],_,.cons r .nil,_=>⟨[],a,[],_,rfl,rfl,.nil,r⟩
  | a::x::l,b::y::m,.cons r (.cons r2 t),_=>by
    obtain ⟨l',a',m',b',e1,e2,p,q⟩:=zeg (.cons r2 t) (by simp)
    exact ⟨a::l',a',b::m',b',by rw [e1];rfl,by rw [e2];rfl,.cons r p,q⟩
end M
namespace L2
open PySem PySem.Spec PyProof.Rows TL
noncomputable def zy1 (K:PySem.W.Frag) (b:Addr) (ys:List Str):Prop:=∃ (its:Array Value) (n:Nat) (sl:Array (Option Value)),K.lookup b=some ⟨.type "tuple",none,.seq its n,sl⟩∧Vals (ys.map V.str) its.toList
section
variable {X:Cx}{o e:Expr}{apos cpos apos2 cpos2 tp kp:Pos}{td ty:TE}{x1:Nat}{key:Str}{kk:Nat}
end
end L2
namespace M
open PySem PySem.Spec PyProof.Rows L2 TL
noncomputable def zuf (w:World) (K:PySem.W.Frag) (a:Addr):Prop:=∃ ad:Fm→Addr,MDict w K a (zcd ad)∧(∀ f H,SqT K H (ad f) ((f.kt.map fun s=>Str.ofString s).map V.str))∧∀ f,zy1 K (ad f) (f.kt.map fun s=>Str.ofString s)
theorem zlj (d:Nat) (t:Vaunid.Term):Vaunid.depths d t=d::(za2 t).flatMap (Vaunid.depths (d+1)):=by
  cases t <;> simp [Vaunid.depths,za2]
mutual
theorem zij : ∀ {x:Vaunid.Term}{tr:Tr},Rep x tr→∀ d,(zb0 d tr).map (·.1)=Vaunid.depths d x
  | _,_,.mk h,d=>by
    rw [zlj]
    show d::(zd8 (d+1) _).map (·.1)=_
    rw [zhh h (d+1)]
theorem zhh : ∀ {xs:List Vaunid.Term}{ts:List Tr},Reps xs ts→∀ d,(zd8 d ts).map (·.1)=xs.flatMap (Vaunid.depths d)
  | _,_,.nil,d=>rfl
  | _,_,.cons h r,d=>by
    show (zb0 d _++zd8 d _).map (·.1)=_
    rw [List.map_append,zij h d,zhh r d]
    rfl
end
end M
namespace L2
open PySem PySem.Spec PyProof.Rows TL
section
variable {X:Cx}{e:Expr}{te:TE}{p1 p2 pos:Pos}
end
end L2
namespace M
open PySem PySem.Spec PyProof.Rows L2 TL
open Vaunid (Token txt word sign)
noncomputable abbrev Pc (A:Type):=Sum (List Nat) A
inductive Fits {A:Type}:List SK→List (List Nat)→List A→Prop
  | nil {ws:List (List Nat)}{ts:List A}:Fits [] ws ts
  | part {b:Bool}{ks:List SK}{ws:List (List Nat)}{t:A}{ts:List A}:Fits ks ws ts→Fits (.p b::ks) ws (t::ts)
  | name {ks:List SK}{w:List Nat}{ws:List (List Nat)}{ts:List A}:Fits ks ws ts→Fits (.n::ks) (w::ws) ts
  | pow {ks:List SK}{w:List Nat}{ws:List (List Nat)}{ts:List A}:Fits ks ws ts→Fits (.pw::ks) (w::ws) ts
noncomputable def za9 {A:Type}:List SK→List (List Nat)→List A→List (SK×Pc A)
  | .p b::ks,ws,t::ts=>(.p b,.inr t)::za9 ks ws ts
  | .n::ks,w::ws,ts=>(.n,.inl w)::za9 ks ws ts
  | .pw::ks,w::ws,ts=>(.pw,.inl w)::za9 ks ws ts
  | _,_,_=>[]
noncomputable def fmX:Vaunid.Term→Option Fm
  | .leaf _=>none
  | .one o _=>some (zhm o)
  | .two o _ _=>some (zgz o)
  | .three o _ _ _=>some (match o with | .cond => .if_ | .fold => .fold)
  | .fn _ _=>some .fn
  | .rec_ _ _ _=>some .rec_
  | .let_ _ _ _=>some .let_
  | .case _ _ _ _ _=>some .case
noncomputable def skX (x:Vaunid.Term):List SK:=match fmX x with
  | none=>[]
  | some f=>f.sk
noncomputable def zbr (x:Vaunid.Term):List (SK×Pc Vaunid.Term):=match fmX x with
  | none=>[]
  | some f=>za9 f.sk (zar x) (za2 x)
theorem zn9 {x:Vaunid.Term}{f:Fm} (h:fmX x=some f):zmu x=txt f.word:=by
  cases x with
  | leaf l=>cases h
  | one o a=>cases h;rfl
  | two o a b=>cases h;rfl
  | three o a b c=>cases o <;> (cases h;rfl)
  | fn=>cases h;rfl
  | rec_=>cases h;rfl
  | let_=>cases h;rfl
  | case=>cases h;rfl
theorem zyb {x:Vaunid.Term}{f:Fm} (h:fmX x=some f):Fits f.sk (zar x) (za2 x):=by
  cases x with
  | leaf l=>cases h
  | one o a =>
    cases h
    cases o with
    | pow n=>exact .part (.pow .nil)
    | _=>exact .part .nil
  | two o a b =>
    cases h
    cases o <;> exact .part (.part .nil)
  | three o a b c=>cases o <;> (cases h;exact .part (.part (.part .nil)))
  | fn=>cases h;exact .name (.part .nil)
  | rec_=>cases h;exact .name (.name (.part .nil))
  | let_=>cases h;exact .name (.part (.part .nil))
  | case=>cases h;exact .part (.part (.name (.name (.part .nil))))
theorem zwu (x:Vaunid.Term):Fits (skX x) (zar x) (za2 x):=by
  unfold skX
  cases h:fmX x with
  | none=>exact .nil
  | some f=>exact zyb h
theorem zm5 (x:Vaunid.Term):zbr x=za9 (skX x) (zar x) (za2 x):=by
  unfold skX zbr
  cases h:fmX x with
  | none=>simp [za9]
  | some f=>rfl
theorem zmm (l:Vaunid.Leaf):zf2 (txt (zdb l))=false:=by
  cases l with
  | truth b=>cases b <;> decide +kernel
  | nil=>decide +kernel
  | name x =>
    show zf2 (txt "name")=false
    decide +kernel
  | num v =>
    show zf2 (txt "number")=false
    decide +kernel
noncomputable def szX:Vaunid.Term→Nat
  | .leaf _=>1
  | .one _ a=>1+szX a
  | .two _ a b=>1+szX a+szX b
  | .three _ a b c=>1+szX a+szX b+szX c
  | .fn _ a=>1+szX a
  | .rec_ _ _ a=>1+szX a
  | .let_ _ a b=>1+szX a+szX b
  | .case l a _ _ b=>1+szX l+szX a+szX b
theorem zbc : ∀ (x:Vaunid.Term) (d:Nat),(Vaunid.depths d x).length=szX x
  | .leaf _,d=>rfl
  | .one _ a,d=>by simp [Vaunid.depths,szX,zbc a];omega
  | .two _ a b,d=>by simp [Vaunid.depths,szX,zbc a,zbc b];omega
  | .three _ a b c,d=>by simp [Vaunid.depths,szX,zbc a,zbc b,zbc c];omega
  | .fn _ a,d=>by simp [Vaunid.depths,szX,zbc a];omega
  | .rec_ _ _ a,d=>by simp [Vaunid.depths,szX,zbc a];omega
  | .let_ _ a b,d=>by simp [Vaunid.depths,szX,zbc a,zbc b];omega
  | .case l a _ _ b,d=>by simp [Vaunid.depths,szX,zbc a,zbc b,zbc l];omega
theorem zxj {x:Vaunid.Term}{tr:Tr} (h:Rep x tr) (d:Nat):(zb0 d tr).length=szX x:=by
  rw [← zbc x d,← zij h d,List.length_map]
mutual
noncomputable def allW:Tr→List (List Nat)
  | .mk _ ws _ _ ps=>ws++zd9 ps
noncomputable def zd9:List Tr→List (List Nat)
  | []=>[]
  | t::r=>allW t++zd9 r
end
noncomputable def allX:Vaunid.Term→List (List Nat)
  | .leaf l=>zcc l
  | .one (.pow n) a=>Vaunid.decimalInt n::allX a
  | .one _ a=>allX a
  | .two _ a b=>allX a++allX b
  | .three _ a b c=>allX a++(allX b++allX c)
  | .fn x a=>x::allX a
  | .rec_ f x a=>f::x::allX a
  | .let_ x a b=>x::(allX a++allX b)
  | .case l a h t b=>h::t::(allX l++(allX a++allX b))
theorem zpn (x:Vaunid.Term):allX x=zar x++(za2 x).flatMap allX:=by
  cases x with
  | one o a=>cases o <;> simp [allX,zar,za2]
  | _=>simp [allX,zar,za2]
mutual
theorem zkw : ∀ {x:Vaunid.Term}{tr:Tr},Rep x tr→allX x=allW tr
  | _,_,.mk h=>by
    rw [zpn,zii h]
    rfl
theorem zii : ∀ {xs:List Vaunid.Term}{ts:List Tr},Reps xs ts→xs.flatMap allX=zd9 ts
  | _,_,.nil=>rfl
  | _,_,.cons h r=>by
    rw [List.flatMap_cons,zkw h,zii r]
    rfl
end
noncomputable def WB (l:List (List Nat)):Prop:=∀ w∈l,w.length≤10100
theorem WB.app {l m:List (List Nat)}:WB (l++m)↔WB l∧WB m:=⟨fun h=>⟨fun w q=>h w (List.mem_append_left _ q),fun w q=>h w (List.mem_append_right _ q)⟩,fun h w q=>(List.mem_append.mp q).elim (h.1 w) (h.2 w)⟩
theorem WB.cons {w:List Nat}{m:List (List Nat)}:WB (w::m)↔w.length≤10100∧WB m:=⟨fun h=>⟨h w (List.mem_cons_self ..),fun u q=>h u (List.mem_cons_of_mem _ q)⟩,fun h u q=>(List.mem_cons.mp q).elim (fun e=>e ▸ h.1) (h.2 u)⟩
theorem zn7 {k:Vaunid.Tok} (g:zbb k):(zmw k).length≤10100:=by
  cases k with
  | word w=>exact Nat.zero_le _
  | sign s=>exact Nat.zero_le _
  | num v d =>
    obtain ⟨h1,h2,h3,_⟩:=g
    show (Vaunid.shownLit v).length≤_
    have q1:=zeb h2
    have q2:=zeo h3
    rw [zkr v ⟨h1,h2,h3⟩]
    have q3:(v.measure.getD []).length≤10000:=by
      cases e:v.measure with
      | none=>exact Nat.zero_le _
      | some m=>exact (h1 m e).2
    simp only [List.length_append]
    have q4:(if v.low=1 then [] else 47::Vaunid.decimal v.low).length≤13:=by
      split
      · exact Nat.zero_le _
      · rw [List.length_cons];omega
    have q5:(if v.measure.getD []=[] then [] else 91::(v.measure.getD []++[93])).length≤10002:=by
      split
      · exact Nat.zero_le _
      · simp only [List.length_cons,List.length_append,List.length_nil];omega
    omega
theorem zf3 {k:Vaunid.Tok} (g:zbb k):(zgv k).length≤10100:=by
  cases k with
  | word w=>exact Nat.le_trans g.2 (by decide)
  | sign s=>exact Nat.zero_le _
  | num v d=>exact Nat.zero_le _
theorem zo5 {k:Vaunid.Tok}{x:Vaunid.Leaf} (g:zbb k) (h:Vaunid.leafOf k=some x):WB (zcc x):=by
  cases k with
  | word w =>
    have hw:=zf3 g
    simp only [Vaunid.leafOf] at h
    repeat' split at h
    all_goals cases h
    all_goals intro u hu
    all_goals simp [zcc] at hu
    subst hu
    exact hw
  | sign s=>cases h
  | num v d =>
    cases h
    intro u hu
    simp [zcc] at hu
    subst hu
    exact zn7 g
theorem zh8 : ∀ (l m:List Tr),zd9 (l++m)=zd9 l++zd9 m
  | [],m=>rfl
  | t::l,m=>by
    show allW t++zd9 (l++m)=(allW t++zd9 l)++zd9 m
    rw [zh8 l m,List.append_assoc]
structure MB (s:MS):Prop where
  fs : ∀ pf∈s.fs,WB pf.ws∧WB (zd9 pf.ts)
  l:zb1 s.l
  res:WB (zd9 s.res)
theorem zm8 {l:Toks} (h:zb1 l):zb1 (zak l).2:=by
  obtain ⟨pre,e⟩:=zh3 l
  rw [e] at h
  exact h.suf
theorem MB.step {s s':MS} (h:MB s) (e:zc7 s=some (.ok s')):MB s':=by
  obtain ⟨fs,l,res⟩:=s
  obtain ⟨h1,h2,h3⟩:=h
  cases fs with
  | nil=>cases e
  | cons pf fs =>
    cases l with
    | nil=>cases e
    | cons t l =>
      have g:=h2 t (List.mem_cons_self ..)
      have hl:zb1 l:=fun k hk=>h2 k (List.mem_cons_of_mem _ hk)
      have hpf:=h1 pf (List.mem_cons_self ..)
      have hfs : ∀ q∈fs,WB q.ws∧WB (zd9 q.ts):=fun q hq=>h1 q (List.mem_cons_of_mem _ hq)
      have done : ∀ e,WB (allW (pf.done e)):=fun e=>WB.app.mpr hpf
      have more : ∀ (q:PF),(WB q.ws∧WB (zd9 q.ts))→∀ q0∈q::fs,WB q0.ws∧WB (zd9 q0.ts):=fun q hq q0 h0=>(List.mem_cons.mp h0).elim (fun e=>e ▸ hq) (hfs q0)
      simp only [zc7] at e
      split at e
      · split at e
        · cases fs with
          | nil =>
            cases e
            refine ⟨by simp,hl,?_⟩
            show WB (allW _++[])
            rw [List.append_nil]
            exact done _
          | cons q fs =>
            cases e
            refine ⟨fun q0 h0=>?_,hl,h3⟩
            rcases List.mem_cons.mp h0 with e | h0
            · subst e
              have hq:=hfs q (List.mem_cons_self ..)
              refine ⟨hq.1,?_⟩
              show WB (zd9 (q.ts++[_]))
              rw [zh8]
              refine WB.app.mpr ⟨hq.2,?_⟩
              show WB (allW _++[])
              rw [List.append_nil]
              exact done _
            · exact hfs q0 (List.mem_cons_of_mem _ h0)
        · cases e
      · split at e
        · cases e
        · split at e
          · split at e
            · cases e
            · cases e
              refine ⟨fun q0 h0=>?_,zm8 hl,h3⟩
              rcases List.mem_cons.mp h0 with e | h0
              · subst e
                exact ⟨show WB [] from fun _ q=>(by cases q),show WB [] from fun _ q=>(by cases q)⟩
              · exact more _ (by exact hpf) q0 h0
          · split at e
            · rename_i x hx
              cases e
              refine ⟨more _ ⟨hpf.1,?_⟩,hl,h3⟩
              show WB (zd9 (pf.ts++[_]))
              rw [zh8]
              refine WB.app.mpr ⟨hpf.2,?_⟩
              show WB ((zcc x++[])++[])
              rw [List.append_nil,List.append_nil]
              exact zo5 g hx
            · cases e
      · split at e
        · cases e
          refine ⟨more _ ⟨?_,hpf.2⟩,hl,h3⟩
          exact WB.app.mpr ⟨hpf.1,WB.cons.mpr ⟨zf3 g,fun _ q=>by cases q⟩⟩
        · cases e
      · split at e
        · cases e
          refine ⟨more _ ⟨?_,hpf.2⟩,hl,h3⟩
          exact WB.app.mpr ⟨hpf.1,WB.cons.mpr ⟨zn7 g,fun _ q=>by cases q⟩⟩
        · cases e
theorem zkv : ∀ {s:MS}{R:Vaunid.Res Tr}{n:Nat},Run s R n→MB s→∀ tr,R = .ok tr→WB (allW tr)
  | _,_,_,.done,h,tr,e=>by
    cases e
    have:=h.res
    exact (WB.app.mp this).1
  | _,_,_,.bad _,h,tr,e=>by cases e
  | _,_,_,.go h1 h2,h,tr,e=>zkv h2 (h.step h1) tr e
end M
namespace L2
open PySem PySem.Spec PyProof.Rows TL
section
variable {X:Cx}
noncomputable def zvs (K:PySem.W.Frag):R2:=fun x y H Q=>∃ a b xs ys,x = .ref a∧y = .ref b∧SqT K H a xs∧SqT K H b ys∧xs.length+ys.length≤sizeLine∧∀ p H',Same H H'→SqT K H' p (xs++ys)→Q (.ref p) H'
theorem zv5:OpR X (binaryOp .Add) (zvs X.K):=by
  intro pins s σ H x y v u Q I rx ry h
  obtain ⟨a,b,xs,ys,rfl,rfl,ha,hb,hz,q⟩:=h
  by_cases hx:xs=[]
  · subst hx
    cases rx
    cases ry
    obtain ⟨its,r1,p1,_⟩:=I.tuple ha
    obtain ⟨its2,r2,p2,_⟩:=I.tuple hb
    have e1:its=[]:=r1.nil_iff.mpr rfl
    subst e1
    obtain ⟨⟨cls,dd,data,sl⟩,ho,hc,n,hd⟩:=id p1
    obtain ⟨⟨cls2,dd2,data2,sl2⟩,ho2,hc2,n2,hd2⟩:=id p2
    simp only at hc hd hc2 hd2
    subst hc hd hc2 hd2
    exact concat_meets ⟨_,ho,rfl⟩ ⟨_,ho2,rfl⟩ noFill_tuple_add seq_tuple_add PySem.F.slot_tuple_add PySem.F.entry_tuple_add (PySem.F.args_tuple_add_2 _ _)
      (tuple_addW0 a b #[] its2.toArray n n2 dd dd2 sl sl2 rfl) ⟨ho,ho2,⟨.ref b,H,I,rfl,q b H (Same.refl _) hb⟩⟩
  · refine zv6 pins s σ H _ _ v u Q I rx ry ⟨a,b,xs,ys,rfl,rfl,ha,hb,hx,hz,fun e=>?_,fun e p hp=>?_⟩
    · subst e
      rw [List.append_nil] at q
      exact q a H (Same.refl _) ha
    · exact q p _ (Same.upd hp) (SqT.of zad)
theorem zpl (hcalm:X.calm=true):zeu X (.type "list") (fun xs H Q=>∃ a kvs,xs=[.ref a]∧H a=some (.dK kvs)∧∀ l,H l=none→Q (.ref l) (upd H l (.lst (kvs.map fun p=>kV p.1)))):=by
  intro pins s σ H xs us Q I r h
  obtain ⟨a,kvs,rfl,ha,q⟩:=h
  obtain ⟨u,rfl,rx⟩:=zlw r
  cases rx
  obtain ⟨z,hd,vs,rel,dd⟩:=zyh I.hok ha
  obtain ⟨ep,dat⟩:=dd.dictAt
  have hlen:kvs.length=vs.length:=Paired.length rel
  refine PySem.W.kdl_call (PySem.W.kdl_dict (knd:=zba X.prog X.w) (ep:=ep) hd) (I.ok.hd hcalm) dat (by rw [← hlen];exact z) fun h' tk acc c hk hS hacc=>?_
  refine ⟨.ref s.heap.objs.size,_,I.laid (t':=tk) hk (Nat.le_refl _) (show zbp X.prog X.w _ h' _ (.lst (kvs.map fun p=>kV p.1)) from ⟨by rw [List.length_map];exact z,acc.toList,c,?_,by rw [Array.toArray_toList];exact hS⟩),rfl,q _ (I.hok.fresh (Nat.le_refl _))⟩
  have key : ∀ (l:List (Key×V)) (m:List (Key×Value)) (ws:List Value),KV l m→ws.length=m.length→(∀ (i:Nat) (v:Value),ws[i]? = some v→∃ (k:Key) (x:Value),m[i]? = some (k,x)∧(zba X.prog X.w).is k v=true)→Vals (l.map fun p=>kV p.1) ws:=by
    intro l
    induction l with
    | nil =>
      intro m ws h1 h2 h3
      cases h1
      cases ws with
      | nil=>exact .nil
      | cons _ _=>cases h2
    | cons p l ih =>
      intro m ws h1 h2 h3
      cases h1 with
      | @cons _ q0 _ m r t =>
      cases ws with
      | nil=>cases h2
      | cons v ws =>
        obtain ⟨k,x,e1,e2⟩:=h3 0 v rfl
        have e3:q0=(k,x):=by injection e1
        subst e3
        refine .cons ?_ (ih m ws t (by simpa using h2) fun i v hv=>h3 (i+1) v hv)
        obtain ⟨k0,v0⟩:=p
        have e4:k0=k:=r.1
        subst e4
        show RelV (kV k0) v
        rcases zbf (show zmn k0 v=true from e2) with ⟨i,t,rfl,rfl⟩ | ⟨y,t,rfl,rfl⟩
        · exact ⟨t,rfl⟩
        · exact ⟨t,rfl⟩
  refine key kvs vs acc.toList rel (by rw [Array.length_toList];exact hacc.1) fun i v hv=>?_
  exact hacc.2 i v (by rw [← Array.getElem?_toList];exact hv)
end
end L2
namespace L2
open PySem PySem.Spec PyProof.Rows TL
theorem Room.u1 {k:Nat}{A:Around} (r:Room k A):A.units+1<cLine:=by
  have:=r.un
  omega
theorem zpm:bootBuiltins "list"=some (.type "list"):=by decide +kernel
theorem zm6:bootBuiltins "tuple"=some (.type "tuple"):=by decide +kernel
end L2
namespace M
open PySem PySem.Spec PyProof.Rows L2 TL
open Vaunid (Token txt word sign freeIn once)
noncomputable def insO (got:List (List Nat)) (z:List Nat):List (List Nat):=if z∈got then got else got++[z]
noncomputable def zc0 (got l:List (List Nat)):List (List Nat):=l.foldl insO got
theorem zh5 (l:List (List Nat)) (x:List Nat):(l.any fun y=>y == x)=decide (x∈l):=by
  rw [Bool.eq_iff_iff]
  simp
theorem zjs : ∀ (l g g':List (List Nat)),(∀ y,y∈g↔y∈g')→zc0 g l=g++once g' l
  | [],g,g',_=>by
    show g=g++[]
    rw [List.append_nil]
  | x::r,g,g',h=>by
    show zc0 (insO g x) r=_
    unfold once insO
    rw [zh5]
    by_cases hx:x∈g
    · rw [if_pos hx,if_pos (by rw [decide_eq_true ((h x).mp hx)]),zjs r g g' h]
    · rw [if_neg hx,if_neg (by rw [decide_eq_false fun z=>hx ((h x).mpr z)];simp),zjs r (g++[x]) (x::g') (fun y=>by simp [h y];exact or_comm)]
      simp
theorem zms (x:Vaunid.Term):Vaunid.free x=zc0 [] (freeIn [] x):=(zjs (freeIn [] x) [] [] fun _=>Iff.rfl).symm
theorem zat : ∀ (x:Vaunid.Term) (b b':List (List Nat)),(∀ y,y∈b↔y∈b')→freeIn b x=freeIn b' x
  | .leaf (.name y),b,b',h=>by
    unfold freeIn
    rw [zh5,zh5,decide_eq_decide.mpr (h y)]
  | .leaf (.num _),b,b',h=>rfl
  | .leaf (.truth _),b,b',h=>rfl
  | .leaf .nil,b,b',h=>rfl
  | .one _ a,b,b',h=>zat a b b' h
  | .two _ a c,b,b',h=>by unfold freeIn;rw [zat a b b' h,zat c b b' h]
  | .three _ a c d,b,b',h=>by unfold freeIn;rw [zat a b b' h,zat c b b' h,zat d b b' h]
  | .fn x a,b,b',h=>by unfold freeIn;rw [zat a (x::b) (x::b') fun y=>by simp [h y]]
  | .rec_ f x a,b,b',h=>by unfold freeIn;rw [zat a (x::f::b) (x::f::b') fun y=>by simp [h y]]
  | .let_ x a c,b,b',h=>by unfold freeIn;rw [zat a b b' h,zat c (x::b) (x::b') fun y=>by simp [h y]]
  | .case l a hh t c,b,b',h=>by unfold freeIn;rw [zat l b b' h,zat a b b' h,zat c (t::hh::b) (t::hh::b') fun y=>by simp [h y]]
noncomputable abbrev FI:=Vaunid.Term×List (List Nat)
noncomputable def fiOf (b ws:List (List Nat)):SK×Pc Vaunid.Term→Option FI
  | (.p false,.inr t)=>some (t,b)
  | (.p true,.inr t)=>some (t,b++ws)
  | _=>none
noncomputable def fis (b:List (List Nat)) (x:Vaunid.Term):List FI:=(zbr x).filterMap (fiOf b (zar x))
noncomputable def ze8 (l:List FI):List (List Nat):=l.flatMap fun i=>freeIn i.2 i.1
theorem fi_n (b ws:List (List Nat)) (c:Pc Vaunid.Term):fiOf b ws (.n,c)=none:=rfl
theorem zfb (b ws:List (List Nat)) (c:Pc Vaunid.Term):fiOf b ws (.pw,c)=none:=rfl
theorem zmt (x:Vaunid.Term) (b:List (List Nat)) (h : ∀ y,¬ x = .leaf (.name y)):freeIn b x=ze8 (fis b x):=by
  have c1 : ∀ (x:List Nat) (a:Vaunid.Term),freeIn (x::b) a=freeIn (b++[x]) a:=fun x a=>zat _ _ _ fun y=>by simp [or_comm]
  have c2 : ∀ (f x:List Nat) (a:Vaunid.Term),freeIn (x::f::b) a=freeIn (b++[f,x]) a:=fun f x a=>zat _ _ _ fun y=>by simp;constructor <;> (rintro (h | h | h) <;> simp [h])
  cases x with
  | leaf l =>
    cases l with
    | name y=>exact absurd rfl (h y)
    | _=>rfl
  | one o a=>cases o <;> simp [freeIn,ze8,fis,fi_n,zfb,List.filterMap_cons,fiOf,zbr,za9,fmX,zhm,Fm.sk,zar,za2]
  | two o a c=>cases o <;> simp [freeIn,ze8,fis,fi_n,zfb,List.filterMap_cons,fiOf,zbr,za9,fmX,zgz,Fm.sk,zar,za2]
  | three o a c d=>cases o <;> simp [freeIn,ze8,fis,fi_n,zfb,List.filterMap_cons,fiOf,zbr,za9,fmX,Fm.sk,zar,za2]
  | fn x a=>simp [freeIn,ze8,fis,fi_n,zfb,List.filterMap_cons,fiOf,zbr,za9,fmX,Fm.sk,zar,za2,c1]
  | rec_ f x a=>simp [freeIn,ze8,fis,fi_n,zfb,List.filterMap_cons,fiOf,zbr,za9,fmX,Fm.sk,zar,za2,c2]
  | let_ x a c=>simp [freeIn,ze8,fis,fi_n,zfb,List.filterMap_cons,fiOf,zbr,za9,fmX,Fm.sk,zar,za2,c1]
  | case l a hh t c=>simp [freeIn,ze8,fis,fi_n,zfb,List.filterMap_cons,fiOf,zbr,za9,fmX,Fm.sk,zar,za2,c2]
noncomputable def szF (l:List FI):Nat:=(l.map fun i=>szX i.1).sum
theorem zw9 (x:Vaunid.Term):1≤szX x:=by cases x <;> simp only [szX] <;> omega
theorem zvh (x:Vaunid.Term) (b:List (List Nat)):szF (fis b x)+1=szX x:=by
  cases x with
  | leaf l=>rfl
  | one o a=>cases o <;> (simp [szF,szX,fis,fi_n,zfb,List.filterMap_cons,fiOf,zbr,za9,fmX,zhm,Fm.sk,zar,za2];omega)
  | two o a c=>cases o <;> (simp [szF,szX,fis,fi_n,zfb,List.filterMap_cons,fiOf,zbr,za9,fmX,zgz,Fm.sk,zar,za2];omega)
  | three o a c d=>cases o <;> (simp [szF,szX,fis,fi_n,zfb,List.filterMap_cons,fiOf,zbr,za9,fmX,Fm.sk,zar,za2];omega)
  | fn x a=>simp [szF,szX,fis,fi_n,zfb,List.filterMap_cons,fiOf,zbr,za9,fmX,Fm.sk,zar,za2];omega
  | rec_ f x a=>simp [szF,szX,fis,fi_n,zfb,List.filterMap_cons,fiOf,zbr,za9,fmX,Fm.sk,zar,za2];omega
  | let_ x a c=>simp [szF,szX,fis,fi_n,zfb,List.filterMap_cons,fiOf,zbr,za9,fmX,Fm.sk,zar,za2];omega
  | case l a hh t c=>simp [szF,szX,fis,fi_n,zfb,List.filterMap_cons,fiOf,zbr,za9,fmX,Fm.sk,zar,za2];omega
theorem zg6 (l m:List FI):szF (l++m)=szF l+szF m:=by
  unfold szF
  rw [List.map_append,List.sum_append]
theorem zl3 : ∀ l:List FI,szF l.reverse=szF l
  | []=>rfl
  | x::r=>by
    rw [List.reverse_cons,zg6,zl3 r]
    unfold szF
    simp
    omega
theorem zp3 : ∀ l:List FI,l.length≤szF l
  | []=>Nat.le_refl _
  | x::r=>by
    have ih:=zp3 r
    have hx:=zw9 x.1
    unfold szF at ih ⊢
    rw [List.map_cons,List.sum_cons,List.length_cons]
    omega
theorem zpo {x:Vaunid.Term}:(zar x).length≤2:=by
  cases x with
  | leaf l=>cases l <;> simp [zar,zcc]
  | one o a=>cases o <;> simp [zar]
  | _=>simp [zar]
theorem zww {x:Vaunid.Term}{b:Bool}{t:Vaunid.Term} (h:(SK.p b,Sum.inr t)∈zbr x):szX t+1≤szX x:=by
  cases x with
  | leaf l=>simp [zbr,fmX] at h
  | one o a =>
    cases o <;> (simp [zbr,za9,fmX,zhm,Fm.sk,zar,za2] at h;simp only [szX];obtain ⟨_,rfl⟩:=h;omega)
  | two o a c =>
    cases o <;> (simp [zbr,za9,fmX,zgz,Fm.sk,zar,za2] at h;simp only [szX];rcases h with ⟨_,rfl⟩ | ⟨_,rfl⟩ <;> omega)
  | three o a c d =>
    cases o <;> (simp [zbr,za9,fmX,Fm.sk,zar,za2] at h;simp only [szX];rcases h with ⟨_,rfl⟩ | ⟨_,rfl⟩ | ⟨_,rfl⟩ <;> omega)
  | fn x a=>simp [zbr,za9,fmX,Fm.sk,zar,za2] at h;simp only [szX];obtain ⟨_,rfl⟩:=h;omega
  | rec_ f x a=>simp [zbr,za9,fmX,Fm.sk,zar,za2] at h;simp only [szX];obtain ⟨_,rfl⟩:=h;omega
  | let_ x a c=>simp [zbr,za9,fmX,Fm.sk,zar,za2] at h;simp only [szX];rcases h with ⟨_,rfl⟩ | ⟨_,rfl⟩ <;> omega
  | case l a hh t c=>simp [zbr,za9,fmX,Fm.sk,zar,za2] at h;simp only [szX];rcases h with ⟨_,rfl⟩ | ⟨_,rfl⟩ | ⟨_,rfl⟩ <;> omega
noncomputable def dk (got:List (List Nat)):List (Key×V):=got.map fun n=>(Sum.inr (S n),V.bl true)
theorem zyg (got:List (List Nat)) (z:List Nat):putK (dk got) (Sum.inr (S z)) (V.bl true)=dk (insO got z):=by
  unfold putK insO
  have e:((dk got).any fun kv=>decide (kv.1=Sum.inr (S z)))=decide (z∈got):=by
    unfold dk
    rw [List.any_map,Bool.eq_iff_iff]
    simp only [List.any_eq_true,Function.comp_def,decide_eq_true_eq,Sum.inr.injEq,zfh]
    constructor
    · rintro ⟨y,hy,rfl⟩;exact hy
    · exact fun h=>⟨z,h,rfl⟩
  rw [e]
  by_cases h:z∈got
  · rw [if_pos (decide_eq_true h),if_pos h]
    unfold dk
    rw [List.map_map]
    refine List.map_congr_left fun y hy=>?_
    show (if (Sum.inr (S y):Key)=Sum.inr (S z) then ((Sum.inr (S y):Key),V.bl true) else (Sum.inr (S y),V.bl true))=_
    split <;> rfl
  · rw [if_neg (by rw [decide_eq_false h];simp),if_neg h]
    unfold dk
    rw [List.map_append]
    rfl
theorem zro (got:List (List Nat)) (z:List Nat):(insO got z).length≤got.length+1:=by
  unfold insO
  split
  · omega
  · simp
noncomputable def Mut (H:Hp) (x:Addr):Prop:=(∃ l,H x=some (.lst l))∨∃ l,H x=some (.dK l)
theorem SqT.keepX {K:PySem.W.Frag}{H H':Hp}{xs:List Addr}{a:Addr}{vs:List V} (h:SqT K H a vs) (s:zal xs H H') (n : ∀ x∈xs,Mut H x):SqT K H' a vs:=by
  have key : ∀ o,H a=some o→(∀ l,o ≠ .lst l)→(∀ l,o ≠ .dK l)→H' a=some o:=fun o e n1 n2=>s _ _ (fun m=>by
    rcases n a m with ⟨l,q⟩ | ⟨l,q⟩
    · rw [q] at e;injection e with e;exact n1 l e.symm
    · rw [q] at e;injection e with e;exact n2 l e.symm) e
  rcases h with h | h
  · rcases h with h | ⟨o,h⟩
    · exact .inl (.inl (key _ h (by intro l z;cases z) (by intro l z;cases z)))
    · exact .inl (.inr ⟨o,key _ h (by intro l z;cases z) (by intro l z;cases z)⟩)
  · exact .inr h
end M
section
set_option maxHeartbeats 2000000
namespace L2
open PySem PySem.Spec PyProof.Rows
open PySem.W (WData Codec OpenSpec Well WellAll ReadsW ReadsAllW)
mutual
inductive Dw (K:PySem.W.Frag) (H:Hp):V→WData→Prop
  | non:Dw K H .non .none
  | bl (b:Bool):Dw K H (.bl b) (.bool b)
  | int (i:Int):Dw K H (.int i) (.int i)
  | str (x:Str):Dw K H (.str x) (.str x)
  | byt (b:Array UInt8):Dw K H (.byt b) (.bytes b.toList)
  | lst {a:Addr}{xs:List V}{ds:List WData}:SqL K H a xs→DwAll K H xs ds→Dw K H (.ref a) (.list ds)
  | tup {a:Addr}{xs:List V}{ds:List WData}:SqT K H a xs→DwAll K H xs ds→Dw K H (.ref a) (.tuple ds)
inductive DwAll (K:PySem.W.Frag) (H:Hp):List V→List WData→Prop
  | nil:DwAll K H [] []
  | cons {v:V}{vs:List V}{d:WData}{ds:List WData}:Dw K H v d→DwAll K H vs ds→DwAll K H (v::vs) (d::ds)
end
theorem zr2 {K:PySem.W.Frag}{H:Hp} : ∀ ns:List Int,DwAll K H (ns.map V.int) (ns.map WData.int)
  | [] => .nil
  | n::r => .cons (.int n) (zr2 r)
theorem zrn {K:PySem.W.Frag}{H:Hp} : ∀ (ns:List Int) (xs:List V),DwAll K H xs (ns.map WData.int)→xs=ns.map V.int
  | [],xs,h=>by
    cases h
    rfl
  | n::r,xs,h=>by
    cases h with
    | cons h1 h2 =>
      cases h1
      rw [zrn r _ h2] <;> rfl
section
variable {P:Program}{w:World}{K:PySem.W.Frag}{H:Hp}{h:Heap}{R:PySem.W.WRecords}{cl:Str→Option Addr}
theorem zxb {a:Addr}{xs:List V} (hok:HOk P w H h) (KX:K.In h) (q:SqL K H a xs) : ∃ (its:List Value) (o:Obj) (n:Nat),Vals xs its∧h.get? a=some o∧o.cls = .type "list"∧o.data = .seq its.toArray n:=by
  rcases q with q | ⟨o,its,n,e,hc,_,hd,_,hv⟩
  · obtain ⟨_,its,n,hv,e⟩:=(show zbp P w H h a (.lst xs) from q.ok hok)
    exact ⟨its,_,n,hv,e,rfl,rfl⟩
  · exact ⟨its.toList,o,n,hv,KX _ _ e,hc,by simp [hd]⟩
theorem zxa {a:Addr}{xs:List V} (hok:HOk P w H h) (KX:K.In h) (q:SqT K H a xs) : ∃ (its:List Value) (o:Obj) (n:Nat),Vals xs its∧h.get? a=some o∧o.cls = .type "tuple"∧o.data = .seq its.toArray n:=by
  rcases q with q | ⟨o,its,n,e,hc,hd,_,hv⟩
  · obtain ⟨_,its,hv,o,e,hc,n,hd⟩:=(show zbp P w H h a (.tup xs) from q.ok hok)
    exact ⟨its,o,n,hv,e,hc,hd⟩
  · exact ⟨its.toList,o,n,hv,KX _ _ e,hc,by simp [hd]⟩
mutual
theorem Dw.reads (hok:HOk P w H h) (KX:K.In h) : ∀ (d:WData) (v:V) (u:Value),Dw K H v d→RelV v u→∃ as,ReadsW R cl h u d as
  | .none,_,_,x,r=>by
    cases x
    cases r
    exact ⟨_,ReadsW.none⟩
  | .bool b,_,_,x,r=>by
    cases x
    cases r
    exact ⟨_,ReadsW.bool b⟩
  | .int i,_,_,x,r=>by
    cases x
    obtain ⟨t,rfl⟩:=r
    exact ⟨_,ReadsW.int i t⟩
  | .str s,_,_,x,r=>by
    cases x
    obtain ⟨t,rfl⟩:=r
    exact ⟨_,ReadsW.str s t⟩
  | .bytes b,_,_,x,r=>by
    cases x
    obtain ⟨t,rfl⟩:=r
    exact ⟨_,ReadsW.bytes _ t⟩
  | .list ds,_,_,x,r=>by
    cases x with
    | lst hs ha =>
      cases r
      obtain ⟨its,o,n,rv,ho,hc,hd⟩:=zxb hok KX hs
      obtain ⟨as,hr⟩:=Dw.readsAll hok KX ds _ its ha rv
      exact ⟨_,ReadsW.list ho hc hd hr⟩
  | .tuple ds,_,_,x,r=>by
    cases x with
    | tup hs ha =>
      cases r
      obtain ⟨its,o,n,rv,ho,hc,hd⟩:=zxa hok KX hs
      obtain ⟨as,hr⟩:=Dw.readsAll hok KX ds _ its ha rv
      exact ⟨_,ReadsW.tuple ho hc hd hr⟩
  | .float _,_,_,x,_=>by cases x
  | .dict _,_,_,x,_=>by cases x
  | .bytearray _,_,_,x,_=>by cases x
  | .set _,_,_,x,_=>by cases x
  | .frozenset _,_,_,x,_=>by cases x
  | .obj _ _,_,_,x,_=>by cases x
theorem Dw.readsAll (hok:HOk P w H h) (KX:K.In h) : ∀ (ds:List WData) (vs:List V) (us:List Value),DwAll K H vs ds→Vals vs us→∃ as,ReadsAllW R cl h us ds as
  | [],_,_,x,r=>by
    cases x
    cases r
    exact ⟨_,ReadsAllW.nil⟩
  | d::ds,_,_,x,r=>by
    cases x with
    | cons h1 h2 =>
      cases r with
      | cons r1 r2 =>
        obtain ⟨as,q1⟩:=Dw.reads hok KX d _ _ h1 r1
        obtain ⟨bs,q2⟩:=Dw.readsAll hok KX ds _ _ h2 r2
        exact ⟨_,ReadsAllW.cons q1 q2⟩
end
end
mutual
noncomputable def plW:WData→Bool
  | .none=>true
  | .bool _=>true
  | .int _=>true
  | .str _=>true
  | .bytes _=>true
  | .list xs=>plWs xs
  | .tuple xs=>plWs xs
  | _=>false
noncomputable def plWs:List WData→Bool
  | []=>true
  | x::r=>plW x && plWs r
end
theorem znp {α:Type}{f:α→WData} (h : ∀ a,plW (f a)=true) : ∀ l:List α,plWs (l.map f)=true
  | []=>rfl
  | x::r=>by
    show (plW (f x) && plWs (r.map f))=true
    rw [h x,znp h r] <;> rfl
theorem zf1 : ∀ (c:Codec) (a:c.denote),plW (c.enc a)=true
  | .unit,_=>rfl
  | .bool,_=>rfl
  | .int _ _,_=>rfl
  | .nat _ _,_=>rfl
  | .u8,_=>rfl
  | .bytes _ _,_=>rfl
  | .text _ _ _ _,_=>rfl
  | .list _ _ c,a=>znp (fun x=>zf1 c x) a
  | .pair c d,a=>by
    show (plW (c.enc a.1) && (plW (d.enc a.2) && true))=true
    rw [zf1 c a.1,zf1 d a.2] <;> rfl
  | .triple c d e,a=>by
    show (plW (c.enc a.1) && (plW (d.enc a.2.1) && (plW (e.enc a.2.2) && true)))=true
    rw [zf1 c a.1,zf1 d a.2.1,zf1 e a.2.2] <;> rfl
  | .option c,none=>rfl
  | .option c,some x=>zf1 c x
theorem zkx : ∀ (cs:List Codec) (a:Codec.denoteAll cs),plWs (Codec.encAll cs a)=true
  | [],_=>rfl
  | c::cs,a=>by
    show (plW (c.enc a.1) && plWs (Codec.encAll cs a.2))=true
    rw [zf1 c a.1,zkx cs a.2] <;> rfl
theorem zfj : ∀ {xs:List WData}{d:WData},d∈xs→d.weight≤WData.weightAll xs
  | [],d,h=>absurd h (by simp)
  | x::r,d,h=>by
    show d.weight≤x.weight+1+WData.weightAll r
    rcases List.mem_cons.mp h with e | m
    · rw [e]
      omega
    · have z:=zfj m
      omega
noncomputable def toV:Value→V
  | .none => .non
  | .bool b => .bl b
  | .int i _ => .int i
  | .str x _ => .str x
  | .bytes b _ => .byt b
  | .ref a => .ref a
  | _ => .non
noncomputable def OkU (A:List Addr):Value→Prop
  | .none=>True
  | .bool _=>True
  | .int _ _=>True
  | .str _ _=>True
  | .bytes _ _=>True
  | .ref a=>a∈A
  | _=>False
theorem OkU.mono {A B:List Addr} (h : ∀ a∈A,a∈B) : ∀ {u:Value},OkU A u→OkU B u:=fun {u} x=>by
  cases u with
  | ref a=>exact h a x
  | none=>trivial
  | bool b=>trivial
  | int i t=>trivial
  | str s t=>trivial
  | bytes b t=>trivial
  | _=>exact False.elim x
theorem zs5 {A:List Addr}{u:Value} (x:OkU A u):RelV (toV u) u:=by
  cases u with
  | ref a=>rfl
  | none=>rfl
  | bool b=>rfl
  | int i t=>exact ⟨t,rfl⟩
  | str s t=>exact ⟨t,rfl⟩
  | bytes b t=>exact ⟨t,rfl⟩
  | _=>exact False.elim x
theorem zd0 {A:List Addr} : ∀ {vs:List Value},(∀ u∈vs,OkU A u)→Vals (vs.map toV) vs
  | [],_ => .nil
  | u::r,h => .cons (zs5 (h u (List.mem_cons_self ..))) (zd0 fun x hx=>h x (List.mem_cons_of_mem _ hx))
noncomputable def zgg (h:Heap) (A:List Addr) (a:Addr):Prop:=∃ vs:List Value,vs.length≤sizeLine∧(∀ u∈vs,OkU A u) ∧
  (h.get? a=some { cls := .type "list",data := .seq vs.toArray }∨h.get? a=some { cls := .type "tuple",data := .seq vs.toArray })
theorem zgg.mono {h:Heap}{A B:List Addr}{a:Addr} (k : ∀ a∈A,a∈B) (x:zgg h A a):zgg h B a:=by
  obtain ⟨vs,h1,h2,h3⟩:=x
  exact ⟨vs,h1,fun u hu=>(h2 u hu).mono k,h3⟩
theorem zc5 {P:Params}{h:Heap} : ∀ {vs:List Value}{ds:List WData},WellAll P h vs ds→vs.length=ds.length
  | _,_,.nil=>rfl
  | _,_,.cons _ b=>by
    show _+1=_+1
    rw [zc5 b]
theorem zj7 {P:Params}{h:Heap}{v:Value}{ds:List WData} (x:Well P h v (.list ds)) : ∃ (a:Addr) (vs:List Value),v = .ref a∧h.get? a=some { cls := .type "list",data := .seq vs.toArray }∧WellAll P h vs ds:=by
  cases x with
  | list ho hall=>exact ⟨_,_,rfl,ho,hall⟩
theorem zie {P:Params}{h:Heap}{v:Value}{ds:List WData} (x:Well P h v (.tuple ds)) : ∃ (a:Addr) (vs:List Value),v = .ref a∧h.get? a=some { cls := .type "tuple",data := .seq vs.toArray }∧WellAll P h vs ds:=by
  cases x with
  | tuple ho hall=>exact ⟨_,_,rfl,ho,hall⟩
theorem zj8 {P:Params}{h:Heap}{us:List Value}{d:WData}{ds:List WData} (x:WellAll P h us (d::ds)) : ∃ (v:Value) (vs:List Value),us=v::vs∧Well P h v d∧WellAll P h vs ds:=by
  cases x with
  | cons a b=>exact ⟨_,_,rfl,a,b⟩
theorem zrh {n:Nat} (h:n≤1048576):n≤sizeLine:=Nat.le_trans h (by decide)
section
variable {P:Params}{h:Heap}
mutual
theorem zud : ∀ (d:WData) (v:Value),Well P h v d→plW d=true→d.weight≤1048576→∃ A:List Addr,OkU A v∧∀ a∈A,zgg h A a
  | .none,_,x,_,_=>by
    cases x
    exact ⟨[],trivial,fun a m=>absurd m (by simp)⟩
  | .bool b,_,x,_,_=>by
    cases x
    exact ⟨[],trivial,fun a m=>absurd m (by simp)⟩
  | .int i,_,x,_,_=>by
    cases x
    exact ⟨[],trivial,fun a m=>absurd m (by simp)⟩
  | .str s,_,x,_,_=>by
    cases x
    exact ⟨[],trivial,fun a m=>absurd m (by simp)⟩
  | .bytes b,_,x,_,_=>by
    cases x
    exact ⟨[],trivial,fun a m=>absurd m (by simp)⟩
  | .list ds,_,x,p,z=>by
    obtain ⟨a,vs,rfl,ho,hall⟩:=zj7 x
    have z2:WData.weightAll ds≤1048576:=z
    obtain ⟨A,h1,h2⟩:=zgt ds _ hall p fun d hd=>Nat.le_trans (zfj hd) z2
    have k : ∀ b∈A,b∈a::A:=fun b hb=>List.mem_cons_of_mem _ hb
    refine ⟨a::A,List.mem_cons_self ..,fun b hb=>?_⟩
    rcases List.mem_cons.mp hb with e | m
    · rw [e]
      exact ⟨vs,zrh (by rw [zc5 hall];exact Nat.le_trans (PySem.W.length_le_weightAllW ds) z2),fun u hu=>(h1 u hu).mono k,.inl ho⟩
    · exact (h2 b m).mono k
  | .tuple ds,_,x,p,z=>by
    obtain ⟨a,vs,rfl,ho,hall⟩:=zie x
    have z2:WData.weightAll ds≤1048576:=z
    obtain ⟨A,h1,h2⟩:=zgt ds _ hall p fun d hd=>Nat.le_trans (zfj hd) z2
    have k : ∀ b∈A,b∈a::A:=fun b hb=>List.mem_cons_of_mem _ hb
    refine ⟨a::A,List.mem_cons_self ..,fun b hb=>?_⟩
    rcases List.mem_cons.mp hb with e | m
    · rw [e]
      exact ⟨vs,zrh (by rw [zc5 hall];exact Nat.le_trans (PySem.W.length_le_weightAllW ds) z2),fun u hu=>(h1 u hu).mono k,.inr ho⟩
    · exact (h2 b m).mono k
  | .float _,_,_,p,_=>Bool.noConfusion (show false=true from p)
  | .dict _,_,_,p,_=>Bool.noConfusion (show false=true from p)
  | .bytearray _,_,_,p,_=>Bool.noConfusion (show false=true from p)
  | .set _,_,_,p,_=>Bool.noConfusion (show false=true from p)
  | .frozenset _,_,_,p,_=>Bool.noConfusion (show false=true from p)
  | .obj _ _,_,_,p,_=>Bool.noConfusion (show false=true from p)
theorem zgt : ∀ (ds:List WData) (vs:List Value),WellAll P h vs ds→plWs ds=true→(∀ d∈ds,d.weight≤1048576)→∃ A:List Addr,(∀ u∈vs,OkU A u)∧∀ a∈A,zgg h A a
  | [],_,x,_,_=>by
    cases x
    exact ⟨[],fun u m=>absurd m (by simp),fun a m=>absurd m (by simp)⟩
  | d::ds,_,x,p,z=>by
    obtain ⟨v,vs,rfl,x1,x2⟩:=zj8 x
    have q:plW d=true∧plWs ds=true:=Bool.and_eq_true_iff.mp p
    obtain ⟨A,a1,a2⟩:=zud d v x1 q.1 (z d (List.mem_cons_self ..))
    obtain ⟨B,b1,b2⟩:=zgt ds vs x2 q.2 fun e he=>z e (List.mem_cons_of_mem _ he)
    have kA : ∀ b∈A,b∈A++B:=fun b hb=>List.mem_append.mpr (.inl hb)
    have kB : ∀ b∈B,b∈A++B:=fun b hb=>List.mem_append.mpr (.inr hb)
    refine ⟨A++B,fun u hu=>?_,fun b hb=>?_⟩
    · rcases List.mem_cons.mp hu with e | m
      · rw [e]
        exact a1.mono kA
      · exact (b1 u m).mono kB
    · rcases List.mem_append.mp hb with m | m
      · exact (a2 b m).mono kA
      · exact (b2 b m).mono kB
end
end
noncomputable def hoOf (o:Obj):Option HO:=match o.data with
  | .seq vs _=>if (o.cls == Value.type "list")=true then some (.frz o (.lst (vs.toList.map toV))) else some (.frz o (.tup (vs.toList.map toV)))
  | _=>none
noncomputable def argH (K:PySem.W.Frag) (h:Heap) (A:List Addr):Hp:=fun b=>if b∈A then (if (K.lookup b).isNone=true then (h.get? b).bind hoOf else none) else none
noncomputable def zso (H:Hp):Prop:=∀ b,H b=none∨∃ o u,H b=some (.frz o u)
theorem zn4 (vs:List Value):hoOf { cls := .type "list",data := .seq vs.toArray }=some (.frz { cls := .type "list",data := .seq vs.toArray } (.lst (vs.map toV))):=by
  show (if (Value.type "list" == Value.type "list")=true then some (HO.frz { cls := .type "list",data := .seq vs.toArray } (.lst (vs.toArray.toList.map toV))) else some (HO.frz { cls := .type "list",data := .seq vs.toArray } (.tup (vs.toArray.toList.map toV))))=_
  rw [if_pos (beq_self_eq_true _)]
theorem zn3 (vs:List Value):hoOf { cls := .type "tuple",data := .seq vs.toArray }=some (.frz { cls := .type "tuple",data := .seq vs.toArray } (.tup (vs.map toV))):=by
  show (if (Value.type "tuple" == Value.type "list")=true then some (HO.frz { cls := .type "tuple",data := .seq vs.toArray } (.lst (vs.toArray.toList.map toV))) else some (HO.frz { cls := .type "tuple",data := .seq vs.toArray } (.tup (vs.toArray.toList.map toV))))=_
  rw [if_neg (by decide)]
section
variable {P:Program}{w:World}{K:PySem.W.Frag}{h:Heap}{A:List Addr}
theorem zj4 {b:Addr}{o:Obj} (hb:b∈A) (hk:K.lookup b=none) (e:h.get? b=some o):argH K h A b=hoOf o:=by
  unfold argH
  rw [if_pos hb,hk,if_pos (show (none:Option Obj).isNone=true from rfl),e] <;> rfl
theorem zwb {b:Addr}{u:HO} (q:argH K h A b=some u):b∈A∧K.lookup b=none:=by
  unfold argH at q
  by_cases hb:b∈A
  · rw [if_pos hb] at q
    cases hk:K.lookup b with
    | none=>exact ⟨hb,rfl⟩
    | some o =>
      rw [hk,if_neg (by simp)] at q
      cases q
  · rw [if_neg hb] at q
    cases q
theorem zj3 (ar : ∀ a∈A,zgg h A a) {b:Addr}{u:HO} (q:argH K h A b=some u):K.lookup b=none∧∃ vs:List Value,vs.length≤sizeLine∧(∀ u∈vs,OkU A u) ∧
    ((h.get? b=some { cls := .type "list",data := .seq vs.toArray }∧u = .frz { cls := .type "list",data := .seq vs.toArray } (.lst (vs.map toV))) ∨
     (h.get? b=some { cls := .type "tuple",data := .seq vs.toArray }∧u = .frz { cls := .type "tuple",data := .seq vs.toArray } (.tup (vs.map toV)))):=by
  obtain ⟨hb,hk⟩:=zwb q
  obtain ⟨vs,h1,h2,h3⟩:=ar b hb
  refine ⟨hk,vs,h1,h2,?_⟩
  rcases h3 with e | e
  · rw [zj4 hb hk e,zn4] at q
    exact .inl ⟨e,(Option.some.inj q).symm⟩
  · rw [zj4 hb hk e,zn3] at q
    exact .inr ⟨e,(Option.some.inj q).symm⟩
theorem zsl (ar : ∀ a∈A,zgg h A a):zso (argH K h A):=fun b=>by
  cases q:argH K h A b with
  | none=>exact .inl rfl
  | some u =>
    obtain ⟨_,vs,_,_,⟨_,e⟩ | ⟨_,e⟩⟩:=zj3 ar q
    · exact .inr ⟨_,_,by rw [e]⟩
    · exact .inr ⟨_,_,by rw [e]⟩
theorem zw0 (ar : ∀ a∈A,zgg h A a):HOk P w (argH K h A) h:=fun b u q=>by
  obtain ⟨_,vs,h1,h2,⟨e,rfl⟩ | ⟨e,rfl⟩⟩:=zj3 ar q
  · exact ⟨e,by rw [List.length_map];exact h1,vs,_,zd0 h2,e⟩
  · exact ⟨e,by rw [List.length_map];exact h1,vs,zd0 h2,_,e,rfl,_,rfl⟩
theorem zjk {c c':Value}{vs us:List Value} (e:(some { cls:=c,data := .seq vs.toArray }:Option Obj)=some { cls:=c',data := .seq us.toArray }):c=c'∧vs=us:=by
  have e1:=Option.some.inj e
  have e2:c=c':=congrArg Obj.cls e1
  have e3:Data.seq vs.toArray=Data.seq us.toArray:=congrArg Obj.data e1
  injection e3 with e4
  refine ⟨e2,?_⟩
  have e5:=congrArg Array.toList e4
  simpa using e5
theorem argL (KX:K.In h) (ar : ∀ a∈A,zgg h A a) {a:Addr}{vs:List Value} (ha:a∈A) (e:h.get? a=some { cls := .type "list",data := .seq vs.toArray }):(∀ u∈vs,OkU A u)∧SqL K (argH K h A) a (vs.map toV):=by
  obtain ⟨us,h1,h2,h3⟩:=ar a ha
  have hu:us=vs:=by
    rcases h3 with q | q
    · rw [e] at q
      exact (zjk q).2.symm
    · rw [e] at q
      exact absurd (Value.type.inj (zjk q).1) (by decide)
  subst hu
  refine ⟨h2,?_⟩
  cases hk:K.lookup a with
  | none=>exact .inl (.inr ⟨_,by rw [zj4 ha hk e,zn4]⟩)
  | some o =>
    have e2:=KX a o hk
    rw [e] at e2
    obtain rfl:=Option.some.inj e2
    exact .inr ⟨_,us.toArray,_,hk,rfl,rfl,rfl,by rw [List.size_toArray];exact h1,by simpa using zd0 h2⟩
theorem argT (KX:K.In h) (ar : ∀ a∈A,zgg h A a) {a:Addr}{vs:List Value} (ha:a∈A) (e:h.get? a=some { cls := .type "tuple",data := .seq vs.toArray }):(∀ u∈vs,OkU A u)∧SqT K (argH K h A) a (vs.map toV):=by
  obtain ⟨us,h1,h2,h3⟩:=ar a ha
  have hu:us=vs:=by
    rcases h3 with q | q
    · rw [e] at q
      exact absurd (Value.type.inj (zjk q).1) (by decide)
    · rw [e] at q
      exact (zjk q).2.symm
  subst hu
  refine ⟨h2,?_⟩
  cases hk:K.lookup a with
  | none=>exact .inl (.inr ⟨_,by rw [zj4 ha hk e,zn3]⟩)
  | some o =>
    have e2:=KX a o hk
    rw [e] at e2
    obtain rfl:=Option.some.inj e2
    exact .inr ⟨_,us.toArray,_,hk,rfl,rfl,by rw [List.size_toArray];exact h1,by simpa using zd0 h2⟩
mutual
theorem zyd {Pm:Params} (KX:K.In h) (ar : ∀ a∈A,zgg h A a) : ∀ (d:WData) (v:Value),Well Pm h v d→plW d=true→OkU A v→Dw K (argH K h A) (toV v) d
  | .none,_,x,_,_=>by
    cases x
    exact .non
  | .bool b,_,x,_,_=>by
    cases x
    exact .bl b
  | .int i,_,x,_,_=>by
    cases x
    exact .int i
  | .str s,_,x,_,_=>by
    cases x
    exact .str s
  | .bytes b,_,x,_,_=>by
    cases x
    have z:=Dw.byt (K:=K) (H:=argH K h A) b.toArray
    exact z
  | .list ds,_,x,p,hu=>by
    obtain ⟨a,vs,rfl,ho,hall⟩:=zj7 x
    obtain ⟨h2,hs⟩:=argL KX ar hu ho
    exact .lst hs (zob KX ar ds _ hall p h2)
  | .tuple ds,_,x,p,hu=>by
    obtain ⟨a,vs,rfl,ho,hall⟩:=zie x
    obtain ⟨h2,hs⟩:=argT KX ar hu ho
    exact .tup hs (zob KX ar ds _ hall p h2)
  | .float _,_,_,p,_=>Bool.noConfusion (show false=true from p)
  | .dict _,_,_,p,_=>Bool.noConfusion (show false=true from p)
  | .bytearray _,_,_,p,_=>Bool.noConfusion (show false=true from p)
  | .set _,_,_,p,_=>Bool.noConfusion (show false=true from p)
  | .frozenset _,_,_,p,_=>Bool.noConfusion (show false=true from p)
  | .obj _ _,_,_,p,_=>Bool.noConfusion (show false=true from p)
theorem zob {Pm:Params} (KX:K.In h) (ar : ∀ a∈A,zgg h A a) : ∀ (ds:List WData) (vs:List Value),WellAll Pm h vs ds→plWs ds=true→(∀ u∈vs,OkU A u)→DwAll K (argH K h A) (vs.map toV) ds
  | [],_,x,_,_=>by
    cases x
    exact .nil
  | d::ds,_,x,p,hu=>by
    obtain ⟨v,vs,rfl,x1,x2⟩:=zj8 x
    have q:plW d=true∧plWs ds=true:=Bool.and_eq_true_iff.mp p
    exact .cons (zyd KX ar d v x1 q.1 (hu _ (List.mem_cons_self ..))) (zob KX ar ds vs x2 q.2 fun u m=>hu u (List.mem_cons_of_mem _ m))
end
end
theorem zp6 {P:Program}{w:World}{K:PySem.W.Frag}{mg mb:Str→Option Value}{CX:CXT}{k:Nat}{fa:Addr}{fd:FuncData}{ps:List Str}{sp:Sp}{s₁:Shared}{vals:List Value}{ds:List WData}{R:PySem.W.WRecords}{cl:Str→Option Addr}{d0:WData}
    (KX:K.In s₁.heap) (hns:s₁.heap.Ns mainGlobals mg) (hb:s₁.heap.Ns builtinsNs mb) (hbb : ∀ x:Str,x≠"__name__"→mb x=bootBuiltins x) (hlim:s₁.heap.NoLimit) (hg:s₁.gens = #[])
    (hwl:WellAll w.params s₁.heap vals ds) (hpl:plWs ds=true) (hwt : ∀ d∈ds,d.weight≤1048576) (hr:Room k callerA)
    (F : ∀ base:Heap,K.In base→base.Ns mainGlobals mg→FnOk P w K mg base CX k fa fd ps sp) (hbind : ∀ (s:Shared) (us:List Value),us.length=ps.length→BindsTo s fd ⟨us,[]⟩ (ps.zip us)) (hlen:ds.length=ps.length)
    (hsp : ∀ (H:Hp) (xs:List V),zso H→DwAll K H xs ds→sp xs H (fun v H'=>Dw K H' v d0) fun _ _ _=>False)
    (hCX : ∀ H e s',CX [] H s₁ (fun _ _ _=>False) e s'→False) :
    codeAny (model P w) callerA (.call (.ref fa) ⟨vals,[]⟩) (fun r s'=>∃ u as,r = .ok (.ret u)∧ReadsW R cl s'.heap u d0 as∧OldK s₁.heap s'.heap∧s'.os=s₁.os∧AllBare s'.gens) s₁:=by
  obtain ⟨A,ho,ar⟩:=zgt ds vals hwl hpl hwt
  have hO:zso (argH K s₁.heap A):=zsl ar
  have hok:HOk P w (argH K s₁.heap A) s₁.heap:=zw0 ar
  have hS:=zob KX ar ds vals hwl hpl ho
  have hV:=zd0 ho
  have hK : ∀ b u,argH K s₁.heap A b=some u→K.lookup b=none:=fun b u q=>(zj3 ar q).1
  have noA : ∀ {b:Addr}{o:Obj}{es:Array DictEntry}{ep:Nat},s₁.heap.get? b=some o→o.data = .dict es ep→argH K s₁.heap A b=none:=fun {b o es ep} e d=>by
    cases q:argH K s₁.heap A b with
    | none=>rfl
    | some u =>
      obtain ⟨_,vs,_,_,⟨e2,_⟩ | ⟨e2,_⟩⟩:=zj3 ar q
      · rw [e2] at e
        cases e
        have d':Data.seq vs.toArray _=Data.dict es ep:=d
        cases d'
      · rw [e2] at e
        cases e
        have d':Data.seq vs.toArray _=Data.dict es ep:=d
        cases d'
  generalize argH K s₁.heap A=H at hO hok hS hK noA
  have base_of : ∀ {b:Addr}{o:Obj},s₁.heap.get? b=some o→H b=none→(hidT s₁.heap H).get? b=some o:=fun e n=>ztt e n
  have nsK : ∀ {b:Addr}{m:Str→Option Value},s₁.heap.Ns b m→(hidT s₁.heap H).Ns b m:=fun {b m} ⟨o,es,ep,e,d,r⟩=>⟨o,es,ep,base_of e (noA e d),d,r⟩
  have nK : ∀ b o,K.lookup b=some o→H b=none:=fun b o e=>by
    cases q:H b with
    | none=>rfl
    | some u =>
      rw [hK b u q] at e
      cases e
  have hKb:K.In (hidT s₁.heap H):=fun b o e=>base_of (KX b o e) (nK b o e)
  have hM:Mod K mg (hidT s₁.heap H):=⟨hKb,nsK hns,⟨mb,nsK hb,hbb⟩,let ⟨mc,h1,h2⟩:=hlim;⟨mc,nsK h1,h2⟩⟩
  have e0:Env0 P w K mg (hidT s₁.heap H) callerA [] s₁ H:=⟨rfl,hM,fun b o e=>zwa e,Nat.le_of_eq (zrp _ _),trivial,fun b hb=>absurd (show b∈([]:List Addr) from hb) (by simp),hok,.of_eq hg⟩
  have hl:vals.length=ps.length:=by rw [zc5 hwl];exact hlen
  refine codeAny_mono ((F _ hKb (nsK hns)).run callerA [] s₁ H ⟨vals,[]⟩ vals (vals.map toV) _ _ hr e0 (hbind s₁ vals hl) hV (hsp H _ hO hS)) fun r s' x=>?_
  cases r with
  | error e=>exact (hCX H e s' x).elim
  | ok fl =>
    cases fl with
    | next=>exact False.elim x
    | brk=>exact False.elim x
    | cont=>exact False.elim x
    | ret u =>
      obtain ⟨v,H',os,bare,un,hok',r',q⟩:=x
      have kept : ∀ b o,s₁.heap.get? b=some o→s'.heap.get? b=some o:=fun b o e=>by
        cases q2:H b with
        | none=>exact un.keep b o e q2 (by intro z;exact absurd (show b∈([]:List Addr) from z) (by simp)) (by simp)
        | some u2 =>
          rcases hO b with z | ⟨ob,u3,z⟩
          · rw [q2] at z
            cases z
          · have z2:=un.frzs b ob _ z
            obtain ⟨e1,_⟩:=hok b _ z
            obtain ⟨e2,_⟩:=hok' b _ z2
            rw [e] at e1
            cases e1
            exact e2
      have KX':K.In s'.heap:=fun b o e=>kept b o (KX b o e)
      obtain ⟨as,hrd⟩:=Dw.reads (R:=R) (cl:=cl) hok' KX' d0 v u q r'
      exact ⟨u,as,rfl,hrd,OldK.of_keep kept,os,bare⟩
theorem zia {ds:List WData} (h:WData.layableAll ds=true) : ∀ d∈ds,d.weight≤1048576:=fun d hd =>
  (PySem.W.layableW_iff.mp (List.all_eq_true.mp h d hd)).2.2
theorem zi4 : ∀ (cs:List Codec) (a:Codec.denoteAll cs),(Codec.encAll cs a).length=cs.length
  | [],_=>rfl
  | c::cs,a=>by
    show (Codec.encAll cs a.2).length+1=cs.length+1
    rw [zi4 cs a.2]
theorem zpr {r:OpenSpec}{k:Nat}{q:Program}{loose:List Str}{XP:(Str→Option Value)→Heap→Prop}{YP:World→Heap→Prop}{d:DefRec}{K:Params→PySem.W.Frag}{CX:World→CXT}{ps:List Str}{sp:World→Sp}
    (hwell:r.wellSaid=true) (hdf:d.params.defaults=[]) (hlen:r.args.length=ps.length) (hr:Room k callerA)
    (hY : ∀ (w:World) (h:Heap),YP w h→(K w.params).In h)
    (F : ∀ (w:World) (mg:Str→Option Value) (fa:Addr) (h:Heap),YP w h→(K w.params).In h→h.Ns mainGlobals mg→mg d.name=some (.ref fa) →
      ∃ fd:FuncData,(∀ (s:Shared) (us:List Value),us.length=ps.length→BindsTo s fd ⟨us,[]⟩ (ps.zip us)) ∧
        ∀ base:Heap,(K w.params).In base→base.Ns mainGlobals mg→FnOk r.prog w (K w.params) mg base (CX w) k fa fd ps (sp w))
    (hsp : ∀ (w:World) (H:Hp) (xs:List V) (a:Codec.denoteAll r.args),zso H→Codec.withinAll r.args a=true→Codec.app r.args r.asked a=true→DwAll (K w.params) H xs (Codec.encAll r.args a) →
      sp w xs H (fun v H'=>Dw (K w.params) H' v (r.ret.enc (Codec.app r.args r.f a))) fun _ _ _=>False)
    (hCX : ∀ (w:World) (H:Hp) (s:Shared) (e:Value) (s':Shared),CX w [] H s (fun _ _ _=>False) e s'→False) :
    PySem.W.WalkOS q loose XP YP r d [] (fun f vs=>PySem.call f vs):=by
  intro w s_0 s₁ mg mb G Y fa o pm cd doc dV kV ho hd hcd hD hmg hg args vals as hpre hlay hrd hwl hlo
  obtain ⟨a,e1,e2⟩:=PySem.W.os_pre_some hpre
  obtain ⟨e3,hwi⟩:=Codec.encAll_of_decAll r.args args a e1
  subst e3
  have KX:=hY w _ Y
  obtain ⟨fd,hb,hF⟩:=F w mg fa _ Y KX G.T.g hmg
  refine PySem.W.enter_call (codeAny_mono (zp6 (R:=[]) (cl:=classAt s_0.heap) (d0:=r.ret.enc (Codec.app r.args r.f a)) KX G.T.g G.T.b G.T.builtins G.T.nolimit hg hwl (zkx _ _) (zia hlay) hr hF hb (by rw [zi4];exact hlen)
    (fun H xs hO hS=>hsp w H xs a hO hwi e2 hS) fun H e s'=>hCX w H s₁ e s') fun r' s' hq=>?_)
  obtain ⟨u,as',rfl,h1,h2,h3,h4⟩:=hq
  exact ⟨.inl ⟨u,_,as',rfl,fun _=>rfl,h1,(OpenSpec.post_iff hwell hwi _ _).mpr rfl,fun z=>Bool.noConfusion (show false=true from z)⟩,h2,h3,h4⟩
theorem zoh {r:OpenSpec}{k:Nat}{q:Program}{loose:List Str}{XP:(Str→Option Value)→Heap→Prop}{YP:World→Heap→Prop}{d:DefRec}{K:Params→PySem.W.Frag}{CX:CXT}{ps:List Str}{sp:PySem.W.Frag→Sp}
    (hwell:r.wellSaid=true) (hdf:d.params.defaults=[]) (hlen:r.args.length=ps.length) (hr:Room k callerA)
    (hY : ∀ (w:World) (h:Heap),YP w h→(K w.params).In h)
    (F : ∀ (w:World) (mg:Str→Option Value) (fa:Addr) (h:Heap),YP w h→(K w.params).In h→h.Ns mainGlobals mg→mg d.name=some (.ref fa) →
      ∃ fd:FuncData,(∀ (s:Shared) (us:List Value),us.length=ps.length→BindsTo s fd ⟨us,[]⟩ (ps.zip us)) ∧
        ∀ base:Heap,(K w.params).In base→base.Ns mainGlobals mg→FnOk r.prog w (K w.params) mg base CX k fa fd ps (sp (K w.params)))
    (hsp : ∀ (K:PySem.W.Frag) (H:Hp) (xs:List V) (a:Codec.denoteAll r.args),zso H→Codec.withinAll r.args a=true→Codec.app r.args r.asked a=true→DwAll K H xs (Codec.encAll r.args a) →
      sp K xs H (fun v H'=>Dw K H' v (r.ret.enc (Codec.app r.args r.f a))) fun _ _ _=>False)
    (hCX : ∀ (H:Hp) (s:Shared) (e:Value) (s':Shared),CX [] H s (fun _ _ _=>False) e s'→False) :
    PySem.W.WalkOS q loose XP YP r d [] (fun f vs=>PySem.call f vs) :=
  zpr (K:=K) (CX:=fun _=>CX) (sp:=fun w=>sp (K w.params)) hwell hdf hlen hr hY F (fun w H xs a h1 h2 h3 h4=>hsp (K w.params) H xs a h1 h2 h3 h4) fun _ H s e s'=>hCX H s e s'
end L2
end
set_option maxHeartbeats 2000000
namespace M
open PySem PySem.Spec PyProof.Rows L2 TL
local macro_rules
  | `(tactic| dsimp! []) => `(tactic| try dsimp only [tRet,zsu,tSeq,zok,zif,tC,tVar,tOp,tUn,rI0,rI,rU,zl1,tB,tIfS,tIf,tAnd,tOr,tNot,zp2,tOrV,zsv,tAsg,tCB,zgc,tNil,zkg,zpz,tAug,ipI,tSl,zpx,zg5,tM0,tM1,rEq,rNe,tIsN,zsw,rIxS,rIxL,rIxT,rAll,rMax,rSum,rSlL,rSlS,rIn,tLst,tTup,iStr,zmq,iTup,tYes,if_true,if_false,ite_true,ite_false,zgd,cx_K,cx_P,cx_w,zt9,zj0,cx_N,wipe,L2.start,List.map_cons,List.map_nil,List.cons_append,List.nil_append,List.getElem?_cons_zero,List.getElem?_cons_succ,List.set_cons_zero,List.set_cons_succ])
  | `(tactic| dsimp! [$l,*]) => `(tactic| try dsimp only [tRet,zsu,tSeq,zok,zif,tC,tVar,tOp,tUn,rI0,rI,rU,zl1,tB,tIfS,tIf,tAnd,tOr,tNot,zp2,tOrV,zsv,tAsg,tCB,zgc,tNil,zkg,zpz,tAug,ipI,tSl,zpx,zg5,tM0,tM1,rEq,rNe,tIsN,zsw,rIxS,rIxL,rIxT,rAll,rMax,rSum,rSlL,rSlS,rIn,tLst,tTup,iStr,zmq,iTup,tYes,if_true,if_false,ite_true,ite_false,zgd,cx_K,cx_P,cx_w,zt9,zj0,cx_N,wipe,L2.start,List.map_cons,List.map_nil,List.cons_append,List.nil_append,List.getElem?_cons_zero,List.getElem?_cons_succ,List.set_cons_zero,List.set_cons_succ,$l,*])
local macro_rules
  | `(tactic| simp! []) => `(tactic| simp only [tRet,zsu,tSeq,zok,zif,tC,tVar,tOp,tUn,rI0,rI,rU,zl1,tB,tIfS,tIf,tAnd,tOr,tNot,zp2,tOrV,zsv,tAsg,zgd,tCB,zgc,tNil,zkg,zpz,tAug,ipI,tSl,zpx,zg5,tM0,tM1,rEq,rNe,tIsN,zsw,zqo,zqn,zqp,rIxS,rIxL,rIxT,rAll,rMax,rSum,rSlL,rSlS,rIn,tLst,tTup,iStr,zmq,iTup,tYes,cx_K,cx_P,cx_w,zt9,zj0,cx_N,wipe,L2.start,List.map_cons,List.map_nil,List.length_cons,List.length_nil,List.replicate,List.cons_append,List.nil_append,List.append_nil,List.getElem?_cons_zero,List.getElem?_cons_succ,List.set_cons_zero,List.set_cons_succ,Nat.reduceSub,Nat.reduceAdd,Nat.add_zero,Nat.zero_add,Option.some.injEq,V.int.injEq,V.bl.injEq,V.str.injEq,V.ref.injEq,List.cons.injEq,and_true,true_and,exists_eq_left,exists_eq_left',exists_and_left,exists_eq,exists_eq',reduceCtorEq,false_and,Bool.false_eq_true,if_true,if_false,ite_true,ite_false,decide_eq_true_eq,zq6,zq7,S_eq,zbo,and_assoc,Int.natCast_inj,zad,zgy,HO.ins.injEq,List.zip_cons_cons,List.zip_nil_left,List.zip_nil_right])
  | `(tactic| simp! [$l,*]) => `(tactic| simp only [tRet,zsu,tSeq,zok,zif,tC,tVar,tOp,tUn,rI0,rI,rU,zl1,tB,tIfS,tIf,tAnd,tOr,tNot,zp2,tOrV,zsv,tAsg,zgd,tCB,zgc,tNil,zkg,zpz,tAug,ipI,tSl,zpx,zg5,tM0,tM1,rEq,rNe,tIsN,zsw,zqo,zqn,zqp,rIxS,rIxL,rIxT,rAll,rMax,rSum,rSlL,rSlS,rIn,tLst,tTup,iStr,zmq,iTup,tYes,cx_K,cx_P,cx_w,zt9,zj0,cx_N,wipe,L2.start,List.map_cons,List.map_nil,List.length_cons,List.length_nil,List.replicate,List.cons_append,List.nil_append,List.append_nil,List.getElem?_cons_zero,List.getElem?_cons_succ,List.set_cons_zero,List.set_cons_succ,Nat.reduceSub,Nat.reduceAdd,Nat.add_zero,Nat.zero_add,Option.some.injEq,V.int.injEq,V.bl.injEq,V.str.injEq,V.ref.injEq,List.cons.injEq,and_true,true_and,exists_eq_left,exists_eq_left',exists_and_left,exists_eq,exists_eq',reduceCtorEq,false_and,Bool.false_eq_true,if_true,if_false,ite_true,ite_false,decide_eq_true_eq,zq6,zq7,S_eq,zbo,and_assoc,Int.natCast_inj,zad,zgy,HO.ins.injEq,List.zip_cons_cons,List.zip_nil_left,List.zip_nil_right,$l,*])
noncomputable def top (i:Nat):Stmt:=PySem.Challenge.pw_measuretext_s08_free.main.body.getD i (.Pass ⟨0,0,0,0⟩)
noncomputable abbrev s_q71:Stmt:=top 9
theorem sc_q71:FnScope ["term","found","todo","item","part"] ["term"] (zaf s_q71):=⟨rfl,rfl,rfl,by decide +kernel,rfl,by decide +kernel,by decide +kernel⟩
noncomputable abbrev s_q23:Stmt:=top 10
theorem sc_q23:FnScope ["term","number","item"] ["term"] (zaf s_q23):=⟨rfl,rfl,rfl,by decide +kernel,rfl,by decide +kernel,by decide +kernel⟩
noncomputable abbrev s_q80:Stmt:=top 11
theorem sc_q80:FnScope ["node","found","words","kind"] ["node"] (zaf s_q80):=⟨rfl,rfl,rfl,by decide +kernel,rfl,by decide +kernel,by decide +kernel⟩
noncomputable abbrev s_q60:Stmt:=top 13
theorem sc_q60:FnScope ["term","found","todo","item","node","bound","content"] ["term"] (zaf s_q60):=⟨rfl,rfl,rfl,by decide +kernel,rfl,by decide +kernel,by decide +kernel⟩
noncomputable abbrev s_q69:Stmt:=top 25
theorem sc_q69:FnScope ["byte"] ["byte"] (zaf s_q69):=⟨rfl,rfl,rfl,by decide +kernel,rfl,by decide +kernel,by decide +kernel⟩
noncomputable abbrev s_q72:Stmt:=top 26
theorem sc_q72:FnScope ["byte"] ["byte"] (zaf s_q72):=⟨rfl,rfl,rfl,by decide +kernel,rfl,by decide +kernel,by decide +kernel⟩
noncomputable abbrev s_q39:Stmt:=top 27
theorem sc_q39:FnScope ["byte"] ["byte"] (zaf s_q39):=⟨rfl,rfl,rfl,by decide +kernel,rfl,by decide +kernel,by decide +kernel⟩
noncomputable abbrev s_q12:Stmt:=top 28
theorem sc_q12:FnScope ["text","sign"] ["text"] (zaf s_q12):=⟨rfl,rfl,rfl,by decide +kernel,rfl,by decide +kernel,by decide +kernel⟩
noncomputable abbrev s_q74:Stmt:=top 29
theorem sc_q74:FnScope ["byte"] ["byte"] (zaf s_q74):=⟨rfl,rfl,rfl,by decide +kernel,rfl,by decide +kernel,by decide +kernel⟩
noncomputable abbrev s_q0:Stmt:=top 30
theorem sc_q0:FnScope ["byte"] ["byte"] (zaf s_q0):=⟨rfl,rfl,rfl,by decide +kernel,rfl,by decide +kernel,by decide +kernel⟩
noncomputable abbrev s_q85:Stmt:=top 31
theorem sc_q85:FnScope ["text","place","belongs"] ["text","place","belongs"] (zaf s_q85):=⟨rfl,rfl,rfl,by decide +kernel,rfl,by decide +kernel,by decide +kernel⟩
noncomputable abbrev s_q82:Stmt:=top 32
theorem sc_q82:FnScope ["byte"] ["byte"] (zaf s_q82):=⟨rfl,rfl,rfl,by decide +kernel,rfl,by decide +kernel,by decide +kernel⟩
noncomputable abbrev s_q81:Stmt:=top 33
theorem sc_q81:FnScope ["some_bytes","byte"] ["some_bytes"] (zaf s_q81):=⟨rfl,rfl,rfl,by decide +kernel,rfl,by decide +kernel,by decide +kernel⟩
noncomputable abbrev s_q46:Stmt:=top 39
theorem sc_q46:FnScope ["text","begin","end"] ["text","begin"] (zaf s_q46):=⟨rfl,rfl,rfl,by decide +kernel,rfl,by decide +kernel,by decide +kernel⟩
noncomputable abbrev s_q32:Stmt:=top 40
theorem sc_q32:FnScope ["spelling","divided","rows","row"] ["spelling"] (zaf s_q32):=⟨rfl,rfl,rfl,by decide +kernel,rfl,by decide +kernel,by decide +kernel⟩
noncomputable abbrev s_q86:Stmt:=top 41
theorem sc_q86:FnScope ["over","under","divisor"] ["over","under"] (zaf s_q86):=⟨rfl,rfl,rfl,by decide +kernel,rfl,by decide +kernel,by decide +kernel⟩
noncomputable abbrev s_q8:Stmt:=top 42
theorem sc_q8:FnScope ["first","second","remainder"] ["first","second"] (zaf s_q8):=⟨rfl,rfl,rfl,by decide +kernel,rfl,by decide +kernel,by decide +kernel⟩
noncomputable abbrev s_q58:Stmt:=top 43
theorem sc_q58:FnScope ["measure","factor"] ["measure"] (zaf s_q58):=⟨rfl,rfl,rfl,by decide +kernel,rfl,by decide +kernel,by decide +kernel⟩
noncomputable abbrev s_q65:Stmt:=top 44
theorem sc_q65:FnScope ["factor","halves"] ["factor"] (zaf s_q65):=⟨rfl,rfl,rfl,by decide +kernel,rfl,by decide +kernel,by decide +kernel⟩
noncomputable abbrev s_q79:Stmt:=top 45
theorem sc_q79:FnScope ["power","digits","sign"] ["power"] (zaf s_q79):=⟨rfl,rfl,rfl,by decide +kernel,rfl,by decide +kernel,by decide +kernel⟩
noncomputable abbrev s_q78:Stmt:=top 46
theorem sc_q78:FnScope ["amount","measure"] ["amount","measure"] (zaf s_q78):=⟨rfl,rfl,rfl,by decide +kernel,rfl,by decide +kernel,by decide +kernel⟩
noncomputable abbrev s_q84:Stmt:=top 47
theorem sc_q84:FnScope ["amount"] ["amount"] (zaf s_q84):=⟨rfl,rfl,rfl,by decide +kernel,rfl,by decide +kernel,by decide +kernel⟩
noncomputable abbrev s_q37:Stmt:=top 48
theorem sc_q37:FnScope ["amount","shown"] ["amount"] (zaf s_q37):=⟨rfl,rfl,rfl,by decide +kernel,rfl,by decide +kernel,by decide +kernel⟩
noncomputable abbrev s_q28:Stmt:=top 56
theorem sc_q28:FnScope ["text"] ["text"] (zaf s_q28):=⟨rfl,rfl,rfl,by decide +kernel,rfl,by decide +kernel,by decide +kernel⟩
noncomputable abbrev s_q4:Stmt:=top 57
theorem sc_q4:FnScope ["text","gap_end","token_at","found","place","token"] ["text","gap_end","token_at"] (zaf s_q4):=⟨rfl,rfl,rfl,by decide +kernel,rfl,by decide +kernel,by decide +kernel⟩
noncomputable abbrev s_q22:Stmt:=top 58
theorem sc_q22:FnScope ["text","place"] ["text","place"] (zaf s_q22):=⟨rfl,rfl,rfl,by decide +kernel,rfl,by decide +kernel,by decide +kernel⟩
noncomputable abbrev s_q54:Stmt:=top 59
theorem sc_q54:FnScope ["text","begin","digits"] ["text","begin"] (zaf s_q54):=⟨rfl,rfl,rfl,by decide +kernel,rfl,by decide +kernel,by decide +kernel⟩
noncomputable abbrev s_q47:Stmt:=top 60
theorem sc_q47:FnScope ["text","begin","end","word","kind"] ["text","begin"] (zaf s_q47):=⟨rfl,rfl,rfl,by decide +kernel,rfl,by decide +kernel,by decide +kernel⟩
noncomputable abbrev s_q19:Stmt:=top 61
theorem sc_q19:FnScope ["text","begin","digits","end","amount","measure","kind"] ["text","begin","digits"] (zaf s_q19):=⟨rfl,rfl,rfl,by decide +kernel,rfl,by decide +kernel,by decide +kernel⟩
noncomputable abbrev s_q41:Stmt:=top 62
theorem sc_q41:FnScope ["text","begin","end","measure"] ["text","begin"] (zaf s_q41):=⟨rfl,rfl,rfl,by decide +kernel,rfl,by decide +kernel,by decide +kernel⟩
noncomputable abbrev s_q56:Stmt:=top 63
theorem sc_q56:FnScope ["text","begin","signs","sign"] ["text","begin","signs"] (zaf s_q56):=⟨rfl,rfl,rfl,by decide +kernel,rfl,by decide +kernel,by decide +kernel⟩
noncomputable abbrev s_q67:Stmt:=top 66
theorem sc_q67:FnScope ["text","row","whole","todo","term"] ["text"] (zaf s_q67):=⟨rfl,rfl,rfl,by decide +kernel,rfl,by decide +kernel,by decide +kernel⟩
noncomputable abbrev s_q93:Stmt:=top 67
theorem sc_q93:FnScope ["row","todo","step","owner"] ["row","todo","step"] (zaf s_q93):=⟨rfl,rfl,rfl,by decide +kernel,rfl,by decide +kernel,by decide +kernel⟩
noncomputable abbrev s_q59:Stmt:=top 68
theorem sc_q59:FnScope ["row","todo","step","node","kind"] ["row","todo","step"] (zaf s_q59):=⟨rfl,rfl,rfl,by decide +kernel,rfl,by decide +kernel,by decide +kernel⟩
noncomputable abbrev s_q15:Stmt:=top 69
theorem sc_q15:FnScope ["row","begin","form"] ["row"] (zaf s_q15):=⟨rfl,rfl,rfl,by decide +kernel,rfl,by decide +kernel,by decide +kernel⟩
noncomputable abbrev s_q97:Stmt:=top 70
theorem sc_q97:FnScope ["token"] ["token"] (zaf s_q97):=⟨rfl,rfl,rfl,by decide +kernel,rfl,by decide +kernel,by decide +kernel⟩
noncomputable abbrev s_q95:Stmt:=top 74
theorem sc_q95:FnScope ["text"] ["text"] (zaf s_q95):=⟨rfl,rfl,rfl,by decide +kernel,rfl,by decide +kernel,by decide +kernel⟩
noncomputable abbrev s_q73:Stmt:=top 75
theorem sc_q73:FnScope ["text","reading","answering","found","fault"] ["text","reading","answering"] (zaf s_q73):=⟨rfl,rfl,rfl,by decide +kernel,rfl,by decide +kernel,by decide +kernel⟩
noncomputable abbrev s_q27:Stmt:=top 76
theorem sc_q27:FnScope ["term","answer","name"] ["term"] (zaf s_q27):=⟨rfl,rfl,rfl,by decide +kernel,rfl,by decide +kernel,by decide +kernel⟩
noncomputable abbrev s_q76:Stmt:=top 77
theorem sc_q76:FnScope ["shown","sign"] ["shown"] (zaf s_q76):=⟨rfl,rfl,rfl,by decide +kernel,rfl,by decide +kernel,by decide +kernel⟩
noncomputable abbrev s_q5:Stmt:=zdd (top 1) 0
theorem sc_q5:FnScope ["self","kind","place"] ["self","kind","place"] (zaf s_q5):=⟨rfl,rfl,rfl,by decide +kernel,rfl,by decide +kernel,by decide +kernel⟩
noncomputable abbrev s_q17:Stmt:=zdd (top 8) 0
theorem sc_q17:FnScope ["self","form","words","parts","begin","end"] ["self","form","words","parts","begin","end"] (zaf s_q17):=⟨rfl,rfl,rfl,by decide +kernel,rfl,by decide +kernel,by decide +kernel⟩
noncomputable abbrev s_q2:Stmt:=zdd (top 38) 0
theorem sc_q2:FnScope ["self","over","under","measure"] ["self","over","under","measure"] (zaf s_q2):=⟨rfl,rfl,rfl,by decide +kernel,rfl,by decide +kernel,by decide +kernel⟩
noncomputable abbrev s_q7:Stmt:=zdd (top 54) 0
theorem sc_q7:FnScope ["self","group","kind","begin","end","content"] ["self","group","kind","begin","end","content"] (zaf s_q7):=⟨rfl,rfl,rfl,by decide +kernel,rfl,by decide +kernel,by decide +kernel⟩
noncomputable abbrev s_q25:Stmt:=zdd (top 55) 0
theorem sc_q25:FnScope ["self","found","length"] ["self","found","length"] (zaf s_q25):=⟨rfl,rfl,rfl,by decide +kernel,rfl,by decide +kernel,by decide +kernel⟩
noncomputable abbrev s_q26:Stmt:=zdd (top 55) 1
theorem sc_q26:FnScope ["self"] ["self"] (zaf s_q26):=⟨rfl,rfl,rfl,by decide +kernel,rfl,by decide +kernel,by decide +kernel⟩
noncomputable abbrev s_q77:Stmt:=zdd (top 55) 2
theorem sc_q77:FnScope ["self","token"] ["self"] (zaf s_q77):=⟨rfl,rfl,rfl,by decide +kernel,rfl,by decide +kernel,by decide +kernel⟩
noncomputable abbrev s_q13:Stmt:=zdd (top 55) 3
theorem sc_q13:FnScope ["self","kind"] ["self","kind"] (zaf s_q13):=⟨rfl,rfl,rfl,by decide +kernel,rfl,by decide +kernel,by decide +kernel⟩
noncomputable abbrev s_q14:Stmt:=zdd (top 65) 0
theorem sc_q14:FnScope ["self","kind","owner","depth"] ["self","kind","owner","depth"] (zaf s_q14):=⟨rfl,rfl,rfl,by decide +kernel,rfl,by decide +kernel,by decide +kernel⟩
set_option genInjectivity false in
set_option genSizeOfSpec false in
set_option genSizeOf false in
structure TX (w:World) (K:PySem.W.Frag) (mg:Str→Option Value) where
  g_q45 : ∃ u,mg "MOST_DEPTH"=some u∧RelV (.int 40) u
  g_q55 : ∃ u,mg "MOST_NODES"=some u∧RelV (.int 300) u
  a_q31:Addr
  g_q31:mg "PLAIN_FORMS"=some (.ref a_q31)
  t_q31 : ∀ H,SqT K H a_q31 [V.str "true",V.str "false",V.str "nil"]
  a_q40:Addr
  g_q40:mg "PART_KINDS"=some (.ref a_q40)
  t_q40 : ∀ H,SqT K H a_q40 [V.str "part",V.str "body"]
  a_q88:Addr
  g_q88:mg "FORMS"=some (.ref a_q88)
  t_q88:zuf w K a_q88
  g_q92 : ∃ u,mg "BLANK"=some u∧RelV (.int 32) u
  g_q16 : ∃ u,mg "MEASURE_BEGIN"=some u∧RelV (.int 91) u
  g_q29 : ∃ u,mg "MEASURE_END"=some u∧RelV (.int 93) u
  g_q89 : ∃ u,mg "MINUS"=some u∧RelV (.int 45) u
  a_q9:Addr
  g_q9:mg "FRACTION_SIGNS"=some (.ref a_q9)
  t_q9 : ∀ H,SqT K H a_q9 [V.int 46,V.int 47]
  g_q10 : ∃ u,mg "FIRST_PRINTED"=some u∧RelV (.int 32) u
  g_q24 : ∃ u,mg "LAST_PRINTED"=some u∧RelV (.int 126) u
  g_q43 : ∃ u,mg "MOST_SIGNS"=some u∧RelV (.int 12) u
  g_q83 : ∃ u,mg "PRINTED"=some u∧RelV (.str " !\"#$?&'()*+,-./0123456789:;<=>?@ABCDEFGHIJKLMNOPQRSTUVWXYZ[\\]^_`abcdefghijklmnopqrstuvwxyz{|}~") u
  a_q35:Addr
  g_q35:mg "TAKEN_WORDS"=some (.ref a_q35)
  t_q35 : ∀ H,SqT K H a_q35 [V.str "fn",V.str "let",V.str "rec",V.str "if",V.str "cons",V.str "case",V.str "pair",V.str "fst",V.str "snd",V.str "fold",V.str "root",V.str "floor",V.str "rest",V.str "true",V.str "false",V.str "nil",V.str "truth",V.str "num",V.str "list",V.str "base",V.str "unit",V.str "def",V.str "fun",V.str "in",V.str "then",V.str "else",V.str "match",V.str "with",V.str "and",V.str "or",V.str "not"]
  g_q34 : ∃ u,mg "MOST_DIGITS"=some u∧RelV (.int 12) u
  g_q3 : ∃ u,mg "FIRST_TOO_GREAT"=some u∧RelV (.int 1000000000000) u
  g_q1 : ∃ u,mg "MOST_POWER_DIGITS"=some u∧RelV (.int 2) u
  g_q50 : ∃ u,mg "WORD_GROUP"=some u∧RelV (.int 0) u
  g_q21 : ∃ u,mg "NUMBER_GROUP"=some u∧RelV (.int 1) u
  g_q49 : ∃ u,mg "SIGN_GROUP"=some u∧RelV (.int 2) u
  a_q62:Addr
  g_q62:mg "CORE_SIGNS"=some (.ref a_q62)
  t_q62 : ∀ H,SqT K H a_q62 [V.str "(",V.str ")",V.str "+",V.str "-",V.str "*",V.str "/",V.str "^",V.str "<",V.str "="]
  g_q48 : ∃ u,mg "MOST_BYTES"=some u∧RelV (.int 2000) u
  g_q18 : ∃ u,mg "TEXT_TOO_LONG"=some u∧RelV (.int (-1)) u
  b_all:mg "all"=none
  b_enumerate:mg "enumerate"=none
  b_int:mg "int"=none
  b_len:mg "len"=none
  b_list:mg "list"=none
  b_max:mg "max"=none
  b_ord:mg "ord"=none
  b_reversed:mg "reversed"=none
  b_str:mg "str"=none
  b_tuple:mg "tuple"=none
  C_q90:Addr
  G_q90:mg "Fault"=some (.ref C_q90)
  f_q5:Addr
  d_q5:FuncData
  F_q5:Fun K "__init__" "Fault.__init__" s_q5 f_q5 d_q5
  b_q5:zb4 K d_q5 ["self","kind","place"] []
  X_q90:XCls K C_q90 f_q5
  n_q52:za1 K C_q90 "kind"
  n_q30:za1 K C_q90 "place"
  C_q96:Addr
  G_q96:mg "Node"=some (.ref C_q96)
  f_q17:Addr
  d_q17:FuncData
  F_q17:Fun K "__init__" "Node.__init__" s_q17 f_q17 d_q17
  b_q17:zb4 K d_q17 ["self","form","words","parts","begin","end"] []
  cl_q96:Cls K C_q96
  M_q96:Mk K C_q96 f_q17
  n_q66:za1 K C_q96 "form"
  n_q51:za1 K C_q96 "words"
  n_q42:za1 K C_q96 "parts"
  n_q57:za1 K C_q96 "begin"
  n_q75:za1 K C_q96 "end"
  C_q87:Addr
  G_q87:mg "Amount"=some (.ref C_q87)
  f_q2:Addr
  d_q2:FuncData
  F_q2:Fun K "__init__" "Amount.__init__" s_q2 f_q2 d_q2
  b_q2:zb4 K d_q2 ["self","over","under","measure"] []
  cl_q87:Cls K C_q87
  M_q87:Mk K C_q87 f_q2
  n_q33:za1 K C_q87 "over"
  n_q20:za1 K C_q87 "under"
  n_q6:za1 K C_q87 "measure"
  C_q91:Addr
  G_q91:mg "Token"=some (.ref C_q91)
  f_q7:Addr
  d_q7:FuncData
  F_q7:Fun K "__init__" "Token.__init__" s_q7 f_q7 d_q7
  b_q7:zb4 K d_q7 ["self","group","kind","begin","end","content"] []
  cl_q91:Cls K C_q91
  M_q91:Mk K C_q91 f_q7
  n_q38:za1 K C_q91 "group"
  n_q44:za1 K C_q91 "kind"
  n_q36:za1 K C_q91 "begin"
  n_q70:za1 K C_q91 "end"
  n_q11:za1 K C_q91 "content"
  C_Row:Addr
  G_Row:mg "Row"=some (.ref C_Row)
  f_q25:Addr
  d_q25:FuncData
  F_q25:Fun K "__init__" "Row.__init__" s_q25 f_q25 d_q25
  b_q25:zb4 K d_q25 ["self","found","length"] []
  f_q26:Addr
  d_q26:FuncData
  F_q26:Fun K "upcoming" "Row.upcoming" s_q26 f_q26 d_q26
  b_q26:zb4 K d_q26 ["self"] []
  m_q26:Meth K C_Row "upcoming" f_q26
  f_q77:Addr
  d_q77:FuncData
  F_q77:Fun K "take" "Row.take" s_q77 f_q77 d_q77
  b_q77:zb4 K d_q77 ["self"] []
  m_q77:Meth K C_Row "take" f_q77
  f_q13:Addr
  d_q13:FuncData
  F_q13:Fun K "take_kind" "Row.take_kind" s_q13 f_q13 d_q13
  b_q13:zb4 K d_q13 ["self","kind"] []
  m_q13:Meth K C_Row "take_kind" f_q13
  cl_Row:Cls K C_Row
  M_Row:Mk K C_Row f_q25
  n_q63:za1 K C_Row "ahead"
  n_q68:za1 K C_Row "index"
  C_q94:Addr
  G_q94:mg "Step"=some (.ref C_q94)
  f_q14:Addr
  d_q14:FuncData
  F_q14:Fun K "__init__" "Step.__init__" s_q14 f_q14 d_q14
  b_q14:zb4 K d_q14 ["self","kind","owner","depth"] []
  cl_q94:Cls K C_q94
  M_q94:Mk K C_q94 f_q14
  n_q64:za1 K C_q94 "kind"
  n_q61:za1 K C_q94 "owner"
  n_q53:za1 K C_q94 "depth"
  f_q71:Addr
  d_q71:FuncData
  F_q71:FG K mg "numbered" s_q71 ["term"] f_q71 d_q71
  f_q23:Addr
  d_q23:FuncData
  F_q23:FG K mg "check_limits" s_q23 ["term"] f_q23 d_q23
  f_q80:Addr
  d_q80:FuncData
  F_q80:FG K mg "contents" s_q80 ["node"] f_q80 d_q80
  f_q60:Addr
  d_q60:FuncData
  F_q60:FG K mg "free_names" s_q60 ["term"] f_q60 d_q60
  f_q69:Addr
  d_q69:FuncData
  F_q69:FG K mg "is_letter" s_q69 ["byte"] f_q69 d_q69
  f_q72:Addr
  d_q72:FuncData
  F_q72:FG K mg "is_digit" s_q72 ["byte"] f_q72 d_q72
  f_q39:Addr
  d_q39:FuncData
  F_q39:FG K mg "is_in_word" s_q39 ["byte"] f_q39 d_q39
  f_q12:Addr
  d_q12:FuncData
  F_q12:FG K mg "is_short_word" s_q12 ["text"] f_q12 d_q12
  f_q74:Addr
  d_q74:FuncData
  F_q74:FG K mg "is_blank" s_q74 ["byte"] f_q74 d_q74
  f_q0:Addr
  d_q0:FuncData
  F_q0:FG K mg "is_before_measure_end" s_q0 ["byte"] f_q0 d_q0
  f_q85:Addr
  d_q85:FuncData
  F_q85:FG K mg "run_end" s_q85 ["text","place","belongs"] f_q85 d_q85
  f_q82:Addr
  d_q82:FuncData
  F_q82:FG K mg "sign_of" s_q82 ["byte"] f_q82 d_q82
  f_q81:Addr
  d_q81:FuncData
  F_q81:FG K mg "signs_of" s_q81 ["some_bytes"] f_q81 d_q81
  f_q46:Addr
  d_q46:FuncData
  F_q46:FG K mg "number_end" s_q46 ["text","begin"] f_q46 d_q46
  f_q32:Addr
  d_q32:FuncData
  F_q32:FG K mg "fraction_of" s_q32 ["spelling"] f_q32 d_q32
  f_q86:Addr
  d_q86:FuncData
  F_q86:FG K mg "lowest" s_q86 ["over","under"] f_q86 d_q86
  f_q8:Addr
  d_q8:FuncData
  F_q8:FG K mg "common_divisor" s_q8 ["first","second"] f_q8 d_q8
  f_q58:Addr
  d_q58:FuncData
  F_q58:FG K mg "is_measure" s_q58 ["measure"] f_q58 d_q58
  f_q65:Addr
  d_q65:FuncData
  F_q65:FG K mg "is_factor" s_q65 ["factor"] f_q65 d_q65
  f_q79:Addr
  d_q79:FuncData
  F_q79:FG K mg "is_power" s_q79 ["power"] f_q79 d_q79
  f_q78:Addr
  d_q78:FuncData
  F_q78:FG K mg "measured" s_q78 ["amount","measure"] f_q78 d_q78
  f_q84:Addr
  d_q84:FuncData
  F_q84:FG K mg "negated" s_q84 ["amount"] f_q84 d_q84
  f_q37:Addr
  d_q37:FuncData
  F_q37:FG K mg "amount_text" s_q37 ["amount"] f_q37 d_q37
  f_q28:Addr
  d_q28:FuncData
  F_q28:FG K mg "core_tokens" s_q28 ["text"] f_q28 d_q28
  f_q4:Addr
  d_q4:FuncData
  F_q4:FG K mg "tokens_between" s_q4 ["text","gap_end","token_at"] f_q4 d_q4
  f_q22:Addr
  d_q22:FuncData
  F_q22:FG K mg "core_gap_end" s_q22 ["text","place"] f_q22 d_q22
  f_q54:Addr
  d_q54:FuncData
  F_q54:FG K mg "core_token" s_q54 ["text","begin"] f_q54 d_q54
  f_q47:Addr
  d_q47:FuncData
  F_q47:FG K mg "word_token" s_q47 ["text","begin"] f_q47 d_q47
  f_q19:Addr
  d_q19:FuncData
  F_q19:FG K mg "number_token" s_q19 ["text","begin","digits"] f_q19 d_q19
  f_q41:Addr
  d_q41:FuncData
  F_q41:FG K mg "measure_at" s_q41 ["text","begin"] f_q41 d_q41
  f_q56:Addr
  d_q56:FuncData
  F_q56:FG K mg "sign_token" s_q56 ["text","begin","signs"] f_q56 d_q56
  f_q67:Addr
  d_q67:FuncData
  F_q67:FG K mg "core_term" s_q67 ["text"] f_q67 d_q67
  f_q93:Addr
  d_q93:FuncData
  F_q93:FG K mg "go_on" s_q93 ["row","todo","step"] f_q93 d_q93
  f_q59:Addr
  d_q59:FuncData
  F_q59:FG K mg "begin_term" s_q59 ["row","todo","step"] f_q59 d_q59
  f_q15:Addr
  d_q15:FuncData
  F_q15:FG K mg "bracket_begin" s_q15 ["row"] f_q15 d_q15
  f_q97:Addr
  d_q97:FuncData
  F_q97:FG K mg "leaf" s_q97 ["token"] f_q97 d_q97
  f_q95:Addr
  d_q95:FuncData
  F_q95:FG K mg "free" s_q95 ["text"] f_q95 d_q95
  f_q73:Addr
  d_q73:FuncData
  F_q73:FG K mg "answered" s_q73 ["text","reading","answering"] f_q73 d_q73
  f_q27:Addr
  d_q27:FuncData
  F_q27:FG K mg "free_answer" s_q27 ["term"] f_q27 d_q27
  f_q76:Addr
  d_q76:FuncData
  F_q76:FG K mg "bytes_of" s_q76 ["shown"] f_q76 d_q76
section
variable {P:Program}{w:World}{K:PySem.W.Frag}{mg:Str→Option Value}{base:Heap}
theorem ok_q69 (T:TX w K mg):FnOk P w K mg base CX0 1 T.f_q69 T.d_q69 ["byte"] (spB Vaunid.isSmall):=by
  refine T.F_q69.fn.ok sc_q69 (fun vs H Q E h=>?_) (fun cdv A outer s H vs Q E hr h=>?_)
  · obtain ⟨n,rfl,_⟩:=h
    rfl
  · obtain ⟨n,rfl,k⟩:=h
    refine ⟨_,(zae (zap (znt zos zos zai (pv 0) zai))),?_⟩
    dsimp! [];simp! []
    have e:Vaunid.isSmall n=(decide ((97:Int)≤n) && decide ((n:Int)≤122)):=by unfold Vaunid.isSmall;congr 1 <;> exact decide_eq_decide.mpr (by omega)
    rw [e] at k
    split <;> rename_i q <;> simpa [q] using k
theorem ok_q72 (T:TX w K mg):FnOk P w K mg base CX0 1 T.f_q72 T.d_q72 ["byte"] (spB Vaunid.isDigit):=by
  refine T.F_q72.fn.ok sc_q72 (fun vs H Q E h=>?_) (fun cdv A outer s H vs Q E hr h=>?_)
  · obtain ⟨n,rfl,_⟩:=h
    rfl
  · obtain ⟨n,rfl,k⟩:=h
    refine ⟨_,(zae (zap (znt zos zos zai (pv 0) zai))),?_⟩
    dsimp! [];simp! []
    have e:Vaunid.isDigit n=(decide ((48:Int)≤n) && decide ((n:Int)≤57)):=by unfold Vaunid.isDigit;congr 1 <;> exact decide_eq_decide.mpr (by omega)
    rw [e] at k
    split <;> rename_i q <;> simpa [q] using k
theorem ok_q39 (T:TX w K mg):FnOk P w K mg base CX0 2 T.f_q39 T.d_q39 ["byte"] (spB Vaunid.inWord):=by
  have G_q69:=ok_q69 (P:=P) (w:=w) (base:=base) T
  have G_q72:=ok_q72 (P:=P) (w:=w) (base:=base) T
  refine T.F_q39.fn.ok sc_q39 (fun vs H Q E h=>?_) (fun cdv A outer s H vs Q E hr h=>?_)
  · obtain ⟨n,rfl,_⟩:=h
    rfl
  · obtain ⟨n,rfl,k⟩:=h
    refine ⟨_,(zae (zap (zxr (zaj G_q69 (hr.mono (by decide)) rfl T.F_q69.mg T.F_q69.fn.kp T.F_q69.b .nil zav (zaa (pv 0) zac)) (zxr (zaj G_q72 (hr.mono (by decide)) rfl T.F_q72.mg T.F_q72.fn.kp T.F_q72.b .nil zav (zaa (pv 0) zac)) (zuv (zjn zcr (pv 0) zai (zay _))))))),?_⟩
    dsimp! [spB];simp! [spB,Int.natCast_inj]
    have e:decide ((n:Int)=95)=(n == 95):=zmo n 95
    unfold Vaunid.inWord at k
    rw [e]
    cases h1:Vaunid.isSmall n <;> cases h2:Vaunid.isDigit n <;> rw [h1,h2] at k <;> simpa using k
noncomputable def zvj:Sp:=fun vs H Q _=>∃ l:List Nat,vs=[.str (S l)]∧l.length≤sizeLine∧∀ H',Same H H'→Q (.bl (zaw l)) H'
theorem ok_q12 (T:TX w K mg):FnOk P w K mg base CX0 3 T.f_q12 T.d_q12 ["text"] zvj:=by
  have G_q69:=ok_q69 (P:=P) (w:=w) (base:=base) T
  have G_q39:=ok_q39 (P:=P) (w:=w) (base:=base) T
  refine T.F_q12.fn.ok sc_q12 (fun vs H Q E h=>?_) (fun cdv A outer s H vs Q E hr h=>?_)
  · obtain ⟨n,rfl,_⟩:=h
    rfl
  · obtain ⟨l,rfl,hl,k⟩:=h
    refine ⟨_,(zab (zbk (PW.pt (pw_or (zam zcr (pv 0) zax (zay _)) (pw_or (zam zou (za0 zbd rfl T.b_len PySem.boot_len (zaa (pv 0) zac)) (pe_g T.g_q43) (zay _)) (pw_or1 (zur (ze0 (zaj G_q69 (hr.mono (by decide)) rfl T.F_q69.mg T.F_q69.fn.kp T.F_q69.b .nil zav (zaa (za0 zgs rfl T.b_ord zff (zaa (zbw zuy (pv 0) zai (fun _ _=>rfl)) zac)) zac)))))))) (zae (zap zop)) zau)
      (zae (zap (za0 (zu5 rfl) rfl T.b_all zln (zaa (zqz rfl (sc_q12).nd (zqx (pv 0)) (zfg (own:=[("sign",1)]) (by kernel_rfl)) (fun _ _ _ _ _=>zcg (i:=1) (sc_q12).nd rfl (Or.inl rfl)) (fun _ _ _ _ _=>zhj) (fun _ _ _ _ _=>(zaj G_q39 (hr.mono (by decide)) rfl T.F_q39.mg T.F_q39.fn.kp T.F_q39.b .nil zav (zaa (za0 zgs rfl T.b_ord zff (zaa (pv 1) zac)) zac)))) zac))))),?_⟩
    dsimp! [spB];simp! [spB,Int.natCast_inj]
    have k0:=k H (Same.refl H)
    match l,hl,k,k0 with
    | [],hl,k,k0 =>
      exact ite2 (fun _=>k0) fun z=>absurd rfl z
    | c::r,hl,k,k0 =>
      rw [if_neg (by intro z;cases z)]
      refine ⟨hl,ite2 (fun h=>?_) fun h=>⟨hl,c,zce (j:=0) rfl,ite2 (fun h2=>?_) fun h2=>?_⟩⟩
      · have e:zaw (c::r)=false:=by
          unfold zaw
          rw [decide_eq_false (by omega)]
          simp
        rw [e] at k0
        exact k0
      · have e:zaw (c::r)=false:=by
          have h3:Vaunid.isSmall c=false:=by simpa using h2
          unfold zaw
          rw [List.headD_cons,h3]
          simp
        rw [e] at k0
        exact k0
      · have h3:Vaunid.isSmall c=true:=by simpa using h2
        refine zke (Its (S (c::r))) ((c::r).map fun d=>V.str ⟨#[d]⟩) (fun v=>match v with | .str x=>V.bl (Vaunid.inWord (x.cps.getD 0 0)) | _ => .non) (H1:=H) (fun R h=>?_) (by rw [List.length_map];exact hl) (zru (x:=S (c::r))) (fun x H' D acc Nx hx sm hD hacc nx=>?_) fun D H' hD sm e=>?_
        · dsimp! [];simp! []
          exact h
        · obtain ⟨d,hd,rfl⟩:=List.mem_map.mp hx
          dsimp! [spB];simp! [spB,Int.natCast_inj]
          exact ⟨acc,hD,hacc,nx H' (Same.refl _)⟩
        · dsimp! [];simp! []
          refine ⟨(c::r).map Vaunid.inWord,SqL.of ?_,?_⟩
          · rw [e,List.map_map,List.map_map]
            rfl
          · have e2:zaw (c::r)=((c::r).map Vaunid.inWord).all id:=by
              unfold zaw
              rw [List.headD_cons,h3,decide_eq_true (by omega),List.all_map]
              rfl
            rw [← e2]
            exact k H' sm
theorem ok_q74 (T:TX w K mg):FnOk P w K mg base CX0 1 T.f_q74 T.d_q74 ["byte"] (spB fun c=>c == 32):=by
  refine T.F_q74.fn.ok sc_q74 (fun vs H Q E h=>?_) (fun cdv A outer s H vs Q E hr h=>?_)
  · obtain ⟨n,rfl,_⟩:=h
    rfl
  · obtain ⟨n,rfl,k⟩:=h
    refine ⟨_,(zae (zap (zjn zcr (pv 0) (pe_g T.g_q92) (zay _)))),?_⟩
    dsimp! [];simp! []
    have e:decide ((n:Int)=32)=(n == 32):=zmo n 32
    rw [e]
    exact k
theorem ok_q0 (T:TX w K mg):FnOk P w K mg base CX0 1 T.f_q0 T.d_q0 ["byte"] (spB fun c=>c != 93):=by
  refine T.F_q0.fn.ok sc_q0 (fun vs H Q E h=>?_) (fun cdv A outer s H vs Q E hr h=>?_)
  · obtain ⟨n,rfl,_⟩:=h
    rfl
  · obtain ⟨n,rfl,k⟩:=h
    refine ⟨_,(zae (zap (zjn zq5 (pv 0) (pe_g T.g_q29) (zay _)))),?_⟩
    dsimp! [];simp! []
    have e:decide ((n:Int)=93)=(n == 93):=zmo n 93
    rw [e]
    exact k
noncomputable def zje (P:Program) (w:World) (K:PySem.W.Frag) (mg:Str→Option Value) (base:Heap):Sp:=fun vs H Q _=>∃ (a f:Addr) (t:List Nat) (p:Nat) (b:Nat→Bool),vs=[.ref a,.int (p:Int),.ref f]∧SqL K H a (bs t)∧zsn P w K mg base 2 f b ∧
  Q (.int ((p+((t.drop p).takeWhile b).length:Nat):Int)) H
theorem ok_q85 (T:TX w K mg):FnOk P w K mg base CX0 3 T.f_q85 T.d_q85 ["text","place","belongs"] (zje P w K mg base):=by
  refine T.F_q85.fn.ok sc_q85 (fun vs H Q E h=>?_) (fun cdv A outer s H vs Q E hr h=>?_)
  · obtain ⟨a,f,t,p,b,rfl,_⟩:=h
    rfl
  · obtain ⟨a,f,t,p,b,rfl,ht,⟨fd,ps,F,hb,hk⟩,k⟩:=h
    refine ⟨_,(zab (zd2 PassesOwn.never (PW.pt (pw_and (zam zor (pv 1) (za0 zbe rfl T.b_len PySem.boot_len (zaa (pv 0) zac)) (zay _)) (pw_and1 (ze0 (zd4 (CX:=CX0) (k:=2) 2 (hr.mono (by decide)) zav (zaa (zbw zbm (pv 0) (pv 1) (fun _ _=>rfl)) zac)))))) (zae (zut (i:=1) (sc_q85).nd rfl (Or.inl rfl) zai zuz)))
      (zae (zap (pv 1)))),?_⟩
    dsimp! [];simp! []
    obtain ⟨Pv,hPv⟩ : ∃ Pv:Nat→L2.St→Hp→Prop,Pv=fun m σ H'=>H'=H∧∃ j,m=t.length - (p+j)∧σ=[some (.ref a),some (.int ((p+j:Nat):Int)),some (.ref f)]∧((t.drop p).takeWhile b).length=j+((t.drop (p+j)).takeWhile b).length:=⟨_,rfl⟩
    refine zfi Pv _ (by rw [hPv];exact ⟨rfl,0,rfl,rfl,by simp⟩) fun m σ H' hp=>?_
    rw [hPv] at hp
    obtain ⟨rfl,j,rfl,rfl,hj⟩:=hp
    dsimp! [zdm];simp! [zdm]
    refine ⟨bs t,.inl ht,ite2 (fun h=>?_) fun h=>?_⟩
    · rw [zc2] at h
      have hlt:p+j<t.length:=by omega
      refine ⟨fd,ps,spB b,F,hb,hk,bs t,ht,_,zce (zf6 (List.getElem?_eq_getElem hlt)),?_⟩
      dsimp! [spB];simp! [spB,Int.natCast_inj]
      have hd:t.drop (p+j)=t[p+j]::t.drop (p+j+1):=List.drop_eq_getElem_cons hlt
      rw [hd,List.takeWhile_cons] at hj
      refine zdc (fun q=>⟨_,fun _ _ z=>z,t.length - (p+(j+1)),by omega,?_⟩) fun q=>?_
      · rw [hPv]
        refine ⟨rfl,j+1,rfl,?_,?_⟩
        · have e:((p+j:Nat):Int)+1=((p+(j+1):Nat):Int):=by omega
          rw [e]
        · rw [q,if_pos rfl,List.length_cons] at hj
          rw [hj,show p+(j+1)=p+j+1 by omega]
          omega
      · rw [q,if_neg (by simp)] at hj
        have e:p+(List.takeWhile b (List.drop p t)).length=p+j:=by rw [hj];rfl
        rw [e] at k
        exact k
    · rw [zc2] at h
      have hd:t.drop (p+j)=[]:=List.drop_eq_nil_of_le (by omega)
      rw [hd] at hj
      have e:p+(List.takeWhile b (List.drop p t)).length=p+j:=by rw [hj];rfl
      rw [e] at k
      exact k
noncomputable def zp7:Sp:=fun vs H Q _=>∃ n:Nat,vs=[.int (n:Int)]∧Q (.str ⟨#[sgn n]⟩) H
theorem zom (n:Nat) (h1:32≤n) (h2:n≤126):(tl (Str.ofString " !\"#$?&'()*+,-./0123456789:;<=>?@ABCDEFGHIJKLMNOPQRSTUVWXYZ[\\]^_`abcdefghijklmnopqrstuvwxyz{|}~"))[n - 32]? = some (sgn n):=by
  have key : ∀ m:Fin 95,(tl (Str.ofString " !\"#$?&'()*+,-./0123456789:;<=>?@ABCDEFGHIJKLMNOPQRSTUVWXYZ[\\]^_`abcdefghijklmnopqrstuvwxyz{|}~"))[m.1]? = some (sgn (m.1+32)):=by decide +kernel
  have e:=key ⟨n - 32,by omega⟩
  rw [show n=n - 32+32 by omega]
  simpa using e
theorem ok_q82 (T:TX w K mg):FnOk P w K mg base CX0 1 T.f_q82 T.d_q82 ["byte"] zp7:=by
  refine T.F_q82.fn.ok sc_q82 (fun vs H Q E h=>?_) (fun cdv A outer s H vs Q E hr h=>?_)
  · obtain ⟨n,rfl,_⟩:=h
    rfl
  · obtain ⟨n,rfl,k⟩:=h
    refine ⟨_,(zab (zbk (zs6 zos zos (pe_g T.g_q10) (pv 0) (pe_g T.g_q24)) (zae (zap (zbw zuy (pe_g T.g_q83) (zb8 znw (pv 0) (pe_g T.g_q10)) (fun _ _=>rfl)))) zau)
      (zae (zap zax))),?_⟩
    dsimp! [];simp! []
    refine ite2 (fun h1=>ite2 (fun h2=>?_) fun h2=>?_) fun h1=>?_
    · refine ⟨by decide +kernel,sgn n,?_,k⟩
      have e:(n:Int) - 32=((n - 32:Nat):Int):=by omega
      rw [e]
      exact zce (zom n (by omega) (by omega))
    · have e:sgn n=63:=by unfold sgn;rw [if_neg (by omega)]
      rw [e] at k
      exact k
    · have e:sgn n=63:=by unfold sgn;rw [if_neg (by omega)]
      rw [e] at k
      exact k
noncomputable def zc8 (K:PySem.W.Frag):Sp:=fun vs H Q _=>∃ (a:Addr) (t:List Nat),vs=[.ref a]∧SqL K H a (bs t)∧t.length≤1000000∧∀ H',Same H H'→Q (.str (S (t.map sgn))) H'
theorem zk8 : ∀ l:List Nat,zhr [] (l.map fun c=>[c])=l
  | []=>rfl
  | [c]=>rfl
  | c::d::r=>by
    have ih:=zk8 (d::r)
    show c::([]++zhr [] ((d::r).map fun c=>[c]))=_
    rw [ih]
    rfl
theorem zni : ∀ l:List Nat,((l.map fun c=>(⟨#[c]⟩:Str)).map (·.length)).sum=l.length
  | []=>rfl
  | c::r=>by
    have ih:=zni r
    simp only [List.map_cons,List.sum_cons,List.length_cons,ih]
    show 1+r.length=r.length+1
    omega
theorem ok_q81 (T:TX w K mg):FnOk P w K mg base CX0 2 T.f_q81 T.d_q81 ["some_bytes"] (zc8 K):=by
  have G_q82:=ok_q82 (P:=P) (w:=w) (base:=base) T
  refine T.F_q81.fn.ok sc_q81 (fun vs H Q E h=>?_) (fun cdv A outer s H vs Q E hr h=>?_)
  · obtain ⟨a,t,rfl,_⟩:=h
    rfl
  · obtain ⟨a,t,rfl,ht,hl,k⟩:=h
    refine ⟨_,(zae (zap (zv2 zax (zqz rfl (sc_q81).nd (zmd (pv 0)) (zfg (own:=[("byte",1)]) (by kernel_rfl)) (fun _ _ _ _ _=>zcg (i:=1) (sc_q81).nd rfl (Or.inl rfl)) (fun _ _ _ _ _=>zhj) (fun _ _ _ _ _=>(zaj G_q82 (hr.mono (by decide)) rfl T.F_q82.mg T.F_q82.fn.kp T.F_q82.b .nil zav (zaa (pv 1) zac))))))),?_⟩
    dsimp! [];simp! []
    refine zke (Itl K a) (bs t) (fun v=>match v with | .int n=>V.str ⟨#[sgn n.toNat]⟩ | _ => .non) (H1:=H) (fun R h=>?_) (by rw [zc2];exact Nat.le_trans hl (by decide)) (zrw ht) (fun x H' D acc Nx hx sm hD hacc nx=>?_) fun D H' hD sm e=>?_
    · dsimp! [];simp! []
      exact ⟨⟨_,ht⟩,h⟩
    · obtain ⟨d,hd,rfl⟩:=List.mem_map.mp hx
      dsimp! [zp7];simp! [zp7,Int.natCast_inj]
      exact ⟨acc,hD,hacc,nx H' (Same.refl _)⟩
    · dsimp! [];simp! []
      refine ⟨t.map fun c=>⟨#[sgn c]⟩,.inl (SqL.of ?_),?_,?_⟩
      · rw [e]
        unfold bs
        rw [List.map_map,List.map_map]
        rfl
      · have e1:(t.map fun c=>(⟨#[sgn c]⟩:Str))=(t.map sgn).map fun c=>(⟨#[c]⟩:Str):=by rw [List.map_map];rfl
        rw [e1,zni,List.length_map,List.length_map]
        show t.length+t.length * 0≤16777216
        omega
      · have e1:Txt.join (Str.ofString "") (t.map fun c=>(⟨#[sgn c]⟩:Str))=S (t.map sgn):=by
          refine zdu ?_
          rw [zwh,zl0,List.map_map]
          have e2:(t.map (tl ∘ fun c=>(⟨#[sgn c]⟩:Str)))=(t.map sgn).map fun c=>[c]:=by rw [List.map_map];rfl
          rw [e2]
          exact zk8 _
        rw [e1]
        exact k H' sm
end
set_option maxHeartbeats 2000000
section
variable {P:Program}{w:World}{K:PySem.W.Frag}{mg:Str→Option Value}{base:Heap}
theorem ok_q87 (T:TX w K mg):FnOk P w K mg base CX0 1 T.f_q2 T.d_q2 ["self","over","under","measure"] (zbt T.C_q87 ["over","under","measure"]):=by
  refine T.F_q2.ok sc_q2 (fun vs H Q E h=>?_) (fun cdv A outer s H vs Q E hr h=>?_)
  · obtain ⟨p,dx,args,rfl,hl,_⟩:=h
    simp only [List.length_cons,List.length_nil] at hl ⊢
    rw [hl]
  · obtain ⟨p,dx,args,rfl,hl,hp,k⟩:=h
    match args,hl,k with
    | [a,b,c],_,k =>
      refine ⟨_,(zab (zb7 (pv 0) (pv 1) rfl)
      (zab (zb7 (pv 0) (pv 2) rfl)
      (zae (zb7 (pv 0) (pv 3) rfl)))),?_⟩
      dsimp! [sFld];simp! [sFld]
      refine ⟨_,_,_,hp,T.cl_q87,T.n_q33,(by decide),T.cl_q87,T.n_q20,few1,T.cl_q87,T.n_q6,few2,?_⟩
      exact k
noncomputable def zjf (K:PySem.W.Frag):Sp:=fun vs H Q _=>∃ (a:Addr) (t:List Nat) (p:Nat),vs=[.ref a,.int (p:Int)]∧SqL K H a (bs t)∧p≤t.length∧∀ H',Same H H'→Q (.int ((p+(Vaunid.numberText (t.drop p)).1:Nat):Int)) H'
theorem ok_q46 (T:TX w K mg):FnOk P w K mg base CX0 4 T.f_q46 T.d_q46 ["text","begin"] (zjf K):=by
  have G_q72:=ok_q72 (P:=P) (w:=w) (base:=base) T
  have G_q85:=ok_q85 (P:=P) (w:=w) (base:=base) T
  have PD:zsn P w K mg base 2 T.f_q72 Vaunid.isDigit:=⟨_,_,G_q72.mono (by decide),T.F_q72.b,T.F_q72.fn.kp⟩
  refine T.F_q46.fn.ok sc_q46 (fun vs H Q E h=>?_) (fun cdv A outer s H vs Q E hr h=>?_)
  · obtain ⟨a,t,p,rfl,_⟩:=h
    rfl
  · obtain ⟨a,t,p,rfl,ht,hp,k⟩:=h
    refine ⟨_,(zab (zao (i:=2) (sc_q46).nd rfl (Or.inl rfl) (zaj G_q85 (hr.mono (by decide)) rfl T.F_q85.mg T.F_q85.fn.kp T.F_q85.b .nil zav (zaa (pv 0) (zaa (pv 1) (zaa (pe_r T.F_q72.mg) zac)))))
      (zab (zbk (PW.pt (pw_and (zam zor (zb8 zdi (pv 2) zai) (za0 zbe rfl T.b_len PySem.boot_len (zaa (pv 0) zac)) (zay _)) (pw_and (zam zdp (zbw zbm (pv 0) (pv 2) (fun _ _=>rfl)) (pe_r T.g_q9) rfl) (pw_and1 (ze0 (zaj G_q72 (hr.mono (by decide)) rfl T.F_q72.mg T.F_q72.fn.kp T.F_q72.b .nil zav (zaa (zbw zbm (pv 0) (zb8 zdi (pv 2) zai) (fun _ _=>rfl)) zac))))))) (zae (zao (i:=2) (sc_q46).nd rfl (Or.inl rfl) (zaj G_q85 (hr.mono (by decide)) rfl T.F_q85.mg T.F_q85.fn.kp T.F_q85.b .nil zav (zaa (pv 0) (zaa (zb8 zdi (pv 2) zai) (zaa (pe_r T.F_q72.mg) zac)))))) zau)
      (zae (zap (pv 2))))),?_⟩
    dsimp! [zje];simp! [zje]
    refine ⟨t,ht,Vaunid.isDigit,PD,bs t,.inl ht,?_⟩
    rw [zc2]
    have k0:=k H (Same.refl H)
    refine ite2 (fun h=>?_) fun h=>?_
    · have hlt:p+((t.drop p).takeWhile Vaunid.isDigit).length+1<t.length:=by omega
      have h1:t[p+((t.drop p).takeWhile Vaunid.isDigit).length]? = some _:=List.getElem?_eq_getElem (by omega)
      have h2:t[p+((t.drop p).takeWhile Vaunid.isDigit).length+1]? = some _:=List.getElem?_eq_getElem hlt
      refine ⟨bs t,ht,_,zce (zf6 h1),_,.inr (T.t_q9 H),rfl,rfl,?_⟩
      rw [zwm]
      have nl:=ztj h1 h2
      refine ite2 (fun q=>⟨bs t,ht,_,zce (zf6 h2),?_⟩) fun q=>?_
      · dsimp! [spB];simp! [spB]
        have q':=of_decide_eq_true q
        refine zdc (fun r=>?_) fun r=>?_
        · rw [if_pos ⟨q'.symm,r⟩] at nl
          refine ⟨_,_,_,rfl,rfl,ht,_,PD,?_⟩
          rw [nl,← Nat.add_assoc,← Nat.add_assoc] at k0
          exact k0
        · rw [if_neg (by rw [r];simp)] at nl
          rw [nl] at k0
          exact k0
      · rw [if_neg (fun z=>q (decide_eq_true z.1.symm))] at nl
        rw [nl] at k0
        exact k0
    · rw [zra (by omega)] at k0
      exact k0
noncomputable def zvl:Sp:=fun vs H Q _=>∃ o u:Nat,vs=[.int (o:Int),.int (u:Int)]∧Q (.int (Nat.gcd o u:Int)) H
theorem ok_q8 (T:TX w K mg):FnOk P w K mg base CX0 1 T.f_q8 T.d_q8 ["first","second"] zvl:=by
  refine T.F_q8.fn.ok sc_q8 (fun vs H Q E h=>?_) (fun cdv A outer s H vs Q E hr h=>?_)
  · obtain ⟨o,u,rfl,_⟩:=h
    rfl
  · obtain ⟨o,u,rfl,k⟩:=h
    refine ⟨_,(zab (zd2 PassesOwn.never (zam zq5 (pv 1) zai (zay _)) (zab (zao (i:=2) (sc_q8).nd rfl (Or.inl rfl) (zb8 zxv (pv 0) (pv 1)))
      (zab (zao (i:=0) (sc_q8).nd rfl (Or.inl rfl) (pv 1))
      (zae (zao (i:=1) (sc_q8).nd rfl (Or.inl rfl) (pv 2))))))
      (zae (zap (pv 0)))),?_⟩
    dsimp! [];simp! []
    obtain ⟨Pv,hPv⟩ : ∃ Pv:Nat→L2.St→Hp→Prop,Pv=fun m σ H'=>H'=H∧∃ (x y:Nat) (z:Option V),m=y∧σ=[some (.int (x:Int)),some (.int (y:Int)),z]∧Nat.gcd x y=Nat.gcd o u:=⟨_,rfl⟩
    refine zfi Pv _ (by rw [hPv];exact ⟨rfl,o,u,none,rfl,rfl,rfl⟩) fun m σ H' hp=>?_
    rw [hPv] at hp
    obtain ⟨rfl,x,y,z,rfl,rfl,hg⟩:=hp
    dsimp! [];simp! []
    refine ite2 (fun h=>⟨_,fun _ _ q=>q,?_,x % m,?_,?_⟩) fun h=>?_
    · simp at h
      omega
    · have:m≠0:=by
        intro e
        subst e
        simp at h
      exact Nat.mod_lt _ (Nat.pos_of_ne_zero this)
    · rw [hPv]
      refine ⟨rfl,m,x % m,_,rfl,by rw [← Int.natCast_emod],?_⟩
      rw [← hg,Nat.gcd_comm x m,Nat.gcd_rec m x,Nat.gcd_comm]
    · have e:m=0:=by simp at h;omega
      subst e
      rw [Nat.gcd_zero_right] at hg
      rw [hg]
      exact k
noncomputable def zs0 (C:Addr):Sp:=fun vs H Q _=>∃ o u:Nat,vs=[.int (o:Int),.int (u:Int)]∧u<2 ^ 200∧zh7 C H Q (M.zn2 o u)
theorem ok_q86 (T:TX w K mg):FnOk P w K mg base CX0 3 T.f_q86 T.d_q86 ["over","under"] (zs0 T.C_q87):=by
  have G_q8:=ok_q8 (P:=P) (w:=w) (base:=base) T
  have G_q87:=ok_q87 (P:=P) (w:=w) (base:=base) T
  refine T.F_q86.fn.ok sc_q86 (fun vs H Q E h=>?_) (fun cdv A outer s H vs Q E hr h=>?_)
  · obtain ⟨o,u,rfl,_⟩:=h
    rfl
  · obtain ⟨o,u,rfl,hu,k⟩:=h
    refine ⟨_,(zab (zbk (zam zcr (pv 1) zai (zay _)) (zae (zap zqy)) zau)
      (zab (zao (i:=2) (sc_q86).nd rfl (Or.inl rfl) (zaj G_q8 (hr.mono (by decide)) rfl T.F_q8.mg T.F_q8.fn.kp T.F_q8.b .nil zav (zaa (pv 0) (zaa (pv 1) zac))))
      (zab (zao (i:=0) (sc_q86).nd rfl (Or.inl rfl) (zb8 znx (pv 0) (pv 2)))
      (zab (zao (i:=1) (sc_q86).nd rfl (Or.inl rfl) (zb8 znx (pv 1) (pv 2)))
      (zab (zbk (PW.pt (pw_or (zam zxw (pv 0) (pe_g T.g_q3) (zay _)) (pw_or1 (zam zxw (pv 1) (pe_g T.g_q3) (zay _))))) (zae (zap zqy)) zau)
      (zae (zap (zbu T.M_q87 G_q87 (hr.mono (by decide)) rfl T.G_q87 T.b_q2 .nil zav (zaa (pv 0) (zaa (pv 1) (zaa zax zac))))))))))),?_⟩
    dsimp! [zvl,zbx,zbt];simp! [zvl,zbx,zbt]
    unfold M.zn2 at k
    refine ite2 (fun h=>?_) fun h=>?_
    · rw [if_pos (by omega)] at k
      exact k H (Same.refl H)
    · have hu0:u≠0:=by omega
      have hg:0<o.gcd u:=Nat.gcd_pos_of_pos_right _ (Nat.pos_of_ne_zero hu0)
      have hg2:o.gcd u≤u:=Nat.gcd_le_right _ (Nat.pos_of_ne_zero hu0)
      have cd : ∀ i:Int,zyq i ((o.gcd u:Nat):Int):=fun i=>⟨by omega,zoy (by rw [Int.natAbs_natCast];omega)⟩
      rw [if_neg hu0] at k
      refine ⟨cd _,cd _,?_⟩
      rw [← Int.natCast_ediv,← Int.natCast_ediv]
      refine ite2 (fun h1=>?_) fun h1=>ite2 (fun h2=>?_) fun h2=>?_
      · rw [if_pos (.inl (by omega))] at k
        exact k H (Same.refl H)
      · rw [if_pos (.inr (by omega))] at k
        exact k H (Same.refl H)
      · rw [if_neg (by omega)] at k
        intro x dx hx hdx hne
        exact k x _ (zbi hx hdx) ⟨dx,zad⟩
noncomputable def zxh (C:Addr):Sp:=fun vs H Q _=>∃ (a b:List Nat) (c:Nat),vs=[.str (S (a++(if c=0 then [] else c::b)))]∧(∀ x∈a,Vaunid.isDigit x=true)∧a≠[]∧a.length+b.length≤100000 ∧
  ((c=0∧b=[])∨((c=46∨c=47)∧b≠[]∧∀ x∈b,Vaunid.isDigit x=true))∧zh7 C H Q (frac a c b)
theorem ok_q32 (T:TX w K mg):FnOk P w K mg base CX0 4 T.f_q32 T.d_q32 ["spelling"] (zxh T.C_q87):=by
  have G_q86:=ok_q86 (P:=P) (w:=w) (base:=base) T
  refine T.F_q32.fn.ok sc_q32 (fun vs H Q E h=>?_) (fun cdv A outer s H vs Q E hr h=>?_)
  · obtain ⟨a,b,c,rfl,_⟩:=h
    rfl
  · obtain ⟨a,b,c,rfl,ha,hne,hl,hc,k⟩:=h
    refine ⟨_,(zab (zao (i:=1) (sc_q32).nd rfl (Or.inl rfl) (zjn zot zax (pv 0) rfl))
      (zab (zao (i:=2) (sc_q32).nd rfl (Or.inl rfl) (ze2 (ze0 (pv 1)) (zns (pv 0) zax) (zns (pv 0) zax)))
      (zab (zbk (zam zou (za0 (zyk rfl) rfl T.b_max zsh (zaa (zqz rfl (sc_q32).nd (zmd (pv 2)) (zfg (own:=[("row",3)]) (by kernel_rfl)) (fun _ _ _ _ _=>zcg (i:=3) (sc_q32).nd rfl (Or.inl rfl)) (fun _ _ _ _ _=>zhj) (fun _ _ _ _ _=>(za0 zbd rfl T.b_len PySem.boot_len (zaa (pv 3) zac)))) zac)) (pe_g T.g_q34) (zay _)) (zae (zap zqy)) zau)
      (zab (zbk (ze0 (pv 1)) (zae (zap (zaj G_q86 (hr.mono (by decide)) rfl T.F_q86.mg T.F_q86.fn.kp T.F_q86.b .nil zav (zaa (zca zcl rfl T.b_int zdx (zaa (zbw zbm (pv 2) zai (fun _ _=>rfl)) zac)) (zaa (zca zcl rfl T.b_int zdx (zaa (zbw zbm (pv 2) zai (fun _ _=>rfl)) zac)) zac))))) zau)
      (zab (zbk (zam zcr (za0 zbe rfl T.b_len PySem.boot_len (zaa (pv 2) zac)) zai (zay _)) (zae (zap (zaj G_q86 (hr.mono (by decide)) rfl T.F_q86.mg T.F_q86.fn.kp T.F_q86.b .nil zav (zaa (zca zcl rfl T.b_int zdx (zaa (zb8 zch (zbw zbm (pv 2) zai (fun _ _=>rfl)) (zbw zbm (pv 2) zai (fun _ _=>rfl))) zac)) (zaa (zca zcl rfl T.b_int zdx (zaa (zb8 zch zax (zb8 zoq zax (za0 zbd rfl T.b_len PySem.boot_len (zaa (zbw zbm (pv 2) zai (fun _ _=>rfl)) zac)))) zac)) zac))))) zau)
      (zae (zap (zaj G_q86 (hr.mono (by decide)) rfl T.F_q86.mg T.F_q86.fn.kp T.F_q86.b .nil zav (zaa (zca zcl rfl T.b_int zdx (zaa (zbw zbm (pv 2) zai (fun _ _=>rfl)) zac)) (zaa zai zac)))))))))),?_⟩
    dsimp! [];simp! []
    refine ⟨47,zqe,?_⟩
    have big : ∀ n:Nat,n≤100001→n+2≤sizeLine:=fun n h=>Nat.le_trans (Nat.add_le_add_right h 2) (by decide)
    have big2 : ∀ n:Nat,n≤100001→n≤sizeLine:=fun n h=>Nat.le_trans (Nat.le_add_right n 2) (big n h)
    have p12:(10:Nat) ^ 12<2 ^ 200:=by decide
    have n47:47∉a:=fun m=>by have:=ha _ m;revert this;decide
    have dotne:((Str.ofString ".").length == 0)=false:=by decide +kernel
    have slane:((Str.ofString "/").length == 0)=false:=by decide +kernel
    rcases hc with ⟨rfl,rfl⟩ | ⟨rfl | rfl,hb,hbd⟩
    · simp only [if_true,List.append_nil]
      rw [if_neg (by rw [zid];exact n47)]
      refine ⟨dotne,big _ (by simp at hl;omega),?_⟩
      rw [zt6 ha]
      intro p hp
      refine zjw zad (by intro y hy;rw [List.mem_singleton.mp hy,zbo];exact big2 _ (by simp at hl;omega)) (by show 1≤sizeLine;decide) fun D H' sm e=>?_
      have hpp:H' p=some (.lst [.str (S a)]):=sm _ _ zad
      have sm2:Same H H':=(Same.upd hp).trans sm
      dsimp! [];simp! []
      refine ⟨[((S a).length:Int)],SqL.of e,by simp,fun m hm hmax=>?_⟩
      rw [List.mem_singleton.mp hm,zbo]
      refine ite2 (fun h=>?_) fun h=>?_
      · rw [zhy (.inl (by omega))] at k
        exact k _ sm2
      · rw [if_neg (by rw [zid];exact n47)]
        refine ⟨_,.inl (SqL.of hpp),?_⟩
        rw [if_neg (by simp)]
        refine ⟨_,SqL.of hpp,_,rfl,_,rfl,_,zlb ha hne (by omega),by rw [zbo];omega,?_⟩
        rw [zel (by omega) (by decide)] at k
        exact ⟨_,1,rfl,by decide,k.mono sm2⟩
    · have e0:(a++if 46=0 then [] else 46::b)=a++46::b:=rfl
      rw [e0]
      have n47b:47∉a++46::b:=fun m=>by
        rcases List.mem_append.mp m with q | q
        · exact n47 q
        · rcases List.mem_cons.mp q with q | q
          · cases q
          · have:=hbd _ q;revert this;decide
      have hlen:(a++46::b).length≤100001:=by rw [List.length_append,List.length_cons];omega
      rw [if_neg (by rw [zid];exact n47b)]
      refine ⟨dotne,big _ hlen,?_⟩
      rw [zwv ha hbd]
      intro p hp
      refine zjw zad (by intro y hy;exact (List.mem_cons.mp hy).elim (fun q=>by rw [q,zbo];exact big2 _ (by omega)) fun q=>by rw [List.mem_singleton.mp q,zbo];exact big2 _ (by omega)) (by show 2≤sizeLine;decide) fun D H' sm e=>?_
      have hpp:H' p=some (.lst [.str (S a),.str (S b)]):=sm _ _ zad
      have sm2:Same H H':=(Same.upd hp).trans sm
      dsimp! [];simp! []
      refine ⟨[((S a).length:Int),((S b).length:Int)],SqL.of e,by simp,fun m hm hmax=>?_⟩
      have m1:=hmax ((S a).length:Int) (by simp)
      have m2:=hmax ((S b).length:Int) (by simp)
      rw [zbo] at m1 m2
      have m3:m=(a.length:Int)∨m=(b.length:Int):=by
        rcases List.mem_cons.mp hm with q | q
        · rw [q,zbo];exact .inl rfl
        · rw [List.mem_singleton.mp q,zbo];exact .inr rfl
      refine ite2 (fun h=>?_) fun h=>?_
      · rw [zhy (by omega)] at k
        exact k _ sm2
      · rw [if_neg (by rw [zid];exact n47b)]
        refine ⟨_,.inl (SqL.of hpp),?_⟩
        rw [if_pos (by simp)]
        have hl24:(a++b).length≤24:=by rw [List.length_append];omega
        have hab : ∀ x∈a++b,Vaunid.isDigit x=true:=fun x hx=>(List.mem_append.mp hx).elim (ha x) (hbd x)
        obtain ⟨t1,t2,t3⟩:=zv7 b.length (by omega)
        refine ⟨_,SqL.of hpp,_,rfl,_,SqL.of hpp,_,rfl,_,rfl,_,rfl,?_⟩
        rw [zlt,zbo,zbo,zbo]
        refine ⟨big2 _ (by omega),_,zlb hab (by simp [hne]) (by omega),by omega,_,SqL.of hpp,_,rfl,_,rfl,?_⟩
        rw [zbo]
        refine ⟨big2 _ (by omega),zx0 _ (by omega),t3,_,t1,t2,?_⟩
        rw [zel (by omega) (by omega)] at k
        exact ⟨_,10 ^ b.length,rfl,Nat.lt_of_le_of_lt (zil (by omega)) p12,k.mono sm2⟩
    · have e0:(a++if 47=0 then [] else 47::b)=a++47::b:=rfl
      rw [e0]
      have i47:47∈a++47::b:=by simp
      have hlen:(a++47::b).length≤100001:=by rw [List.length_append,List.length_cons];omega
      rw [if_pos (by rw [zid];exact i47)]
      refine ⟨slane,big _ hlen,?_⟩
      rw [zqf ha hbd]
      intro p hp
      refine zjw zad (by intro y hy;exact (List.mem_cons.mp hy).elim (fun q=>by rw [q,zbo];exact big2 _ (by omega)) fun q=>by rw [List.mem_singleton.mp q,zbo];exact big2 _ (by omega)) (by show 2≤sizeLine;decide) fun D H' sm e=>?_
      have hpp:H' p=some (.lst [.str (S a),.str (S b)]):=sm _ _ zad
      have sm2:Same H H':=(Same.upd hp).trans sm
      dsimp! [];simp! []
      refine ⟨[((S a).length:Int),((S b).length:Int)],SqL.of e,by simp,fun m hm hmax=>?_⟩
      have m1:=hmax ((S a).length:Int) (by simp)
      have m2:=hmax ((S b).length:Int) (by simp)
      rw [zbo] at m1 m2
      have m3:m=(a.length:Int)∨m=(b.length:Int):=by
        rcases List.mem_cons.mp hm with q | q
        · rw [q,zbo];exact .inl rfl
        · rw [List.mem_singleton.mp q,zbo];exact .inr rfl
      refine ite2 (fun h=>?_) fun h=>?_
      · rw [zhy (by omega)] at k
        exact k _ sm2
      · rw [if_pos (by rw [zid];exact i47)]
        refine ⟨_,SqL.of hpp,_,rfl,_,rfl,_,zlb ha hne (by omega),by rw [zbo];omega,_,SqL.of hpp,_,rfl,_,rfl,_,zlb hbd hb (by omega),by rw [zbo];omega,?_⟩
        rw [zel (by omega) (by omega)] at k
        exact ⟨_,_,rfl,Nat.lt_trans (zyf hbd (by omega)) p12,k.mono sm2⟩
noncomputable def zvk:Sp:=fun vs H Q _=>∃ l:List Nat,vs=[.str (S l)]∧l.length≤sizeLine∧∀ H',Same H H'→Q (.bl (zbz l)) H'
theorem ok_q79 (T:TX w K mg):FnOk P w K mg base CX0 2 T.f_q79 T.d_q79 ["power"] zvk:=by
  have G_q72:=ok_q72 (P:=P) (w:=w) (base:=base) T
  refine T.F_q79.fn.ok sc_q79 (fun vs H Q E h=>?_) (fun cdv A outer s H vs Q E hr h=>?_)
  · obtain ⟨n,rfl,_⟩:=h
    rfl
  · obtain ⟨l,rfl,hl,k⟩:=h
    refine ⟨_,(zab (zao (i:=1) (sc_q79).nd rfl (Or.inl rfl) (ze2 (ze0 (zta F.slot_str_startswith F.type_str_startswith zjv (pv 0) zax)) (zd3 zul (pv 0) (zct zai) zqw) (pv 0)))
      (zab (zbk (PW.pt (pw_or (zam zcr (pv 1) zax (zay _)) (pw_or1 (zam zou (za0 zbd rfl T.b_len PySem.boot_len (zaa (pv 1) zac)) (pe_g T.g_q1) (zay _))))) (zae (zap zop)) zau)
      (zae (zap (za0 (zu5 rfl) rfl T.b_all zln (zaa (zqz rfl (sc_q79).nd (zqx (pv 1)) (zfg (own:=[("sign",2)]) (by kernel_rfl)) (fun _ _ _ _ _=>zcg (i:=2) (sc_q79).nd rfl (Or.inl rfl)) (fun _ _ _ _ _=>zhj) (fun _ _ _ _ _=>(zaj G_q72 (hr.mono (by decide)) rfl T.F_q72.mg T.F_q72.fn.kp T.F_q72.b .nil zav (zaa (za0 zgs rfl T.b_ord zff (zaa (pv 2) zac)) zac)))) zac)))))),?_⟩
    dsimp! [];simp! []
    have k0:=k H (Same.refl H)
    have part : ∀ d:List Nat,zbz l=(!d.isEmpty && (decide (d.length≤2) && d.all Vaunid.isDigit))→d.length≤sizeLine→(if S d=Str.ofString "" then Q (V.bl false) H else (S d).length≤sizeLine∧if 2<((S d).length:Int) then Q (V.bl false) H else
        tLc (iStr (tVar 1)) (zgd 2) tYes (zkg (spB Vaunid.isDigit) [] E0 (zgc (tCB (fun xs H Q=>∃ x,xs=[V.str x]∧x.length=1∧Q (V.int ↑(x.cps.getD 0 0)) H) (zgc (tVar 2) tNil)) tNil)) [2] [some (V.str (S l)),some (V.str (S d)),none] H fun x H1 =>
          ∃ a,x=V.ref a∧∃ x,SqL K H1 a (List.map V.bl x)∧Q (V.bl (x.all id)) H1):=fun d hd hdl=>by
      rw [hd] at k0 k
      rw [zbo]
      refine ite2 (fun z=>?_) fun z=>⟨hdl,ite2 (fun z2=>?_) fun z2=>?_⟩
      · have e:d=[]:=by rw [S_eq] at z;exact z
        subst e
        exact k0
      · rw [decide_eq_false (by omega)] at k0
        simpa using k0
      · refine zsg hdl fun D H' sm e=>⟨D,rfl,d.map Vaunid.isDigit,SqL.of e,?_⟩
        have k1:=k H' sm
        have e2:(!d.isEmpty && (decide (d.length≤2) && d.all Vaunid.isDigit))=(d.map Vaunid.isDigit).all id:=by
          rw [decide_eq_true (by omega),List.all_map]
          cases d with
          | nil=>exact absurd (by rw [S_eq];rfl) z
          | cons c r=>rfl
        rw [e2] at k1
        exact k1
    have ec:cutS (S l) (some 1) none=S (l.drop 1):=zua l 1
    rw [zki,ec]
    refine ite2 (fun h=>?_) fun h=>?_
    · have hh:=of_decide_eq_true h
      refine ⟨hl,part (l.drop 1) ?_ (by rw [List.length_drop];omega)⟩
      unfold zbz
      rw [if_pos hh]
      cases l with
      | nil=>cases hh
      | cons c r=>rfl
    · have hh : ¬ l.head? = some 45:=fun z=>h (decide_eq_true z)
      have:=part l (by unfold zbz;rw [if_neg hh]) hl
      simp only [S_eq,zbo] at this
      exact this
noncomputable def zs1:Sp:=fun vs H Q _=>∃ l:List Nat,vs=[.str (S l)]∧l.length≤sizeLine∧∀ H',Same H H'→Q (.bl (zas l)) H'
theorem ok_q65 (T:TX w K mg):FnOk P w K mg base CX0 4 T.f_q65 T.d_q65 ["factor"] zs1:=by
  have G_q12:=ok_q12 (P:=P) (w:=w) (base:=base) T
  have G_q79:=ok_q79 (P:=P) (w:=w) (base:=base) T
  refine T.F_q65.fn.ok sc_q65 (fun vs H Q E h=>?_) (fun cdv A outer s H vs Q E hr h=>?_)
  · obtain ⟨n,rfl,_⟩:=h
    rfl
  · obtain ⟨l,rfl,hl,k⟩:=h
    refine ⟨_,(zab (zbk (zam zcr (pv 0) zax (zay _)) (zae (zap zop)) zau)
      (zab (zbk (zam zjr zax (pv 0) rfl) (zae (zap (zaj G_q12 (hr.mono (by decide)) rfl T.F_q12.mg T.F_q12.fn.kp T.F_q12.b .nil zav (zaa (pv 0) zac)))) zau)
      (zab (zao (i:=1) (sc_q65).nd rfl (Or.inl rfl) (zkz (pv 0) zax))
      (zae (zap (zxt (zaj G_q12 (hr.mono (by decide)) rfl T.F_q12.mg T.F_q12.fn.kp T.F_q12.b .nil zav (zaa (zbw zcz (pv 1) zai (fun _ _=>rfl)) zac)) (zuv (zaj G_q79 (hr.mono (by decide)) rfl T.F_q79.mg T.F_q79.fn.kp T.F_q79.b .nil zav (zaa (zbw zcz (pv 1) zai (fun _ _=>rfl)) zac))))))))),?_⟩
    dsimp! [];simp! []
    have k0:=k H (Same.refl H)
    refine ite2 (fun h=>?_) fun h=>⟨94,zwp,?_⟩
    · have e:zas l=true:=by rw [h];decide +kernel
      rw [e] at k0
      exact k0
    · have h1:(l == [49])=false:=by
        cases q:l == [49] with
        | false=>rfl
        | true=>exact absurd ((eq_of_beq q).trans (by decide +kernel)) h
      rw [zid]
      have hc:l.contains 94=decide (94∈l):=by rw [Bool.eq_iff_iff];simp
      refine ite2 (fun q=>?_) fun q=>?_
      · have q' : ¬ 94∈l:=by simpa using q
        have e:zas l=zaw l:=by
          unfold zas
          rw [h1,hc,decide_eq_false q']
          rfl
        refine ⟨l,rfl,hl,?_⟩
        rw [e] at k
        exact k
      · have q':94∈l:=by simpa using q
        have e:zas l=(zaw (l.takeWhile (· != 94)) && zbz ((l.dropWhile (· != 94)).drop 1)):=by
          unfold zas
          rw [h1,hc,decide_eq_true q']
          rfl
        rw [e] at k
        refine ⟨by decide +kernel,hl,fun p hp=>⟨_,SqT.of zad,_,rfl,?_⟩⟩
        rw [ztf q']
        refine ⟨_,rfl,Nat.le_trans (zf8 _ _) hl,fun H' sm=>⟨_,rfl,?_⟩⟩
        have sm2:Same H H':=(Same.upd hp).trans sm
        refine zdc (fun r=>?_) fun r=>?_
        · refine ⟨_,SqT.of (sm _ _ zad),_,rfl,_,rfl,?_,fun H2 s2=>?_⟩
          · rw [List.length_drop,zcm,List.length_drop]
            omega
          · have:=k H2 (sm2.trans s2)
            rw [r] at this
            exact this
        · have:=k H' sm2
          rw [r] at this
          exact this
noncomputable def zp9:Sp:=fun vs H Q _=>∃ l:List Nat,vs=[.str (S l)]∧l.length≤1000000∧∀ H',Same H H'→Q (.bl (Vaunid.measureText (l.length+1) l)) H'
theorem ok_q58 (T:TX w K mg):FnOkT P w K mg base CX0 5 T.f_q58 T.d_q58 ["measure"] zp9:=by
  have G_q65:=ok_q65 (P:=P) (w:=w) (base:=base) T
  refine T.F_q58.fn.okT sc_q58 (fun vs H Q E h=>?_) (fun cdv A outer s H vs Q E hr h=>?_)
  · obtain ⟨n,rfl,_⟩:=h
    rfl
  · obtain ⟨l,rfl,hl,k⟩:=h
    refine ⟨_,(zqr (zvx PassesOwn.never rfl (zs9 (zxs PySem.F.slot_str_split PySem.F.type_str_split zn1 (zme (pv 0)) zax)) (zcg (i:=1) (sc_q58).nd rfl (Or.inl rfl)) (zae (zbk (zur (ze0 (zaj G_q65 (hr.mono (by decide)) rfl T.F_q65.mg T.F_q65.fn.kp T.F_q65.b .nil zav (zaa (pv 1) zac)))) (zae (zap zop)) zau)))
      (zae (zap zop))),?_⟩
    have ea:(Txt.split (Txt.replace (S l) (Str.ofString "/") (Str.ofString ".")) (Str.ofString ".")).map tl=cut sep [] l:=by rw [zhi,zg8,zl4]
    have ea2:Txt.split (Txt.replace (S l) (Str.ofString "/") (Str.ofString ".")) (Str.ofString ".")=(cut sep [] l).map S:=by
      refine zcy ?_
      rw [ea,List.map_map]
      exact (List.map_id _).symm
    refine zcf ?_
    dsimp! [];simp! [zgn]
    rw [ea2]
    have me:=zcx (l.length+1) l (by omega)
    rw [me] at k
    have sz:(1000000:Nat)+2≤sizeLine:=by decide
    refine ⟨by omega,by decide +kernel,by rw [zhi,zbo,List.length_map];omega,fun p hp=>⟨⟨_,SqL.of zad⟩,?_⟩⟩
    refine ziy (((cut sep [] l).map S).map V.str) (fun i σ H'=>Same (upd H p (HO.lst (List.map V.str (List.map S (cut sep [] l))))) H'∧(∃ z,σ=[some (.str (S l)),z])∧((cut sep [] l).take i).all zas=true) ⟨Same.refl _,⟨_,rfl⟩,rfl⟩ (fun i σ H' _ hp=>SqL.of (hp.1 _ _ zad)) (fun i x σ H' hx hp=>?_) fun σ H' hp=>?_
    · obtain ⟨sm,⟨z,rfl⟩,hall⟩:=hp
      rw [List.getElem?_map,List.getElem?_map] at hx
      cases q:(cut sep [] l)[i]? with
      | none=>rw [q] at hx;cases hx
      | some f =>
        rw [q] at hx
        cases hx
        dsimp! [];simp! []
        have hf:=zm2 sep l [] f (List.mem_of_getElem? q)
        rw [List.length_nil] at hf
        refine ⟨f,rfl,by omega,fun H2 s2=>⟨_,rfl,?_⟩⟩
        have sm2:Same H H2:=((Same.upd hp).trans sm).trans s2
        cases r:zas f with
        | false =>
          have k1:=k H2 sm2
          rw [zyn q r] at k1
          exact iteT k1
        | true =>
          refine iteF ⟨sm.trans s2,?_⟩
          rw [zst q,hall,r]
          rfl
    · obtain ⟨sm,⟨z,rfl⟩,hall⟩:=hp
      rw [List.length_map,List.length_map,List.take_length] at hall
      have k1:=k H' ((Same.upd hp).trans sm)
      rw [hall] at k1
      exact k1
noncomputable def zfn (C:Addr):Sp:=fun vs H Q _=>∃ (a:Addr) (o u:Int) (m l:List Nat),vs=[.ref a,.str (S l)]∧zbh C H a o u m∧∀ (b:Addr) (H':Hp),Same H H'→zbh C H' b o u l→Q (.ref b) H'
theorem ok_q78 (T:TX w K mg):FnOk P w K mg base CX0 3 T.f_q78 T.d_q78 ["amount","measure"] (zfn T.C_q87):=by
  have G_q87:=ok_q87 (P:=P) (w:=w) (base:=base) T
  refine T.F_q78.fn.ok sc_q78 (fun vs H Q E h=>?_) (fun cdv A outer s H vs Q E hr h=>?_)
  · obtain ⟨a,o,u,m,l,rfl,_⟩:=h
    rfl
  · obtain ⟨a,o,u,m,l,rfl,⟨dx,ha⟩,k⟩:=h
    refine ⟨_,(zae (zap (zbu T.M_q87 G_q87 (hr.mono (by decide)) rfl T.G_q87 T.b_q2 .nil zav (zaa (zan (pv 0) rfl) (zaa (zan (pv 0) rfl) (zaa (pv 1) zac)))))),?_⟩
    dsimp! [tFld,zbx,zbt];simp! [tFld,zbx,zbt,ha]
    refine ⟨T.cl_q87,T.n_q33,_,rfl,T.cl_q87,T.n_q20,_,rfl,fun x dx hx hdx hne=>?_⟩
    exact k x _ (zbi hx hdx) ⟨dx,zad⟩
noncomputable def zhd (C:Addr):Sp:=fun vs H Q _=>∃ (a:Addr) (o u:Int) (m:List Nat),vs=[.ref a]∧zbh C H a o u m∧∀ (b:Addr) (H':Hp),Same H H'→zbh C H' b (-o) u m→Q (.ref b) H'
theorem ok_q84 (T:TX w K mg):FnOk P w K mg base CX0 3 T.f_q84 T.d_q84 ["amount"] (zhd T.C_q87):=by
  have G_q87:=ok_q87 (P:=P) (w:=w) (base:=base) T
  refine T.F_q84.fn.ok sc_q84 (fun vs H Q E h=>?_) (fun cdv A outer s H vs Q E hr h=>?_)
  · obtain ⟨a,o,u,m,rfl,_⟩:=h
    rfl
  · obtain ⟨a,o,u,m,rfl,⟨dx,ha⟩,k⟩:=h
    refine ⟨_,(zae (zap (zbu T.M_q87 G_q87 (hr.mono (by decide)) rfl T.G_q87 T.b_q2 .nil zav (zaa (zyt zw6 (zan (pv 0) rfl)) (zaa (zan (pv 0) rfl) (zaa (zan (pv 0) rfl) zac)))))),?_⟩
    dsimp! [tFld,zbx,zbt];simp! [tFld,zbx,zbt,ha]
    refine ⟨T.cl_q87,T.n_q33,_,rfl,_,rfl,T.cl_q87,T.n_q20,_,rfl,T.cl_q87,T.n_q6,_,rfl,fun x dx hx hdx hne=>?_⟩
    exact k x _ (zbi hx hdx) ⟨dx,zad⟩
end
set_option maxHeartbeats 2000000
section
variable {P:Program}{w:World}{K:PySem.W.Frag}{mg:Str→Option Value}{base:Heap}
theorem ok_q90 (T:TX w K mg):FnOk P w K mg base CX0 1 T.f_q5 T.d_q5 ["self","kind","place"] (zhe T.C_q90):=by
  refine T.F_q5.ok sc_q5 (fun vs H Q E h=>?_) (fun cdv A outer s H vs Q E hr h=>?_)
  · obtain ⟨p,k,q,rfl,_⟩:=h
    rfl
  · obtain ⟨p,k,q,rfl,hp,kk⟩:=h
    refine ⟨_,(zab (zs8 (pv 0) (pv 1) rfl)
      (zae (zs7 (pv 0) (pv 2) rfl))),?_⟩
    dsimp! [];simp! [zup,zuo]
    refine ⟨_,hp,_,T.X_q90,T.n_q52,fun dx hdx hne=>⟨_,_,_,rfl,_,(by rw [zah hne];exact zad),T.X_q90,T.n_q30,(by show 1<1000;decide),?_⟩⟩
    have e:upd (upd (upd H dx (XDic dx [(Str.ofString "kind",k)])) p (XNew T.C_q90 p (some dx))) dx (XDic dx (putF (Str.ofString "place") q [(Str.ofString "kind",k)]))=upd (upd H dx (XDic dx [("kind",k),("place",q)])) p (XNew T.C_q90 p (some dx)):=by
      rw [znf (fun z=>hne z.symm),zgy]
      rfl
    rw [e]
    exact kk dx hdx hne
theorem ok_q91 (T:TX w K mg):FnOk P w K mg base CX0 1 T.f_q7 T.d_q7 ["self","group","kind","begin","end","content"] (zbt T.C_q91 ["group","kind","begin","end","content"]):=by
  refine T.F_q7.ok sc_q7 (fun vs H Q E h=>?_) (fun cdv A outer s H vs Q E hr h=>?_)
  · obtain ⟨p,dx,args,rfl,hl,_⟩:=h
    simp only [List.length_cons,List.length_nil] at hl ⊢
    rw [hl]
  · obtain ⟨p,dx,args,rfl,hl,hp,k⟩:=h
    match args,hl,k with
    | [a,b,c,d,e],_,k =>
      refine ⟨_,(zab (zb7 (pv 0) (pv 1) rfl)
      (zab (zb7 (pv 0) (pv 2) rfl)
      (zab (zb7 (pv 0) (pv 3) rfl)
      (zab (zb7 (pv 0) (pv 4) rfl)
      (zae (zb7 (pv 0) (pv 5) rfl)))))),?_⟩
      dsimp! [sFld];simp! [sFld]
      refine ⟨_,_,_,hp,T.cl_q91,T.n_q38,few0,T.cl_q91,T.n_q44,few1,T.cl_q91,T.n_q36,few2,T.cl_q91,T.n_q70,few3,T.cl_q91,T.n_q11,few4,?_⟩
      exact k
noncomputable def zxg (core:Bool) (C:Addr) (K:PySem.W.Frag):Sp:=fun vs H Q E=>∃ (a:Addr) (t:List Nat) (p:Nat),vs=[.ref a,.int (p:Int)]∧SqL K H a (bs t)∧p≤t.length∧RES C H Q E (gapT core p (t.drop p)) (fun x v _=>v = .int (x.1:Int))
noncomputable def zxc (Ca Ct C:Addr) (K:PySem.W.Frag):Sp:=fun vs H Q E=>∃ (a:Addr) (t:List Nat) (p:Nat),vs=[.ref a,.int (p:Int)]∧SqL K H a (bs t)∧p≤t.length∧t.length≤10000 ∧
  RES C H Q E (Vaunid.wordToken p (t.drop p)) (fun x v H'=>∃ b,v = .ref b∧zea Ca Ct H' b x.1)
theorem ok_q47 (T:TX w K mg):FnOk P w K mg base (CX1 P w) 4 T.f_q47 T.d_q47 ["text","begin"] (zxc T.C_q87 T.C_q91 T.C_q90 K):=by
  have G_q85:=ok_q85 (P:=P) (w:=w) (base:=base) T
  have G_q90:=ok_q90 (P:=P) (w:=w) (base:=base) T
  have G_q91:=ok_q91 (P:=P) (w:=w) (base:=base) T
  have G_q81:=ok_q81 (P:=P) (w:=w) (base:=base) T
  have G_q39:=ok_q39 (P:=P) (w:=w) (base:=base) T
  have PD:zsn P w K mg base 2 T.f_q39 Vaunid.inWord:=⟨_,_,G_q39,T.F_q39.b,T.F_q39.fn.kp⟩
  refine T.F_q47.fn.okX sc_q47 (fun vs H Q E h=>?_) (fun cdv A outer s H vs Q E hr h=>?_)
  · obtain ⟨a,t,p,rfl,_⟩:=h
    rfl
  · obtain ⟨a,t,p,rfl,ht,hp,hl,k⟩:=h
    refine ⟨_,(zab (zao (i:=2) (sc_q47).nd rfl (Or.inl rfl) (zaj G_q85 (hr.mono (by decide)) rfl T.F_q85.mg T.F_q85.fn.kp T.F_q85.b .nil zav (zaa (pv 0) (zaa (pv 1) (zaa (pe_r T.F_q39.mg) zac)))))
      (zab (zbk (zam zou (zb8 znw (pv 2) (pv 1)) (pe_g T.g_q43) (zay _)) (zae (zco T.X_q90 G_q90 (hr.mono (by decide)) rfl T.G_q90 T.b_q5 zb6 rfl (zaa zai (zaa (pv 1) zac)))) zau)
      (zab (zao (i:=3) (sc_q47).nd rfl (Or.inl rfl) (zaj G_q81 (hr.mono (by decide)) rfl T.F_q81.mg T.F_q81.fn.kp T.F_q81.b .nil zav (zaa (zd3 zjj (pv 0) (zct (pv 1)) (zct (pv 2))) zac)))
      (zab (zao (i:=4) (sc_q47).nd rfl (Or.inl rfl) (ze2 (zam zdp (pv 3) (pe_r T.g_q35) rfl) (pv 3) zax))
      (zae (zap (zbu T.M_q91 G_q91 (hr.mono (by decide)) rfl T.G_q91 T.b_q7 .nil zav (zaa (pe_g T.g_q50) (zaa (pv 4) (zaa (pv 1) (zaa (pv 2) (zaa (pv 3) zac)))))))))))),?_⟩
    dsimp! [zje,zb5,zc8];simp! [zje,zb5,zc8]
    refine ⟨t,ht,_,PD,?_⟩
    unfold Vaunid.wordToken at k
    dsimp only at k
    have hw:=zg1 (p:=Vaunid.inWord) (t.drop p)
    have htk:=zg0 Vaunid.inWord (t.drop p)
    have hle:=zf8 Vaunid.inWord (t.drop p)
    rw [List.length_drop] at hle
    generalize (t.drop p).takeWhile Vaunid.inWord=wd at k hw htk hle ⊢
    refine ite2 (fun h=>?_) fun h=>⟨bs t,ht,fun q hq=>?_⟩
    · rw [if_pos (show Vaunid.MOSTSIGNS<wd.length by show 12<_;omega)] at k
      exact ⟨by decide,zcj k⟩
    · rw [if_neg (show ¬ Vaunid.MOSTSIGNS<wd.length by show ¬ 12<_;omega)] at k
      rw [zfd t p _ hp,Nat.add_sub_cancel_left,htk]
      refine ⟨wd,SqL.of zad,by omega,fun H' sm=>⟨_,.inr (T.t_q35 H'),rfl,rfl,?_⟩⟩
      rw [zoj,zto hw,in_S,← zpv]
      have sm2:Same H H':=(Same.upd hq).trans sm
      refine zdc (fun r=>?_) fun r=>?_
      · dsimp! [zbx,zbt];simp! [zbx,zbt]
        intro x dx hx hdx hne
        refine k _ _ (sm2.trans (zbi hx hdx)) ⟨x,rfl,dx,.str (S wd),?_,rfl⟩
        rw [zad]
        have hk:kindOf (.word wd)=wd:=if_pos r
        show _=some (HO.ins T.C_q91 dx (zga 0 (S (kindOf (.word wd))) _ _ _))
        rw [hk]
        rfl
      · dsimp! [zbx,zbt];simp! [zbx,zbt]
        intro x dx hx hdx hne
        refine k _ _ (sm2.trans (zbi hx hdx)) ⟨x,rfl,dx,.str (S wd),?_,rfl⟩
        rw [zad]
        have hk:kindOf (.word wd)=Vaunid.txt "name":=if_neg (by rw [r];simp)
        show _=some (HO.ins T.C_q91 dx (zga 0 (S (kindOf (.word wd))) _ _ _))
        rw [hk,← zbs]
        rfl
noncomputable def zl5 (C:Addr) (K:PySem.W.Frag):Sp:=fun vs H Q E=>∃ (a:Addr) (t:List Nat) (p:Nat) (r:List Nat),vs=[.ref a,.int (p:Int)]∧SqL K H a (bs t)∧t.drop p=91::r∧t.length≤10000 ∧
  RES C H Q E (if (r.takeWhile fun c=>c != 93).length=r.length∨Vaunid.measureText ((r.takeWhile fun c=>c != 93).length+1) (r.takeWhile fun c=>c != 93)=false then Vaunid.fault 5 p else (.ok (r.takeWhile fun c=>c != 93):Vaunid.Res (List Nat))) (fun m v _=>v = .str (S m))
theorem ok_q41 (T:TX w K mg):FnOk P w K mg base (CX1 P w) 6 T.f_q41 T.d_q41 ["text","begin"] (zl5 T.C_q90 K):=by
  have G_q85:=ok_q85 (P:=P) (w:=w) (base:=base) T
  have G_q90:=ok_q90 (P:=P) (w:=w) (base:=base) T
  have G_q81:=ok_q81 (P:=P) (w:=w) (base:=base) T
  have G_q58:=ok_q58 (P:=P) (w:=w) (base:=base) T
  have G_q0:=ok_q0 (P:=P) (w:=w) (base:=base) T
  have PD:zsn P w K mg base 2 T.f_q0 (fun c=>c != 93):=⟨_,_,G_q0.mono (by decide),T.F_q0.b,T.F_q0.fn.kp⟩
  refine T.F_q41.fn.okX sc_q41 (fun vs H Q E h=>?_) (fun cdv A outer s H vs Q E hr h=>?_)
  · obtain ⟨a,t,p,r,rfl,_⟩:=h
    rfl
  · obtain ⟨a,t,p,r,rfl,ht,hd,hl,k⟩:=h
    refine ⟨_,(zab (zao (i:=2) (sc_q41).nd rfl (Or.inl rfl) (zaj G_q85 (hr.mono (by decide)) rfl T.F_q85.mg T.F_q85.fn.kp T.F_q85.b .nil zav (zaa (pv 0) (zaa (pv 1) (zaa (pe_r T.F_q0.mg) zac)))))
      (zab (zao (i:=3) (sc_q41).nd rfl (Or.inl rfl) (zaj G_q81 (hr.mono (by decide)) rfl T.F_q81.mg T.F_q81.fn.kp T.F_q81.b .nil zav (zaa (zd3 zjj (pv 0) (zct (zb8 zdi (pv 1) zai)) (zct (pv 2))) zac)))
      (zab (zbk (pw_orP (zvw zcr (pv 2) (zv1 rfl T.b_len (pv 0)) (zay _)) (pw_or1T (zvu (zvt (ztd G_q58 (hr.mono (by decide)) rfl T.F_q58.mg T.F_q58.fn.kp T.F_q58.b zav (zaa (pv 3) zac))))))
          (zae (zco T.X_q90 G_q90 (hr.mono (by decide)) rfl T.G_q90 T.b_q5 zb6 rfl (zaa zai (zaa (pv 1) zac)))) zau)
      (zae (zap (pv 3)))))),?_⟩
    dsimp! [zje,zb5,zc8];simp! [zje,zb5,zc8]
    refine ⟨t,ht,_,PD,bs t,ht,fun q hq=>?_⟩
    have e1:((t.drop p).takeWhile fun c=>c != 93)=91::r.takeWhile fun c=>c != 93:=by rw [hd];rfl
    have hp:=zd5 hd
    have hlen:=zoc hd (Nat.le_of_lt hp)
    rw [List.length_cons] at hlen
    have hm:=zmk (r.takeWhile fun c=>c != 93)
    have hmm:=zml (m:=r.takeWhile fun c=>c != 93)
    have htk:=zg0 (fun c=>c != 93) r
    have hle:=zf8 (fun c=>c != 93) r
    rw [e1,List.length_cons]
    generalize (r.takeWhile fun c=>c != 93)=m at k hm hmm htk hle ⊢
    have ec:cutV (bs t) (some ((p:Int)+1)) (some ((p+(m.length+1):Nat):Int))=bs m:=by
      have:=zfd t (p+1) (p+(m.length+1)) (by omega)
      rw [show ((p:Int)+1)=((p+1:Nat):Int) by omega,this,show p+(m.length+1) - (p+1)=m.length by omega,zr4 hd]
      show bs (r.take m.length)=_
      rw [htk]
    rw [ec]
    refine ⟨m,SqL.of zad,by omega,fun H' sm=>?_⟩
    have sm2:Same H H':=(Same.upd hq).trans sm
    refine ⟨bs t,sm2.seq ht,?_⟩
    rw [zc2]
    refine ite2 (fun h=>?_) fun h=>?_
    · rw [if_pos (.inl (by omega))] at k
      exact ⟨by decide,zcj (ExF.mono k sm2)⟩
    · refine ⟨m.map sgn,rfl,by rw [List.length_map];omega,fun H2 s2=>⟨_,rfl,?_⟩⟩
      rw [hm]
      cases q2:Vaunid.measureText (m.length+1) m with
      | false =>
        rw [if_pos (.inr q2)] at k
        exact iteT ⟨by decide,zcj (ExF.mono k (sm2.trans s2))⟩
      | true =>
        rw [if_neg (fun z=>z.elim (by omega) (by rw [q2];simp))] at k
        refine iteF ?_
        rw [hmm q2]
        exact k _ H2 (sm2.trans s2) rfl
noncomputable def zkl (Ca Ct C:Addr) (K:PySem.W.Frag):Sp:=fun vs H Q E=>∃ (a b:Addr) (t:List Nat) (p:Nat) (L:List (List Nat)),vs=[.ref a,.int (p:Int),.ref b]∧SqL K H a (bs t)∧p<t.length∧t.length≤10000∧GoodSigns L∧(∀ H,SqT K H b ((L.map S).map V.str)) ∧
  RES C H Q E (Vaunid.signToken L p (t.drop p)) (fun x v H'=>∃ b,v = .ref b∧zea Ca Ct H' b x.1)
theorem ok_q56 (T:TX w K mg):FnOk P w K mg base (CX1 P w) 3 T.f_q56 T.d_q56 ["text","begin","signs"] (zkl T.C_q87 T.C_q91 T.C_q90 K):=by
  have G_q90:=ok_q90 (P:=P) (w:=w) (base:=base) T
  have G_q91:=ok_q91 (P:=P) (w:=w) (base:=base) T
  have G_q81:=ok_q81 (P:=P) (w:=w) (base:=base) T
  refine T.F_q56.fn.okX sc_q56 (fun vs H Q E h=>?_) (fun cdv A outer s H vs Q E hr h=>?_)
  · obtain ⟨a,b,t,p,L,rfl,_⟩:=h
    rfl
  · obtain ⟨a,b,t,p,L,rfl,ht,hp,hl,hL,hb,k⟩:=h
    refine ⟨_,(zab (zao (i:=3) (sc_q56).nd rfl (Or.inl rfl) (zaj G_q81 (hr.mono (by decide)) rfl T.F_q81.mg T.F_q81.fn.kp T.F_q81.b .nil zav (zaa (zd3 zjj (pv 0) (zct (pv 1)) (zct (zb8 zdi (pv 1) zai))) zac)))
      (zab (zbk (zam zdo (pv 3) (pv 2) rfl) (zae (zao (i:=3) (sc_q56).nd rfl (Or.inl rfl) (zd3 zul (pv 3) zqw (zct zai)))) zau)
      (zab (zbk (zam zdo (pv 3) (pv 2) rfl) (zae (zco T.X_q90 G_q90 (hr.mono (by decide)) rfl T.G_q90 T.b_q5 zb6 rfl (zaa zai (zaa (pv 1) zac)))) zau)
      (zae (zap (zbu T.M_q91 G_q91 (hr.mono (by decide)) rfl T.G_q91 T.b_q7 .nil zav (zaa (pe_g T.g_q49) (zaa (pv 3) (zaa (pv 1) (zaa (zb8 zdi (pv 1) (za0 zbd rfl T.b_len PySem.boot_len (zaa (pv 3) zac))) (zaa (pv 3) zac))))))))))),?_⟩
    dsimp! [zb5,zc8];simp! [zb5,zc8]
    refine ⟨bs t,ht,fun q hq=>?_⟩
    have ec:cutV (bs t) (some (p:Int)) (some ((p:Int)+2))=bs ((t.drop p).take 2):=by
      have:=zfd t p (p+2) (by omega)
      rw [show ((p:Int)+2)=((p+2:Nat):Int) by omega,this,Nat.add_sub_cancel_left]
    rw [ec]
    refine ⟨(t.drop p).take 2,SqL.of zad,by rw [List.length_take];omega,fun H' sm=>?_⟩
    have sm2:Same H H':=(Same.upd hq).trans sm
    unfold Vaunid.signToken at k
    rw [zpd hL] at k
    unfold zqh at k
    have et:((t.drop p).take 2).take 1=(t.drop p).take 1:=by rw [List.take_take];rfl
    have ec2:cutS (S (((t.drop p).take 2).map sgn)) none (some 1)=S (((t.drop p).take 1).map sgn):=by
      have:=zyj (((t.drop p).take 2).map sgn) 1
      rw [← List.map_take,et] at this
      exact this
    have l2:(((t.drop p).take 2).map sgn).length≤sizeLine:=by
      rw [List.length_map,List.length_take]
      exact Nat.le_trans (Nat.min_le_left _ _) (by decide)
    rw [ec2]
    have plain : ∀ {x},x∈L→x.map sgn=x:=fun hx=>zft fun c hc=>(hL.plain _ hx c hc).1
    generalize (t.drop p).take 2=s2 at k l2 ⊢
    generalize (t.drop p).take 1=s1 at k ⊢
    have inL : ∀ l:List Nat,inV (.str (S (l.map sgn))) ((L.map S).map V.str)=decide (l∈L):=fun l=>by
      rw [in_S,decide_eq_decide]
      exact zwd hL l
    refine ⟨_,.inr (hb H'),rfl,flat_strs _,?_⟩
    rw [inL]
    by_cases m2:s2∈L
    · rw [if_pos m2] at k
      rw [decide_eq_true m2]
      refine iteF ⟨_,.inr (hb H'),rfl,flat_strs _,?_⟩
      rw [inL,decide_eq_true m2]
      refine iteF ?_
      rw [plain m2]
      dsimp! [zbx,zbt];simp! [zbx,zbt,zbd]
      refine ⟨by rw [← plain m2];exact l2,fun x dx hx hdx hne=>?_⟩
      refine k _ _ (sm2.trans (zbi hx hdx)) ⟨x,rfl,dx,.str (S s2),?_,rfl⟩
      rw [zad]
      rfl
    · rw [if_neg m2] at k
      rw [decide_eq_false m2]
      refine iteT ⟨l2,_,.inr (hb H'),rfl,flat_strs _,?_⟩
      rw [inL]
      by_cases m1:s1∈L
      · rw [if_pos m1] at k
        rw [decide_eq_true m1]
        refine iteF ?_
        rw [plain m1]
        dsimp! [zbx,zbt];simp! [zbx,zbt,zbd]
        refine ⟨?_,fun x dx hx hdx hne=>?_⟩
        · have:s1.length=1∨s1.length=2:=by
            obtain ⟨L2,L1,rfl,h2,h1⟩:=hL.parts
            rcases List.mem_append.mp m1 with z | z
            · exact .inr (h2 _ z)
            · exact .inl (h1 _ z)
          exact Nat.le_trans (show s1.length≤2 by omega) (by decide)
        · refine k _ _ (sm2.trans (zbi hx hdx)) ⟨x,rfl,dx,.str (S s1),?_,rfl⟩
          rw [zad]
          rfl
      · rw [if_neg m1] at k
        rw [decide_eq_false m1]
        exact iteT ⟨by decide,zcj (ExF.mono k sm2)⟩
noncomputable def zsz (Ca Ct C:Addr) (K:PySem.W.Frag):Sp:=fun vs H Q E=>∃ (a:Addr) (t:List Nat) (p d c:Nat) (r:List Nat) (neg:Bool),vs=[.ref a,.int (p:Int),.int (d:Int)]∧SqL K H a (bs t)∧t.length≤10000∧d=p+(if neg=true then 1 else 0) ∧
  t.drop d=c::r∧Vaunid.isDigit c=true∧RES C H Q E (Vaunid.numberToken neg p (t.drop p)) (fun x v H'=>∃ b,v = .ref b∧zea Ca Ct H' b x.1)
theorem ok_q19 (T:TX w K mg):FnOk P w K mg base (CX1 P w) 7 T.f_q19 T.d_q19 ["text","begin","digits"] (zsz T.C_q87 T.C_q91 T.C_q90 K):=by
  have G_q90:=ok_q90 (P:=P) (w:=w) (base:=base) T
  have G_q91:=ok_q91 (P:=P) (w:=w) (base:=base) T
  have G_q81:=ok_q81 (P:=P) (w:=w) (base:=base) T
  have G_q46:=ok_q46 (P:=P) (w:=w) (base:=base) T
  have G_q32:=ok_q32 (P:=P) (w:=w) (base:=base) T
  have G_q41:=ok_q41 (P:=P) (w:=w) (base:=base) T
  have G_q78:=ok_q78 (P:=P) (w:=w) (base:=base) T
  have G_q84:=ok_q84 (P:=P) (w:=w) (base:=base) T
  refine T.F_q19.fn.okX sc_q19 (fun vs H Q E h=>?_) (fun cdv A outer s H vs Q E hr h=>?_)
  · obtain ⟨a,t,p,d,c,r,neg,rfl,_⟩:=h
    rfl
  · obtain ⟨a,t,p,d,c,r,neg,rfl,ht,hl,hd,hdr,hc,k⟩:=h
    refine ⟨_,(zab (zao (i:=3) (sc_q19).nd rfl (Or.inl rfl) (zaj G_q46 (hr.mono (by decide)) rfl T.F_q46.mg T.F_q46.fn.kp T.F_q46.b .nil zav (zaa (pv 0) (zaa (pv 2) zac))))
      (zab (zao (i:=4) (sc_q19).nd rfl (Or.inl rfl) (zaj G_q32 (hr.mono (by decide)) rfl T.F_q32.mg T.F_q32.fn.kp T.F_q32.b .nil zav (zaa (zaj G_q81 (hr.mono (by decide)) rfl T.F_q81.mg T.F_q81.fn.kp T.F_q81.b .nil zav (zaa (zd3 zjj (pv 0) (zct (pv 2)) (zct (pv 3))) zac)) zac)))
      (zab (zbk (zus (zxu (pv 4))) (zae (zco T.X_q90 G_q90 (hr.mono (by decide)) rfl T.G_q90 T.b_q5 zb6 rfl (zaa zai (zaa (pv 1) zac)))) zau)
      (zab (zbk (PW.pt (pw_and (zam zor (pv 3) (za0 zbe rfl T.b_len PySem.boot_len (zaa (pv 0) zac)) (zay _)) (pw_and1 (zam zcr (zbw zbm (pv 0) (pv 3) (fun _ _=>rfl)) (pe_g T.g_q16) (zay _))))) (zab (zao (i:=5) (sc_q19).nd rfl (Or.inl rfl) (zaj G_q41 (hr.mono (by decide)) rfl T.F_q41.mg T.F_q41.fn.kp T.F_q41.b .nil za5 (zaa (pv 0) (zaa (pv 3) zac))))
      (zab (zao (i:=4) (sc_q19).nd rfl (Or.inl rfl) (zaj G_q78 (hr.mono (by decide)) rfl T.F_q78.mg T.F_q78.fn.kp T.F_q78.b .nil zav (zaa (pv 4) (zaa (pv 5) zac))))
      (zae (zao (i:=3) (sc_q19).nd rfl (Or.inl rfl) (zb8 zdi (zb8 zdi (pv 3) (za0 zbd rfl T.b_len PySem.boot_len (zaa (pv 5) zac))) zai))))) zau)
      (zab (zbk (zam zor (pv 1) (pv 2) (zay _)) (zae (zao (i:=4) (sc_q19).nd rfl (Or.inl rfl) (zaj G_q84 (hr.mono (by decide)) rfl T.F_q84.mg T.F_q84.fn.kp T.F_q84.b .nil zav (zaa (pv 4) zac)))) zau)
      (zab (zao (i:=6) (sc_q19).nd rfl (Or.inl rfl) (ze2 (zam zcr (zb8 znw (pv 3) (pv 2)) zai (zay _)) zax zax))
      (zae (zap (zbu T.M_q91 G_q91 (hr.mono (by decide)) rfl T.G_q91 T.b_q7 .nil zav (zaa (pe_g T.g_q21) (zaa (pv 6) (zaa (pv 1) (zaa (pv 3) (zaa (pv 4) zac)))))))))))))),?_⟩
    have es:(if neg=true then (t.drop p).drop 1 else t.drop p)=t.drop d:=by
      cases neg with
      | false=>rw [hd];rfl
      | true=>rw [hd,if_pos rfl,List.drop_drop];rfl
    unfold Vaunid.numberToken at k
    dsimp only at k
    rw [es] at k
    obtain ⟨hrest,hsz⟩:=zjt (t.drop d)
    have hpos:=zrb hdr hc
    obtain ⟨b2,c2,sp1,sp2,sp3,sp4⟩:=zq9 (t.drop d)
    have hdlt:=zd5 hdr
    generalize hx:Vaunid.numberText (t.drop d)=x at k hrest hsz hpos sp1 sp3
    obtain ⟨n,o,rest⟩:=x
    dsimp only at k hrest hsz hpos sp1 sp3
    rw [List.length_drop] at hsz sp4
    refine zhg (fun σ' H'=>Same H H'∧σ'=[some (.ref a),some (.int (p:Int)),some (.int (d:Int)),some (.int ((d+n:Nat):Int)),none,none,none]) (fun X hX=>?_) ?_
    · dsimp! [zjf];simp! [zjf]
      refine ⟨t,ht,by omega,fun H' sm=>?_⟩
      rw [hx]
      exact hX _ _ ⟨sm,rfl⟩
    rintro σ' H1 ⟨sm1,rfl⟩
    have ht1:=sm1.seq ht
    refine zhg (fun σ' H'=>Same H H'∧∃ am,σ'=[some (.ref a),some (.int (p:Int)),some (.int (d:Int)),some (.int ((d+n:Nat):Int)),some am,none,none]∧(match o with | none=>am = .non | some (tp,lw)=>∃ b,am = .ref b∧zbh T.C_q87 H' b (tp:Int) (lw:Int) [])) (fun X hX=>?_) ?_
    · dsimp! [zc8];simp! [zc8]
      refine ⟨bs t,ht1,fun q hq=>?_⟩
      rw [zfd t d (d+n) (by omega),Nat.add_sub_cancel_left]
      refine ⟨_,SqL.of zad,by rw [List.length_take];omega,fun H2 s2=>?_⟩
      have sm2:Same H H2:=sm1.trans ((Same.upd hq).trans s2)
      rw [sp1]
      have hall:=zg1 (p:=Vaunid.isDigit) (t.drop d)
      have hpl:((t.drop d).takeWhile Vaunid.isDigit++(if c2=0 then [] else c2::b2)).map sgn=(t.drop d).takeWhile Vaunid.isDigit++(if c2=0 then [] else c2::b2):=zft fun y hy=>by
        rcases List.mem_append.mp hy with z | z
        · have:=zfc (hall y z);omega
        · rcases sp2 with ⟨rfl,rfl⟩ | ⟨h46,_,hbd⟩
          · simp at z
          · rw [if_neg (by omega)] at z
            rcases List.mem_cons.mp z with z | z
            · omega
            · have:=zfc (hbd y z);omega
      rw [hpl]
      refine ⟨_,b2,c2,rfl,hall,?_,by omega,sp2,?_⟩
      · rw [hdr,List.takeWhile_cons,hc]
        simp
      · rw [← sp3]
        cases o with
        | none=>exact fun H3 s3=>hX _ _ ⟨sm2.trans s3,.non,rfl,rfl⟩
        | some tp=>exact fun b H3 s3 hb=>hX _ _ ⟨sm2.trans s3,.ref b,rfl,b,rfl,hb⟩
    rintro σ' H2 ⟨sm2,am,rfl,ham⟩
    have ht2:=sm2.seq ht
    cases o with
    | none =>
      subst ham
      dsimp! [zb5];simp! [zb5]
      exact ⟨by decide,zcj (ExF.mono k sm2)⟩
    | some tl =>
      obtain ⟨tp,lw⟩:=tl
      obtain ⟨b,rfl,hb⟩:=ham
      dsimp only at k
      refine zhg (fun σ' H'=>H'=H2∧σ'=[some (.ref a),some (.int (p:Int)),some (.int (d:Int)),some (.int ((d+n:Nat):Int)),some (.ref b),none,none]) (fun X hX=>?_) ?_
      · dsimp! [zb5];simp! [zb5]
        exact hX _ _ ⟨rfl,rfl⟩
      rintro σ' H2' ⟨rfl,rfl⟩
      have hrest':rest=t.drop (d+n):=by rw [hrest,List.drop_drop]
      have hpd:p+(n+if neg=true then 1 else 0)=d+n:=by omega
      rw [hpd] at k
      refine zhg (fun σ' H'=>Same H H'∧∃ (am:Addr) (m:Option (List Nat)) (e:Nat) (dg:Option Int) (mz:Option V),σ'=[some (.ref a),some (.int (p:Int)),some (.int (d:Int)),some (.int (e:Int)),some (.ref am),mz,none]∧zbh T.C_q87 H' am (tp:Int) (lw:Int) (m.getD [])∧(dg.isSome=decide (e=d+1))∧d<e ∧
          (∀ v H',Same H H'→(∃ b,v = .ref b∧zea T.C_q87 T.C_q91 H' b { tok := .num { top:=if neg=true then -(tp:Int) else (tp:Int),low:=lw,measure:=m } dg,start:=p,halt_:=e })→Q v H')) (fun X hX=>?_) ?_
      · dsimp! [];simp! []
        refine ⟨bs t,.inl ht2,?_⟩
        rw [zc2]
        have nomeas:(∀ r2,rest≠91::r2)→X [some (.ref a),some (.int (p:Int)),some (.int (d:Int)),some (.int ((d+n:Nat):Int)),some (.ref b),none,none] H2':=fun hno=>by
          refine hX _ _ ⟨sm2,b,none,d+n,(if n=1 then some (if neg=true then -(tp:Int) else (tp:Int)) else none),none,rfl,hb,?_,by omega,?_⟩
          · by_cases h1:n=1
            · subst h1
              simp
            · rw [if_neg h1,decide_eq_false (by omega)]
              rfl
          · split at k
            · exact absurd rfl (hno _)
            · exact fun v H' s' q=>k v H' s' q
        refine ite2 (fun hlt=>?_) fun hlt=>nomeas fun r2 z=>?_
        · have hlt':d+n<t.length:=by omega
          have hg1:t[d+n]? = some t[d+n]:=List.getElem?_eq_getElem hlt'
          have hd1:=zfx hg1
          generalize t[d+n]=c3 at hg1 hd1
          refine ⟨bs t,ht2,_,zce (zf6 hg1),rfl,ite2 (fun h=>?_) fun h=>nomeas fun r2 z=>?_⟩
          · have hc3:c3=91:=by injection h with h;omega
            subst hc3
            rw [← hrest'] at hd1
            rw [hd1] at k
            change RES T.C_q90 H Q E (if _∨_ then _ else _) _ at k
            refine ⟨a,t,d+n,_,rfl,ht2,by rw [← hrest'];exact hd1,hl,?_⟩
            generalize t.drop (d+n+1)=r2 at k hd1 ⊢
            by_cases hbad:(r2.takeWhile fun c=>c != 93).length=r2.length∨Vaunid.measureText ((r2.takeWhile fun c=>c != 93).length+1) (r2.takeWhile fun c=>c != 93)=false
            · rw [if_pos hbad] at k ⊢
              exact ExF.mono k sm2
            · rw [if_neg hbad] at k ⊢
              rintro v H3 s3 rfl
              dsimp! [zfn];simp! [zfn]
              refine ⟨_,_,_,_,rfl,hb.same s3,fun b3 H4 s4 hb4=>⟨?_,?_⟩⟩
              · have h1:=zf8 (fun c=>c != 93) r2
                have h2:=zd5 (hrest'.symm.trans hd1)
                have h3:=zoc (hrest'.symm.trans hd1) (Nat.le_of_lt h2)
                rw [List.length_cons] at h3
                exact Nat.le_trans (show _≤10000 by omega) (by decide)
              · refine hX _ _ ⟨sm2.trans (s3.trans s4),b3,some (r2.takeWhile fun c=>c != 93),d+n+(r2.takeWhile fun c=>c != 93).length+2,none,_,rfl,hb4,?_,by omega,?_⟩
                · rw [decide_eq_false (by omega)]
                  rfl
                · exact fun v H' s' q=>k v H' s' q
          · rw [hrest',hd1] at z
            cases z
            exact h rfl
        · rw [hrest'] at z
          exact absurd (zd5 z) (by omega)
      rintro σ' H3 ⟨sm3,am,m,e,dg,mz,rfl,ham,hdg,hde,k⟩
      refine zhg (fun σ' H'=>Same H H'∧∃ (am:Addr) (mz:Option V),σ'=[some (.ref a),some (.int (p:Int)),some (.int (d:Int)),some (.int (e:Int)),some (.ref am),mz,none]∧zbh T.C_q87 H' am (if neg=true then -(tp:Int) else (tp:Int)) (lw:Int) (m.getD [])) (fun X hX=>?_) ?_
      · dsimp! [zhd];simp! [zhd]
        refine ite2 (fun h=>?_) fun h=>?_
        · have hn:neg=true:=by
            cases neg with
            | true=>rfl
            | false=>simp at hd;omega
          rw [if_pos hn] at hX
          exact ⟨_,_,_,ham,fun b4 H4 s4 hb4=>hX _ _ ⟨sm3.trans s4,_,_,rfl,hb4⟩⟩
        · have hn:neg=false:=by
            cases neg with
            | false=>rfl
            | true=>simp at hd;omega
          rw [if_neg (by rw [hn];simp)] at hX
          exact hX _ _ ⟨sm3,_,_,rfl,ham⟩
      rintro σ' H4 ⟨sm4,am,mz,rfl,ham⟩
      dsimp! [zbx,zbt];simp! [zbx,zbt]
      refine ite2 (fun h=>?_) fun h=>?_
      · intro x dx hx hdx hne
        refine k _ _ (sm4.trans (zbi hx hdx)) ⟨x,rfl,dx,.ref am,?_,am,rfl,ham.same (zbi hx hdx)⟩
        rw [zad]
        have hk:kindOf (.num { top:=if neg=true then -(tp:Int) else (tp:Int),low:=lw,measure:=m } dg)=Vaunid.txt "digit":=if_pos (by rw [hdg];exact decide_eq_true (by omega))
        show _=some (HO.ins T.C_q91 dx (zga 1 (S (kindOf (.num _ dg))) _ _ _))
        rw [hk,← zbs]
        rfl
      · intro x dx hx hdx hne
        refine k _ _ (sm4.trans (zbi hx hdx)) ⟨x,rfl,dx,.ref am,?_,am,rfl,ham.same (zbi hx hdx)⟩
        rw [zad]
        have hk:kindOf (.num { top:=if neg=true then -(tp:Int) else (tp:Int),low:=lw,measure:=m } dg)=Vaunid.txt "number":=if_neg (by rw [hdg,decide_eq_true_eq];omega)
        show _=some (HO.ins T.C_q91 dx (zga 1 (S (kindOf (.num _ dg))) _ _ _))
        rw [hk,← zbs]
        rfl
noncomputable def zxd (core:Bool) (Ca Ct C:Addr) (K:PySem.W.Frag):Sp:=fun vs H Q E=>∃ (a:Addr) (t:List Nat) (p:Nat),vs=[.ref a,.int (p:Int)]∧SqL K H a (bs t)∧p<t.length∧t.length≤10000 ∧
  RES C H Q E (Vaunid.token core p (t.drop p)) (fun x v H'=>∃ b,v = .ref b∧zea Ca Ct H' b x.1)
theorem ok_q22 (T:TX w K mg):FnOk P w K mg base (CX1 P w) 5 T.f_q22 T.d_q22 ["text","place"] (zxg true T.C_q90 K):=by
  have G_q85:=ok_q85 (P:=P) (w:=w) (base:=base) T
  have G_q74:=ok_q74 (P:=P) (w:=w) (base:=base) T
  have PD:zsn P w K mg base 2 T.f_q74 (fun c=>c == 32):=⟨_,_,G_q74.mono (by decide),T.F_q74.b,T.F_q74.fn.kp⟩
  refine T.F_q22.fn.okX sc_q22 (fun vs H Q E h=>?_) (fun cdv A outer s H vs Q E hr h=>?_)
  · obtain ⟨a,t,p,rfl,_⟩:=h
    rfl
  · obtain ⟨a,t,p,rfl,ht,hp,k⟩:=h
    refine ⟨_,(zae (zap (zaj G_q85 (hr.mono (by decide)) rfl T.F_q85.mg T.F_q85.fn.kp T.F_q85.b .nil zav (zaa (pv 0) (zaa (pv 1) (zaa (pe_r T.F_q74.mg) zac)))))),?_⟩
    dsimp! [zje];simp! [zje]
    refine ⟨t,ht,_,PD,?_⟩
    rw [ziw] at k
    exact k _ H (Same.refl H) rfl
theorem zmj {t:List Nat}{p c:Nat} (hd:t.drop p=c::t.drop (p+1)):(Vaunid.minusDigit (t.drop p)=true)↔(c=45∧∃ d r,t.drop (p+1)=d::r∧Vaunid.isDigit d=true):=by
  rw [hd]
  unfold Vaunid.minusDigit
  constructor
  · intro h
    split at h
    · rename_i d r e
      injection e with e1 e2
      exact ⟨e1,d,r,e2,h⟩
    · cases h
  · rintro ⟨rfl,d,r,e,h⟩
    rw [e]
    exact h
theorem ok_q54 (T:TX w K mg):FnOk P w K mg base (CX1 P w) 8 T.f_q54 T.d_q54 ["text","begin"] (zxd true T.C_q87 T.C_q91 T.C_q90 K):=by
  have G_q69:=ok_q69 (P:=P) (w:=w) (base:=base) T
  have G_q72:=ok_q72 (P:=P) (w:=w) (base:=base) T
  have G_q47:=ok_q47 (P:=P) (w:=w) (base:=base) T
  have G_q19:=ok_q19 (P:=P) (w:=w) (base:=base) T
  have G_q56:=ok_q56 (P:=P) (w:=w) (base:=base) T
  refine T.F_q54.fn.okX sc_q54 (fun vs H Q E h=>?_) (fun cdv A outer s H vs Q E hr h=>?_)
  · obtain ⟨a,t,p,rfl,_⟩:=h
    rfl
  · obtain ⟨a,t,p,rfl,ht,hp,hl,k⟩:=h
    refine ⟨_,(zab (zbk (ze0 (zaj G_q69 (hr.mono (by decide)) rfl T.F_q69.mg T.F_q69.fn.kp T.F_q69.b .nil zav (zaa (zbw zbm (pv 0) (pv 1) (fun _ _=>rfl)) zac))) (zae (zap (zaj G_q47 (hr.mono (by decide)) rfl T.F_q47.mg T.F_q47.fn.kp T.F_q47.b .nil za5 (zaa (pv 0) (zaa (pv 1) zac))))) zau)
      (zab (zao (i:=2) (sc_q54).nd rfl (Or.inl rfl) (ze2 (zam zcr (zbw zbm (pv 0) (pv 1) (fun _ _=>rfl)) (pe_g T.g_q89) (zay _)) (zb8 zdi (pv 1) zai) (pv 1)))
      (zab (zbk (PW.pt (pw_and (zam zor (pv 2) (za0 zbe rfl T.b_len PySem.boot_len (zaa (pv 0) zac)) (zay _)) (pw_and1 (ze0 (zaj G_q72 (hr.mono (by decide)) rfl T.F_q72.mg T.F_q72.fn.kp T.F_q72.b .nil zav (zaa (zbw zbm (pv 0) (pv 2) (fun _ _=>rfl)) zac)))))) (zae (zap (zaj G_q19 (hr.mono (by decide)) rfl T.F_q19.mg T.F_q19.fn.kp T.F_q19.b .nil za5 (zaa (pv 0) (zaa (pv 1) (zaa (pv 2) zac)))))) zau)
      (zae (zap (zaj G_q56 (hr.mono (by decide)) rfl T.F_q56.mg T.F_q56.fn.kp T.F_q56.b .nil za5 (zaa (pv 0) (zaa (pv 1) (zaa (pe_r T.g_q62) zac))))))))),?_⟩
    dsimp! [];simp! []
    have hg1:t[p]? = some t[p]:=List.getElem?_eq_getElem hp
    have hd1:=zfx hg1
    generalize t[p]=c at hg1 hd1
    have md:=zmj hd1
    rw [hd1] at k
    unfold Vaunid.token at k
    dsimp only at k
    rw [← hd1] at k
    refine ⟨bs t,ht,_,zce (zf6 hg1),?_⟩
    dsimp! [spB];simp! [spB]
    refine zdc (fun h=>?_) fun h=>⟨bs t,ht,_,zce (zf6 hg1),?_⟩
    · rw [if_pos h] at k
      exact ⟨a,t,p,rfl,ht,Nat.le_of_lt hp,hl,k⟩
    · rw [if_neg (by rw [h];simp)] at k
      have signs : ¬ Vaunid.isDigit c=true→¬ Vaunid.minusDigit (t.drop p)=true→zkl T.C_q87 T.C_q91 T.C_q90 K [.ref a,.int (p:Int),.ref T.a_q62] H Q E:=fun h2 h3=>by
        rw [if_neg h2,if_neg (fun z=>h3 z.2)] at k
        refine ⟨a,_,t,p,Vaunid.coreSigns,rfl,ht,hp,hl,zrt,fun H'=>?_,k⟩
        rw [← zsb]
        exact T.t_q62 H'
      dsimp! [spB];simp! [spB]
      refine ite2 (fun h45=>?_) fun h45=>?_
      · have e45:c=45:=by omega
        subst e45
        refine ⟨bs t,.inl ht,?_⟩
        rw [zc2]
        refine ite2 (fun h2=>?_) fun h2=>?_
        · have h2':p+1<t.length:=by omega
          have hg2:t[p+1]? = some t[p+1]:=List.getElem?_eq_getElem h2'
          have hd2:=zfx hg2
          generalize t[p+1]=d at hg2 hd2
          refine ⟨bs t,ht,_,zce (zf6 hg2),?_⟩
          dsimp! [spB];simp! [spB]
          refine zdc (fun h3=>?_) fun h3=>?_
          · rw [if_neg (by decide),if_pos ⟨rfl,md.mpr ⟨rfl,d,_,hd2,h3⟩⟩] at k
            exact ⟨a,t,p,p+1,d,_,true,rfl,ht,hl,rfl,hd2,h3,k⟩
          · exact signs (by decide) (fun z=>by
              obtain ⟨_,d',r',e1,e2⟩:=md.mp z
              rw [hd2] at e1
              cases e1
              rw [h3] at e2
              cases e2)
        · exact signs (by decide) (fun z=>by
            obtain ⟨_,d',r',e1,e2⟩:=md.mp z
            rw [List.drop_eq_nil_of_le (by omega)] at e1
            cases e1)
      · have e45 : ¬ c=45:=by omega
        refine ⟨bs t,.inl ht,?_⟩
        rw [zc2]
        refine ite2 (fun h2=>?_) fun h2=>?_
        · refine ⟨bs t,ht,_,zce (zf6 hg1),?_⟩
          dsimp! [spB];simp! [spB]
          refine zdc (fun h3=>?_) fun h3=>?_
          · rw [if_pos h3] at k
            exact ⟨a,t,p,p,c,_,false,rfl,ht,hl,rfl,hd1,h3,k⟩
          · exact signs (by rw [h3];simp) (fun z=>e45 (md.mp z).1)
        · omega
end
set_option maxHeartbeats 2000000
section
variable {P:Program}{w:World}{K:PySem.W.Frag}{mg:Str→Option Value}{base:Heap}
noncomputable def GapF (P:Program) (w:World) (K:PySem.W.Frag) (mg:Str→Option Value) (base:Heap) (k:Nat) (C f:Addr) (core:Bool):Prop:=∃ fd ps,FnOk P w K mg base (CX1 P w) k f fd ps (zxg core C K)∧zb4 K fd ps []∧PySem.W.keepIn K (.ref f)=true
noncomputable def TokF (P:Program) (w:World) (K:PySem.W.Frag) (mg:Str→Option Value) (base:Heap) (k:Nat) (Ca Ct C f:Addr) (core:Bool):Prop:=∃ fd ps,FnOk P w K mg base (CX1 P w) k f fd ps (zxd core Ca Ct C K)∧zb4 K fd ps []∧PySem.W.keepIn K (.ref f)=true
noncomputable def znn (Ca Ct:Addr) (l:List Vaunid.Token) (v:V) (H:Hp):Prop:=∃ (b:Addr) (as:List Addr),v = .ref b∧H b=some (.lst (as.map V.ref))∧zdj Ca Ct H as l
noncomputable def zqd (P:Program) (w:World) (K:PySem.W.Frag) (mg:Str→Option Value) (base:Heap) (Ca Ct C:Addr):Sp:=fun vs H Q E=>∃ (a f g:Addr) (t:List Nat) (core:Bool),vs=[.ref a,.ref f,.ref g]∧SqL K H a (bs t)∧t.length≤10000∧GapF P w K mg base 8 C f core∧TokF P w K mg base 8 Ca Ct C g core ∧
  RES C H Q E (zf9 core 0 t) (znn Ca Ct)
theorem ok_q4 (T:TX w K mg):FnOk P w K mg base (CX1 P w) 9 T.f_q4 T.d_q4 ["text","gap_end","token_at"] (zqd P w K mg base T.C_q87 T.C_q91 T.C_q90):=by
  refine T.F_q4.fn.okX sc_q4 (fun vs H Q E h=>?_) (fun cdv A outer s H vs Q E hr h=>?_)
  · obtain ⟨a,f,g,t,core,rfl,_⟩:=h
    rfl
  · obtain ⟨a,f,g,t,core,rfl,ht,hl,⟨fd1,ps1,F1,b1,k1⟩,⟨fd2,ps2,F2,b2,k2⟩,k⟩:=h
    refine ⟨_,(zab (zao (i:=3) (sc_q4).nd rfl (Or.inl rfl) (zb2 zac))
      (zab (zao (i:=4) (sc_q4).nd rfl (Or.inl rfl) (zd4 (CX:=CX1 P w) (k:=8) 1 (hr.mono (by decide)) za5 (zaa (pv 0) (zaa zai zac))))
      (zab (zd2 znv (zam zor (pv 4) (za0 zbe rfl T.b_len PySem.boot_len (zaa (pv 0) zac)) (zay _)) (zab (zao (i:=5) (sc_q4).nd rfl (Or.inl rfl) (zd4 (CX:=CX1 P w) (k:=8) 2 (hr.mono (by decide)) za5 (zaa (pv 0) (zaa (pv 4) zac))))
      (zab (zbq (ze3 PySem.F.plainAttrs_list PySem.F.slot_list_append PySem.F.type_list_append zbj (pv 3) (zaa (pv 5) zac)))
      (zae (zao (i:=4) (sc_q4).nd rfl (Or.inl rfl) (zd4 (CX:=CX1 P w) (k:=8) 1 (hr.mono (by decide)) za5 (zaa (pv 0) (zaa (zan (pv 5) rfl) zac))))))))
      (zae (zap (pv 3)))))),?_⟩
    dsimp! [zdm];simp! [zdm]
    refine ⟨Nat.zero_le _,fun b hb=>⟨fd1,ps1,_,F1,b1,k1,a,t,0,rfl,(Same.upd hb).seq ht,Nat.zero_le _,?_⟩⟩
    rw [List.drop_zero]
    cases q0:gapT core 0 t with
    | error e =>
      rw [zfk,q0] at k
      exact ExF.mono k (Same.upd hb)
    | ok x =>
      obtain ⟨g1,g2,g3⟩:=zgp core _ _ _ _ q0
      rw [Nat.sub_zero] at g3
      rw [Nat.zero_add] at g2
      rintro v H1 s1 rfl
      have hk0:zf9 core 0 t=preR [] (za8 core (x.1,t.drop x.1)):=by
        rw [zfk,q0]
        show za8 core x=_
        rw [← g3]
        show za8 core (x.1,x.2)=_
        cases za8 core (x.1,x.2) <;> rfl
      obtain ⟨Pv,hPv⟩ : ∃ Pv:Nat→L2.St→Hp→Prop,Pv=fun m σ H'=>Same H H'∧∃ (q:Nat) (as:List Addr) (l:List Vaunid.Token) (z:Option V),m=t.length - q∧q≤t.length∧as.length≤q∧σ=[some (.ref a),some (.ref f),some (.ref g),some (.ref b),some (.int (q:Int)),z] ∧
        H' b=some (.lst (as.map V.ref))∧zdj T.C_q87 T.C_q91 H' as l∧zf9 core 0 t=preR l (za8 core (q,t.drop q)):=⟨_,rfl⟩
      refine zfi Pv _ (by rw [hPv];exact ⟨(Same.upd hb).trans s1,x.1,[],[],none,rfl,g2,Nat.zero_le _,rfl,s1 _ _ zad,.nil,hk0⟩) fun m σ H' hp=>?_
      rw [hPv] at hp
      obtain ⟨sm,q,as,l,z,rfl,hq,hal,rfl,hbl,hto,hk⟩:=hp
      have ht':=sm.seq ht
      dsimp! [zdm];simp! [zdm]
      refine ⟨bs t,.inl ht',?_⟩
      rw [zc2]
      refine ite2 (fun hlt=>?_) fun hlt=>?_
      · have hlt':q<t.length:=by omega
        have hg1:t[q]? = some t[q]:=List.getElem?_eq_getElem hlt'
        have hd1:=zfx hg1
        generalize t[q]=c at hg1 hd1
        refine ⟨_,fun _ _ z=>z,fd2,ps2,_,F2,b2,k2,a,t,q,rfl,ht',hlt',hl,?_⟩
        cases qt:Vaunid.token core q (t.drop q) with
        | error e =>
          have e1:zf9 core 0 t = .error e:=by
            rw [hk]
            unfold za8
            rw [hd1] at qt
            rw [hd1]
            dsimp only
            rw [qt]
            rfl
          rw [e1] at k
          exact ExF.mono k sm
        | ok y =>
          obtain ⟨kt,rest⟩:=y
          have tf:=zcv qt
          have hhl:kt.halt_≤t.length:=by have:=tf.le;rw [List.length_drop] at this;omega
          have hqh:q<kt.halt_:=tf.lt
          have hrest:rest=t.drop kt.halt_:=by rw [tf.rest,List.drop_drop];congr 1;omega
          rintro v H2 s2 ⟨bt,rfl,htk⟩
          have hk2:zf9 core 0 t=preR l (match gapT core kt.halt_ (t.drop kt.halt_) with | .error e => .error e | .ok y=>preR [kt] (za8 core y)):=by
            rw [hk]
            congr 1
            have e2:za8 core (q,t.drop q)=(match zf9 core kt.halt_ rest with | .error e => .error e | .ok l => .ok (kt::l)):=by
              unfold za8
              rw [hd1] at qt ⊢
              dsimp only
              rw [qt] <;> rfl
            rw [e2,hrest,zfk]
            cases gapT core kt.halt_ (t.drop kt.halt_) with
            | error e=>rfl
            | ok y =>
              show (match za8 core y with | .error e => .error e | .ok l => .ok (kt::l))=preR [kt] (za8 core y)
              cases za8 core y <;> rfl
          dsimp! [tBM,za7,tFld,zdm];simp! [tBM,za7,tFld,zdm]
          have hbl2:=s2 _ _ hbl
          obtain ⟨dt,ct,hins,hcont⟩:=htk
          have nbt:bt≠b:=zci hins hbl2 (by intro z;cases z)
          have sI:zge H2 (upd H2 b (.lst (as.map V.ref++[.ref bt]))):=zge.lst hbl2
          have sH:Same H (upd H2 b (.lst (as.map V.ref++[.ref bt]))):=fun c o e=>by
            rw [zah (zag e hb)]
            exact s2 _ _ (sm _ _ e)
          refine ⟨.inl ⟨rfl,_,SqL.of hbl2⟩,_,hbl2,?_,?_⟩
          · rw [List.length_map]
            exact Nat.lt_of_le_of_lt (show as.length≤10000 by omega) (by decide)
          · refine ⟨fd1,ps1,_,F1,b1,k1,T.C_q91,dt,_,by rw [zah nbt];exact hins,T.cl_q91,T.n_q70,_,rfl,a,t,kt.halt_,rfl,sH.seq ht,hhl,?_⟩
            cases qg:gapT core kt.halt_ (t.drop kt.halt_) with
            | error e =>
              rw [qg] at hk2
              rw [hk2] at k
              exact ExF.mono k sH
            | ok y =>
              obtain ⟨g1,g2,g3⟩:=zgp core _ _ _ _ qg
              rw [List.length_drop] at g2
              rintro v H3 s3 rfl
              refine ⟨t.length - y.1,by omega,?_⟩
              rw [hPv]
              refine ⟨sH.trans s3,y.1,as++[bt],l++[kt],_,rfl,by omega,by rw [List.length_append,List.length_singleton];omega,rfl,?_,?_,?_⟩
              · rw [List.map_append]
                exact s3 _ _ zad
              · exact zdj.snoc (zdj.sameI hto ((Same.insts s2).trans (sI.trans (Same.insts s3)))) (zea.sameI ⟨dt,ct,hins,hcont⟩ (sI.trans (Same.insts s3)))
              · rw [hk2,qg]
                dsimp only
                have e3:y=(y.1,t.drop y.1):=by
                  have:y.2=t.drop y.1:=by rw [g3,List.drop_drop];congr 1;omega
                  rw [← this]
                rw [← e3]
                cases za8 core y with
                | error e=>rfl
                | ok l2 =>
                  show Except.ok _=Except.ok _
                  rw [List.append_assoc]
      · have e0:t.drop q=[]:=List.drop_eq_nil_of_le (by omega)
        rw [e0] at hk
        have e1:zf9 core 0 t = .ok l:=by
          rw [hk]
          show Except.ok (l++[])=_
          rw [List.append_nil]
        rw [e1] at k
        exact k _ H' sm ⟨b,as,rfl,hbl,hto⟩
noncomputable def zhc (core:Bool) (Ca Ct C:Addr) (K:PySem.W.Frag):Sp:=fun vs H Q E=>∃ (a:Addr) (t:List Nat),vs=[.ref a]∧SqL K H a (bs t)∧t.length≤10000∧RES C H Q E (Vaunid.allTokens core t) (znn Ca Ct)
theorem ok_q28 (T:TX w K mg):FnOk P w K mg base (CX1 P w) 10 T.f_q28 T.d_q28 ["text"] (zhc true T.C_q87 T.C_q91 T.C_q90 K):=by
  have G_q4:=ok_q4 (P:=P) (w:=w) (base:=base) T
  have GF:GapF P w K mg base 8 T.C_q90 T.f_q22 true:=⟨_,_,(ok_q22 T).mono (by decide),T.F_q22.b,T.F_q22.fn.kp⟩
  have TF:TokF P w K mg base 8 T.C_q87 T.C_q91 T.C_q90 T.f_q54 true:=⟨_,_,ok_q54 T,T.F_q54.b,T.F_q54.fn.kp⟩
  refine T.F_q28.fn.okX sc_q28 (fun vs H Q E h=>?_) (fun cdv A outer s H vs Q E hr h=>?_)
  · obtain ⟨a,t,rfl,_⟩:=h
    rfl
  · obtain ⟨a,t,rfl,ht,hl,k⟩:=h
    refine ⟨_,(zae (zap (zaj G_q4 (hr.mono (by decide)) rfl T.F_q4.mg T.F_q4.fn.kp T.F_q4.b .nil za5 (zaa (pv 0) (zaa (pe_r T.F_q22.mg) (zaa (pe_r T.F_q54.mg) zac)))))),?_⟩
    dsimp! [];simp! []
    exact ⟨a,_,_,t,true,rfl,ht,hl,GF,TF,k⟩
end
set_option maxHeartbeats 2000000
section
variable {P:Program}{w:World}{K:PySem.W.Frag}{mg:Str→Option Value}{base:Heap}
noncomputable def zkm (Ca:Addr):Sp:=fun vs H Q _=>∃ (a:Addr) (v:Vaunid.Lit),vs=[.ref a]∧zbh Ca H a v.top (v.low:Int) (v.measure.getD [])∧zj5 v∧Q (.str (S (Vaunid.shownLit v))) H
theorem ok_q37 (T:TX w K mg):FnOk P w K mg base CX0 1 T.f_q37 T.d_q37 ["amount"] (zkm T.C_q87):=by
  refine T.F_q37.fn.ok sc_q37 (fun vs H Q E h=>?_) (fun cdv A outer s H vs Q E hr h=>?_)
  · obtain ⟨a,v,rfl,_⟩:=h
    rfl
  · obtain ⟨a,v,rfl,⟨dx,ha⟩,g,k⟩:=h
    refine ⟨_,(zab (zao (i:=1) (sc_q37).nd rfl (Or.inl rfl) (zca zf5 rfl T.b_str zlm (zaa (zan (pv 0) rfl) zac)))
      (zab (zbk (zam zq5 (zan (pv 0) rfl) zai (zay _)) (zae (zao (i:=1) (sc_q37).nd rfl (Or.inl rfl) (zb8 zch (zb8 zch (pv 1) zax) (zca zf5 rfl T.b_str zlm (zaa (zan (pv 0) rfl) zac))))) zau)
      (zab (zbk (zam zq5 (zan (pv 0) rfl) zax (zay _)) (zae (zao (i:=1) (sc_q37).nd rfl (Or.inl rfl) (zb8 zch (zb8 zch (zb8 zch (pv 1) zax) (zan (pv 0) rfl)) zax))) zau)
      (zae (zap (pv 1)))))),?_⟩
    have big : ∀ n:Nat,n≤20000→n≤sizeLine:=fun n h=>Nat.le_trans h (by decide)
    have d1:=zeb g.2.1
    have d2:=zeo g.2.2
    have lm:(v.measure.getD []).length≤10000:=by
      cases h:v.measure with
      | none=>exact Nat.zero_le _
      | some m=>exact (g.1 m h).2
    rw [zkr v g] at k
    dsimp! [tFld];simp! [tFld,ha]
    refine ⟨T.cl_q87,T.n_q33,_,rfl,_,rfl,zko g.2.1,?_⟩
    refine ⟨T.cl_q87,T.n_q20,_,rfl,rfl,?_⟩
    rw [str_int]
    generalize hm:v.measure.getD []=m at *
    have tail : ∀ l:List Nat,l.length≤1000→Q (.str (S (l++(if m=[] then [] else 91::(m++[93]))))) H→Cls K T.C_q87∧za1 K T.C_q87 (Str.ofString "measure")∧∃ x,List.lookup (Str.ofString "measure") (afs v.top (↑v.low) (S m))=some x∧scal x (V.str (Str.ofString ""))=true ∧
        if (!decide (x=V.str (Str.ofString "")))=true then (S l).length+(Str.ofString "[").length≤sizeLine∧Cls K T.C_q87∧za1 K T.C_q87 (Str.ofString "measure")∧∃ x,List.lookup (Str.ofString "measure") (afs v.top (↑v.low) (S m))=some x∧∃ x_1,x=V.str x_1 ∧
          (S l++Str.ofString "[").length+x_1.length≤sizeLine∧(S l++Str.ofString "["++x_1).length+(Str.ofString "]").length≤sizeLine∧Q (V.str (S l++Str.ofString "["++x_1++Str.ofString "]")) H
        else Q (V.str (S l)) H:=fun l hl q=>by
      refine ⟨T.cl_q87,T.n_q6,_,rfl,rfl,?_⟩
      simp only [zti,zse,zr0,V.str.injEq,zfh,zlt,zbo,List.length_append,List.length_singleton]
      by_cases hm0:m=[]
      · rw [if_pos hm0,List.append_nil] at q
        rw [decide_eq_true hm0]
        exact q
      · rw [if_neg hm0] at q
        rw [decide_eq_false hm0]
        refine ⟨big _ (by omega),T.cl_q87,T.n_q6,_,rfl,S m,rfl,big _ (by rw [zbo];omega),?_⟩
        simp only [zlt,zbo,List.length_append,List.length_singleton,List.append_assoc,List.singleton_append]
        exact ⟨big _ (by simp only [List.length_cons];omega),q⟩
    by_cases h1:v.low=1
    · rw [if_pos h1,List.append_nil] at k
      rw [if_neg (by simp [h1])]
      exact tail _ (by omega) k
    · rw [if_neg h1] at k
      rw [if_pos (by simp;omega)]
      refine ⟨by rw [zbo,zkq,zbo];exact big _ (by simp;omega),T.cl_q87,T.n_q20,_,rfl,_,rfl,zko (by rw [Int.natAbs_natCast];exact g.2.2),?_⟩
      rw [str_int,zkq,zlt,zlt,zic,List.append_assoc]
      refine ⟨by simp only [zbo,List.length_append,List.length_singleton];exact big _ (by omega),?_⟩
      exact tail _ (by simp;omega) k
theorem ok_q96 (T:TX w K mg):FnOk P w K mg base CX0 1 T.f_q17 T.d_q17 ["self","form","words","parts","begin","end"] (zbt T.C_q96 ["form","words","parts","begin","end"]):=by
  refine T.F_q17.ok sc_q17 (fun vs H Q E h=>?_) (fun cdv A outer s H vs Q E hr h=>?_)
  · obtain ⟨p,dx,args,rfl,hl,_⟩:=h
    simp only [List.length_cons,List.length_nil] at hl ⊢
    rw [hl]
  · obtain ⟨p,dx,args,rfl,hl,hp,k⟩:=h
    match args,hl,k with
    | [a,b,c,d,e],_,k =>
      refine ⟨_,(zab (zb7 (pv 0) (pv 1) rfl)
      (zab (zb7 (pv 0) (pv 2) rfl)
      (zab (zb7 (pv 0) (pv 3) rfl)
      (zab (zb7 (pv 0) (pv 4) rfl)
      (zae (zb7 (pv 0) (pv 5) rfl)))))),?_⟩
      dsimp! [sFld];simp! [sFld]
      refine ⟨_,_,_,hp,T.cl_q96,T.n_q66,few0,T.cl_q96,T.n_q51,few1,T.cl_q96,T.n_q42,few2,T.cl_q96,T.n_q57,few3,T.cl_q96,T.n_q75,few4,?_⟩
      exact k
theorem ok_q94 (T:TX w K mg):FnOk P w K mg base CX0 1 T.f_q14 T.d_q14 ["self","kind","owner","depth"] (zbt T.C_q94 ["kind","owner","depth"]):=by
  refine T.F_q14.ok sc_q14 (fun vs H Q E h=>?_) (fun cdv A outer s H vs Q E hr h=>?_)
  · obtain ⟨p,dx,args,rfl,hl,_⟩:=h
    simp only [List.length_cons,List.length_nil] at hl ⊢
    rw [hl]
  · obtain ⟨p,dx,args,rfl,hl,hp,k⟩:=h
    match args,hl,k with
    | [a,b,c],_,k =>
      refine ⟨_,(zab (zb7 (pv 0) (pv 1) rfl)
      (zab (zb7 (pv 0) (pv 2) rfl)
      (zae (zb7 (pv 0) (pv 3) rfl)))),?_⟩
      dsimp! [sFld];simp! [sFld]
      refine ⟨_,_,_,hp,T.cl_q94,T.n_q64,few0,T.cl_q94,T.n_q61,few1,T.cl_q94,T.n_q53,few2,?_⟩
      exact k
noncomputable def zp8 (Ca Ct Cr:Addr):Sp:=fun vs H Q _=>∃ (p dx b:Addr) (as:List Addr) (l:Toks) (hl:Nat),vs=[.ref p,.ref b,.int (hl:Int)]∧H p=some (.ins Cr dx [])∧H b=some (.lst (as.map V.ref))∧as.length≤10000∧zdj Ca Ct H as l ∧
  ∀ (la:Addr) (H':Hp),H la=none→zal [p] H H'→zb3 Ca Ct Cr H' p la (l++[sent hl])→Q .non H'
theorem zxy (T:TX w K mg):FnOk P w K mg base CX0 3 T.f_q25 T.d_q25 ["self","found","length"] (zp8 T.C_q87 T.C_q91 T.C_Row):=by
  have G_q91:=ok_q91 (P:=P) (w:=w) (base:=base) T
  refine T.F_q25.ok sc_q25 (fun vs H Q E h=>?_) (fun cdv A outer s H vs Q E hr h=>?_)
  · obtain ⟨p,dx,b,as,l,hl,rfl,_⟩:=h
    rfl
  · obtain ⟨p,dx,b,as,l,hl,rfl,hp,hb,hn,hto,k⟩:=h
    refine ⟨_,(zab (zb7 (pv 0) (zb8 zxx (pv 1) (zb2 (zaa (zbu T.M_q91 G_q91 (hr.mono (by decide)) rfl T.G_q91 T.b_q7 .nil zav (zaa (pe_g T.g_q49) (zaa zax (zaa (pv 2) (zaa (pv 2) (zaa zax zac)))))) zac))) rfl)
      (zae (zb7 (pv 0) zai rfl))),?_⟩
    dsimp! [sFld,zbx,rCat];simp! [sFld,zbx,rCat]
    refine zdq rfl fun x dx1 H1 hx s1 e1=>⟨by decide,fun q hq=>?_⟩
    have s2:Same H1 (upd H1 q (.lst [.ref x])):=Same.upd hq
    have e2:upd H1 q (.lst [.ref x]) q=some (.lst [.ref x]):=zad
    generalize upd H1 q (.lst [.ref x])=H2 at s2 e2 ⊢
    have s12:Same H H2:=s1.trans s2
    refine ⟨_,s12 _ _ hb,_,rfl,?_,fun la hla=>?_⟩
    · rw [List.length_map]
      exact Nat.le_trans (show as.length+1≤10001 by omega) (by decide)
    have hla0:=none_of s12 hla
    have nla:la≠p:=fun z=>by rw [z,s12 _ _ hp] at hla;cases hla
    have s3:Same H2 (upd H2 la (.lst (as.map V.ref++[.ref x]))):=Same.upd hla
    have e3:upd H2 la (.lst (as.map V.ref++[.ref x])) la=some (.lst (as.map V.ref++[.ref x])):=zad
    generalize upd H2 la (.lst (as.map V.ref++[.ref x]))=H3 at s3 e3 ⊢
    have s13:Same H H3:=s12.trans s3
    have hp3:=s13 _ _ hp
    refine ⟨_,_,_,hp3,T.cl_Row,T.n_q63,few0,T.cl_Row,T.n_q68,few1,?_⟩
    have im:Imm H3 (upd H3 p (.ins T.C_Row dx (zl9 la 0))):=⟨fun a C dx' g k b e c q=>by
        rw [zah (zci q hp3 (by intro z;injection z with _ _ z;cases z))]
        exact q,fun a C dx' o u m q=>by
        rw [zah (zci q hp3 (by intro z;injection z with _ _ z;cases z))]
        exact q⟩
    refine k la (upd H3 p (.ins T.C_Row dx (zl9 la 0))) hla0 (fun a o n e=>?_) ⟨dx,as++[x],0,zad,?_,?_⟩
    · rw [zah (fun z=>n (by rw [z];exact List.mem_singleton.mpr rfl))]
      exact s13 _ _ e
    · rw [zah nla,e3,List.map_append]
      rfl
    · rw [List.drop_zero]
      refine zby (Paired.mapP hto fun a k z=>((z.same s13).b).imm im) ?_
      refine TokB.imm ⟨dx1,.str (Str.ofString ""),?_,trivial⟩ im
      rw [s3 _ _ (s2 _ _ e1)]
      show some (HO.ins T.C_q91 dx1 (zga 2 (Str.ofString "end") (hl:Int) (hl:Int) (.str (Str.ofString ""))))=_
      rw [zbs]
      rfl
noncomputable def zbv (Ca Ct Cr:Addr):Sp:=fun vs H Q _=>∃ (row la:Addr) (t:Vaunid.Token) (l:Toks),vs=[.ref row]∧zb3 Ca Ct Cr H row la (t::l)∧∀ b,TokB Ca Ct H b t→Q (.ref b) H
theorem znk {Ca Ct:Addr}{H:Hp}{as:List Addr}{i:Nat}{t:Vaunid.Token}{l:Toks} (h:Paired (fun a k=>TokB Ca Ct H a k) (as.drop i) (t::l)) : ∃ b,as[i]? = some b∧TokB Ca Ct H b t∧Paired (fun a k=>TokB Ca Ct H a k) (as.drop (i+1)) l:=by
  cases q:as.drop i with
  | nil=>rw [q] at h;cases h
  | cons b r =>
    rw [q] at h
    cases h with
    | cons h1 h2 =>
      refine ⟨b,?_,h1,?_⟩
      · rw [← List.head?_drop,q]
        rfl
      · rw [← List.tail_drop,q]
        exact h2
theorem zc9 (T:TX w K mg):FnOk P w K mg base CX0 1 T.f_q26 T.d_q26 ["self"] (zbv T.C_q87 T.C_q91 T.C_Row):=by
  refine T.F_q26.ok sc_q26 (fun vs H Q E h=>?_) (fun cdv A outer s H vs Q E hr h=>?_)
  · obtain ⟨row,la,t,l,rfl,_⟩:=h
    rfl
  · obtain ⟨row,la,t,l,rfl,⟨dx,as,i,h1,h2,h3⟩,k⟩:=h
    obtain ⟨b,hb,htk,_⟩:=znk h3
    refine ⟨_,(zae (zap (zbw zbm (zan (pv 0) rfl) (zan (pv 0) rfl) (fun _ _=>rfl)))),?_⟩
    dsimp! [tFld];simp! [tFld,h1]
    refine ⟨T.cl_Row,T.n_q63,_,rfl,T.cl_Row,T.n_q68,_,rfl,_,rfl,_,_,rfl,SqL.of h2,_,zce (by rw [List.getElem?_map,hb];rfl),?_⟩
    exact k b htk
noncomputable def zhb (Ca Ct Cr:Addr):Sp:=fun vs H Q _=>∃ (row la:Addr) (t:Vaunid.Token) (l:Toks),vs=[.ref row]∧zb3 Ca Ct Cr H row la (t::l)∧∀ b H',TokB Ca Ct H' b t→zal [row] H H'→zb3 Ca Ct Cr H' row la l→Q (.ref b) H'
theorem zmg (T:TX w K mg):FnOk P w K mg base CX0 2 T.f_q77 T.d_q77 ["self"] (zhb T.C_q87 T.C_q91 T.C_Row):=by
  have G_q26:=zc9 (P:=P) (w:=w) (base:=base) T
  refine T.F_q77.ok sc_q77 (fun vs H Q E h=>?_) (fun cdv A outer s H vs Q E hr h=>?_)
  · obtain ⟨row,la,t,l,rfl,_⟩:=h
    rfl
  · obtain ⟨row,la,t,l,rfl,hrow,k⟩:=h
    have hr0:=hrow
    obtain ⟨dx,as,i,h1,h2,h3⟩:=hrow
    obtain ⟨b,hb,htk,hrest⟩:=znk h3
    refine ⟨_,(zab (zao (i:=1) (sc_q77).nd rfl (Or.inl rfl) (zb9 (pv 0) T.cl_Row T.m_q26 G_q26 (hr.mono (by decide)) T.b_q26 .nil zav))
      (zab (zqs (pv 0) zai zx7)
      (zae (zap (pv 1))))),?_⟩
    dsimp! [zgb,zbv];simp! [zgb,zbv,zqq,rAdd,h1]
    refine ⟨rfl,la,t,l,hr0,fun b' hb'=>⟨T.cl_Row,T.n_q68,_,rfl,_,rfl,(by show 2<1000;decide),?_⟩⟩
    have sx:zal [row] H (upd H row (.ins T.C_Row dx (zl9 la ((i+1:Nat):Int)))):=zal.upd (List.mem_singleton.mpr rfl)
    have nt : ∀ x∈[row],NT H x:=fun x hx=>by rw [List.mem_singleton.mp hx];exact hr0.nt
    have im:=Imm.of sx nt
    have nla:la≠row:=zci h2 h1 (by intro z;cases z)
    exact k b' _ (hb'.imm im) sx ⟨dx,as,i+1,zad,by rw [zah nla];exact h2,Paired.mapP hrest fun a k z=>z.imm im⟩
noncomputable def zfl (Ca Ct Cr C:Addr):Sp:=fun vs H Q E=>∃ (row la:Addr) (t:Vaunid.Token) (l:Toks) (x:List Nat),vs=[.ref row,.str (S x)]∧zb3 Ca Ct Cr H row la (t::l) ∧
  if kindOf t.tok=x then (∀ b H',TokB Ca Ct H' b t→zal [row] H H'→zb3 Ca Ct Cr H' row la l→Q (.ref b) H') else ExF C E H 6 (t.start:Int)
theorem zk2 (T:TX w K mg):FnOk P w K mg base (CX1 P w) 3 T.f_q13 T.d_q13 ["self","kind"] (zfl T.C_q87 T.C_q91 T.C_Row T.C_q90):=by
  have G_q26:=zc9 (P:=P) (w:=w) (base:=base) T
  have G_q77:=zmg (P:=P) (w:=w) (base:=base) T
  have G_q90:=ok_q90 (P:=P) (w:=w) (base:=base) T
  refine T.F_q13.okX sc_q13 (fun vs H Q E h=>?_) (fun cdv A outer s H vs Q E hr h=>?_)
  · obtain ⟨row,la,t,l,x,rfl,_⟩:=h
    rfl
  · obtain ⟨row,la,t,l,x,rfl,hrow,k⟩:=h
    have hr0:=hrow
    obtain ⟨dx,as,i,h1,h2,h3⟩:=hrow
    refine ⟨_,(zab (zbk (zam zq5 (zan (zb9 (pv 0) T.cl_Row T.m_q26 G_q26 (hr.mono (by decide)) T.b_q26 .nil zav) rfl) (pv 1) (zay _)) (zae (zco T.X_q90 G_q90 (hr.mono (by decide)) rfl T.G_q90 T.b_q5 zb6 rfl (zaa zai (zaa (zan (zb9 (pv 0) T.cl_Row T.m_q26 G_q26 (hr.mono (by decide)) T.b_q26 .nil zav) rfl) zac)))) zau)
      (zae (zap (zb9 (pv 0) T.cl_Row T.m_q77 G_q77 (hr.mono (by decide)) T.b_q77 .nil zav)))),?_⟩
    dsimp! [zgb,zbv,zhb,zb5,tFld];simp! [zgb,zbv,zhb,zb5,tFld,h1]
    refine ⟨rfl,la,t,l,hr0,fun b ⟨dt,ct,e1,_⟩=>?_⟩
    refine ⟨T.C_q91,dt,_,e1,T.cl_q91,T.n_q44,_,rfl,rfl,?_⟩
    by_cases hk:kindOf t.tok=x
    · rw [if_pos hk] at k
      rw [if_neg (by rw [hk];simp)]
      exact ⟨rfl,la,t,l,hr0,k⟩
    · rw [if_neg hk] at k
      rw [if_pos (by simp only [V.str.injEq,zfh];simp [hk])]
      refine ⟨rfl,la,t,l,hr0,fun b2 ⟨dt2,ct2,e2,_⟩=>⟨T.C_q91,dt2,_,e2,T.cl_q91,T.n_q36,_,rfl,by decide,?_⟩⟩
      exact zcj k
theorem zoz {k:Vaunid.Tok} (g:zbb k):(∃ w,k = .word w∧kindOf k=Vaunid.txt "name"∧Vaunid.leafOf k=some (.name w))∨(∃ v d,k = .num v d∧(kindOf k=Vaunid.txt "number"∨kindOf k=Vaunid.txt "digit")∧Vaunid.leafOf k=some (.num v)) ∨
    (¬ kindOf k=Vaunid.txt "name"∧¬ kindOf k=Vaunid.txt "number"∧¬ kindOf k=Vaunid.txt "digit"∧((kindOf k∈[Vaunid.txt "true",Vaunid.txt "false",Vaunid.txt "nil"]∧∃ x,Vaunid.leafOf k=some x∧Vaunid.txt (zdb x)=kindOf k∧zcc x=[])∨(¬ kindOf k∈[Vaunid.txt "true",Vaunid.txt "false",Vaunid.txt "nil"]∧Vaunid.leafOf k=none))):=by
  cases k with
  | word w =>
    by_cases h:Vaunid.isTaken w=true
    · have e:kindOf (.word w)=w:=by simp only [kindOf];rw [if_pos h]
      rw [e]
      refine .inr (.inr ⟨fun z=>?_,fun z=>?_,fun z=>?_,?_⟩)
      · rw [z] at h;exact absurd h (by decide +kernel)
      · rw [z] at h;exact absurd h (by decide +kernel)
      · rw [z] at h;exact absurd h (by decide +kernel)
      · by_cases h1:w=Vaunid.txt "true"
        · refine .inl ⟨by rw [h1];simp,.truth true,?_,h1.symm,rfl⟩
          simp only [Vaunid.leafOf]
          rw [if_pos h1]
        · by_cases h2:w=Vaunid.txt "false"
          · refine .inl ⟨by rw [h2];simp,.truth false,?_,h2.symm,rfl⟩
            simp only [Vaunid.leafOf]
            rw [if_neg h1,if_pos h2]
          · by_cases h3:w=Vaunid.txt "nil"
            · refine .inl ⟨by rw [h3];simp,.nil,?_,h3.symm,rfl⟩
              simp only [Vaunid.leafOf]
              rw [if_neg h1,if_neg h2,if_pos h3]
            · refine .inr ⟨by simp [h1,h2,h3],?_⟩
              simp only [Vaunid.leafOf]
              rw [if_neg h1,if_neg h2,if_neg h3,if_neg]
              unfold Vaunid.isName
              rw [h]
              simp
    · have e:kindOf (.word w)=Vaunid.txt "name":=by simp only [kindOf];rw [if_neg h]
      refine .inl ⟨w,rfl,e,?_⟩
      obtain ⟨w',q,hn⟩:=(zhx g).mp e
      cases q
      simp only [Vaunid.leafOf]
      rw [if_neg (fun z=>by rw [z] at h;exact h (by decide +kernel)),if_neg (fun z=>by rw [z] at h;exact h (by decide +kernel)),if_neg (fun z=>by rw [z] at h;exact h (by decide +kernel)),if_pos hn]
  | num v d =>
    refine .inr (.inl ⟨v,d,rfl,?_,rfl⟩)
    cases d with
    | none=>exact .inl rfl
    | some n=>exact .inr rfl
  | sign s =>
    have q : ∀ x∈Vaunid.coreSigns++[Vaunid.txt "end"],¬ x=Vaunid.txt "name"∧¬ x=Vaunid.txt "number"∧¬ x=Vaunid.txt "digit"∧¬ x∈[Vaunid.txt "true",Vaunid.txt "false",Vaunid.txt "nil"]:=by decide +kernel
    have hs:s∈Vaunid.coreSigns++[Vaunid.txt "end"]:=by
      rcases g with g | g
      · exact List.mem_append_left _ g
      · rw [g];exact List.mem_append_right _ (List.mem_singleton.mpr rfl)
    obtain ⟨q1,q2,q3,q4⟩:=q s hs
    exact .inr (.inr ⟨q1,q2,q3,.inr ⟨q4,rfl⟩⟩)
theorem zoo:[V.str "true",V.str "false",V.str "nil"]=(([Vaunid.txt "true",Vaunid.txt "false",Vaunid.txt "nil"]).map S).map V.str:=by decide +kernel
theorem zn0 {Cn:Addr}{H H1 H2 H3:Hp}{n dx wl pl:Addr}{f:List Nat}{ws:List (List Nat)}{b e:Nat} (h1:H wl=none) (s1:Same H H1) (e1:H1 wl=some (.lst ((ws.map S).map V.str))) (h2:H1 pl=none) (s2:Same H1 H2) (e2:H2 pl=some (.lst [])) (h3:H2 n=none) (s3:Same H2 H3) (e3:H3 n=some (.ins Cn dx (zcb (S f) wl pl (b:Int) (e:Int)))) :
    TreeAt Cn H3 n (.mk f ws b e []) [n,wl,pl]∧[n,wl,pl].Nodup∧∀ a∈[n,wl,pl],H a=none:=by
  refine ⟨.mk (as:=[]) e3 (s3 _ _ (s2 _ _ e1)) (s3 _ _ e2) .nil,?_,?_⟩
  · have q1:wl≠pl:=zag e1 h2
    have q2:wl≠n:=zag (s2 _ _ e1) h3
    have q3:pl≠n:=zag e2 h3
    simp [q1,q2.symm,q3.symm]
  · intro a ha
    have:=none_of (s1.trans s2) h3
    have:=none_of s1 h2
    simp at ha
    rcases ha with rfl | rfl | rfl <;> assumption
noncomputable def zxe (Ca Ct Cn C:Addr):Sp:=fun vs H Q E=>∃ (b:Addr) (t:Vaunid.Token),vs=[.ref b]∧TokB Ca Ct H b t∧zbb t.tok∧(match Vaunid.leafOf t.tok with
  | none=>ExF C E H 6 (t.start:Int)
  | some x=>∀ (n:Addr) (F:List Addr) (H':Hp),Same H H'→TreeAt Cn H' n (zk7 t x) F→F.Nodup→(∀ a∈F,H a=none)→Q (.ref n) H')
theorem ok_q97 (T:TX w K mg):FnOk P w K mg base (CX1 P w) 3 T.f_q97 T.d_q97 ["token"] (zxe T.C_q87 T.C_q91 T.C_q96 T.C_q90):=by
  have G_q96:=ok_q96 (P:=P) (w:=w) (base:=base) T
  have G_q37:=ok_q37 (P:=P) (w:=w) (base:=base) T
  have G_q90:=ok_q90 (P:=P) (w:=w) (base:=base) T
  refine T.F_q97.fn.okX sc_q97 (fun vs H Q E h=>?_) (fun cdv A outer s H vs Q E hr h=>?_)
  · obtain ⟨b,t,rfl,_⟩:=h
    rfl
  · obtain ⟨b,t,rfl,⟨dt,ct,hb,hc⟩,g,k⟩:=h
    refine ⟨_,(zab (zbk (zam zcr (zan (pv 0) rfl) zax (zay _)) (zae (zap (zbu T.M_q96 G_q96 (hr.mono (by decide)) rfl T.G_q96 T.b_q17 .nil zav (zaa zax (zaa (zb2 (zaa (zan (pv 0) rfl) zac)) (zaa (zb2 zac) (zaa (zan (pv 0) rfl) (zaa (zan (pv 0) rfl) zac)))))))) zau)
      (zab (zbk (PW.pt (pw_or (zam zcr (zan (pv 0) rfl) zax (zay _)) (pw_or1 (zam zcr (zan (pv 0) rfl) zax (zay _))))) (zae (zap (zbu T.M_q96 G_q96 (hr.mono (by decide)) rfl T.G_q96 T.b_q17 .nil zav (zaa zax (zaa (zb2 (zaa (zaj G_q37 (hr.mono (by decide)) rfl T.F_q37.mg T.F_q37.fn.kp T.F_q37.b .nil zav (zaa (zan (pv 0) rfl) zac)) zac)) (zaa (zb2 zac) (zaa (zan (pv 0) rfl) (zaa (zan (pv 0) rfl) zac)))))))) zau)
      (zab (zbk (zam zdp (zan (pv 0) rfl) (pe_r T.g_q31) rfl) (zae (zap (zbu T.M_q96 G_q96 (hr.mono (by decide)) rfl T.G_q96 T.b_q17 .nil zav (zaa (zan (pv 0) rfl) (zaa (zb2 zac) (zaa (zb2 zac) (zaa (zan (pv 0) rfl) (zaa (zan (pv 0) rfl) zac)))))))) zau)
      (zae (zco T.X_q90 G_q90 (hr.mono (by decide)) rfl T.G_q90 T.b_q5 zb6 rfl (zaa zai (zaa (zan (pv 0) rfl) zac))))))),?_⟩
    dsimp! [tFld,zbx,zb5];simp! [tFld,hb,zbx,zb5]
    refine ⟨T.cl_q91,T.n_q44,_,rfl,rfl,?_⟩
    have l1:(1:Nat)≤sizeLine:=by decide
    have l0:(0:Nat)≤sizeLine:=Nat.zero_le _
    have tail : ∀ (f:List Nat) (fs:Str) (ws:List (List Nat)) (xs:List V),fs=S f→xs=(ws.map S).map V.str→(∀ (n:Addr) (F:List Addr) (H':Hp),Same H H'→TreeAt T.C_q96 H' n (.mk f ws t.start t.halt_ []) F→F.Nodup→(∀ a∈F,H a=none)→Q (.ref n) H') →
        ∀ p,H p=none→0≤sizeLine∧∀ p1,upd H p (.lst xs) p1=none→∃ x1 x2 x3,upd (upd H p (.lst xs)) p1 (.lst []) b=some (.ins x1 x2 x3)∧Cls K x1∧za1 K x1 (Str.ofString "begin")∧∃ x4,List.lookup (Str.ofString "begin") x3=some x4 ∧
          ∃ x5 x6 x7,upd (upd H p (.lst xs)) p1 (.lst []) b=some (.ins x5 x6 x7)∧Cls K x5∧za1 K x5 (Str.ofString "end")∧∃ x8,List.lookup (Str.ofString "end") x7=some x8 ∧
            ∀ x9 dx,upd (upd H p (.lst xs)) p1 (.lst []) x9=none→upd (upd H p (.lst xs)) p1 (.lst []) dx=none→dx≠x9→zbt T.C_q96 [Str.ofString "form",Str.ofString "words",Str.ofString "parts",Str.ofString "begin",Str.ofString "end"] [V.ref x9,V.str fs,V.ref p,V.ref p1,x4,x8]
              (upd (upd (upd (upd H p (.lst xs)) p1 (.lst [])) dx (HO.own x9)) x9 (HO.ins T.C_q96 dx [])) (fun v H2=>v=V.non∧Q (V.ref x9) H2) (fun _ _ _=>False):=fun f fs ws xs ef ex kk p hp=>⟨l0,fun p1 hp1=>by
      subst ef ex
      have s1:Same H (upd H p (.lst ((ws.map S).map V.str))):=Same.upd hp
      have e1:upd H p (.lst ((ws.map S).map V.str)) p=some (.lst ((ws.map S).map V.str)):=zad
      generalize upd H p (.lst ((ws.map S).map V.str))=H1 at s1 e1 hp1 ⊢
      have s2:Same H1 (upd H1 p1 (.lst [])):=Same.upd hp1
      have e2:upd H1 p1 (.lst []) p1=some (.lst []):=zad
      generalize upd H1 p1 (.lst [])=H2 at s2 e2 ⊢
      have hb2:=(s1.trans s2) _ _ hb
      refine ⟨_,_,_,hb2,T.cl_q91,T.n_q36,_,rfl,_,_,_,hb2,T.cl_q91,T.n_q70,_,rfl,?_⟩
      refine zdq rfl fun n dx H3 hn s3 e3=>?_
      obtain ⟨t1,t2,t3⟩:=zn0 (f:=f) (ws:=ws) (b:=t.start) (e:=t.halt_) hp s1 e1 hp1 s2 e2 hn s3 e3
      exact kk n _ H3 (s1.trans (s2.trans s3)) t1 t2 t3⟩
    rcases zoz g with ⟨w,e1,e2,e3⟩ | ⟨v,d,e1,e2,e3⟩ | ⟨n1,n2,n3,hp⟩
    · rw [e3] at k
      rw [e2,if_pos (by rw [zbs])]
      rw [e1] at hc
      refine ⟨T.cl_q91,T.n_q11,_,rfl,l1,?_⟩
      exact tail (Vaunid.txt "name") _ [w] _ (zbs _) (by rw [show ct=V.str (S w) from hc];rfl) k
    · rw [e3] at k
      rw [e1] at hc g
      obtain ⟨a,ec,ha⟩:=hc
      have gl:zj5 v:=⟨g.1,g.2.1,g.2.2.1⟩
      have amt:=tail (Vaunid.txt "number") _ [Vaunid.shownLit v] _ (zbs _) rfl k
      rw [if_neg (by rw [zbs];simp only [V.str.injEq,zfh];rcases e2 with q | q <;> (rw [q];decide +kernel))]
      refine ⟨T.cl_q91,T.n_q44,_,rfl,rfl,?_⟩
      rcases e2 with q | q
      · rw [q,if_pos (by rw [zbs])]
        exact ⟨T.cl_q91,T.n_q11,_,rfl,a,v,by rw [ec],ha,gl,l1,amt⟩
      · rw [q,if_neg (by rw [zbs];simp only [V.str.injEq,zfh];decide +kernel)]
        refine ⟨T.cl_q91,T.n_q44,_,rfl,rfl,?_⟩
        rw [if_pos (by rw [zbs])]
        exact ⟨T.cl_q91,T.n_q11,_,rfl,a,v,by rw [ec],ha,gl,l1,amt⟩
    · rw [if_neg (by rw [zbs];simp only [V.str.injEq,zfh];exact n1)]
      refine ⟨T.cl_q91,T.n_q44,_,rfl,rfl,?_⟩
      rw [if_neg (by rw [zbs];simp only [V.str.injEq,zfh];exact n2)]
      refine ⟨T.cl_q91,T.n_q44,_,rfl,rfl,?_⟩
      rw [if_neg (by rw [zbs];simp only [V.str.injEq,zfh];exact n3)]
      refine ⟨T.cl_q91,T.n_q44,_,rfl,_,.inr (T.t_q31 H),rfl,rfl,?_⟩
      rw [zoo,in_S]
      rcases hp with ⟨hm,x,e1,e2,e3⟩ | ⟨hm,e1⟩
      · rw [e1] at k
        rw [decide_eq_true hm]
        refine ⟨T.cl_q91,T.n_q44,_,rfl,l0,?_⟩
        refine tail (kindOf t.tok) _ [] _ rfl rfl ?_
        rw [← e2,← e3]
        exact k
      · rw [e1] at k
        rw [decide_eq_false hm]
        exact ⟨T.cl_q91,T.n_q36,_,rfl,by decide,zcj k⟩
end
set_option maxHeartbeats 2000000
section
variable {P:Program}{w:World}{K:PySem.W.Frag}{mg:Str→Option Value}{base:Heap}
noncomputable def zqc (Ca Ct Cr Cn:Addr):Sp:=fun vs H Q _=>∃ (row la:Addr) (t:Vaunid.Token) (l:Toks),vs=[.ref row]∧zb3 Ca Ct Cr H row la (t::l)∧zb1 l∧l≠[] ∧
  ∀ (n dx wl pl:Addr) (H':Hp),zal [row] H H'→zb3 Ca Ct Cr H' row la (zak l).2→H' n=some (.ins Cn dx (zcb (S (Vaunid.txt (zak l).1.word)) wl pl (t.start:Int) (t.start:Int)))→H' wl=some (.lst [])→H' pl=some (.lst [])→[n,wl,pl].Nodup→(∀ a∈[n,wl,pl],H a=none)→Q (.ref n) H'
theorem ok_q15 (T:TX w K mg):FnOk P w K mg base CX0 3 T.f_q15 T.d_q15 ["row"] (zqc T.C_q87 T.C_q91 T.C_Row T.C_q96):=by
  have G_q26:=zc9 (P:=P) (w:=w) (base:=base) T
  have G_q77:=zmg (P:=P) (w:=w) (base:=base) T
  have G_q96:=ok_q96 (P:=P) (w:=w) (base:=base) T
  refine T.F_q15.fn.ok sc_q15 (fun vs H Q E h=>?_) (fun cdv A outer s H vs Q E hr h=>?_)
  · obtain ⟨row,la,t,l,rfl,_⟩:=h
    rfl
  · obtain ⟨row,la,t,l,rfl,hrow,hg,hne,k⟩:=h
    obtain ⟨ad,md,sq,_⟩:=T.t_q88
    refine ⟨_,(zab (zao (i:=1) (sc_q15).nd rfl (Or.inl rfl) (zan (zb9 (pv 0) T.cl_Row T.m_q77 G_q77 (hr.mono (by decide)) T.b_q77 .nil zav) rfl))
      (zab (zao (i:=2) (sc_q15).nd rfl (Or.inl rfl) zax)
      (zab (zbk (zvv (zan (zb9 (pv 0) T.cl_Row T.m_q26 G_q26 (hr.mono (by decide)) T.b_q26 .nil zav) rfl) (pe_r T.g_q88)) (zae (zao (i:=2) (sc_q15).nd rfl (Or.inl rfl) (zan (zb9 (pv 0) T.cl_Row T.m_q77 G_q77 (hr.mono (by decide)) T.b_q77 .nil zav) rfl))) zau)
      (zae (zap (zbu T.M_q96 G_q96 (hr.mono (by decide)) rfl T.G_q96 T.b_q17 .nil zav (zaa (pv 2) (zaa (zb2 zac) (zaa (zb2 zac) (zaa (pv 1) (zaa (pv 1) zac))))))))))),?_⟩
    have hr0:=hrow
    obtain ⟨dx,as,i,h1,h2,h3⟩:=hrow
    dsimp! [zgb,zhb,zbv,tFld,zbx];simp! [zgb,zhb,zbv,tFld,zvg,zbx,h1]
    refine ⟨rfl,la,t,l,hr0,fun b H1 ⟨dt,ct,e1,_⟩ sx1 hr1=>?_⟩
    refine ⟨T.C_q91,dt,_,e1,T.cl_q91,T.n_q36,_,rfl,?_⟩
    have hr1':=hr1
    obtain ⟨dx1,as1,i1,r1,r2,r3⟩:=hr1
    match l,hne,hg,k,hr1',r3 with
    | t2::l2,_,hg,k,hr1',r3 =>
      have gt:=hg t2 (List.mem_cons_self ..)
      dsimp! [];simp! [r1]
      refine ⟨rfl,la,t2,l2,hr1',fun b2 ⟨dt2,ct2,e2,_⟩=>?_⟩
      refine ⟨T.C_q91,dt2,_,e2,T.cl_q91,T.n_q44,_,rfl,_,_,rfl,md,?_⟩
      have tail : ∀ (H2:Hp) (f:Fm) (r:Toks) (fs:Str),fs=S (Vaunid.txt f.word)→zal [row] H H2→zb3 T.C_q87 T.C_q91 T.C_Row H2 row la r→zak (t2::l2)=(f,r)→0≤sizeLine∧∀ p,H2 p=none→0≤sizeLine∧∀ p1,upd H2 p (.lst []) p1=none →
          ∀ x dx,upd (upd H2 p (.lst [])) p1 (.lst []) x=none→upd (upd H2 p (.lst [])) p1 (.lst []) dx=none→dx≠x→zbt T.C_q96 [Str.ofString "form",Str.ofString "words",Str.ofString "parts",Str.ofString "begin",Str.ofString "end"] [V.ref x,V.str fs,V.ref p,V.ref p1,V.int ↑t.start,V.int ↑t.start]
            (upd (upd (upd (upd H2 p (.lst [])) p1 (.lst [])) dx (.own x)) x (.ins T.C_q96 dx [])) (fun v H2=>v=V.non∧Q (V.ref x) H2) (fun _ _ _=>False):=fun H2 f r fs ef sx hrw eb=>⟨Nat.zero_le _,fun p hp=>⟨Nat.zero_le _,fun p1 hp1=>by
        subst ef
        have s1:Same H2 (upd H2 p (.lst [])):=Same.upd hp
        have e1:upd H2 p (.lst []) p=some (.lst []):=zad
        generalize upd H2 p (.lst [])=H3 at s1 e1 hp1 ⊢
        have s2:Same H3 (upd H3 p1 (.lst [])):=Same.upd hp1
        have e2:upd H3 p1 (.lst []) p1=some (.lst []):=zad
        generalize upd H3 p1 (.lst [])=H4 at s2 e2 ⊢
        refine zdq rfl fun n dx H5 hn s3 e3=>?_
        obtain ⟨t1,t2,t3⟩:=zn0 (f:=Vaunid.txt f.word) (ws:=[]) (b:=t.start) (e:=t.start) hp s1 e1 hp1 s2 e2 hn s3 e3
        have sA:Same H2 H5:=s1.trans (s2.trans s3)
        rw [eb] at k
        have nr : ∀ a,H2 a=none→a≠row:=fun a ha z=>by
          obtain ⟨_,_,_,q,_,_⟩:=hrw
          rw [z,q] at ha
          cases ha
        exact k n dx p p1 H5 (sx.trans (zal.of sA)) (hrw.same sA) e3 (s3 _ _ (s2 _ _ e1)) (s3 _ _ e2) t2 fun a ha=>znz sx (nin (nr a (t3 a ha))) (t3 a ha)⟩⟩
      rw [ziz,zrs gt]
      cases hf:fmOf t2.tok with
      | none =>
        have eb:zak (t2::l2)=(.app,t2::l2):=by unfold zak;dsimp only;rw [hf]
        exact tail H1 .app (t2::l2) _ (zbs _) sx1 hr1' eb
      | some f =>
        have eb:zak (t2::l2)=(f,l2):=by unfold zak;dsimp only;rw [hf]
        refine ⟨rfl,la,t2,l2,hr1',fun b3 H2 ⟨dt3,ct3,e3,_⟩ sx2 hr2=>⟨T.C_q91,dt3,_,e3,T.cl_q91,T.n_q44,_,rfl,?_⟩⟩
        exact tail H2 f l2 _ (by rw [zrx hf]) (sx1.trans sx2) hr2 eb
noncomputable def zyo (Cs:Addr) (H:Hp) (s:Addr) (k:String) (o:Addr) (d:Nat):Prop:=∃ dx,H s=some (.ins Cs dx (zkh (Str.ofString k) o (d:Int)))
noncomputable def zvm (Ca Ct Cr Cn Cs C:Addr):Sp:=fun vs H Q E=>∃ (row la todo s o dxo wl pl:Addr) (k:String) (d:Nat) (t:Vaunid.Token) (l:Toks) (xs ps:List V) (f:Str) (b e:Int),vs=[.ref row,.ref todo,.ref s]∧zyo Cs H s k o d∧zb3 Ca Ct Cr H row la (t::l)∧zb1 (t::l) ∧
  H todo=some (.lst xs)∧xs.length≤1000∧H o=some (.ins Cn dxo (zcb f wl pl b e))∧H pl=some (.lst ps)∧ps.length≤100∧todo≠pl∧la≠todo∧la≠pl ∧
  (if d=40 then ExF C E H 8 (t.start:Int)
   else if kindOf t.tok=Vaunid.txt "(" then l≠[]∧∀ (n dx wl' pl':Addr) (ss:List Addr) (H':Hp),zal [row,todo,pl] H H'→zb3 Ca Ct Cr H' row la (zak l).2→H' todo=some (.lst (xs++ss.reverse.map V.ref))→zet Cs H' ss ((zak l).1.sk.map SK.w++[")"]) n (d+1)→H' pl=some (.lst (ps++[.ref n])) →
       H' n=some (.ins Cn dx (zcb (S (Vaunid.txt (zak l).1.word)) wl' pl' (t.start:Int) (t.start:Int)))→H' wl'=some (.lst [])→H' pl'=some (.lst [])→((n::wl'::pl'::ss):List Addr).Nodup→(∀ a∈n::wl'::pl'::ss,H a=none)→Q .non H'
   else match Vaunid.leafOf t.tok with
     | none=>ExF C E H 6 (t.start:Int)
     | some x=>∀ (n:Addr) (F:List Addr) (H':Hp),zal [row,pl] H H'→zb3 Ca Ct Cr H' row la l→H' pl=some (.lst (ps++[.ref n]))→TreeAt Cn H' n (zk7 t x) F→F.Nodup→(∀ a∈F,H a=none)→Q .non H')
theorem ok_q59 (T:TX w K mg):FnOk P w K mg base (CX1 P w) 5 T.f_q59 T.d_q59 ["row","todo","step"] (zvm T.C_q87 T.C_q91 T.C_Row T.C_q96 T.C_q94 T.C_q90):=by
  have G_q26:=zc9 (P:=P) (w:=w) (base:=base) T
  have G_q77:=zmg (P:=P) (w:=w) (base:=base) T
  have G_q90:=ok_q90 (P:=P) (w:=w) (base:=base) T
  have G_q15:=ok_q15 (P:=P) (w:=w) (base:=base) T
  have G_q97:=ok_q97 (P:=P) (w:=w) (base:=base) T
  have G_q94:=ok_q94 (P:=P) (w:=w) (base:=base) T
  refine T.F_q59.fn.okX sc_q59 (fun vs H Q E h=>?_) (fun cdv A outer s H vs Q E hr h=>?_)
  · obtain ⟨row,la,todo,s,o,dxo,wl,pl,k,d,t,l,xs,ps,f,b,e,rfl,_⟩:=h
    rfl
  · obtain ⟨row,la,todo,s,o,dxo,wl,pl,k,d,t,l,xs,ps,f,b,e,rfl,⟨dxs,hs⟩,hrow,hg,hto,hxs,ho,hpl,hps,n1,n2,n3,kk⟩:=h
    obtain ⟨ad,md,sq,_⟩:=T.t_q88
    refine ⟨_,(zab (zbk (zam zcr (zan (pv 2) rfl) (pe_g T.g_q45) (zay _)) (zae (zco T.X_q90 G_q90 (hr.mono (by decide)) rfl T.G_q90 T.b_q5 zb6 rfl (zaa zai (zaa (zan (zb9 (pv 0) T.cl_Row T.m_q26 G_q26 (hr.mono (by decide)) T.b_q26 .nil zav) rfl) zac)))) zau)
      (zab (zbk (zam zcr (zan (zb9 (pv 0) T.cl_Row T.m_q26 G_q26 (hr.mono (by decide)) T.b_q26 .nil zav) rfl) zax (zay _)) (zab (zao (i:=3) (sc_q59).nd rfl (Or.inl rfl) (zaj G_q15 (hr.mono (by decide)) rfl T.F_q15.mg T.F_q15.fn.kp T.F_q15.b .nil zav (zaa (pv 0) zac)))
      (zab (zbq (ze3 PySem.F.plainAttrs_list PySem.F.slot_list_append PySem.F.type_list_append zbj (pv 1) (zaa (zbu T.M_q94 G_q94 (hr.mono (by decide)) rfl T.G_q94 T.b_q14 .nil zav (zaa zax (zaa (pv 3) (zaa (zb8 zdi (zan (pv 2) rfl) zai) zac)))) zac)))
      (zae (zik znv rfl (zky rfl T.b_reversed (zaa (ztc (pe_r T.g_q88) (zan (pv 3) rfl)) zac)) (zcg (i:=4) (sc_q59).nd rfl (Or.inl rfl)) (zae (zbq (ze3 PySem.F.plainAttrs_list PySem.F.slot_list_append PySem.F.type_list_append zbj (pv 1) (zaa (zbu T.M_q94 G_q94 (hr.mono (by decide)) rfl T.G_q94 T.b_q14 .nil zav (zaa (pv 4) (zaa (pv 3) (zaa (zb8 zdi (zan (pv 2) rfl) zai) zac)))) zac)))))))) (zab (zao (i:=3) (sc_q59).nd rfl (Or.inl rfl) (zaj G_q97 (hr.mono (by decide)) rfl T.F_q97.mg T.F_q97.fn.kp T.F_q97.b .nil za5 (zaa (zb9 (pv 0) T.cl_Row T.m_q26 G_q26 (hr.mono (by decide)) T.b_q26 .nil zav) zac)))
      (zae (zbq (zb9 (pv 0) T.cl_Row T.m_q77 G_q77 (hr.mono (by decide)) T.b_q77 .nil zav)))))
      (zae (zbq (ze3 PySem.F.plainAttrs_list PySem.F.slot_list_append PySem.F.type_list_append zbj (zan (zan (pv 2) rfl) rfl) (zaa (pv 3) zac)))))),?_⟩
    have hr0:=hrow
    obtain ⟨dx,as,i,h1,h2,h3⟩:=hrow
    dsimp! [zgb,zhb,zbv,tFld,zkf,zbx,zb5];simp! [zgb,zhb,zbv,tFld,zkf,zbx,zb5,hs,h1]
    refine ⟨T.cl_q94,T.n_q53,_,rfl,rfl,?_⟩
    by_cases hd:d=40
    · subst hd
      rw [if_pos rfl] at kk
      rw [if_pos (show V.int ((40:Nat):Int)=V.int 40 from rfl)]
      exact ⟨rfl,la,t,l,hr0,fun b ⟨dt,ct,e1,_⟩=>⟨T.C_q91,dt,_,e1,T.cl_q91,T.n_q36,_,rfl,by decide,zcj kk⟩⟩
    · rw [if_neg hd] at kk
      rw [if_neg (by simp only [V.int.injEq];omega)]
      refine ⟨rfl,la,t,l,hr0,fun b ⟨dt,ct,e1,_⟩=>⟨T.C_q91,dt,_,e1,T.cl_q91,T.n_q44,_,rfl,rfl,?_⟩⟩
      by_cases hk:kindOf t.tok=Vaunid.txt "("
      · rw [if_pos hk] at kk
        rw [if_pos (by rw [hk,zbs])]
        obtain ⟨hl,kk⟩:=kk
        refine ⟨row,la,t,l,rfl,hr0,fun k hk=>hg k (List.mem_cons_of_mem _ hk),hl,fun n dx wl' pl' H1 sx1 hr1 e1 e2 e3 nd fr=>?_⟩
        generalize hff:(zak l).1=ff at kk e1
        generalize (zak l).2=rr at kk hr1
        have nrow:row≠todo:=zci h1 hto (by intro z;cases z)
        have hto1:H1 todo=some (.lst xs):=sx1 _ _ (nin nrow.symm) hto
        have hs1:H1 s=some (.ins T.C_q94 dxs (zkh (Str.ofString k) o (d:Int))):=sx1 _ _ (nin (zci hs h1 (by intro z;injection z with _ _ z;cases z))) hs
        have b0:BI T.C_q87 T.C_q91 T.C_Row T.C_q96 T.C_q94 H row la todo xs rr n dx wl' pl' (S (Vaunid.txt ff.word)) (t.start:Int) (d+1) H1 [] []:=⟨sx1.more (by simp),hr1,by rw [hto1];simp,.nil,e1,e2,e3,nd,fr⟩
        dsimp! [tBM,za7,zbx,tFld];simp! [tBM,za7,zbx,tFld,hs1,hto1]
        refine ⟨.inl ⟨rfl,_,SqL.of hto1⟩,T.cl_q94,T.n_q53,_,rfl,_,rfl,?_⟩
        refine zdq rfl fun s1 dx1 H2 hx1 sm1 es1=>⟨_,sm1 _ _ hto1,Nat.lt_of_le_of_lt hxs (by decide),?_⟩
        have b1:=b0.add hto n2 (k:=")") hx1 sm1 es1
        rw [List.reverse_nil,List.map_nil,List.append_nil] at b1
        generalize upd H2 todo (.lst (xs++[.ref s1]))=H3 at b1 ⊢
        refine zcf ?_
        dsimp! [zkf,zwn,tFld];simp! [zkf,zwn,tFld]
        have wd:=zlg ad ff
        rw [zbs] at wd
        refine ⟨_,_,_,b1.node,T.cl_q96,T.n_q66,_,rfl,_,_,rfl,md,_,wd,_,rfl,_,sq ff H3,?_⟩
        refine zo9 (((ff.kt.map fun s=>Str.ofString s)).map V.str) (fun i σ H'=>(∃ z,σ=[some (.ref row),some (.ref todo),some (.ref s),some (.ref n),z])∧∃ ss,BI T.C_q87 T.C_q91 T.C_Row T.C_q96 T.C_q94 H row la todo xs rr n dx wl' pl' (S (Vaunid.txt ff.word)) (t.start:Int) (d+1) H' ss (ff.kt.drop (ff.kt.length - i)++[")"]))
          ⟨⟨_,rfl⟩,[s1],by rw [Nat.sub_zero,List.drop_length];exact b1⟩ (fun i σ H' _ _=>sq ff H') (fun i x σ H' hx q=>?_) fun σ H' q=>?_
        · obtain ⟨⟨z,rfl⟩,ss,b2⟩:=q
          have hkl:ss.length=i+1∧ff.kt.length≤5∧i<ff.kt.length:=by
            have h1:=b2.steps.length
            rw [List.length_append,List.length_drop,List.length_singleton] at h1
            have h2:i<((((ff.kt.map fun s=>Str.ofString s)).map V.str).reverse).length:=(List.getElem?_eq_some_iff.mp hx).1
            rw [List.length_reverse,List.length_map,List.length_map] at h2
            have h3:=zum ff
            have h4:ff.kt.length=ff.sk.length:=by rw [← zvn,List.length_map]
            omega
          obtain ⟨hl1,hl2,hl3⟩:=hkl
          have hkx : ∃ kx,ff.kt.drop (ff.kt.length - (i+1))=kx::ff.kt.drop (ff.kt.length - i)∧x=V.str (Str.ofString kx):=by
            have e1:ff.kt.length - i=ff.kt.length - (i+1)+1:=by omega
            have hlt:ff.kt.length - (i+1)<ff.kt.length:=by omega
            refine ⟨ff.kt[ff.kt.length - (i+1)],by rw [e1];exact List.drop_eq_getElem_cons hlt,?_⟩
            rw [List.getElem?_reverse (by rw [List.length_map,List.length_map];exact hl3),List.length_map,List.length_map,List.getElem?_map,List.getElem?_map,show ff.kt.length - 1 - i=ff.kt.length - (i+1) by omega,List.getElem?_eq_getElem hlt] at hx
            exact (Option.some.inj hx).symm
          obtain ⟨kx,ek,rfl⟩:=hkx
          have hs2:H' s=some (.ins T.C_q94 dxs (zkh (Str.ofString k) o (d:Int))):=b2.sx _ _ (by
            have q1:s≠row:=zci hs h1 (by intro z;injection z with _ _ z;cases z)
            have q2:s≠todo:=zci hs hto (by intro z;cases z)
            simp [q1,q2]) hs
          have hto2:=b2.todo
          dsimp! [tBM,za7,zbx,tFld];simp! [tBM,za7,zbx,tFld,hs2]
          refine ⟨.inl ⟨rfl,_,SqL.of hto2⟩,T.cl_q94,T.n_q53,_,rfl,_,rfl,?_⟩
          refine zdq rfl fun s2 dx2 H4 hx2 sm2 es2=>⟨_,sm2 _ _ hto2,?_,?_⟩
          · rw [List.length_append,List.length_map,List.length_reverse]
            exact Nat.lt_of_le_of_lt (show _≤2000 by omega) (by decide)
          · refine ⟨s2::ss,?_⟩
            rw [ek]
            exact b2.add hto n2 hx2 sm2 es2
        · obtain ⟨⟨z,rfl⟩,ss,b2⟩:=q
          rw [List.length_map,List.length_map,Nat.sub_self,List.drop_zero,← zvn] at b2
          have keep : ∀ a u,H a=some u→a≠row→a≠todo→H' a=some u:=fun a u e q1 q2=>b2.sx _ _ (by simp [q1,q2]) e
          have hs2:=keep _ _ hs (zci hs h1 (by intro z;injection z with _ _ z;cases z)) (zci hs hto (by intro z;cases z))
          have ho2:=keep _ _ ho (zci ho h1 (by intro z;injection z with _ _ z;cases z)) (zci ho hto (by intro z;cases z))
          have hpl2:=keep _ _ hpl (zci hpl h1 (by intro z;cases z)) n1.symm
          dsimp! [tBM,za7,tFld];simp! [tBM,za7,tFld,hs2]
          refine ⟨T.cl_q94,T.n_q61,_,rfl,_,rfl,_,_,_,ho2,T.cl_q96,T.n_q42,_,rfl,(show tyV K "list" (.ref pl) _ from .inl ⟨rfl,_,SqL.of hpl2⟩),_,rfl,_,hpl2,Nat.lt_of_le_of_lt hps (by decide),?_⟩
          have nn : ∀ a,H a=none→a≠pl:=fun a ha z=>by rw [z,hpl] at ha;cases ha
          have su:zal [pl] H' (upd H' pl (.lst (ps++[.ref n]))):=zal.upd (List.mem_singleton.mpr rfl)
          have nt : ∀ x∈[pl],NT H' x:=fun x hx=>by rw [List.mem_singleton.mp hx];exact .lst hpl2
          have nrp:row≠pl:=zci h1 hpl (by intro z;cases z)
          have fr2 : ∀ a∈n::wl'::pl'::ss,a∉[pl]:=fun a ha=>nin (nn a (b2.fr a ha))
          exact kk n dx wl' pl' ss _ ((b2.sx.more (by simp)).trans (su.more (by simp))) (b2.row.keep su nt (nin nrp) (nin n3)) (su _ _ (nin n1) b2.todo) (b2.steps.keep (Kp.of su fun a ha=>fr2 a (by simp [ha]))) zad
            (su _ _ (fr2 n (by simp)) b2.node) (su _ _ (fr2 wl' (by simp)) b2.words) (su _ _ (fr2 pl' (by simp)) b2.parts) b2.nd b2.fr
      · rw [if_neg hk] at kk
        rw [if_neg (by rw [zbs];simp only [V.str.injEq,zfh];exact hk)]
        have gt:=hg t (List.mem_cons_self ..)
        refine ⟨rfl,la,t,l,hr0,fun b htk=>⟨b,t,rfl,htk,gt,?_⟩⟩
        cases hx:Vaunid.leafOf t.tok with
        | none=>rw [hx] at kk;exact kk
        | some x =>
          rw [hx] at kk
          intro n F H1 sm tr nd fr
          have hr1:=hr0.same sm
          have hr1':=hr1
          obtain ⟨dx1,as1,i1,q1,q2,q3⟩:=hr1'
          refine ⟨_,_,q1,rfl,la,t,l,hr1,fun b2 H2 _ sx2 hr2=>?_⟩
          have keep : ∀ a u,H a=some u→a≠row→H2 a=some u:=fun a u e q1=>sx2 _ _ (by simp [q1]) (sm _ _ e)
          have hs2:=keep _ _ hs (zci hs h1 (by intro z;injection z with _ _ z;cases z))
          have ho2:=keep _ _ ho (zci ho h1 (by intro z;injection z with _ _ z;cases z))
          have hpl2:=keep _ _ hpl (zci hpl h1 (by intro z;cases z))
          dsimp! [tBM,za7,tFld];simp! [tBM,za7,tFld,hs2]
          refine ⟨T.cl_q94,T.n_q61,_,rfl,_,rfl,_,_,_,ho2,T.cl_q96,T.n_q42,_,rfl,(show tyV K "list" (.ref pl) _ from .inl ⟨rfl,_,SqL.of hpl2⟩),_,rfl,_,hpl2,Nat.lt_of_le_of_lt hps (by decide),?_⟩
          have su:zal [pl] H2 (upd H2 pl (.lst (ps++[.ref n]))):=zal.upd (List.mem_singleton.mpr rfl)
          have nt : ∀ x∈[pl],NT H2 x:=fun x hx=>by rw [List.mem_singleton.mp hx];exact .lst hpl2
          have nrp:row≠pl:=zci h1 hpl (by intro z;cases z)
          have nn : ∀ a,H a=none→a≠pl∧a≠row:=fun a ha=>⟨fun z=>(by rw [z,hpl] at ha;cases ha),fun z=>(by rw [z,h1] at ha;cases ha)⟩
          exact kk n F _ (((zal.of sm).trans (sx2.more (by simp))).trans (su.more (by simp))) (hr2.keep su nt (nin nrp) (nin n3)) zad (tr.keep fun a ha u e=>su _ _ (nin (nn a (fr a ha)).1) (sx2 _ _ (nin (nn a (fr a ha)).2) e)) nd fr
noncomputable def zxf (Ca Ct Cr Cn Cs C:Addr):Sp:=fun vs H Q E=>∃ (row la todo wh st:Addr) (H0:Hp) (s:MS) (ss own:List Addr) (r:Vaunid.Res MS),vs=[.ref row,.ref todo,.ref st]∧Same H0 H∧zb3 Ca Ct Cr H row la s.l∧zb1 s.l∧Lv s.fs∧Stk Cn Cs H wh s.fs [] (st::ss) own∧H todo=some (.lst (ss.reverse.map V.ref)) ∧
  (row::todo::la::(own++(st::ss))).Nodup∧(∀ a∈row::todo::own,H0 a=none)∧zc7 s=some r∧(match r with
    | .error e=>ExF C E H (e.kind:Int) (e.place:Int)
    | .ok s'=>∀ H',AtM Ca Ct Cr Cn Cs H0 H' row la todo wh s'→Q .non H')
theorem zcq:[V.str "part",V.str "body"]=(([Vaunid.txt "part",Vaunid.txt "body"]).map S).map V.str:=by decide +kernel
theorem ok_q93 (T:TX w K mg):FnOk P w K mg base (CX1 P w) 6 T.f_q93 T.d_q93 ["row","todo","step"] (zxf T.C_q87 T.C_q91 T.C_Row T.C_q96 T.C_q94 T.C_q90):=by
  have G_q13:=zk2 (P:=P) (w:=w) (base:=base) T
  have G_q59:=ok_q59 (P:=P) (w:=w) (base:=base) T
  have G_q37:=ok_q37 (P:=P) (w:=w) (base:=base) T
  refine T.F_q93.fn.okX sc_q93 (fun vs H Q E h=>?_) (fun cdv A outer s H vs Q E hr h=>?_)
  · obtain ⟨row,la,todo,wh,st,H0,s,ss,own,r,rfl,_⟩:=h
    rfl
  · obtain ⟨row,la,todo,wh,st,H0,⟨fs,l,res⟩,ss,own,r,rfl,sm0,hrow,hg,hlv,hstk,hto,hnd,hfr,hst,k⟩:=h
    refine ⟨_,(zab (zao (i:=3) (sc_q93).nd rfl (Or.inl rfl) (zan (pv 2) rfl))
      (zae (zbk (zam zdp (zan (pv 2) rfl) (pe_r T.g_q40) rfl) (zae (zbq (zaj G_q59 (hr.mono (by decide)) rfl T.F_q59.mg T.F_q59.fn.kp T.F_q59.b .nil za5 (zaa (pv 0) (zaa (pv 1) (zaa (pv 2) zac)))))) (zae (zbk (zam zcr (zan (pv 2) rfl) zax (zay _)) (zae (zbq (ze3 PySem.F.plainAttrs_list PySem.F.slot_list_append PySem.F.type_list_append zbj (zan (pv 3) rfl) (zaa (zan (zmf (pv 0) T.cl_Row T.m_q13 G_q13 (hr.mono (by decide)) T.b_q13 .nil za5 (zaa zax zac)) rfl) zac)))) (zae (zbk (zam zcr (zan (pv 2) rfl) zax (zay _)) (zae (zbq (ze3 PySem.F.plainAttrs_list PySem.F.slot_list_append PySem.F.type_list_append zbj (zan (pv 3) rfl) (zaa (zaj G_q37 (hr.mono (by decide)) rfl T.F_q37.mg T.F_q37.fn.kp T.F_q37.b .nil zav (zaa (zan (zmf (pv 0) T.cl_Row T.m_q13 G_q13 (hr.mono (by decide)) T.b_q13 .nil za5 (zaa zax zac)) rfl) zac)) zac)))) (zae (zb7 (pv 3) (zan (zmf (pv 0) T.cl_Row T.m_q13 G_q13 (hr.mono (by decide)) T.b_q13 .nil za5 (zaa (zan (pv 2) rfl) zac)) rfl) rfl))))))))),?_⟩
    have hr0:=hrow
    obtain ⟨dx,as,i,h1,h2,h3⟩:=hrow
    cases fs with
    | nil=>cases hst
    | cons pf fs =>
    cases l with
    | nil=>cases hst
    | cons t l =>
    obtain ⟨n,ss1,ss2,own2,dxn,wl,pl,as',F,e0,hf,hb,ess,rfl⟩:=hstk.top
    have lvs : ∀ s',zc7 ⟨pf::fs,t::l,res⟩=some (.ok s')→Lv s'.fs:=fun s' e=>zwf hlv e
    obtain ⟨form,ws,b,ts,ks,c,d⟩:=pf
    have gl:zb1 l:=fun k hk=>hg k (List.mem_cons_of_mem _ hk)
    have gt:zbb t.tok:=hg t (List.mem_cons_self ..)
    have hn:=hf.node
    have hw:=hf.words
    have hp:=hf.parts
    have hstp:=hf.steps
    have hnd':=hnd
    rw [ess] at hnd'
    have dj:=zt8 hnd'
    have ra:=dj.ra
    have ta:=dj.ta
    have laa:=dj.laa
    simp at ra ta laa
    obtain ⟨rn,rw',rp⟩:=ra
    obtain ⟨tn,tw,tp⟩:=ta
    obtain ⟨lan,law,lap⟩:=laa
    have cnt5:=hlv.1
    simp only [cnt] at cnt5
    obtain ⟨kw,krest,ek⟩ : ∃ kw krest,ks.map SK.w++[c]=kw::krest:=by
      cases ks with
      | nil=>exact ⟨_,_,rfl⟩
      | cons a r=>exact ⟨_,_,rfl⟩
    replace hstp:zet T.C_q94 H ss1 (ks.map SK.w++[c]) n d:=hstp
    rw [ek] at hstp
    cases hstp with
    | cons h5 h6 =>
    rename_i st' ss1
    obtain ⟨dxs,hs⟩:=h5
    injection ess with ess1 ess2
    subst ess1 ess2
    have hc:=hlv.2.1
    dsimp! [zgb,zfl,tFld,tBM,za7,sFld];simp! [zgb,zfl,tFld,tBM,za7,sFld,hs,h1]
    refine ⟨T.cl_q94,T.n_q61,_,rfl,T.cl_q94,T.n_q64,_,rfl,_,.inr (T.t_q40 H),rfl,rfl,?_⟩
    cases ks with
    | nil =>
      injection ek with ek1 ek2
      subst ek1 ek2
      cases h6
      have hc:c=")"∨c="end":=hc
      rw [show (V.str (Str.ofString c))=V.str (S (Vaunid.txt c)) by rw [zbs],zcq,in_S,decide_eq_false (by rcases hc with rfl | rfl <;> decide +kernel)]
      rw [if_neg (by simp)]
      refine ⟨T.cl_q94,T.n_q64,_,rfl,rfl,?_⟩
      rw [if_neg (show ¬ V.str (Str.ofString c)=V.str (Str.ofString "name") by simp only [V.str.injEq];rcases hc with rfl | rfl <;> decide +kernel)]
      refine ⟨T.cl_q94,T.n_q64,_,rfl,rfl,?_⟩
      rw [if_neg (show ¬ V.str (Str.ofString c)=V.str (Str.ofString "power") by simp only [V.str.injEq];rcases hc with rfl | rfl <;> decide +kernel)]
      refine ⟨rfl,T.cl_q94,T.n_q64,_,rfl,la,t,l,Vaunid.txt c,by rw [← zbs],hr0,?_⟩
      by_cases hk:kindOf t.tok=Vaunid.txt c
      · rw [if_pos hk]
        intro b2 H1 ⟨dt,ct,e3,_⟩ sx1 hr1
        have hn1:H1 n=some (.ins T.C_q96 dxn (zcb (S form) wl pl (b:Int) (e0:Int))):=sx1 _ _ (nin (Ne.symm rn)) hn
        refine ⟨T.C_q91,dt,_,e3,T.cl_q91,T.n_q70,_,rfl,_,rfl,_,_,_,hn1,T.cl_q96,T.n_q75,(by show 5<1000;decide),?_⟩
        have su:zal [n] H1 (upd H1 n (.ins T.C_q96 dxn (zcb (S form) wl pl (b:Int) (t.halt_:Int)))):=zal.upd (List.mem_singleton.mpr rfl)
        have nt : ∀ x∈[n],NT H1 x:=fun x hx=>by rw [List.mem_singleton.mp hx];exact .node hn1
        have sxx:zal [row,n] H (upd H1 n (.ins T.C_q96 dxn (zcb (S form) wl pl (b:Int) (t.halt_:Int)))):=(sx1.more (by simp)).trans (su.more (by simp))
        have fin:=zsk (e':=t.halt_) (res:=res) sm0 hto hr0 hf hb hnd' hfr sxx (hr1.keep su nt (nin rn) (nin lan)) gl zad
        show Q V.non (upd H1 n (.ins T.C_q96 dxn (zcb (S form) wl pl (b:Int) (t.halt_:Int))))
        cases fs with
        | nil =>
          have hst':zc7 ⟨[⟨form,ws,b,ts,[],c,d⟩],t::l,res⟩=some (if kindOf t.tok=Vaunid.txt c then .ok ⟨[],l,[PF.done ⟨form,ws,b,ts,[],c,d⟩ t.halt_]⟩ else Vaunid.fault 6 t.start):=rfl
          rw [hst',if_pos hk] at hst
          injection hst with hst
          subst hst
          exact k _ fin
        | cons g fs =>
          have hst':zc7 ⟨⟨form,ws,b,ts,[],c,d⟩::g::fs,t::l,res⟩=some (if kindOf t.tok=Vaunid.txt c then .ok ⟨{ g with ts:=g.ts++[PF.done ⟨form,ws,b,ts,[],c,d⟩ t.halt_] }::fs,l,res⟩ else Vaunid.fault 6 t.start):=rfl
          have lv2:=lvs _ (by rw [hst',if_pos hk])
          rw [hst',if_pos hk] at hst
          injection hst with hst
          subst hst
          exact k _ (fin lv2)
      · rw [if_neg hk]
        have hst' : ∃ z,zc7 ⟨⟨form,ws,b,ts,[],c,d⟩::fs,t::l,res⟩=some (if kindOf t.tok=Vaunid.txt c then z else Vaunid.fault 6 t.start):=⟨_,rfl⟩
        obtain ⟨z,hst'⟩:=hst'
        rw [hst',if_neg hk] at hst
        injection hst with hst
        subst hst
        exact k
    | cons kk ks =>
      injection ek with ek1 ek2
      subst ek1 ek2
      rw [List.length_cons] at cnt5
      cases kk with
      | n =>
        rw [show (V.str (Str.ofString SK.n.w))=V.str (S (Vaunid.txt "name")) by rw [zbs];rfl,zcq,in_S,decide_eq_false (by decide +kernel)]
        rw [if_neg (by simp)]
        refine ⟨T.cl_q94,T.n_q64,_,rfl,rfl,?_⟩
        rw [if_pos (show V.str (Str.ofString SK.n.w)=V.str (Str.ofString "name") from rfl)]
        refine ⟨_,rfl,_,_,_,hn,T.cl_q96,T.n_q51,_,rfl,(show tyV K "list" (.ref wl) _ from .inl ⟨rfl,_,SqL.of hw⟩),rfl,la,t,l,Vaunid.txt "name",zbs _,hr0,?_⟩
        have hst':zc7 ⟨⟨form,ws,b,ts,.n::ks,c,d⟩::fs,t::l,res⟩=some (if kindOf t.tok=Vaunid.txt "name" then .ok ⟨⟨form,ws++[zgv t.tok],b,ts,ks,c,d⟩::fs,l,res⟩ else Vaunid.fault 6 t.start):=rfl
        rw [hst'] at hst
        injection hst with hst
        by_cases hk:kindOf t.tok=Vaunid.txt "name"
        · rw [if_pos hk] at hst ⊢
          rw [if_pos hk] at hst'
          subst hst
          have lv2:=lvs _ hst'
          intro b2 H1 htk sx1 hr1
          obtain ⟨wd,e1,e2⟩:=(zhx gt).mp hk
          obtain ⟨dt,ct,e3,e4⟩:=htk
          rw [e1] at e4
          have ec:ct=V.str (S wd):=e4
          have hw1:H1 wl=some (.lst ((ws.map S).map V.str)):=sx1 _ _ (nin (Ne.symm rw')) hw
          refine ⟨T.C_q91,dt,_,e3,T.cl_q91,T.n_q11,_,rfl,_,rfl,_,hw1,?_,?_⟩
          · rw [List.length_map,List.length_map]
            exact Nat.lt_of_le_of_lt (show ws.length≤5 by omega) (by decide)
          · rw [ec]
            refine k _ ?_
            have su:zal [wl] H1 (upd H1 wl (.lst ((ws.map S).map V.str++[.str (S wd)]))):=zal.upd (List.mem_singleton.mpr rfl)
            have nt : ∀ x∈[wl],NT H1 x:=fun x hx=>by rw [List.mem_singleton.mp hx];exact .lst hw1
            have sxx:zal [row,n,wl,pl] H (upd H1 wl (.lst ((ws.map S).map V.str++[.str (S wd)]))):=(sx1.more (by simp)).trans (su.more (by simp))
            have s2:zal [row,wl] H (upd H1 wl (.lst ((ws.map S).map V.str++[.str (S wd)]))):=(sx1.more (by simp)).trans (su.more (by simp))
            refine zm9 (as':=as') (G:=[]) (e':=e0) sm0 hto hr0 hf hb hnd' hfr sxx (hr1.keep su nt (nin rw') (nin law)) gl lv2 (s2 _ _ (by simp;exact ⟨Ne.symm rn,dj.nw⟩) hn) ?_ (s2 _ _ (by simp;exact ⟨Ne.symm rp,Ne.symm dj.wp⟩) (by rw [hp,List.append_nil])) ?_ .nil (by simp) h6
            · rw [zad,e1]
              simp only [zgv,List.map_append,List.map_cons,List.map_nil]
            · rw [List.append_nil]
              exact hf.trees.keep fun a ha o q=>sxx a o (fun m=>dj.out a (by simp [ha]) (by simp at m ⊢;rcases m with h | h | h | h <;> simp [h])) q
        · rw [if_neg hk] at hst ⊢
          subst hst
          exact k
      | pw =>
        rw [show (V.str (Str.ofString SK.pw.w))=V.str (S (Vaunid.txt "power")) by rw [zbs];rfl,zcq,in_S,decide_eq_false (by decide +kernel)]
        rw [if_neg (by simp)]
        refine ⟨T.cl_q94,T.n_q64,_,rfl,rfl,?_⟩
        rw [if_neg (show ¬ V.str (Str.ofString SK.pw.w)=V.str (Str.ofString "name") by simp only [V.str.injEq];decide +kernel)]
        refine ⟨T.cl_q94,T.n_q64,_,rfl,rfl,?_⟩
        rw [if_pos (show V.str (Str.ofString SK.pw.w)=V.str (Str.ofString "power") from rfl)]
        refine ⟨_,rfl,_,_,_,hn,T.cl_q96,T.n_q51,_,rfl,(show tyV K "list" (.ref wl) _ from .inl ⟨rfl,_,SqL.of hw⟩),rfl,la,t,l,Vaunid.txt "digit",zbs _,hr0,?_⟩
        have hst':zc7 ⟨⟨form,ws,b,ts,.pw::ks,c,d⟩::fs,t::l,res⟩=some (if kindOf t.tok=Vaunid.txt "digit" then .ok ⟨⟨form,ws++[zmw t.tok],b,ts,ks,c,d⟩::fs,l,res⟩ else Vaunid.fault 6 t.start):=rfl
        rw [hst'] at hst
        injection hst with hst
        by_cases hk:kindOf t.tok=Vaunid.txt "digit"
        · rw [if_pos hk] at hst ⊢
          rw [if_pos hk] at hst'
          subst hst
          have lv2:=lvs _ hst'
          intro b2 H1 htk sx1 hr1
          obtain ⟨v,m,e1⟩:=(zfv gt).mp hk
          obtain ⟨dt,ct,e3,e4⟩:=htk
          rw [e1] at e4 gt
          obtain ⟨am,ec,ha⟩:=e4
          have glit:zj5 v:=⟨gt.1,gt.2.1,gt.2.2.1⟩
          have hw1:H1 wl=some (.lst ((ws.map S).map V.str)):=sx1 _ _ (nin (Ne.symm rw')) hw
          refine ⟨T.C_q91,dt,_,e3,T.cl_q91,T.n_q11,_,rfl,am,v,by rw [ec],ha,glit,_,rfl,_,hw1,?_,?_⟩
          · rw [List.length_map,List.length_map]
            exact Nat.lt_of_le_of_lt (show ws.length≤5 by omega) (by decide)
          · refine k _ ?_
            have su:zal [wl] H1 (upd H1 wl (.lst ((ws.map S).map V.str++[.str (S (Vaunid.shownLit v))]))):=zal.upd (List.mem_singleton.mpr rfl)
            have nt : ∀ x∈[wl],NT H1 x:=fun x hx=>by rw [List.mem_singleton.mp hx];exact .lst hw1
            have sxx:zal [row,n,wl,pl] H (upd H1 wl (.lst ((ws.map S).map V.str++[.str (S (Vaunid.shownLit v))]))):=(sx1.more (by simp)).trans (su.more (by simp))
            have s2:zal [row,wl] H (upd H1 wl (.lst ((ws.map S).map V.str++[.str (S (Vaunid.shownLit v))]))):=(sx1.more (by simp)).trans (su.more (by simp))
            refine zm9 (as':=as') (G:=[]) (e':=e0) sm0 hto hr0 hf hb hnd' hfr sxx (hr1.keep su nt (nin rw') (nin law)) gl lv2 (s2 _ _ (by simp;exact ⟨Ne.symm rn,dj.nw⟩) hn) ?_ (s2 _ _ (by simp;exact ⟨Ne.symm rp,Ne.symm dj.wp⟩) (by rw [hp,List.append_nil])) ?_ .nil (by simp) h6
            · rw [zad,e1]
              simp only [zmw,List.map_append,List.map_cons,List.map_nil]
            · rw [List.append_nil]
              exact hf.trees.keep fun a ha o q=>sxx a o (fun m=>dj.out a (by simp [ha]) (by simp at m ⊢;rcases m with h | h | h | h <;> simp [h])) q
        · rw [if_neg hk] at hst ⊢
          subst hst
          exact k
      | p bb =>
        rw [show (V.str (Str.ofString (SK.p bb).w))=V.str (S (Vaunid.txt (SK.p bb).w)) by rw [zbs],zcq,in_S,decide_eq_true (by cases bb <;> decide +kernel)]
        rw [if_pos rfl]
        have hlen:((ss1++ss2).reverse.map V.ref).length≤1000:=by
          have q1:=hb.len hlv.2.2.2.2
          have q2:=hf.steps.length
          have q3:=hlv.2.2.1
          have q4:=hlv.2.2.2.1
          rw [List.length_map,List.length_reverse,List.length_append]
          simp only [List.length_append,List.length_map,List.length_cons,List.length_nil] at q2 q3 q4
          omega
        refine ⟨row,la,todo,st,n,dxn,wl,pl,(SK.p bb).w,d,t,l,_,as'.map V.ref,S form,(b:Int),(e0:Int),rfl,⟨dxs,hs⟩,hr0,hg,hto,hlen,hn,by rw [hp,List.append_nil],?_,tp,Ne.symm dj.tla,lap,?_⟩
        · rw [List.length_map,hf.trees.length]
          show ts.length≤100
          omega
        have hst':zc7 ⟨⟨form,ws,b,ts,.p bb::ks,c,d⟩::fs,t::l,res⟩=(if d=40 then some (Vaunid.fault 8 t.start)
            else if kindOf t.tok=Vaunid.txt "(" then (if l.isEmpty=true then none else some (.ok ⟨zf0 t.start (d+1) l::⟨form,ws,b,ts,ks,c,d⟩::fs,(zak l).2,res⟩))
            else match Vaunid.leafOf t.tok with
              | some x=>some (.ok ⟨⟨form,ws,b,ts++[zk7 t x],ks,c,d⟩::fs,l,res⟩)
              | none=>some (Vaunid.fault 6 t.start)):=rfl
        rw [hst'] at hst
        by_cases hd:d=40
        · rw [if_pos hd] at hst ⊢
          injection hst with hst
          subst hst
          exact k
        · rw [if_neg hd] at hst hst' ⊢
          by_cases hk:kindOf t.tok=Vaunid.txt "("
          · rw [if_pos hk] at hst hst' ⊢
            by_cases hl:l.isEmpty=true
            · rw [if_pos hl] at hst
              cases hst
            · rw [if_neg hl] at hst hst'
              injection hst with hst
              subst hst
              have lv2:=lvs _ hst'
              refine ⟨fun z=>hl (by rw [z];rfl),fun n' dx' wl' pl' ss' H' sx hr' hto' st' pa' no' wo' pp' nd' fr'=>k H' ?_⟩
              have gb:zb1 (zak l).2:=by
                obtain ⟨pre,epre⟩:=zh3 l
                rw [epre] at gl
                exact gl.suf
              exact zuc (pn:=zf0 t.start (d+1) l) (e':=t.start) sm0 hto hr0 hf hb hnd' hfr lv2 sx hr' gb hto' st' pa' no' wo' pp' rfl rfl nd' fr' rfl rfl rfl rfl h6
          · rw [if_neg hk] at hst hst' ⊢
            cases hx:Vaunid.leafOf t.tok with
            | none =>
              rw [hx] at hst
              injection hst with hst
              subst hst
              exact k
            | some x =>
              rw [hx] at hst hst'
              injection hst with hst
              subst hst
              have lv2:=lvs _ hst'
              intro n' F' H' sx hr' pa' tr' nd' fr'
              have out : ∀ a,a∉[row,n,wl,pl]→a∉[row,pl]:=fun a m z=>m (by simp at z ⊢;rcases z with h | h <;> simp [h])
              refine k H' (zm9 (as':=as'++[n']) (G:=F') (e':=e0) sm0 hto hr0 hf hb hnd' hfr (sx.more (by simp)) hr' gl lv2 (sx _ _ (by simp;exact ⟨Ne.symm rn,dj.np⟩) hn) (sx _ _ (by simp;exact ⟨Ne.symm rw',dj.wp⟩) hw) (by rw [pa',List.map_append];rfl) ?_ nd' fr' h6)
              exact (hf.trees.keep fun a ha o q=>sx a o (fun m=>dj.out a (by simp [ha]) (by simp at m ⊢;rcases m with h | h <;> simp [h])) q).snoc tr'
end
set_option maxHeartbeats 2000000
section
variable {P:Program}{w:World}{K:PySem.W.Frag}{mg:Str→Option Value}{base:Heap}
noncomputable def zfm (Cn:Addr):Sp:=fun vs H Q _=>∃ (a:Addr) (tr:Tr) (F:List Addr),vs=[.ref a]∧TreeAt Cn H a tr F∧(zb0 1 tr).length≤10000∧∀ (p:Addr) (items:List Addr) (H':Hp),Same H H'→H' p=some (.lst (items.map V.ref))→Paired (zc4 Cn H H') items (zb0 1 tr)→Q (.ref p) H'
theorem zc4.keep {Cn:Addr}{H H1 H2:Hp}{xs:List Addr} (sx:zal xs H1 H2) (nt : ∀ x∈xs,∃ l,H1 x=some (.lst l)) {it:Addr}{p:Nat×Tr} (h:zc4 Cn H H1 it p):zc4 Cn H H2 it p:=by
  obtain ⟨a,F,e,t⟩:=h
  refine ⟨a,F,sx _ _ (fun m=>?_) e,t⟩
  obtain ⟨l,q⟩:=nt _ m
  rw [q] at e
  cases e
theorem zfr {A B:Type}{R:A→B→Prop} : ∀ {l l2:List A}{m m2:List B},Paired R l m→Paired R l2 m2→Paired R (l++l2) (m++m2)
  | _,_,_,_,.nil,h=>h
  | _,_,_,_,.cons r t,h => .cons r (zfr t h)
theorem ok_q71 (T:TX w K mg):FnOk P w K mg base CX0 1 T.f_q71 T.d_q71 ["term"] (zfm T.C_q96):=by
  refine T.F_q71.fn.ok sc_q71 (fun vs H Q E h=>?_) (fun cdv A outer s H vs Q E hr h=>?_)
  · obtain ⟨a,tr,F,rfl,_⟩:=h
    rfl
  · obtain ⟨a,tr,F,rfl,htr,hlen,k⟩:=h
    refine ⟨_,(zab (zao (i:=1) (sc_q71).nd rfl (Or.inl rfl) (zb2 zac))
      (zab (zao (i:=2) (sc_q71).nd rfl (Or.inl rfl) (zb2 (zaa (ze1 (zaa (pv 0) (zaa zai zac))) zac)))
      (zab (zd2 PassesOwn.never (zjl (pv 2) (fun _=>rfl)) (zab (zao (i:=3) (sc_q71).nd rfl (Or.inl rfl) (zq3 PySem.F.plainAttrs_list PySem.F.slot_list_pop PySem.F.type_list_pop zre (pv 2)))
      (zab (zbq (ze3 PySem.F.plainAttrs_list PySem.F.slot_list_append PySem.F.type_list_append zbj (pv 1) (zaa (pv 3) zac)))
      (zae (zik PassesOwn.never rfl (zhk rfl T.b_reversed (zaa (zan (zbw zcz (pv 3) zai (fun _ _=>rfl)) rfl) zac)) (zcg (i:=4) (sc_q71).nd rfl (Or.inl rfl)) (zae (zbq (ze3 PySem.F.plainAttrs_list PySem.F.slot_list_append PySem.F.type_list_append zbj (pv 2) (zaa (ze1 (zaa (pv 4) (zaa (zb8 zdi (zbw zcz (pv 3) zai (fun _ _=>rfl)) zai) zac))) zac)))))))))
      (zae (zap (pv 1)))))),?_⟩
    dsimp! [];simp! []
    refine ⟨Nat.zero_le _,fun fd hfd=>⟨by decide,fun it0 hit0=>⟨by decide,fun td htd=>?_⟩⟩⟩
    have nf:fd≠it0:=fun z=>by rw [z,zad] at hit0;cases hit0
    have hit00:H it0=none:=by rw [zah (Ne.symm nf)] at hit0;exact hit0
    have ntd:td≠it0:=fun z=>by rw [z,zad] at htd;cases htd
    have ntf:td≠fd:=fun z=>by rw [zah ntd,z,zad] at htd;cases htd
    have htd0:H td=none:=by rw [zah ntd,zah ntf] at htd;exact htd
    obtain ⟨Pv,hPv⟩ : ∃ Pv:Nat→L2.St→Hp→Prop,Pv=fun m σ H'=>Same H H'∧∃ (dn sk:List Addr) (dl sl:List (Nat×Tr)) (z z2:Option V),m=(zfa sl).length∧σ=[some (.ref a),some (.ref fd),some (.ref td),z,z2]∧H' fd=some (.lst (dn.map V.ref))∧H' td=some (.lst (sk.map V.ref)) ∧
      Paired (zc4 T.C_q96 H H') dn dl∧Paired (zc4 T.C_q96 H H') sk sl∧zb0 1 tr=dl++zfa sl:=⟨_,rfl⟩
    refine zfi Pv _ (by
      rw [hPv]
      refine ⟨?_,[],[it0],[],[(1,tr)],none,none,rfl,rfl,?_,zad,.nil,.cons ⟨a,F,?_,htr⟩ .nil,?_⟩
      · exact (Same.upd hfd).trans ((Same.upd hit0).trans (Same.upd htd))
      · rw [zah (Ne.symm ntf),zah nf]
        exact zad
      · rw [zah (Ne.symm ntd)]
        exact zad
      · show zb0 1 tr=[]++zfa ([]++[(1,tr)])
        rw [zd6]
        show _=zb0 1 tr++[]
        rw [List.append_nil]) fun m σ H' hp=>?_
    rw [hPv] at hp
    obtain ⟨sm,dn,sk,dl,sl,z,z2,rfl,rfl,hf,ht,pd,ps,hfl⟩:=hp
    dsimp! [];simp! []
    by_cases hsk:sk=[]
    · subst hsk
      cases ps
      refine ⟨false,.inl ⟨_,SqL.of ht,rfl⟩,?_⟩
      rw [if_neg (by simp)]
      rw [show zfa []=[] from rfl,List.append_nil] at hfl
      exact k fd dn H' sm hf (by rw [hfl];exact pd)
    · refine ⟨true,.inl ⟨_,SqL.of ht,by cases sk with | nil=>exact absurd rfl hsk | cons _ _=>rfl⟩,?_⟩
      rw [if_pos rfl]
      refine ⟨_,fun _ _ z=>z,?_⟩
      obtain ⟨sk',it,sl',⟨d,t⟩,rfl,rfl,ps',hit⟩:=zeg ps hsk
      obtain ⟨n,Fn,hitv,htn⟩:=hit
      have hlens:dn.length≤10000∧sk'.length≤10000∧sk'.length+t.parts.length≤10000:=by
        have q1:=Paired.length pd
        have q2:=Paired.length ps'
        have q3:=zry (sl'++(t.parts.reverse.map fun x=>(d+1,x)))
        rw [zem,List.length_append,List.length_map,List.length_reverse] at q3
        rw [hfl,List.length_append,zd6,List.length_append] at hlen
        have q4:zb0 d t=(d,t)::zd8 (d+1) t.parts:=by cases t;rfl
        rw [q4,List.length_cons] at hlen
        rw [List.length_append] at q3
        omega
      obtain ⟨hl1,hl2,hl3⟩:=hlens
      have ht':H' td=some (.lst (sk'.map V.ref++[.ref it])):=by rw [ht,List.map_append];rfl
      dsimp! [tBM0,rPop,tBM,za7];simp! [tBM0,rPop,tBM,za7]
      refine ⟨.inl ⟨rfl,_,SqL.of ht⟩,_,ht',V.ref it,by simp,?_⟩
      rw [List.dropLast_concat]
      have sx1:zal [td] H' (upd H' td (.lst (sk'.map V.ref))):=zal.upd (List.mem_singleton.mpr rfl)
      have e1:upd H' td (.lst (sk'.map V.ref)) td=some (.lst (sk'.map V.ref)):=zad
      generalize upd H' td (.lst (sk'.map V.ref))=H1 at sx1 e1 ⊢
      have hf1:=sx1 _ _ (nin (Ne.symm ntf)) hf
      refine ⟨.inl ⟨rfl,_,SqL.of hf1⟩,_,hf1,by rw [List.length_map];exact Nat.lt_of_le_of_lt hl1 (by decide),?_⟩
      have sx2:zal [fd] H1 (upd H1 fd (.lst (dn.map V.ref++[.ref it]))):=zal.upd (List.mem_singleton.mpr rfl)
      have e2:upd H1 fd (.lst (dn.map V.ref++[.ref it])) fd=some (.lst (dn.map V.ref++[.ref it])):=zad
      have e12:=sx2 _ _ (nin ntf) e1
      generalize upd H1 fd (.lst (dn.map V.ref++[.ref it]))=H2 at sx2 e2 e12 ⊢
      have sx12:zal [fd,td] H' H2:=(sx1.more (by simp)).trans (sx2.more (by simp))
      have nt12 : ∀ x∈[fd,td],∃ l,H' x=some (.lst l):=fun x hx=>by
        rcases List.mem_cons.mp hx with rfl | hx
        · exact ⟨_,hf⟩
        · rw [List.mem_singleton.mp hx];exact ⟨_,ht⟩
      have pd2:Paired (zc4 T.C_q96 H H2) dn dl:=Paired.mapP pd fun _ _ q=>q.keep sx12 nt12
      have ps2:Paired (zc4 T.C_q96 H H2) sk' sl':=Paired.mapP ps' fun _ _ q=>q.keep sx12 nt12
      have it2:zc4 T.C_q96 H H2 it (d,t):=zc4.keep sx12 nt12 ⟨n,Fn,hitv,htn⟩
      obtain ⟨n',Fn',hitv2,_⟩:=it2
      have hn':n'=n:=by
        have:=sx12 _ _ (fun m=>by
          obtain ⟨l,q⟩:=nt12 _ m
          rw [q] at hitv
          cases hitv) hitv
        rw [this] at hitv2
        cases hitv2
        rfl
      subst hn'
      have sm2:Same H H2:=sx12.base sm (fun x hx=>by
        rcases List.mem_cons.mp hx with rfl | hx
        · exact hfd
        · rw [List.mem_singleton.mp hx];exact htd0)
      cases htn with
      | @mk _ dxn wl pl f ws b e as ps3 G t1 t2 t3 t4 =>
      have t1':=sm2 _ _ t1
      have t3':=sm2 _ _ t3
      refine zcf ?_
      dsimp! [iRev,tFld];simp! [iRev,tFld]
      refine ⟨_,SqT.of hitv2,_,rfl,_,rfl,_,_,_,t1',T.cl_q96,T.n_q42,_,rfl,_,rfl,_,SqL.of t3',?_⟩
      refine zlf (as.map V.ref) (fun i σ H3=>(∃ z2,σ=[some (.ref a),some (.ref fd),some (.ref td),some (.ref it),z2])∧zal [td] H2 H3∧∃ nw,H3 td=some (.lst ((sk'++nw).map V.ref))∧Paired (zc4 T.C_q96 H H3) nw ((ps3.reverse.take i).map fun t=>(d+1,t)))
        ⟨⟨_,rfl⟩,fun _ _ _ q=>q,[],by rw [List.append_nil];exact e12,.nil⟩ (fun i σ H3 _ q=>SqL.of (q.2.1 _ _ (nin (zag t3 htd0)) t3')) (fun i x σ H3 hx q=>?_) fun σ H3 q=>?_
      · obtain ⟨⟨z2,rfl⟩,sx3,nw,hnw,pnw⟩:=q
        have hit3:=sx3 _ _ (nin (zci hitv2 e12 (by intro z;cases z))) hitv2
        rw [← List.map_reverse,List.getElem?_map] at hx
        cases qa:as.reverse[i]? with
        | none=>rw [qa] at hx;cases hx
        | some c =>
          rw [qa] at hx
          cases hx
          have hil:i<as.length:=by
            have:=(List.getElem?_eq_some_iff.mp qa).1
            rw [List.length_reverse] at this
            exact this
          have hal:=t4.length
          rw [List.getElem?_reverse hil] at qa
          obtain ⟨tc,Gc,hc1,hc2⟩:=t4.get qa
          have hnl:nw.length=i:=by
            have:=Paired.length pnw
            rw [List.length_map,List.length_take,List.length_reverse] at this
            omega
          dsimp! [tBM,za7];simp! [tBM,za7]
          refine ⟨.inl ⟨rfl,_,SqL.of hnw⟩,_,SqT.of hit3,_,rfl,_,rfl,by decide,fun q hq=>?_⟩
          have s4:Same H3 (upd H3 q (.tup [.ref c,.int ((d:Int)+1)])):=Same.upd hq
          have e4:upd H3 q (.tup [.ref c,.int ((d:Int)+1)]) q=some (.tup [.ref c,.int ((d:Int)+1)]):=zad
          generalize upd H3 q (.tup [.ref c,.int ((d:Int)+1)])=H4 at s4 e4 ⊢
          have hnw4:=s4 _ _ hnw
          have sx5:zal [td] H4 (upd H4 td (.lst ((sk'++nw).map V.ref++[.ref q]))):=zal.upd (List.mem_singleton.mpr rfl)
          have nt5 : ∀ x∈[td],∃ l,H4 x=some (.lst l):=fun x hx=>by rw [List.mem_singleton.mp hx];exact ⟨_,hnw4⟩
          refine ⟨_,hnw4,?_,sx3.trans ((zal.of s4).trans sx5),nw++[q],?_,?_⟩
          · rw [List.length_map,List.length_append]
            have:(Tr.mk f ws b e ps3).parts.length=ps3.length:=rfl
            exact Nat.lt_of_le_of_lt (show _≤10000 by omega) (by decide)
          · rw [← List.append_assoc,List.map_append (l₁:=sk'++nw)]
            rfl
          · have hr:ps3.reverse[i]? = some tc:=by rw [List.getElem?_reverse (by omega),← hal];exact hc1
            rw [List.take_succ,hr,List.map_append (f:=fun t=>(d+1,t))]
            refine zby (Paired.mapP pnw fun _ _ q=>(q.keep (zal.of (xs:=[]) s4) (by simp)).keep sx5 nt5) ?_
            exact zc4.keep sx5 nt5 ⟨c,Gc,e4,hc2⟩
      · obtain ⟨⟨z2,rfl⟩,sx3,nw,hnw,pnw⟩:=q
        have hal:=t4.length
        rw [List.length_map,hal,← List.length_reverse,List.take_length] at pnw
        have nt3 : ∀ x∈[td],∃ l,H2 x=some (.lst l):=fun x hx=>by rw [List.mem_singleton.mp hx];exact ⟨_,e12⟩
        refine ⟨(zfa (sl'++(ps3.reverse.map fun t=>(d+1,t)))).length,?_,?_⟩
        · rw [zem,zd6]
          show _<((d,Tr.mk f ws b e ps3)::zd8 (d+1) ps3++zfa sl').length
          rw [List.cons_append,List.length_cons]
          exact Nat.lt_succ_self _
        · rw [hPv]
          refine ⟨sx3.base sm2 (fun x hx=>by rw [List.mem_singleton.mp hx];exact htd0),dn++[it],sk'++nw,dl++[(d,.mk f ws b e ps3)],_,_,_,rfl,rfl,?_,hnw,?_,?_,?_⟩
          · rw [sx3 _ _ (nin (Ne.symm ntf)) e2,List.map_append]
            rfl
          · exact zby (Paired.mapP pd2 fun _ _ q=>q.keep sx3 nt3) (zc4.keep sx3 nt3 ⟨n',_,hitv2,.mk t1 t2 t3 t4⟩)
          · exact zfr (Paired.mapP ps2 fun _ _ q=>q.keep sx3 nt3) pnw
          · rw [hfl,zem,zd6,List.append_assoc]
            rfl
noncomputable def zjg (Cn C:Addr):Sp:=fun vs H Q E=>∃ (a:Addr) (tr:Tr) (F:List Addr),vs=[.ref a]∧TreeAt Cn H a tr F∧(zb0 1 tr).length≤10000∧(match limT 0 (zb0 1 tr) with
  | none=>∀ H',Same H H'→Q .non H'
  | some (k,b)=>ExF C E H (k:Int) (b:Int))
theorem ok_q23 (T:TX w K mg):FnOk P w K mg base (CX1 P w) 3 T.f_q23 T.d_q23 ["term"] (zjg T.C_q96 T.C_q90):=by
  have G_q71:=ok_q71 (P:=P) (w:=w) (base:=base) T
  have G_q90:=ok_q90 (P:=P) (w:=w) (base:=base) T
  refine T.F_q23.fn.okX sc_q23 (fun vs H Q E h=>?_) (fun cdv A outer s H vs Q E hr h=>?_)
  · obtain ⟨a,tr,F,rfl,_⟩:=h
    rfl
  · obtain ⟨a,tr,F,rfl,htr,hlen,k⟩:=h
    refine ⟨_,(zae (zik znv rfl (zvz rfl T.b_enumerate (zaa (zaj G_q71 (hr.mono (by decide)) rfl T.F_q71.mg T.F_q71.fn.kp T.F_q71.b .nil zav (zaa (pv 0) zac)) zac)) (zxp rfl (znr (zcg (i:=1) (sc_q23).nd rfl (Or.inl rfl)) (znr (zcg (i:=2) (sc_q23).nd rfl (Or.inl rfl)) zv0))) (zab (zbk (zam zou (zbw zcz (pv 2) zai (fun _ _=>rfl)) (pe_g T.g_q45) (zay _)) (zae (zco T.X_q90 G_q90 (hr.mono (by decide)) rfl T.G_q90 T.b_q5 zb6 rfl (zaa zai (zaa (zan (zbw zcz (pv 2) zai (fun _ _=>rfl)) rfl) zac)))) zau)
      (zae (zbk (zam zcr (pv 1) (pe_g T.g_q55) (zay _)) (zae (zco T.X_q90 G_q90 (hr.mono (by decide)) rfl T.G_q90 T.b_q5 zb6 rfl (zaa zai (zaa (zan (zbw zcz (pv 2) zai (fun _ _=>rfl)) rfl) zac)))) zau))))),?_⟩
    refine zcf ?_
    dsimp! [zfm,zwo];simp! [zfm,zwo]
    refine ⟨tr,F,htr,hlen,fun p items H1 s1 hp hit=>⟨_,SqL.of hp,?_⟩⟩
    refine zpa (items.map V.ref) (fun i σ H2=>Same H1 H2∧(∃ z1 z2,σ=[some (.ref a),z1,z2])∧limT 0 (zb0 1 tr)=limT i ((zb0 1 tr).drop i)) ⟨Same.refl _,⟨_,_,rfl⟩,rfl⟩ (fun i σ H2 _ q=>SqL.of (q.1 _ _ hp)) (fun i x σ H2 A hx q hA=>?_) fun σ H2 q=>?_
    · obtain ⟨sm,⟨z1,z2,rfl⟩,hlim⟩:=q
      rw [List.getElem?_map] at hx
      cases qa:items[i]? with
      | none=>rw [qa] at hx;cases hx
      | some it =>
        rw [qa] at hx
        cases hx
        obtain ⟨⟨d,t⟩,hd,n,G,hit1,htn⟩:=zio hit qa
        have hdr:(zb0 1 tr).drop i=(d,t)::(zb0 1 tr).drop (i+1):=by
          obtain ⟨hlt,e⟩:=List.getElem?_eq_some_iff.mp hd
          rw [List.drop_eq_getElem_cons hlt,e]
        rw [hdr] at hlim
        have hlim':limT i ((d,t)::(zb0 1 tr).drop (i+1))=if 40<d then some (8,t.b) else if i=300 then some (9,t.b) else limT (i+1) ((zb0 1 tr).drop (i+1)):=rfl
        rw [hlim'] at hlim
        have s3:Same H2 (upd H2 A (.tup [.int (i:Nat),.ref it])):=Same.upd hA
        have e3:upd H2 A (.tup [.int (i:Nat),.ref it]) A=some (.tup [.int (i:Nat),.ref it]):=zad
        generalize upd H2 A (.tup [.int (i:Nat),.ref it])=H3 at s3 e3 ⊢
        have sm3:=sm.trans s3
        have hit3:=sm3 _ _ hit1
        have htn3:=htn.same (s1.trans sm3)
        dsimp! [gTup,zwr,gNil,zb5,tFld];simp! [gTup,zwr,gNil,zb5,tFld]
        have hnode : ∃ dxn f wl pl e,H3 n=some (.ins T.C_q96 dxn (zcb f wl pl (t.b:Int) e)):=by
          cases htn3 with
          | @mk _ dxn wl pl f ws b e as ps3 G t1 t2 t3 t4=>exact ⟨dxn,_,wl,pl,_,t1⟩
        obtain ⟨dxn,f,wl,pl,e,hn⟩:=hnode
        refine ⟨_,SqT.of e3,rfl,_,_,rfl,_,_,rfl,rfl,_,rfl,_,SqT.of hit3,_,rfl,_,rfl,?_⟩
        by_cases h40:40<d
        · rw [if_pos h40] at hlim
          rw [hlim] at k
          rw [if_pos (show (40:Int)<(d:Int) by omega)]
          exact ⟨_,rfl,_,SqT.of hit3,_,rfl,_,rfl,_,_,_,hn,T.cl_q96,T.n_q57,_,rfl,by decide,zcj (k.mono (s1.trans sm3))⟩
        · rw [if_neg h40] at hlim
          rw [if_neg (show ¬ (40:Int)<(d:Int) by omega)]
          refine ⟨rfl,?_⟩
          by_cases h300:i=300
          · rw [if_pos h300] at hlim
            rw [hlim] at k
            rw [if_pos (by rw [h300];rfl)]
            exact ⟨_,rfl,_,SqT.of hit3,_,rfl,_,rfl,_,_,_,hn,T.cl_q96,T.n_q57,_,rfl,by decide,zcj (k.mono (s1.trans sm3))⟩
          · rw [if_neg h300] at hlim
            rw [if_neg (by simp only [V.int.injEq];omega)]
            exact ⟨sm3,hlim⟩
    · obtain ⟨sm,⟨z1,z2,rfl⟩,hlim⟩:=q
      have e1:items.length=(zb0 1 tr).length:=Paired.length hit
      rw [List.length_map,e1,List.drop_length] at hlim
      rw [hlim] at k
      exact k H2 (s1.trans sm)
noncomputable def zgo (Cn:Addr) (x:Vaunid.Term) (v:V) (H:Hp):Prop:=∃ (b:Addr) (tr:Tr) (F:List Addr),v = .ref b∧Rep x tr∧TreeAt Cn H b tr F∧(zb0 1 tr).length≤300∧zmy tr≤40∧WB (allX x)
noncomputable def zxi (Cn C:Addr) (K:PySem.W.Frag):Sp:=fun vs H Q E=>∃ (a:Addr) (t:List Nat),vs=[.ref a]∧SqL K H a (bs t)∧t.length≤10000∧RES C H Q E (Vaunid.readCore t) (zgo Cn)
theorem zgx (tr:Tr):(zb0 1 tr).length=(zdz tr).length:=by rw [← zes 1 tr,List.length_map]
theorem zly : ∀ (n p:Nat) (s:List Nat) (l:List Vaunid.Token),Vaunid.tokens true n p s = .ok l→l.length≤s.length
  | n,p,[],l,h=>by
    have:l=[]:=by cases n <;> (cases h;rfl)
    subst this
    simp
  | 0,p,c::r,l,h=>by
    cases h
    simp
  | n+1,p,c::r,l,h=>by
    unfold Vaunid.tokens at h
    rw [List.length_cons]
    split at h
    · have:=zly n _ r l h
      omega
    · split at h
      · rename_i hz
        cases hz.1
      · cases q:Vaunid.token true p (c::r) with
        | error e=>rw [q] at h;cases h
        | ok x =>
          obtain ⟨k,s⟩:=x
          rw [q] at h
          dsimp only at h
          have tf:=zcv q
          have hs:s.length≤r.length:=by
            have h3:=tf.lt
            rw [tf.rest,List.length_drop,List.length_cons]
            omega
          cases q2:Vaunid.tokens true n k.halt_ s with
          | error e=>rw [q2] at h;cases h
          | ok l2 =>
            rw [q2] at h
            cases h
            have:=zly n _ s l2 q2
            rw [List.length_cons]
            omega
theorem ok_q67 (T:TX w K mg):FnOk P w K mg base (CX1 P w) 12 T.f_q67 T.d_q67 ["text"] (zxi T.C_q96 T.C_q90 K):=by
  have G_q28:=ok_q28 (P:=P) (w:=w) (base:=base) T
  have G_Row:=zxy (P:=P) (w:=w) (base:=base) T
  have G_q96:=ok_q96 (P:=P) (w:=w) (base:=base) T
  have G_q94:=ok_q94 (P:=P) (w:=w) (base:=base) T
  have G_q93:=ok_q93 (P:=P) (w:=w) (base:=base) T
  have G_q23:=ok_q23 (P:=P) (w:=w) (base:=base) T
  refine T.F_q67.fn.okX sc_q67 (fun vs H Q E h=>?_) (fun cdv A outer s H vs Q E hr h=>?_)
  · obtain ⟨a,t,rfl,_⟩:=h
    rfl
  · obtain ⟨a,t,rfl,ht,hl,k⟩:=h
    refine ⟨_,(zab (zao (i:=1) (sc_q67).nd rfl (Or.inl rfl) (zbu T.M_Row G_Row (hr.mono (by decide)) rfl T.G_Row T.b_q25 .nil zav (zaa (zaj G_q28 (hr.mono (by decide)) rfl T.F_q28.mg T.F_q28.fn.kp T.F_q28.b .nil za5 (zaa (pv 0) zac)) (zaa (za0 zbe rfl T.b_len PySem.boot_len (zaa (pv 0) zac)) zac))))
      (zab (zao (i:=2) (sc_q67).nd rfl (Or.inl rfl) (zbu T.M_q96 G_q96 (hr.mono (by decide)) rfl T.G_q96 T.b_q17 .nil zav (zaa zax (zaa (zb2 zac) (zaa (zb2 zac) (zaa zai (zaa zai zac)))))))
      (zab (zao (i:=3) (sc_q67).nd rfl (Or.inl rfl) (zb2 (zaa (zbu T.M_q94 G_q94 (hr.mono (by decide)) rfl T.G_q94 T.b_q14 .nil zav (zaa zax (zaa (pv 2) (zaa zai zac)))) (zaa (zbu T.M_q94 G_q94 (hr.mono (by decide)) rfl T.G_q94 T.b_q14 .nil zav (zaa zax (zaa (pv 2) (zaa zai zac)))) zac))))
      (zab (zd2 znv (zjl (pv 3) (fun _=>rfl)) (zae (zbq (zaj G_q93 (hr.mono (by decide)) rfl T.F_q93.mg T.F_q93.fn.kp T.F_q93.b .nil za5 (zaa (pv 1) (zaa (pv 3) (zaa (zq3 PySem.F.plainAttrs_list PySem.F.slot_list_pop PySem.F.type_list_pop zre (pv 3)) zac)))))))
      (zab (zao (i:=4) (sc_q67).nd rfl (Or.inl rfl) (zbw zbm (zan (pv 2) rfl) zai (fun _ _=>rfl)))
      (zab (zbq (zaj G_q23 (hr.mono (by decide)) rfl T.F_q23.mg T.F_q23.fn.kp T.F_q23.b .nil za5 (zaa (pv 4) zac)))
      (zae (zap (pv 4))))))))),?_⟩
    dsimp! [zhc,zbx];simp! [zhc,zbx]
    rw [zma] at k
    refine ⟨t,ht,hl,?_⟩
    cases qt:Vaunid.allTokens true t with
    | error e=>rw [qt] at k;exact k
    | ok l =>
      rw [qt] at k
      intro v H1 s1 ⟨b,as,ev,hb,hto⟩
      subst ev
      refine ⟨bs t,.inl (s1.seq ht),?_⟩
      rw [zc2]
      have gts:=zek _ _ _ _ hl qt
      have ltk:=zly _ _ _ _ qt
      have las:as.length=l.length:=Paired.length hto
      have run : ∃ R n,Run (zig t.length l) R n∧(match R with
          | .error e=>ExF T.C_q90 E H (e.kind:Int) (e.place:Int)
          | .ok wt=>∃ x tr e,wt = .mk (Vaunid.txt "whole") [] 0 e [tr]∧Rep x tr∧zmy tr≤40∧(zdz tr).length≤10000∧(if 300<(zdz tr).length then ExF T.C_q90 E H 9 (((zdz tr).getD 300 0:Nat):Int) else ∀ v H',Same H H'→zgo T.C_q96 x v H'→Q v H')):=by
        have wr:=zpq t.length l (fun k hk=>(gts k hk).1) (fun k hk=>(gts k hk).2)
        dsimp only at k
        cases qc:zcn t.length 40 l with
        | error e =>
          rw [qc] at wr k
          obtain ⟨n,hn⟩:=wr
          exact ⟨_,n,hn,k⟩
        | ok v =>
          obtain ⟨x,pl,r⟩:=v
          rw [qc] at wr k
          cases r with
          | cons k0 r =>
            obtain ⟨n,hn⟩:=wr
            exact ⟨_,n,hn,k⟩
          | nil =>
            obtain ⟨tr,n,e,w1,w2,w3,w4,w5⟩:=wr
            refine ⟨_,n,w5,x,tr,e,rfl,w1,w3,by rw [w2];omega,?_⟩
            rw [w2]
            dsimp only at k
            by_cases h3:300<pl.length
            · rw [if_pos h3] at k ⊢
              exact k
            · rw [if_neg h3] at k ⊢
              exact k
      obtain ⟨R,n0,hrun,hR⟩:=run
      intro row dxr hrow0 hdxr hner
      have sA:=zbi (o1:=HO.own row) (o2:=HO.ins T.C_Row dxr []) hrow0 hdxr
      refine ⟨row,dxr,b,as,l,t.length,rfl,zad,sA _ _ hb,by omega,Paired.mapP hto fun _ _ z=>z.same sA,fun la H2 hla sx2 hr2=>⟨rfl,Nat.zero_le _,fun wl hwl=>⟨Nat.zero_le _,fun pl hpl=>?_⟩⟩⟩
      have s12:Same H1 H2:=sx2.base sA (fun x hx=>by rw [List.mem_singleton.mp hx];exact hrow0)
      have hla1:H1 la=none:=none_of sA hla
      have s02:=s1.trans s12
      have s3:Same H2 (upd H2 wl (.lst [])):=Same.upd hwl
      have e3:upd H2 wl (.lst []) wl=some (.lst []):=zad
      generalize upd H2 wl (.lst [])=H3 at s3 e3 hpl ⊢
      have s4:Same H3 (upd H3 pl (.lst [])):=Same.upd hpl
      have e4:upd H3 pl (.lst []) pl=some (.lst []):=zad
      generalize upd H3 pl (.lst [])=H4 at s4 e4 ⊢
      refine zdq rfl fun wh dxw H5 hwh s5 e5=>?_
      refine zdq rfl fun st0 dx0 H6 hst0 s6 e6=>?_
      refine zdq rfl fun st1 dx1 H7 hst1 s7 e7=>⟨by decide,fun todo htd=>?_⟩
      have s8:Same H7 (upd H7 todo (.lst [.ref st0,.ref st1])):=Same.upd htd
      have e8:upd H7 todo (.lst [.ref st0,.ref st1]) todo=some (.lst [.ref st0,.ref st1]):=zad
      generalize upd H7 todo (.lst [.ref st0,.ref st1])=H8 at s8 e8 ⊢
      have hr2':=hr2
      obtain ⟨dxr2,asr,ir,r1,r2,r3⟩:=hr2'
      have s28:Same H2 H8:=s3.trans (s4.trans (s5.trans (s6.trans (s7.trans s8))))
      have s58:Same H5 H8:=s6.trans (s7.trans s8)
      have nd:(row::todo::la::([wh,wl,pl]++[st1,st0])).Nodup:=by
        have x1:row≠la:=zci r1 r2 (by intro z;cases z)
        have y2 : ∀ x,H2 x=none→row≠x∧la≠x:=fun x hx=>⟨zag r1 hx,zag r2 hx⟩
        have x2:=y2 wl hwl
        have x3:=y2 pl (none_of s3 hpl)
        have x4:=y2 wh (none_of (s3.trans s4) hwh)
        have x5:=y2 st0 (none_of (s3.trans (s4.trans s5)) hst0)
        have x6:=y2 st1 (none_of (s3.trans (s4.trans (s5.trans s6))) hst1)
        have x7:=y2 todo (none_of (s3.trans (s4.trans (s5.trans (s6.trans s7)))) htd)
        have z1:wl≠pl:=zag e3 hpl
        have z2:wl≠wh:=zag (s4 _ _ e3) hwh
        have z3:pl≠wh:=zag e4 hwh
        have z4:wl≠st0:=zag (s5 _ _ (s4 _ _ e3)) hst0
        have z5:pl≠st0:=zag (s5 _ _ e4) hst0
        have z6:wh≠st0:=zag e5 hst0
        have z7:wl≠st1:=zag (s6 _ _ (s5 _ _ (s4 _ _ e3))) hst1
        have z8:pl≠st1:=zag (s6 _ _ (s5 _ _ e4)) hst1
        have z9:wh≠st1:=zag (s6 _ _ e5) hst1
        have z10:st0≠st1:=zag e6 hst1
        have z11:wl≠todo:=zag (s7 _ _ (s6 _ _ (s5 _ _ (s4 _ _ e3)))) htd
        have z12:pl≠todo:=zag (s7 _ _ (s6 _ _ (s5 _ _ e4))) htd
        have z13:wh≠todo:=zag (s7 _ _ (s6 _ _ e5)) htd
        have z14:st0≠todo:=zag (s7 _ _ e6) htd
        have z15:st1≠todo:=zag e7 htd
        simp [x1,x2,x3,x4,x5,x6,x7,z1,z2,z3,z4,z5,z6,z7,z8,z9,z10,z11,z12,z13,z14,z15,Ne.symm z1,Ne.symm z2,Ne.symm z3,Ne.symm z4,Ne.symm z5,Ne.symm z6,Ne.symm z7,Ne.symm z8,Ne.symm z9,Ne.symm z10,Ne.symm z11,Ne.symm z12,Ne.symm z13,Ne.symm z14,Ne.symm z15,Ne.symm x7.1,Ne.symm x7.2]
      have at0:AtM T.C_q87 T.C_q91 T.C_Row T.C_q96 T.C_q94 H H8 row la todo wh (zig t.length l):=by
        refine ⟨s02.trans s28,hr2.same s28,zb1.sent (fun k hk=>(gts k hk).1) _,?_,.inl ⟨by simp [zig],[st1,st0],[wh,wl,pl],.bot (e:=0) (dx:=dxw) (wl:=wl) (pl:=pl) (as:=[]) (F:=[]) ⟨?_,?_,?_,.nil,.cons ⟨dx1,?_⟩ (.cons ⟨dx0,?_⟩ .nil)⟩,e8,nd,?_⟩⟩
        · exact ⟨by show 0+0+1≤5;decide,.inr rfl,rfl,Nat.zero_le _,trivial⟩
        · show H8 wh=some (.ins T.C_q96 dxw (zcb (S (Vaunid.txt "whole")) wl pl 0 0))
          rw [← zbs]
          exact s58 _ _ e5
        · exact s58 _ _ (s5 _ _ (s4 _ _ e3))
        · exact s58 _ _ (s5 _ _ e4)
        · exact s8 _ _ e7
        · exact s8 _ _ (s7 _ _ e6)
        · have q1:=none_of s1 hrow0
          have q2:=none_of s02 hwl
          have q3:=none_of (s02.trans s3) hpl
          have q4:=none_of (s02.trans (s3.trans s4)) hwh
          have q5:=none_of (s02.trans (s3.trans (s4.trans (s5.trans (s6.trans s7))))) htd
          intro x hx
          simp only [List.mem_cons,List.not_mem_nil,or_false] at hx
          rcases hx with rfl | rfl | rfl | rfl | rfl <;> assumption
      obtain ⟨Pv,hPv⟩ : ∃ Pv:Nat→L2.St→Hp→Prop,Pv=fun m σ H'=>σ=[some (.ref a),some (.ref row),some (.ref wh),some (.ref todo),none]∧∃ s,AtM T.C_q87 T.C_q91 T.C_Row T.C_q96 T.C_q94 H H' row la todo wh s∧Run s R m:=⟨_,rfl⟩
      refine zfi Pv n0 (by rw [hPv];exact ⟨rfl,_,at0,hrun⟩) fun m σ H' hp=>?_
      rw [hPv] at hp
      obtain ⟨rfl,s,hat,hrn⟩:=hp
      dsimp! [];simp! []
      rcases hat.frames with ⟨hne,ss,own,hstk,htd',hnd,hfr⟩ | ⟨hnil,htd',wt,F,hres,htree⟩
      · obtain ⟨fs,l',res⟩:=s
        cases fs with
        | nil=>exact absurd rfl hne
        | cons pf fs =>
          obtain ⟨n,ss1,ss2,own2,dxn,wln,pln,as',Fn,en,hf,hbel,ess,eown⟩:=hstk.top
          have hss : ∃ st ss',ss=st::ss':=by
            have q:=hf.steps.length
            rw [List.length_append,List.length_singleton] at q
            cases ss1 with
            | nil=>simp at q
            | cons st ss1=>exact ⟨st,ss1++ss2,ess⟩
          obtain ⟨st,ss',rfl⟩:=hss
          have htd2:H' todo=some (.lst (ss'.reverse.map V.ref++[.ref st])):=by
            rw [htd',List.reverse_cons,List.map_append]
            rfl
          refine ⟨true,.inl ⟨_,SqL.of htd2,by simp⟩,?_⟩
          rw [if_pos rfl]
          refine ⟨_,fun _ _ z=>z,?_⟩
          dsimp! [tBM0,rPop];simp! [tBM0,rPop]
          refine ⟨.inl ⟨rfl,_,SqL.of htd2⟩,_,htd2,V.ref st,by simp,?_⟩
          rw [List.dropLast_concat]
          have su:zal [todo] H' (upd H' todo (.lst (ss'.reverse.map V.ref))):=zal.upd (List.mem_singleton.mpr rfl)
          have nt : ∀ x∈[todo],NT H' x:=fun x hx=>by rw [List.mem_singleton.mp hx];exact .lst htd2
          have hnd2:=hnd
          simp only [List.nodup_cons,List.mem_cons,not_or] at hnd2
          have hst : ∃ r,zc7 ⟨pf::fs,l',res⟩=some r∧(match r with
              | .error e=>R = .error e
              | .ok s'=>∃ m',m=m'+1∧Run s' R m'):=by
            cases hrn with
            | bad h=>exact ⟨_,h,rfl⟩
            | go h h2=>exact ⟨_,h,_,rfl,h2⟩
          obtain ⟨r,hr1,hr2⟩:=hst
          refine ⟨row,la,todo,wh,st,H,⟨pf::fs,l',res⟩,ss',own,r,rfl,su.base hat.same (fun x hx=>by rw [List.mem_singleton.mp hx];exact hfr _ (by simp)),hat.rowAt.keep su nt (nin hnd2.1.1) (nin (Ne.symm hnd2.2.1.1)),hat.goods,hat.lv,hstk.keep (Kp.of su fun x hx=>nin fun z=>hnd2.2.1.2 (by rw [← z];exact hx)),zad,hnd,hfr,hr1,?_⟩
          cases r with
          | error e =>
            have e1:R = .error e:=hr2
            rw [e1] at hR
            exact ExF.mono hR (su.base hat.same (fun x hx=>by rw [List.mem_singleton.mp hx];exact hfr _ (by simp)))
          | ok s' =>
            obtain ⟨m',e1,h2⟩:=hr2
            intro H'' at''
            refine ⟨m',by omega,?_⟩
            rw [hPv]
            exact ⟨rfl,s',at'',h2⟩
      · refine ⟨false,.inl ⟨_,SqL.of htd',rfl⟩,?_⟩
        rw [if_neg (by simp)]
        obtain ⟨fs,l',res⟩:=s
        have hnil:fs=[]:=hnil
        have hres:res=[wt]:=hres
        subst hnil hres
        have e1:R = .ok wt:=by
          cases hrn with
          | done=>rfl
          | bad h=>cases h
          | go h h2=>cases h
        rw [e1] at hR
        have hwb:WB (allW wt):=zkv hrun ⟨fun pf hpf=>by rw [List.mem_singleton.mp hpf];exact ⟨show WB [] from fun _ q=>(by cases q),show WB [] from fun _ q=>(by cases q)⟩,zb1.sent (fun k hk=>(gts k hk).1) _,show WB [] from fun _ q=>(by cases q)⟩ wt e1
        obtain ⟨x,tr,e,rfl,hrep,hdeep,hbl,hfin⟩:=hR
        have hwx:WB (allX x):=by
          rw [zkw hrep]
          exact (WB.app.mp (WB.app.mp hwb).2).1
        cases htree with
        | @mk _ dxn wl2 pl2 f ws b2 e2 as2 ps2 G t1 t2 t3 t4 =>
        cases t4 with
        | @cons ac tc F1 G1 as3 ts3 c1 c2 =>
        cases c2
        dsimp! [tFld,zjg];simp! [tFld,zjg,t1]
        have hlow:=zri (zb0 1 tr) 0 (by omega) (fun p hp=>by have:=zlk 1 tr p hp;omega)
        rw [zes,Nat.sub_zero,Nat.zero_add,zgx] at hlow
        refine ⟨T.cl_q96,T.n_q42,_,rfl,_,rfl,_,SqL.of t3,_,rfl,ac,rfl,tr,_,c1,by rw [zgx];exact hbl,?_⟩
        rw [hlow]
        by_cases h3:300<(zdz tr).length
        · rw [if_pos h3] at hfin ⊢
          exact ExF.mono hfin hat.same
        · rw [if_neg h3] at hfin ⊢
          intro H9 s9
          exact hfin _ H9 (hat.same.trans s9) ⟨ac,tr,_,rfl,hrep,c1.same s9,by rw [zgx];omega,hdeep,hwx⟩
end
set_option maxHeartbeats 2000000
section
variable {P:Program}{w:World}{K:PySem.W.Frag}{mg:Str→Option Value}{base:Heap}
noncomputable def PcAt (Cn:Addr) (H:Hp) (v:V):Pc Vaunid.Term→Prop
  | .inl w=>v = .str (S w)
  | .inr t=>∃ (a:Addr) (tr:Tr) (F:List Addr),v = .ref a∧Rep t tr∧TreeAt Cn H a tr F
noncomputable def CtAt (Cn:Addr) (H H':Hp) (it:Addr) (c:SK×Pc Vaunid.Term):Prop:=∃ v,H' it=some (.tup [.str (Str.ofString c.1.w),v])∧PcAt Cn H v c.2
theorem CtAt.keep {Cn:Addr}{H H1 H2:Hp}{xs:List Addr} (sx:zal xs H1 H2) (nt : ∀ x∈xs,∃ l,H1 x=some (.lst l)) {it:Addr}{c:SK×Pc Vaunid.Term} (h:CtAt Cn H H1 it c):CtAt Cn H H2 it c:=by
  obtain ⟨v,e,t⟩:=h
  refine ⟨v,sx _ _ (fun m=>?_) e,t⟩
  obtain ⟨l,q⟩:=nt _ m
  rw [q] at e
  cases e
noncomputable def zfo (Cn:Addr):Sp:=fun vs H Q _=>∃ (a:Addr) (x:Vaunid.Term) (tr:Tr) (F:List Addr) (H0:Hp),vs=[.ref a]∧Same H0 H∧Rep x tr∧TreeAt Cn H0 a tr F∧∀ (p:Addr) (its:List Addr) (H':Hp),H p=none→Same H H'→H' p=some (.lst (its.map V.ref))→Paired (CtAt Cn H0 H') its (zbr x)→Q (.ref p) H'
theorem znl : ∀ {xs:List Vaunid.Term}{ts:List Tr},Reps xs ts→∀ {i:Nat}{x:Vaunid.Term},xs[i]? = some x→∃ t,ts[i]? = some t∧Rep x t
  | _,_,.nil,i,x,h=>by simp at h
  | _,_,.cons h1 h2,0,x,h=>by
    cases h
    exact ⟨_,rfl,h1⟩
  | _,_,.cons h1 h2,i+1,x,h=>znl h2 h
theorem zkd {Cn:Addr}{H:Hp} : ∀ {as:List Addr}{ts:List Tr}{F:List Addr},TreesAt Cn H as ts F→∀ {i:Nat}{t:Tr},ts[i]? = some t→∃ a G,as[i]? = some a∧TreeAt Cn H a t G
  | _,_,_,.nil,i,a,h=>by simp at h
  | _,_,_,.cons h1 h2,0,a,h=>by
    cases h
    exact ⟨_,_,rfl,h1⟩
  | _,_,_,.cons h1 h2,i+1,a,h=>zkd h2 h
theorem zh0 {A:Type}{l:List A}{i:Nat}{x:A}{r:List A} (h:l.drop i=x::r):l[i]? = some x∧l.drop (i+1)=r:=by
  constructor
  · have:=List.getElem?_drop (xs:=l) (i:=i) (j:=0)
    rw [h] at this
    exact this.symm
  · rw [← List.drop_drop,h]
    rfl
theorem zle {l:List (List Nat)}{i:Nat}{x:List Nat} (h:l[i]? = some x):((l.map S).map V.str)[i]? = some (.str (S x)):=by
  rw [List.getElem?_map,List.getElem?_map,h]
  rfl
theorem zub (x:Vaunid.Term):(zbr x).length≤5:=by
  rw [zm5]
  have : ∀ (ks:List SK) (ws:List (List Nat)) (ts:List Vaunid.Term),(za9 ks ws ts).length≤ks.length:=by
    intro ks
    induction ks with
    | nil=>intro ws ts;simp [za9]
    | cons k r ih =>
      intro ws ts
      cases k with
      | p b =>
        cases ts with
        | nil=>simp [za9]
        | cons t ts=>have:=ih ws ts;simp [za9];omega
      | n =>
        cases ws with
        | nil=>simp [za9]
        | cons t ws=>have:=ih ws ts;simp [za9];omega
      | pw =>
        cases ws with
        | nil=>simp [za9]
        | cons t ws=>have:=ih ws ts;simp [za9];omega
  refine Nat.le_trans (this _ _ _) ?_
  unfold skX
  cases fmX x with
  | none=>exact Nat.zero_le _
  | some f=>cases f <;> decide
theorem once {G A:Hp→Prop}{R:Prop} (u:(∀ H,A H→G H)→R) (t : ∀ H,A H→G H):R:=u t
theorem zin {A B:Type}{R:A→B→Prop} : ∀ {l:List A}{m:List B},Paired R l m→Paired R l.reverse m.reverse
  | _,_,.nil => .nil
  | _,_,.cons r t=>by
    rw [List.reverse_cons,List.reverse_cons]
    exact zby (zin t) r
theorem ok_q80 (T:TX w K mg):FnOk P w K mg base CX0 1 T.f_q80 T.d_q80 ["node"] (zfo T.C_q96):=by
  refine T.F_q80.fn.ok sc_q80 (fun vs H Q E h=>?_) (fun cdv A outer s H vs Q E hr h=>?_)
  · obtain ⟨a,x,tr,F,H0,rfl,_⟩:=h
    rfl
  · obtain ⟨a,x,tr,F,H0,rfl,s0,hrep,htr,k⟩:=h
    obtain ⟨ad,md,sq,tu⟩:=T.t_q88
    refine ⟨_,(zab (zao (i:=1) (sc_q80).nd rfl (Or.inl rfl) (zb2 zac))
      (zab (zao (i:=2) (sc_q80).nd rfl (Or.inl rfl) zai)
      (zab (zik PassesOwn.never rfl (zxo (zq2 (pe_r T.g_q88) (zan (pv 0) rfl) (ze1 zac) ⟨rfl,rfl,rfl,rfl⟩)) (zcg (i:=3) (sc_q80).nd rfl (Or.inl rfl)) (zae (zbk (zam zdp (pv 3) (pe_r T.g_q40) rfl) (zae (zbq (ze3 PySem.F.plainAttrs_list PySem.F.slot_list_append PySem.F.type_list_append zbj (pv 1) (zaa (ze1 (zaa (pv 3) (zaa (zbw zbm (zan (pv 0) rfl) (zb8 znw (za0 zbe rfl T.b_len PySem.boot_len (zaa (pv 1) zac)) (pv 2)) (fun _ _=>rfl)) zac))) zac)))) (zab (zbq (ze3 PySem.F.plainAttrs_list PySem.F.slot_list_append PySem.F.type_list_append zbj (pv 1) (zaa (ze1 (zaa (pv 3) (zaa (zbw zbm (zan (pv 0) rfl) (pv 2) (fun _ _=>rfl)) zac))) zac)))
      (zae (zut (i:=2) (sc_q80).nd rfl (Or.inl rfl) zai zuz))))))
      (zae (zap (pv 1)))))),?_⟩
    dsimp! [];simp! []
    refine ⟨Nat.zero_le _,fun fd hfd=>?_⟩
    have s1:Same H (upd H fd (.lst [])):=Same.upd hfd
    have e1:upd H fd (.lst []) fd=some (.lst []):=zad
    generalize upd H fd (.lst [])=H1 at s1 e1 ⊢
    cases hrep with
    | @mk _ b e ps hps =>
    cases htr with
    | @mk _ dxn wl pl _ _ _ _ as _ G t1 t2 t3 t4 =>
    have s01:=s0.trans s1
    have t1':=s01 _ _ t1
    refine zcf ?_
    dsimp! [zl2,tFld];simp! [zl2,tFld,t1']
    refine ⟨_,md,T.cl_q96,T.n_q66,_,rfl,Nat.zero_le _,fun p0 hp0=>?_⟩
    have s2:Same H1 (upd H1 p0 (.tup [])):=Same.upd hp0
    have e2:upd H1 p0 (.tup []) p0=some (.tup []):=zad
    generalize upd H1 p0 (.tup [])=H2 at s2 e2 ⊢
    have e12:=s2 _ _ e1
    have kinds : ∃ kt,(zdh (zcd ad) (S (zmu x))).getD (.ref p0) = .ref kt∧∀ H',zal [fd] H2 H'→SqT K H' kt ((skX x).map fun k=>V.str (Str.ofString k.w)):=by
      unfold skX
      cases hf:fmX x with
      | none =>
        refine ⟨p0,?_,fun H' sx=>SqT.of (sx _ _ (nin (zci e2 e12 (by intro z;cases z))) e2)⟩
        cases x with
        | leaf l =>
          have:=ziz ad (Vaunid.txt (zdb l))
          rw [zmm] at this
          show (zdh (zcd ad) (S (Vaunid.txt (zdb l)))).getD (.ref p0)=_
          cases q:zdh (zcd ad) (S (Vaunid.txt (zdb l))) with
          | none=>rfl
          | some v=>rw [q] at this;cases this
        | _=>cases hf
      | some f =>
        refine ⟨ad f,?_,fun H' _=>?_⟩
        · rw [zn9 hf,← zbs,zlg]
          rfl
        · have:=sq f H'
          rw [← zvn,List.map_map,List.map_map] at this
          exact this
    obtain ⟨kt,ekt,hkt⟩:=kinds
    refine ⟨_,rfl,kt,ekt,⟨_,hkt _ fun _ _ _ q=>q⟩,?_⟩
    obtain ⟨Pv,hPv⟩ : ∃ Pv:Nat→L2.St→Hp→Prop,Pv=fun i σ H3=>∃ (its:List Addr) (dl:List (SK×Pc Vaunid.Term)) (wi pi:Nat) (z:Option V),σ=[some (.ref a),some (.ref fd),some (.int (wi:Int)),z]∧zal [fd] H2 H3∧H3 fd=some (.lst (its.map V.ref))∧its.length=i∧i=wi+pi∧Paired (CtAt T.C_q96 H0 H3) its dl ∧
      zbr x=dl++za9 ((skX x).drop i) ((zar x).drop wi) ((za2 x).drop pi)∧Fits ((skX x).drop i) ((zar x).drop wi) ((za2 x).drop pi):=⟨_,rfl⟩
    refine zws (xs:=(skX x).map fun k=>V.str (Str.ofString k.w)) Pv (by rw [hPv];exact ⟨[],[],0,0,none,rfl,fun _ _ _ q=>q,e12,rfl,rfl,.nil,zm5 x,zwu x⟩) (fun i σ H3 _ q=>?_) (fun i v σ H3 hx q=>?_) fun σ H3 q=>?_
    · rw [hPv] at q
      obtain ⟨its,dl,wi,pi,z,rfl,sx3,hfd3,_⟩:=q
      exact hkt _ sx3
    · rw [hPv] at q
      obtain ⟨its,dl,wi,pi,z,rfl,sx3,hfd3,hil,hwp,pd,hc,ft⟩:=q
      rw [List.getElem?_map] at hx
      cases qk:(skX x)[i]? with
      | none=>rw [qk] at hx;cases hx
      | some kk =>
        rw [qk] at hx
        cases hx
        obtain ⟨hlt,ek⟩:=List.getElem?_eq_some_iff.mp qk
        have hd:(skX x).drop i=kk::(skX x).drop (i+1):=by rw [List.drop_eq_getElem_cons hlt,ek]
        rw [hd] at hc ft
        have nfd : ∀ {b:Addr}{o:HO},H0 b=some o→H3 b=some o:=fun {b o} q=>sx3 _ _ (nin (zag q (none_of s0 hfd))) (s2 _ _ (s01 _ _ q))
        have t1'':=nfd t1
        have t2'':=nfd t2
        have t3'':=nfd t3
        have hfl:its.length≤1000:=by
          have:(skX x).length≤5:=by
            unfold skX
            cases fmX x with
            | none=>exact Nat.zero_le _
            | some f=>cases f <;> decide
          omega
        have hsl:(its.map V.ref).length<sizeLine:=by rw [List.length_map];exact Nat.lt_of_le_of_lt hfl (by decide)
        have fin : ∀ (v:V) (pc:Pc Vaunid.Term) (wi' pi':Nat),PcAt T.C_q96 H0 v pc→zbr x=dl++(kk,pc)::za9 ((skX x).drop (i+1)) ((zar x).drop wi') ((za2 x).drop pi')→Fits ((skX x).drop (i+1)) ((zar x).drop wi') ((za2 x).drop pi')→i+1=wi'+pi'→∀ q,H3 q=none →
            ∃ acc,upd H3 q (.tup [.str (Str.ofString kk.w),v]) fd=some (.lst acc)∧acc.length<sizeLine∧Pv (i+1) [some (.ref a),some (.ref fd),some (.int (wi':Int)),some (.str (Str.ofString kk.w))] (upd (upd H3 q (.tup [.str (Str.ofString kk.w),v])) fd (.lst (acc++[.ref q]))):=by
          intro v pc wi' pi' hv hc' ft' hw' q hq
          have s4:Same H3 (upd H3 q (.tup [.str (Str.ofString kk.w),v])):=Same.upd hq
          have e4:upd H3 q (.tup [.str (Str.ofString kk.w),v]) q=some (.tup [.str (Str.ofString kk.w),v]):=zad
          generalize upd H3 q (.tup [.str (Str.ofString kk.w),v])=H4 at s4 e4 ⊢
          have hfd4:=s4 _ _ hfd3
          have sx5:zal [fd] H4 (upd H4 fd (.lst (its.map V.ref++[.ref q]))):=zal.upd (List.mem_singleton.mpr rfl)
          have nt5 : ∀ x∈[fd],∃ l,H4 x=some (.lst l):=fun x hx=>by rw [List.mem_singleton.mp hx];exact ⟨_,hfd4⟩
          refine ⟨_,hfd4,hsl,?_⟩
          rw [hPv]
          refine ⟨its++[q],dl++[(kk,pc)],wi',pi',_,rfl,sx3.trans ((zal.of s4).trans sx5),?_,?_,hw',zby (Paired.mapP pd fun _ _ z=>(z.keep (zal.of (xs:=[]) s4) (by simp)).keep sx5 nt5) (CtAt.keep sx5 nt5 ⟨v,e4,hv⟩),?_,ft'⟩
          · rw [zad,List.map_append]
            rfl
          · rw [List.length_append,hil]
            rfl
          · rw [hc',List.append_assoc]
            rfl
        dsimp! [tBM,za7,tFld];simp! [zgd,tBM,za7,tFld,t1'']
        refine ⟨_,.inr (T.t_q40 H3),rfl,rfl,?_⟩
        cases kk with
        | p bb =>
          generalize hD:(za2 x).drop pi=D at ft hc
          cases ft with
          | @part _ _ _ t ts ft =>
          obtain ⟨hg,hg2⟩:=zh0 hD
          obtain ⟨tt,htt,hrt⟩:=znl hps hg
          obtain ⟨ac,Gc,hac,hct⟩:=zkd t4 htt
          have f1:=fin (.ref ac) (.inr t) wi (pi+1) ⟨ac,tt,Gc,rfl,hrt,hct⟩ (by rw [hc,hg2];rfl) (by rw [hg2];exact ft) (by omega)
          have e5:inV (V.str (Str.ofString (SK.p bb).w)) [V.str (Str.ofString "part"),V.str (Str.ofString "body")]=true:=by
            rw [zbs,zcq,in_S,decide_eq_true (by cases bb <;> decide +kernel)]
          rw [e5,if_pos rfl]
          refine ⟨.inl ⟨rfl,_,SqL.of hfd3⟩,T.cl_q96,T.n_q42,_,rfl,_,.inl (SqL.of hfd3),_,rfl,_,SqL.of t3'',.ref ac,?_,by decide,f1⟩
          rw [List.length_map,hil,show ((i:Nat):Int) - (wi:Int)=(pi:Int) by omega]
          exact zce (by rw [List.getElem?_map,hac];rfl)
        | n =>
          generalize hD:(zar x).drop wi=D at ft hc
          cases ft with
          | @name _ wd ws _ ft =>
          obtain ⟨hg,hg2⟩:=zh0 hD
          have f1:=fin (.str (S wd)) (.inl wd) (wi+1) pi rfl (by rw [hc,hg2];rfl) (by rw [hg2];exact ft) (by omega)
          have e5:inV (V.str (Str.ofString SK.n.w)) [V.str (Str.ofString "part"),V.str (Str.ofString "body")]=false:=by
            rw [zbs,zcq,in_S,decide_eq_false (by decide +kernel)]
          rw [e5,if_neg (by simp)]
          refine ⟨.inl ⟨rfl,_,SqL.of hfd3⟩,T.cl_q96,T.n_q51,_,rfl,_,rfl,_,SqL.of t2'',.str (S wd),zce (zle hg),by decide,?_⟩
          rw [show ((wi:Int)+1)=((wi+1:Nat):Int) by omega]
          exact f1
        | pw =>
          generalize hD:(zar x).drop wi=D at ft hc
          cases ft with
          | @pow _ wd ws _ ft =>
          obtain ⟨hg,hg2⟩:=zh0 hD
          have f1:=fin (.str (S wd)) (.inl wd) (wi+1) pi rfl (by rw [hc,hg2];rfl) (by rw [hg2];exact ft) (by omega)
          have e5:inV (V.str (Str.ofString SK.pw.w)) [V.str (Str.ofString "part"),V.str (Str.ofString "body")]=false:=by
            rw [zbs,zcq,in_S,decide_eq_false (by decide +kernel)]
          rw [e5,if_neg (by simp)]
          refine ⟨.inl ⟨rfl,_,SqL.of hfd3⟩,T.cl_q96,T.n_q51,_,rfl,_,rfl,_,SqL.of t2'',.str (S wd),zce (zle hg),by decide,?_⟩
          rw [show ((wi:Int)+1)=((wi+1:Nat):Int) by omega]
          exact f1
    · rw [hPv] at q
      obtain ⟨its,dl,wi,pi,z,rfl,sx3,hfd3,hil,hwp,pd,hc,ft⟩:=q
      rw [List.length_map,List.drop_length] at hc
      simp only [za9,List.append_nil] at hc
      dsimp! [];simp! []
      exact k fd its H3 hfd (sx3.base (s1.trans s2) fun x hx=>by rw [List.mem_singleton.mp hx];exact hfd) hfd3 (by rw [hc];exact pd)
end
set_option maxHeartbeats 2000000
section
variable {P:Program}{w:World}{K:PySem.W.Frag}{mg:Str→Option Value}{base:Heap}
noncomputable def zl7:Sp:=fun vs H Q _=>∃ l:List Nat,vs=[.str (S l)]∧l.length≤20000∧∀ (p:Addr) (H':Hp),Same H H'→H' p=some (.lst (bs l))→Q (.ref p) H'
theorem ok_q76 (T:TX w K mg):FnOk P w K mg base CX0 1 T.f_q76 T.d_q76 ["shown"] zl7:=by
  refine T.F_q76.fn.ok sc_q76 (fun vs H Q E h=>?_) (fun cdv A outer s H vs Q E hr h=>?_)
  · obtain ⟨l,rfl,_⟩:=h
    rfl
  · obtain ⟨l,rfl,hl,k⟩:=h
    refine ⟨_,(zae (zap (zqz rfl (sc_q76).nd (zqx (pv 0)) (zfg (own:=[("sign",1)]) (by kernel_rfl)) (fun _ _ _ _ _=>zcg (i:=1) (sc_q76).nd rfl (Or.inl rfl)) (fun _ _ _ _ _=>zhj) (fun _ _ _ _ _=>(za0 zgs rfl T.b_ord zff (zaa (pv 1) zac)))))),?_⟩
    dsimp! [];simp! []
    refine zke (Its (S l)) (l.map fun d=>V.str ⟨#[d]⟩) (fun v=>match v with | .str x=>V.int (x.cps.getD 0 0:Nat) | _ => .non) (H1:=H) (fun R h=>?_) (by rw [List.length_map];exact Nat.le_trans hl (by decide)) (zru (x:=S l)) (fun x H' D acc Nx hx sm hD hacc nx=>?_) fun D H' hD sm e=>?_
    · dsimp! [];simp! []
      exact h
    · obtain ⟨d,hd,rfl⟩:=List.mem_map.mp hx
      dsimp! [];simp! []
      exact ⟨acc,hD,hacc,nx H' (Same.refl _)⟩
    · refine k D H' sm ?_
      rw [e,List.map_map]
      rfl
noncomputable def zy2 (P:Program) (w:World) (K:PySem.W.Frag) (mg:Str→Option Value) (base:Heap) (C f a:Addr) (t:List Nat) {A:Type} (res:Vaunid.Res A) (post:A→V→Hp→Prop):Prop:=∃ fd ps sp,FnOk P w K mg base (CX1 P w) 20 f fd ps sp∧zb4 K fd ps []∧PySem.W.keepIn K (.ref f)=true ∧
  ∀ H Q E,SqL K H a (bs t)→RES C H Q E res post→sp [.ref a] H Q E
noncomputable def AnsF (P:Program) (w:World) (K:PySem.W.Frag) (mg:Str→Option Value) (base:Heap) (f:Addr) {A:Type} (res:Vaunid.Res A) (post:A→V→Hp→Prop) (ans:A→List Int):Prop:=∃ fd ps sp,FnOk P w K mg base CX0 20 f fd ps sp∧zb4 K fd ps []∧PySem.W.keepIn K (.ref f)=true ∧
  ∀ x v H Q E,res = .ok x→post x v H→(∀ (p:Addr) (H':Hp),Same H H'→H' p=some (.lst ((ans x).map V.int))→Q (.ref p) H')→sp [v] H Q E
noncomputable def zol (P:Program) (w:World) (K:PySem.W.Frag) (mg:Str→Option Value) (base:Heap) (C:Addr):Sp:=fun vs H Q _=>∃ (a f g:Addr) (t:List Nat) (A:Type) (res:Vaunid.Res A) (post:A→V→Hp→Prop) (ans:A→List Int),vs=[.ref a,.ref f,.ref g]∧SqL K H a (bs t) ∧
  (t.length≤2000→zy2 P w K mg base C f a t res post∧AnsF P w K mg base g res post ans)∧∀ (p:Addr) (H':Hp),Same H H'→H' p=some (.lst ((if Vaunid.long t=true then [-1] else Vaunid.reading res ans).map V.int))→Q (.ref p) H'
theorem ok_q73 (T:TX w K mg):FnOk P w K mg base CX0 21 T.f_q73 T.d_q73 ["text","reading","answering"] (zol P w K mg base T.C_q90):=by
  refine T.F_q73.fn.ok sc_q73 (fun vs H Q E h=>?_) (fun cdv A outer s H vs Q E hr h=>?_)
  · obtain ⟨a,f,g,t,A,res,post,ans,rfl,_⟩:=h
    rfl
  · obtain ⟨a,f,g,t,A,res,post,ans,rfl,ht,hF,k⟩:=h
    refine ⟨_,(zab (zbk (zam zou (za0 zbe rfl T.b_len PySem.boot_len (zaa (pv 0) zac)) (pe_g T.g_q48) (zay _)) (zae (zap (zb2 (zaa (pe_g T.g_q18) zac)))) zau)
      (zab (zxm (i:=4) (ts:=tRet (tLst (zgc (zpy K (tVar 4) "kind") (zgc (zpy K (tVar 4) "place") tNil)))) T.X_q90 rfl T.G_q90 (sc_q73).nd rfl rfl rfl rfl
          (fun pn E' D hx=>zae (zao (i:=3) (sc_q73).nd rfl (Or.inl rfl) (zte (P:=P) (w:=w) (K:=K) (mg:=mg) (base:=base) (CX:=CX1 P w) (k:=20) 1 (hr.mono (by decide)) hx (zaa (pv 0) zac))))
          (fun a=>zae (zap (zb2 (zaa (zq1 (pv 4) rfl) (zaa (zq1 (pv 4) rfl) zac))))))
      (zae (zap (zd4 (CX:=CX0) (k:=20) 2 (hr.mono (by decide)) zav (zaa (pv 3) zac)))))),?_⟩
    dsimp! [zp1,zdm];simp! [zp1,zdm]
    refine ⟨bs t,.inl ht,?_⟩
    rw [zc2]
    have elong:Vaunid.long t=decide (2000<t.length):=rfl
    refine ite2 (fun h=>?_) fun h=>?_
    · rw [elong,decide_eq_true (by omega)] at k
      exact ⟨by decide,fun p hp=>k p _ (Same.upd hp) zad⟩
    · rw [elong,decide_eq_false (by omega)] at k
      obtain ⟨⟨fd1,ps1,sp1,F1,b1,k1,r1⟩,⟨fd2,ps2,sp2,F2,b2,k2,r2⟩⟩:=hF (by omega)
      refine ⟨fd1,ps1,sp1,F1,b1,k1,r1 _ _ _ ht ?_⟩
      cases res with
      | ok x =>
        intro v H' s' hp
        exact ⟨fd2,ps2,sp2,F2,b2,k2,r2 x v H' _ _ rfl hp fun p H2 s2 e=>k p H2 (s'.trans s2) e⟩
      | error e =>
        intro dx H' s' hdx
        refine ⟨rfl,fun ax dx' e1 hax=>?_⟩
        cases e1
        have hne:dx≠ax:=zag hdx hax
        dsimp! [zpy];simp! [zpy]
        have hd2:upd H' ax (XGot T.C_q90 ax dx) dx=some (XDic dx (zrz (e.kind:Int) (e.place:Int))):=by rw [zah hne];exact hdx
        exact ⟨_,_,_,rfl,_,hd2,T.X_q90,T.n_q52,_,rfl,_,_,_,rfl,_,hd2,T.X_q90,T.n_q30,_,rfl,by decide,fun p hp=>k p _ (s'.trans ((Same.upd hax).trans (Same.upd hp))) zad⟩
noncomputable def zl6 (f:List Int→List Int) (K:PySem.W.Frag):Sp:=fun vs H Q _=>∃ (a:Addr) (ns:List Int),vs=[.ref a]∧SqL K H a (ns.map V.int)∧ns.length≤10000∧(∀ n∈ns,0≤n∧n≤255)∧∀ (H':Hp) (p:Addr),H' p=some (.lst ((f ns).map V.int))→Q (.ref p) H'
theorem zwj {ns:List Int} (h : ∀ n∈ns,0≤n∧n≤255):ns.map V.int=bs (ns.map Int.toNat):=by
  unfold bs
  rw [List.map_map]
  refine List.map_congr_left fun n hn=>?_
  show V.int n=V.int ((n.toNat:Nat):Int)
  rw [Int.toNat_of_nonneg (h n hn).1]
theorem zvf {ns:List Int} (h : ∀ n∈ns,0≤n∧n≤255):VaunidNeutral.text? ns=some (ns.map Int.toNat):=by
  unfold VaunidNeutral.text?
  rw [if_pos]
  unfold NeutralIO.bytes
  exact List.all_eq_true.mpr fun n hn=>by have:=h n hn;simp;omega
noncomputable def FIt (Cn:Addr) (K:PySem.W.Frag) (H H':Hp) (it:Addr) (i:FI):Prop:=∃ (n:Addr) (tr:Tr) (F:List Addr) (bt:Addr),H' it=some (.tup [.ref n,.ref bt])∧Rep i.1 tr∧TreeAt Cn H n tr F∧SqT K H' bt ((i.2.map S).map V.str)∧i.2.length+2 * szX i.1≤600
theorem FIt.keep {Cn:Addr}{K:PySem.W.Frag}{H H1 H2:Hp}{xs:List Addr} (sx:zal xs H1 H2) (nt : ∀ x∈xs,Mut H1 x) {it:Addr}{i:FI} (h:FIt Cn K H H1 it i):FIt Cn K H H2 it i:=by
  obtain ⟨n,tr,F,bt,e,r,t,b,l⟩:=h
  refine ⟨n,tr,F,bt,sx _ _ (fun m=>?_) e,r,t,SqT.keepX b sx nt,l⟩
  rcases nt _ m with ⟨q,z⟩ | ⟨q,z⟩ <;> (rw [z] at e;cases e)
noncomputable def zqb (Cn:Addr):Sp:=fun vs H Q _=>∃ (a:Addr) (x:Vaunid.Term) (tr:Tr) (F:List Addr),vs=[.ref a]∧Rep x tr∧TreeAt Cn H a tr F∧szX x≤300∧∀ (p:Addr) (H':Hp),Same H H'→H' p=some (.lst (((Vaunid.free x).map S).map V.str))→Q (.ref p) H'
theorem flat_strs : ∀ l:List (List Nat),((l.map S).map V.str).all zib=true
  | []=>rfl
  | _::r=>flat_strs r
theorem zsd (x:Vaunid.Term) (bb:Bool) (wd:List Nat) : ¬ (SK.p bb,(Sum.inl wd:Pc Vaunid.Term))∈zbr x:=by
  rw [zm5]
  have : ∀ (ks:List SK) (ws:List (List Nat)) (ts:List Vaunid.Term),¬ (SK.p bb,(Sum.inl wd:Pc Vaunid.Term))∈za9 ks ws ts:=by
    intro ks
    induction ks with
    | nil=>intro ws ts;simp [za9]
    | cons k r ih =>
      intro ws ts
      cases k with
      | p b=>cases ts with | nil=>simp [za9] | cons t ts=>simp [za9,ih]
      | n=>cases ws with | nil=>simp [za9] | cons t ws=>simp [za9,ih]
      | pw=>cases ws with | nil=>simp [za9] | cons t ws=>simp [za9,ih]
  exact this _ _ _
theorem ok_q60 (T:TX w K mg):FnOk P w K mg base CX0 2 T.f_q60 T.d_q60 ["term"] (zqb T.C_q96):=by
  have G_q80:=ok_q80 (P:=P) (w:=w) (base:=base) T
  refine T.F_q60.fn.ok sc_q60 (fun vs H Q E h=>?_) (fun cdv A outer s H vs Q E hr h=>?_)
  · obtain ⟨a,x,tr,F,rfl,_⟩:=h
    rfl
  · obtain ⟨a,x,tr,F,rfl,hrep,htr,hsz,k⟩:=h
    refine ⟨_,(zab (zao (i:=1) (sc_q60).nd rfl (Or.inl rfl) ztb)
      (zab (zao (i:=2) (sc_q60).nd rfl (Or.inl rfl) (zb2 (zaa (ze1 (zaa (pv 0) (zaa (ze1 zac) zac))) zac)))
      (zab (zd2 PassesOwn.never (zjl (pv 2) (fun _=>rfl)) (zab (zao (i:=3) (sc_q60).nd rfl (Or.inl rfl) (zq3 PySem.F.plainAttrs_list PySem.F.slot_list_pop PySem.F.type_list_pop zre (pv 2)))
      (zab (zao (i:=4) (sc_q60).nd rfl (Or.inl rfl) (zbw zcz (pv 3) zai (fun _ _=>rfl)))
      (zab (zao (i:=5) (sc_q60).nd rfl (Or.inl rfl) (zbw zcz (pv 3) zai (fun _ _=>rfl)))
      (zab (zbk (PW.pt (pw_and (zam zcr (zan (pv 4) rfl) zax (zay _)) (pw_and1 (zam zdo (zbw zbm (zan (pv 4) rfl) zai (fun _ _=>rfl)) (pv 5) rfl)))) (zae (zvy hr.u1 (pv 1) (zbw zbm (zan (pv 4) rfl) zai (fun _ _=>rfl)) zop rfl)) zau)
      (zae (zik PassesOwn.never rfl (zhk rfl T.b_reversed (zaa (zaj G_q80 (hr.mono (by decide)) rfl T.F_q80.mg T.F_q80.fn.kp T.F_q80.b .nil zav (zaa (pv 4) zac)) zac)) (zcg (i:=6) (sc_q60).nd rfl (Or.inl rfl)) (zae (zbk (zam zcr (zbw zcz (pv 6) zai (fun _ _=>rfl)) zax (zay _)) (zae (zbq (ze3 PySem.F.plainAttrs_list PySem.F.slot_list_append PySem.F.type_list_append zbj (pv 2) (zaa (ze1 (zaa (zbw zcz (pv 6) zai (fun _ _=>rfl)) (zaa (pv 5) zac))) zac)))) (zae (zbk (zam zcr (zbw zcz (pv 6) zai (fun _ _=>rfl)) zax (zay _)) (zae (zbq (ze3 PySem.F.plainAttrs_list PySem.F.slot_list_append PySem.F.type_list_append zbj (pv 2) (zaa (ze1 (zaa (zbw zcz (pv 6) zai (fun _ _=>rfl)) (zaa (zb8 zv5 (pv 5) (zca zj2 rfl T.b_tuple zm6 (zaa (zan (pv 4) rfl) zac))) zac))) zac)))) zau)))))))))))
      (zae (zap (zca (zpl rfl) rfl T.b_list zpm (zaa (pv 1) zac))))))),?_⟩
    dsimp! [zp0];simp! [zp0]
    refine fun fd hfd=>⟨Nat.zero_le _,fun p0 hp0=>⟨by decide,fun it0 hit0=>⟨by decide,fun td htd=>?_⟩⟩⟩
    have s1:Same H (upd H fd (.dK [])):=Same.upd hfd
    have e1:upd H fd (.dK []) fd=some (.dK []):=zad
    generalize upd H fd (.dK [])=H1 at s1 e1 hp0 hit0 htd ⊢
    have s2:Same H1 (upd H1 p0 (.tup [])):=Same.upd hp0
    have e2:upd H1 p0 (.tup []) p0=some (.tup []):=zad
    generalize upd H1 p0 (.tup [])=H2 at s2 e2 hit0 htd ⊢
    have s3:Same H2 (upd H2 it0 (.tup [.ref a,.ref p0])):=Same.upd hit0
    have e3:upd H2 it0 (.tup [.ref a,.ref p0]) it0=some (.tup [.ref a,.ref p0]):=zad
    generalize upd H2 it0 (.tup [.ref a,.ref p0])=H3 at s3 e3 htd ⊢
    have s4:Same H3 (upd H3 td (.lst [.ref it0])):=Same.upd htd
    have e4:upd H3 td (.lst [.ref it0]) td=some (.lst [.ref it0]):=zad
    generalize upd H3 td (.lst [.ref it0])=H4 at s4 e4 ⊢
    have s04:Same H H4:=s1.trans (s2.trans (s3.trans s4))
    have f4:H4 fd=some (.dK (dk [])):=s4 _ _ (s3 _ _ (s2 _ _ e1))
    have nft:fd≠td:=zci f4 e4 (by intro z;cases z)
    have htd0:H td=none:=none_of (s1.trans (s2.trans s3)) htd
    obtain ⟨Pv,hPv⟩ : ∃ Pv:Nat→L2.St→Hp→Prop,Pv=fun m σ H'=>Same H H'∧∃ (got:List (List Nat)) (sk:List FI) (its:List Addr) (z1 z2 z3 z4:Option V),m=szF sk∧σ=[some (.ref a),some (.ref fd),some (.ref td),z1,z2,z3,z4]∧H' fd=some (.dK (dk got))∧H' td=some (.lst (its.map V.ref)) ∧
      Paired (FIt T.C_q96 K H H') its sk∧zc0 [] (Vaunid.freeIn [] x)=zc0 got (ze8 sk.reverse)∧got.length+szF sk≤300:=⟨_,rfl⟩
    refine zfi Pv _ (by
      rw [hPv]
      refine ⟨s04,[],[(x,[])],[it0],none,none,none,none,rfl,rfl,f4,e4,.cons ⟨a,tr,F,p0,s4 _ _ e3,hrep,htr,SqT.of (s4 _ _ (s3 _ _ e2)),by show 0+2 * szX x≤600;omega⟩ .nil,?_,by show 0+(szX x+0)≤300;omega⟩
      show _=zc0 [] (Vaunid.freeIn [] x++[])
      rw [List.append_nil]) fun m σ H' hp=>?_
    rw [hPv] at hp
    obtain ⟨sm,got,sk,its,z1,z2,z3,z4,rfl,rfl,hf,ht,ps,hfr,hco⟩:=hp
    dsimp! [];simp! []
    by_cases hsk:its=[]
    · subst hsk
      cases ps
      refine ⟨false,.inl ⟨_,SqL.of ht,rfl⟩,?_⟩
      rw [if_neg (by simp)]
      rw [List.reverse_nil,show ze8 []=[] from rfl] at hfr
      refine ⟨_,hf,fun l hl=>k l _ (sm.trans (Same.upd hl)) ?_⟩
      have e5:Vaunid.free x=got:=by rw [zms,hfr];rfl
      rw [zad,e5]
      unfold dk
      rw [List.map_map,List.map_map]
      rfl
    · refine ⟨true,.inl ⟨_,SqL.of ht,by cases its with | nil=>exact absurd rfl hsk | cons _ _=>rfl⟩,?_⟩
      rw [if_pos rfl]
      refine ⟨_,fun _ _ z=>z,?_⟩
      obtain ⟨its',it,sk',⟨t,b⟩,rfl,rfl,ps',hit⟩:=zeg ps hsk
      rw [zg6] at hco
      rw [List.reverse_append] at hfr
      have hl2:=zp3 sk'
      have hl3:its'.length=sk'.length:=Paired.length ps'
      have ht':H' td=some (.lst (its'.map V.ref++[.ref it])):=by rw [ht,List.map_append];rfl
      dsimp! [tBM0,rPop];simp! [tBM0,rPop]
      refine ⟨.inl ⟨rfl,_,SqL.of ht⟩,_,ht',V.ref it,by simp,?_⟩
      rw [List.dropLast_concat]
      obtain ⟨n,tn,Fn,bt,hitv,hrn,htn,hbt,hbl⟩:=hit
      have sx5:zal [td] H' (upd H' td (.lst (its'.map V.ref))):=zal.upd (List.mem_singleton.mpr rfl)
      have e5:upd H' td (.lst (its'.map V.ref)) td=some (.lst (its'.map V.ref)):=zad
      have mu5 : ∀ x∈[td],Mut H' x:=fun x hx=>by rw [List.mem_singleton.mp hx];exact .inl ⟨_,ht⟩
      generalize upd H' td (.lst (its'.map V.ref))=H5 at sx5 e5 ⊢
      have sm5:Same H H5:=sx5.base sm fun x hx=>by rw [List.mem_singleton.mp hx];exact htd0
      have hit5:=sx5 _ _ (nin (zci hitv ht (by intro z;cases z))) hitv
      have hbt5:SqT K H5 bt ((b.map S).map V.str):=SqT.keepX hbt sx5 mu5
      have hf5:=sx5 _ _ (nin nft) hf
      have ps5:Paired (FIt T.C_q96 K H H5) its' sk':=Paired.mapP ps' fun _ _ q=>q.keep sx5 mu5
      refine ⟨_,rfl,_,SqT.of hit5,.ref n,rfl,_,rfl,_,SqT.of hit5,.ref bt,rfl,?_⟩
      have hbl':b.length+2 * szX t≤600:=hbl
      have hbt':SqT K H' bt ((b.map S).map V.str):=hbt
      have hrn':=hrn
      have htn':=htn
      cases hrn with
      | @mk _ b0 e0 ps0 hps =>
      cases htn with
      | @mk _ dxn wl pl _ _ _ _ as _ G t1 t2 t3 t4 =>
      have t15:=sm5 _ _ t1
      have t25:=sm5 _ _ t2
      have hfr':zc0 [] (Vaunid.freeIn [] x)=zc0 got (Vaunid.freeIn b t++ze8 sk'.reverse):=hfr
      have hco':got.length+(szF sk'+(szX t+0))≤300:=hco
      have dec:(zmu t=Vaunid.txt "name"∧∃ y,t = .leaf (.name y)∧¬ y∈b)∨(zmu t=Vaunid.txt "name"∧∃ y,t = .leaf (.name y)∧y∈b)∨(¬ zmu t=Vaunid.txt "name"∧∀ y,¬ t = .leaf (.name y)):=by
        cases q:fmX t with
        | none =>
          cases t with
          | leaf l =>
            cases l with
            | name y =>
              by_cases hy:y∈b
              · exact .inr (.inl ⟨rfl,y,rfl,hy⟩)
              · exact .inl ⟨rfl,y,rfl,hy⟩
            | num v=>exact .inr (.inr ⟨by show ¬ Vaunid.txt "number"=_;decide +kernel,fun y z=>by cases z⟩)
            | truth c=>exact .inr (.inr ⟨by cases c <;> decide +kernel,fun y z=>by cases z⟩)
            | nil=>exact .inr (.inr ⟨by decide +kernel,fun y z=>by cases z⟩)
          | _=>cases q
        | some f =>
          refine .inr (.inr ⟨?_,fun y z=>?_⟩)
          · rw [zn9 q]
            cases f <;> decide +kernel
          · rw [z] at q
            cases q
      dsimp! [tFld,zvq];simp! [tFld,t15,zvq]
      refine ⟨T.cl_q96,T.n_q66,_,rfl,rfl,?_⟩
      apply once (A:=fun H6:Hp=>∃ got6:List (List Nat),zal [fd] H5 H6∧H6 fd=some (.dK (dk got6))∧got6.length≤got.length+1∧zc0 [] (Vaunid.freeIn [] x)=zc0 got6 (ze8 (fis b t)++ze8 sk'.reverse))
      · intro tail
        rcases dec with ⟨h1,y,h2,hy⟩ | ⟨h1,y,h2,hy⟩ | ⟨h1,h2⟩
        · rw [if_pos (by rw [h1,zbs])]
          refine ⟨T.cl_q96,T.n_q51,_,rfl,_,rfl,_,SqL.of t25,.str (S y),by rw [h2];rfl,_,.inr hbt5,rfl,flat_strs _,?_⟩
          rw [in_S,decide_eq_false hy,if_pos (show (!false)=true from rfl)]
          refine ⟨T.cl_q96,T.n_q51,_,rfl,_,rfl,_,SqL.of t25,.str (S y),by rw [h2];rfl,_,DPut.k (k:=Sum.inr (S y)) hf5 (by unfold dk;rw [List.length_map];exact Nat.lt_of_le_of_lt (show _≤300 by omega) (by decide)),?_⟩
          rw [zyg]
          have sx6:zal [fd] H5 (upd H5 fd (.dK (dk (insO got y)))):=zal.upd (List.mem_singleton.mpr rfl)
          have hf6:upd H5 fd (.dK (dk (insO got y))) fd=some (.dK (dk (insO got y))):=zad
          generalize upd H5 fd (.dK (dk (insO got y)))=H6 at sx6 hf6 ⊢
          refine tail H6 ⟨_,sx6,hf6,zro got y,?_⟩
          rw [hfr',h2]
          have:Vaunid.freeIn b (.leaf (.name y))=[y]:=by
            unfold Vaunid.freeIn
            rw [zh5,decide_eq_false hy]
            rfl
          rw [this]
          rfl
        · rw [if_pos (by rw [h1,zbs])]
          refine ⟨T.cl_q96,T.n_q51,_,rfl,_,rfl,_,SqL.of t25,.str (S y),by rw [h2];rfl,_,.inr hbt5,rfl,flat_strs _,?_⟩
          rw [in_S,decide_eq_true hy,if_neg (by simp)]
          refine tail H5 ⟨_,fun _ _ _ q=>q,hf5,Nat.le_succ _,?_⟩
          rw [hfr',h2]
          have:Vaunid.freeIn b (.leaf (.name y))=[]:=by
            unfold Vaunid.freeIn
            rw [zh5,decide_eq_true hy]
            rfl
          rw [this]
          rfl
        · rw [if_neg (by rw [zbs];simp only [V.str.injEq,zfh];exact h1)]
          exact tail H5 ⟨_,fun _ _ _ q=>q,hf5,Nat.le_succ _,by rw [hfr',zmt t b h2]⟩
      · intro H6 ⟨got6,sx6,hf6,hgl,hfr6⟩
        have mu6 : ∀ x∈[fd],Mut H5 x:=fun x hx=>by rw [List.mem_singleton.mp hx];exact .inr ⟨_,hf5⟩
        have sm6:Same H H6:=sx6.base sm5 fun x hx=>by rw [List.mem_singleton.mp hx];exact hfd
        have e6:=sx6 _ _ (nin (Ne.symm nft)) e5
        have ps6:Paired (FIt T.C_q96 K H H6) its' sk':=Paired.mapP ps5 fun _ _ q=>q.keep sx6 mu6
        have hbt6:=SqT.keepX hbt5 sx6 mu6
        refine zcf ?_
        dsimp! [zfo,iRev];simp! [zfo,iRev]
        refine ⟨t,_,_,H,sm6,hrn',htn',fun c cts H7 hc s7 ec pc=>⟨_,SqL.of ec,?_⟩⟩
        have e7:=s7 _ _ e6
        have hbt7:=SqT.keepX hbt6 (zal.of (xs:=[]) s7) (by simp)
        have ps7:Paired (FIt T.C_q96 K H H7) its' sk':=Paired.mapP ps6 fun _ _ q=>q.keep (zal.of (xs:=[]) s7) (by simp)
        have hf7:=s7 _ _ hf6
        have sm7:=sm6.trans s7
        have nct:c≠td:=fun z=>by rw [z,e6] at hc;cases hc
        have pcr:=zin pc
        have hcl:cts.length=(zbr t).length:=Paired.length pc
        have hc5:=zub t
        obtain ⟨Pw,hPw⟩ : ∃ Pw:Nat→L2.St→Hp→Prop,Pw=fun i σ H8=>(∃ z,σ=[some (.ref a),some (.ref fd),some (.ref td),some (.ref it),some (.ref n),some (.ref bt),z])∧zal [td] H7 H8∧∃ nw,H8 td=some (.lst ((its'++nw).map V.ref))∧nw.length≤i∧Paired (FIt T.C_q96 K H H8) nw (((zbr t).reverse.take i).filterMap (fiOf b (zar t))):=⟨_,rfl⟩
        refine zlf (cts.map V.ref) Pw (by rw [hPw];exact ⟨⟨_,rfl⟩,fun _ _ _ q=>q,[],by rw [List.append_nil];exact e7,Nat.le_refl _,.nil⟩) (fun i σ H8 _ q=>?_) (fun i v σ H8 hx q=>?_) fun σ H8 q=>?_
        · rw [hPw] at q
          exact SqL.of (q.2.1 _ _ (nin nct) ec)
        · rw [hPw] at q
          obtain ⟨⟨z,rfl⟩,sx8,nw,hnw,hnl,pnw⟩:=q
          rw [← List.map_reverse,List.getElem?_map] at hx
          cases qi:cts.reverse[i]? with
          | none=>rw [qi] at hx;cases hx
          | some ct =>
            rw [qi] at hx
            cases hx
            have hil:=(List.getElem?_eq_some_iff.mp qi).1
            rw [List.length_reverse] at hil
            obtain ⟨⟨kk,pv⟩,hd,cv,hct,hpc⟩:=zio pcr qi
            have hmem:(kk,pv)∈zbr t:=by
              have:=List.mem_of_getElem? hd
              rwa [List.mem_reverse] at this
            have mu8 : ∀ x∈[td],Mut H7 x:=fun x hx=>by rw [List.mem_singleton.mp hx];exact .inl ⟨_,e7⟩
            have hct8:=sx8 _ _ (nin (zci hct e7 (by intro z;cases z))) hct
            have hbt8:=SqT.keepX hbt7 sx8 mu8
            have enext:((zbr t).reverse.take (i+1)).filterMap (fiOf b (zar t))=((zbr t).reverse.take i).filterMap (fiOf b (zar t))++(match fiOf b (zar t) (kk,pv) with | none=>[] | some f=>[f]):=by
              rw [List.take_succ,hd,List.filterMap_append,Option.toList_some]
              cases q:fiOf b (zar t) (kk,pv) <;> simp [List.filterMap_cons,q]
            have hlt:((its'++nw).map V.ref).length<sizeLine:=by
              rw [List.length_map,List.length_append]
              exact Nat.lt_of_le_of_lt (show _≤1000 by omega) (by decide)
            have skip:fiOf b (zar t) (kk,pv)=none→Pw (i+1) [some (.ref a),some (.ref fd),some (.ref td),some (.ref it),some (.ref n),some (.ref bt),some (.ref ct)] H8:=fun e=>by
              rw [hPw]
              refine ⟨⟨_,rfl⟩,sx8,nw,hnw,by omega,?_⟩
              rw [enext,e,List.append_nil]
              exact pnw
            have fin : ∀ (t':Vaunid.Term) (b':List (List Nat)) (ac bt':Addr) (tr':Tr) (F':List Addr) (H9:Hp),fiOf b (zar t) (kk,pv)=some (t',b')→Rep t' tr'→TreeAt T.C_q96 H ac tr' F'→Same H8 H9→SqT K H9 bt' ((b'.map S).map V.str)→b'.length+2 * szX t'≤600→∀ q,H9 q=none →
                ∃ acc,upd H9 q (.tup [.ref ac,.ref bt']) td=some (.lst acc)∧acc.length<sizeLine∧Pw (i+1) [some (.ref a),some (.ref fd),some (.ref td),some (.ref it),some (.ref n),some (.ref bt),some (.ref ct)] (upd (upd H9 q (.tup [.ref ac,.ref bt'])) td (.lst (acc++[.ref q]))):=by
              intro t' b' ac bt' tr' F' H9 hfi hr' ht' s9 hb' hl' q hq
              have s10:Same H9 (upd H9 q (.tup [.ref ac,.ref bt'])):=Same.upd hq
              have e10:upd H9 q (.tup [.ref ac,.ref bt']) q=some (.tup [.ref ac,.ref bt']):=zad
              generalize upd H9 q (.tup [.ref ac,.ref bt'])=H10 at s10 e10 ⊢
              have h10:=s10 _ _ (s9 _ _ hnw)
              have sx11:zal [td] H10 (upd H10 td (.lst ((its'++nw).map V.ref++[.ref q]))):=zal.upd (List.mem_singleton.mpr rfl)
              have mu10 : ∀ x∈[td],Mut H10 x:=fun x hx=>by rw [List.mem_singleton.mp hx];exact .inl ⟨_,h10⟩
              refine ⟨_,h10,hlt,?_⟩
              rw [hPw]
              refine ⟨⟨_,rfl⟩,sx8.trans ((zal.of (s9.trans s10)).trans sx11),nw++[q],?_,by rw [List.length_append];show nw.length+1≤_;omega,?_⟩
              · rw [zad,← List.append_assoc,List.map_append (l₁:=its'++nw)]
                rfl
              · rw [enext,hfi]
                exact zby (Paired.mapP pnw fun _ _ z=>(z.keep (zal.of (xs:=[]) (s9.trans s10)) (by simp)).keep sx11 mu10) (FIt.keep sx11 mu10 ⟨ac,tr',F',bt',e10,hr',ht',SqT.keepX hb' (zal.of (xs:=[]) s10) (by simp),hl'⟩)
            dsimp! [tBM,za7,tFld,zvs];simp! [zgd,zok,tBM,za7,tFld,zvs]
            refine ⟨_,SqT.of hct8,_,rfl,rfl,?_⟩
            cases kk with
            | n =>
              rw [if_neg (by simp only [V.str.injEq];decide +kernel)]
              refine ⟨_,SqT.of hct8,_,rfl,rfl,?_⟩
              rw [if_neg (by simp only [V.str.injEq];decide +kernel)]
              exact skip rfl
            | pw =>
              rw [if_neg (by simp only [V.str.injEq];decide +kernel)]
              refine ⟨_,SqT.of hct8,_,rfl,rfl,?_⟩
              rw [if_neg (by simp only [V.str.injEq];decide +kernel)]
              exact skip rfl
            | p bb =>
              cases pv with
              | inl wd=>exact absurd hmem (zsd t bb wd)
              | inr t' =>
                have hsz':=zww hmem
                obtain ⟨ac,tr',F',hcv,hr',ht'⟩:=hpc
                subst hcv
                cases bb with
                | false =>
                  have f1:=fin t' b ac bt tr' F' H8 rfl hr' ht' (Same.refl _) hbt8 (by omega)
                  rw [if_pos (by rfl)]
                  exact ⟨.inl ⟨rfl,_,SqL.of hnw⟩,_,SqT.of hct8,_,rfl,by decide,f1⟩
                | true =>
                  have hw2:=zpo (x:=t)
                  rw [if_neg (by simp only [V.str.injEq];decide +kernel)]
                  refine ⟨_,SqT.of hct8,_,rfl,rfl,?_⟩
                  rw [if_pos (by rfl)]
                  have nn:n≠td:=fun z=>by rw [z] at t1;rw [htd0] at t1;cases t1
                  have nw':wl≠td:=fun z=>by rw [z] at t2;rw [htd0] at t2;cases t2
                  have t18:=sx8 _ _ (nin nn) (sm7 _ _ t1)
                  have t28:=sx8 _ _ (nin nw') (sm7 _ _ t2)
                  refine ⟨.inl ⟨rfl,_,SqL.of hnw⟩,_,SqT.of hct8,_,rfl,_,_,_,t18,T.cl_q96,T.n_q51,_,rfl,_,rfl,_,.inl ⟨SqL.of t28,fun l hl=>?_⟩⟩
                  have s9:Same H8 (upd H8 l (.tup (((zar t).map S).map V.str))):=Same.upd hl
                  have e9:upd H8 l (.tup (((zar t).map S).map V.str)) l=some (.tup (((zar t).map S).map V.str)):=zad
                  generalize upd H8 l (.tup (((zar t).map S).map V.str))=H9 at s9 e9 ⊢
                  refine ⟨_,SqT.keepX hbt8 (zal.of (xs:=[]) s9) (by simp),_,SqT.of e9,?_,fun p H10 s10 h10=>⟨by decide,?_⟩⟩
                  · simp only [List.length_map]
                    exact Nat.le_trans (show _≤1000 by omega) (by decide)
                  · exact fin t' (b++zar t) ac p tr' F' H10 rfl hr' ht' (s9.trans s10) (by rw [List.map_append,List.map_append];exact h10) (by rw [List.length_append];omega)
        · rw [hPw] at q
          obtain ⟨⟨z,rfl⟩,sx8,nw,hnw,hnl,pnw⟩:=q
          have mu8 : ∀ x∈[td],Mut H7 x:=fun x hx=>by rw [List.mem_singleton.mp hx];exact .inl ⟨_,e7⟩
          rw [List.length_map,hcl,← List.length_reverse (as:=zbr t),List.take_length,List.filterMap_reverse] at pnw
          have hsf:=zvh t b
          refine ⟨szF (sk'++(fis b t).reverse),?_,?_⟩
          · rw [zg6,zg6,zl3]
            show _<szF sk'+(szX t+0)
            omega
          · rw [hPv]
            refine ⟨sx8.base sm7 (fun x hx=>by rw [List.mem_singleton.mp hx];exact htd0),_,sk'++(fis b t).reverse,its'++nw,_,_,_,_,rfl,rfl,sx8 _ _ (nin nft) hf7,hnw,zfr (Paired.mapP ps7 fun _ _ q=>q.keep sx8 mu8) pnw,?_,?_⟩
            · rw [hfr6,List.reverse_append,List.reverse_reverse]
              unfold ze8
              rw [List.flatMap_append]
            · rw [zg6,zl3]
              omega
theorem zaz {y:List Nat} : ∀ (x:Vaunid.Term) (b:List (List Nat)),y∈Vaunid.freeIn b x→y∈allX x
  | .leaf (.name z),b,h=>by
    unfold Vaunid.freeIn at h
    split at h
    · cases h
    · exact h
  | .leaf (.num _),b,h=>by cases h
  | .leaf (.truth _),b,h=>by cases h
  | .leaf .nil,b,h=>by cases h
  | .one .fst a,b,h=>zaz a b h
  | .one .snd a,b,h=>zaz a b h
  | .one .root a,b,h=>zaz a b h
  | .one (.pow n) a,b,h=>List.mem_cons_of_mem _ (zaz a b h)
  | .two _ a c,b,h=>by
    rcases List.mem_append.mp h with h | h
    · exact List.mem_append_left _ (zaz a _ h)
    · exact List.mem_append_right _ (zaz c _ h)
  | .three _ a c d,b,h=>by
    rcases List.mem_append.mp h with h | h
    · exact List.mem_append_left _ (zaz a _ h)
    · rcases List.mem_append.mp h with h | h
      · exact List.mem_append_right _ (List.mem_append_left _ (zaz c _ h))
      · exact List.mem_append_right _ (List.mem_append_right _ (zaz d _ h))
  | .fn x a,b,h=>List.mem_cons_of_mem _ (zaz a _ h)
  | .rec_ f x a,b,h=>List.mem_cons_of_mem _ (List.mem_cons_of_mem _ (zaz a _ h))
  | .let_ x a c,b,h=>by
    rcases List.mem_append.mp h with h | h
    · exact List.mem_cons_of_mem _ (List.mem_append_left _ (zaz a _ h))
    · exact List.mem_cons_of_mem _ (List.mem_append_right _ (zaz c _ h))
  | .case l a hh t c,b,h=>by
    refine List.mem_cons_of_mem _ (List.mem_cons_of_mem _ ?_)
    rcases List.mem_append.mp h with h | h
    · exact List.mem_append_left _ (zaz l _ h)
    · rcases List.mem_append.mp h with h | h
      · exact List.mem_append_right _ (List.mem_append_left _ (zaz a _ h))
      · exact List.mem_append_right _ (List.mem_append_right _ (zaz c _ h))
theorem za4 : ∀ (x:Vaunid.Term) (b:List (List Nat)),(Vaunid.freeIn b x).length≤szX x
  | .leaf (.name z),b=>by
    unfold Vaunid.freeIn
    split <;> simp [szX]
  | .leaf (.num _),b=>by simp [Vaunid.freeIn]
  | .leaf (.truth _),b=>by simp [Vaunid.freeIn]
  | .leaf .nil,b=>by simp [Vaunid.freeIn]
  | .one _ a,b=>by have:=za4 a b;simp only [Vaunid.freeIn,szX];omega
  | .two _ a c,b=>by have:=za4 a b;have:=za4 c b;simp only [Vaunid.freeIn,szX,List.length_append];omega
  | .three _ a c d,b=>by have:=za4 a b;have:=za4 c b;have:=za4 d b;simp only [Vaunid.freeIn,szX,List.length_append];omega
  | .fn x a,b=>by have:=za4 a (x::b);simp only [Vaunid.freeIn,szX];omega
  | .rec_ f x a,b=>by have:=za4 a (x::f::b);simp only [Vaunid.freeIn,szX];omega
  | .let_ x a c,b=>by have:=za4 a b;have:=za4 c (x::b);simp only [Vaunid.freeIn,szX,List.length_append];omega
  | .case l a hh t c,b=>by have:=za4 l b;have:=za4 a b;have:=za4 c (t::hh::b);simp only [Vaunid.freeIn,szX,List.length_append];omega
theorem zhs : ∀ (l g:List (List Nat)),(zc0 g l).length≤g.length+l.length∧∀ y∈zc0 g l,y∈g∨y∈l
  | [],g=>⟨Nat.le_refl _,fun y h => .inl h⟩
  | x::r,g=>by
    obtain ⟨h1,h2⟩:=zhs r (insO g x)
    have h3:=zro g x
    refine ⟨by show (zc0 (insO g x) r).length≤_;rw [List.length_cons];omega,fun y hy=>?_⟩
    rcases h2 y hy with h | h
    · unfold insO at h
      split at h
      · exact .inl h
      · rcases List.mem_append.mp h with h | h
        · exact .inl h
        · exact .inr (List.mem_cons.mpr (.inl (List.mem_singleton.mp h)))
    · exact .inr (List.mem_cons_of_mem _ h)
theorem zty (x:Vaunid.Term):(Vaunid.free x).length≤szX x:=by
  rw [zms]
  have h:=(zhs (Vaunid.freeIn [] x) []).1
  have h2:=za4 x []
  rw [List.length_nil] at h
  omega
theorem ztx {x:Vaunid.Term}{y:List Nat} (h:y∈Vaunid.free x):y∈allX x:=by
  rw [zms] at h
  rcases (zhs (Vaunid.freeIn [] x) []).2 y h with h | h
  · cases h
  · exact zaz x [] h
noncomputable def zqa (Cn:Addr):Sp:=fun vs H Q _=>∃ (x:Vaunid.Term) (v:V),vs=[v]∧zgo Cn x v H∧∀ (p:Addr) (H':Hp),Same H H'→H' p=some (.lst ((0::(Vaunid.free x).flatMap fun y=>(y.length:Int)::Vaunid.numbers y).map V.int))→Q (.ref p) H'
theorem ok_q27 (T:TX w K mg):FnOk P w K mg base CX0 3 T.f_q27 T.d_q27 ["term"] (zqa T.C_q96):=by
  have G_q60:=ok_q60 (P:=P) (w:=w) (base:=base) T
  have G_q76:=ok_q76 (P:=P) (w:=w) (base:=base) T
  refine T.F_q27.fn.ok sc_q27 (fun vs H Q E h=>?_) (fun cdv A outer s H vs Q E hr h=>?_)
  · obtain ⟨x,v,rfl,_⟩:=h
    rfl
  · obtain ⟨x,v,rfl,⟨a,tr,F,rfl,hrep,htr,hfl,hdp,hwb⟩,k⟩:=h
    refine ⟨_,(zab (zao (i:=1) (sc_q27).nd rfl (Or.inl rfl) (zb2 (zaa zai zac)))
      (zab (zik PassesOwn.never rfl (zmd (zaj G_q60 (hr.mono (by decide)) rfl T.F_q60.mg T.F_q60.fn.kp T.F_q60.b .nil zav (zaa (pv 0) zac))) (zcg (i:=2) (sc_q27).nd rfl (Or.inl rfl)) (zab (zbq (ze3 PySem.F.plainAttrs_list PySem.F.slot_list_append PySem.F.type_list_append zbj (pv 1) (zaa (za0 zbd rfl T.b_len PySem.boot_len (zaa (pv 2) zac)) zac)))
      (zae (zbq (ze3 PySem.F.plainAttrs_list PySem.F.slot_list_extend PySem.F.type_list_extend zrf (pv 1) (zaa (zaj G_q76 (hr.mono (by decide)) rfl T.F_q76.mg T.F_q76.fn.kp T.F_q76.b .nil zav (zaa (pv 2) zac)) zac))))))
      (zae (zap (pv 1))))),?_⟩
    have hsz:szX x≤300:=by rw [← zxj hrep 1];exact hfl
    dsimp! [];simp! []
    refine ⟨by decide,fun an han=>?_⟩
    have s1:Same H (upd H an (.lst [.int 0])):=Same.upd han
    have e1:upd H an (.lst [.int 0]) an=some (.lst [.int 0]):=zad
    generalize upd H an (.lst [.int 0])=H1 at s1 e1 ⊢
    refine zcf ?_
    dsimp! [zqb];simp! [zqb]
    refine ⟨x,tr,hrep,F,htr.same s1,hsz,fun p H2 s2 e2=>⟨⟨_,SqL.of e2⟩,?_⟩⟩
    have e12:=s2 _ _ e1
    have npa:p≠an:=zci e2 e12 (by
      intro z
      injection z with z
      cases q:Vaunid.free x with
      | nil=>rw [q] at z;cases z
      | cons _ _=>rw [q] at z;cases z)
    have hfl2:(Vaunid.free x).length≤300:=Nat.le_trans (zty x) hsz
    have hfw : ∀ y∈Vaunid.free x,y.length≤10100:=fun y hy=>hwb y (ztx hy)
    obtain ⟨ans,hans⟩ : ∃ ans:List (List Nat)→List Int,ans=fun l=>0::l.flatMap fun y=>(y.length:Int)::Vaunid.numbers y:=⟨_,rfl⟩
    have anlen : ∀ i,(ans ((Vaunid.free x).take i)).length≤3100000:=fun i=>by
      rw [hans,List.length_cons,List.length_flatMap]
      have : ∀ (l:List (List Nat)),(∀ y∈l,y.length≤10100)→(l.map fun y=>((y.length:Int)::Vaunid.numbers y).length).sum≤10101 * l.length:=by
        intro l
        induction l with
        | nil=>intro _;simp
        | cons y r ih =>
          intro h
          have h1:=h y (List.mem_cons_self ..)
          have h2:=ih fun z hz=>h z (List.mem_cons_of_mem _ hz)
          rw [List.map_cons,List.sum_cons,List.length_cons,List.length_cons]
          unfold Vaunid.numbers at h2 ⊢
          rw [List.length_map]
          omega
      have h3:=this ((Vaunid.free x).take i) fun y hy=>hfw y (List.mem_of_mem_take hy)
      rw [List.length_take] at h3
      omega
    obtain ⟨Pv,hPv⟩ : ∃ Pv:Nat→L2.St→Hp→Prop,Pv=fun i σ H3=>(∃ z,σ=[some (.ref a),some (.ref an),z])∧zal [an] H2 H3∧H3 an=some (.lst ((ans ((Vaunid.free x).take i)).map V.int)):=⟨_,rfl⟩
    refine ziy (((Vaunid.free x).map S).map V.str) Pv (by rw [hPv,hans];exact ⟨⟨_,rfl⟩,fun _ _ _ q=>q,e12⟩) (fun i σ H3 _ q=>?_) (fun i v σ H3 hx q=>?_) fun σ H3 q=>?_
    · rw [hPv] at q
      exact SqL.of (q.2.1 _ _ (nin npa) e2)
    · rw [hPv] at q
      obtain ⟨⟨z,rfl⟩,sx3,h3⟩:=q
      rw [List.getElem?_map,List.getElem?_map] at hx
      cases qi:(Vaunid.free x)[i]? with
      | none=>rw [qi] at hx;cases hx
      | some y =>
        rw [qi] at hx
        cases hx
        have hy:=hfw y (List.mem_of_getElem? qi)
        have hal:=anlen i
        dsimp! [tBM,za7,zmb,zl7];simp! [zgd,tBM,za7,zmb,zl7,zfh]
        have small : ∀ n:Nat,n≤4000000→n<sizeLine:=fun n h=>Nat.lt_of_le_of_lt h (by decide)
        refine ⟨.inl ⟨rfl,_,SqL.of h3⟩,Nat.le_of_lt (small _ (by omega)),_,h3,small _ (by rw [List.length_map];omega),.inl ⟨rfl,_,SqL.of zad⟩,by omega,fun q H4 s4 e4=>⟨_,s4 _ _ zad,_,e4,?_,?_⟩⟩
        · rw [List.length_append,List.length_map,zc2]
          exact Nat.le_of_lt (small _ (by show (ans _).length+1+y.length≤_;omega))
        · rw [hPv]
          refine ⟨⟨_,rfl⟩,sx3.trans ((zal.upd (List.mem_singleton.mpr rfl)).trans ((zal.of s4).trans (zal.upd (List.mem_singleton.mpr rfl)))),?_⟩
          rw [zad,List.take_succ,qi,hans]
          simp only [Option.toList_some,List.flatMap_append,List.flatMap_cons,List.flatMap_nil,List.append_nil,List.map_cons,List.map_append,List.cons_append,List.append_assoc,List.nil_append]
          unfold bs Vaunid.numbers
          rw [List.map_map (f:=Int.ofNat)]
          rfl
    · rw [hPv] at q
      obtain ⟨⟨z,rfl⟩,sx3,h3⟩:=q
      rw [List.length_map,List.length_map,List.take_length,hans] at h3
      dsimp! [];simp! []
      exact k an H3 (sx3.base (s1.trans s2) fun x hx=>by rw [List.mem_singleton.mp hx];exact han) h3
theorem zt5 {ns:List Int} (h : ∀ n∈ns,0≤n∧n≤255):PyVaunid.free ns=if Vaunid.long (ns.map Int.toNat)=true then [-1] else Vaunid.reading (Vaunid.readCore (ns.map Int.toNat)) fun x=>0::(Vaunid.free x).flatMap fun y=>(y.length:Int)::Vaunid.numbers y:=by
  have e:VaunidNeutral.callOf [[7],ns]=some (.free (ns.map Int.toNat)):=by
    show (VaunidNeutral.text? ns).map _=_
    rw [zvf h]
    rfl
  unfold PyVaunid.free VaunidNeutral.step
  rw [e]
  rfl
theorem zv9 (T:TX w K mg):FnOk P w K mg base CX0 22 T.f_q95 T.d_q95 ["text"] (zl6 PyVaunid.free K):=by
  have G_q73:=ok_q73 (P:=P) (w:=w) (base:=base) T
  refine T.F_q95.fn.ok sc_q95 (fun vs H Q E h=>?_) (fun cdv A outer s H vs Q E hr h=>?_)
  · obtain ⟨a,ns,rfl,_⟩:=h
    rfl
  · obtain ⟨a,ns,rfl,ht,hl,hn,k⟩:=h
    refine ⟨_,(zae (zap (zaj G_q73 (hr.mono (by decide)) rfl T.F_q73.mg T.F_q73.fn.kp T.F_q73.b .nil zav (zaa (pv 0) (zaa (pe_r T.F_q67.mg) (zaa (pe_r T.F_q27.mg) zac)))))),?_⟩
    dsimp! [];simp! []
    rw [zwj hn] at ht
    rw [zt5 hn] at k
    refine ⟨a,_,_,ns.map Int.toNat,_,Vaunid.readCore (ns.map Int.toNat),zgo T.C_q96,_,rfl,ht,fun h2=>⟨?_,?_⟩,fun p H' _ e=>k H' p e⟩
    · exact ⟨_,_,_,(ok_q67 T).mono (by decide),T.F_q67.b,T.F_q67.fn.kp,fun H Q E h1 h3=>⟨a,_,rfl,h1,by rw [List.length_map];omega,h3⟩⟩
    · exact ⟨_,_,_,(ok_q27 T).mono (by decide),T.F_q27.b,T.F_q27.fn.kp,fun x v H Q E e h1 h3=>⟨x,v,rfl,h1,h3⟩⟩
end
set_option maxHeartbeats 4000000
open PySem.W (Codec nsIn findIn)
noncomputable def FnIn (K:PySem.W.Frag) (nm qual:Str) (st:Stmt) (f:Addr):Prop:=∃ (oc kV dc pm cd ct:Value) (od an:Option Addr) (sl:Array (Option Value)),K.lookup f=some ⟨oc,od,.func (PySem.W.fnOf nm qual (zfy st) (zde st) (zaf st) .none kV dc pm an cd ct),sl⟩∧PySem.W.codeIn K cd qual=true∧PySem.W.keepIn K (.ref f)=true
theorem FnIn.fn {K:PySem.W.Frag}{nm qual:Str}{st:Stmt}{f:Addr} (h:FnIn K nm qual st f) : ∃ d,Fun K nm qual st f d:=by
  obtain ⟨oc,kV,dc,pm,cd,ct,od,an,sl,l,c,k⟩:=h
  exact ⟨_,zu0 l c k⟩
theorem mo {K:PySem.W.Frag}{h:Heap}{mg:Str→Option Value} (X:K.In h) (G:h.Ns mainGlobals mg) {x:Str}{u:Value} (e:PySem.W.nsIn K mainGlobals x=some (some u)):mg x=some u:=PySem.W.mg_of X G e
theorem mn {K:PySem.W.Frag}{h:Heap}{mg:Str→Option Value} (X:K.In h) (G:h.Ns mainGlobals mg) {x:Str} (e:PySem.W.nsIn K mainGlobals x=some none):mg x=none:=PySem.W.mg_none_of X G e
theorem ln1 {Q:List Value→Prop} (h : ∀ a,Q [a]) : ∀ us:List Value,us.length=1→Q us
  | [a],_=>h a
theorem ln2 {Q:List Value→Prop} (h : ∀ a b,Q [a,b]) : ∀ us:List Value,us.length=2→Q us
  | [a,b],_=>h a b
theorem ln3 {Q:List Value→Prop} (h : ∀ a b c,Q [a,b,c]) : ∀ us:List Value,us.length=3→Q us
  | [a,b,c],_=>h a b c
theorem ln4 {Q:List Value→Prop} (h : ∀ a b c d,Q [a,b,c,d]) : ∀ us:List Value,us.length=4→Q us
  | [a,b,c,d],_=>h a b c d
theorem ln6 {Q:List Value→Prop} (h : ∀ a b c d e f,Q [a,b,c,d,e,f]) : ∀ us:List Value,us.length=6→Q us
  | [a,b,c,d,e,f],_=>h a b c d e f
theorem zbl {K:PySem.W.Frag}{H:Hp}{a:Addr}{od:Option Addr}{its:Array Value}{n:Nat}{sl:Array (Option Value)}{vs:List V} (l:K.lookup a=some ⟨.type "tuple",od,.seq its n,sl⟩) (v:Vals vs its.toList) (hs:vs.length≤sizeLine):SqT K H a vs :=
  .inr ⟨_,its,n,l,rfl,rfl,by rw [← Array.length_toList,← L2.Vals.length v];exact hs,v⟩
theorem zym {P:Program}{w:World}{K:W.Frag}{h:Heap}{mg:Str→Option Value}{fa:Addr} (X:K.In h) (G:h.Ns mainGlobals mg) (hfa:mg "free"=some (.ref fa))
    {t_q45:Tok}
    {t_q55:Tok}
    {a_q31:Addr}{od_q31:Option Addr}{its_q31:Array Value}{n_q31:Nat}{sl_q31:Array (Option Value)}
    {a_q40:Addr}{od_q40:Option Addr}{its_q40:Array Value}{n_q40:Nat}{sl_q40:Array (Option Value)}
    {a_q88:Addr}
    {es_q88:Array DictEntry}{ep_q88:Nat}{ad_q88_0 ad_q88_1 ad_q88_2 ad_q88_3 ad_q88_4 ad_q88_5 ad_q88_6 ad_q88_7 ad_q88_8 ad_q88_9 ad_q88_10 ad_q88_11 ad_q88_12 ad_q88_13 ad_q88_14 ad_q88_15 ad_q88_16 ad_q88_17 ad_q88_18 ad_q88_19 ad_q88_20:Addr}
    {its_q88_0:Array Value}{n_q88_0:Nat}{sl_q88_0:Array (Option Value)}
    {its_q88_1:Array Value}{n_q88_1:Nat}{sl_q88_1:Array (Option Value)}
    {its_q88_2:Array Value}{n_q88_2:Nat}{sl_q88_2:Array (Option Value)}
    {its_q88_3:Array Value}{n_q88_3:Nat}{sl_q88_3:Array (Option Value)}
    {its_q88_4:Array Value}{n_q88_4:Nat}{sl_q88_4:Array (Option Value)}
    {its_q88_5:Array Value}{n_q88_5:Nat}{sl_q88_5:Array (Option Value)}
    {its_q88_6:Array Value}{n_q88_6:Nat}{sl_q88_6:Array (Option Value)}
    {its_q88_7:Array Value}{n_q88_7:Nat}{sl_q88_7:Array (Option Value)}
    {its_q88_8:Array Value}{n_q88_8:Nat}{sl_q88_8:Array (Option Value)}
    {its_q88_9:Array Value}{n_q88_9:Nat}{sl_q88_9:Array (Option Value)}
    {its_q88_10:Array Value}{n_q88_10:Nat}{sl_q88_10:Array (Option Value)}
    {its_q88_11:Array Value}{n_q88_11:Nat}{sl_q88_11:Array (Option Value)}
    {its_q88_12:Array Value}{n_q88_12:Nat}{sl_q88_12:Array (Option Value)}
    {its_q88_13:Array Value}{n_q88_13:Nat}{sl_q88_13:Array (Option Value)}
    {its_q88_14:Array Value}{n_q88_14:Nat}{sl_q88_14:Array (Option Value)}
    {its_q88_15:Array Value}{n_q88_15:Nat}{sl_q88_15:Array (Option Value)}
    {its_q88_16:Array Value}{n_q88_16:Nat}{sl_q88_16:Array (Option Value)}
    {its_q88_17:Array Value}{n_q88_17:Nat}{sl_q88_17:Array (Option Value)}
    {its_q88_18:Array Value}{n_q88_18:Nat}{sl_q88_18:Array (Option Value)}
    {its_q88_19:Array Value}{n_q88_19:Nat}{sl_q88_19:Array (Option Value)}
    {its_q88_20:Array Value}{n_q88_20:Nat}{sl_q88_20:Array (Option Value)}
    {t_q92:Tok}
    {t_q16:Tok}
    {t_q29:Tok}
    {t_q89:Tok}
    {a_q9:Addr}{od_q9:Option Addr}{its_q9:Array Value}{n_q9:Nat}{sl_q9:Array (Option Value)}
    {t_q10:Tok}
    {t_q24:Tok}
    {t_q43:Tok}
    {t_q83:Tok}
    {a_q35:Addr}{od_q35:Option Addr}{its_q35:Array Value}{n_q35:Nat}{sl_q35:Array (Option Value)}
    {t_q34:Tok}
    {t_q3:Tok}
    {t_q1:Tok}
    {t_q50:Tok}
    {t_q21:Tok}
    {t_q49:Tok}
    {a_q62:Addr}{od_q62:Option Addr}{its_q62:Array Value}{n_q62:Nat}{sl_q62:Array (Option Value)}
    {t_q48:Tok}
    {t_q18:Tok}
    {C_q90:Addr}
    {N_q90:Addr}{nm_q90 qq_q90:Str}{bs_q90 sub_q90:List Value}{sn_q90:List Str}{ab_q90:Bool}{col_q90:Option Bool}{dd_q90:Option Addr}{x0_q90 x1_q90 x2_q90 x3_q90 x5_q90:Option Value}
    {C_q96:Addr}
    {C_q87:Addr}
    {C_q91:Addr}
    {C_Row:Addr}
    {C_q94:Addr}
    {oc_q95 kV_q95 dc_q95 pm_q95 cd_q95 ct_q95:Value}{od_q95 an_q95:Option Addr}{sl_q95:Array (Option Value)}
    {f_q5 f_q17 f_q2 f_q7 f_q25 f_q26 f_q77 f_q13 f_q14 f_q71 f_q23 f_q80 f_q60 f_q69 f_q72 f_q39 f_q12 f_q74 f_q0 f_q85 f_q82 f_q81 f_q46 f_q32 f_q86 f_q8 f_q58 f_q65 f_q79 f_q78 f_q84 f_q37 f_q28 f_q4 f_q22 f_q54 f_q47 f_q19 f_q41 f_q56 f_q67 f_q93 f_q59 f_q15 f_q97 f_q95 f_q73 f_q27 f_q76:Addr}
    (g_q45:nsIn K mainGlobals "MOST_DEPTH"=some (some (.int 40 t_q45)))
    (g_q55:nsIn K mainGlobals "MOST_NODES"=some (some (.int 300 t_q55)))
    (g_q31:nsIn K mainGlobals "PLAIN_FORMS"=some (some (.ref a_q31)))
    (l_q31:K.lookup a_q31=some ⟨.type "tuple",od_q31,.seq its_q31 n_q31,sl_q31⟩)
    (v_q31:Vals [V.str "true",V.str "false",V.str "nil"] its_q31.toList)
    (g_q40:nsIn K mainGlobals "PART_KINDS"=some (some (.ref a_q40)))
    (l_q40:K.lookup a_q40=some ⟨.type "tuple",od_q40,.seq its_q40 n_q40,sl_q40⟩)
    (v_q40:Vals [V.str "part",V.str "body"] its_q40.toList)
    (g_q88:nsIn K mainGlobals "FORMS"=some (some (.ref a_q88)))
    (l_q88:K.lookup a_q88=some { cls := .type "dict",data := .dict es_q88 ep_q88 })
    (p_q88:Paired (znd w) [("fn",V.ref ad_q88_0),("rec",V.ref ad_q88_1),("let",V.ref ad_q88_2),("if",V.ref ad_q88_3),("apply",V.ref ad_q88_4),("pair",V.ref ad_q88_5),("fst",V.ref ad_q88_6),("snd",V.ref ad_q88_7),("cons",V.ref ad_q88_8),("case",V.ref ad_q88_9),("fold",V.ref ad_q88_10),("+",V.ref ad_q88_11),("-",V.ref ad_q88_12),("*",V.ref ad_q88_13),("/",V.ref ad_q88_14),("<",V.ref ad_q88_15),("=",V.ref ad_q88_16),("floor",V.ref ad_q88_17),("rest",V.ref ad_q88_18),("root",V.ref ad_q88_19),("^",V.ref ad_q88_20)] es_q88.toList)
    (lt_q88_0:K.lookup ad_q88_0=some ⟨.type "tuple",none,.seq its_q88_0 n_q88_0,sl_q88_0⟩)
    (v_q88_0:Vals [V.str "name",V.str "body"] its_q88_0.toList)
    (lt_q88_1:K.lookup ad_q88_1=some ⟨.type "tuple",none,.seq its_q88_1 n_q88_1,sl_q88_1⟩)
    (v_q88_1:Vals [V.str "name",V.str "name",V.str "body"] its_q88_1.toList)
    (lt_q88_2:K.lookup ad_q88_2=some ⟨.type "tuple",none,.seq its_q88_2 n_q88_2,sl_q88_2⟩)
    (v_q88_2:Vals [V.str "name",V.str "part",V.str "body"] its_q88_2.toList)
    (lt_q88_3:K.lookup ad_q88_3=some ⟨.type "tuple",none,.seq its_q88_3 n_q88_3,sl_q88_3⟩)
    (v_q88_3:Vals [V.str "part",V.str "part",V.str "part"] its_q88_3.toList)
    (lt_q88_4:K.lookup ad_q88_4=some ⟨.type "tuple",none,.seq its_q88_4 n_q88_4,sl_q88_4⟩)
    (v_q88_4:Vals [V.str "part",V.str "part"] its_q88_4.toList)
    (lt_q88_5:K.lookup ad_q88_5=some ⟨.type "tuple",none,.seq its_q88_5 n_q88_5,sl_q88_5⟩)
    (v_q88_5:Vals [V.str "part",V.str "part"] its_q88_5.toList)
    (lt_q88_6:K.lookup ad_q88_6=some ⟨.type "tuple",none,.seq its_q88_6 n_q88_6,sl_q88_6⟩)
    (v_q88_6:Vals [V.str "part"] its_q88_6.toList)
    (lt_q88_7:K.lookup ad_q88_7=some ⟨.type "tuple",none,.seq its_q88_7 n_q88_7,sl_q88_7⟩)
    (v_q88_7:Vals [V.str "part"] its_q88_7.toList)
    (lt_q88_8:K.lookup ad_q88_8=some ⟨.type "tuple",none,.seq its_q88_8 n_q88_8,sl_q88_8⟩)
    (v_q88_8:Vals [V.str "part",V.str "part"] its_q88_8.toList)
    (lt_q88_9:K.lookup ad_q88_9=some ⟨.type "tuple",none,.seq its_q88_9 n_q88_9,sl_q88_9⟩)
    (v_q88_9:Vals [V.str "part",V.str "part",V.str "name",V.str "name",V.str "body"] its_q88_9.toList)
    (lt_q88_10:K.lookup ad_q88_10=some ⟨.type "tuple",none,.seq its_q88_10 n_q88_10,sl_q88_10⟩)
    (v_q88_10:Vals [V.str "part",V.str "part",V.str "part"] its_q88_10.toList)
    (lt_q88_11:K.lookup ad_q88_11=some ⟨.type "tuple",none,.seq its_q88_11 n_q88_11,sl_q88_11⟩)
    (v_q88_11:Vals [V.str "part",V.str "part"] its_q88_11.toList)
    (lt_q88_12:K.lookup ad_q88_12=some ⟨.type "tuple",none,.seq its_q88_12 n_q88_12,sl_q88_12⟩)
    (v_q88_12:Vals [V.str "part",V.str "part"] its_q88_12.toList)
    (lt_q88_13:K.lookup ad_q88_13=some ⟨.type "tuple",none,.seq its_q88_13 n_q88_13,sl_q88_13⟩)
    (v_q88_13:Vals [V.str "part",V.str "part"] its_q88_13.toList)
    (lt_q88_14:K.lookup ad_q88_14=some ⟨.type "tuple",none,.seq its_q88_14 n_q88_14,sl_q88_14⟩)
    (v_q88_14:Vals [V.str "part",V.str "part"] its_q88_14.toList)
    (lt_q88_15:K.lookup ad_q88_15=some ⟨.type "tuple",none,.seq its_q88_15 n_q88_15,sl_q88_15⟩)
    (v_q88_15:Vals [V.str "part",V.str "part"] its_q88_15.toList)
    (lt_q88_16:K.lookup ad_q88_16=some ⟨.type "tuple",none,.seq its_q88_16 n_q88_16,sl_q88_16⟩)
    (v_q88_16:Vals [V.str "part",V.str "part"] its_q88_16.toList)
    (lt_q88_17:K.lookup ad_q88_17=some ⟨.type "tuple",none,.seq its_q88_17 n_q88_17,sl_q88_17⟩)
    (v_q88_17:Vals [V.str "part",V.str "part"] its_q88_17.toList)
    (lt_q88_18:K.lookup ad_q88_18=some ⟨.type "tuple",none,.seq its_q88_18 n_q88_18,sl_q88_18⟩)
    (v_q88_18:Vals [V.str "part",V.str "part"] its_q88_18.toList)
    (lt_q88_19:K.lookup ad_q88_19=some ⟨.type "tuple",none,.seq its_q88_19 n_q88_19,sl_q88_19⟩)
    (v_q88_19:Vals [V.str "part"] its_q88_19.toList)
    (lt_q88_20:K.lookup ad_q88_20=some ⟨.type "tuple",none,.seq its_q88_20 n_q88_20,sl_q88_20⟩)
    (v_q88_20:Vals [V.str "part",V.str "power"] its_q88_20.toList)
    (z_q88:(a_q88 == sysModules)=false)
    (g_q92:nsIn K mainGlobals "BLANK"=some (some (.int 32 t_q92)))
    (g_q16:nsIn K mainGlobals "MEASURE_BEGIN"=some (some (.int 91 t_q16)))
    (g_q29:nsIn K mainGlobals "MEASURE_END"=some (some (.int 93 t_q29)))
    (g_q89:nsIn K mainGlobals "MINUS"=some (some (.int 45 t_q89)))
    (g_q9:nsIn K mainGlobals "FRACTION_SIGNS"=some (some (.ref a_q9)))
    (l_q9:K.lookup a_q9=some ⟨.type "tuple",od_q9,.seq its_q9 n_q9,sl_q9⟩)
    (v_q9:Vals [V.int 46,V.int 47] its_q9.toList)
    (g_q10:nsIn K mainGlobals "FIRST_PRINTED"=some (some (.int 32 t_q10)))
    (g_q24:nsIn K mainGlobals "LAST_PRINTED"=some (some (.int 126 t_q24)))
    (g_q43:nsIn K mainGlobals "MOST_SIGNS"=some (some (.int 12 t_q43)))
    (g_q83:nsIn K mainGlobals "PRINTED"=some (some (.str " !\"#$?&'()*+,-./0123456789:;<=>?@ABCDEFGHIJKLMNOPQRSTUVWXYZ[\\]^_`abcdefghijklmnopqrstuvwxyz{|}~" t_q83)))
    (g_q35:nsIn K mainGlobals "TAKEN_WORDS"=some (some (.ref a_q35)))
    (l_q35:K.lookup a_q35=some ⟨.type "tuple",od_q35,.seq its_q35 n_q35,sl_q35⟩)
    (v_q35:Vals [V.str "fn",V.str "let",V.str "rec",V.str "if",V.str "cons",V.str "case",V.str "pair",V.str "fst",V.str "snd",V.str "fold",V.str "root",V.str "floor",V.str "rest",V.str "true",V.str "false",V.str "nil",V.str "truth",V.str "num",V.str "list",V.str "base",V.str "unit",V.str "def",V.str "fun",V.str "in",V.str "then",V.str "else",V.str "match",V.str "with",V.str "and",V.str "or",V.str "not"] its_q35.toList)
    (g_q34:nsIn K mainGlobals "MOST_DIGITS"=some (some (.int 12 t_q34)))
    (g_q3:nsIn K mainGlobals "FIRST_TOO_GREAT"=some (some (.int 1000000000000 t_q3)))
    (g_q1:nsIn K mainGlobals "MOST_POWER_DIGITS"=some (some (.int 2 t_q1)))
    (g_q50:nsIn K mainGlobals "WORD_GROUP"=some (some (.int 0 t_q50)))
    (g_q21:nsIn K mainGlobals "NUMBER_GROUP"=some (some (.int 1 t_q21)))
    (g_q49:nsIn K mainGlobals "SIGN_GROUP"=some (some (.int 2 t_q49)))
    (g_q62:nsIn K mainGlobals "CORE_SIGNS"=some (some (.ref a_q62)))
    (l_q62:K.lookup a_q62=some ⟨.type "tuple",od_q62,.seq its_q62 n_q62,sl_q62⟩)
    (v_q62:Vals [V.str "(",V.str ")",V.str "+",V.str "-",V.str "*",V.str "/",V.str "^",V.str "<",V.str "="] its_q62.toList)
    (g_q48:nsIn K mainGlobals "MOST_BYTES"=some (some (.int 2000 t_q48)))
    (g_q18:nsIn K mainGlobals "TEXT_TOO_LONG"=some (some (.int (-1) t_q18)))
    (b_all:nsIn K mainGlobals "all"=some none)
    (b_enumerate:nsIn K mainGlobals "enumerate"=some none)
    (b_int:nsIn K mainGlobals "int"=some none)
    (b_len:nsIn K mainGlobals "len"=some none)
    (b_list:nsIn K mainGlobals "list"=some none)
    (b_max:nsIn K mainGlobals "max"=some none)
    (b_ord:nsIn K mainGlobals "ord"=some none)
    (b_reversed:nsIn K mainGlobals "reversed"=some none)
    (b_str:nsIn K mainGlobals "str"=some none)
    (b_tuple:nsIn K mainGlobals "tuple"=some none)
    (G_q90:nsIn K mainGlobals "Fault"=some (some (.ref C_q90)))
    (a_q5:findIn K (.ref C_q90) "__init__"=some (some (.ref f_q5)))
    (i_q5:W.isFn K (.ref f_q5)=true)
    (l_q5:FnIn K "__init__" "Fault.__init__" s_q5 f_q5)
    (kc_q90:W.keepIn K (.ref C_q90)=true)
    (hd_q90:W.hasDictIn K C_q90=true)
    (sa_q90:findIn K (.ref C_q90) "__setattr__"=some (some (.builtin "object.__setattr__")))
    (lx_q90:K.lookup C_q90=some (excClassObj nm_q90 qq_q90 C_q90 N_q90 bs_q90 zed true sn_q90 sub_q90 ab_q90 col_q90 dd_q90 x0_q90 x1_q90 x2_q90 x3_q90 x5_q90 "Exception.__new__"))
    (ga_q90:findIn K (.ref C_q90) "__getattribute__"=some (some (.builtin "BaseException.__getattribute__")))
    (gn_q90:findIn K (.ref C_q90) "__getattr__"=some none)
    (n_q52:findIn K (.ref C_q90) "kind"=some none)
    (n_q30:findIn K (.ref C_q90) "place"=some none)
    (G_q96:nsIn K mainGlobals "Node"=some (some (.ref C_q96)))
    (a_q17:findIn K (.ref C_q96) "__init__"=some (some (.ref f_q17)))
    (i_q17:W.isFn K (.ref f_q17)=true)
    (l_q17:FnIn K "__init__" "Node.__init__" s_q17 f_q17)
    (kc_q96:W.keepIn K (.ref C_q96)=true)
    (hd_q96:W.hasDictIn K C_q96=true)
    (sa_q96:findIn K (.ref C_q96) "__setattr__"=some (some (.builtin "object.__setattr__")))
    (pg_q96:W.plainGet K C_q96 Str.empty=true)
    (po_q96:W.plainOver K C_q96=true)
    (mk_q96:W.makesIn K C_q96=true)
    (n_q66:findIn K (.ref C_q96) "form"=some none)
    (n_q51:findIn K (.ref C_q96) "words"=some none)
    (n_q42:findIn K (.ref C_q96) "parts"=some none)
    (n_q57:findIn K (.ref C_q96) "begin"=some none)
    (n_q75:findIn K (.ref C_q96) "end"=some none)
    (G_q87:nsIn K mainGlobals "Amount"=some (some (.ref C_q87)))
    (a_q2:findIn K (.ref C_q87) "__init__"=some (some (.ref f_q2)))
    (i_q2:W.isFn K (.ref f_q2)=true)
    (l_q2:FnIn K "__init__" "Amount.__init__" s_q2 f_q2)
    (kc_q87:W.keepIn K (.ref C_q87)=true)
    (hd_q87:W.hasDictIn K C_q87=true)
    (sa_q87:findIn K (.ref C_q87) "__setattr__"=some (some (.builtin "object.__setattr__")))
    (pg_q87:W.plainGet K C_q87 Str.empty=true)
    (po_q87:W.plainOver K C_q87=true)
    (mk_q87:W.makesIn K C_q87=true)
    (n_q33:findIn K (.ref C_q87) "over"=some none)
    (n_q20:findIn K (.ref C_q87) "under"=some none)
    (n_q6:findIn K (.ref C_q87) "measure"=some none)
    (G_q91:nsIn K mainGlobals "Token"=some (some (.ref C_q91)))
    (a_q7:findIn K (.ref C_q91) "__init__"=some (some (.ref f_q7)))
    (i_q7:W.isFn K (.ref f_q7)=true)
    (l_q7:FnIn K "__init__" "Token.__init__" s_q7 f_q7)
    (kc_q91:W.keepIn K (.ref C_q91)=true)
    (hd_q91:W.hasDictIn K C_q91=true)
    (sa_q91:findIn K (.ref C_q91) "__setattr__"=some (some (.builtin "object.__setattr__")))
    (pg_q91:W.plainGet K C_q91 Str.empty=true)
    (po_q91:W.plainOver K C_q91=true)
    (mk_q91:W.makesIn K C_q91=true)
    (n_q38:findIn K (.ref C_q91) "group"=some none)
    (n_q44:findIn K (.ref C_q91) "kind"=some none)
    (n_q36:findIn K (.ref C_q91) "begin"=some none)
    (n_q70:findIn K (.ref C_q91) "end"=some none)
    (n_q11:findIn K (.ref C_q91) "content"=some none)
    (G_Row:nsIn K mainGlobals "Row"=some (some (.ref C_Row)))
    (a_q25:findIn K (.ref C_Row) "__init__"=some (some (.ref f_q25)))
    (i_q25:W.isFn K (.ref f_q25)=true)
    (l_q25:FnIn K "__init__" "Row.__init__" s_q25 f_q25)
    (a_q26:findIn K (.ref C_Row) "upcoming"=some (some (.ref f_q26)))
    (i_q26:W.isFn K (.ref f_q26)=true)
    (l_q26:FnIn K "upcoming" "Row.upcoming" s_q26 f_q26)
    (a_q77:findIn K (.ref C_Row) "take"=some (some (.ref f_q77)))
    (i_q77:W.isFn K (.ref f_q77)=true)
    (l_q77:FnIn K "take" "Row.take" s_q77 f_q77)
    (a_q13:findIn K (.ref C_Row) "take_kind"=some (some (.ref f_q13)))
    (i_q13:W.isFn K (.ref f_q13)=true)
    (l_q13:FnIn K "take_kind" "Row.take_kind" s_q13 f_q13)
    (kc_Row:W.keepIn K (.ref C_Row)=true)
    (hd_Row:W.hasDictIn K C_Row=true)
    (sa_Row:findIn K (.ref C_Row) "__setattr__"=some (some (.builtin "object.__setattr__")))
    (pg_Row:W.plainGet K C_Row Str.empty=true)
    (po_Row:W.plainOver K C_Row=true)
    (mk_Row:W.makesIn K C_Row=true)
    (n_q63:findIn K (.ref C_Row) "ahead"=some none)
    (n_q68:findIn K (.ref C_Row) "index"=some none)
    (G_q94:nsIn K mainGlobals "Step"=some (some (.ref C_q94)))
    (a_q14:findIn K (.ref C_q94) "__init__"=some (some (.ref f_q14)))
    (i_q14:W.isFn K (.ref f_q14)=true)
    (l_q14:FnIn K "__init__" "Step.__init__" s_q14 f_q14)
    (kc_q94:W.keepIn K (.ref C_q94)=true)
    (hd_q94:W.hasDictIn K C_q94=true)
    (sa_q94:findIn K (.ref C_q94) "__setattr__"=some (some (.builtin "object.__setattr__")))
    (pg_q94:W.plainGet K C_q94 Str.empty=true)
    (po_q94:W.plainOver K C_q94=true)
    (mk_q94:W.makesIn K C_q94=true)
    (n_q64:findIn K (.ref C_q94) "kind"=some none)
    (n_q61:findIn K (.ref C_q94) "owner"=some none)
    (n_q53:findIn K (.ref C_q94) "depth"=some none)
    (a_q71:nsIn K mainGlobals "numbered"=some (some (.ref f_q71)))
    (l_q71:FnIn K "numbered" "numbered" s_q71 f_q71)
    (a_q23:nsIn K mainGlobals "check_limits"=some (some (.ref f_q23)))
    (l_q23:FnIn K "check_limits" "check_limits" s_q23 f_q23)
    (a_q80:nsIn K mainGlobals "contents"=some (some (.ref f_q80)))
    (l_q80:FnIn K "contents" "contents" s_q80 f_q80)
    (a_q60:nsIn K mainGlobals "free_names"=some (some (.ref f_q60)))
    (l_q60:FnIn K "free_names" "free_names" s_q60 f_q60)
    (a_q69:nsIn K mainGlobals "is_letter"=some (some (.ref f_q69)))
    (l_q69:FnIn K "is_letter" "is_letter" s_q69 f_q69)
    (a_q72:nsIn K mainGlobals "is_digit"=some (some (.ref f_q72)))
    (l_q72:FnIn K "is_digit" "is_digit" s_q72 f_q72)
    (a_q39:nsIn K mainGlobals "is_in_word"=some (some (.ref f_q39)))
    (l_q39:FnIn K "is_in_word" "is_in_word" s_q39 f_q39)
    (a_q12:nsIn K mainGlobals "is_short_word"=some (some (.ref f_q12)))
    (l_q12:FnIn K "is_short_word" "is_short_word" s_q12 f_q12)
    (a_q74:nsIn K mainGlobals "is_blank"=some (some (.ref f_q74)))
    (l_q74:FnIn K "is_blank" "is_blank" s_q74 f_q74)
    (a_q0:nsIn K mainGlobals "is_before_measure_end"=some (some (.ref f_q0)))
    (l_q0:FnIn K "is_before_measure_end" "is_before_measure_end" s_q0 f_q0)
    (a_q85:nsIn K mainGlobals "run_end"=some (some (.ref f_q85)))
    (l_q85:FnIn K "run_end" "run_end" s_q85 f_q85)
    (a_q82:nsIn K mainGlobals "sign_of"=some (some (.ref f_q82)))
    (l_q82:FnIn K "sign_of" "sign_of" s_q82 f_q82)
    (a_q81:nsIn K mainGlobals "signs_of"=some (some (.ref f_q81)))
    (l_q81:FnIn K "signs_of" "signs_of" s_q81 f_q81)
    (a_q46:nsIn K mainGlobals "number_end"=some (some (.ref f_q46)))
    (l_q46:FnIn K "number_end" "number_end" s_q46 f_q46)
    (a_q32:nsIn K mainGlobals "fraction_of"=some (some (.ref f_q32)))
    (l_q32:FnIn K "fraction_of" "fraction_of" s_q32 f_q32)
    (a_q86:nsIn K mainGlobals "lowest"=some (some (.ref f_q86)))
    (l_q86:FnIn K "lowest" "lowest" s_q86 f_q86)
    (a_q8:nsIn K mainGlobals "common_divisor"=some (some (.ref f_q8)))
    (l_q8:FnIn K "common_divisor" "common_divisor" s_q8 f_q8)
    (a_q58:nsIn K mainGlobals "is_measure"=some (some (.ref f_q58)))
    (l_q58:FnIn K "is_measure" "is_measure" s_q58 f_q58)
    (a_q65:nsIn K mainGlobals "is_factor"=some (some (.ref f_q65)))
    (l_q65:FnIn K "is_factor" "is_factor" s_q65 f_q65)
    (a_q79:nsIn K mainGlobals "is_power"=some (some (.ref f_q79)))
    (l_q79:FnIn K "is_power" "is_power" s_q79 f_q79)
    (a_q78:nsIn K mainGlobals "measured"=some (some (.ref f_q78)))
    (l_q78:FnIn K "measured" "measured" s_q78 f_q78)
    (a_q84:nsIn K mainGlobals "negated"=some (some (.ref f_q84)))
    (l_q84:FnIn K "negated" "negated" s_q84 f_q84)
    (a_q37:nsIn K mainGlobals "amount_text"=some (some (.ref f_q37)))
    (l_q37:FnIn K "amount_text" "amount_text" s_q37 f_q37)
    (a_q28:nsIn K mainGlobals "core_tokens"=some (some (.ref f_q28)))
    (l_q28:FnIn K "core_tokens" "core_tokens" s_q28 f_q28)
    (a_q4:nsIn K mainGlobals "tokens_between"=some (some (.ref f_q4)))
    (l_q4:FnIn K "tokens_between" "tokens_between" s_q4 f_q4)
    (a_q22:nsIn K mainGlobals "core_gap_end"=some (some (.ref f_q22)))
    (l_q22:FnIn K "core_gap_end" "core_gap_end" s_q22 f_q22)
    (a_q54:nsIn K mainGlobals "core_token"=some (some (.ref f_q54)))
    (l_q54:FnIn K "core_token" "core_token" s_q54 f_q54)
    (a_q47:nsIn K mainGlobals "word_token"=some (some (.ref f_q47)))
    (l_q47:FnIn K "word_token" "word_token" s_q47 f_q47)
    (a_q19:nsIn K mainGlobals "number_token"=some (some (.ref f_q19)))
    (l_q19:FnIn K "number_token" "number_token" s_q19 f_q19)
    (a_q41:nsIn K mainGlobals "measure_at"=some (some (.ref f_q41)))
    (l_q41:FnIn K "measure_at" "measure_at" s_q41 f_q41)
    (a_q56:nsIn K mainGlobals "sign_token"=some (some (.ref f_q56)))
    (l_q56:FnIn K "sign_token" "sign_token" s_q56 f_q56)
    (a_q67:nsIn K mainGlobals "core_term"=some (some (.ref f_q67)))
    (l_q67:FnIn K "core_term" "core_term" s_q67 f_q67)
    (a_q93:nsIn K mainGlobals "go_on"=some (some (.ref f_q93)))
    (l_q93:FnIn K "go_on" "go_on" s_q93 f_q93)
    (a_q59:nsIn K mainGlobals "begin_term"=some (some (.ref f_q59)))
    (l_q59:FnIn K "begin_term" "begin_term" s_q59 f_q59)
    (a_q15:nsIn K mainGlobals "bracket_begin"=some (some (.ref f_q15)))
    (l_q15:FnIn K "bracket_begin" "bracket_begin" s_q15 f_q15)
    (a_q97:nsIn K mainGlobals "leaf"=some (some (.ref f_q97)))
    (l_q97:FnIn K "leaf" "leaf" s_q97 f_q97)
    (a_q95:nsIn K mainGlobals "free"=some (some (.ref f_q95)))
    (l_q95:K.lookup f_q95=some ⟨oc_q95,od_q95,.func (W.fnOf "free" "free" (zfy s_q95) (zde s_q95) (zaf s_q95) .none kV_q95 dc_q95 pm_q95 an_q95 cd_q95 ct_q95),sl_q95⟩)
    (c_free:W.codeIn K cd_q95 "free"=true)
    (k_q95:W.keepIn K (.ref f_q95)=true)
    (a_q73:nsIn K mainGlobals "answered"=some (some (.ref f_q73)))
    (l_q73:FnIn K "answered" "answered" s_q73 f_q73)
    (a_q27:nsIn K mainGlobals "free_answer"=some (some (.ref f_q27)))
    (l_q27:FnIn K "free_answer" "free_answer" s_q27 f_q27)
    (a_q76:nsIn K mainGlobals "bytes_of"=some (some (.ref f_q76)))
    (l_q76:FnIn K "bytes_of" "bytes_of" s_q76 f_q76)
    : ∃ fd:FuncData,(∀ (s:Shared) (us:List Value),us.length=(["text"]:List Str).length→BindsTo s fd ⟨us,[]⟩ ((["text"]:List Str).zip us))∧∀ base:Heap,K.In base→base.Ns mainGlobals mg→FnOk P w K mg base CX0 22 fa fd ["text"] (zl6 PyVaunid.free K):=by
  obtain ⟨d_q5,F_q5⟩:=l_q5.fn
  have B_q5:=F_q5.binds (ps:=["self","kind","place"]) fun _ _ _ _ _ _=>ln3 fun _ _ _=>rfl
  obtain ⟨d_q17,F_q17⟩:=l_q17.fn
  have B_q17:=F_q17.binds (ps:=["self","form","words","parts","begin","end"]) fun _ _ _ _ _ _=>ln6 fun _ _ _ _ _ _=>rfl
  obtain ⟨d_q2,F_q2⟩:=l_q2.fn
  have B_q2:=F_q2.binds (ps:=["self","over","under","measure"]) fun _ _ _ _ _ _=>ln4 fun _ _ _ _=>rfl
  obtain ⟨d_q7,F_q7⟩:=l_q7.fn
  have B_q7:=F_q7.binds (ps:=["self","group","kind","begin","end","content"]) fun _ _ _ _ _ _=>ln6 fun _ _ _ _ _ _=>rfl
  obtain ⟨d_q25,F_q25⟩:=l_q25.fn
  have B_q25:=F_q25.binds (ps:=["self","found","length"]) fun _ _ _ _ _ _=>ln3 fun _ _ _=>rfl
  obtain ⟨d_q26,F_q26⟩:=l_q26.fn
  have B_q26:=F_q26.binds (ps:=["self"]) fun _ _ _ _ _ _=>ln1 fun _=>rfl
  obtain ⟨d_q77,F_q77⟩:=l_q77.fn
  have B_q77:=F_q77.binds (ps:=["self"]) fun _ _ _ _ _ _=>ln1 fun _=>rfl
  obtain ⟨d_q13,F_q13⟩:=l_q13.fn
  have B_q13:=F_q13.binds (ps:=["self","kind"]) fun _ _ _ _ _ _=>ln2 fun _ _=>rfl
  obtain ⟨d_q14,F_q14⟩:=l_q14.fn
  have B_q14:=F_q14.binds (ps:=["self","kind","owner","depth"]) fun _ _ _ _ _ _=>ln4 fun _ _ _ _=>rfl
  obtain ⟨d_q71,F_q71⟩:=l_q71.fn
  have B_q71:=F_q71.binds (ps:=["term"]) fun _ _ _ _ _ _=>ln1 fun _=>rfl
  obtain ⟨d_q23,F_q23⟩:=l_q23.fn
  have B_q23:=F_q23.binds (ps:=["term"]) fun _ _ _ _ _ _=>ln1 fun _=>rfl
  obtain ⟨d_q80,F_q80⟩:=l_q80.fn
  have B_q80:=F_q80.binds (ps:=["node"]) fun _ _ _ _ _ _=>ln1 fun _=>rfl
  obtain ⟨d_q60,F_q60⟩:=l_q60.fn
  have B_q60:=F_q60.binds (ps:=["term"]) fun _ _ _ _ _ _=>ln1 fun _=>rfl
  obtain ⟨d_q69,F_q69⟩:=l_q69.fn
  have B_q69:=F_q69.binds (ps:=["byte"]) fun _ _ _ _ _ _=>ln1 fun _=>rfl
  obtain ⟨d_q72,F_q72⟩:=l_q72.fn
  have B_q72:=F_q72.binds (ps:=["byte"]) fun _ _ _ _ _ _=>ln1 fun _=>rfl
  obtain ⟨d_q39,F_q39⟩:=l_q39.fn
  have B_q39:=F_q39.binds (ps:=["byte"]) fun _ _ _ _ _ _=>ln1 fun _=>rfl
  obtain ⟨d_q12,F_q12⟩:=l_q12.fn
  have B_q12:=F_q12.binds (ps:=["text"]) fun _ _ _ _ _ _=>ln1 fun _=>rfl
  obtain ⟨d_q74,F_q74⟩:=l_q74.fn
  have B_q74:=F_q74.binds (ps:=["byte"]) fun _ _ _ _ _ _=>ln1 fun _=>rfl
  obtain ⟨d_q0,F_q0⟩:=l_q0.fn
  have B_q0:=F_q0.binds (ps:=["byte"]) fun _ _ _ _ _ _=>ln1 fun _=>rfl
  obtain ⟨d_q85,F_q85⟩:=l_q85.fn
  have B_q85:=F_q85.binds (ps:=["text","place","belongs"]) fun _ _ _ _ _ _=>ln3 fun _ _ _=>rfl
  obtain ⟨d_q82,F_q82⟩:=l_q82.fn
  have B_q82:=F_q82.binds (ps:=["byte"]) fun _ _ _ _ _ _=>ln1 fun _=>rfl
  obtain ⟨d_q81,F_q81⟩:=l_q81.fn
  have B_q81:=F_q81.binds (ps:=["some_bytes"]) fun _ _ _ _ _ _=>ln1 fun _=>rfl
  obtain ⟨d_q46,F_q46⟩:=l_q46.fn
  have B_q46:=F_q46.binds (ps:=["text","begin"]) fun _ _ _ _ _ _=>ln2 fun _ _=>rfl
  obtain ⟨d_q32,F_q32⟩:=l_q32.fn
  have B_q32:=F_q32.binds (ps:=["spelling"]) fun _ _ _ _ _ _=>ln1 fun _=>rfl
  obtain ⟨d_q86,F_q86⟩:=l_q86.fn
  have B_q86:=F_q86.binds (ps:=["over","under"]) fun _ _ _ _ _ _=>ln2 fun _ _=>rfl
  obtain ⟨d_q8,F_q8⟩:=l_q8.fn
  have B_q8:=F_q8.binds (ps:=["first","second"]) fun _ _ _ _ _ _=>ln2 fun _ _=>rfl
  obtain ⟨d_q58,F_q58⟩:=l_q58.fn
  have B_q58:=F_q58.binds (ps:=["measure"]) fun _ _ _ _ _ _=>ln1 fun _=>rfl
  obtain ⟨d_q65,F_q65⟩:=l_q65.fn
  have B_q65:=F_q65.binds (ps:=["factor"]) fun _ _ _ _ _ _=>ln1 fun _=>rfl
  obtain ⟨d_q79,F_q79⟩:=l_q79.fn
  have B_q79:=F_q79.binds (ps:=["power"]) fun _ _ _ _ _ _=>ln1 fun _=>rfl
  obtain ⟨d_q78,F_q78⟩:=l_q78.fn
  have B_q78:=F_q78.binds (ps:=["amount","measure"]) fun _ _ _ _ _ _=>ln2 fun _ _=>rfl
  obtain ⟨d_q84,F_q84⟩:=l_q84.fn
  have B_q84:=F_q84.binds (ps:=["amount"]) fun _ _ _ _ _ _=>ln1 fun _=>rfl
  obtain ⟨d_q37,F_q37⟩:=l_q37.fn
  have B_q37:=F_q37.binds (ps:=["amount"]) fun _ _ _ _ _ _=>ln1 fun _=>rfl
  obtain ⟨d_q28,F_q28⟩:=l_q28.fn
  have B_q28:=F_q28.binds (ps:=["text"]) fun _ _ _ _ _ _=>ln1 fun _=>rfl
  obtain ⟨d_q4,F_q4⟩:=l_q4.fn
  have B_q4:=F_q4.binds (ps:=["text","gap_end","token_at"]) fun _ _ _ _ _ _=>ln3 fun _ _ _=>rfl
  obtain ⟨d_q22,F_q22⟩:=l_q22.fn
  have B_q22:=F_q22.binds (ps:=["text","place"]) fun _ _ _ _ _ _=>ln2 fun _ _=>rfl
  obtain ⟨d_q54,F_q54⟩:=l_q54.fn
  have B_q54:=F_q54.binds (ps:=["text","begin"]) fun _ _ _ _ _ _=>ln2 fun _ _=>rfl
  obtain ⟨d_q47,F_q47⟩:=l_q47.fn
  have B_q47:=F_q47.binds (ps:=["text","begin"]) fun _ _ _ _ _ _=>ln2 fun _ _=>rfl
  obtain ⟨d_q19,F_q19⟩:=l_q19.fn
  have B_q19:=F_q19.binds (ps:=["text","begin","digits"]) fun _ _ _ _ _ _=>ln3 fun _ _ _=>rfl
  obtain ⟨d_q41,F_q41⟩:=l_q41.fn
  have B_q41:=F_q41.binds (ps:=["text","begin"]) fun _ _ _ _ _ _=>ln2 fun _ _=>rfl
  obtain ⟨d_q56,F_q56⟩:=l_q56.fn
  have B_q56:=F_q56.binds (ps:=["text","begin","signs"]) fun _ _ _ _ _ _=>ln3 fun _ _ _=>rfl
  obtain ⟨d_q67,F_q67⟩:=l_q67.fn
  have B_q67:=F_q67.binds (ps:=["text"]) fun _ _ _ _ _ _=>ln1 fun _=>rfl
  obtain ⟨d_q93,F_q93⟩:=l_q93.fn
  have B_q93:=F_q93.binds (ps:=["row","todo","step"]) fun _ _ _ _ _ _=>ln3 fun _ _ _=>rfl
  obtain ⟨d_q59,F_q59⟩:=l_q59.fn
  have B_q59:=F_q59.binds (ps:=["row","todo","step"]) fun _ _ _ _ _ _=>ln3 fun _ _ _=>rfl
  obtain ⟨d_q15,F_q15⟩:=l_q15.fn
  have B_q15:=F_q15.binds (ps:=["row"]) fun _ _ _ _ _ _=>ln1 fun _=>rfl
  obtain ⟨d_q97,F_q97⟩:=l_q97.fn
  have B_q97:=F_q97.binds (ps:=["token"]) fun _ _ _ _ _ _=>ln1 fun _=>rfl
  have F_q95:=zu0 (st:=s_q95) l_q95 c_free k_q95
  have B_q95:=F_q95.binds (ps:=["text"]) fun _ _ _ _ _ _=>ln1 fun _=>rfl
  obtain ⟨d_q73,F_q73⟩:=l_q73.fn
  have B_q73:=F_q73.binds (ps:=["text","reading","answering"]) fun _ _ _ _ _ _=>ln3 fun _ _ _=>rfl
  obtain ⟨d_q27,F_q27⟩:=l_q27.fn
  have B_q27:=F_q27.binds (ps:=["term"]) fun _ _ _ _ _ _=>ln1 fun _=>rfl
  obtain ⟨d_q76,F_q76⟩:=l_q76.fn
  have B_q76:=F_q76.binds (ps:=["shown"]) fun _ _ _ _ _ _=>ln1 fun _=>rfl
  let T:TX w K mg:=⟨⟨_,mo X G g_q45,_,rfl⟩,⟨_,mo X G g_q55,_,rfl⟩,_,mo X G g_q31,fun _=>zbl l_q31 v_q31 (by show 3≤sizeLine;decide),_,mo X G g_q40,fun _=>zbl l_q40 v_q40 (by show 2≤sizeLine;decide),_,mo X G g_q88,⟨fun f=>match f with | .fn=>ad_q88_0 | .rec_=>ad_q88_1 | .let_=>ad_q88_2 | .if_=>ad_q88_3 | .app=>ad_q88_4 | .pair=>ad_q88_5 | .fst=>ad_q88_6 | .snd=>ad_q88_7 | .cons=>ad_q88_8 | .case=>ad_q88_9 | .fold=>ad_q88_10 | .plus=>ad_q88_11 | .minus=>ad_q88_12 | .times=>ad_q88_13 | .over=>ad_q88_14 | .less=>ad_q88_15 | .equal=>ad_q88_16 | .floor=>ad_q88_17 | .rest=>ad_q88_18 | .root=>ad_q88_19 | .pow=>ad_q88_20,⟨⟨es_q88,ep_q88,l_q88,p_q88⟩,ztz,z_q88⟩,fun f H=>match f with | .fn=>zbl lt_q88_0 v_q88_0 (by show 2≤sizeLine;decide) | .rec_=>zbl lt_q88_1 v_q88_1 (by show 3≤sizeLine;decide) | .let_=>zbl lt_q88_2 v_q88_2 (by show 3≤sizeLine;decide) | .if_=>zbl lt_q88_3 v_q88_3 (by show 3≤sizeLine;decide) | .app=>zbl lt_q88_4 v_q88_4 (by show 2≤sizeLine;decide) | .pair=>zbl lt_q88_5 v_q88_5 (by show 2≤sizeLine;decide) | .fst=>zbl lt_q88_6 v_q88_6 (by show 1≤sizeLine;decide) | .snd=>zbl lt_q88_7 v_q88_7 (by show 1≤sizeLine;decide) | .cons=>zbl lt_q88_8 v_q88_8 (by show 2≤sizeLine;decide) | .case=>zbl lt_q88_9 v_q88_9 (by show 5≤sizeLine;decide) | .fold=>zbl lt_q88_10 v_q88_10 (by show 3≤sizeLine;decide) | .plus=>zbl lt_q88_11 v_q88_11 (by show 2≤sizeLine;decide) | .minus=>zbl lt_q88_12 v_q88_12 (by show 2≤sizeLine;decide) | .times=>zbl lt_q88_13 v_q88_13 (by show 2≤sizeLine;decide) | .over=>zbl lt_q88_14 v_q88_14 (by show 2≤sizeLine;decide) | .less=>zbl lt_q88_15 v_q88_15 (by show 2≤sizeLine;decide) | .equal=>zbl lt_q88_16 v_q88_16 (by show 2≤sizeLine;decide) | .floor=>zbl lt_q88_17 v_q88_17 (by show 2≤sizeLine;decide) | .rest=>zbl lt_q88_18 v_q88_18 (by show 2≤sizeLine;decide) | .root=>zbl lt_q88_19 v_q88_19 (by show 1≤sizeLine;decide) | .pow=>zbl lt_q88_20 v_q88_20 (by show 2≤sizeLine;decide),fun f=>match f with | .fn=>⟨_,_,_,lt_q88_0,v_q88_0⟩ | .rec_=>⟨_,_,_,lt_q88_1,v_q88_1⟩ | .let_=>⟨_,_,_,lt_q88_2,v_q88_2⟩ | .if_=>⟨_,_,_,lt_q88_3,v_q88_3⟩ | .app=>⟨_,_,_,lt_q88_4,v_q88_4⟩ | .pair=>⟨_,_,_,lt_q88_5,v_q88_5⟩ | .fst=>⟨_,_,_,lt_q88_6,v_q88_6⟩ | .snd=>⟨_,_,_,lt_q88_7,v_q88_7⟩ | .cons=>⟨_,_,_,lt_q88_8,v_q88_8⟩ | .case=>⟨_,_,_,lt_q88_9,v_q88_9⟩ | .fold=>⟨_,_,_,lt_q88_10,v_q88_10⟩ | .plus=>⟨_,_,_,lt_q88_11,v_q88_11⟩ | .minus=>⟨_,_,_,lt_q88_12,v_q88_12⟩ | .times=>⟨_,_,_,lt_q88_13,v_q88_13⟩ | .over=>⟨_,_,_,lt_q88_14,v_q88_14⟩ | .less=>⟨_,_,_,lt_q88_15,v_q88_15⟩ | .equal=>⟨_,_,_,lt_q88_16,v_q88_16⟩ | .floor=>⟨_,_,_,lt_q88_17,v_q88_17⟩ | .rest=>⟨_,_,_,lt_q88_18,v_q88_18⟩ | .root=>⟨_,_,_,lt_q88_19,v_q88_19⟩ | .pow=>⟨_,_,_,lt_q88_20,v_q88_20⟩⟩,⟨_,mo X G g_q92,_,rfl⟩,⟨_,mo X G g_q16,_,rfl⟩,⟨_,mo X G g_q29,_,rfl⟩,⟨_,mo X G g_q89,_,rfl⟩,_,mo X G g_q9,fun _=>zbl l_q9 v_q9 (by show 2≤sizeLine;decide),⟨_,mo X G g_q10,_,rfl⟩,⟨_,mo X G g_q24,_,rfl⟩,⟨_,mo X G g_q43,_,rfl⟩,⟨_,mo X G g_q83,_,rfl⟩,_,mo X G g_q35,fun _=>zbl l_q35 v_q35 (by show 31≤sizeLine;decide),⟨_,mo X G g_q34,_,rfl⟩,⟨_,mo X G g_q3,_,rfl⟩,⟨_,mo X G g_q1,_,rfl⟩,⟨_,mo X G g_q50,_,rfl⟩,⟨_,mo X G g_q21,_,rfl⟩,⟨_,mo X G g_q49,_,rfl⟩,_,mo X G g_q62,fun _=>zbl l_q62 v_q62 (by show 9≤sizeLine;decide),⟨_,mo X G g_q48,_,rfl⟩,⟨_,mo X G g_q18,_,rfl⟩,mn X G b_all,mn X G b_enumerate,mn X G b_int,mn X G b_len,mn X G b_list,mn X G b_max,mn X G b_ord,mn X G b_reversed,mn X G b_str,mn X G b_tuple,_,mo X G G_q90,_,_,F_q5,B_q5,zva lx_q90 a_q5 i_q5 kc_q90 ga_q90 gn_q90 sa_q90 hd_q90,n_q52,n_q30,_,mo X G G_q96,_,_,F_q17,B_q17,⟨pg_q96,hd_q96,po_q96,sa_q96⟩,⟨mk_q96,a_q17,i_q17,kc_q96⟩,n_q66,n_q51,n_q42,n_q57,n_q75,_,mo X G G_q87,_,_,F_q2,B_q2,⟨pg_q87,hd_q87,po_q87,sa_q87⟩,⟨mk_q87,a_q2,i_q2,kc_q87⟩,n_q33,n_q20,n_q6,_,mo X G G_q91,_,_,F_q7,B_q7,⟨pg_q91,hd_q91,po_q91,sa_q91⟩,⟨mk_q91,a_q7,i_q7,kc_q91⟩,n_q38,n_q44,n_q36,n_q70,n_q11,_,mo X G G_Row,_,_,F_q25,B_q25,_,_,F_q26,B_q26,⟨a_q26,i_q26,F_q26.kp⟩,_,_,F_q77,B_q77,⟨a_q77,i_q77,F_q77.kp⟩,_,_,F_q13,B_q13,⟨a_q13,i_q13,F_q13.kp⟩,⟨pg_Row,hd_Row,po_Row,sa_Row⟩,⟨mk_Row,a_q25,i_q25,kc_Row⟩,n_q63,n_q68,_,mo X G G_q94,_,_,F_q14,B_q14,⟨pg_q94,hd_q94,po_q94,sa_q94⟩,⟨mk_q94,a_q14,i_q14,kc_q94⟩,n_q64,n_q61,n_q53,_,_,⟨mo X G a_q71,F_q71,B_q71⟩,_,_,⟨mo X G a_q23,F_q23,B_q23⟩,_,_,⟨mo X G a_q80,F_q80,B_q80⟩,_,_,⟨mo X G a_q60,F_q60,B_q60⟩,_,_,⟨mo X G a_q69,F_q69,B_q69⟩,_,_,⟨mo X G a_q72,F_q72,B_q72⟩,_,_,⟨mo X G a_q39,F_q39,B_q39⟩,_,_,⟨mo X G a_q12,F_q12,B_q12⟩,_,_,⟨mo X G a_q74,F_q74,B_q74⟩,_,_,⟨mo X G a_q0,F_q0,B_q0⟩,_,_,⟨mo X G a_q85,F_q85,B_q85⟩,_,_,⟨mo X G a_q82,F_q82,B_q82⟩,_,_,⟨mo X G a_q81,F_q81,B_q81⟩,_,_,⟨mo X G a_q46,F_q46,B_q46⟩,_,_,⟨mo X G a_q32,F_q32,B_q32⟩,_,_,⟨mo X G a_q86,F_q86,B_q86⟩,_,_,⟨mo X G a_q8,F_q8,B_q8⟩,_,_,⟨mo X G a_q58,F_q58,B_q58⟩,_,_,⟨mo X G a_q65,F_q65,B_q65⟩,_,_,⟨mo X G a_q79,F_q79,B_q79⟩,_,_,⟨mo X G a_q78,F_q78,B_q78⟩,_,_,⟨mo X G a_q84,F_q84,B_q84⟩,_,_,⟨mo X G a_q37,F_q37,B_q37⟩,_,_,⟨mo X G a_q28,F_q28,B_q28⟩,_,_,⟨mo X G a_q4,F_q4,B_q4⟩,_,_,⟨mo X G a_q22,F_q22,B_q22⟩,_,_,⟨mo X G a_q54,F_q54,B_q54⟩,_,_,⟨mo X G a_q47,F_q47,B_q47⟩,_,_,⟨mo X G a_q19,F_q19,B_q19⟩,_,_,⟨mo X G a_q41,F_q41,B_q41⟩,_,_,⟨mo X G a_q56,F_q56,B_q56⟩,_,_,⟨mo X G a_q67,F_q67,B_q67⟩,_,_,⟨mo X G a_q93,F_q93,B_q93⟩,_,_,⟨mo X G a_q59,F_q59,B_q59⟩,_,_,⟨mo X G a_q15,F_q15,B_q15⟩,_,_,⟨mo X G a_q97,F_q97,B_q97⟩,_,_,⟨mo X G a_q95,F_q95,B_q95⟩,_,_,⟨mo X G a_q73,F_q73,B_q73⟩,_,_,⟨mo X G a_q27,F_q27,B_q27⟩,_,_,⟨mo X G a_q76,F_q76,B_q76⟩⟩
  have e:=hfa.symm.trans T.F_q95.mg
  cases e
  exact ⟨T.d_q95,fun s us hu=>match us,hu with | [_],_ => .of_eq rfl,fun base _ _=>zv9 T⟩
end M
noncomputable def PySem.W.Fast.tw8915692501117211557:Unit:=()
noncomputable def PySem.W.Fast.tw3799282711088563429:Unit:=()
noncomputable def PySem.W.Fast.tw5385439586566035236:Unit:=()
noncomputable def PySem.W.Fast.tw14318229922507319203:Unit:=()
noncomputable def PySem.W.Fast.tw1247053314670912636:Unit:=()
noncomputable def PySem.W.Fast.tw9958610905225437452:Unit:=()
noncomputable def PySem.W.Fast.tw16409465744816738371:Unit:=()
noncomputable def PySem.W.Fast.tw14304434028234545354:Unit:=()
noncomputable def PySem.W.Fast.tw16722519270458105427:Unit:=()
noncomputable def PySem.W.Fast.tw2513809587153094825:Unit:=()
noncomputable def PySem.W.Fast.tw1175848293388354875:Unit:=()
noncomputable def PySem.W.Fast.tw2518540030400641665:Unit:=()
noncomputable def PySem.W.Fast.tw8479897847206596566:Unit:=()
noncomputable def PySem.W.Fast.tw4096875823521998802:Unit:=()
noncomputable def PySem.W.Fast.tw14170921721645111585:Unit:=()
noncomputable def PySem.W.Fast.tw15674263525705791051:Unit:=()
noncomputable def PySem.W.Fast.tw7734021334586518616:Unit:=()
noncomputable def PySem.W.Fast.tw15025349116865689836:Unit:=()
noncomputable def PySem.W.Fast.tw16056592498581114141:Unit:=()
noncomputable def PySem.W.Fast.tw4025962601176312099:Unit:=()
noncomputable def PySem.W.Fast.tw10265887367173128280:Unit:=()
noncomputable def PySem.W.Fast.tw9988516051969715635:Unit:=()
noncomputable def PySem.W.Fast.tw9622830208758837092:Unit:=()
noncomputable def PySem.W.Fast.tw8944421338885535129:Unit:=()
noncomputable def PySem.W.Fast.tw8537674766522586709:Unit:=()
noncomputable def PySem.W.Fast.tw5281213539181569203:Unit:=()
noncomputable def PySem.W.Fast.tw8048186572957273002:Unit:=()
noncomputable def PySem.W.Fast.tw17925856186357994727:Unit:=()
noncomputable def PySem.W.Fast.tw13786966097786767248:Unit:=()
noncomputable def PySem.W.Fast.tw4389849680223697453:Unit:=()
noncomputable def PySem.W.Fast.tw11570300253108503116:Unit:=()
noncomputable def PySem.W.Fast.tw2682851791344085964:Unit:=()
noncomputable def PySem.W.Fast.tw4757202553333326690:Unit:=()
noncomputable def PySem.W.Fast.tw12194286765117169708:Unit:=()
noncomputable def PySem.W.Fast.tw14280021192316167731:Unit:=()
noncomputable def PySem.W.Fast.tw12541596514309323436:Unit:=()
noncomputable def PySem.W.Fast.tw9219257432736883197:Unit:=()
noncomputable def PySem.W.Fast.tw18039472739080255117:Unit:=()
noncomputable def PySem.W.Fast.tw15772146139945695886:Unit:=()
noncomputable def PySem.W.Fast.tw16946972844858029267:Unit:=()
noncomputable def PySem.W.Fast.tw4458992572638484312:Unit:=()
noncomputable def PySem.W.Fast.tw13036150374219416192:Unit:=()
noncomputable def PySem.W.Fast.tw9339018737192405164:Unit:=()
noncomputable def PySem.W.Fast.tw3192954706334626146:Unit:=()
noncomputable def PySem.W.Fast.tw8946922191526497802:Unit:=()
noncomputable def PySem.W.Fast.tw10533360793144549657:Unit:=()
noncomputable def PySem.W.Fast.tw5045388010267749369:Unit:=()
noncomputable def PySem.W.Fast.tw17606149731387278837:Unit:=()
noncomputable def PySem.W.Fast.tw14895995227886734410:Unit:=()
noncomputable def PySem.W.Fast.tw4055686028408446721:Unit:=()
noncomputable def PySem.W.Fast.tw17951355469924218012:Unit:=()
noncomputable def PySem.W.Fast.tw5035843987556361413:Unit:=()
noncomputable def PySem.W.Fast.tw11437719732718614371:Unit:=()
noncomputable def PySem.W.Fast.tw8605688606996725590:Unit:=()
noncomputable def PySem.W.Fast.tw3874267525550053827:Unit:=()
noncomputable def PySem.W.Fast.tw12175727448296625613:Unit:=()
noncomputable def PySem.W.Fast.tw6960617731711785524:Unit:=()
noncomputable def PySem.W.Fast.tw17987337686630920831:Unit:=()
noncomputable def PySem.W.Fast.tw18003069272841700677:Unit:=()
noncomputable def PySem.W.Fast.tw11105932540895190034:Unit:=()
noncomputable def PySem.W.Fast.tw16866972293939750893:Unit:=()
noncomputable def PySem.W.Fast.tw5640177404594859448:Unit:=()
noncomputable def PySem.W.Fast.tw5368186902860083685:Unit:=()
noncomputable def PySem.W.Fast.tw16815031861099942823:Unit:=()
noncomputable def PySem.W.Fast.tw12761000908545468024:Unit:=()
noncomputable def PySem.W.Fast.tw6519450587991728645:Unit:=()
noncomputable def PySem.W.Fast.tw9269297035486660622:Unit:=()
noncomputable def PySem.W.Fast.tw10250319033186164532:Unit:=()
noncomputable def PySem.W.Fast.tw14081377748304401471:Unit:=()
noncomputable def PySem.W.Fast.tw9471888218977261590:Unit:=()
noncomputable def PySem.W.Fast.tw3200383844565361638:Unit:=()
noncomputable def PySem.W.Fast.tw8263341453556445471:Unit:=()
noncomputable def PySem.W.Fast.tw16625459830694746374:Unit:=()
noncomputable def PySem.W.Fast.tw10196248892929458471:Unit:=()
noncomputable def PySem.W.Fast.tw7618255405745468829:Unit:=()
noncomputable def PySem.W.Fast.tw16004475391668094848:Unit:=()
noncomputable def PySem.W.Fast.tw8281434535189069994:Unit:=()
noncomputable def PySem.W.Fast.tw10184458694763674243:Unit:=()
noncomputable def PySem.W.Fast.tw7035212415149874969:Unit:=()
noncomputable def PySem.W.Fast.tw2119734479173106047:Unit:=()
noncomputable def PySem.W.Fast.tw8141426203446646604:Unit:=()
noncomputable def PySem.W.Fast.tw5610361585572221755:Unit:=()
noncomputable def PySem.W.Fast.tw8886031041743770585:Unit:=()
noncomputable def PySem.W.Fast.tw606801796349043389:Unit:=()
noncomputable def PySem.W.Fast.tw18045170911064364952:Unit:=()
noncomputable def PySem.W.Fast.tw4220535187221316856:Unit:=()
noncomputable def PySem.W.Fast.tw5342555905462495856:Unit:=()
noncomputable def PySem.W.Fast.tw753373229038767467:Unit:=()
noncomputable def PySem.W.Fast.tw3440338523289949994:Unit:=()
noncomputable def PySem.W.Fast.tw37136825858480099:Unit:=()
noncomputable def PySem.W.Fast.tw7331271277270796010:Unit:=()
noncomputable def PySem.W.Fast.tw8572185920565066897:Unit:=()
noncomputable def PySem.W.Fast.tw14819815415254549009:Unit:=()
noncomputable def PySem.W.Fast.tw1559755382958316868:Unit:=()
noncomputable def PySem.W.Fast.tw4013920626302851524:Unit:=()
noncomputable def PySem.W.Fast.tw5321209593872146410:Unit:=()
noncomputable def PySem.W.Fast.tw11584820497800143861:Unit:=()
noncomputable def PySem.W.Fast.tw12591630100489367279:Unit:=()
noncomputable def PySem.W.Fast.tw15621207926709270853:Unit:=()
noncomputable def PySem.W.Fast.tw8052547318007836631:Unit:=()
noncomputable def PySem.W.Fast.tw1946158832556315090:Unit:=()
noncomputable def PySem.W.Fast.tw11246565457656397658:Unit:=()
noncomputable def PySem.W.Fast.tw9790145486441638800:Unit:=()
noncomputable def PySem.W.Fast.tw10656074425970316629:Unit:=()
noncomputable def PySem.W.Fast.tw3975994551938864726:Unit:=()
noncomputable def PySem.W.Fast.tw8252380540077907465:Unit:=()
noncomputable def PySem.W.Fast.tw9410814739821621043:Unit:=()
noncomputable def PySem.W.Fast.tw13396428993468004741:Unit:=()
noncomputable def PySem.W.Fast.tw5185777920644379013:Unit:=()
noncomputable def PySem.W.Fast.tw7634354469567252542:Unit:=()
noncomputable def PySem.W.Fast.tw15394521916556636002:Unit:=()
noncomputable def PySem.W.Fast.tw12560766075767517980:Unit:=()
noncomputable def PySem.W.Fast.tw10646625585574108872:Unit:=()
noncomputable def PySem.W.Fast.tw8880093607341074141:Unit:=()
noncomputable def PySem.W.Fast.tw13083392189412626216:Unit:=()
noncomputable def PySem.W.Fast.tw1628043311594501359:Unit:=()
noncomputable def PySem.W.Fast.tw8057736229401623758:Unit:=()
noncomputable def PySem.W.Fast.tw13276112798861052703:Unit:=()
noncomputable def PySem.W.Fast.tw7214340420130366399:Unit:=()
noncomputable def PySem.W.Fast.tw11097472379977330494:Unit:=()
noncomputable def PySem.W.Fast.tw3677543778658654220:Unit:=()
noncomputable def PySem.W.Fast.tw1166547932725375640:Unit:=()
noncomputable def PySem.W.Fast.tw15628865461300427499:Unit:=()
noncomputable def PySem.W.Fast.tw3084824998267592669:Unit:=()
noncomputable def PySem.W.Fast.tw3125313129098876735:Unit:=()
noncomputable def PySem.W.Fast.tw2618262265085458413:Unit:=()
noncomputable def PySem.W.Fast.tw15460991470037990950:Unit:=()
noncomputable def PySem.W.Fast.tw16463980558243691334:Unit:=()
noncomputable def PySem.W.Fast.tw15918268385757925114:Unit:=()
noncomputable def PySem.W.Fast.tw7627807666543258621:Unit:=()
noncomputable def PySem.W.Fast.tw7334146192050655074:Unit:=()
noncomputable def PySem.W.Fast.tw11384350858708971229:Unit:=()
noncomputable def PySem.W.Fast.tw18325638432741010419:Unit:=()
noncomputable def PySem.W.Fast.tw1824005417678332059:Unit:=()
noncomputable def PySem.W.Fast.tw5870522448181659694:Unit:=()
noncomputable def PySem.W.Fast.tw13863636684691930739:Unit:=()
noncomputable def PySem.W.Fast.tw213432469048853909:Unit:=()
noncomputable def PySem.W.Fast.tw1713493536551809600:Unit:=()
noncomputable def PySem.W.Fast.tw13553817691696890600:Unit:=()
noncomputable def PySem.W.Fast.tw16989659955397907457:Unit:=()
noncomputable def PySem.W.Fast.tw11308735228737015395:Unit:=()
noncomputable def PySem.W.Fast.tw14554903362610992717:Unit:=()
noncomputable def PySem.W.Fast.tw6346812256521115527:Unit:=()
noncomputable def PySem.W.Fast.tw9182013067824921314:Unit:=()
noncomputable def PySem.W.Fast.tw678067370392345247:Unit:=()
noncomputable def PySem.W.Fast.tw8004138282498433616:Unit:=()
noncomputable def PySem.W.Fast.tw4402711856873855982:Unit:=()
noncomputable def PySem.W.Fast.tw16430033486736843539:Unit:=()
noncomputable def PySem.W.Fast.tw8525589899520048354:Unit:=()
noncomputable def PySem.W.Fast.tw530155349881719354:Unit:=()
noncomputable def PySem.W.Fast.tw4393289383340511575:Unit:=()
noncomputable def PySem.W.Fast.tw6442902709041761413:Unit:=()
noncomputable def PySem.W.Fast.tw15439690843081293239:Unit:=()
noncomputable def PySem.W.Fast.tw470069885767509158:Unit:=()
noncomputable def PySem.W.Fast.tw17981823382718947837:Unit:=()
noncomputable def PySem.W.Fast.tw15031307288533595748:Unit:=()
noncomputable def PySem.W.Fast.tw7399021553171782604:Unit:=()
noncomputable def PySem.W.Fast.tw180230715463312711:Unit:=()
noncomputable def PySem.W.Fast.tw261723808659121974:Unit:=()
noncomputable def PySem.W.Fast.tw8888626499167953773:Unit:=()
noncomputable def PySem.W.Fast.tw16589425502698537072:Unit:=()
noncomputable def PySem.W.Fast.tw5254684775002171783:Unit:=()
noncomputable def PySem.W.Fast.tw8765147463041694261:Unit:=()
noncomputable def PySem.W.Fast.tw3876805863025736814:Unit:=()
noncomputable def PySem.W.Fast.tw12211332282742509308:Unit:=()
noncomputable def PySem.W.Fast.tw3807417874472493308:Unit:=()
noncomputable def PySem.W.Fast.tw15406999793216705405:Unit:=()
noncomputable def PySem.W.Fast.tw5627647620855394822:Unit:=()
noncomputable def PySem.W.Fast.tw11343084042383198412:Unit:=()
noncomputable def PySem.W.Fast.tw5268515263798122224:Unit:=()
noncomputable def PySem.W.Fast.tw1975914765081275565:Unit:=()
noncomputable def PySem.W.Fast.tw9989502616556105584:Unit:=()
noncomputable def PySem.W.Fast.tw3228486256225189470:Unit:=()
noncomputable def PySem.W.Fast.tw17129845272969291959:Unit:=()
noncomputable def PySem.W.Fast.tw922561937884527102:Unit:=()
noncomputable def PySem.W.Fast.tw17629688454365997140:Unit:=()
noncomputable def PySem.W.Fast.tw5880816286053679385:Unit:=()
noncomputable def PySem.W.Fast.tw17962016422389526736:Unit:=()
noncomputable def PySem.W.Fast.tw11581490642053047131:Unit:=()
noncomputable def PySem.W.Fast.tw10434138633725959488:Unit:=()
noncomputable def PySem.W.Fast.tw10429685688868078464:Unit:=()
noncomputable def PySem.W.Fast.tw901930314371145060:Unit:=()
noncomputable def PySem.W.Fast.tw10132818006168613248:Unit:=()
noncomputable def PySem.W.Fast.tw9618881186154776427:Unit:=()
noncomputable def PySem.W.Fast.tw2052679342356184206:Unit:=()
noncomputable def PySem.W.Fast.tw5717001320428774713:Unit:=()
noncomputable def PySem.W.Fast.tw11968534869557028085:Unit:=()
noncomputable def PySem.W.Fast.tw3046029002532940498:Unit:=()
noncomputable def PySem.W.Fast.tw7903284139273187686:Unit:=()
noncomputable def PySem.W.Fast.tw1079744039689558519:Unit:=()
noncomputable def PySem.W.Fast.tw9930898323837565456:Unit:=()
noncomputable def PySem.W.Fast.tw4404545743598814076:Unit:=()
noncomputable def PySem.W.Fast.tw4766026203464365022:Unit:=()
noncomputable def PySem.W.Fast.tw1988266132819702004:Unit:=()
noncomputable def PySem.W.Fast.tw13609097596250786012:Unit:=()
noncomputable def PySem.W.Fast.tw10946651425333732617:Unit:=()
noncomputable def PySem.W.Fast.tw7115661195308786385:Unit:=()
noncomputable def PySem.W.Fast.tw16414363197157823076:Unit:=()
noncomputable def PySem.W.Fast.tw14057070373743724280:Unit:=()
noncomputable def PySem.W.Fast.tw6181686374555366272:Unit:=()
noncomputable def PySem.W.Fast.tw590620214577063949:Unit:=()
noncomputable def PySem.W.Fast.tw12087971552486411255:Unit:=()
noncomputable def PySem.W.Fast.tw6401957939940771336:Unit:=()
noncomputable def PySem.W.Fast.tw7142540719459742103:Unit:=()
noncomputable def PySem.W.Fast.tw7454240923663403234:Unit:=()
noncomputable def PySem.W.Fast.tw6466794821917216210:Unit:=()
noncomputable def PySem.W.Fast.tw13121429498788756741:Unit:=()
noncomputable def PySem.W.Fast.tw17975512597061973518:Unit:=()
noncomputable def PySem.W.Fast.tw6899110653687296853:Unit:=()
noncomputable def PySem.W.Fast.tw15148271440062308640:Unit:=()
noncomputable def PySem.W.Fast.tw15206404051353314629:Unit:=()
noncomputable def PySem.W.Fast.tw8307433207353050484:Unit:=()
noncomputable def PySem.W.Fast.tw15266162981593056675:Unit:=()
noncomputable def PySem.W.Fast.tw18294882335603161065:Unit:=()
noncomputable def PySem.W.Fast.tw1475049444949764754:Unit:=()
noncomputable def PySem.W.Fast.tw15294747847805050882:Unit:=()
noncomputable def PySem.W.Fast.tw11211865418181695719:Unit:=()
noncomputable def PySem.W.Fast.tw11856067552749928476:Unit:=()
noncomputable def PySem.W.Fast.tw5958579360469604697:Unit:=()
noncomputable def PySem.W.Fast.tw8135609498105836998:Unit:=()
noncomputable def PySem.W.Fast.tw3865387421727327310:Unit:=()
noncomputable def PySem.W.Fast.tw14604508434468727541:Unit:=()
noncomputable def PySem.W.Fast.tw5519915360865206448:Unit:=()
noncomputable def PySem.W.Fast.tw604619021937951549:Unit:=()
noncomputable def PySem.W.Fast.tw7898378091932457808:Unit:=()
noncomputable def PySem.W.Fast.tw9530436504883413304:Unit:=()
noncomputable def PySem.W.Fast.tw4570097469307670932:Unit:=()
noncomputable def PySem.W.Fast.tw14042004258571340034:Unit:=()
noncomputable def PySem.W.Fast.tw11506842613299041954:Unit:=()
noncomputable def PySem.W.Fast.tw15670106247337060782:Unit:=()
noncomputable def PySem.W.Fast.tw5056025302335206727:Unit:=()
noncomputable def PySem.W.Fast.tw16410529819267666745:Unit:=()
noncomputable def PySem.W.Fast.tw1418233883414131518:Unit:=()
noncomputable def PySem.W.Fast.tw18278190664864443880:Unit:=()
noncomputable def PySem.W.Fast.tw13517884197850037029:Unit:=()
noncomputable def PySem.W.Fast.tw707717238573706633:Unit:=()
noncomputable def PySem.W.Fast.tw10111414451301863909:Unit:=()
noncomputable def PySem.W.Fast.tw14349326958590102023:Unit:=()
noncomputable def PySem.W.Fast.tw17384040616394227155:Unit:=()
noncomputable def PySem.W.Fast.tw9548852570138720137:Unit:=()
noncomputable def PySem.W.Fast.tw4069807515953709197:Unit:=()
noncomputable def PySem.W.Fast.tw12802990736734911980:Unit:=()
noncomputable def PySem.W.Fast.tw13737311226431208530:Unit:=()
noncomputable def PySem.W.Fast.tw5723662994329970579:Unit:=()
noncomputable def PySem.W.Fast.tw17395742695501965820:Unit:=()
noncomputable def PySem.W.Fast.tw849185679976674657:Unit:=()
noncomputable def PySem.W.Fast.tw7100962480625604679:Unit:=()
noncomputable def PySem.W.Fast.tw13222605444186164994:Unit:=()
noncomputable def PySem.W.Fast.tw7936305777711453577:Unit:=()
noncomputable def PySem.W.Fast.tw13576551699707058104:Unit:=()
noncomputable def PySem.W.Fast.tw16187642385667052082:Unit:=()
noncomputable def PySem.W.Fast.tw1958895783969244933:Unit:=()
noncomputable def PySem.W.Fast.tw11271018883687014331:Unit:=()
noncomputable def PySem.W.Fast.tw6880160267374830251:Unit:=()
noncomputable def PySem.W.Fast.tw4139378625685127961:Unit:=()
noncomputable def PySem.W.Fast.tw11063579037006790027:Unit:=()
noncomputable def PySem.W.Fast.tw5182795752426049616:Unit:=()
noncomputable def PySem.W.Fast.tw15291617536171807029:Unit:=()
noncomputable def PySem.W.Fast.tw8389959040360916377:Unit:=()
noncomputable def PySem.W.Fast.tw2107907649840029282:Unit:=()
noncomputable def PySem.W.Fast.tw5827310574844621659:Unit:=()
noncomputable def PySem.W.Fast.tw4475574249060977097:Unit:=()
noncomputable def PySem.W.Fast.tw1022857909954519776:Unit:=()
noncomputable def PySem.W.Fast.tw16134430676255466382:Unit:=()
noncomputable def PySem.W.Fast.tw3169699316348794131:Unit:=()
noncomputable def PySem.W.Fast.tw2715273927601518324:Unit:=()
noncomputable def PySem.W.Fast.tw73129810585769694:Unit:=()
noncomputable def PySem.W.Fast.tw5970597334671074756:Unit:=()
noncomputable def PySem.W.Fast.tw665480814668232556:Unit:=()
noncomputable def PySem.W.Fast.tw2621204896412686159:Unit:=()
noncomputable def PySem.W.Fast.tw104026720171313803:Unit:=()
noncomputable def PySem.W.Fast.tw16498774837480674856:Unit:=()
noncomputable def PySem.W.Fast.tw17217880947613465895:Unit:=()
noncomputable def PySem.W.Fast.tw5438576329918084640:Unit:=()
noncomputable def PySem.W.Fast.tw10964751986332073765:Unit:=()
noncomputable def PySem.W.Fast.tw14685789763043315542:Unit:=()
noncomputable def PySem.W.Fast.tw13785884340599626226:Unit:=()
noncomputable def PySem.W.Fast.tw8574921305920071507:Unit:=()
noncomputable def PySem.W.Fast.tw14352803208161376234:Unit:=()
noncomputable def PySem.W.Fast.tw6742975982750154570:Unit:=()
noncomputable def PySem.W.Fast.tw7957021847008695951:Unit:=()
noncomputable def PySem.W.Fast.tw1074096175464002845:Unit:=()
noncomputable def PySem.W.Fast.tw2319008376935021359:Unit:=()
noncomputable def PySem.W.Fast.tw17103184860921416306:Unit:=()
noncomputable def PySem.W.Fast.tw338856084169104105:Unit:=()
noncomputable def PySem.W.Fast.tw15772143452904820704:Unit:=()
noncomputable def PySem.W.Fast.tw4008100417427111132:Unit:=()
noncomputable def PySem.W.Fast.tw9765696388862398963:Unit:=()
noncomputable def PySem.W.Fast.tw5092939552190539045:Unit:=()
noncomputable def PySem.W.Fast.tw2247832641332238813:Unit:=()
noncomputable def PySem.W.Fast.tw11171621666100081197:Unit:=()
noncomputable def PySem.W.Fast.tw13693953826230089475:Unit:=()
noncomputable def PySem.W.Fast.tw4302887408315325325:Unit:=()
noncomputable def PySem.W.Fast.tw15375033239360840980:Unit:=()
noncomputable def PySem.W.Fast.tw18254159454825577284:Unit:=()
noncomputable def PySem.W.Fast.tw6763904843596005332:Unit:=()
noncomputable def PySem.W.Fast.tw16771197126301717285:Unit:=()
noncomputable def PySem.W.Fast.tw3378045145671573913:Unit:=()
noncomputable def PySem.W.Fast.tw4055858605435699810:Unit:=()
noncomputable def PySem.W.Fast.tw2111297411207256358:Unit:=()
noncomputable def PySem.W.Fast.tw15971743057668578926:Unit:=()
noncomputable def PySem.W.Fast.tw15826067703688209578:Unit:=()
noncomputable def PySem.W.Fast.tw5326729763448654460:Unit:=()
noncomputable def PySem.W.Fast.tw4732160288770174588:Unit:=()
noncomputable def PySem.W.Fast.tw7895270338700727459:Unit:=()
noncomputable def PySem.W.Fast.tw2494711107006337623:Unit:=()
noncomputable def PySem.W.Fast.tw16708195866459423067:Unit:=()
noncomputable def PySem.W.Fast.tw4735049561359320219:Unit:=()
noncomputable def PySem.W.Fast.tw4821631146289923861:Unit:=()
noncomputable def PySem.W.Fast.tw16880513347942639717:Unit:=()
noncomputable def PySem.W.Fast.tw17545877902075069868:Unit:=()
noncomputable def PySem.W.Fast.tw11562366601410888308:Unit:=()
noncomputable def PySem.W.Fast.tw5967353945620975217:Unit:=()
noncomputable def PySem.W.Fast.tw276358270503882419:Unit:=()
noncomputable def PySem.W.Fast.tw16404775029485575368:Unit:=()
noncomputable def PySem.W.Fast.tw8264632720593247710:Unit:=()
noncomputable def PySem.W.Fast.tw16337712977134544539:Unit:=()
noncomputable def PySem.W.Fast.tw31160529883804847:Unit:=()
noncomputable def PySem.W.Fast.tw6946592207131169941:Unit:=()
noncomputable def PySem.W.Fast.tw8096334149159005292:Unit:=()
noncomputable def PySem.W.Fast.tw8872061434030225098:Unit:=()
noncomputable def PySem.W.Fast.tw17591940555663867296:Unit:=()
noncomputable def PySem.W.Fast.tw6225903814009825587:Unit:=()
noncomputable def PySem.W.Fast.tw13458593241052782569:Unit:=()
noncomputable def PySem.W.Fast.tw12654621822899866549:Unit:=()
noncomputable def PySem.W.Fast.tw5589541685576445947:Unit:=()
noncomputable def PySem.W.Fast.tw6384774920487024505:Unit:=()
noncomputable def PySem.W.Fast.tw9739460888474197553:Unit:=()
noncomputable def PySem.W.Fast.tw3263521508743713483:Unit:=()
noncomputable def PySem.W.Fast.tw17812679629717146171:Unit:=()
noncomputable def PySem.W.Fast.tw10401186968838915330:Unit:=()
noncomputable def PySem.W.Fast.tw757638076005740532:Unit:=()
noncomputable def PySem.W.Fast.tw14438351109253279545:Unit:=()
noncomputable def PySem.W.Fast.tw8529700545484923041:Unit:=()
noncomputable def PySem.W.Fast.tw16521100128157404531:Unit:=()
noncomputable def PySem.W.Fast.tw8030874005132900334:Unit:=()
noncomputable def PySem.W.Fast.tw10260124805829442478:Unit:=()
noncomputable def PySem.W.Fast.tw13103394447709182718:Unit:=()
noncomputable def PySem.W.Fast.tw15144580372605034226:Unit:=()
noncomputable def PySem.W.Fast.tw13952366370505675013:Unit:=()
noncomputable def PySem.W.Fast.tw10669687521096971736:Unit:=()
noncomputable def PySem.W.Fast.tw521866286884679461:Unit:=()
noncomputable def PySem.W.Fast.tw5722172418271964324:Unit:=()
noncomputable def PySem.W.Fast.tw5397406392891957956:Unit:=()
noncomputable def PySem.W.Fast.tw10390763490031953045:Unit:=()
noncomputable def PySem.W.Fast.tw18175915165537235827:Unit:=()
noncomputable def PySem.W.Fast.tw5120296974247756068:Unit:=()
noncomputable def PySem.W.Fast.tw15799589510667991213:Unit:=()
noncomputable def PySem.W.Fast.tw9913679242037533960:Unit:=()
noncomputable def PySem.W.Fast.tw8592046411300434834:Unit:=()
noncomputable def PySem.W.Fast.tw13339211625257182582:Unit:=()
noncomputable def PySem.W.Fast.tw3946804420417366131:Unit:=()
noncomputable def PySem.W.Fast.tw5355679456743108339:Unit:=()
noncomputable def PySem.W.Fast.tw4363954943698540304:Unit:=()
noncomputable def PySem.W.Fast.tw10115208081723972709:Unit:=()
noncomputable def PySem.W.Fast.tw13988308938114057789:Unit:=()
noncomputable def PySem.W.Fast.tw9103333501778454845:Unit:=()
noncomputable def PySem.W.Fast.tw1367779485598113056:Unit:=()
noncomputable def PySem.W.Fast.tw11723764413055003991:Unit:=()
noncomputable def PySem.W.Fast.tw15434423090058102191:Unit:=()
noncomputable def PySem.W.Fast.tw2660420648630089555:Unit:=()
noncomputable def PySem.W.Fast.tw144003510247353650:Unit:=()
noncomputable def PySem.W.Fast.tw13269753011117083878:Unit:=()
noncomputable def PySem.W.Fast.tw14168982882050305831:Unit:=()
noncomputable def PySem.W.Fast.tw2508636358309275564:Unit:=()
noncomputable def PySem.W.Fast.tw15155985790328964532:Unit:=()
noncomputable def PySem.W.Fast.tw3519414185929238041:Unit:=()
noncomputable def PySem.W.Fast.tw80690627131311572:Unit:=()
noncomputable def PySem.W.Fast.tw17909867458647593254:Unit:=()
noncomputable def PySem.W.Fast.tw10258903630250045569:Unit:=()
noncomputable def PySem.W.Fast.tw6308710783792534115:Unit:=()
noncomputable def PySem.W.Fast.tw10034688516046186464:Unit:=()
noncomputable def PySem.W.Fast.tw10093022183026171953:Unit:=()
noncomputable def PySem.W.Fast.tw14551628300754006384:Unit:=()
noncomputable def PySem.W.Fast.tw345778629616687437:Unit:=()
noncomputable def PySem.W.Fast.tw17561599730631903688:Unit:=()
noncomputable def PySem.W.Fast.tw12644460533950828592:Unit:=()
noncomputable def PySem.W.Fast.tw1998078775419426386:Unit:=()
noncomputable def PySem.W.Fast.tw6543714187439947776:Unit:=()
noncomputable def PySem.W.Fast.tw4896618716961049068:Unit:=()
noncomputable def PySem.W.Fast.tw8741532395105140659:Unit:=()
noncomputable def PySem.W.Fast.tw7405618728224760151:Unit:=()
noncomputable def PySem.W.Fast.tw5622686867897354225:Unit:=()
noncomputable def PySem.W.Fast.tw1714581664437524327:Unit:=()
noncomputable def PySem.W.Fast.tw1851809699442506025:Unit:=()
noncomputable def PySem.W.Fast.tw2360773507375543664:Unit:=()
noncomputable def PySem.W.Fast.tw2756578031104129018:Unit:=()
noncomputable def PySem.W.Fast.tw1638957493276281590:Unit:=()
noncomputable def PySem.W.Fast.tw15384852657823066762:Unit:=()
noncomputable def PySem.W.Fast.tw18141014773362998545:Unit:=()
noncomputable def PySem.W.Fast.tw10024909557004572708:Unit:=()
noncomputable def PySem.W.Fast.tw8423470201592643545:Unit:=()
noncomputable def PySem.W.Fast.tw1433296158241031147:Unit:=()
noncomputable def PySem.W.Fast.tw17273422381018067182:Unit:=()
noncomputable def PySem.W.Fast.tw4705404113432656005:Unit:=()
noncomputable def PySem.W.Fast.tw5957678589231299034:Unit:=()
noncomputable def PySem.W.Fast.tw11307059373278549816:Unit:=()
noncomputable def PySem.W.Fast.tw15212221906556169561:Unit:=()
noncomputable def PySem.W.Fast.tw16203140974063595737:Unit:=()
noncomputable def PySem.W.Fast.tw13799153387546016460:Unit:=()
noncomputable def PySem.W.Fast.tw11892412497597866944:Unit:=()
noncomputable def PySem.W.Fast.tw13712910536492619636:Unit:=()
noncomputable def PySem.W.Fast.tw10219135116851775581:Unit:=()
noncomputable def PySem.W.Fast.tw10144126306171995033:Unit:=()
noncomputable def PySem.W.Fast.tw1382059313354494510:Unit:=()
noncomputable def PySem.W.Fast.tw16868182632865969826:Unit:=()
noncomputable def PySem.W.Fast.tw12900377425738318564:Unit:=()
noncomputable def PySem.W.Fast.tw8803567872723615877:Unit:=()
noncomputable def PySem.W.Fast.tw7154596191503692486:Unit:=()
noncomputable def PySem.W.Fast.tw9014333969409907237:Unit:=()
noncomputable def PySem.W.Fast.tw2095393295879140144:Unit:=()
noncomputable def PySem.W.Fast.tw13040124180677092216:Unit:=()
noncomputable def PySem.W.Fast.tw17246211242605747114:Unit:=()
noncomputable def PySem.W.Fast.tw17060233732049103962:Unit:=()
noncomputable def PySem.W.Fast.tw359331873164865521:Unit:=()
noncomputable def PySem.W.Fast.tw10292425595025801697:Unit:=()
noncomputable def PySem.W.Fast.tw8381871212166979428:Unit:=()
noncomputable def PySem.W.Fast.tw3025611924409433349:Unit:=()
noncomputable def PySem.W.Fast.tw8944703899621073797:Unit:=()
noncomputable def PySem.W.Fast.tw406171507720769582:Unit:=()
noncomputable def PySem.W.Fast.tw4303729226205558881:Unit:=()
noncomputable def PySem.W.Fast.tw8729826836216724043:Unit:=()
noncomputable def PySem.W.Fast.tw2172524755965945518:Unit:=()
noncomputable def PySem.W.Fast.tw16565064106534659035:Unit:=()
noncomputable def PySem.W.Fast.tw1459487157881671007:Unit:=()
noncomputable def PySem.W.Fast.tw5743721218298323777:Unit:=()
noncomputable def PySem.W.Fast.tw17165267054030977590:Unit:=()
noncomputable def PySem.W.Fast.tw10191189986487861385:Unit:=()
noncomputable def PySem.W.Fast.tw325725295965523720:Unit:=()
noncomputable def PySem.W.Fast.tw6742471300439364278:Unit:=()
noncomputable def PySem.W.Fast.tw16052092651611392865:Unit:=()
noncomputable def PySem.W.Fast.tw15951724772542325171:Unit:=()
noncomputable def PySem.W.Fast.tw388601469686917699:Unit:=()
noncomputable def PySem.W.Fast.tw15553061547669015219:Unit:=()
noncomputable def PySem.W.Fast.tw9488102040842302652:Unit:=()
open PySem PySem.W PyProof.Rows
set_option maxRecDepth 100000 in
set_option maxHeartbeats 0 in
theorem PySem.Challenge.cw_measuretext_s08_free_holds : PySem.Challenge.rw_measuretext_s08_free.Holds := by
  w_on;k_headS;(case hw=>exact ⟨[.list []],by decide +kernel,by decide +kernel⟩)
  k_fillS
  refine L2.zoh (r:=PySem.Challenge.rw_measuretext_s08_free) (k:=22) (CX:=L2.CX0) (ps:=["text"]) (sp:=M.zl6 PyVaunid.free) (by decide +kernel) rfl rfl ⟨rfl,by decide,by decide⟩ (fun w h Y=>PySem.W.kIn_of Y) ?F ?S (fun _ _ _ _ z=>z)
  case F =>
    intro w mg fa h Y KX G hmg
    refine' M.zym KX G hmg ?a0 ?a1 ?a2 ?a3 ?a4 ?a5 ?a6 ?a7 ?a8 ?a9 ?a10 ?a11 ?a12 ?a13 ?a14 ?a15 ?a16 ?a17 ?a18 ?a19 ?a20 ?a21 ?a22 ?a23 ?a24 ?a25 ?a26 ?a27 ?a28 ?a29 ?a30 ?a31 ?a32 ?a33 ?a34 ?a35 ?a36 ?a37 ?a38 ?a39 ?a40 ?a41 ?a42 ?a43 ?a44 ?a45 ?a46 ?a47 ?a48 ?a49 ?a50 ?a51 ?a52 ?a53 ?a54 ?a55 ?a56 ?a57 ?a58 ?a59 ?a60 ?a61 ?a62 ?a63 ?a64 ?a65 ?a66 ?a67 ?a68 ?a69 ?a70 ?a71 ?a72 ?a73 ?a74 ?a75 ?a76 ?a77 ?a78 ?a79 ?a80 ?a81 ?a82 ?a83 ?a84 ?a85 ?a86 ?a87 ?a88 ?a89 ?a90 ?a91 ?a92 ?a93 ?a94 ?a95 ?a96 ?a97 ?a98 ?a99 ?a100 ?a101 ?a102 ?a103 ?a104 ?a105 ?a106 ?a107 ?a108 ?a109 ?a110 ?a111 ?a112 ?a113 ?a114 ?a115 ?a116 ?a117 ?a118 ?a119 ?a120 ?a121 ?a122 ?a123 ?a124 ?a125 ?a126 ?a127 ?a128 ?a129 ?a130 ?a131 ?a132 ?a133 ?a134 ?a135 ?a136 ?a137 ?a138 ?a139 ?a140 ?a141 ?a142 ?a143 ?a144 ?a145 ?a146 ?a147 ?a148 ?a149 ?a150 ?a151 ?a152 ?a153 ?a154 ?a155 ?a156 ?a157 ?a158 ?a159 ?a160 ?a161 ?a162 ?a163 ?a164 ?a165 ?a166 ?a167 ?a168 ?a169 ?a170 ?a171 ?a172 ?a173 ?a174 ?a175 ?a176 ?a177 ?a178 ?a179 ?a180 ?a181 ?a182 ?a183 ?a184 ?a185 ?a186 ?a187 ?a188 ?a189 ?a190 ?a191 ?a192 ?a193 ?a194 ?a195 ?a196 ?a197 ?a198 ?a199 ?a200 ?a201 ?a202 ?a203 ?a204 ?a205 ?a206 ?a207 ?a208 ?a209 ?a210 ?a211 ?a212 ?a213 ?a214 ?a215 ?a216 ?a217 ?a218 ?a219 ?a220 ?a221 ?a222 ?a223 ?a224 ?a225 ?a226 ?a227 ?a228 ?a229 ?a230 ?a231 ?a232 ?a233 ?a234 ?a235 ?a236 ?a237 ?a238 ?a239 ?a240 ?a241 ?a242 ?a243 ?a244 ?a245 ?a246 ?a247 ?a248 ?a249 ?a250 ?a251 ?a252 ?a253 ?a254 ?a255 ?a256 ?a257 ?a258 ?a259
    case a0 | a1 | a2 | a3 | a4 | a5 | a6 | a7 | a8 | a9 | a10 | a11 | a12 | a13 | a14 | a15 | a16 | a17 | a18 | a19 | a20 | a21 | a22 | a23 | a24 | a25 | a26 | a27 | a28 | a29 | a30 | a31 | a32 | a33 | a34 | a35 | a36 | a37 | a38 | a39 | a40 | a41 | a42 | a43 | a44 | a45 | a46 | a47 | a48 | a49 | a50 | a51 | a52 | a53 | a54 | a55 | a56 | a57 | a58 | a59 | a60 | a61 | a62 | a63 | a64 | a65 | a66 | a67 | a68 | a69 | a70 | a71 | a72 | a73 | a74 | a75 | a76 | a77 | a78 | a79 | a80 | a81 | a82 | a83 | a84 | a85 | a86 | a87 | a88 | a89 | a90 | a91 | a92 | a93 | a94 | a95 | a96 | a97 | a98 | a99 | a100 | a101 | a102 | a103 | a104 | a105 | a106 | a107 | a108 | a109 | a110 | a111 | a112 | a113 | a114 | a115 | a116 | a117 | a118 | a119 | a120 | a121 | a122 | a123 | a124 | a125 | a126 | a127 | a128 | a129 | a130 | a131 | a132 | a133 | a134 | a135 | a136 | a137 | a138 | a139 | a140 | a141 | a142 | a143 | a144 | a145 | a146 | a147 | a148 | a149 | a150 | a151 | a152 | a153 | a154 | a155 | a156 | a157 | a158 | a159 | a160 | a161 | a162 | a163 | a164 | a165 | a166 | a167 | a168 | a169 | a170 | a171 | a172 | a173 | a174 | a175 | a176 | a177 | a178 | a179 | a180 | a181 | a182 | a183 | a184 | a185 | a186 | a187 | a188 | a189 | a190 | a191 | a192 | a193 | a194 | a195 | a196 | a197 | a198 | a199 | a200 | a201 | a202 | a203 | a204 | a205 | a206 | a207 | a208 | a209 | a210 | a211 | a212 | a213 | a214 | a215 | a216 | a217 | a218 | a219 | a220 | a221 | a222 | a223 | a224 | a225 | a226 | a227 | a228 | a229 | a230 | a231 | a232 | a233 | a234 | a235 | a236 | a237 | a238 | a239 | a240 | a241 | a242 | a243 | a244 | a245 | a246 | a247 | a248 | a249 | a250 | a251 | a252 | a253 | a254 | a255 | a256 | a257 | a258 | a259=>first | k_is | (exact ⟨_,_,_,_,_,_,_,_,_,by k_is,by k_is,by k_is⟩) | ((repeat (refine .cons ⟨_,rfl⟩ ?_));exact .nil) | decide | ((repeat (refine .cons ⟨rfl,⟨_,rfl⟩,rfl⟩ ?_));exact .nil) | ((repeat (refine .cons ⟨rfl,⟨_,rfl⟩,⟨_,rfl⟩⟩ ?_));exact .nil)
  case S =>
    intro K H xs a hO hwi hask hx
    cases hx with
    | cons h1 h2 =>
      cases h2
      cases h1 with
      | lst hs ha =>
        have e:=L2.zrn a.1 _ ha
        subst e
        have q:((Codec.inLen 0 10000 a.1 && a.1.all (Codec.inInt 0 255)) && true)=true:=hwi
        rw [Bool.and_eq_true,Bool.and_eq_true] at q
        refine ⟨_,a.1,rfl,hs,(Codec.inNat_iff.mp q.1.1).2,fun n hn=>?_,fun H' p hp => .lst (L2.SqL.of hp) (L2.zr2 _)⟩
        have:=List.all_eq_true.mp q.1.2 n hn
        unfold Codec.inInt at this
        simpa using this
#print axioms PySem.Challenge.cw_measuretext_s08_free_holds
