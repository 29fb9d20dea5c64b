import PyProof.Rows.All
import Wide.All
import OpenK.AllK
import Wide.FinOn
import PyProof.EqAt
import PyProof.EqKinds
import PyProof.TupleCall
import KE.BitLaws
import PyProof.ExcBaseAll.Exception
import PyProof.ExcAttrAll.Exception
import Open.SpecLaws
import KE.OsHead
import KE.OsGo
import PySem.Challenge.RW_measuretext_s01_tokens
set_option Elab.async false
set_option linter.all false
set_option maxRecDepth 100000
set_option Elab.async false
set_option linter.all false
set_option maxRecDepth 100000
namespace L2
open PySem PySem.Spec PyProof.Rows

abbrev Key := Sum Int Str
def keyIs : Key → Value → Bool
  | .inl k, v => Value.isInt k v
  | .inr x, v => Value.isStrOf x v
def keyH (w : World) : Key → Int
  | .inl k => hashInt k
  | .inr x => hashStr w x
theorem keyIs_shape : ∀ {k : Key} {v : Value}, keyIs k v = true → (∃ i t, k = Sum.inl i ∧ v = Value.int i t) ∨ (∃ x t, k = Sum.inr x ∧ v = Value.str x t)
  | .inl i, v, h => by
    obtain ⟨t, e⟩ := Value.isInt_shape (k := i) (v := v) h
    exact .inl ⟨i, t, rfl, e⟩
  | .inr x, v, h => by
    obtain ⟨t, e⟩ := Value.isStrOf_shape (x := x) (v := v) h
    exact .inr ⟨x, t, rfl, e⟩
theorem key_ll (a b : Int) : decide ((Sum.inl a : Key) = Sum.inl b) = (a == b) := by
  by_cases e : a = b
  · subst e; simp
  · have h : ¬ (Sum.inl a : Key) = Sum.inl b := fun q => e (Sum.inl.inj q)
    rw [decide_eq_false h]
    exact (beq_eq_false_iff_ne.mpr e).symm
theorem key_rr (a b : Str) : decide ((Sum.inr a : Key) = Sum.inr b) = decide (a = b) := by
  by_cases e : a = b
  · subst e; simp
  · have h : ¬ (Sum.inr a : Key) = Sum.inr b := fun q => e (Sum.inr.inj q)
    rw [decide_eq_false h, decide_eq_false e]
theorem key_lr (a : Int) (b : Str) : decide ((Sum.inl a : Key) = Sum.inr b) = false := decide_eq_false (fun q => nomatch q)
theorem key_rl (a : Str) (b : Int) : decide ((Sum.inr a : Key) = Sum.inl b) = false := decide_eq_false (fun q => nomatch q)

def mixKind (prog : Program) (w : World) : PySem.KeyKind prog w Key where
  is := keyIs
  hash := keyH w
  inj := fun v a b ha hb => by
    rcases keyIs_shape ha with ⟨i, t, rfl, rfl⟩ | ⟨x, t, rfl, rfl⟩
    · rcases keyIs_shape hb with ⟨j, u, rfl, e⟩ | ⟨y, u, rfl, e⟩
      · injection e with e1 _; rw [e1]
      · exact nomatch e
    · rcases keyIs_shape hb with ⟨j, u, rfl, e⟩ | ⟨y, u, rfl, e⟩
      · exact nomatch e
      · injection e with e1 _; rw [e1]
  byValue := fun k v h => by
    rcases keyIs_shape h with ⟨i, t, rfl, rfl⟩ | ⟨x, t, rfl, rfl⟩ <;> rfl
  pyHash := fun hv h => by
    rcases keyIs_shape hv with ⟨i, t, rfl, rfl⟩ | ⟨x, t, rfl, rfl⟩
    · exact wpAny_pyHash_int h
    · exact wpAny_pyHash_str h
  eqBool := fun hu hv h => by
    rcases keyIs_shape hu with ⟨i, t, rfl, rfl⟩ | ⟨x, t, rfl, rfl⟩
    · rcases keyIs_shape hv with ⟨j, u, rfl, rfl⟩ | ⟨y, u, rfl, rfl⟩
      · rw [key_ll] at h; exact wpAny_eqBool_int h
      · rw [key_lr] at h; exact SeqAt.EqAt.int_str i t y u _ _ _ _ h
    · rcases keyIs_shape hv with ⟨j, u, rfl, rfl⟩ | ⟨y, u, rfl, rfl⟩
      · rw [key_rl] at h; exact SeqAt.EqAt.str_int x t j u _ _ _ _ h
      · rw [key_rr] at h; exact wpAny_eqBool_str h
  «strs» := fun k x t v h => by
    rcases keyIs_shape h with ⟨i, u, rfl, e⟩ | ⟨y, u, rfl, e⟩
    · exact nomatch e
    · injection e with e1 _
      subst e1
      cases v <;> rfl

end L2

namespace L2
open PySem PySem.Spec PyProof.Rows

inductive V where
  | non | bl (b : Bool) | int (i : Int) | str (x : Str) | byt (b : Array UInt8) | flt (b : UInt64) | ref (a : Addr) | ty (n : String)
  deriving DecidableEq

def RelV : V → Value → Prop
  | .non, u => u = Value.none
  | .bl b, u => u = Value.bool b
  | .int i, u => ∃ t, u = Value.int i t
  | .str x, u => ∃ t, u = Value.str x t
  | .byt b, u => ∃ t, u = Value.bytes b t
  | .flt b, u => ∃ t, u = Value.float b t
  | .ref a, u => u = Value.ref a
  | .ty n, u => u = Value.type n

abbrev Vals : List V → List Value → Prop := Paired RelV
theorem Vals.length {xs : List V} {us : List Value} (r : Vals xs us) : xs.length = us.length := Paired.length r
theorem Vals.get : ∀ {xs : List V} {us : List Value} {i : Nat} {x : V}, Vals xs us → xs[i]? = some x → ∃ u, us[i]? = some u ∧ RelV x u
  | _, _, _, _, .nil, e => by simp at e
  | _, _, 0, _, .cons r _, e => by simp at e; subst e; exact ⟨_, rfl, r⟩
  | _, _, i + 1, x, .cons _ t, e => by
    obtain ⟨u, h1, h2⟩ := Vals.get (i := i) (x := x) t (by simpa using e)
    exact ⟨u, by simpa using h1, h2⟩
theorem Vals.set {x : V} {u : Value} (r : RelV x u) : ∀ {xs : List V} {us : List Value} (i : Nat), Vals xs us → Vals (xs.set i x) (us.set i u)
  | _, _, _, .nil => .nil
  | _, _, 0, .cons _ t => .cons r t
  | _, _, i + 1, .cons q t => .cons q (Vals.set r i t)
theorem Vals.append : ∀ {xs ys : List V} {us ws : List Value}, Vals xs us → Vals ys ws → Vals (xs ++ ys) (us ++ ws)
  | _, _, _, _, .nil, s => s
  | _, _, _, _, .cons r t, s => .cons r (Vals.append t s)
theorem Vals.take : ∀ {xs : List V} {us : List Value} (n : Nat), Vals xs us → Vals (xs.take n) (us.take n)
  | _, _, 0, _ => .nil
  | _, _, _ + 1, .nil => .nil
  | _, _, n + 1, .cons r t => .cons r (Vals.take n t)
theorem Vals.drop : ∀ {xs : List V} {us : List Value} (n : Nat), Vals xs us → Vals (xs.drop n) (us.drop n)
  | _, _, 0, r => r
  | _, _, _ + 1, .nil => .nil
  | _, _, n + 1, .cons _ t => Vals.drop n t
def RelO : Option V → Option Value → Prop
  | some v, some u => RelV v u
  | none, none => True
  | _, _ => False
def KV {κ : Type} : List (κ × V) → List (κ × Value) → Prop := Paired fun (p : κ × V) (q : κ × Value) => p.1 = q.1 ∧ RelV p.2 q.2

def kV : Key → V
  | .inl i => .int i
  | .inr x => .str x

inductive HO where
  /-- a list -/
  | lst (xs : List V)
  /-- a tuple (never changes) -/
  | tup (xs : List V)
  /-- a dict whose keys are ints and texts; one whose keys are tuples of ints and texts (the empty one is both) -/
  | dK (kvs : List (Key × V)) | dT (kvs : List (List Key × V))
  /-- a set of ints: its members, its size -/
  | set (S : Int → Bool) (n : Nat)
  /-- an instance of the class at C, its dict at dx, its attributes -/
  | ins (C dx : Addr) (fs : List (Str × V))
  /-- the dict of the instance at x -/
  | own (x : Addr)
  /-- the dict of an exception -/
  | xd (fs : List (Str × V))
  /-- a bound method, f of x -/
  | met (f x : Addr)
  /-- a range object lo, lo + 1, .. below hi -/
  | rng (lo hi : Int)
  /-- a thing that is known to the object (the script; a dict while a loop walks it): read, never written while it is so -/
  | frz (o : Obj) (u : HO)
  /-- a code object's table -/
  | tbl (ps : Array Value)
  /-- any other thing, by what is true of its one object (a def of one's own: SetO a S n := HO.ext fun h => ..) -/
  | ext (φ : Heap → Prop)

abbrev Hp := Addr → Option HO
def upd (H : Hp) (a : Addr) (o : HO) : Hp := fun b => if b = a then some o else H b
theorem upd_same {H : Hp} {a : Addr} {o : HO} : upd H a o a = some o := by unfold upd; rw [if_pos rfl]
theorem upd_ne {H : Hp} {a b : Addr} {o : HO} (h : b ≠ a) : upd H a o b = H b := by unfold upd; rw [if_neg h]
theorem upd_upd {H : Hp} {a : Addr} {o u : HO} : upd (upd H a o) a u = upd H a u := by
  funext b; unfold upd; split <;> rfl
theorem ne_of {H : Hp} {a b : Addr} {o u : HO} (h : H a = some o) (h' : H b = some u) (d : o ≠ u) : a ≠ b := by
  intro e; subst e; rw [h] at h'; exact d (Option.some.inj h')
theorem ne_of_none {H : Hp} {a b : Addr} {o : HO} (h : H a = some o) (h' : H b = none) : a ≠ b := by
  intro e; subst e; rw [h] at h'; cases h'

section
variable (P : Program) (w : World)
def ObjOk (H : Hp) (h : Heap) (a : Addr) : HO → Prop
  | .lst xs => xs.length ≤ sizeLine ∧ ∃ (its : List Value) (n : Nat), Vals xs its ∧ h.get? a = some { cls := .type "list", data := .seq its.toArray n }
  | .tup xs => xs.length ≤ sizeLine ∧ ∃ its : List Value, Vals xs its ∧ IsTup h a its.toArray
  | .dK kvs => kvs.length ≤ sizeLine ∧ (a == sysModules) = false ∧ ∃ vs, KV kvs vs ∧ h.DictOf (mixKind P w) a vs
  | .dT kvs => kvs.length ≤ sizeLine ∧ (a == sysModules) = false ∧ ∃ xs : List (List Key × Addr × Value),
      Paired (fun (p : List Key × V) (q : List Key × Addr × Value) => p.1 = q.1 ∧ H q.2.1 = some (.tup (p.1.map kV)) ∧ RelV p.2 q.2.2) kvs xs ∧
      ∃ o es ep, h.get? a = some o ∧ o.ExactDict ∧ o.data = .dict es ep ∧ es.toList = xs.map (entryOfKey (tupleKind (mixKind P w))) ∧ (xs.map (·.1)).Nodup
  | .set S n => h.SetOf (intKind P w) a S n
  | .ins C dx fs => H dx = some (.own a) ∧ fs.length ≤ 1000 ∧ dx ≠ a ∧ h.get? a = some (PySem.W.instObj C dx) ∧
      ∃ mA, h.Ns1 dx mA ∧ (∀ f, RelO (fs.lookup f) (mA f)) ∧ PySem.Within mA (fs.map (·.1))
  | .own _ => ∃ o, h.get? a = some o
  | .xd fs => ∃ mA, h.Ns1 a mA ∧ ∀ f, RelO (fs.lookup f) (mA f)
  | .rng lo hi => ∃ t u v, h.get? a = some { cls := .type "range", data := .fields #[.int lo t, .int hi u, .int 1 v] }
  | .frz o u => h.get? a = some o ∧ ObjOk H h a u
  | .tbl ps => h.get? a = some { cls := .none, data := .fields ps }
  | .met f x => h.get? a = some (PySem.W.methodObj (.ref f) (.ref x))
  | .ext φ => φ h ∧ (∃ o, h.get? a = some o) ∧ ∀ h1 h2 : Heap, φ h1 → (∀ o, h1.get? a = some o → h2.get? a = some o) → φ h2
def HOk (H : Hp) (h : Heap) : Prop := ∀ a o, H a = some o → ObjOk P w H h a o
end

section
variable {P : Program} {w : World} {H H' : Hp} {h h' : Heap} {a : Addr} {o : HO}
theorem ObjOk.lt (x : ObjOk P w H h a o) : a < h.objs.size := by
  cases o with
  | lst xs => obtain ⟨_, _, _, _, e⟩ := x; exact Heap.lt_size e
  | tup xs => obtain ⟨_, _, _, p⟩ := x; exact p.lt
  | dK kvs => obtain ⟨_, _, _, _, o, _, _, e, _⟩ := x; exact Heap.lt_size e
  | dT kvs => obtain ⟨_, _, _, _, o, _, _, e, _⟩ := x; exact Heap.lt_size e
  | set S n => obtain ⟨o, _, _, _, e, _⟩ := x; exact Heap.lt_size e
  | ins C dx fs => obtain ⟨_, _, _, e, _⟩ := x; exact Heap.lt_size e
  | own y => obtain ⟨_, e⟩ := x; exact Heap.lt_size e
  | xd fs => obtain ⟨_, ⟨_, _, _, e, _⟩, _⟩ := x; exact Heap.lt_size e
  | rng lo hi => obtain ⟨_, _, _, e⟩ := x; exact Heap.lt_size e
  | frz ob u => obtain ⟨e, _⟩ := x; exact Heap.lt_size e
  | tbl ps => exact Heap.lt_size (show h.get? a = some _ from x)
  | met f y => exact Heap.lt_size (show h.get? a = some _ from x)
  | ext φ => obtain ⟨_, ⟨_, e⟩, _⟩ := x; exact Heap.lt_size e
theorem Paired.mapP {α β : Type} {F G : α → β → Prop} : ∀ {l₁ : List α} {l₂ : List β}, Paired F l₁ l₂ → (∀ a b, F a b → G a b) → Paired G l₁ l₂
  | _, _, .nil, _ => .nil
  | _, _, .cons r t, f => .cons (f _ _ r) (Paired.mapP t f)
theorem ObjOk.stay (x : ObjOk P w H h a o) (k : ∀ b u, (b = a ∨ H b = some (.own a)) → h.get? b = some u → h'.get? b = some u)
    (ho : ∀ b, H b = some (.own a) → H' b = some (.own a)) (ht : ∀ b xs, H b = some (.tup xs) → H' b = some (.tup xs)) : ObjOk P w H' h' a o := by
  induction o with
  | lst xs => obtain ⟨z, its, n, r, e⟩ := x; exact ⟨z, its, n, r, k _ _ (.inl rfl) e⟩
  | tup xs => obtain ⟨z, its, r, ob, e, c⟩ := x; exact ⟨z, its, r, ob, k _ _ (.inl rfl) e, c⟩
  | dK kvs => obtain ⟨z, y, vs, r, ob, es, ep, e, c⟩ := x; exact ⟨z, y, vs, r, ob, es, ep, k _ _ (.inl rfl) e, c⟩
  | dT kvs =>
    obtain ⟨z, y, xs, r, ob, es, ep, e, c⟩ := x
    exact ⟨z, y, xs, Paired.mapP r fun p q z => ⟨z.1, ht _ _ z.2.1, z.2.2⟩, ob, es, ep, k _ _ (.inl rfl) e, c⟩
  | set S n => obtain ⟨ob, es, ep, t, e, c⟩ := x; exact ⟨ob, es, ep, t, k _ _ (.inl rfl) e, c⟩
  | ins C dx fs =>
    obtain ⟨d, z, ne, e, mA, ⟨od, es, ep, e2, c⟩, r⟩ := x
    exact ⟨ho _ d, z, ne, k _ _ (.inl rfl) e, mA, ⟨od, es, ep, k _ _ (.inr d) e2, c⟩, r⟩
  | own y => obtain ⟨ob, e⟩ := x; exact ⟨ob, k _ _ (.inl rfl) e⟩
  | xd fs => obtain ⟨mA, ⟨od, es, ep, e, c⟩, r⟩ := x; exact ⟨mA, ⟨od, es, ep, k _ _ (.inl rfl) e, c⟩, r⟩
  | rng lo hi => obtain ⟨t, u, v, e⟩ := x; exact ⟨t, u, v, k _ _ (.inl rfl) e⟩
  | frz ob u ih => obtain ⟨e, q⟩ := x; exact ⟨k _ _ (.inl rfl) e, ih q⟩
  | tbl ps =>
    have e : h.get? a = some { cls := .none, data := .fields ps } := x
    show h'.get? a = some { cls := .none, data := .fields ps }
    exact k a _ (.inl rfl) e
  | met f y =>
    have e : h.get? a = some (PySem.W.methodObj (.ref f) (.ref y)) := x
    show h'.get? a = some (PySem.W.methodObj (.ref f) (.ref y))
    exact k a _ (.inl rfl) e
  | ext φ => obtain ⟨p, ⟨o, e⟩, st⟩ := x; exact ⟨st _ _ p fun o q => k _ _ (.inl rfl) q, ⟨o, k _ _ (.inl rfl) e⟩, st⟩
theorem HOk.lt (x : HOk P w H h) (e : H a = some o) : a < h.objs.size := (x a o e).lt
theorem HOk.fresh (x : HOk P w H h) (e : h.objs.size ≤ a) : H a = none := by
  cases q : H a with
  | none => rfl
  | some u => exact absurd (Nat.lt_of_lt_of_le (x.lt q) e) (Nat.lt_irrefl _)
theorem HOk.kept (x : HOk P w H h) (k : ∀ b u, h.get? b = some u → h'.get? b = some u) : HOk P w H h' := fun a o e =>
  (x a o e).stay (fun b u _ q => k b u q) (fun _ q => q) fun _ _ q => q
theorem HOk.laid (x : HOk P w H h) (k : ∀ b u, h.get? b = some u → h'.get? b = some u) (hp : h.objs.size ≤ a) (new : ObjOk P w (upd H a o) h' a o) : HOk P w (upd H a o) h' := fun b u e => by
  have hn := x.fresh hp
  by_cases hb : b = a
  · subst hb; rw [upd_same] at e; cases e; exact new
  · rw [upd_ne hb] at e
    exact (x b u e).stay (fun c v _ q => k c v q) (fun c q => by rw [upd_ne (ne_of_none q hn)]; exact q) fun c xs q => by rw [upd_ne (ne_of_none q hn)]; exact q
end

def Rd (H : Hp) (a : Addr) (u : HO) : Prop := H a = some u ∨ ∃ o, H a = some (.frz o u)
theorem Rd.of {H : Hp} {a : Addr} {u : HO} (h : H a = some u) : Rd H a u := .inl h
theorem Rd.ok {P : Program} {w : World} {H : Hp} {h : Heap} {a : Addr} {u : HO} (r : Rd H a u) (x : HOk P w H h) : ObjOk P w H h a u := by
  rcases r with r | ⟨o, r⟩
  · exact x a u r
  · obtain ⟨_, q⟩ := x a _ r
    exact q
def Mut : Option HO → Prop
  | some (.lst _) => True
  | some (.dK _) => True
  | some (.dT _) => True
  | some (.set _ _) => True
  | some (.ins _ _ _) => True
  | some (.ext _) => True
  | _ => False
section
variable {P : Program} {w : World} {H : Hp} {h h' : Heap} {x e : Addr} {o' : HO}
theorem HOk.write (ok : HOk P w H h) (mu : Mut (H x)) (he : e = x ∨ H e = some (.own x)) (k : ∀ b u, b ≠ e → h.get? b = some u → h'.get? b = some u) (heo : ∃ u, h'.get? e = some u)
    (new : ObjOk P w (upd H x o') h' x o') : HOk P w (upd H x o') h' := fun b u q => by
  have nown : ∀ c y, H c = some (.own y) → c ≠ x := fun c y r z => by subst z; rw [r] at mu; exact mu
  have ntup : ∀ c xs, H c = some (.tup xs) → c ≠ x := fun c xs r z => by subst z; rw [r] at mu; exact mu
  by_cases hb : b = x
  · subst hb; rw [upd_same] at q; cases q; exact new
  · rw [upd_ne hb] at q
    by_cases hbe : b = e
    · have q' : H b = some (.own x) := by
        rcases he with z | z
        · exact absurd (hbe.trans z) hb
        · rw [hbe]; exact z
      rw [q] at q'; cases q'
      obtain ⟨v, hv⟩ := heo
      exact ⟨v, by rw [hbe]; exact hv⟩
    · refine (ok b u q).stay (fun c v hc r => k c v ?_ r) (fun c r => by rw [upd_ne (nown c b r)]; exact r) fun c xs r => by rw [upd_ne (ntup c xs r)]; exact r
      rcases hc with rfl | hc
      · exact hbe
      · rintro rfl
        rcases he with z | z
        · exact nown c b hc z
        · rw [hc] at z; cases z; exact hb rfl
end

structure Un (fs ex : List Addr) (H H' : Hp) (h h' : Heap) : Prop where
  keep : ∀ b o, h.get? b = some o → H b = none → b ∉ fs → b ∉ ex → h'.get? b = some o
  slot : ∀ b o, h.get? b = some o → H b = none → b ∈ fs → b ∉ ex → ∃ sl, h'.get? b = some { o with slots := sl }
  free : ∀ b o, h.get? b = some o → H b = none → b ∉ ex → H' b = none
  there : ∀ b o, h.get? b = some o → b ∉ ex → ∃ o', h'.get? b = some o'
  tups : ∀ b xs, H b = some (.tup xs) → H' b = some (.tup xs)
  frzs : ∀ b o u, H b = some (.frz o u) → H' b = some (.frz o u)
  tbls : ∀ b ps, H b = some (.tbl ps) → ∃ more, H' b = some (.tbl (ps ++ more))
section
variable {fs fs' ex ex' : List Addr} {H H1 H2 : Hp} {h h1 h2 h' : Heap} {a x e : Addr} {o : HO}
theorem Un.any (u : Un fs ex H H1 h h1) {b : Addr} {ob : Obj} (q : h.get? b = some ob) (n : H b = none) (hx : b ∉ ex) : ∃ sl, h1.get? b = some { ob with slots := sl } := by
  by_cases hb : b ∈ fs
  · exact u.slot b ob q n hb hx
  · exact ⟨ob.slots, u.keep b ob q n hb hx⟩
theorem Un.trans (a : Un fs ex H H1 h h1) (b : Un fs ex H1 H2 h1 h2) : Un fs ex H H2 h h2 where
  keep := fun c ob q n hc hx => b.keep c ob (a.keep c ob q n hc hx) (a.free c ob q n hx) hc hx
  slot := fun c ob q n hc hx => by
    obtain ⟨sl, e1⟩ := a.slot c ob q n hc hx
    obtain ⟨sl', e2⟩ := b.slot c _ e1 (a.free c ob q n hx) hc hx
    exact ⟨sl', e2⟩
  free := fun c ob q n hx => by
    obtain ⟨o', e1⟩ := a.there c ob q hx
    exact b.free c o' e1 (a.free c ob q n hx) hx
  there := fun c ob q hx => by
    obtain ⟨o', e1⟩ := a.there c ob q hx
    exact b.there c o' e1 hx
  tups := fun c xs q => b.tups c xs (a.tups c xs q)
  frzs := fun c ob xs q => b.frzs c ob xs (a.frzs c ob xs q)
  tbls := fun c ps q => by
    obtain ⟨m1, e1⟩ := a.tbls c ps q
    obtain ⟨m2, e2⟩ := b.tbls c _ e1
    exact ⟨m1 ++ m2, by rw [e2, Array.append_assoc]⟩
theorem Un.kept (k : ∀ b u, h.get? b = some u → h'.get? b = some u) : Un fs ex H H h h' :=
  ⟨fun b ob q _ _ _ => k b ob q, fun b ob q _ _ _ => ⟨ob.slots, k b ob q⟩, fun _ _ _ n _ => n, fun b ob q _ => ⟨ob, k b ob q⟩, fun _ _ q => q, fun _ _ _ q => q, fun _ ps q => ⟨#[], by rw [q]; simp⟩⟩
theorem Un.refl : Un fs ex H H h h := Un.kept fun _ _ q => q
theorem Un.laid (k : ∀ b u, h.get? b = some u → h'.get? b = some u) (hp : h.objs.size ≤ a) (hn : H a = none) : Un fs ex H (upd H a o) h h' where
  keep := fun b u q _ _ _ => k b u q
  slot := fun b u q _ _ _ => ⟨u.slots, k b u q⟩
  free := fun b u q n _ => by rw [upd_ne (Nat.ne_of_lt (Nat.lt_of_lt_of_le (Heap.lt_size q) hp))]; exact n
  there := fun b u q _ => ⟨u, k b u q⟩
  tups := fun b xs q => by rw [upd_ne (ne_of_none q hn)]; exact q
  frzs := fun b u xs q => by rw [upd_ne (ne_of_none q hn)]; exact q
  tbls := fun b ps q => ⟨#[], by rw [upd_ne (ne_of_none q hn), q]; simp⟩
theorem Un.write (mu : Mut (H x)) (he : e = x ∨ H e = some (.own x)) (k : ∀ b u, b ≠ e → h.get? b = some u → h'.get? b = some u) (heo : ∃ u, h'.get? e = some u) : Un fs ex H (upd H x o) h h' := by
  have hx : ∀ b, H b = none → b ≠ x := fun b n z => by subst z; rw [n] at mu; exact mu
  have hb : ∀ b, H b = none → b ≠ e := fun b n z => by
    subst z
    rcases he with r | r
    · exact hx b n r
    · rw [n] at r; cases r
  have hm : ∀ b u, H b = some u → ¬ Mut (some u) → b ≠ x := fun b u q nm z => by subst z; rw [q] at mu; exact nm mu
  refine ⟨fun b u q n _ _ => k b u (hb b n) q, fun b u q n _ _ => ⟨u.slots, k b u (hb b n) q⟩, fun b u q n _ => by rw [upd_ne (hx b n)]; exact n, fun b u q _ => ?_,
    fun b xs q => by rw [upd_ne (hm b _ q fun z => z)]; exact q, fun b u xs q => by rw [upd_ne (hm b _ q fun z => z)]; exact q, fun b ps q => ⟨#[], by rw [upd_ne (hm b _ q fun z => z), q]; simp⟩⟩
  by_cases hbe : b = e
  · subst hbe; exact heo
  · exact ⟨u, k b u hbe q⟩
theorem Un.mono (u : Un fs ex H H1 h h1) (hs : ∀ b ∈ fs, b ∈ fs') (hx : ∀ b ∈ ex, b ∈ ex') : Un fs' ex' H H1 h h1 :=
  ⟨fun b ob q n hb he => u.keep b ob q n (fun z => hb (hs b z)) fun z => he (hx b z), fun _ _ q n _ he => u.any q n fun z => he (hx _ z), fun b ob q n he => u.free b ob q n fun z => he (hx b z), fun b ob q he => u.there b ob q fun z => he (hx b z), u.tups, u.frzs, u.tbls⟩
end

def trk (h : Heap) (H : Hp) : List Addr := (List.range h.objs.size).filter fun a => (H a).isSome
def hidT (h : Heap) (H : Hp) : Heap := PySem.W.hideAll h (trk h H)
theorem hidT_size (h : Heap) (H : Hp) : (hidT h H).objs.size = h.objs.size := PySem.W.hideAll_size _ _
theorem hidT_get {h : Heap} {H : Hp} {b : Addr} {o : Obj} (e : h.get? b = some o) (n : H b = none) : (hidT h H).get? b = some o :=
  PySem.W.hideAll_get _ e fun hm => by
    have q : (H b).isSome = true := (List.mem_filter.mp hm).2
    rw [n] at q; simp at q
theorem of_hidT {h : Heap} {H : Hp} {b : Addr} {o : Obj} (e : (hidT h H).get? b = some o) : h.get? b = some o ∧ H b = none := by
  have e' : h.get? b = some o := PySem.W.of_hideAll (trk h H) e
  refine ⟨e', ?_⟩
  cases q : H b with
  | none => rfl
  | some x =>
    have hm : b ∈ trk h H := List.mem_filter.mpr ⟨List.mem_range.mpr (Heap.lt_size e'), by simp [q]⟩
    have z : (hidT h H).get? b = none := PySem.W.hideAll_none (trk h H) hm
    rw [z] at e; cases e

def allNews (g h : Heap) (L : Addr) : List (Addr × Obj) := (List.range h.objs.size).filterMap fun a => if a = L ∨ (g.get? a).isSome = true then none else (h.get? a).map fun o => (a, o)
def rest (g h : Heap) (L d : Addr) : List (Addr × Obj) := (allNews g h L).filter fun p => decide (p.1 ≠ d)
end L2

namespace L2
open PySem PySem.Spec PyProof.Rows

structure Mod (K : PySem.W.Frag) (mg : Str → Option Value) (base : Heap) : Prop where
  kin : K.In base
  glob : base.Ns mainGlobals mg
  blt : ∃ mb, base.Ns builtinsNs mb ∧ ∀ x : Str, x ≠ "__name__" → mb x = bootBuiltins x
  nolimit : base.NoLimit

structure Cx where
  prog : Program
  w : World
  K : PySem.W.Frag
  mg : Str → Option Value
  base : Heap
  A : Around
  N : List Str
  s_0 : Shared
  H_0 : Hp
  env : Env
  outer : List Env
  stack : List Env
  ex : List Addr
  fn : Str → Bool
  calm : Bool
  pn : List (Addr × Obj)
  xe : Value → Shared → Prop
def frs (l : List Env) : List Addr := l.filterMap (·.frame)
abbrev Cx.fs (X : Cx) : List Addr := frs X.outer

def Vis (sc : Scope) (x : Str) : Prop := sc.names.lookup x = some .local ∨ sc.names.lookup x = some .cell ∨ sc.names.lookup x = some .free
def Loc (sc : Scope) (x : Str) : Prop := sc.names.lookup x = some .local ∨ sc.names.lookup x = some .cell
def Look (env : Env) (h : Heap) (m : Str → Option Value) (x : Str) (u : Value) : Prop :=
  (env.kindOf x = some .local ∧ m x = some u) ∨ ((env.kindOf x = some .cell ∨ env.kindOf x = some .free) ∧ ∃ c, env.cells.lookup x = some c ∧ h.IsCell c (some u))

structure Cx.Ok (X : Cx) : Prop where
  mod : Mod X.K X.mg X.base
  kind : X.env.scope.kind = .function
  glob : X.env.globals = mainGlobals
  blt : X.env.builtins = builtinsNs
  above : X.s_0.heap.objs.size ≤ X.env.locals
  inj : ∀ x y c, X.env.cells.lookup x = some c → X.env.cells.lookup y = some c → x = y
  has : ∀ x, (X.env.kindOf x = some .cell ∨ X.env.kindOf x = some .free) → ∃ c, X.env.cells.lookup x = some c
  cab : ∀ x c, X.fn x = true → X.env.cells.lookup x = some c → X.s_0.heap.objs.size ≤ c
  hd : X.calm = true → X.A.handled = none
  frames : X.A.frames = some X.stack
  stk : X.stack = X.outer ∨ (X.stack = X.env :: X.outer ∧ X.env.frame = some X.env.locals)
  exf : ∀ b ∈ X.ex, b ≠ X.env.locals ∧ ∀ x c, X.env.cells.lookup x = some c → c ≠ b
  bs : ∀ b o, X.base.get? b = some o → X.s_0.heap.get? b = some o ∧ X.H_0 b = none
  bsz : X.base.objs.size ≤ X.s_0.heap.objs.size
  noex : ∀ b o, X.base.get? b = some o → b ∉ X.ex
  exfs : ∀ b ∈ X.ex, b ∉ X.fs
  funs : X.s_0.heap.FunFrames X.base X.outer
  frf : ∀ b ∈ X.fs, X.H_0 b = none

structure Inv (X : Cx) (pins : List (Addr × Obj)) (σ : List (Option V)) (H : Hp) (s : Shared) : Prop where
  ok : X.Ok
  os : s.os = X.s_0.os
  bare : AllBare s.gens
  base : Un X.fs X.ex X.H_0 H X.s_0.heap s.heap
  loc : ∃ m, s.heap.Ns X.env.locals m ∧ ∀ (i : Nat) (x : Str) (v : V), X.N[i]? = some x → σ[i]? = some (some v) → Vis X.env.scope x → ∃ u, RelV v u ∧ Look X.env s.heap m x u
  cell : ∀ x c, X.env.cells.lookup x = some c → ∃ v, s.heap.IsCell c v
  free : H X.env.locals = none
  freeC : ∀ x c, X.env.cells.lookup x = some c → H c = none
  pin : ∀ p ∈ X.pn ++ pins, s.heap.get? p.1 = some p.2 ∧ H p.1 = none ∧ p.1 ≠ X.env.locals ∧ p.1 ∉ X.fs ∧ ∀ v, p.2.data ≠ .cell v
  hok : HOk X.prog X.w H s.heap
  len : σ.length = X.N.length

section
variable {X : Cx} {pins : List (Addr × Obj)} {σ : List (Option V)} {H H' : Hp} {s : Shared} {h' : Heap}

theorem Cx.Ok.nofr (ok : X.Ok) {b : Addr} {o : Obj} (e : X.base.get? b = some o) : b ∉ X.fs := fun hb => by
  have := (ok.funs.mem hb).1
  rw [e] at this; cases this
theorem Inv.bs (I : Inv X pins σ H s) : ∀ b o, X.base.get? b = some o → s.heap.get? b = some o ∧ H b = none := fun b o e =>
  ⟨I.base.keep b o (I.ok.bs b o e).1 (I.ok.bs b o e).2 (I.ok.nofr e) (I.ok.noex b o e), I.base.free b o (I.ok.bs b o e).1 (I.ok.bs b o e).2 (I.ok.noex b o e)⟩
theorem Inv.bk (I : Inv X pins σ H s) : ∀ b o, X.base.get? b = some o → s.heap.get? b = some o := fun b o e => (I.bs b o e).1
theorem Inv.mod (I : Inv X pins σ H s) : Mod X.K X.mg X.base := I.ok.mod
theorem Inv.kIn (I : Inv X pins σ H s) : X.K.In s.heap := I.ok.mod.kin.keeps I.bk
theorem Inv.nolimit (I : Inv X pins σ H s) : s.heap.NoLimit := I.ok.mod.nolimit.keeps I.bk
theorem Inv.fr (I : Inv X pins σ H s) : ∃ m, Fr X.base X.env.locals s.heap m :=
  let ⟨m, hn, _⟩ := I.loc
  ⟨m, hn, I.bk, Nat.le_trans I.ok.bsz I.ok.above⟩
theorem Inv.lt (I : Inv X pins σ H s) : X.env.locals < s.heap.objs.size := let ⟨_, hn, _⟩ := I.loc; hn.lt
theorem Inv.sz (I : Inv X pins σ H s) : X.s_0.heap.objs.size ≤ s.heap.objs.size := Nat.le_trans I.ok.above (Nat.le_of_lt I.lt)
theorem Inv.nofs (I : Inv X pins σ H s) {a : Addr} (h : s.heap.objs.size ≤ a) : a ∉ X.fs := fun hb => by
  obtain ⟨_, o, ho, _⟩ := I.ok.funs.mem hb
  exact absurd (Nat.lt_of_lt_of_le (Heap.lt_size ho) (Nat.le_trans I.sz h)) (Nat.lt_irrefl _)
theorem Inv.cne (I : Inv X pins σ H s) : ∀ x c, X.env.cells.lookup x = some c → c ≠ X.env.locals := fun x c e z => by
  obtain ⟨v, o, ho, hd⟩ := I.cell x c e
  obtain ⟨m, ⟨o', es, ep, ho', hd', _⟩, _⟩ := I.loc
  rw [z, ho'] at ho; cases ho; rw [hd'] at hd; cases hd
theorem Inv.funs (I : Inv X pins σ H s) : s.heap.FunFrames X.base X.outer := by
  have all : ∀ (l : List Env), (∀ b ∈ frs l, b ∈ X.fs) → X.s_0.heap.FunFrames X.base l → s.heap.FunFrames X.base l := by
    intro l
    induction l with
    | nil => intro _ _; trivial
    | cons env r ih =>
      intro hs hl
      obtain ⟨hk, ⟨L, o, hf, hn, ho, hd⟩, hr⟩ := hl
      have hL : L ∈ X.fs := hs L (by unfold frs; rw [List.filterMap_cons, hf]; exact List.mem_cons_self)
      obtain ⟨sl, e⟩ := I.base.slot L o ho (I.ok.frf L hL) hL fun z => I.ok.exfs L z hL
      exact ⟨hk, ⟨L, _, hf, hn, e, hd⟩, ih (fun b hb => hs b (by unfold frs; rw [List.filterMap_cons, hf]; exact List.mem_cons_of_mem _ hb)) hr⟩
  exact all X.outer (fun _ hb => hb) I.ok.funs

theorem Inv.stack (I : Inv X pins σ H s) : s.heap.FunFrames X.base X.stack := by
  rcases I.ok.stk with e | ⟨e, hf⟩
  · rw [e]; exact I.funs
  · rw [e]
    obtain ⟨m, hn, _⟩ := I.loc
    refine .cons (by rw [I.ok.kind]; decide) hf hn ?_ I.funs
    exact Heap.get?_none_of_le (Nat.le_trans I.ok.bsz I.ok.above)
theorem Inv.stkSub (I : Inv X pins σ H s) : ∀ b ∈ frs X.stack, b ∈ X.env.locals :: X.fs := fun b hb => by
  rcases I.ok.stk with e | ⟨e, hf⟩
  · rw [e] at hb; exact List.mem_cons_of_mem _ hb
  · rw [e] at hb
    unfold frs at hb
    rw [List.filterMap_cons, hf] at hb
    exact hb
theorem Inv.stkFree (I : Inv X pins σ H s) : ∀ b ∈ frs X.stack, H b = none := fun b hb => by
  rcases List.mem_cons.mp (I.stkSub b hb) with e | hb
  · rw [e]; exact I.free
  · obtain ⟨_, o, ho, _⟩ := I.ok.funs.mem hb
    exact I.base.free b o ho (I.ok.frf b hb) fun z => I.ok.exfs b z hb

theorem Inv.step {g' : Array GenState} {t' : Nat} {d' : Drawn} {ch : List Addr} (I : Inv X pins σ H s)
    (hch : ∀ b ∈ ch, (b ∈ X.ex ∨ X.s_0.heap.objs.size ≤ b) ∧ b ≠ X.env.locals ∧ (∀ x c, X.env.cells.lookup x = some c → c ≠ b) ∧ ∀ p ∈ X.pn ++ pins, p.1 ≠ b)
    (keep : ∀ b o, b ≠ X.env.locals → b ∉ X.fs → b ∉ ch → s.heap.get? b = some o → H b = none → h'.get? b = some o)
    (slot : ∀ b o, b ≠ X.env.locals → b ∈ X.fs → b ∉ ch → s.heap.get? b = some o → H b = none → ∃ sl, h'.get? b = some { o with slots := sl }) (free : ∀ b o, b ∉ ch → s.heap.get? b = some o → H b = none → H' b = none)
    (there : ∀ b o, b ∉ ch → s.heap.get? b = some o → ∃ o', h'.get? b = some o')
    (tups : ∀ b xs, H b = some (.tup xs) → H' b = some (.tup xs)) (frzs : ∀ b o u, H b = some (.frz o u) → H' b = some (.frz o u)) (tbls : ∀ b ps, H b = some (.tbl ps) → ∃ more, H' b = some (.tbl (ps ++ more)))
    (ns : ∀ m, s.heap.Ns X.env.locals m → h'.Ns X.env.locals m) (hok : HOk X.prog X.w H' h') (hg : AllBare g') :
    Inv X pins σ H' { s with heap := h', gens := g', drawn := d', toks := t' } := by
  have neL : ∀ b o, X.s_0.heap.get? b = some o → b ≠ X.env.locals := fun b o e => Nat.ne_of_lt (Nat.lt_of_lt_of_le (Heap.lt_size e) I.ok.above)
  have neC : ∀ b o, X.s_0.heap.get? b = some o → b ∉ X.ex → b ∉ ch := fun b o e hx hb => by
    rcases (hch b hb).1 with z | z
    · exact hx z
    · exact absurd (Nat.lt_of_lt_of_le (Heap.lt_size e) z) (Nat.lt_irrefl _)
  have cellK : ∀ x c, X.env.cells.lookup x = some c → ∀ v, s.heap.IsCell c v → h'.IsCell c v := fun x c e v ⟨o, ho, hd⟩ => by
    have nch : c ∉ ch := fun z => (hch c z).2.2.1 x c e rfl
    by_cases hc : c ∈ X.fs
    · obtain ⟨sl, q⟩ := slot c o (I.cne x c e) hc nch ho (I.freeC x c e)
      exact ⟨_, q, hd⟩
    · exact ⟨o, keep c o (I.cne x c e) hc nch ho (I.freeC x c e), hd⟩
  refine ⟨I.ok, I.os, hg, ⟨fun b o e n hb hx => ?_, fun b o e n hb hx => ?_, fun b o e n hx => ?_, fun b o e hx => ?_, fun b xs e => tups b xs (I.base.tups b xs e), fun b o xs e => frzs b o xs (I.base.frzs b o xs e), fun b ps e => ?_⟩, ?_, fun x c e => ?_, ?_, fun x c e => ?_, fun p hp => ?_, hok, I.len⟩
  · exact keep b o (neL b o e) hb (neC b o e hx) (I.base.keep b o e n hb hx) (I.base.free b o e n hx)
  · obtain ⟨sl, e1⟩ := I.base.slot b o e n hb hx
    obtain ⟨sl', e2⟩ := slot b _ (neL b o e) hb (neC b o e hx) e1 (I.base.free b o e n hx)
    exact ⟨sl', e2⟩
  · obtain ⟨o', e1⟩ := I.base.there b o e hx
    exact free b o' (neC b o e hx) e1 (I.base.free b o e n hx)
  · obtain ⟨o', e1⟩ := I.base.there b o e hx
    exact there b o' (neC b o e hx) e1
  · obtain ⟨m1, e1⟩ := I.base.tbls b ps e
    obtain ⟨m2, e2⟩ := tbls b _ e1
    exact ⟨m1 ++ m2, by rw [e2, Array.append_assoc]⟩
  · obtain ⟨m, hn, hl⟩ := I.loc
    refine ⟨m, ns m hn, fun i x v e1 e2 e3 => ?_⟩
    obtain ⟨u, r, l⟩ := hl i x v e1 e2 e3
    refine ⟨u, r, ?_⟩
    rcases l with l | ⟨k, c, e, z⟩
    · exact .inl l
    · exact .inr ⟨k, c, e, cellK x c e _ z⟩
  · obtain ⟨v, z⟩ := I.cell x c e
    exact ⟨v, cellK x c e v z⟩
  · obtain ⟨m, ⟨o, _, _, ho, _⟩, _⟩ := I.loc
    exact free _ o (fun z => (hch _ z).2.1 rfl) ho I.free
  · obtain ⟨v, o, ho, hd⟩ := I.cell x c e
    exact free c o (fun z => (hch c z).2.2.1 x c e rfl) ho (I.freeC x c e)
  · obtain ⟨e, n, ne, nf, d⟩ := I.pin p hp
    have nch : p.1 ∉ ch := fun z => (hch p.1 z).2.2.2 p hp rfl
    exact ⟨keep p.1 p.2 ne nf nch e n, free p.1 p.2 nch e n, ne, nf, d⟩
theorem Inv.un {t' : Nat} (I : Inv X pins σ H s) (u : Un X.fs [] H H' s.heap h') (hok : HOk X.prog X.w H' h') : Inv X pins σ H' { s with heap := h', toks := t' } := by
  obtain ⟨m, ⟨o, es, ep, ho, r⟩, _⟩ := id I.loc
  obtain ⟨sl, hL⟩ := u.any ho I.free (by simp)
  exact I.step (g' := s.gens) (d' := s.drawn) (ch := []) (fun _ z => nomatch z) (fun b o _ hb _ e n => u.keep b o e n hb (by simp)) (fun b o _ hb _ e n => u.slot b o e n hb (by simp)) (fun b o _ e n => u.free b o e n (by simp)) (fun b o _ e => u.there b o e (by simp)) u.tups u.frzs u.tbls (fun m' hm => by
    obtain ⟨o', es', ep', ho', r'⟩ := hm
    rw [ho] at ho'; cases ho'
    exact ⟨_, es', ep', hL, r'⟩) hok I.bare
theorem Inv.call {g' : Array GenState} {t' : Nat} {d' : Drawn} {ch : List Addr} (I : Inv X pins σ H s) (u : Un (frs X.stack) ch H H' s.heap h') (hok : HOk X.prog X.w H' h') (hg : AllBare g')
    (hch : ∀ b ∈ ch, (b ∈ X.ex ∨ X.s_0.heap.objs.size ≤ b) ∧ b ≠ X.env.locals ∧ (∀ x c, X.env.cells.lookup x = some c → c ≠ b) ∧ ∀ p ∈ X.pn ++ pins, p.1 ≠ b) :
    Inv X pins σ H' { s with heap := h', gens := g', drawn := d', toks := t' } := by
  obtain ⟨m, ⟨o, es, ep, ho, r⟩, _⟩ := id I.loc
  obtain ⟨sl, hL⟩ := u.any ho I.free fun z => (hch _ z).2.1 rfl
  exact I.step (ch := ch) hch (fun b o hL hb hc e n => u.keep b o e n (fun z => (List.mem_cons.mp (I.stkSub b z)).elim hL hb) hc) (fun b o _ _ hc e n => u.any e n hc) (fun b o hc e n => u.free b o e n hc) (fun b o hc e => u.there b o e hc) u.tups u.frzs u.tbls (fun m' hm => by
    obtain ⟨o', es', ep', ho', r'⟩ := hm
    rw [ho] at ho'; cases ho'
    exact ⟨_, es', ep', hL, r'⟩) hok hg
theorem Inv.turned {t' : Nat} {it : Addr} (I : Inv X pins σ H s) (k : ∀ b o, b ≠ it → s.heap.get? b = some o → h'.get? b = some o) (hn : H it = none) (hL : it ≠ X.env.locals)
    (h1 : it ∈ X.ex ∨ X.s_0.heap.objs.size ≤ it) (h2 : ∀ x c, X.env.cells.lookup x = some c → c ≠ it) (h3 : ∀ p ∈ X.pn ++ pins, p.1 ≠ it) : Inv X pins σ H { s with heap := h', toks := t' } := by
  have nit : ∀ b u, H b = some u → b ≠ it := fun b u e z => by rw [z, hn] at e; cases e
  refine I.step (g' := s.gens) (d' := s.drawn) (ch := [it]) (fun b hb => ?_) (fun b o _ _ hc e _ => k b o (fun z => hc (by simp [z])) e) (fun b o _ _ hc e _ => ⟨o.slots, k b o (fun z => hc (by simp [z])) e⟩) (fun _ _ _ _ n => n)
    (fun b o hc e => ⟨o, k b o (fun z => hc (by simp [z])) e⟩) (fun _ _ e => e) (fun _ _ _ e => e) (fun b ps e => ⟨#[], by rw [e]; simp⟩) (fun m hm => ?_) (fun b u e => ?_) I.bare
  · have e : b = it := by simpa using hb
    subst e
    exact ⟨h1, hL, h2, h3⟩
  · obtain ⟨o, es, ep, ho, r⟩ := hm
    exact ⟨o, es, ep, k _ o (Ne.symm hL) ho, r⟩
  · refine (I.hok b u e).stay (fun c v hc q => k c v ?_ q) (fun _ q => q) fun _ _ q => q
    rcases hc with z | z
    · rw [z]; exact nit b u e
    · exact nit c _ z
theorem Inv.tok (I : Inv X pins σ H s) (t : Nat) : Inv X pins σ H { s with toks := t } := I.un (h' := s.heap) (t' := t) Un.refl I.hok
theorem Inv.kept {t' : Nat} (I : Inv X pins σ H s) (k : ∀ b u, s.heap.get? b = some u → h'.get? b = some u) : Inv X pins σ H { s with heap := h', toks := t' } := I.un (Un.kept k) (I.hok.kept k)
theorem Inv.laid {a : Addr} {o : HO} {t' : Nat} (I : Inv X pins σ H s) (k : ∀ b u, s.heap.get? b = some u → h'.get? b = some u) (hp : s.heap.objs.size ≤ a) (new : ObjOk X.prog X.w (upd H a o) h' a o) :
    Inv X pins σ (upd H a o) { s with heap := h', toks := t' } := I.un (Un.laid k hp (I.hok.fresh hp)) (I.hok.laid k hp new)
theorem Inv.write {x e : Addr} {o : HO} {t' : Nat} (I : Inv X pins σ H s) (mu : Mut (H x)) (he : e = x ∨ H e = some (.own x)) (k : ∀ b u, b ≠ e → s.heap.get? b = some u → h'.get? b = some u) (heo : ∃ u, h'.get? e = some u)
    (new : ObjOk X.prog X.w (upd H x o) h' x o) : Inv X pins σ (upd H x o) { s with heap := h', toks := t' } := I.un (Un.write mu he k heo) (I.hok.write mu he k heo new)
theorem Inv.weak {σ' : List (Option V)} (I : Inv X pins σ H s) (hl : σ'.length = σ.length) (w : ∀ (i : Nat) v, σ'[i]? = some (some v) → σ[i]? = some (some v)) : Inv X pins σ' H s :=
  ⟨I.ok, I.os, I.bare, I.base, let ⟨m, hn, hl'⟩ := I.loc; ⟨m, hn, fun i x v e1 e2 e3 => hl' i x v e1 (w i v e2) e3⟩, I.cell, I.free, I.freeC, I.pin, I.hok, hl.trans I.len⟩
theorem Inv.pins_of {pins' : List (Addr × Obj)} (I : Inv X pins σ H s) (h : ∀ p ∈ pins', s.heap.get? p.1 = some p.2 ∧ H p.1 = none ∧ p.1 ≠ X.env.locals ∧ p.1 ∉ X.fs ∧ ∀ v, p.2.data ≠ .cell v) : Inv X pins' σ H s :=
  ⟨I.ok, I.os, I.bare, I.base, I.loc, I.cell, I.free, I.freeC, fun p hp => (List.mem_append.mp hp).elim (fun z => I.pin p (List.mem_append_left _ z)) (h p), I.hok, I.len⟩

theorem nodup_ix {N : List Str} (hN : N.Nodup) {i j : Nat} {x : Str} (a : N[i]? = some x) (b : N[j]? = some x) : i = j := by
  obtain ⟨h1, e1⟩ := List.getElem?_eq_some_iff.mp a
  obtain ⟨h2, e2⟩ := List.getElem?_eq_some_iff.mp b
  exact (List.getElem_inj hN).mp (e1.trans e2.symm)

theorem store_ok2 {M : Model} {A : Around} {E : Value → Shared → Prop} {i : Nat} {x : Str} {v : V} {u : Value} {Q : Unit → Shared → Prop} (I : Inv X pins σ H s) (hN : X.N.Nodup) (hi : X.N[i]? = some x) (hx : Loc X.env.scope x) (r : RelV v u)
    (h : ∀ s', Inv X pins (σ.set i (some v)) H s' → (∃ a, Heap.SameBut a s.heap s'.heap ∧ (a = X.env.locals ∨ X.env.cells.lookup x = some a)) → Q () s') (hf : X.fn x = true ∨ X.env.scope.names.lookup x = some .local := by first | exact .inl rfl | exact .inr rfl | assumption) : wpAny M A (storeName X.env x u) Q E s := by
  obtain ⟨m, hn, hl⟩ := id I.loc
  have hcls : (X.env.scope.kind == .class || (X.env.scope.kind == .module && X.env.locals != X.env.globals)) = false := by rw [I.ok.kind]; rfl
  have hiσ : i < σ.length := by rw [I.len]; exact (List.getElem?_eq_some_iff.mp hi).1
  have cne := I.cne
  have tracked : ∀ {a : Addr} {h' : Heap}, (∃ o, s.heap.get? a = some o ∧ H a = none) → Heap.SameBut a s.heap h' → HOk X.prog X.w H h' := fun {a h'} ha hs b ob e => by
    obtain ⟨_, _, hfree⟩ := ha
    refine (I.hok b ob e).stay (fun c w' hc q => (hs.2 c ?_).trans q) (fun _ q => q) fun _ _ q => q
    rintro rfl
    rcases hc with rfl | hc
    · rw [hfree] at e; cases e
    · rw [hfree] at hc; cases hc
  rcases hx with hk | hk
  · refine wpAny_storeName_local hk hn (fun h' hn' hs => ?_) hcls
    obtain ⟨oL, _, _, hoL, _⟩ := id hn
    refine h _ ⟨I.ok, I.os, I.bare, ⟨fun b o e n hb hx => ?_, fun b o e n hb hx => ?_, I.base.free, fun b o e hx => ?_, I.base.tups, I.base.frzs, I.base.tbls⟩, ⟨_, hn', fun j y v' e1 e2 e3 => ?_⟩, fun y c e => ?_, I.free, I.freeC, fun p hp => ?_, tracked ⟨oL, hoL, I.free⟩ hs, by simpa using I.len⟩ ⟨_, hs, .inl rfl⟩
    · exact (hs.2 b (Nat.ne_of_lt (Nat.lt_of_lt_of_le (Heap.lt_size e) I.ok.above))).trans (I.base.keep b o e n hb hx)
    · obtain ⟨sl, e1⟩ := I.base.slot b o e n hb hx
      exact ⟨sl, (hs.2 b (Nat.ne_of_lt (Nat.lt_of_lt_of_le (Heap.lt_size e) I.ok.above))).trans e1⟩
    · obtain ⟨o', e1⟩ := I.base.there b o e hx
      exact ⟨o', (hs.2 b (Nat.ne_of_lt (Nat.lt_of_lt_of_le (Heap.lt_size e) I.ok.above))).trans e1⟩
    · by_cases hj : j = i
      · subst hj
        rw [hi] at e1; cases e1
        rw [List.getElem?_set_self hiσ] at e2
        cases e2
        exact ⟨u, r, .inl ⟨hk, by simp⟩⟩
      · rw [List.getElem?_set_ne (Ne.symm hj)] at e2
        obtain ⟨u', r', q⟩ := hl j y v' e1 e2 e3
        refine ⟨u', r', ?_⟩
        rcases q with ⟨k, e⟩ | ⟨k, c, e, z⟩
        · refine .inl ⟨k, ?_⟩
          have : y ≠ x := fun e => hj (nodup_ix hN e1 (e ▸ hi))
          simp [this, e]
        · exact .inr ⟨k, c, e, z.sameBut hs (cne y c e)⟩
    · obtain ⟨w', z⟩ := I.cell y c e
      exact ⟨w', z.sameBut hs (cne y c e)⟩
    · obtain ⟨e, n, ne, nf, d⟩ := I.pin p hp
      exact ⟨(hs.2 p.1 ne).trans e, n, ne, nf, d⟩
  · have hfn : X.fn x = true := by
      rcases hf with z | z
      · exact z
      · rw [z] at hk; cases hk
    obtain ⟨c, hc⟩ := I.ok.has x (.inl hk)
    obtain ⟨w', z⟩ := I.cell x c hc
    refine wpAny_storeName_cell I.ok.kind hk hc z (fun h' hc' hs => ?_)
    obtain ⟨oc, hoc, hocd⟩ := id z
    refine h { s with heap := h' } ⟨I.ok, I.os, I.bare, ⟨fun b o e n hb hx => ?_, fun b o e n hb hx => ?_, I.base.free, fun b o e hx => ?_, I.base.tups, I.base.frzs, I.base.tbls⟩, ⟨m, hn.sameBut hs (Ne.symm (cne x c hc)), fun j y v' e1 e2 e3 => ?_⟩, fun y c' e => ?_, I.free, I.freeC, fun p hp => ?_, tracked ⟨oc, hoc, I.freeC x c hc⟩ hs, by simpa using I.len⟩ ⟨c, hs, .inr hc⟩
    · exact (hs.2 b (Nat.ne_of_lt (Nat.lt_of_lt_of_le (Heap.lt_size e) (I.ok.cab x c hfn hc)))).trans (I.base.keep b o e n hb hx)
    · obtain ⟨sl, e1⟩ := I.base.slot b o e n hb hx
      exact ⟨sl, (hs.2 b (Nat.ne_of_lt (Nat.lt_of_lt_of_le (Heap.lt_size e) (I.ok.cab x c hfn hc)))).trans e1⟩
    · obtain ⟨o', e1⟩ := I.base.there b o e hx
      exact ⟨o', (hs.2 b (Nat.ne_of_lt (Nat.lt_of_lt_of_le (Heap.lt_size e) (I.ok.cab x c hfn hc)))).trans e1⟩
    · by_cases hj : j = i
      · subst hj
        rw [hi] at e1; cases e1
        rw [List.getElem?_set_self hiσ] at e2
        cases e2
        exact ⟨u, r, .inr ⟨.inl hk, c, hc, hc'⟩⟩
      · rw [List.getElem?_set_ne (Ne.symm hj)] at e2
        obtain ⟨u', r', q⟩ := hl j y v' e1 e2 e3
        refine ⟨u', r', ?_⟩
        rcases q with q | ⟨k, c', e, z'⟩
        · exact .inl q
        · refine .inr ⟨k, c', e, z'.sameBut hs ?_⟩
          rintro rfl
          exact hj (nodup_ix hN e1 (I.ok.inj _ _ _ e hc ▸ hi))
    · by_cases hcc : c' = c
      · subst hcc; exact ⟨_, hc'⟩
      · obtain ⟨w2, z2⟩ := I.cell y c' e
        exact ⟨w2, z2.sameBut hs hcc⟩
    · obtain ⟨e, n, ne, nf, d⟩ := I.pin p hp
      refine ⟨(hs.2 p.1 ?_).trans e, n, ne, nf, d⟩
      intro q
      rw [q, hoc] at e
      have q' : oc = p.2 := Option.some.inj e
      exact d w' (by rw [← q']; exact hocd)
theorem store_ok {M : Model} {A : Around} {E : Value → Shared → Prop} {i : Nat} {x : Str} {v : V} {u : Value} {Q : Unit → Shared → Prop} (I : Inv X pins σ H s) (hN : X.N.Nodup) (hi : X.N[i]? = some x) (hx : Loc X.env.scope x) (r : RelV v u)
    (h : ∀ s', Inv X pins (σ.set i (some v)) H s' → Q () s') (hf : X.fn x = true ∨ X.env.scope.names.lookup x = some .local := by first | exact .inl rfl | exact .inr rfl | assumption) : wpAny M A (storeName X.env x u) Q E s :=
  store_ok2 I hN hi hx r (fun s' I' _ => h s' I') hf
theorem Inv.call' {s' : Shared} {ch : List Addr} (I : Inv X pins σ H s) (ho : s'.os = s.os) (u : Un (frs X.stack) ch H H' s.heap s'.heap) (hok : HOk X.prog X.w H' s'.heap) (hg : AllBare s'.gens)
    (hch : ∀ b ∈ ch, (b ∈ X.ex ∨ X.s_0.heap.objs.size ≤ b) ∧ b ≠ X.env.locals ∧ (∀ x c, X.env.cells.lookup x = some c → c ≠ b) ∧ ∀ p ∈ X.pn ++ pins, p.1 ≠ b) : Inv X pins σ H' s' := by
  obtain ⟨h', g', d', t', o'⟩ := s'
  have e : o' = s.os := ho
  subst e
  exact I.call (g' := g') (t' := t') (d' := d') u hok hg hch
end

abbrev XK := Value → Option Addr → Hp → Prop
abbrev St := List (Option V)
abbrev VK := V → Hp → Prop
abbrev TE := St → Hp → VK → Prop
abbrev TT := St → Hp → (Bool → Hp → Prop) → Prop
abbrev TA := St → Hp → (List V → Hp → Prop) → Prop
structure Ends where
  nx : St → Hp → Prop
  rt : VK
  bk : St → Hp → Prop := fun _ _ => False
  ct : St → Hp → Prop := fun _ _ => False
abbrev TS := Ends → St → Hp → Prop

def EP (X : Cx) (pins : List (Addr × Obj)) (σ : St) (Q : VK) (u : Value) (s' : Shared) : Prop := ∃ v H', Inv X pins σ H' s' ∧ RelV v u ∧ Q v H'
def TP (X : Cx) (pins : List (Addr × Obj)) (σ : St) (Q : Bool → Hp → Prop) (b : Bool) (s' : Shared) : Prop := ∃ H', Inv X pins σ H' s' ∧ Q b H'
def AP (X : Cx) (pins : List (Addr × Obj)) (σ : St) (Q : List V → Hp → Prop) (us : List Value) (s' : Shared) : Prop := ∃ vs H', Inv X pins σ H' s' ∧ Vals vs us ∧ Q vs H'
def SP (X : Cx) (pins : List (Addr × Obj)) (D : Ends) (f : Flow) (s' : Shared) : Prop :=
  match f with
  | .next => ∃ σ' H', Inv X pins σ' H' s' ∧ D.nx σ' H'
  | .brk => ∃ σ' H', Inv X pins σ' H' s' ∧ D.bk σ' H'
  | .cont => ∃ σ' H', Inv X pins σ' H' s' ∧ D.ct σ' H'
  | .ret u => ∃ v σ' H', Inv X pins σ' H' s' ∧ RelV v u ∧ D.rt v H'

def PE (X : Cx) (e : Expr) (t : TE) : Prop :=
  ∀ (pins : List (Addr × Obj)) (s : Shared) (σ : St) (H : Hp) (Q : VK), Inv X pins σ H s → t σ H Q → wpAny (model X.prog X.w) X.A (eval e X.env) (EP X pins σ Q) X.xe s
def PT (X : Cx) (e : Expr) (t : TT) : Prop :=
  ∀ (pins : List (Addr × Obj)) (s : Shared) (σ : St) (H : Hp) (Q : Bool → Hp → Prop), Inv X pins σ H s → t σ H Q → wpAny (model X.prog X.w) X.A (isTrue e X.env (eval e X.env)) (TP X pins σ Q) X.xe s
def PW (X : Cx) (e : Expr) (t : TT) : Prop :=
  ∀ (whole : Sem Value) (pins : List (Addr × Obj)) (s : Shared) (σ : St) (H : Hp) (Q : Bool → Hp → Prop), Inv X pins σ H s → t σ H Q → wpAny (model X.prog X.w) X.A (isTrue e X.env whole) (TP X pins σ Q) X.xe s
theorem PW.pt {X : Cx} {e : Expr} {t : TT} (h : PW X e t) : PT X e t := h _
def PA (X : Cx) (es : List Expr) (t : TA) : Prop :=
  ∀ (pos : Pos) (pins : List (Addr × Obj)) (s : Shared) (σ : St) (H : Hp) (Q : List V → Hp → Prop), Inv X pins σ H s → t σ H Q → wpAny (model X.prog X.w) X.A (spliced (backTo pos (starEach es X.env))) (AP X pins σ Q) X.xe s
def PS (X : Cx) (st : Stmt) (t : TS) : Prop :=
  ∀ (pins : List (Addr × Obj)) (s : Shared) (σ : St) (H : Hp) (D : Ends), Inv X pins σ H s → t D σ H → wpAny (model X.prog X.w) X.A (exec st X.env) (SP X pins D) X.xe s
def PSs (X : Cx) (st : List Stmt) (t : TS) : Prop :=
  ∀ (pins : List (Addr × Obj)) (s : Shared) (σ : St) (H : Hp) (D : Ends), Inv X pins σ H s → t D σ H → wpAny (model X.prog X.w) X.A (execs st X.env) (SP X pins D) X.xe s
theorem thn {α : Type} {t : Sem α} {Q Q' : α → Shared → Prop} {M : Model} {A : Around} {E : Value → Shared → Prop} {s : Shared} (h : wpAny M A t Q E s) (hQ : ∀ a s, Q a s → Q' a s) : wpAny M A t Q' E s := wpAny_mono h hQ fun _ _ x => x
end L2

namespace L2
open PySem PySem.Spec PyProof.Rows
section
variable {X : Cx}

def tVar (i : Nat) : TE := fun σ H Q => ∃ v, σ[i]? = some (some v) ∧ Q v H
def tC (v : V) : TE := fun _ H Q => Q v H
theorem pe_var {i : Nat} {x : Str} {pos : Pos} (hN : X.N[i]? = some x) (hv : Vis X.env.scope x) (hd : (x == ("__debug__" : Str)) = false := by decide) (hcd : (x == ("__classdict__" : Str)) = false := by decide) : PE X (.Name x pos) (tVar i) := by
  intro pins s σ H Q I h
  obtain ⟨v, e, h⟩ := h
  obtain ⟨m, hn, hl⟩ := I.loc
  obtain ⟨u, r, l⟩ := hl i x v hN e hv
  have fin : EP X pins σ Q u s := ⟨v, H, I, r, h⟩
  rcases l with ⟨hk, hm⟩ | ⟨hk, c, hc, hcell⟩
  · exact wpAny_Name (wpAny_loadName_local I.ok.kind hk hn hm fin) hd
  · rcases hk with hk | hk
    · exact wpAny_Name (wpAny_loadName_cell I.ok.kind hk hc hcell fin) hd
    · exact wpAny_Name (wpAny_loadName_free I.ok.kind hk hc hcell fin hcd) hd
theorem pe_int {i j pos} : PE X (.Constant (.int i) j pos) (tC (.int i)) := fun _ _ _ H _ I h => wpAny_Constant_int ⟨.int i, H, I.tok _, ⟨_, rfl⟩, h⟩
theorem pe_bl {b j pos} : PE X (.Constant (.bool b) j pos) (tC (.bl b)) := fun _ _ _ H _ I h => Constant_bool ⟨.bl b, H, I, rfl, h⟩
theorem pe_non {j pos} : PE X (.Constant .none j pos) (tC .non) := fun _ _ _ H _ I h => Constant_none ⟨.non, H, I, rfl, h⟩
theorem pe_str {x j pos} : PE X (.Constant (.str x) j pos) (tC (.str x)) := fun _ _ _ H _ I h => Calls.Constant_str ⟨.str x, H, I.tok _, ⟨_, rfl⟩, h⟩

def Gl (X : Cx) (x : Str) : Prop := X.env.kindOf x = some .globalImplicit
theorem ld_glob {E : Value → Shared → Prop} {pins : List (Addr × Obj)} {s : Shared} {σ : St} {H : Hp} {x : Str} {u : Value} {pos : Pos} {Q : Value → Shared → Prop} (I : Inv X pins σ H s) (hg : Gl X x) (hm : X.mg x = some u) (h : Q u s)
    (hd : (x == ("__debug__" : Str)) = false := by decide) : wpAny (model X.prog X.w) X.A (eval (.Name x pos) X.env) Q E s :=
  Calls.Name_function_global I.ok.kind hg (Calls.loadGlobal_global (by rw [I.ok.glob]; exact I.mod.glob.keeps I.bk) hm h) hd
theorem ld_blt {E : Value → Shared → Prop} {pins : List (Addr × Obj)} {s : Shared} {σ : St} {H : Hp} {x : Str} {u : Value} {pos : Pos} {Q : Value → Shared → Prop} (I : Inv X pins σ H s) (hg : Gl X x) (hm : X.mg x = none) (hv : bootBuiltins x = some u) (h : Q u s)
    (hn : x ≠ "__name__" := by decide) (hd : (x == ("__debug__" : Str)) = false := by decide) : wpAny (model X.prog X.w) X.A (eval (.Name x pos) X.env) Q E s := by
  obtain ⟨mb, h1, h2⟩ := I.mod.blt
  exact Calls.Name_function_global I.ok.kind hg (Calls.loadGlobal_builtin (by rw [I.ok.glob]; exact I.mod.glob.keeps I.bk) hm (by rw [I.ok.blt]; exact h1.keeps I.bk) ((h2 x hn).trans hv) h) hd
theorem pe_glob {x : Str} {v : V} {u : Value} {pos : Pos} (hg : Gl X x) (hm : X.mg x = some u) (r : RelV v u) (hd : (x == ("__debug__" : Str)) = false := by decide) : PE X (.Name x pos) (tC v) :=
  fun _ _ _ H _ I h => ld_glob I hg hm ⟨v, H, I, r, h⟩ hd
variable {a b : Expr} {ta tb : TE} {pos : Pos}
def PC (X : Cx) (op : CmpOp) (a b : Expr) (t : TE) : Prop :=
  ∀ (pins : List (Addr × Obj)) (s : Shared) (σ : St) (H : Hp) (Q : VK), Inv X pins σ H s → t σ H Q →
    wpAny (model X.prog X.w) X.A (eval a X.env) (fun v s₁ => wpAny (model X.prog X.w) X.A (eval b X.env) (fun u s₂ => wpAny (model X.prog X.w) X.A (compareOp op v u) (EP X pins σ Q) X.xe s₂) X.xe s₁) X.xe s
theorem nobehind (b : Expr) {op : CmpOp} (h : op ≠ .In) (h2 : op ≠ .NotIn) : behindInMarks op b = false := by
  have e1 : (op == CmpOp.In) = false := by cases op <;> first | rfl | exact absurd rfl h
  have e2 : (op == CmpOp.NotIn) = false := by cases op <;> first | rfl | exact absurd rfl h2
  cases b <;> simp [behindInMarks, e1, e2]
def tIsN (ta : TE) : TE := fun σ H Q => ta σ H fun x H1 => Q (.bl (decide (x = .non))) H1
def tNotN (ta : TE) : TE := fun σ H Q => ta σ H fun x H1 => Q (.bl (!decide (x = .non))) H1
theorem RelV.none_iff {x : V} {v : Value} (r : RelV x v) : (v == Value.none) = decide (x = .non) := by
  cases x with
  | non => cases r; rfl
  | bl _ => cases r; rfl
  | int _ => obtain ⟨t, rfl⟩ := r; rfl
  | str _ => obtain ⟨t, rfl⟩ := r; rfl
  | byt _ => obtain ⟨t, rfl⟩ := r; rfl
  | flt _ => obtain ⟨t, rfl⟩ := r; rfl
  | ref _ => cases r; rfl
  | ty _ => cases r; rfl
theorem pc_isN {j pos'} (ha : PE X a ta) : PC X .Is a (.Constant .none j pos') (tIsN ta) := by
  intro pins s σ H Q I h
  refine thn (ha pins s σ H _ I h) fun v s1 ⟨x, H1, I1, r1, q1⟩ => ?_
  exact Constant_none (is_none_gen ⟨.bl _, H1, I1, by rw [r1.none_iff]; rfl, q1⟩)
def tB (t : TE) : TT := fun σ H Q => t σ H fun x H1 => ∃ c, x = .bl c ∧ Q c H1
theorem pt_cmp {op : CmpOp} {t : TE} (h : PC X op a b t) (h1 : behindInMarks op b = false := by first | exact nobehind _ (by decide) (by decide) | rfl) : PT X (.Compare a [op] [b] pos) (tB t) := by
  intro pins s σ H Q I hw
  refine wpAny_isTrue_Compare1 (thn (h pins s σ H _ I hw) fun v s1 h1 => thn h1 fun u s2 h2 => thn h2 fun c s3 ⟨x, H1, I1, r1, q1⟩ => ?_) h1
  obtain ⟨d, rfl, q⟩ := q1
  cases r1
  exact wpAny_truthy_bool ⟨H1, I1, q⟩
theorem pt_val {e : Expr} {t : TE} (h : PE X e t) (he : ∀ whole, isTrue e X.env whole = (do let v ← whole; standAt e.pos; holding [v] (truthy v)) := by intro _; rfl) : PT X e (tB t) := by
  intro pins s σ H Q I hw
  refine isTrue_plain (thn (h pins s σ H _ I hw) fun v s1 ⟨x, H1, I1, r1, q1⟩ => ?_) (he _)
  obtain ⟨d, rfl, q⟩ := q1
  cases r1
  exact wpAny_truthy_bool ⟨H1, I1, q⟩

variable {tA tB' : TT} {rest : List Expr}
def tAnd (t u : TT) : TT := fun σ H Q => t σ H fun c H1 => if c = true then u σ H1 Q else Q false H1
def tOr (t u : TT) : TT := fun σ H Q => t σ H fun c H1 => if c = true then Q true H1 else u σ H1 Q
def tNot (t : TT) : TT := fun σ H Q => t σ H fun c H1 => Q (!c) H1
theorem pw_and1 (ha : PT X a tA) : PW X (.BoolOp .And [a] pos) tA := by
  intro wh pins s σ H Q I h
  refine isTrue_and (thn (ha pins s σ H Q I h) fun c s1 e => ?_)
  cases c with
  | true => exact isTrue_and_nil e
  | false => exact e
theorem pw_or1 (ha : PT X a tA) : PW X (.BoolOp .Or [a] pos) tA := by
  intro wh pins s σ H Q I h
  refine isTrue_or (thn (ha pins s σ H Q I h) fun c s1 e => ?_)
  cases c with
  | false => exact isTrue_or_nil e
  | true => exact e
theorem pw_and (ha : PT X a tA) (hb : PW X (.BoolOp .And (b :: rest) pos) tB') : PW X (.BoolOp .And (a :: b :: rest) pos) (tAnd tA tB') := by
  intro wh pins s σ H Q I h
  refine isTrue_and (thn (ha pins s σ H _ I h) fun c s1 ⟨H1, I1, q1⟩ => ?_)
  cases c with
  | true => exact hb wh pins s1 σ H1 Q I1 q1
  | false => exact ⟨H1, I1, q1⟩
theorem pw_or (ha : PT X a tA) (hb : PW X (.BoolOp .Or (b :: rest) pos) tB') : PW X (.BoolOp .Or (a :: b :: rest) pos) (tOr tA tB') := by
  intro wh pins s σ H Q I h
  refine isTrue_or (thn (ha pins s σ H _ I h) fun c s1 ⟨H1, I1, q1⟩ => ?_)
  cases c with
  | true => exact ⟨H1, I1, q1⟩
  | false => exact hb wh pins s1 σ H1 Q I1 q1
theorem pt_not (ha : PT X a tA) : PT X (.UnaryOp .Not a pos) (tNot tA) := by
  intro pins s σ H Q I h
  exact isTrue_not (ha pins s σ H (fun c H1 => Q (!c) H1) I h)
def tAndV (ta tb : TE) : TE := fun σ H Q => ta σ H fun x H1 => ∃ c, x = .bl c ∧ if c = true then tb σ H1 Q else Q (.bl false) H1
def tOrV (ta tb : TE) : TE := fun σ H Q => ta σ H fun x H1 => ∃ c, x = .bl c ∧ if c = true then Q (.bl true) H1 else tb σ H1 Q
def tNotV (ta : TE) : TE := fun σ H Q => ta σ H fun x H1 => ∃ c, x = .bl c ∧ Q (.bl (!c)) H1
theorem pe_one {op} {t : TE} (h : PE X a t) : PE X (.BoolOp op [a] pos) t := fun pins s σ H Q I hw => BoolOp_one (h pins s σ H Q I hw)
theorem pe_and (ha : PE X a ta) (hb : PE X (.BoolOp .And (b :: rest) pos) tb) : PE X (.BoolOp .And (a :: b :: rest) pos) (tAndV ta tb) := by
  intro pins s σ H Q I h
  refine BoolOp_and (thn (ha pins s σ H _ I h) fun v s1 ⟨x, H1, I1, r1, q1⟩ => ?_)
  obtain ⟨c, rfl, q1⟩ := q1
  cases r1
  refine wpAny_truthy_bool ?_
  cases c with
  | true => exact hb pins s1 σ H1 Q I1 q1
  | false => exact ⟨.bl false, H1, I1, rfl, q1⟩
theorem pe_or (ha : PE X a ta) (hb : PE X (.BoolOp .Or (b :: rest) pos) tb) : PE X (.BoolOp .Or (a :: b :: rest) pos) (tOrV ta tb) := by
  intro pins s σ H Q I h
  refine BoolOp_or (thn (ha pins s σ H _ I h) fun v s1 ⟨x, H1, I1, r1, q1⟩ => ?_)
  obtain ⟨c, rfl, q1⟩ := q1
  cases r1
  refine wpAny_truthy_bool ?_
  cases c with
  | false => exact hb pins s1 σ H1 Q I1 q1
  | true => exact ⟨.bl true, H1, I1, rfl, q1⟩
def tIf (t : TT) (ta tb : TE) : TE := fun σ H Q => t σ H fun c H1 => if c = true then ta σ H1 Q else tb σ H1 Q
theorem pe_ifExp {c : Expr} (hc : PT X c tA) (ha : PE X a ta) (hb : PE X b tb) : PE X (.IfExp c a b pos) (tIf tA ta tb) := by
  intro pins s σ H Q I h
  refine wpAny_IfExp (thn (hc pins s σ H _ I h) fun d s1 ⟨H1, I1, q1⟩ => ?_)
  cases d with
  | true => exact ha pins s1 σ H1 Q I1 q1
  | false => exact hb pins s1 σ H1 Q I1 q1
end
end L2

namespace L2
open PySem PySem.Spec PyProof.Rows

def SqL (K : PySem.W.Frag) (H : Hp) (a : Addr) (xs : List V) : Prop :=
  Rd H a (.lst xs) ∨
    ∃ (o : Obj) (its : Array Value) (n : Nat), K.lookup a = some o ∧ o.cls = .type "list" ∧ o.dict = none ∧ o.data = .seq its n ∧ its.size ≤ sizeLine ∧ Vals xs its.toList
def SqT (K : PySem.W.Frag) (H : Hp) (a : Addr) (xs : List V) : Prop :=
  Rd H a (.tup xs) ∨
    ∃ (o : Obj) (its : Array Value) (n : Nat), K.lookup a = some o ∧ o.cls = .type "tuple" ∧ o.data = .seq its n ∧ its.size ≤ sizeLine ∧ Vals xs its.toList
def absV : Value → Option V
  | .none => some .non
  | .bool b => some (.bl b)
  | .int i _ => some (.int i)
  | .str x _ => some (.str x)
  | .bytes b _ => some (.byt b)
  | .float b _ => some (.flt b)
  | .ref a => some (.ref a)
  | .type n => some (.ty n)
  | _ => none
theorem RelV.abs {x : V} {u : Value} (r : RelV x u) : absV u = some x := by
  cases x with
  | non => cases r; rfl
  | bl _ => cases r; rfl
  | int _ => obtain ⟨t, rfl⟩ := r; rfl
  | str _ => obtain ⟨t, rfl⟩ := r; rfl
  | byt _ => obtain ⟨t, rfl⟩ := r; rfl
  | flt _ => obtain ⟨t, rfl⟩ := r; rfl
  | ref _ => cases r; rfl
  | ty _ => cases r; rfl
theorem RelV.inj {x y : V} {u : Value} (r : RelV x u) (q : RelV y u) : x = y := Option.some.inj (r.abs.symm.trans q.abs)
theorem Vals.inj : ∀ {xs ys : List V} {us : List Value}, Vals xs us → Vals ys us → xs = ys
  | _, _, _, .nil, .nil => rfl
  | _, _, _, .cons r t, .cons r' t' => by rw [r.inj r', Vals.inj t t']
section
variable {X : Cx} {pins : List (Addr × Obj)} {σ : St} {H : Hp} {s : Shared} {a : Addr} {xs ys : List V}
theorem SqL.of {K : PySem.W.Frag} (h : H a = some (.lst xs)) : SqL K H a xs := .inl (.inl h)
theorem SqT.of {K : PySem.W.Frag} (h : H a = some (.tup xs)) : SqT K H a xs := .inl (.inl h)
theorem Inv.list (I : Inv X pins σ H s) (h : SqL X.K H a xs) : ∃ its : List Value, Vals xs its ∧ PlainL s.heap a its.toArray ∧ xs.length ≤ sizeLine := by
  rcases h with h | ⟨o, its, n, hk, hc, hd, hs, hz, r⟩
  · obtain ⟨z, its, n, r, e⟩ := h.ok I.hok
    exact ⟨its, r, ⟨_, n, e, rfl, rfl, rfl⟩, z⟩
  · refine ⟨its.toList, r, ⟨o, n, I.kIn a o hk, hc, hd, by simpa using hs⟩, ?_⟩
    have e := r.length
    simp only [Array.length_toList] at e
    omega
theorem Inv.tuple (I : Inv X pins σ H s) (h : SqT X.K H a xs) : ∃ its : List Value, Vals xs its ∧ IsTup s.heap a its.toArray ∧ xs.length ≤ sizeLine := by
  rcases h with h | ⟨o, its, n, hk, hc, hs, hz, r⟩
  · obtain ⟨z, its, r, p⟩ := h.ok I.hok
    exact ⟨its, r, p, z⟩
  · refine ⟨its.toList, r, ⟨o, I.kIn a o hk, hc, n, by simpa using hs⟩, ?_⟩
    have e := r.length
    simp only [Array.length_toList] at e
    omega
theorem Inv.list_inj (I : Inv X pins σ H s) (h : SqL X.K H a xs) (h' : SqL X.K H a ys) : xs = ys := by
  obtain ⟨its, r, ⟨o, n, e, _, _, d⟩, _⟩ := I.list h
  obtain ⟨its', r', ⟨o', n', e', _, _, d'⟩, _⟩ := I.list h'
  rw [e] at e'; cases e'
  rw [d] at d'
  injection d' with d1 _
  have : its = its' := by simpa using congrArg Array.toList d1
  subst this
  exact r.inj r'
end

abbrev Cx.wish (X : Cx) (E : Value → Shared → Prop) : Cx := { X with xe := E }
abbrev Cx.nox (X : Cx) : Cx := X.wish fun _ _ => False
theorem Cx.Ok.wish {X : Cx} (ok : X.Ok) (E : Value → Shared → Prop) : (X.wish E).Ok :=
  ⟨ok.mod, ok.kind, ok.glob, ok.blt, ok.above, ok.inj, ok.has, ok.cab, ok.hd, ok.frames, ok.stk, ok.exf, ok.bs, ok.bsz, ok.noex, ok.exfs, ok.funs, ok.frf⟩
theorem Cx.Ok.unwish {X : Cx} {E : Value → Shared → Prop} (ok : (X.wish E).Ok) : X.Ok :=
  ⟨ok.mod, ok.kind, ok.glob, ok.blt, ok.above, ok.inj, ok.has, ok.cab, ok.hd, ok.frames, ok.stk, ok.exf, ok.bs, ok.bsz, ok.noex, ok.exfs, ok.funs, ok.frf⟩
section
variable {X : Cx} {pins : List (Addr × Obj)} {σ : St} {H : Hp} {s : Shared} {E : Value → Shared → Prop}
theorem Inv.wish (I : Inv X pins σ H s) (E : Value → Shared → Prop) : Inv (X.wish E) pins σ H s := ⟨I.ok.wish E, I.os, I.bare, I.base, I.loc, I.cell, I.free, I.freeC, I.pin, I.hok, I.len⟩
theorem Inv.unwish (I : Inv (X.wish E) pins σ H s) : Inv X pins σ H s := ⟨I.ok.unwish, I.os, I.bare, I.base, I.loc, I.cell, I.free, I.freeC, I.pin, I.hok, I.len⟩
theorem SP.unwish {D : Ends} {f : Flow} {s' : Shared} (h : SP (X.wish E) pins D f s') : SP X pins D f s' := by
  cases f with
  | next => obtain ⟨σ', H', I, q⟩ := h; exact ⟨σ', H', I.unwish, q⟩
  | brk => obtain ⟨σ', H', I, q⟩ := h; exact ⟨σ', H', I.unwish, q⟩
  | cont => obtain ⟨σ', H', I, q⟩ := h; exact ⟨σ', H', I.unwish, q⟩
  | ret u => obtain ⟨v, σ', H', I, r, q⟩ := h; exact ⟨v, σ', H', I.unwish, r, q⟩
theorem PE.nox {e : Expr} {t : TE} (h : PE X.nox e t) : PE X e t := fun pins s σ H Q I hw =>
  wpAny_mono (h pins s σ H Q (I.wish _) hw) (fun _ _ ⟨v, H', I', r, q⟩ => ⟨v, H', I'.unwish, r, q⟩) fun _ _ z => False.elim z
theorem PT.nox {e : Expr} {t : TT} (h : PT X.nox e t) : PT X e t := fun pins s σ H Q I hw =>
  wpAny_mono (h pins s σ H Q (I.wish _) hw) (fun _ _ ⟨H', I', q⟩ => ⟨H', I'.unwish, q⟩) fun _ _ z => False.elim z
theorem PSs.nox {st : List Stmt} {t : TS} (h : PSs X.nox st t) : PSs X st t := fun pins s σ H D I hw =>
  wpAny_mono (h pins s σ H D (I.wish _) hw) (fun _ _ q => q.unwish) fun _ _ z => False.elim z
end

section
variable {X : Cx} {st : Stmt} {rest : List Stmt} {t u : TS} {e : Expr} {te : TE} {pos : Pos}
def tNext : TS := fun D σ H => D.nx σ H
def tSeq (t u : TS) : TS := fun D σ H => t { D with nx := u D } σ H
theorem pss_nil : PSs X [] tNext := fun _ _ σ H _ I h => wpAny_execs_nil ⟨σ, H, I, h⟩
theorem pss_cons (h1 : PS X st t) (h2 : PSs X rest u) : PSs X (st :: rest) (tSeq t u) := by
  intro pins s σ H D I h
  refine wpAny_execs_cons (thn (h1 pins s σ H { D with nx := u D } I h) fun f s1 q => ?_)
  cases f with
  | next =>
    obtain ⟨σ', H', I', q⟩ := q
    exact h2 pins s1 σ' H' D I' q
  | ret v => exact q
  | brk => exact q
  | cont => exact q
theorem pss_one (h1 : PS X st t) : PSs X [st] t := by
  intro pins s σ H D I h
  refine wpAny_execs_cons (thn (h1 pins s σ H D I h) fun f s1 q => ?_)
  cases f with
  | next => exact wpAny_execs_nil q
  | ret v => exact q
  | brk => exact q
  | cont => exact q
theorem Inv.quiet {pins : List (Addr × Obj)} {σ : St} {H : Hp} {s : Shared} (I : Inv X pins σ H s) : interactive X.env = false := by simp [interactive, I.ok.kind]
def tDrop (te : TE) : TS := fun D σ H => te σ H fun _ H1 => D.nx σ H1
theorem ps_expr (he : PE X e te) (hs : swapsWith e none pos.line X.env = pure false := by rfl) : PS X (.Expr e pos) (tDrop te) := by
  intro pins s σ H D I h
  exact wpAny_Expr_any (thn (he pins s σ H _ I h) fun v s1 ⟨x, H1, I1, r1, q1⟩ => ⟨σ, H1, I1, q1⟩) I.quiet hs
def tRet (te : TE) : TS := fun D σ H => te σ H D.rt
theorem ps_ret (he : PE X e te) : PS X (.Return (some e) pos) (tRet te) := by
  intro pins s σ H D I h
  exact wpAny_Return_some (thn (he pins s σ H _ I h) fun v s1 ⟨x, H1, I1, r1, q1⟩ => ⟨x, σ, H1, I1, r1, q1⟩)
def tRetN : TS := fun D _ H => D.rt .non H
def tIfS (c : TT) (t u : TS) : TS := fun D σ H => c σ H fun b H1 => if b = true then t D σ H1 else u D σ H1
theorem ps_if {c : Expr} {a b : List Stmt} {tc : TT} (hc : PT X c tc) (ha : PSs X a t) (hb : PSs X b u) : PS X (.If c a b pos) (tIfS tc t u) := by
  intro pins s σ H D I h
  refine wpAny_If (thn (hc pins s σ H _ I h) fun d s1 ⟨H1, I1, q1⟩ => ?_)
  cases d with
  | true => exact ha pins s1 σ H1 D I1 q1
  | false => exact hb pins s1 σ H1 D I1 q1
end

abbrev TG := V → St → Hp → (St → Hp → Prop) → Prop
def PG (X : Cx) (target : Expr) (t : TG) : Prop :=
  ∀ (pins : List (Addr × Obj)) (s : Shared) (σ : St) (H : Hp) (v : V) (u : Value) (Q : St → Hp → Prop), Inv X pins σ H s → RelV v u → t v σ H Q →
    wpAny (model X.prog X.w) X.A (assign target X.env u) (fun _ s' => ∃ σ' H', Inv X pins σ' H' s' ∧ Q σ' H') X.xe s
abbrev TIp := V → V → Hp → VK → Prop
def PIp (X : Cx) (op : Operator) (t : TIp) : Prop :=
  ∀ (pins : List (Addr × Obj)) (s : Shared) (σ : St) (H : Hp) (x y : V) (v u : Value) (Q : VK), Inv X pins σ H s → RelV x v → RelV y u → t x y H Q →
    wpAny (model X.prog X.w) X.A (inplaceOp op v u) (EP X pins σ Q) X.xe s
section
variable {X : Cx} {pos : Pos}
def gName (i : Nat) : TG := fun v σ H Q => Q (σ.set i (some v)) H
theorem pg_name {i : Nat} {x : Str} (hN : X.N.Nodup) (hi : X.N[i]? = some x) (hx : Loc X.env.scope x) (hf : X.fn x = true ∨ X.env.scope.names.lookup x = some .local := by first | exact .inl rfl | exact .inr rfl | assumption) : PG X (.Name x pos) (gName i) := by
  intro pins s σ H v u Q I r h
  exact wpAny_assign_Name (store_ok I hN hi hx r (fun s' I' => ⟨_, H, I', h⟩) hf)
def tAsg (te : TE) (g : TG) : TS := fun D σ H => te σ H fun x H1 => g x σ H1 D.nx
theorem ps_set {i : Nat} {x : Str} {e : Expr} {te : TE} {pos' : Pos} (hN : X.N.Nodup) (hi : X.N[i]? = some x) (hx : Loc X.env.scope x) (he : PE X e te) (hs : swapsWith e (some (.Name x pos')) pos.line X.env = pure false := by rfl) (hf : X.fn x = true ∨ X.env.scope.names.lookup x = some .local := by first | exact .inl rfl | exact .inr rfl | assumption) :
    PS X (.Assign [.Name x pos'] e pos) (tAsg te (gName i)) := by
  intro pins s σ H D I h
  refine wpAny_Assign_Name (thn (he pins s σ H _ I h) fun v s1 ⟨y, H1, I1, r1, q1⟩ => ?_) hs
  exact store_ok I1 hN hi hx r1 (fun s2 I2 => ⟨_, H1, I2, q1⟩) hf
def tAug (i : Nat) (te : TE) (ti : TIp) : TS := fun D σ H => ∃ x, σ[i]? = some (some x) ∧ te σ H fun y H1 => ti x y H1 fun z H2 => D.nx (σ.set i (some z)) H2
theorem ps_aug {i : Nat} {x : Str} {e : Expr} {te : TE} {op : Operator} {ti : TIp} {pos' : Pos} (hN : X.N.Nodup) (hi : X.N[i]? = some x) (hx : Loc X.env.scope x) (he : PE X e te) (ho : PIp X op ti) (hf : X.fn x = true ∨ X.env.scope.names.lookup x = some .local := by first | exact .inl rfl | exact .inr rfl | assumption) :
    PS X (.AugAssign (.Name x pos') op e pos) (tAug i te ti) := by
  intro pins s σ H D I h
  obtain ⟨v, e1, h⟩ := h
  obtain ⟨m, hn, hl⟩ := I.loc
  have vis : Vis X.env.scope x := by rcases hx with k | k; exact .inl k; exact .inr (.inl k)
  obtain ⟨u, r, l⟩ := hl i x v hi e1 vis
  refine wpAny_AugAssign_Name ?_
  have go : wpAny (model X.prog X.w) X.A (eval e X.env) (fun w s₂ => wpAny (model X.prog X.w) X.A (inplaceOp op u w) (fun r s₃ => wpAny (model X.prog X.w) X.A (storeName X.env x r) (fun _ => SP X pins D .next) X.xe s₃) X.xe s₂) X.xe s := by
    refine thn (he pins s σ H _ I h) fun w s1 ⟨y, H1, I1, r1, q1⟩ => ?_
    refine thn (ho pins s1 σ H1 v y u w _ I1 r r1 q1) fun z s2 ⟨zv, H2, I2, r2, q2⟩ => ?_
    exact store_ok I2 hN hi hx r2 (fun s3 I3 => ⟨_, H2, I3, q2⟩) hf
  rcases l with ⟨hk, hm⟩ | ⟨hk, c, hc, hcell⟩
  · exact wpAny_loadName_local I.ok.kind hk hn hm go
  · rcases hk with hk | hk
    · exact wpAny_loadName_cell I.ok.kind hk hc hcell go
    · rcases hx with k | k
      · have : X.env.scope.names.lookup x = some .free := hk
        rw [k] at this; cases this
      · have : X.env.scope.names.lookup x = some .free := hk
        rw [k] at this; cases this
def ipI (f : Int → Int → Int) : TIp := fun x y H Q => ∃ i j, x = .int i ∧ y = .int j ∧ Q (.int (f i j)) H
theorem ip_add : PIp X .Add (ipI fun i j => i + j) := by
  intro pins s σ H x y v u Q I r1 r2 h
  obtain ⟨i, j, e1, e2, q⟩ := h
  subst e1; subst e2
  obtain ⟨t, rfl⟩ := r1
  obtain ⟨t', rfl⟩ := r2
  exact iadd_int ⟨.int _, H, I.tok _, ⟨_, rfl⟩, q⟩
end

section
variable {X : Cx} {pos : Pos}
def tWhile (c : TT) (tb : TS) : TS := fun D σ H => ∃ W : Nat → St → Hp → Prop, (∃ m, W m σ H) ∧ ∀ m σ H, W m σ H →
  c σ H fun b H1 => if b = true then ∃ N : St → Hp → Prop, (∀ σ' H', N σ' H' → ∃ m', m' < m ∧ W m' σ' H') ∧ tb { D with nx := N, ct := N, bk := D.nx } σ H1 else D.nx σ H1
theorem ps_while {c : Expr} {body : List Stmt} {tc : TT} {tb : TS} (hp : PassesOwn (model X.prog X.w) X.A X.env X.xe) (hc : PT X c tc) (hb : PSs X body tb) : PS X (.While c body [] pos) (tWhile tc tb) := by
  intro pins s σ H D I h
  obtain ⟨W, ⟨m0, w0⟩, turn⟩ := h
  refine wpAny_While (codeAny_whileLoop (fun n s' => ∃ σ' H', Inv X pins σ' H' s' ∧ W n σ' H') ?_ m0 ⟨σ, H, I, w0⟩)
  rintro n s1 ⟨σ1, H1, I1, w1⟩
  refine wpAny_passesOwn hp (thn (hc pins s1 σ1 H1 _ I1 (turn n σ1 H1 w1)) fun b s2 ⟨H2, I2, q2⟩ => ?_)
  cases b with
  | true =>
    obtain ⟨N, hN, q2⟩ := q2
    rw [if_pos rfl]
    refine wpAny_passesOwn hp (thn (hb pins s2 σ1 H2 _ I2 q2) fun f s3 q3 => ?_)
    cases f with
    | next =>
      obtain ⟨σ3, H3, I3, n3⟩ := q3
      obtain ⟨m', hm, w3⟩ := hN σ3 H3 n3
      exact ⟨m', hm, σ3, H3, I3, w3⟩
    | cont =>
      obtain ⟨σ3, H3, I3, n3⟩ := q3
      obtain ⟨m', hm, w3⟩ := hN σ3 H3 n3
      exact ⟨m', hm, σ3, H3, I3, w3⟩
    | brk => exact q3
    | ret v => exact q3
  | false =>
    rw [if_neg Bool.false_ne_true]
    exact wpAny_execs_nil ⟨σ1, H2, I2, q2⟩
end

structure It where
  go : Nat → Hp → Prop
  yld : Nat → Hp → V → Hp → Prop
  stop : Nat → Hp → Prop
def FpOk (X : Cx) (pins : List (Addr × Obj)) (H : Hp) (b : Addr) : Prop :=
  H b = none ∧ b ≠ X.env.locals ∧ b ∉ X.fs ∧ (b ∈ X.ex ∨ X.s_0.heap.objs.size ≤ b) ∧ (∀ x c, X.env.cells.lookup x = some c → c ≠ b) ∧ ∀ p ∈ X.pn ++ pins, p.1 ≠ b
theorem Inv.fpOk {X : Cx} {pins : List (Addr × Obj)} {σ : St} {H H' : Hp} {s : Shared} {b : Addr} (I : Inv X pins σ H s) (hb : s.heap.objs.size ≤ b) (hn : H' b = none) : FpOk X pins H' b := by
  refine ⟨hn, Nat.ne_of_gt (Nat.lt_of_lt_of_le I.lt hb), I.nofs hb, .inr (Nat.le_trans I.sz hb), fun x c e z => ?_, fun p hp z => ?_⟩
  · obtain ⟨v, q⟩ := I.cell x c e
    exact absurd (Nat.lt_of_lt_of_le q.lt (by rw [z]; exact hb)) (Nat.lt_irrefl _)
  · exact absurd (Nat.lt_of_lt_of_le (Heap.lt_size (I.pin p hp).1) (by rw [z]; exact hb)) (Nat.lt_irrefl _)
structure Turn (P : Program) (w : World) (K : PySem.W.Frag) (tg : Expr) (J : It) (fp : List Addr) (it : Addr) (tn : Nat → Heap → Prop) : Prop where
  mem : it ∈ fp
  obj : ∀ i h, tn i h → ∀ b ∈ fp, ∃ o, h.get? b = some o ∧ ∀ v, o.data ≠ .cell v
  keep : ∀ i h h', tn i h → (∀ b ∈ fp, ∀ o, h.get? b = some o → h'.get? b = some o) → tn i h'
  item : ∀ (X : Cx), X.prog = P → X.w = w → X.K = K → X.calm = true → ∀ (i : Nat) (pins : List (Addr × Obj)) (s : Shared) (σ : St) (H : Hp) (E : Value → Shared → Prop), Inv X pins σ H s → (∀ b ∈ fp, FpOk X pins H b) → tn i s.heap → J.go i H →
    wpAny (model P w) X.A (pyNext (.ref it)) (fun r s1 => ∃ u, r = some u ∧
      wpAny (model P w) X.A (letOwnedTupleGo tg (.ref it) u) (fun _ s2 => ∃ x H', Inv X pins σ H' s2 ∧ RelV x u ∧ J.yld i H x H' ∧ tn (i + 1) s2.heap ∧ ∀ b ∈ fp, H' b = none) E s1) E s
  done : ∀ (X : Cx), X.prog = P → X.w = w → X.K = K → X.calm = true → ∀ (i : Nat) (pins : List (Addr × Obj)) (s : Shared) (σ : St) (H : Hp) (E : Value → Shared → Prop), Inv X pins σ H s → (∀ b ∈ fp, FpOk X pins H b) → tn i s.heap → J.stop i H →
    wpAny (model P w) X.A (pyNext (.ref it)) (fun r s1 => r = none ∧ Inv X pins σ H s1) E s
  self : ∀ (A : Around) (i : Nat) (s : Shared) (Q : Value → Shared → Prop) (E : Value → Shared → Prop), tn i s.heap → Q (.ref it) s → wpAny (model P w) A (pyIter (.ref it)) Q E s
abbrev TI := St → Hp → (It → Hp → Prop) → Prop
def PIE (X : Cx) (pins : List (Addr × Obj)) (σ : St) (tg : Expr) (R : It → Hp → Prop) (itv : Value) (s2 : Shared) : Prop :=
  ∃ (it : Addr) (fp : List Addr) (tn : Nat → Heap → Prop) (J : It) (H' : Hp), itv = .ref it ∧ Inv X pins σ H' s2 ∧ Turn X.prog X.w X.K tg J fp it tn ∧ tn 0 s2.heap ∧ (∀ b ∈ fp, FpOk X pins H' b) ∧ R J H'
def PI (X : Cx) (tg iter : Expr) (wi : TI) : Prop :=
  ∀ (pins : List (Addr × Obj)) (s : Shared) (σ : St) (H : Hp) (R : It → Hp → Prop), Inv X pins σ H s → wi σ H R →
    wpAny (model X.prog X.w) X.A (eval iter X.env) (fun v s1 => wpAny (model X.prog X.w) X.A (pyIter v) (PIE X pins σ tg R) X.xe s1) X.xe s

theorem go_of {M : Model} {A : Around} {E : Value → Shared → Prop} {s : Shared} {tg : Expr} {it : Addr} {u : Value} {o : Obj} {n : String} {vs : Array Value} {Q : Unit → Shared → Prop} (ho : s.heap.get? it = some o) (hc : o.cls = .type n) (hd : o.data = .fields vs)
    (hn : ["enumerate", "zip", "dict_itemiterator", "dict_reverseitemiterator", "odict_iterator", "itertools.zip_longest", "itertools.pairwise"].contains n = false) (hQ : Q () s) : wpAny M A (letOwnedTupleGo tg (.ref it) u) Q E s := by
  unfold letOwnedTupleGo
  cases tg <;> first
    | exact wpAny_pure hQ
    | (cases u <;> first
        | exact wpAny_pure hQ
        | (refine wpAny_bind (wpAny_load ho ?_)
           rw [hc, hd]
           show wpAny M A (if (["enumerate", "zip", "dict_itemiterator", "dict_reverseitemiterator", "odict_iterator", "itertools.zip_longest", "itertools.pairwise"].contains n && vs[0]? == some (rawInt _)) = true then _ else _) Q E s
           rw [if_neg (by intro h; rw [hn, Bool.false_and] at h; cases h)]
           exact wpAny_pure hQ))

def Itl (K : PySem.W.Frag) (a : Addr) : It :=
  ⟨fun i H => ∃ xs x, SqL K H a xs ∧ xs[i]? = some x, fun i H x H' => H' = H ∧ ∀ xs, SqL K H a xs → xs[i]? = some x, fun i H => ∃ xs, SqL K H a xs ∧ xs.length ≤ i⟩
def Itt (K : PySem.W.Frag) (a : Addr) : It :=
  ⟨fun i H => ∃ xs x, SqT K H a xs ∧ xs[i]? = some x, fun i H x H' => H' = H ∧ ∀ xs, SqT K H a xs → xs[i]? = some x, fun i H => ∃ xs, SqT K H a xs ∧ xs.length ≤ i⟩
theorem turn_list {P : Program} {w : World} {K : PySem.W.Frag} {tg : Expr} (a it : Addr) : Turn P w K tg (Itl K a) [it] it (fun i h => h.IsListIter it a i) where
  mem := by simp
  obj := fun i h st b hb => by
    have e : b = it := by simpa using hb
    subst e
    obtain ⟨o, e, c, d⟩ := st
    exact ⟨o, e, fun v z => by rw [d] at z; cases z⟩
  keep := fun i h h' st k => st.at fun o e => k it (by simp) o e
  item := by
    intro X hP hw hK hc i pins s σ H E I hf st hg
    subst hP hw hK
    obtain ⟨xs, x, hq, hx⟩ := hg
    obtain ⟨its, rv, p, hz⟩ := I.list hq
    obtain ⟨u, hu, ru⟩ := rv.get hx
    obtain ⟨f0, f1, f2, f3, f4, f5⟩ := hf it (by simp)
    refine wpAny_pyNext_list_item st p.isList (x := u) (by simpa using hu) fun h' st' sb => ?_
    have I1 : Inv X pins σ H { s with heap := h' } := I.turned (t' := s.toks) (fun b o hb e => (sb.2 b hb).trans e) f0 f1 f3 f4 f5
    obtain ⟨o, e, c, d⟩ := id st'
    exact ⟨u, rfl, go_of (s := { s with heap := h' }) e c d (by decide) ⟨x, H, I1, ru, ⟨rfl, fun ys hy => by rw [I.list_inj hy hq]; exact hx⟩, st', fun b hb => (hf b hb).1⟩⟩
  done := by
    intro X hP hw hK hc i pins s σ H E I hf st hg
    subst hP hw hK
    obtain ⟨xs, hq, hx⟩ := hg
    obtain ⟨its, rv, p, hz⟩ := I.list hq
    obtain ⟨f0, f1, f2, f3, f4, f5⟩ := hf it (by simp)
    have hl := rv.length
    exact wpAny_pyNext_list_end (I.ok.hd hc) st p.isList (by simp; omega) fun h' eb => ⟨rfl, I.turned (t' := s.toks) (fun b o hb e => eb b o hb e) f0 f1 f3 f4 f5⟩
  self := fun _ _ _ _ _ st h => wpAny_pyIter_listiter st h
end L2

namespace L2
open PySem PySem.Spec PyProof.Rows
section
variable {X : Cx} {tg : Expr}
def iList (K : PySem.W.Frag) (tl : TE) : TI := fun σ H R => tl σ H fun x H1 => ∃ a, x = .ref a ∧ (∃ xs, SqL K H1 a xs) ∧ R (Itl K a) H1
def iTup (K : PySem.W.Frag) (tl : TE) : TI := fun σ H R => tl σ H fun x H1 => ∃ a, x = .ref a ∧ (∃ xs, SqT K H1 a xs) ∧ R (Itt K a) H1
theorem pi_list {l : Expr} {tl : TE} (hl : PE X l tl) : PI X tg l (iList X.K tl) := by
  intro pins s σ H R I h
  refine thn (hl pins s σ H _ I h) fun v s1 ⟨x, H1, I1, r1, q1⟩ => ?_
  obtain ⟨a, e, ⟨xs, hq⟩, q⟩ := q1
  subst e
  cases r1
  obtain ⟨its, rv, p, hz⟩ := I1.list hq
  refine wpAny_pyIter_list p.isList ?_
  refine ⟨s1.heap.objs.size, [s1.heap.objs.size], _, _, H1, rfl, I1.kept (t' := s1.toks) fun b o e => Heap.get?_push_of_some _ e, turn_list a _, ⟨_, Heap.get?_push_size _ rfl, rfl, rfl⟩, fun b hb => ?_, q⟩
  have e : b = s1.heap.objs.size := by simpa using hb
  subst e
  exact I1.fpOk (Nat.le_refl _) (I1.hok.fresh (Nat.le_refl _))
def tFor (wi : TI) (g : TG) (tb : TS) : TS := fun D σ H => wi σ H fun J H1 => ∃ W : Nat → Nat → St → Hp → Prop, (∃ m, W 0 m σ H1) ∧ ∀ i m σ H, W i m σ H →
  (J.stop i H ∧ D.nx σ H) ∨ (J.go i H ∧ ∃ N : St → Hp → Prop, (∀ σ' H', N σ' H' → ∃ m', m' < m ∧ W (i + 1) m' σ' H') ∧ ∀ x H', J.yld i H x H' → g x σ H' fun σ2 H2 => tb { D with nx := N, ct := N, bk := D.nx } σ2 H2)
def pinsAt (fp : List Addr) (h : Heap) : List (Addr × Obj) := fp.filterMap fun b => (h.get? b).map fun o => (b, o)
theorem mem_pinsAt {fp : List Addr} {h : Heap} {b : Addr} {o : Obj} (hb : b ∈ fp) (e : h.get? b = some o) : (b, o) ∈ pinsAt fp h := List.mem_filterMap.mpr ⟨b, hb, by rw [e]; rfl⟩
theorem of_pinsAt {fp : List Addr} {h : Heap} {p : Addr × Obj} (hp : p ∈ pinsAt fp h) : p.1 ∈ fp ∧ h.get? p.1 = some p.2 := by
  obtain ⟨b, hb, e⟩ := List.mem_filterMap.mp hp
  cases q : h.get? b with
  | none => rw [q] at e; cases e
  | some o =>
    rw [q] at e
    have e' : (b, o) = p := Option.some.inj e
    subst e'
    exact ⟨hb, q⟩
theorem Inv.pinned {pins : List (Addr × Obj)} {σ : St} {H : Hp} {s : Shared} {fp : List Addr} (I : Inv X pins σ H s) (hf : ∀ b ∈ fp, FpOk X pins H b) (ho : ∀ b ∈ fp, ∃ o, s.heap.get? b = some o ∧ ∀ v, o.data ≠ .cell v) : Inv X (pins ++ pinsAt fp s.heap) σ H s :=
  I.pins_of fun p hp => (List.mem_append.mp hp).elim (fun z => I.pin p (List.mem_append_right _ z)) fun z => by
    obtain ⟨hb, e⟩ := of_pinsAt z
    obtain ⟨f0, f1, f2, _⟩ := hf p.1 hb
    obtain ⟨o, e', d⟩ := ho p.1 hb
    rw [e] at e'; cases e'
    exact ⟨e, f0, f1, f2, d⟩
theorem Inv.unpinned {pins pl : List (Addr × Obj)} {σ : St} {H : Hp} {s : Shared} (I : Inv X (pins ++ pl) σ H s) : Inv X pins σ H s := I.pins_of fun p hp => I.pin p (List.mem_append_right _ (List.mem_append_left _ hp))
theorem ps_for {iter : Expr} {body : List Stmt} {wi : TI} {g : TG} {tb : TS} {pos : Pos} (hp : PassesOwn (model X.prog X.w) X.A X.env X.xe) (hc : X.calm = true) (hi : PI X tg iter wi) (hg : PG X tg g) (hb : PSs X body tb)
    (hs : ∀ x, foldedSetIterable iter X.env x = pure x := by intro _; rfl) : PS X (.For tg iter body [] pos) (tFor wi g tb) := by
  intro pins s σ H D I h
  refine wpAny_For (thn (hi pins s σ H _ I h) fun v s1 h1 => thn h1 fun itv s2 h2 => ?_) hs
  obtain ⟨it, fp, tn, J, H2, e, I2, T, st2, f2, W, ⟨m0, w0⟩, turn⟩ := h2
  subst e
  -- what stays true of the iterator's objects through the loop
  have stat : ∀ {H' : Hp}, (∀ b ∈ fp, H' b = none) → ∀ b ∈ fp, FpOk X pins H' b := fun hn b hb => ⟨hn b hb, (f2 b hb).2⟩
  refine codeAny_forLoop_any (fun n s' => ∃ i σ' H', Inv X pins σ' H' s' ∧ tn i s'.heap ∧ (∀ b ∈ fp, H' b = none) ∧ W i n σ' H') ?_ m0 ⟨0, σ, H2, I2, st2, fun b hb => (f2 b hb).1, w0⟩
  rintro n s3 ⟨i, σ3, H3, I3, st3, fr3, w3⟩
  rcases turn i n σ3 H3 w3 with ⟨stop, qn⟩ | ⟨go, N, hN, step⟩
  · refine wpAny_passesOwn hp (thn (T.done X rfl rfl rfl hc i pins s3 σ3 H3 X.xe I3 (stat fr3) st3 stop) fun r s4 ⟨hr, I4⟩ => ?_)
    subst hr
    exact wpAny_execs_nil ⟨σ3, H3, I4, qn⟩
  · refine wpAny_passesOwn hp (thn (T.item X rfl rfl rfl hc i pins s3 σ3 H3 X.xe I3 (stat fr3) st3 go) fun r s4 ⟨u, hr, h4⟩ => ?_)
    subst hr
    refine wpAny_passesOwn hp (thn h4 fun _ s5 ⟨x, H5, I5, r5, y5, st5, fr5⟩ => ?_)
    have I5' := I5.pinned (stat fr5) (T.obj _ _ st5)
    refine wpAny_passesOwn hp (thn (hg _ s5 σ3 H5 x u _ I5' r5 (step x H5 y5)) fun _ s6 ⟨σ6, H6, I6, q6⟩ => ?_)
    refine wpAny_passesOwn hp (thn (hb _ s6 σ6 H6 _ I6 q6) fun f s7 q7 => ?_)
    have again : ∀ {σ7 : St} {H7 : Hp}, Inv X (pins ++ pinsAt fp s5.heap) σ7 H7 s7 → N σ7 H7 → ∃ m, m < n ∧ ∃ i σ' H', Inv X pins σ' H' s7 ∧ tn i s7.heap ∧ (∀ b ∈ fp, H' b = none) ∧ W i m σ' H' := fun {σ7 H7} I7 n7 => by
      obtain ⟨m', hm, w7⟩ := hN σ7 H7 n7
      refine ⟨m', hm, i + 1, σ7, H7, I7.unpinned, T.keep _ _ _ st5 fun b hb o e => (I7.pin (b, o) (List.mem_append_right _ (List.mem_append_right _ (mem_pinsAt hb e)))).1, fun b hb => ?_, w7⟩
      obtain ⟨o, e, d⟩ := T.obj _ _ st5 b hb
      exact (I7.pin (b, o) (List.mem_append_right _ (List.mem_append_right _ (mem_pinsAt hb e)))).2.1
    cases f with
    | next => obtain ⟨σ7, H7, I7, n7⟩ := q7; exact again I7 n7
    | cont => obtain ⟨σ7, H7, I7, n7⟩ := q7; exact again I7 n7
    | brk => obtain ⟨σ7, H7, I7, q7⟩ := q7; exact ⟨σ7, H7, I7.unpinned, q7⟩
    | ret v => obtain ⟨x7, σ7, H7, I7, r7, q7⟩ := q7; exact ⟨x7, σ7, H7, I7.unpinned, r7, q7⟩
end

theorem for_list {K : PySem.W.Frag} {a : Addr} {xs : List V} {g : TG} {tb : TS} {D : Ends} {σ : St} {H : Hp} (Pv : Nat → St → Hp → Prop) (h0 : Pv 0 σ H) (hl : ∀ i σ H, i ≤ xs.length → Pv i σ H → SqL K H a xs)
    (hs : ∀ i x σ H, xs[i]? = some x → Pv i σ H → g x σ H fun σ2 H2 => tb { D with nx := Pv (i + 1), ct := Pv (i + 1), bk := D.nx } σ2 H2) (hd : ∀ σ H, Pv xs.length σ H → D.nx σ H) :
    ∃ W : Nat → Nat → St → Hp → Prop, (∃ m, W 0 m σ H) ∧ ∀ i m σ H, W i m σ H →
      ((Itl K a).stop i H ∧ D.nx σ H) ∨ ((Itl K a).go i H ∧ ∃ N : St → Hp → Prop, (∀ σ' H', N σ' H' → ∃ m', m' < m ∧ W (i + 1) m' σ' H') ∧ ∀ x H', (Itl K a).yld i H x H' → g x σ H' fun σ2 H2 => tb { D with nx := N, ct := N, bk := D.nx } σ2 H2) := by
  refine ⟨fun i m σ H => m = xs.length - i ∧ i ≤ xs.length ∧ Pv i σ H, ⟨xs.length, by simp, Nat.zero_le _, h0⟩, ?_⟩
  rintro i m σ H ⟨rfl, hi, p⟩
  have q := hl i σ H hi p
  by_cases hlt : i < xs.length
  · refine .inr ⟨⟨xs, xs[i], q, by simp [hlt]⟩, Pv (i + 1), fun σ' H' p' => ⟨xs.length - (i + 1), by omega, rfl, hlt, p'⟩, fun x H' y => ?_⟩
    obtain ⟨e, y⟩ := y
    subst e
    exact hs i x σ _ (y xs q) p
  · have e : i = xs.length := by omega
    subst e
    exact .inl ⟨⟨xs, q, Nat.le_refl _⟩, hd σ H p⟩
end L2

namespace L2
open PySem PySem.Spec PyProof.Rows

abbrev R2 := V → V → Hp → VK → Prop
def OpR (X : Cx) (f : Value → Value → Sem Value) (r : R2) : Prop :=
  ∀ (pins : List (Addr × Obj)) (s : Shared) (σ : St) (H : Hp) (x y : V) (v u : Value) (Q : VK), Inv X pins σ H s → RelV x v → RelV y u → r x y H Q →
    wpAny (model X.prog X.w) X.A (f v u) (EP X pins σ Q) X.xe s
def UnR (X : Cx) (f : Value → Sem Value) (r : V → Hp → VK → Prop) : Prop :=
  ∀ (pins : List (Addr × Obj)) (s : Shared) (σ : St) (H : Hp) (x : V) (v : Value) (Q : VK), Inv X pins σ H s → RelV x v → r x H Q →
    wpAny (model X.prog X.w) X.A (f v) (EP X pins σ Q) X.xe s
def CallR (X : Cx) (f : Value) (r : List V → Hp → VK → Prop) : Prop :=
  ∀ (pins : List (Addr × Obj)) (s : Shared) (σ : St) (H : Hp) (xs : List V) (us : List Value) (Q : VK), Inv X pins σ H s → Vals xs us → r xs H Q →
    wpAny (model X.prog X.w) X.A (call f us) (EP X pins σ Q) X.xe s
def tOp (r : R2) (ta tb : TE) : TE := fun σ H Q => ta σ H fun x H1 => tb σ H1 fun y H2 => r x y H2 Q
def tUn (r : V → Hp → VK → Prop) (ta : TE) : TE := fun σ H Q => ta σ H fun x H1 => r x H1 Q
def rI (C : Int → Int → Prop) (g : Int → Int → V) : R2 := fun x y H Q => ∃ i j, x = .int i ∧ y = .int j ∧ C i j ∧ Q (g i j) H
def rI0 (g : Int → Int → V) : R2 := fun x y H Q => ∃ i j, x = .int i ∧ y = .int j ∧ Q (g i j) H
def rU (g : Int → V) : V → Hp → VK → Prop := fun x H Q => ∃ i, x = .int i ∧ Q (g i) H

section
variable {X : Cx} {a b c : Expr} {ta tb tc : TE} {pos : Pos}

theorem binT (ha : PE X a ta) (hb : PE X b tb) {pins : List (Addr × Obj)} {s : Shared} {σ : St} {H : Hp} {R : V → V → Hp → Prop} (I : Inv X pins σ H s)
    (h : ta σ H fun x H1 => tb σ H1 fun y H2 => R x y H2) {Q : Value → Shared → Prop} {f : Value → Value → Sem Value}
    (hf : ∀ v u s2 x y H2, Inv X pins σ H2 s2 → RelV x v → RelV y u → R x y H2 → wpAny (model X.prog X.w) X.A (f v u) Q X.xe s2) :
    wpAny (model X.prog X.w) X.A (eval a X.env) (fun v s₁ => wpAny (model X.prog X.w) X.A (eval b X.env) (fun u s₂ => wpAny (model X.prog X.w) X.A (f v u) Q X.xe s₂) X.xe s₁) X.xe s := by
  refine thn (ha pins s σ H _ I h) fun v s1 ⟨x, H1, I1, r1, q1⟩ => ?_
  refine thn (hb pins s1 σ H1 _ I1 q1) fun u s2 ⟨y, H2, I2, r2, q2⟩ => ?_
  exact hf v u s2 x y H2 I2 r1 r2 q2

theorem pe_op {op : Operator} {r : R2} (ho : OpR X (binaryOp op) r) (ha : PE X a ta) (hb : PE X b tb) : PE X (.BinOp a op b pos) (tOp r ta tb) := by
  intro pins s σ H Q I h
  exact wpAny_BinOp (binT ha hb I h fun v u s2 x y H2 I2 rx ry q => ho pins s2 σ H2 x y v u Q I2 rx ry q)
theorem pe_un {op : UnaryOp} {r : V → Hp → VK → Prop} (ho : UnR X (unaryOp op) r) (ha : PE X a ta) : PE X (.UnaryOp op a pos) (tUn r ta) := by
  intro pins s σ H Q I h
  exact UnaryOp_ (thn (ha pins s σ H _ I h) fun v s1 ⟨x, H1, I1, r1, q1⟩ => ho pins s1 σ H1 x v Q I1 r1 q1)
theorem opI {f : Value → Value → Sem Value} {C : Int → Int → Prop} {g : Int → Int → Int}
    (rule : ∀ (i j : Int) (t u : Tok) (s : Shared) (Q : Value → Shared → Prop) (E : Value → Shared → Prop), C i j → Q (.int (g i j) s.toks) { s with toks := s.toks + 1 } → wpAny (model X.prog X.w) X.A (f (.int i t) (.int j u)) Q E s) :
    OpR X f (rI C fun i j => .int (g i j)) := by
  intro pins s σ H x y v u Q I rx ry h
  obtain ⟨i, j, rfl, rfl, hc, q⟩ := h
  obtain ⟨t, rfl⟩ := rx
  obtain ⟨t', rfl⟩ := ry
  exact rule i j t t' s _ _ hc ⟨.int (g i j), H, I.tok _, ⟨_, rfl⟩, q⟩
theorem opI0 {f : Value → Value → Sem Value} {g : Int → Int → Int}
    (rule : ∀ (i j : Int) (t u : Tok) (s : Shared) (Q : Value → Shared → Prop) (E : Value → Shared → Prop), Q (.int (g i j) s.toks) { s with toks := s.toks + 1 } → wpAny (model X.prog X.w) X.A (f (.int i t) (.int j u)) Q E s) :
    OpR X f (rI0 fun i j => .int (g i j)) := by
  intro pins s σ H x y v u Q I rx ry h
  obtain ⟨i, j, rfl, rfl, q⟩ := h
  obtain ⟨t, rfl⟩ := rx
  obtain ⟨t', rfl⟩ := ry
  exact rule i j t t' s _ _ ⟨.int (g i j), H, I.tok _, ⟨_, rfl⟩, q⟩
theorem opB0 {f : Value → Value → Sem Value} {g : Int → Int → Bool}
    (rule : ∀ (i j : Int) (t u : Tok) (s : Shared) (Q : Value → Shared → Prop) (E : Value → Shared → Prop), Q (.bool (g i j)) s → wpAny (model X.prog X.w) X.A (f (.int i t) (.int j u)) Q E s) :
    OpR X f (rI0 fun i j => .bl (g i j)) := by
  intro pins s σ H x y v u Q I rx ry h
  obtain ⟨i, j, rfl, rfl, q⟩ := h
  obtain ⟨t, rfl⟩ := rx
  obtain ⟨t', rfl⟩ := ry
  exact rule i j t t' s _ _ ⟨.bl (g i j), H, I, rfl, q⟩

def CMul (i j : Int) : Prop := (-(2 ^ 64) < i ∧ i < 2 ^ 64) ∨ (-(2 ^ 64) < j ∧ j < 2 ^ 64)
theorem CMul.ok {i j : Int} (h : CMul i j) : IntMulOk i j := by
  rcases h with ⟨h1, h2⟩ | ⟨h1, h2⟩
  · exact .of_left (intBits_le_64 h1 h2)
  · exact .of_right (intBits_le_64 h1 h2)
theorem op_add : OpR X (binaryOp .Add) (rI0 fun i j => .int (i + j)) := opI0 fun _ _ _ _ _ _ _ q => add_int q
theorem op_sub : OpR X (binaryOp .Sub) (rI0 fun i j => .int (i - j)) := opI0 fun _ _ _ _ _ _ _ q => sub_int q
theorem op_mod : OpR X (binaryOp .Mod) (rI (fun _ j => 0 < j) fun i j => .int (i % j)) := opI fun i j _ _ _ _ _ hc q => by
  have h1 : (0 : Int) < j := hc
  exact mod_int' (by omega) (by rw [Int.fmod_eq_emod_of_nonneg i (by omega)]; exact q)
theorem unI {f : Value → Sem Value} {g : Int → Int}
    (rule : ∀ (i : Int) (t : Tok) (s : Shared) (Q : Value → Shared → Prop) (E : Value → Shared → Prop), Q (.int (g i) s.toks) { s with toks := s.toks + 1 } → wpAny (model X.prog X.w) X.A (f (.int i t)) Q E s) :
    UnR X f (rU fun i => .int (g i)) := by
  intro pins s σ H x v Q I rx h
  obtain ⟨i, rfl, q⟩ := h
  obtain ⟨t, rfl⟩ := rx
  exact rule i t s _ _ ⟨.int (g i), H, I.tok _, ⟨_, rfl⟩, q⟩
theorem un_neg : UnR X (unaryOp .USub) (rU fun i => .int (-i)) := unI fun _ _ _ _ _ q => neg_int q
end

def scal : V → V → Bool
  | .non, .non => true | .non, .int _ => true | .int _, .non => true | .non, .bl _ => true | .bl _, .non => true | .non, .str _ => true | .str _, .non => true
  | .int _, .int _ => true | .bl _, .bl _ => true | .str _, .str _ => true | .byt _, .byt _ => true
  | .int _, .str _ => true | .str _, .int _ => true | .bl _, .str _ => true | .str _, .bl _ => true
  | _, _ => false
def rEq : R2 := fun x y H Q => scal x y = true ∧ Q (.bl (decide (x = y))) H
def rNe : R2 := fun x y H Q => scal x y = true ∧ Q (.bl (!decide (x = y))) H

theorem dec_int {i j : Int} : decide (V.int i = V.int j) = (i == j) := by
  rw [Bool.eq_iff_iff]
  simp
theorem dec_bl {i j : Bool} : decide (V.bl i = V.bl j) = (i == j) := by
  rw [Bool.eq_iff_iff]
  simp
theorem dec_str {i j : Str} : decide (V.str i = V.str j) = (i == j) := by
  rw [Bool.eq_iff_iff]
  simp
theorem dec_byt {i j : Array UInt8} : decide (V.byt i = V.byt j) = (i.toList == j.toList) := by
  rw [Bool.eq_iff_iff]
  cases i
  cases j
  simp

section
variable {X : Cx} {a b c : Expr} {ta tb tc : TE} {pos : Pos}
theorem fin_bl {pins : List (Addr × Obj)} {σ : St} {H : Hp} {s : Shared} {Q : VK} {k k' : Bool} (I : Inv X pins σ H s) (q : Q (.bl k) H) (e : k = k') : EP X pins σ Q (.bool k') s := by
  subst e
  exact ⟨.bl k, H, I, rfl, q⟩
theorem op_eq : OpR X (compareOp .Eq) rEq := by
  intro pins s σ H x y v u Q I rx ry h
  obtain ⟨hs, q⟩ := h
  cases x with
  | non =>
    cases rx
    cases y with
    | non => cases ry; exact PySem.EqNone.eq_none_none (fin_bl I q (by simp))
    | bl j => cases ry; exact PySem.EqNone.eq_none_bool (fin_bl I q (by simp))
    | int j => obtain ⟨t', rfl⟩ := ry; exact PySem.EqNone.eq_none_int (fin_bl I q (by simp))
    | str j => obtain ⟨t', rfl⟩ := ry; exact PySem.EqNone.eq_none_str (fin_bl I q (by simp))
    | _ => exact absurd (show false = true from hs) Bool.false_ne_true
  | bl i =>
    cases rx
    cases y with
    | non => cases ry; exact PySem.EqNone.eq_bool_none (fin_bl I q (by simp))
    | bl j => cases ry; exact eq_bool (fin_bl I q dec_bl)
    | str j => obtain ⟨t', rfl⟩ := ry; exact PySem.EqMixed.eq_bool_str (fin_bl I q (by simp))
    | _ => exact absurd (show false = true from hs) Bool.false_ne_true
  | int i =>
    obtain ⟨t, rfl⟩ := rx
    cases y with
    | non => cases ry; exact PySem.EqNone.eq_int_none (fin_bl I q (by simp))
    | int j => obtain ⟨t', rfl⟩ := ry; exact eq_int (fin_bl I q dec_int)
    | str j => obtain ⟨t', rfl⟩ := ry; exact PySem.EqMixed.eq_int_str (fin_bl I q (by simp))
    | _ => exact absurd (show false = true from hs) Bool.false_ne_true
  | str i =>
    obtain ⟨t, rfl⟩ := rx
    cases y with
    | non => cases ry; exact PySem.EqNone.eq_str_none (fin_bl I q (by simp))
    | bl j => cases ry; exact PySem.EqMixed.eq_str_bool (fin_bl I q (by simp))
    | int j => obtain ⟨t', rfl⟩ := ry; exact PySem.EqMixed.eq_str_int (fin_bl I q (by simp))
    | str j => obtain ⟨t', rfl⟩ := ry; exact eq_str (fin_bl I q dec_str)
    | _ => exact absurd (show false = true from hs) Bool.false_ne_true
  | byt i =>
    obtain ⟨t, rfl⟩ := rx
    cases y with
    | byt j => obtain ⟨t', rfl⟩ := ry; exact PySem.W.eq_bytes (fin_bl I q dec_byt)
    | _ => exact absurd (show false = true from hs) Bool.false_ne_true
  | _ => cases y <;> exact absurd (show false = true from hs) Bool.false_ne_true
theorem op_ne : OpR X (compareOp .NotEq) rNe := by
  intro pins s σ H x y v u Q I rx ry h
  obtain ⟨hs, q⟩ := h
  cases x with
  | non =>
    cases rx
    cases y with
    | non => cases ry; exact PySem.EqNone.ne_none_none (fin_bl I q (by simp))
    | bl j => cases ry; exact PySem.EqNone.ne_none_bool (fin_bl I q (by simp))
    | int j => obtain ⟨t', rfl⟩ := ry; exact PySem.EqNone.ne_none_int (fin_bl I q (by simp))
    | str j => obtain ⟨t', rfl⟩ := ry; exact PySem.EqNone.ne_none_str (fin_bl I q (by simp))
    | _ => exact absurd (show false = true from hs) Bool.false_ne_true
  | bl i =>
    cases rx
    cases y with
    | non => cases ry; exact PySem.EqNone.ne_bool_none (fin_bl I q (by simp))
    | bl j => cases ry; exact ne_bool (fin_bl I q (congrArg not dec_bl))
    | str j => obtain ⟨t', rfl⟩ := ry; exact PySem.EqMixed.ne_bool_str (fin_bl I q (by simp))
    | _ => exact absurd (show false = true from hs) Bool.false_ne_true
  | int i =>
    obtain ⟨t, rfl⟩ := rx
    cases y with
    | non => cases ry; exact PySem.EqNone.ne_int_none (fin_bl I q (by simp))
    | int j => obtain ⟨t', rfl⟩ := ry; exact ne_int (fin_bl I q (congrArg not dec_int))
    | str j => obtain ⟨t', rfl⟩ := ry; exact PySem.EqMixed.ne_int_str (fin_bl I q (by simp))
    | _ => exact absurd (show false = true from hs) Bool.false_ne_true
  | str i =>
    obtain ⟨t, rfl⟩ := rx
    cases y with
    | non => cases ry; exact PySem.EqNone.ne_str_none (fin_bl I q (by simp))
    | bl j => cases ry; exact PySem.EqMixed.ne_str_bool (fin_bl I q (by simp))
    | int j => obtain ⟨t', rfl⟩ := ry; exact PySem.EqMixed.ne_str_int (fin_bl I q (by simp))
    | str j => obtain ⟨t', rfl⟩ := ry; exact ne_str (fin_bl I q (congrArg not dec_str))
    | _ => exact absurd (show false = true from hs) Bool.false_ne_true
  | byt i =>
    obtain ⟨t, rfl⟩ := rx
    cases y with
    | byt j => obtain ⟨t', rfl⟩ := ry; exact PySem.W.ne_bytes (fin_bl I q (congrArg not dec_byt))
    | _ => exact absurd (show false = true from hs) Bool.false_ne_true
  | _ => cases y <;> exact absurd (show false = true from hs) Bool.false_ne_true

theorem op_lt : OpR X (compareOp .Lt) (rI0 fun i j => .bl (decide (i < j))) := opB0 fun _ _ _ _ _ _ _ q => lt_int q
theorem op_le : OpR X (compareOp .LtE) (rI0 fun i j => .bl (decide (i ≤ j))) := opB0 fun _ _ _ _ _ _ _ q => le_int q
theorem op_gt : OpR X (compareOp .Gt) (rI0 fun i j => .bl (decide (j < i))) := opB0 fun _ _ _ _ _ _ _ q => gt_int q
theorem op_ge : OpR X (compareOp .GtE) (rI0 fun i j => .bl (decide (j ≤ i))) := opB0 fun _ _ _ _ _ _ _ q => ge_int q
theorem OpR.or {f : Value → Value → Sem Value} {r r' : R2} (h : OpR X f r) (h' : OpR X f r') : OpR X f (fun x y H Q => r x y H Q ∨ r' x y H Q) := by
  intro pins s σ H x y v u Q I rx ry q
  rcases q with q | q
  · exact h pins s σ H x y v u Q I rx ry q
  · exact h' pins s σ H x y v u Q I rx ry q

theorem nomark (b : Expr) {op : CmpOp} (h : op ≠ .In := by decide) (h2 : op ≠ .NotIn := by decide) : behindInMarks op b = false := by
  have e1 : (op == CmpOp.In) = false := by cases op <;> first | rfl | exact absurd rfl h
  have e2 : (op == CmpOp.NotIn) = false := by cases op <;> first | rfl | exact absurd rfl h2
  cases b <;> simp [behindInMarks, e1, e2]
theorem pe_cmpR {op : CmpOp} {r : R2} (ho : OpR X (compareOp op) r) (ha : PE X a ta) (hb : PE X b tb) (hm : behindInMarks op b = false) : PE X (.Compare a [op] [b] pos) (tOp r ta tb) := by
  intro pins s σ H Q I h
  exact wpAny_Compare1 (binT ha hb I h fun v u s2 x y H2 I2 rx ry q => ho pins s2 σ H2 x y v u Q I2 rx ry q) hm
def tTest (t : TE) : TT := fun σ H Q => t σ H fun x H' => ∃ k, x = .bl k ∧ Q k H'
theorem pt_cmpR {op : CmpOp} {r : R2} (ho : OpR X (compareOp op) r) (ha : PE X a ta) (hb : PE X b tb) (hm : behindInMarks op b = false) : PT X (.Compare a [op] [b] pos) (tTest (tOp r ta tb)) := by
  intro pins s σ H Q I h
  refine wpAny_isTrue_Compare1 (thn (ha pins s σ H _ I h) fun v s1 ⟨x, H1, I1, r1, q1⟩ => thn (hb pins s1 σ H1 _ I1 q1) fun u s2 ⟨y, H2, I2, r2, q2⟩ =>
    thn (ho pins s2 σ H2 x y v u _ I2 r1 r2 q2) fun c s3 ⟨z, H3, I3, r3, k, e, q3⟩ => ?_) hm
  subst e
  cases r3
  exact wpAny_truthy_bool ⟨H3, I3, q3⟩
def tChain (r r' : R2) (ta tb tc : TE) : TE := fun σ H Q => ta σ H fun x H1 => tb σ H1 fun y H2 => r x y H2 fun z H3 => ∃ k, z = .bl k ∧
  (if k = true then tc σ H3 fun w' H4 => r' y w' H4 Q else Q (.bl false) H3)
theorem pe_chain {op op' : CmpOp} {r r' : R2} (ho : OpR X (compareOp op) r) (ho' : OpR X (compareOp op') r') (ha : PE X a ta) (hb : PE X b tb) (hc : PE X c tc)
    (hm : lastMarks [op, op'] [b, c] = false := by with_unfolding_all rfl) : PE X (.Compare a [op, op'] [b, c] pos) (tChain r r' ta tb tc) := by
  intro pins s σ H Q I h
  refine Compare_chain (thn (ha pins s σ H _ I h) fun v s1 ⟨x, H1, I1, r1, q1⟩ => chain_link (thn (hb pins s1 σ H1 _ I1 q1) fun u s2 ⟨y, H2, I2, r2, q2⟩ =>
    thn (ho pins s2 σ H2 x y v u _ I2 r1 r2 q2) fun d s3 ⟨z, H3, I3, r3, k, e, q3⟩ => ?_)) hm
  subst e
  cases r3
  refine wpAny_truthy_bool ?_
  cases k with
  | false => exact ite_ff ⟨.bl false, H3, I3, rfl, q3⟩
  | true => exact ite_tt (chain_last (thn (hc pins s3 σ H3 _ I3 q3) fun w' s4 ⟨z', H4, I4, r4, q4⟩ => ho' pins s4 σ H4 y z' u w' Q I4 r2 r4 q4))
theorem pt_chain {op op' : CmpOp} {r r' : R2} (ho : OpR X (compareOp op) r) (ho' : OpR X (compareOp op') r') (ha : PE X a ta) (hb : PE X b tb) (hc : PE X c tc)
    (hm : lastMarks [op, op'] [b, c] = false := by with_unfolding_all rfl) : PT X (.Compare a [op, op'] [b, c] pos) (tTest (tChain r r' ta tb tc)) := by
  intro pins s σ H Q I h
  refine isTrue_chain (thn (ha pins s σ H _ I h) fun v s1 ⟨x, H1, I1, r1, q1⟩ => test_link (thn (hb pins s1 σ H1 _ I1 q1) fun u s2 ⟨y, H2, I2, r2, q2⟩ =>
    thn (ho pins s2 σ H2 x y v u _ I2 r1 r2 q2) fun d s3 ⟨z, H3, I3, r3, k, e, q3⟩ => ?_)) hm
  subst e
  cases r3
  refine wpAny_truthy_bool ?_
  cases k with
  | false =>
    obtain ⟨k', e', q'⟩ := q3
    cases e'
    exact ite_ff ⟨H3, I3, q'⟩
  | true =>
    refine ite_tt (test_last (thn (hc pins s3 σ H3 _ I3 q3) fun w' s4 ⟨z', H4, I4, r4, q4⟩ => thn (ho' pins s4 σ H4 y z' u w' _ I4 r2 r4 q4) fun d' s5 ⟨z2, H5, I5, r5, k2, e2, q5⟩ => ?_))
    subst e2
    cases r5
    exact wpAny_truthy_bool ⟨H5, I5, q5⟩

theorem line63 : (sizeLine : Nat) < 2 ^ 63 := by rw [sizeLine_eq]; decide
theorem op_add_str : OpR X (binaryOp .Add) (fun x y H Q => ∃ i j, x = .str i ∧ y = .str j ∧ i.length + j.length ≤ sizeLine ∧ Q (.str (i ++ j)) H) := by
  intro pins s σ H x y v u Q I rx ry h
  obtain ⟨i, j, rfl, rfl, hz, q⟩ := h
  obtain ⟨t, rfl⟩ := rx
  obtain ⟨t', rfl⟩ := ry
  exact add_str (fun t' tk => ⟨.str (i ++ j), H, I.tok _, ⟨_, rfl⟩, q⟩) hz
theorem vals1 {x : V} {us : List Value} (r : Vals [x] us) : ∃ u, us = [u] ∧ RelV x u := by
  cases r with
  | cons r1 r2 => cases r2; exact ⟨_, rfl, r1⟩
theorem call_ord : CallR X (.builtin "ord") (fun xs H Q => ∃ x, xs = [.str x] ∧ x.length = 1 ∧ Q (.int (x.cps.getD 0 0 : Nat)) H) := by
  intro pins s σ H xs us Q I r h
  obtain ⟨x, rfl, hz, q⟩ := h
  obtain ⟨u, rfl, t, rfl⟩ := vals1 r
  exact ord_of_one hz ⟨.int _, H, I.tok _, ⟨_, rfl⟩, q⟩
end
end L2

namespace L2
open PySem PySem.Spec PyProof.Rows

structure ObjM (h : Heap) (x dx C : Addr) (mA : Str → Option Value) : Prop where
  obj : h.get? x = some (PySem.W.instObj C dx)
  ns : h.Ns1 dx mA
  ne : dx ≠ x

theorem lookIn_ns {h : Heap} {dx : Addr} {mA : Str → Option Value} (n : h.Ns1 dx mA) : ∃ od, h.get? dx = some od ∧ ∀ name, PySem.W.lookIn name od = some (mA name) := by
  obtain ⟨o, es, ep, ho, hd, hk, _, hm⟩ := n
  refine ⟨o, ho, fun name => ?_⟩
  have e := hm name
  unfold nsFind findBy at e
  rw [← Array.find?_toList] at e
  unfold PySem.W.lookIn
  rw [hd]
  dsimp only
  split
  · rename_i y q
    rw [q] at e
    exact congrArg some e
  · rename_i q
    rw [q] at e
    have a : es.toList.any (·.refKey) = false := by
      rw [List.any_eq_false]
      intro y hy
      obtain ⟨z, t, hkey⟩ := hk y (Array.mem_toList_iff.mp hy)
      simp [DictEntry.refKey, hkey]
    have a' : ¬ es.toList.any (·.refKey) = true := by rw [a]; exact Bool.false_ne_true
    rw [if_neg a']
    exact congrArg some e

theorem ObjM.look {h : Heap} {x dx C : Addr} {mA : Str → Option Value} (I : ObjM h x dx C mA) : ∃ od, PySem.W.InstAt h x (PySem.W.instObj C dx) C (some od) ∧ ∀ name, PySem.W.lookIn name od = some (mA name) :=
  let ⟨od, ho, hl⟩ := lookIn_ns I.ns
  ⟨od, ⟨I.obj, rfl, rfl, ho⟩, hl⟩

section
variable {prog : Program} {w : World} {A : Around} {E : Value → Shared → Prop} {s : Shared} {K : PySem.W.Frag} {x dx C f : Addr} {mA : Str → Option Value} {name : Str} {v : Value}

theorem get_map {expr : Bool} {Q : Value → Shared → Prop} (X : K.In s.heap) (I : ObjM s.heap x dx C mA) (hg : PySem.W.plainGet K C name = true) (hh : PySem.W.hasDictIn K C = true)
    (ha : PySem.W.findIn K (.ref C) name = some none) (hv : mA name = some v) (hv' : PySem.W.handedIn v = true) (h : Q v { s with toks := s.toks + 1 }) :
    wpAny (model prog w) A (getAttr (.ref x) name expr) Q E s := by
  obtain ⟨od, J, hl⟩ := I.look
  exact PySem.W.get_value X J (PySem.W.plainGet_of hg).1 (PySem.W.findObj_own hh ha rfl (by rw [hl, hv])) hv' h

theorem set_map {ns : List Str} {Q : Unit → Shared → Prop} (X : K.In s.heap) (I : ObjM s.heap x dx C mA)
    (hs : PySem.W.findIn K (.ref C) "__setattr__" = some (some (.builtin "object.__setattr__"))) (hp : PySem.W.plainOver K C = true) (ht : PySem.W.takerIn K C name = some none) (hh : PySem.W.hasDictIn K C = true)
    (hw : PySem.Within mA ns) (hsz : ns.length ≤ sizeLine)
    (h : ∀ h', ObjM h' x dx C (fun y => if y = name then some v else mA y) → Heap.SameBut dx s.heap h' → Q () { s with heap := h', toks := s.toks + 2 }) :
    wpAny (model prog w) A (setAttr (.ref x) name v) Q E s := by
  obtain ⟨od, J, hl⟩ := I.look
  refine PySem.W.set_plain X J hs (PySem.W.osa_open (s := { s with toks := s.toks + 1 }) (r := none) X J hp ht fun b => ?_)
  obtain ⟨cd, hc, hd'⟩ := PySem.W.any_some hh
  have hx : s.heap.get? x = some ⟨.ref C, some dx, .plain, #[]⟩ := I.obj
  refine wpAny_bind (wpAny_pure (wpAny_bind (wpAny_bind (wpAny_loadPart hx (wpAny_bind (PySem.W.Looks.here (s := { s with toks := s.toks + 1 }) (PySem.W.looks_clsIn X hc) ?_))))))
  rw [hd']
  refine wpAny_pure (a := some dx) (wpAny_bind (wpAny_pure (wpAny_bind ?_)))
  refine wpAny_nsSet1 (s := { s with toks := s.toks + 1 }) I.ns fun h' hn2 hs2 => ?_
  obtain ⟨oD, esD, epD, hoD, hdD, hcD⟩ := hn2.count (PySem.Within.cons name v hw)
  refine wpAny_bind (wpAny_lookBehind hoD (by rw [hdD]; exact pastItsLine_dict (Nat.le_trans hcD (by rw [List.length_cons]; omega))) ?_)
  exact wpAny_pure (h _ ⟨(hs2.2 _ (Ne.symm I.ne)).trans I.obj, hn2, I.ne⟩ hs2)

theorem make_map {R : Result → Shared → Prop} {vs : List Value} {kw : List (Str × Value)} (X : K.In s.heap) (hm : PySem.W.makesIn K C = true)
    (hi : PySem.W.findIn K (.ref C) "__init__" = some (some (.ref f))) (hf : PySem.W.typeIn K (.ref f) = some (.type "function"))
    (h : codeAny (model prog w) (A.under (.builtin "type.__call__" ⟨.ref C :: vs, kw⟩)) (.call (.ref f) ⟨.ref (s.heap.objs.size + 1) :: vs, kw⟩) (PySem.W.InitBack (s.heap.objs.size + 1) R)
      { s with heap := (s.heap.push PySem.W.emptyDict).push (PySem.W.instObj C s.heap.objs.size) }) :
    codeAny (model prog w) A (.call (.ref C) ⟨vs, kw⟩) R s := by
  obtain ⟨hh, g, d, t, os⟩ := s
  exact PySem.W.make_core (PySem.W.makes_of X hm) (PySem.W.looks_findIn X hi) (fun self => PySem.W.bind_fn X self hf) (.inl rfl) h
end

def putF (f : Str) (v : V) : List (Str × V) → List (Str × V)
  | [] => [(f, v)]
  | (g, x) :: r => if g = f then (g, v) :: r else (g, x) :: putF f v r
theorem lookup_putF (f g : Str) (v : V) : ∀ fs : List (Str × V), (putF f v fs).lookup g = if g = f then some v else fs.lookup g
  | [] => by
    show List.lookup g [(f, v)] = _
    by_cases h : g = f
    · have hb : (g == f) = true := beq_iff_eq.mpr h
      simp only [List.lookup, hb, if_pos h]
    · have hb : (g == f) = false := beq_eq_false_iff_ne.mpr h
      simp only [List.lookup, hb, if_neg h]
  | (k, x) :: r => by
    have ih := lookup_putF f g v r
    rw [show putF f v ((k, x) :: r) = (if k = f then (k, v) :: r else (k, x) :: putF f v r) from rfl]
    by_cases hk : k = f
    · rw [if_pos hk]
      by_cases h : g = k
      · have hb : (g == k) = true := beq_iff_eq.mpr h
        simp only [List.lookup, hb, if_pos (h.trans hk)]
      · have hb : (g == k) = false := beq_eq_false_iff_ne.mpr h
        simp only [List.lookup, hb, if_neg (fun e : g = f => h (e.trans hk.symm))]
    · rw [if_neg hk]
      by_cases h : g = k
      · have hb : (g == k) = true := beq_iff_eq.mpr h
        simp only [List.lookup, hb, if_neg (fun e : g = f => hk (h.symm.trans e))]
      · have hb : (g == k) = false := beq_eq_false_iff_ne.mpr h
        simp only [List.lookup, hb]
        exact ih
theorem keys_putF (f : Str) (v : V) : ∀ fs : List (Str × V), f ∈ (putF f v fs).map (·.1) ∧ ∀ g, g ∈ fs.map (·.1) → g ∈ (putF f v fs).map (·.1)
  | [] => ⟨by simp [putF], fun g h => by simp at h⟩
  | (k, x) :: r => by
    obtain ⟨i1, i2⟩ := keys_putF f v r
    rw [show putF f v ((k, x) :: r) = (if k = f then (k, v) :: r else (k, x) :: putF f v r) from rfl]
    by_cases hk : k = f
    · rw [if_pos hk]
      subst hk
      exact ⟨by simp, fun g h => by simpa using h⟩
    · rw [if_neg hk]
      refine ⟨?_, fun g h => ?_⟩
      · rw [List.map_cons]
        exact List.mem_cons_of_mem _ i1
      · rw [List.map_cons] at h ⊢
        rcases List.mem_cons.mp h with e | e
        · exact List.mem_cons.mpr (.inl e)
        · exact List.mem_cons_of_mem _ (i2 g e)
theorem length_putF (f : Str) (v : V) : ∀ fs : List (Str × V), (putF f v fs).length ≤ fs.length + 1
  | [] => by simp [putF]
  | (k, x) :: r => by
    have ih := length_putF f v r
    rw [show putF f v ((k, x) :: r) = (if k = f then (k, v) :: r else (k, x) :: putF f v r) from rfl]
    by_cases hk : k = f
    · rw [if_pos hk, List.length_cons, List.length_cons]; omega
    · rw [if_neg hk, List.length_cons, List.length_cons]; omega

theorem RelO.some_of {v : V} {o : Option Value} (r : RelO (some v) o) : ∃ u, o = some u ∧ RelV v u := by
  cases o with
  | none => exact (show False from r).elim
  | some u => exact ⟨u, rfl, r⟩
theorem handed_of {v : V} {u : Value} (r : RelV v u) : PySem.W.handedIn u = true := by
  cases v with
  | non => cases (show u = Value.none from r); rfl
  | bl b => cases (show u = Value.bool b from r); rfl
  | int i => obtain ⟨t, e⟩ := (show ∃ t, u = Value.int i t from r); cases e; rfl
  | str x => obtain ⟨t, e⟩ := (show ∃ t, u = Value.str x t from r); cases e; rfl
  | byt b => obtain ⟨t, e⟩ := (show ∃ t, u = Value.bytes b t from r); cases e; rfl
  | flt b => obtain ⟨t, e⟩ := (show ∃ t, u = Value.float b t from r); cases e; rfl
  | ref a => cases (show u = Value.ref a from r); rfl
  | ty n => cases (show u = Value.type n from r); rfl

section
variable {P : Program} {w : World} {H H' : Hp} {h h' : Heap} {a C dx : Addr} {fs fs' : List (Str × V)}
theorem ins_get (hok : HOk P w H h) (e : H a = some (.ins C dx fs)) : ∃ mA, ObjM h a dx C mA ∧ (∀ f, RelO (fs.lookup f) (mA f)) ∧ PySem.Within mA (fs.map (·.1)) ∧ fs.length ≤ 1000 ∧ H dx = some (.own a) := by
  obtain ⟨d, z, ne, ob, mA, n, r, q⟩ := (show ObjOk P w H h a (.ins C dx fs) from hok a _ e)
  exact ⟨mA, ⟨ob, n, ne⟩, r, q, z, d⟩
end

structure Cls (K : PySem.W.Frag) (C : Addr) : Prop where
  pg : PySem.W.plainGet K C Str.empty = true
  hd : PySem.W.hasDictIn K C = true
  po : PySem.W.plainOver K C = true
  sa : PySem.W.findIn K (.ref C) "__setattr__" = some (some (.builtin "object.__setattr__"))
theorem Cls.get {K : PySem.W.Frag} {C : Addr} (c : Cls K C) (f : Str) : PySem.W.plainGet K C f = true := c.pg
def NoAttr (K : PySem.W.Frag) (C : Addr) (f : Str) : Prop := PySem.W.findIn K (.ref C) f = some none
theorem NoAttr.taker {K : PySem.W.Frag} {C : Addr} {f : Str} (n : NoAttr K C f) : PySem.W.takerIn K C f = some none := by
  unfold PySem.W.takerIn
  rw [show PySem.W.findIn K (.ref C) f = some none from n]
  rfl
section
variable {X : Cx} {pins : List (Addr × Obj)} {σ : St} {H : Hp} {s : Shared} {a C dx : Addr} {fs : List (Str × V)} {f : Str} {v : V} {A : Around} {E : Value → Shared → Prop}

theorem getattr_ok {b : Bool} {Q : Value → Shared → Prop} (I : Inv X pins σ H s) (e : H a = some (.ins C dx fs)) (c : Cls X.K C) (n : NoAttr X.K C f) (l : fs.lookup f = some v)
    (h : ∀ u s', Inv X pins σ H s' → RelV v u → Q u s') : wpAny (model X.prog X.w) A (getAttr (.ref a) f b) Q E s := by
  obtain ⟨mA, O, r, _, _, _⟩ := ins_get I.hok e
  obtain ⟨u, hu, ru⟩ := RelO.some_of (v := v) (o := mA f) (by rw [← l]; exact r f)
  exact get_map I.kIn O (c.get f) c.hd n hu (handed_of ru) (h u _ (I.tok _) ru)

theorem setattr_ok {y : V} {u : Value} {Q : Unit → Shared → Prop} (I : Inv X pins σ H s) (e : H a = some (.ins C dx fs)) (c : Cls X.K C) (n : NoAttr X.K C f) (hl : fs.length < 1000) (ry : RelV y u)
    (h : ∀ s', Inv X pins σ (upd H a (.ins C dx (putF f y fs))) s' → Q () s') : wpAny (model X.prog X.w) A (setAttr (.ref a) f u) Q E s := by
  obtain ⟨mA, O, r, wi, _, ho⟩ := ins_get I.hok e
  have hz : (fs.map (·.1)).length ≤ sizeLine := by rw [List.length_map, sizeLine_eq]; omega
  refine set_map I.kIn O c.sa c.po n.taker c.hd wi hz fun h' O' sb => h _ ?_
  have hd : ∃ o, h'.get? dx = some o := let ⟨o, _, _, e', _⟩ := O'.ns; ⟨o, e'⟩
  refine I.write (x := a) (e := dx) (by rw [e]; exact True.intro) (.inr ho) (fun b q hb z => (sb.2 b hb).trans z) hd ?_
  refine ⟨by rw [upd_ne O.ne]; exact ho, ?_, O.ne, O'.obj, _, O'.ns, fun g => ?_, fun g hg => ?_⟩
  · have := length_putF f y fs; omega
  · show RelO ((putF f y fs).lookup g) (if g = f then some u else mA g)
    rw [lookup_putF]
    by_cases q : g = f
    · rw [if_pos q, if_pos q]; exact ry
    · rw [if_neg q, if_neg q]; exact r g
  · by_cases q : g = f
    · rw [q]; exact (keys_putF f y fs).1
    · refine (keys_putF f y fs).2 g (wi g fun z => hg ?_)
      show (if g = f then some u else mA g) = none
      rw [if_neg q]; exact z

theorem Inv.made (I : Inv X pins σ H s) : Inv X pins σ (upd (upd H s.heap.objs.size (.own (s.heap.objs.size + 1))) (s.heap.objs.size + 1) (.ins C s.heap.objs.size []))
    { s with heap := (s.heap.push PySem.W.emptyDict).push (PySem.W.instObj C s.heap.objs.size) } := by
  have e1 : (s.heap.push PySem.W.emptyDict).get? s.heap.objs.size = some PySem.W.emptyDict := Heap.get?_push_size s.heap rfl
  have e2 : ((s.heap.push PySem.W.emptyDict).push (PySem.W.instObj C s.heap.objs.size)).get? (s.heap.objs.size + 1) = some (PySem.W.instObj C s.heap.objs.size) := by
    have := Heap.get?_push_size (s.heap.push PySem.W.emptyDict) (o := PySem.W.instObj C s.heap.objs.size) rfl
    rwa [Heap.size_push] at this
  have e3 : (s.heap.push PySem.W.emptyDict).Ns s.heap.objs.size (fun _ => none) := ⟨PySem.W.emptyDict, #[], _, e1, rfl, (fun e he => absurd he (by simp)), fun _ => rfl⟩
  have I1 := I.laid (a := s.heap.objs.size) (o := .own (s.heap.objs.size + 1)) (h' := s.heap.push PySem.W.emptyDict) (t' := s.toks) (fun b u q => Heap.get?_push_of_some _ q) (Nat.le_refl _) ⟨_, e1⟩
  refine I1.laid (a := s.heap.objs.size + 1) (o := .ins C s.heap.objs.size []) (t' := s.toks) (fun b u q => Heap.get?_push_of_some _ q) (Nat.le_of_eq (Heap.size_push _ _)) ?_
  have ne : s.heap.objs.size ≠ s.heap.objs.size + 1 := Nat.ne_of_lt (Nat.lt_succ_self _)
  refine ⟨by rw [upd_ne ne, upd_same], Nat.zero_le _, ne, e2, fun _ => none, (Heap.Ns1.of_empty e3).at fun o q => Heap.get?_push_of_some _ q, fun _ => True.intro, fun y hy => absurd rfl hy⟩

theorem attr_of {prog : Program} {w : World} {env : Env} {e : Expr} {f : Str} {pos : Pos} {s : Shared} {Q : Value → Shared → Prop} (hb : attributeBase e f env (eval e env) = eval e env)
    (h : wpAny (model prog w) A (eval e env) (fun o s₁ => wpAny (model prog w) A (getAttr o f true) Q E s₁) E s) : wpAny (model prog w) A (eval (.Attribute e f pos) env) Q E s :=
  Attribute_any_ h (by rw [arm_eval_Attribute, hb])
end

def tFld (K : PySem.W.Frag) (ta : TE) (f : Str) : TE := fun σ H Q => ta σ H fun x H1 => ∃ a C dx fs v, x = .ref a ∧ H1 a = some (.ins C dx fs) ∧ Cls K C ∧ NoAttr K C f ∧ fs.lookup f = some v ∧ Q v H1
def sFld (K : PySem.W.Frag) (ta tv : TE) (f : Str) : TS := fun D σ H => tv σ H fun y H1 => ta σ H1 fun x H2 => ∃ a C dx fs, x = .ref a ∧ H2 a = some (.ins C dx fs) ∧ Cls K C ∧ NoAttr K C f ∧ fs.length < 1000 ∧
  D.nx σ (upd H2 a (.ins C dx (putF f y fs)))
section
variable {X : Cx} {o e value : Expr} {f : Str} {pos pos' tpos : Pos} {ta tv : TE}
theorem pe_fld (he : PE X e ta) (hb : attributeBase e f X.env (eval e X.env) = eval e X.env) : PE X (.Attribute e f pos) (tFld X.K ta f) := by
  intro pins s σ H Q I h
  refine attr_of hb (thn (he pins s σ H _ I h) fun u s1 ⟨x, H1, I1, rx, a, C, dx, fs, v, ex, ea, c, n, l, q⟩ => ?_)
  subst ex
  obtain rfl : u = Value.ref a := rx
  exact getattr_ok I1 ea c n l fun u' s2 I2 ru => ⟨v, H1, I2, ru, q⟩
theorem ps_fld (ha : PE X o ta) (hv : PE X value tv) (hs : swapsWith value (some (.Attribute o f pos')) pos.line X.env = pure false) : PS X (.Assign [.Attribute o f pos'] value pos) (sFld X.K ta tv f) := by
  intro pins s σ H D I h
  refine plainObj_wpAny_Assign_Attribute (thn (hv pins s σ H _ I h) fun u s1 ⟨y, H1, I1, ry, q⟩ => thn (ha pins s1 σ H1 _ I1 q) fun ov s2 ⟨x, H2, I2, rx, a, C, dx, fs, ex, ea, c, n, l, q2⟩ => ?_) hs
  subst ex
  obtain rfl : ov = Value.ref a := rx
  exact setattr_ok I2 ea c n l ry fun s3 I3 => ⟨σ, _, I3, q2⟩
end

section
variable {X : Cx} {pins : List (Addr × Obj)} {σ : St} {H : Hp} {s : Shared} {A : Around} {E : Value → Shared → Prop} {Q : Value → Shared → Prop} {c : Value} {b : Bool}
end
end L2

namespace L2
open PySem PySem.Spec PyProof.Rows

structure Room (k : Nat) (A : Around) : Prop where
  hd : A.handled = none
  dp : A.depth + 3 * k + 5 < recursionLimit
  un : A.units + 16 * k + 200 < cLine
theorem Room.mono {j k : Nat} {A : Around} (r : Room k A) (h : j ≤ k) : Room j A := ⟨r.hd, by have := r.dp; omega, by have := r.un; omega⟩
theorem Room.deeper {k : Nat} {A : Around} (r : Room (k + 1) A) (env : Env) : Room k (A.deeper env) :=
  ⟨r.hd, by have := r.dp; show A.depth + 1 + 3 * k + 5 < _; omega, by have := r.un; show A.units + 3 + 16 * k + 200 < _; omega⟩
theorem Room.in1 {k : Nat} {A : Around} (r : Room (k + 1) A) : Room k A.in1 :=
  ⟨r.hd, by have := r.dp; show A.depth + 3 * k + 5 < _; omega, by have := r.un; show A.units + 1 + 16 * k + 200 < _; omega⟩
theorem make_depth {A : Around} {C : Addr} {us : List Value} {kw : List (Str × Value)} : (A.under (.builtin "type.__call__" ⟨.ref C :: us, kw⟩)).depth = A.depth + 1 := by
  first | rfl | simp [Around.under, Code.weight, Code.isCreation, Code.isGuard, Code.isCaller, Code.frames, Code.isFrame, guardIds]
theorem make_units {A : Around} {C : Addr} {us : List Value} {kw : List (Str × Value)} : (A.under (.builtin "type.__call__" ⟨.ref C :: us, kw⟩)).units = A.units + 1 := by
  first | rfl | simp [Around.under, Code.cUnits, Code.frames, Code.isFrame]
theorem Room.make {k : Nat} {A : Around} (r : Room (k + 1) A) (C : Addr) (us : List Value) (kw : List (Str × Value)) : Room k (A.under (.builtin "type.__call__" ⟨.ref C :: us, kw⟩)) :=
  ⟨r.hd, by have := r.dp; rw [make_depth]; omega, by have := r.un; rw [make_units]; omega⟩
theorem Room.depth {k : Nat} {A : Around} (r : Room k A) : A.depth < recursionLimit := by have := r.dp; omega
theorem Room.units {k : Nat} {A : Around} (r : Room k A) : A.units + 64 < cLine := by have := r.un; omega
def tNil : TA := fun _ H Q => Q [] H
def tCons (ta : TE) (tr : TA) : TA := fun σ H Q => ta σ H fun x H1 => tr σ H1 fun xs H2 => Q (x :: xs) H2
section
variable {X : Cx} {e : Expr} {es : List Expr} {te : TE} {t : TA} {pos : Pos}
theorem pa_nil : PA X [] tNil := fun _ _ _ _ H Q I h => Calls.spliced_nil ⟨[], H, I, .nil, h⟩
theorem pa_cons (ha : PE X e te) (hr : PA X es t) (hs : starEach (e :: es) X.env = (false, eval e X.env) :: starEach es X.env := by rfl) : PA X (e :: es) (tCons te t) := by
  intro pos pins s σ H Q I h
  rw [hs]
  show wpAny _ _ (spliced ((false, eval e X.env) :: backTo pos (starEach es X.env))) _ _ s
  refine Calls.spliced_cons (thn (ha pins s σ H _ I h) fun u s1 ⟨x, H1, I1, r1, q1⟩ => ?_)
  exact thn (hr pos pins s1 σ H1 _ I1 q1) fun us s2 ⟨xs, H2, I2, r2, q2⟩ => ⟨x :: xs, H2, I2, .cons r1 r2, q2⟩

def tTup (t : TA) : TE := fun σ H Q => t σ H fun xs H1 => xs.length ≤ sizeLine ∧ ∀ p, H1 p = none → Q (.ref p) (upd H1 p (.tup xs))
def tLst (t : TA) : TE := fun σ H Q => t σ H fun xs H1 => xs.length ≤ sizeLine ∧ ∀ p, H1 p = none → Q (.ref p) (upd H1 p (.lst xs))
theorem pe_lst (h : PA X es t) : PE X (.List es pos) (tLst t) := by
  intro pins s σ H Q I hq
  refine wpAny_List_spliced (thn (h pos pins s σ H _ I hq) fun us s1 ⟨xs, H1, I1, r, z, q⟩ => ⟨by rw [← r.length]; exact z, ?_⟩)
  have hf : H1 s1.heap.objs.size = none := I1.hok.fresh (Nat.le_refl _)
  refine ⟨.ref s1.heap.objs.size, upd H1 s1.heap.objs.size (.lst xs), I1.laid (t' := s1.toks) (fun b u e => Heap.get?_push_of_some _ e) (Nat.le_refl _) ?_, rfl, q _ hf⟩
  exact ⟨z, us, 0, r, Heap.get?_push_size _ rfl⟩
end

abbrev Sp := List V → Hp → VK → XK → Prop
abbrev CXT := List Env → Hp → Shared → XK → Value → Shared → Prop

structure Env0 (P : Program) (w : World) (K : PySem.W.Frag) (mg : Str → Option Value) (base : Heap) (A : Around) (outer : List Env) (s : Shared) (H : Hp) : Prop where
  frames : A.frames = some outer
  mod : Mod K mg base
  bs : ∀ b o, base.get? b = some o → s.heap.get? b = some o ∧ H b = none
  bsz : base.objs.size ≤ s.heap.objs.size
  funs : s.heap.FunFrames base outer
  frf : ∀ b ∈ frs outer, H b = none
  hok : HOk P w H s.heap
  bare : AllBare s.gens
def CE (outer : List Env) (P : Program) (w : World) (H : Hp) (s : Shared) (Q : VK) (u : Value) (s' : Shared) : Prop :=
  ∃ v H', s'.os = s.os ∧ AllBare s'.gens ∧ Un (frs outer) [] H H' s.heap s'.heap ∧ HOk P w H' s'.heap ∧ RelV v u ∧ Q v H'
def CR (CX : CXT) (outer : List Env) (P : Program) (w : World) (H : Hp) (s : Shared) (Q : VK) (E : XK) (r : Result) (s' : Shared) : Prop :=
  match r with
  | .ok (.ret u) => CE outer P w H s Q u s'
  | .ok _ => False
  | .error e => CX outer H s E e s'
structure FnOk (P : Program) (w : World) (K : PySem.W.Frag) (mg : Str → Option Value) (base : Heap) (CX : CXT) (k : Nat) (f : Addr) (fd : FuncData) (ps : List Str) (sp : Sp) : Prop where
  len : ∀ vs H Q E, sp vs H Q E → vs.length = ps.length
  run : ∀ (A : Around) (outer : List Env) (s : Shared) (H : Hp) (args : Args) (us : List Value) (vs : List V) (Q : VK) (E : XK), Room k A → Env0 P w K mg base A outer s H → BindsTo s fd args (ps.zip us) → Vals vs us → sp vs H Q E →
    codeAny (model P w) A (.call (.ref f) args) (CR CX outer P w H s Q E) s
theorem FnOk.mono {P : Program} {w : World} {K : PySem.W.Frag} {mg : Str → Option Value} {base : Heap} {CX : CXT} {j k : Nat} {f : Addr} {fd : FuncData} {ps : List Str} {sp : Sp} (F : FnOk P w K mg base CX j f fd ps sp) (h : j ≤ k) :
    FnOk P w K mg base CX k f fd ps sp := ⟨F.len, fun A outer s H args us vs Q E hr => F.run A outer s H args us vs Q E (hr.mono h)⟩
theorem Env0.make {P : Program} {w : World} {K : PySem.W.Frag} {mg : Str → Option Value} {base : Heap} {A : Around} {outer : List Env} {s : Shared} {H : Hp} (e : Env0 P w K mg base A outer s H) (C : Addr) (us : List Value) (kw : List (Str × Value)) :
    Env0 P w K mg base (A.under (.builtin "type.__call__" ⟨.ref C :: us, kw⟩)) outer s H := ⟨by first | exact e.frames | (simpa [Around.under, Code.envs, Code.isFrame, pushEnvs] using e.frames), e.mod, e.bs, e.bsz, e.funs, e.frf, e.hok, e.bare⟩
theorem Env0.in1 {P : Program} {w : World} {K : PySem.W.Frag} {mg : Str → Option Value} {base : Heap} {A : Around} {outer : List Env} {s : Shared} {H : Hp} (e : Env0 P w K mg base A outer s H) :
    Env0 P w K mg base A.in1 outer s H := ⟨e.frames, e.mod, e.bs, e.bsz, e.funs, e.frf, e.hok, e.bare⟩

section
variable {X : Cx} {pins : List (Addr × Obj)} {σ : St} {H : Hp} {s s' : Shared}
theorem Inv.env0 (I : Inv X pins σ H s) : Env0 X.prog X.w X.K X.mg X.base X.A X.stack s H :=
  ⟨I.ok.frames, I.ok.mod, I.bs, Nat.le_trans I.ok.bsz I.sz, I.stack, I.stkFree, I.hok, I.bare⟩
theorem Inv.after {Q : VK} {u : Value} (I : Inv X pins σ H s) (h : CE X.stack X.prog X.w H s Q u s') : EP X pins σ Q u s' := by
  obtain ⟨v, H', os, bare, un, hok, r, q⟩ := h
  obtain ⟨hh, g, d, t, os'⟩ := s'
  obtain rfl : os' = s.os := os
  exact ⟨v, H', I.call (h' := hh) (g' := g) (d' := d) (t' := t) (ch := []) un hok bare (fun b z => absurd z (by simp)), r, q⟩
end

def tCall (sp : Sp) (dvs : List V) (E : XK) (t : TA) : TE := fun σ H Q => t σ H fun vs H1 => sp (vs ++ dvs) H1 Q E
def tMake (C : Addr) (sp : Sp) (dvs : List V) (E : XK) (t : TA) : TE := fun σ H Q => t σ H fun vs H1 => ∀ x dx, H1 x = none → H1 dx = none → dx ≠ x →
  sp (.ref x :: (vs ++ dvs)) (upd (upd H1 dx (.own x)) x (.ins C dx [])) (fun v H2 => v = .non ∧ Q (.ref x) H2) E

def Binds (K : PySem.W.Frag) (fd : FuncData) (ps : List Str) (ds : List Value) : Prop :=
  ∀ (s : Shared) (us : List Value), K.In s.heap → (us ++ ds).length = ps.length → BindsTo s fd ⟨us, []⟩ (ps.zip (us ++ ds))
theorem Binds.all {K : PySem.W.Frag} {fd : FuncData} {ps : List Str} (h : ∀ us : List Value, us.length = ps.length → bindArgs fd ⟨us, []⟩ = pure (ps.zip us)) : Binds K fd ps [] := fun s us _ hl => by
  rw [List.append_nil] at hl ⊢
  exact .of_eq (h us hl)

def Passes (CX : CXT) (X : Cx) (E : XK) : Prop := ∀ (pins : List (Addr × Obj)) (σ : St) (H : Hp) (s : Shared) (e : Value) (s' : Shared), Inv X pins σ H s → CX X.stack H s E e s' → X.xe e s'

section
variable {X : Cx} {CX : CXT} {k : Nat} {f C : Addr} {fd : FuncData} {ps : List Str} {sp : Sp} {dvs : List V} {ds : List Value} {E : XK} {x m : Str} {p pos apos : Pos} {e o : Expr} {es : List Expr} {ta : TE} {t : TA}

theorem run_fn {pins : List (Addr × Obj)} {σ : St} {H : Hp} {s : Shared} {Q : VK} {us : List Value} {vs : List V} (F : FnOk X.prog X.w X.K X.mg X.base CX k f fd ps sp) (hr : Room k X.A) (hb : Binds X.K fd ps ds) (hd : Vals dvs ds) (hx : Passes CX X E)
    (I : Inv X pins σ H s) (r : Vals vs us) (h : sp (vs ++ dvs) H Q E) : wpAny (model X.prog X.w) X.A (call (.ref f) us) (EP X pins σ Q) X.xe s := by
  have r2 : Vals (vs ++ dvs) (us ++ ds) := r.append hd
  have hl : (us ++ ds).length = ps.length := by rw [← r2.length]; exact F.len _ _ _ _ h
  refine wpAny_call (codeAny_mono (F.run X.A X.stack s H ⟨us, []⟩ (us ++ ds) (vs ++ dvs) Q E hr I.env0 (hb s us I.kIn hl) r2 h) fun r s' hq => ?_)
  cases r with
  | error e => exact hx pins σ H s e s' I hq
  | ok fl =>
    cases fl with
    | ret u => exact I.after hq
    | next => exact False.elim hq
    | brk => exact False.elim hq
    | cont => exact False.elim hq

theorem pe_call (F : FnOk X.prog X.w X.K X.mg X.base CX k f fd ps sp) (hr : Room k X.A) (hg : Gl X x) (hm : X.mg x = some (.ref f)) (hk : PySem.W.keepIn X.K (.ref f) = true) (hb : Binds X.K fd ps ds) (hd : Vals dvs ds) (hx : Passes CX X E)
    (ha : PA X (e :: es) t) (hdb : (x == ("__debug__" : Str)) = false := by decide) (he : starEach (e :: es) X.env = (false, eval e X.env) :: starEach es X.env := by rfl) (hpl : (backTo pos (starEach es X.env)).any (·.1) = false := by rfl) :
    PE X (.Call (.Name x p) (e :: es) [] pos) (tCall sp dvs E t) := by
  intro pins s σ H Q I h
  refine wpAny_Call_Name_kw (ld_glob I hg hm ?_ hdb)
  refine PySem.W.callWith_K (h₀ := X.base) I.ok.mod.kin hk (thn (ha pos pins s σ H _ I h) fun us s1 ⟨vs, H1, I1, r, q⟩ => ⟨I1.kIn, ?_⟩) he hpl
  exact run_fn F hr hb hd hx I1 r q
structure Mk (K : PySem.W.Frag) (C f : Addr) : Prop where
  makes : PySem.W.makesIn K C = true
  init : PySem.W.findIn K (.ref C) "__init__" = some (some (.ref f))
  fn : PySem.W.isFn K (.ref f) = true
  kp : PySem.W.keepIn K (.ref C) = true

theorem run_make {pins : List (Addr × Obj)} {σ : St} {H : Hp} {s : Shared} {Q : VK} {us : List Value} {vs : List V} (M : Mk X.K C f) (F : FnOk X.prog X.w X.K X.mg X.base CX k f fd ps sp) (hr : Room (k + 1) X.A) (hb : Binds X.K fd ps ds) (hd : Vals dvs ds)
    (hx : Passes CX X E) (I : Inv X pins σ H s) (r : Vals vs us)
    (h : ∀ x dx, H x = none → H dx = none → dx ≠ x → sp (.ref x :: (vs ++ dvs)) (upd (upd H dx (.own x)) x (.ins C dx [])) (fun v H2 => v = .non ∧ Q (.ref x) H2) E) :
    wpAny (model X.prog X.w) X.A (call (.ref C) us) (EP X pins σ Q) X.xe s := by
  have hq := h (s.heap.objs.size + 1) s.heap.objs.size (I.hok.fresh (Nat.le_succ _)) (I.hok.fresh (Nat.le_refl _)) (Nat.ne_of_lt (Nat.lt_succ_self _))
  have I2 := Inv.made (C := C) I
  have r2 : Vals (V.ref (s.heap.objs.size + 1) :: (vs ++ dvs)) (Value.ref (s.heap.objs.size + 1) :: (us ++ ds)) := .cons rfl (r.append hd)
  have hl : (Value.ref (s.heap.objs.size + 1) :: us ++ ds).length = ps.length := by
    have e := r2.length
    rw [F.len _ _ _ _ hq] at e
    exact e.symm
  refine wpAny_call (make_map (f := f) I.kIn M.makes M.init (beq_iff_eq.mp M.fn) (codeAny_mono (F.run _ X.stack _ _ ⟨Value.ref (s.heap.objs.size + 1) :: us, []⟩ (Value.ref (s.heap.objs.size + 1) :: (us ++ ds)) _ _ E (hr.make C us [])
    (I2.env0.make C us []) (hb _ (Value.ref (s.heap.objs.size + 1) :: us) I2.kIn hl) r2 hq) fun r s' hq' => ?_))
  cases r with
  | error e => exact hx pins σ _ _ e s' I2 hq'
  | ok fl =>
    cases fl with
    | ret u =>
      obtain ⟨v, H', I3, rv, ev, q3⟩ := I2.after hq'
      subst ev
      exact ⟨rv, ⟨V.ref (s.heap.objs.size + 1), H', I3, rfl, q3⟩⟩
    | next => exact False.elim hq'
    | brk => exact False.elim hq'
    | cont => exact False.elim hq'
theorem pe_make (M : Mk X.K C f) (F : FnOk X.prog X.w X.K X.mg X.base CX k f fd ps sp) (hr : Room (k + 1) X.A) (hg : Gl X x) (hm : X.mg x = some (.ref C)) (hb : Binds X.K fd ps ds) (hd : Vals dvs ds) (hx : Passes CX X E)
    (ha : PA X (e :: es) t) (hdb : (x == ("__debug__" : Str)) = false := by decide) (he : starEach (e :: es) X.env = (false, eval e X.env) :: starEach es X.env := by rfl) (hpl : (backTo pos (starEach es X.env)).any (·.1) = false := by rfl) :
    PE X (.Call (.Name x p) (e :: es) [] pos) (tMake C sp dvs E t) := by
  intro pins s σ H Q I h
  refine wpAny_Call_Name_kw (ld_glob I hg hm ?_ hdb)
  refine PySem.W.callWith_K (h₀ := X.base) I.ok.mod.kin M.kp (thn (ha pos pins s σ H _ I h) fun us s1 ⟨vs, H1, I1, r, q⟩ => ⟨I1.kIn, ?_⟩) he hpl
  exact run_make M F hr hb hd hx I1 r q
end

section
variable {X : Cx} {CX : CXT} {k : Nat} {f C : Addr} {fd : FuncData} {ps ks : List Str} {sp : Sp} {E : XK} {x m : Str} {p pos apos kpos : Pos} {e o : Expr} {es : List Expr} {kws : List Keyword} {te ta : TE} {t tk : TA} {nm : Option Str}
variable {g : List Value → List Value → List Value} {gV : List V → List V → List V}
end

structure FnScope (N P : List Str) (sc : Scope) : Prop where
  kind : sc.kind = .function
  co : sc.isCoroutine = false
  gen : sc.isGenerator = false
  nd : N.Nodup
  pre : N.take P.length = P
  par : ∀ x ∈ P, sc.names.lookup x = some .local ∨ sc.names.lookup x = some .cell
  nofree : ∀ y ∈ sc.names, y.2 ≠ .free

theorem bindL_out {kindOf : Str → Option NameKind} {x : Str} : ∀ {binds : List (Str × Value)} {m : Str → Option Value}, (∀ v, (x, v) ∉ binds) → bindL kindOf binds m x = m x
  | [], _, _ => rfl
  | (n, v) :: r, m, h => by
    unfold bindL
    rw [bindL_out fun w hw => h w (List.mem_cons_of_mem _ hw)]
    split
    · have : x ≠ n := by rintro rfl; exact h v List.mem_cons_self
      simp [this]
    · rfl
theorem bindC_out {kindOf : Str → Option NameKind} {x : Str} : ∀ {binds : List (Str × Value)} {m : Str → Option Value}, (∀ v, (x, v) ∉ binds) → bindC kindOf binds m x = m x
  | [], _, _ => rfl
  | (n, v) :: r, m, h => by
    unfold bindC
    rw [bindC_out fun w hw => h w (List.mem_cons_of_mem _ hw)]
    split
    · rfl
    · have : x ≠ n := by rintro rfl; exact h v List.mem_cons_self
      simp [this]
theorem bindL_get {kindOf : Str → Option NameKind} {x : Str} {v : Value} : ∀ {P : List Str} {vs : List Value} {i : Nat} {m : Str → Option Value}, P.Nodup → P[i]? = some x → vs[i]? = some v → kindOf x = some .local →
    bindL kindOf (P.zip vs) m x = some v
  | [], _, _, _, _, h, _, _ => by simp at h
  | _ :: _, [], _, _, _, _, h, _ => by simp at h
  | p :: P, w :: vs, 0, m, nd, h1, h2, hk => by
    simp at h1 h2; subst h1; subst h2
    show bindL kindOf ((p, w) :: P.zip vs) m p = _
    unfold bindL
    rw [bindL_out fun v hv => (List.nodup_cons.mp nd).1 (List.of_mem_zip hv).1, if_pos hk]
    simp
  | p :: P, w :: vs, i + 1, m, nd, h1, h2, hk => by
    show bindL kindOf ((p, w) :: P.zip vs) m x = _
    unfold bindL
    exact bindL_get (i := i) (List.nodup_cons.mp nd).2 (by simpa using h1) (by simpa using h2) hk
theorem bindC_get {kindOf : Str → Option NameKind} {x : Str} {v : Value} : ∀ {P : List Str} {vs : List Value} {i : Nat} {m : Str → Option Value}, P.Nodup → P[i]? = some x → vs[i]? = some v → kindOf x ≠ some .local →
    bindC kindOf (P.zip vs) m x = some v
  | [], _, _, _, _, h, _, _ => by simp at h
  | _ :: _, [], _, _, _, _, h, _ => by simp at h
  | p :: P, w :: vs, 0, m, nd, h1, h2, hk => by
    simp at h1 h2; subst h1; subst h2
    show bindC kindOf ((p, w) :: P.zip vs) m p = _
    unfold bindC
    rw [bindC_out fun v hv => (List.nodup_cons.mp nd).1 (List.of_mem_zip hv).1, if_neg hk]
    simp
  | p :: P, w :: vs, i + 1, m, nd, h1, h2, hk => by
    show bindC kindOf ((p, w) :: P.zip vs) m x = _
    unfold bindC
    exact bindC_get (i := i) (List.nodup_cons.mp nd).2 (by simpa using h1) (by simpa using h2) hk

def start (N : List Str) (vs : List V) : St := vs.map some ++ List.replicate (N.length - vs.length) none

def cxOf (CX : CXT) (P : Program) (w : World) (K : PySem.W.Frag) (mg : Str → Option Value) (base : Heap) (N : List Str) (qual : Str) (scope : Scope) (f : Addr) (cd : Value) (A : Around) (outer : List Env) (s : Shared) (H : Hp) (E : XK) : Cx where
  prog := P
  w := w
  K := K
  mg := mg
  base := base
  A := A.deeper (envOfC qual scope s.heap.objs.size f cd)
  N := N
  s_0 := s
  H_0 := H
  env := envOfC qual scope s.heap.objs.size f cd
  outer := outer
  stack := envOfC qual scope s.heap.objs.size f cd :: outer
  ex := []
  calm := true
  fn := fun _ => true
  pn := []
  xe := fun e s' => wpAny (model P w) (A.deeper (envOfC qual scope s.heap.objs.size f cd)) (leaving (envOfC qual scope s.heap.objs.size f cd) e) (fun _ s'' => CX outer H s E e s'') (fun e' s'' => CX outer H s E e' s'') s'

theorem cell_has {sc : Scope} {n : Nat} {x : Str} (h : sc.names.lookup x = some .cell) : ∃ c, (cellsFrom n sc.names []).lookup x = some c := by
  have q := PySem.W.cellsFrom_some sc.names n [] (.inl h)
  exact Option.isSome_iff_exists.mp q

theorem inv_start {CX : CXT} {P : Program} {w : World} {K : PySem.W.Frag} {mg : Str → Option Value} {base : Heap} {N ps : List Str} {qual : Str} {scope : Scope} {f : Addr} {cd : Value} {A : Around} {outer : List Env} {s s1 : Shared} {H : Hp} {E : XK} {us : List Value} {vs : List V}
    (S : FnScope N ps scope) (hd : A.handled = none) (e0 : Env0 P w K mg base A outer s H) (hl : vs.length = ps.length) (r : Vals vs us)
    (x : InCallC s s.heap.objs.size (bindL (envOfC qual scope s.heap.objs.size f cd).kindOf (ps.zip us) fun _ => none) (cellsFrom (s.heap.objs.size + 1) scope.names []) (bindC (envOfC qual scope s.heap.objs.size f cd).kindOf (ps.zip us) fun _ => none) s1) :
    Inv (cxOf CX P w K mg base N qual scope f cd A outer s H E) [] (start N vs) H s1 := by
  have hpl : ps.length ≤ N.length := by have := congrArg List.length S.pre; rw [List.length_take] at this; omega
  obtain ⟨h1, tk, rfl, hk⟩ := x.done
  have noA : ∀ b : Addr, b ∉ (cxOf CX P w K mg base N qual scope f cd A outer s H E).ex := fun b z => absurd (show b ∈ ([] : List Addr) from z) (by simp)
  refine ⟨⟨e0.mod, S.kind, rfl, rfl, Nat.le_refl _, fun y z c h1 h2 => ?_, fun y hy => ?_, fun y c _ h => ?_, fun _ => hd, Around.frames_deeper e0.frames, .inr ⟨rfl, rfl⟩, fun b z => absurd z (noA b), e0.bs, e0.bsz, fun b _ _ => noA b, fun b z => absurd z (noA b), e0.funs, e0.frf⟩,
    rfl, e0.bare, Un.kept hk, ⟨_, x.toInCall.ns, fun i y v h1 h2 h3 => ?_⟩, fun y c h => ⟨_, x.cell y c h⟩, e0.hok.fresh (Nat.le_refl _), fun y c h => ?_, fun p hp => absurd (show p ∈ ([] : List (Addr × Obj)) from hp) (by simp), e0.hok.kept hk, ?_⟩
  · exact name_of_addr x.apart (PySem.mem_of_lookup h1) (PySem.mem_of_lookup h2)
  · have hy : scope.names.lookup y = some .cell ∨ scope.names.lookup y = some .free := hy
    rcases hy with hy | hy
    · exact cell_has hy
    · exact absurd rfl (S.nofree _ (PySem.mem_of_lookup hy))
  · exact Nat.le_of_lt (x.above y c (PySem.mem_of_lookup h))
  · have hi : i < vs.length := by
      unfold start at h2
      by_cases hi : i < vs.length
      · exact hi
      · rw [List.getElem?_append_right (by simpa using hi)] at h2
        rw [List.getElem?_replicate] at h2
        split at h2 <;> cases h2
    have ha : vs[i]? = some v := by
      unfold start at h2
      rw [List.getElem?_append_left (by simpa using hi), List.getElem?_map] at h2
      cases e : vs[i]? with
      | none => rw [e] at h2; cases h2
      | some a => rw [e] at h2; cases h2; rfl
    obtain ⟨u, hu, rv⟩ := r.get ha
    have hp : ps[i]? = some y := by
      rw [← S.pre, List.getElem?_take_of_lt (by omega)]; exact h1
    have ndP : ps.Nodup := by rw [← S.pre]; exact S.nd.sublist (List.take_sublist _ _)
    refine ⟨u, rv, ?_⟩
    rcases S.par y (List.mem_of_getElem? hp) with k | k
    · exact .inl ⟨k, bindL_get ndP hp hu k⟩
    · obtain ⟨c, e⟩ := cell_has (n := s.heap.objs.size + 1) k
      refine .inr ⟨.inl k, c, e, ?_⟩
      have q := x.cell y c e
      rw [bindC_get ndP hp hu (by show scope.names.lookup y ≠ _; rw [k]; decide)] at q
      exact q
  · exact e0.hok.fresh (Nat.le_of_lt (x.above y c (PySem.mem_of_lookup h)))
  · unfold start
    show _ = N.length
    rw [List.length_append, List.length_map, List.length_replicate]
    omega

theorem fn_of {CX : CXT} {P : Program} {w : World} {K : PySem.W.Frag} {mg : Str → Option Value} {base : Heap} {k : Nat} {f : Addr} {name qual : Str} {params : Arguments} {body : List Stmt} {scope : Scope} {dV kV doc pm cdv ct oc : Value} {an od : Option Addr}
    {osl : Array (Option Value)} {N ps : List Str} {sp : Sp} (lk : K.lookup f = some ⟨oc, od, .func (PySem.W.fnOf name qual params body scope dV kV doc pm an cdv ct), osl⟩) (hcd : PySem.W.codeIn K cdv qual = true) (S : FnScope N ps scope)
    (len : ∀ vs H Q E, sp vs H Q E → vs.length = ps.length)
    (hbody : ∀ (A : Around) (outer : List Env) (s : Shared) (H : Hp) (vs : List V) (Q : VK) (E : XK), Room k (A.deeper (envOfC qual scope s.heap.objs.size f cdv)) → sp vs H Q E →
      ∃ t, PSs (cxOf CX P w K mg base N qual scope f cdv A outer s H E) body t ∧ t { nx := fun _ H' => Q .non H', rt := Q } (start N vs) H) :
    FnOk P w K mg base CX (k + 1) f (PySem.W.fnOf name qual params body scope dV kV doc pm an cdv ct) ps sp := by
  refine ⟨len, fun A outer s H args us vs Q E hr e0 hb r hsp => ?_⟩
  have hl := len _ _ _ _ hsp
  have KX : K.In s.heap := e0.mod.kin.keeps fun b o e => (e0.bs b o e).1
  have lim : s.heap.NoLimit := e0.mod.nolimit.keeps fun b o e => (e0.bs b o e).1
  have hkind : ∀ y ∈ ps.zip us, scope.names.lookup y.1 = some .local ∨ (scope.names.lookup y.1 = some .cell ∧ ((cellsFrom (s.heap.objs.size + 1) scope.names []).lookup y.1).isSome = true) := fun ⟨n, v⟩ hy => by
    rcases S.par n (List.of_mem_zip hy).1 with q | q
    · exact .inl q
    · exact .inr ⟨q, PySem.W.cellsFrom_some _ _ _ (.inl q)⟩
  refine codeAny_call_function hr.depth (KX _ _ lk) rfl S.co S.gen rfl (PySem.W.codeRec_of KX hcd) (hb _ _ _ _ ?_)
  refine wpAny_newFunctionEnv_cells S.kind hkind fun env he s1 x => ?_
  subst he
  refine ⟨lim.keeps x.toInCall.keep, codeAny_func ?_⟩
  obtain ⟨t, ht, hq⟩ := hbody A outer s H vs Q E (hr.deeper _) hsp
  have I : Inv (cxOf CX P w K mg base N qual scope f cdv A outer s H E) [] (start N vs) H s1 := inv_start S hr.hd e0 hl r x
  refine wpAny_mono (ht [] s1 (start N vs) H _ I hq) (fun fl s' hs => ?_) fun e s' hs => hs
  have fin : ∀ {σ' : St} {H' : Hp} {v : V} {u : Value}, Inv (cxOf CX P w K mg base N qual scope f cdv A outer s H E) [] σ' H' s' → RelV v u → Q v H' → CE outer P w H s Q u s' :=
    fun {σ' H' v u} J rv q => ⟨v, H', J.os, J.bare, J.base, J.hok, rv, q⟩
  cases fl with
  | ret u =>
    obtain ⟨v, σ', H', J, rv, q⟩ := hs
    exact fin J rv q
  | next =>
    obtain ⟨σ', H', J, q⟩ := hs
    exact fin (v := V.non) (u := Value.none) J rfl q
  | brk =>
    obtain ⟨_, _, _, q⟩ := hs
    exact False.elim q
  | cont =>
    obtain ⟨_, _, _, q⟩ := hs
    exact False.elim q
end L2

namespace L2
open PySem PySem.Spec PyProof.Rows
section
variable {X : Cx} {x : Str} {p pos : Pos} {e : Expr} {es : List Expr} {t : TA} {id T : String} {r : List V → Hp → VK → Prop}

def tCB (r : List V → Hp → VK → Prop) (t : TA) : TE := fun σ H Q => t σ H fun vs H1 => r vs H1 Q
theorem pe_callB (hc : CallR X (.builtin id) r) (hg : Gl X x) (hm : X.mg x = none) (hv : bootBuiltins x = some (.builtin id)) (ha : PA X (e :: es) t) (hn : x ≠ "__name__" := by decide) (hdb : (x == ("__debug__" : Str)) = false := by decide)
    (he : starEach (e :: es) X.env = (false, eval e X.env) :: starEach es X.env := by rfl) (hpl : (backTo pos (starEach es X.env)).any (·.1) = false := by rfl) : PE X (.Call (.Name x p) (e :: es) [] pos) (tCB r t) := by
  intro pins s σ H Q I h
  refine wpAny_Call_Name_kw (ld_blt I hg hm hv ?_ hn hdb)
  exact PyProof.Rows.callWith_builtin1 (thn (ha pos pins s σ H _ I h) fun us s1 ⟨vs, H1, I1, r1, q1⟩ => hc pins s1 σ H1 vs us Q I1 r1 q1) he hpl
theorem pe_callTy (hc : CallR X (.type T) r) (hg : Gl X x) (hm : X.mg x = none) (hv : bootBuiltins x = some (.type T)) (ha : PA X (e :: es) t) (hn : x ≠ "__name__" := by decide) (hdb : (x == ("__debug__" : Str)) = false := by decide)
    (he : starEach (e :: es) X.env = (false, eval e X.env) :: starEach es X.env := by rfl) (hpl : (backTo pos (starEach es X.env)).any (·.1) = false := by rfl) : PE X (.Call (.Name x p) (e :: es) [] pos) (tCB r t) := by
  intro pins s σ H Q I h
  refine wpAny_Call_Name_kw (ld_blt I hg hm hv ?_ hn hdb)
  exact PyProof.Rows.callWith_type1 (thn (ha pos pins s σ H _ I h) fun us s1 ⟨vs, H1, I1, r1, q1⟩ => hc pins s1 σ H1 vs us Q I1 r1 q1) he hpl
end
end L2

namespace HT
open PySem PyProof.Rows

section
open PySem.SeqAt
open PySem.AutoSeq1 (wpAny_loadPart')
open PySem.MeetsSeq PySem.MeetsSeq2 PySem.MeetsSeq3

end

section
variable {prog : Program} {w : World} {A : Around} {E : Value → Shared → Prop} {s : Shared}

def sIx (n d : Nat) : Option Int → Nat
  | none => d
  | some v => if v < 0 then (v + (n : Int)).toNat else min v.toNat n
theorem sIx_none (n d : Nat) : sIx n d none = d := rfl
theorem sIx_nat (n d k : Nat) : sIx n d (some (k : Int)) = min k n := by
  show (if (k : Int) < 0 then ((k : Int) + (n : Int)).toNat else min (k : Int).toNat n) = min k n
  rw [if_neg (by omega), Int.toNat_natCast]
theorem sIx_le (n d : Nat) (hd : d ≤ n) (o : Option Int) : sIx n d o ≤ n := by
  cases o with
  | none => exact hd
  | some v =>
    show (if v < 0 then (v + (n : Int)).toNat else min v.toNat n) ≤ n
    by_cases hv : v < 0
    · rw [if_pos hv]; omega
    · rw [if_neg hv]; exact Nat.min_le_right _ _
end
end HT

namespace L2
open PySem PySem.Spec PyProof.Rows

abbrev TO := St → Hp → (Option Int → Hp → Prop) → Prop
def PO (X : Cx) (e : Option Expr) (t : TO) : Prop :=
  ∀ (pins : List (Addr × Obj)) (s : Shared) (σ : St) (H : Hp) (Q : Option Int → Hp → Prop), Inv X pins σ H s → t σ H Q →
    wpAny (model X.prog X.w) X.A (evalPart e X.env) (fun u s' => ∃ o H', Inv X pins σ H' s' ∧ IsPart u o ∧ Q o H') X.xe s
def tNoPart : TO := fun _ H Q => Q none H
def tPart (t : TE) : TO := fun σ H Q => t σ H fun x H1 => ∃ i, x = .int i ∧ Q (some i) H1

section
variable {X : Cx} {e : Expr} {te : TE} {lo hi : Option Expr} {tl th : TO} {pos p2 : Pos}

theorem po_none : PO X none tNoPart := by
  intro pins s σ H Q I h
  rw [evalPart_none]
  exact wpAny_pure ⟨none, H, I, .none, h⟩
theorem po_some (h : PE X e te) : PO X (some e) (tPart te) := by
  intro pins s σ H Q I hw
  rw [evalPart_some]
  refine thn (h pins s σ H _ I hw) fun u s1 ⟨x, H1, I1, r1, q1⟩ => ?_
  obtain ⟨i, rfl, q⟩ := q1
  obtain ⟨t, rfl⟩ := r1
  exact ⟨some i, H1, I1, .int i t, q⟩

def SlR (X : Cx) (r : V → Option Int → Option Int → Hp → VK → Prop) : Prop :=
  ∀ (pins : List (Addr × Obj)) (s : Shared) (σ : St) (H : Hp) (x : V) (v vl vu : Value) (lo hi : Option Int) (sl : Addr) (Q : VK), Inv X pins σ H s → RelV x v → s.heap.IsSliceOf sl vl vu .none → IsPart vl lo → IsPart vu hi → r x lo hi H Q →
    ∃ T id, typeLookup (.type T) "__getitem__" = pure (some (.builtin id)) ∧ s.TypeIs v T ∧ wpAny (model X.prog X.w) X.A (getItem v (.ref sl)) (EP X pins σ Q) X.xe s
theorem SlR.or {r r' : V → Option Int → Option Int → Hp → VK → Prop} (h : SlR X r) (h' : SlR X r') : SlR X (fun x lo hi H Q => r x lo hi H Q ∨ r' x lo hi H Q) := by
  intro pins s σ H x v vl vu lo hi sl Q I rx hs pl pu q
  rcases q with q | q
  · exact h pins s σ H x v vl vu lo hi sl Q I rx hs pl pu q
  · exact h' pins s σ H x v vl vu lo hi sl Q I rx hs pl pu q
def tSl (r : V → Option Int → Option Int → Hp → VK → Prop) (te : TE) (tl th : TO) : TE := fun σ H Q => te σ H fun x H1 => tl σ H1 fun l H2 => th σ H2 fun u H3 => r x l u H3 Q
theorem pe_slice {r : V → Option Int → Option Int → Hp → VK → Prop} (hr : SlR X r) (he : PE X e te) (hl : PO X lo tl) (hu : PO X hi th) : PE X (.Subscript e (.Slice lo hi none p2) pos) (tSl r te tl th) := by
  intro pins s σ H Q I h
  refine Subscript_ (thn (he pins s σ H _ I h) fun v s1 ⟨x, H1, I1, r1, q1⟩ => ?_)
  refine wpAny_Slice (thn (hl pins s1 σ H1 _ I1 q1) fun vl s2 ⟨l, H2, I2, pl, q2⟩ => thn (hu pins s2 σ H2 _ I2 q2) fun vu s3 ⟨u, H3, I3, pu, q3⟩ => ?_)
  rw [evalPart_none]
  refine wpAny_pure ?_
  have I4 : Inv X pins σ H3 { s3 with heap := s3.heap.push { cls := .type "slice", data := .fields #[vl, vu, .none] } } := I3.kept (t' := s3.toks) fun b ob q => Heap.get?_push_of_some _ q
  obtain ⟨T, id, hT, ht, hg⟩ := hr pins { s3 with heap := s3.heap.push { cls := .type "slice", data := .fields #[vl, vu, .none] } } σ H3 x v vl vu l u s3.heap.objs.size Q I4 r1 (Heap.IsSliceOf.new ..) pl pu q3
  show wpAny (model X.prog X.w) X.A (subscriptTail e (.Slice lo hi none p2) v (.ref s3.heap.objs.size)) (EP X pins σ Q) X.xe { s3 with heap := s3.heap.push { cls := .type "slice", data := .fields #[vl, vu, .none] } }
  exact tail_any (ops := [.ref s3.heap.objs.size, v]) ht hT hg (by with_unfolding_all rfl)

def cutV (xs : List V) (lo hi : Option Int) : List V := (xs.drop (HT.sIx xs.length 0 lo)).take (HT.sIx xs.length xs.length hi - HT.sIx xs.length 0 lo)
theorem cutV_length (xs : List V) (lo hi : Option Int) : (cutV xs lo hi).length ≤ xs.length := by
  unfold cutV
  rw [List.length_take, List.length_drop]
  omega
end
end L2

namespace L2
open PySem PySem.Spec PyProof.Rows

def ixN (n : Nat) (i : Int) : Option Nat := if 0 ≤ i then (if i < n then some i.toNat else none) else if -(n : Int) ≤ i then some (i + n).toNat else none
def atI {α : Type} (xs : List α) (i : Int) : Option α := (ixN xs.length i).bind fun j => xs[j]?
theorem ixN_seq {n : Nat} {i : Int} {j : Nat} (h : ixN n i = some j) : seqIndex? i n = some j ∧ j < n ∧ -(n : Int) ≤ i ∧ i < n := by
  unfold ixN at h
  by_cases h0 : 0 ≤ i
  · rw [if_pos h0] at h
    by_cases h1 : i < n
    · rw [if_pos h1] at h
      have e : i.toNat = j := Option.some.inj h
      exact ⟨by rw [seqIndex_of h0 h1, e], by omega, by omega, h1⟩
    · rw [if_neg h1] at h; cases h
  · rw [if_neg h0] at h
    by_cases h1 : -(n : Int) ≤ i
    · rw [if_pos h1] at h
      have e : (i + n).toNat = j := Option.some.inj h
      exact ⟨by rw [seqIndex_neg (by omega) h1, e], by omega, h1, by omega⟩
    · rw [if_neg h1] at h; cases h
theorem atI_get {α : Type} {xs : List α} {i : Int} {v : α} (h : atI xs i = some v) : ∃ j, seqIndex? i xs.length = some j ∧ xs[j]? = some v ∧ j < xs.length ∧ -(xs.length : Int) ≤ i ∧ i < xs.length := by
  unfold atI at h
  cases e : ixN xs.length i with
  | none => rw [e] at h; cases h
  | some j =>
    rw [e] at h
    obtain ⟨h1, h2, h3, h4⟩ := ixN_seq e
    exact ⟨j, h1, h, h2, h3, h4⟩
theorem atI_nat {α : Type} {xs : List α} {j : Nat} {v : α} (h : xs[j]? = some v) : atI xs (j : Int) = some v := by
  have hj : j < xs.length := (List.getElem?_eq_some_iff.mp h).1
  have e : ixN xs.length (j : Int) = some j := by
    unfold ixN
    rw [if_pos (by omega), if_pos (by omega)]; simp
  unfold atI; rw [e]; exact h
def PlainIx (b : Expr) : Prop := ∀ o i, subscripted b false o i = operate [o, i] (getItem o i)
def IxR (X : Cx) (r : R2) : Prop :=
  ∀ (value slice : Expr) (pins : List (Addr × Obj)) (s : Shared) (σ : St) (H : Hp) (x y : V) (v u : Value) (Q : VK), Inv X pins σ H s → RelV x v → RelV y u → r x y H Q →
    subscripted slice false v u = operate [v, u] (getItem v u) → wpAny (model X.prog X.w) X.A (subscriptTail value slice v u) (EP X pins σ Q) X.xe s
def MtR (X : Cx) (id : String) (r : V → List V → Hp → VK → Prop) : Prop :=
  ∀ (pins : List (Addr × Obj)) (s : Shared) (σ : St) (H : Hp) (x : V) (xs : List V) (v : Value) (us : List Value) (Q : VK), Inv X pins σ H s → RelV x v → Vals xs us → r x xs H Q →
    wpAny (model X.prog X.w) X.A (call (.builtin id) (v :: us)) (EP X pins σ Q) X.xe s
section
variable {X : Cx} {a b : Expr} {ta tb : TE} {pos : Pos}
theorem IxR.or {r r' : R2} (h : IxR X r) (h' : IxR X r') : IxR X (fun x y H Q => r x y H Q ∨ r' x y H Q) := by
  intro value slice pins s σ H x y v u Q I rx ry q hs
  rcases q with q | q
  · exact h value slice pins s σ H x y v u Q I rx ry q hs
  · exact h' value slice pins s σ H x y v u Q I rx ry q hs
theorem MtR.or {id : String} {r r' : V → List V → Hp → VK → Prop} (h : MtR X id r) (h' : MtR X id r') : MtR X id (fun x xs H Q => r x xs H Q ∨ r' x xs H Q) := by
  intro pins s σ H x xs v us Q I rx rs q
  rcases q with q | q
  · exact h pins s σ H x xs v us Q I rx rs q
  · exact h' pins s σ H x xs v us Q I rx rs q
theorem pe_ix {r : R2} (hr : IxR X r) (ha : PE X a ta) (hb : PE X b tb) (hs : PlainIx b) : PE X (.Subscript a b pos) (tOp r ta tb) := by
  intro pins s σ H Q I h
  exact Subscript_ (binT ha hb I h fun v u s2 x y H2 I2 rx ry q => hr a b pins s2 σ H2 x y v u Q I2 rx ry q (hs _ _))

def rIxL (K : PySem.W.Frag) : R2 := fun x y H Q => ∃ p xs i v, x = .ref p ∧ y = .int i ∧ SqL K H p xs ∧ atI xs i = some v ∧ Q v H
def rIxT (K : PySem.W.Frag) : R2 := fun x y H Q => ∃ p xs i v, x = .ref p ∧ y = .int i ∧ SqT K H p xs ∧ atI xs i = some v ∧ Q v H
def rIxS : R2 := fun x y H Q => ∃ z i c, x = .str z ∧ y = .int i ∧ z.length ≤ sizeLine ∧ atI z.cps.toList i = some c ∧ Q (.str ⟨#[c]⟩) H
theorem ix_list : IxR X (rIxL X.K) := by
  intro value slice pins s σ H x y v u Q I rx ry h hs
  obtain ⟨p, xs, i, z, rfl, rfl, hq, he, q⟩ := h
  cases rx
  obtain ⟨t, rfl⟩ := ry
  obtain ⟨its, r, pl, hz⟩ := I.list hq
  obtain ⟨j, h1, h2, h3, h4, h5⟩ := atI_get he
  obtain ⟨w, ew, rw'⟩ := r.get h2
  have hl := r.length
  have hn := line63
  have fin : EP X pins σ Q w s := ⟨z, H, I, rw', q⟩
  by_cases h0 : 0 ≤ i
  · have hj : i.toNat = j := by
      rw [seqIndex_of h0 h5] at h1
      exact Option.some.inj h1
    exact item_listR pl.isList h0 (by omega) (by rw [hj]; simpa using ew) fin hs
  · have hj : (i + (its.toArray.size : Int)).toNat = j := by
      rw [seqIndex_neg (by omega) h4] at h1
      rw [List.size_toArray, ← hl]
      exact Option.some.inj h1
    exact subscriptTail_builtinR (x := w) pl.isList.typeIs slot_list_getitem.lookup
      (wpAny_getItem_list_neg (Q := fun r s' => r = w ∧ EP X pins σ Q r s') pl.isList (by omega) (by rw [List.size_toArray] <;> omega) (by omega) (by rw [hj]; simpa using ew) ⟨rfl, fin⟩) hs
theorem ix_tup : IxR X (rIxT X.K) := by
  intro value slice pins s σ H x y v u Q I rx ry h hs
  obtain ⟨p, xs, i, z, rfl, rfl, hq, he, q⟩ := h
  cases rx
  obtain ⟨t, rfl⟩ := ry
  obtain ⟨its, r, pl, hz⟩ := I.tuple hq
  obtain ⟨j, h1, h2, h3, h4, h5⟩ := atI_get he
  obtain ⟨w, ew, rw'⟩ := r.get h2
  have hl := r.length
  have hn := line63
  have fin : EP X pins σ Q w s := ⟨z, H, I, rw', q⟩
  exact subscriptTail_builtinR (x := w) pl.typeIs slot_tuple_getitem.lookup
    (getItem_tuple (j := j) (Q := fun r s' => r = w ∧ EP X pins σ Q r s') pl (by omega) (by omega) (by rw [List.size_toArray, ← hl]; exact h1) (by simpa using ew) ⟨rfl, fin⟩) hs
theorem ix_str : IxR X rIxS := by
  intro value slice pins s σ H x y v u Q I rx ry h hs
  obtain ⟨z, i, c, rfl, rfl, hz, he, q⟩ := h
  obtain ⟨t, rfl⟩ := rx
  obtain ⟨t', rfl⟩ := ry
  obtain ⟨j, h1, h2, h3, h4, h5⟩ := atI_get he
  have hl : z.cps.toList.length = z.length := by simp [Str.length]
  rw [hl] at h1 h4 h5
  have hn := line63
  exact tail_any (typeIs_str s z t) slot_str_getitem.lookup (getItem_str (c := c) (by
    have e1 : decide (i < -(2 ^ 63 : Int)) = false := decide_eq_false (by omega)
    have e2 : decide (i ≥ 2 ^ 63) = false := decide_eq_false (by omega)
    rw [e1, e2, Bool.or_false]) (by rw [h1]; simpa using h2) ⟨.str ⟨#[c]⟩, H, I.tok _, ⟨_, rfl⟩, q⟩) hs
theorem Inv.lst {pins : List (Addr × Obj)} {σ : St} {H : Hp} {s : Shared} {p : Addr} {xs : List V} (I : Inv X pins σ H s) (h : H p = some (.lst xs)) :
    ∃ (its : List Value) (n : Nat), Vals xs its ∧ s.heap.get? p = some { cls := .type "list", data := .seq its.toArray n } ∧ xs.length ≤ sizeLine := by
  obtain ⟨z, its, n, r, e⟩ := I.hok p _ h
  exact ⟨its, n, r, e, z⟩
theorem slice_bounds (lo hi : Option Int) (n : Nat) : (sliceBounds lo hi none n).1 = ((HT.sIx n 0 lo : Nat) : Int) ∧ (sliceBounds lo hi none n).2.1 = ((HT.sIx n n hi : Nat) : Int) ∧ (sliceBounds lo hi none n).2.2 = 1 := by
  refine ⟨?_, ?_, rfl⟩
  · cases lo with
    | none => simp [sliceBounds, HT.sIx]
    | some i =>
      simp only [sliceBounds, HT.sIx, Option.getD_none, show (1 : Int) > 0 by decide, if_true]
      by_cases h : i < 0
      · simp only [h, if_true] <;> omega
      · simp only [h, if_false] <;> omega
  · cases hi with
    | none => simp [sliceBounds, HT.sIx]
    | some i =>
      simp only [sliceBounds, HT.sIx, Option.getD_none, show (1 : Int) > 0 by decide, if_true]
      by_cases h : i < 0
      · simp only [h, if_true] <;> omega
      · simp only [h, if_false] <;> omega
theorem slicePick_cut (its : List Value) (lo hi : Option Int) : slicePick its.toArray lo hi none = ((its.drop (HT.sIx its.length 0 lo)).take (HT.sIx its.length its.length hi - HT.sIx its.length 0 lo)).toArray := by
  obtain ⟨h1, h2, h3⟩ := slice_bounds lo hi its.toArray.size
  unfold slicePick
  rw [h1, h2, h3]
  simp only [sliceRange_one, pick_run, List.size_toArray] <;> rfl
def rSlL (K : PySem.W.Frag) : V → Option Int → Option Int → Hp → VK → Prop := fun x lo hi H Q => ∃ a xs, x = .ref a ∧ SqL K H a xs ∧ ∀ p, H p = none → Q (.ref p) (upd H p (.lst (cutV xs lo hi)))
theorem sl_list : SlR X (rSlL X.K) := by
  intro pins s σ H x v vl vu lo hi sl Q I rx hs pl pu h
  obtain ⟨a, xs, rfl, hx, q⟩ := h
  cases rx
  obtain ⟨its, r, ht, hz⟩ := I.list hx
  have hlen := r.length
  refine ⟨"list", _, slot_list_getitem.lookup, ht.isList.typeIs, ?_⟩
  refine wpAny_getItem_list_slice ht.isList hs pl pu .none (by simp) ?_ (by rw [List.size_toArray] <;> omega)
  rw [slicePick_cut, ← hlen]
  refine ⟨.ref s.heap.objs.size, _, I.laid (t' := s.toks) (o := .lst (cutV xs lo hi)) (fun b ob q => Heap.get?_push_of_some _ q) (Nat.le_refl _) ?_, rfl, q _ (I.hok.fresh (Nat.le_refl _))⟩
  exact ⟨Nat.le_trans (cutV_length xs lo hi) hz, _, 0, (r.drop (HT.sIx xs.length 0 lo)).take (HT.sIx xs.length xs.length hi - HT.sIx xs.length 0 lo), Heap.get?_push_size _ rfl⟩

def flatV : V → Bool
  | .non => true
  | .bl _ => true
  | .int _ => true
  | .str _ => true
  | _ => false
def eqV : V → V → Bool
  | .non, .non => true
  | .bl a, .bl b => a == b
  | .bl a, .int b => (if a then 1 else 0) == b
  | .int a, .bl b => a == (if b then 1 else 0)
  | .int a, .int b => a == b
  | .str a, .str b => a == b
  | _, _ => false
theorem eqAt_V {A : Around} {s : Shared} {y x : V} {u v : Value} (ry : RelV y u) (rx : RelV x v) (fy : flatV y = true) (fx : flatV x = true) : SeqAt.EqAt A s u v (eqV y x) := by
  cases y with
  | non =>
    cases ry
    cases x with
    | non => cases rx; exact SeqAt.EqAt.same _
    | bl b => cases rx; exact SeqAt.EqAt.none_bool b
    | int b => obtain ⟨t, rfl⟩ := rx; exact SeqAt.EqAt.none_int b t
    | str b => obtain ⟨t, rfl⟩ := rx; exact SeqAt.EqAt.none_str b t
    | _ => exact absurd (show false = true from fx) Bool.false_ne_true
  | bl a =>
    cases ry
    cases x with
    | non => cases rx; exact SeqAt.EqAt.bool_none a
    | bl b => cases rx; exact SeqAt.EqAt.bool_bool a b
    | int b => obtain ⟨t, rfl⟩ := rx; exact SeqAt.EqAt.bool_int a b t
    | str b => obtain ⟨t, rfl⟩ := rx; exact SeqAt.EqAt.bool_str a b t
    | _ => exact absurd (show false = true from fx) Bool.false_ne_true
  | int a =>
    obtain ⟨t', rfl⟩ := ry
    cases x with
    | non => cases rx; exact SeqAt.EqAt.int_none a t'
    | bl b => cases rx; exact SeqAt.EqAt.int_bool a t' b
    | int b => obtain ⟨t, rfl⟩ := rx; exact SeqAt.EqAt.int_int a t' b t
    | str b => obtain ⟨t, rfl⟩ := rx; exact SeqAt.EqAt.int_str a t' b t
    | _ => exact absurd (show false = true from fx) Bool.false_ne_true
  | str a =>
    obtain ⟨t', rfl⟩ := ry
    cases x with
    | non => cases rx; exact SeqAt.EqAt.str_none a t'
    | bl b => cases rx; exact SeqAt.EqAt.str_bool a t' b
    | int b => obtain ⟨t, rfl⟩ := rx; exact SeqAt.EqAt.str_int a t' b t
    | str b => obtain ⟨t, rfl⟩ := rx; exact SeqAt.EqAt.str_str a t' b t
    | _ => exact absurd (show false = true from fx) Bool.false_ne_true
  | _ => exact absurd (show false = true from fy) Bool.false_ne_true
def eqU (x : V) (u : Value) : Bool := match u with
  | .none => eqV .non x
  | .bool b => eqV (.bl b) x
  | .int i _ => eqV (.int i) x
  | .str z _ => eqV (.str z) x
  | _ => false
theorem eqU_of {x y : V} {u : Value} (r : RelV y u) (f : flatV y = true) : eqU x u = eqV y x := by
  cases y with
  | non => cases r; rfl
  | bl b => cases r; rfl
  | int i => obtain ⟨t, rfl⟩ := r; rfl
  | str z => obtain ⟨t, rfl⟩ := r; rfl
  | _ => exact absurd (show false = true from f) Bool.false_ne_true
theorem any_eqU {x : V} : ∀ {xs : List V} {us : List Value}, Vals xs us → xs.all flatV = true → us.any (eqU x) = xs.any fun y => eqV y x
  | _, _, .nil, _ => rfl
  | y :: xs, u :: us, .cons r t, f => by
    rw [List.all_cons, Bool.and_eq_true] at f
    rw [List.any_cons, List.any_cons, eqU_of r f.1, any_eqU t f.2]
theorem mem_eqAt {A : Around} {s : Shared} {x : V} {v : Value} (rx : RelV x v) (fx : flatV x = true) : ∀ {xs : List V} {us : List Value}, Vals xs us → xs.all flatV = true → ∀ u ∈ us, SeqAt.EqAt A s u v (eqU x u)
  | _, _, .nil, _ => fun u hu => by cases hu
  | y :: xs, u :: us, .cons r t, f => fun u' hu => by
    rw [List.all_cons, Bool.and_eq_true] at f
    rcases List.mem_cons.mp hu with rfl | hu
    · rw [eqU_of r f.1]; exact eqAt_V r rx f.1 fx
    · exact mem_eqAt rx fx t f.2 u' hu
def inV (x : V) (xs : List V) : Bool := xs.any fun y => eqV y x
def rIn (K : PySem.W.Frag) (neg : Bool) : R2 := fun x y H Q => ∃ p xs, y = .ref p ∧ (SqL K H p xs ∨ SqT K H p xs) ∧ flatV x = true ∧ xs.all flatV = true ∧ Q (.bl (if neg then !inV x xs else inV x xs)) H
theorem op_in_seq : OpR X (compareOp .In) (rIn X.K false) := by
  intro pins s σ H x y v u Q I rx ry h
  obtain ⟨p, xs, rfl, hq, fx, fs, q⟩ := h
  cases ry
  rcases hq with hq | hq
  · obtain ⟨its, r, pl, hz⟩ := I.list hq
    refine SeqAt.in_listAt (eqU x) pl.isList (fun w hw => mem_eqAt rx fx r fs w (by simpa using hw)) ⟨.bl _, H, I, rfl, ?_⟩
    rw [show its.toArray.any (eqU x) = its.any (eqU x) by simp, any_eqU r fs]
    exact q
  · obtain ⟨its, r, pl, hz⟩ := I.tuple hq
    refine SeqAt.in_tupleAt (eqU x) pl (fun w hw => mem_eqAt rx fx r fs w (by simpa using hw)) ⟨.bl _, H, I, rfl, ?_⟩
    rw [show its.toArray.any (eqU x) = its.any (eqU x) by simp, any_eqU r fs]
    exact q
theorem op_notIn_seq : OpR X (compareOp .NotIn) (rIn X.K true) := by
  intro pins s σ H x y v u Q I rx ry h
  obtain ⟨p, xs, rfl, hq, fx, fs, q⟩ := h
  cases ry
  rcases hq with hq | hq
  · obtain ⟨its, r, pl, hz⟩ := I.list hq
    refine SeqAt.notIn_listAt (eqU x) pl.isList (fun w hw => mem_eqAt rx fx r fs w (by simpa using hw)) ⟨.bl _, H, I, rfl, ?_⟩
    rw [show its.toArray.any (eqU x) = its.any (eqU x) by simp, any_eqU r fs]
    exact q
  · obtain ⟨its, r, pl, hz⟩ := I.tuple hq
    refine SeqAt.notIn_tupleAt (eqU x) pl (fun w hw => mem_eqAt rx fx r fs w (by simpa using hw)) ⟨.bl _, H, I, rfl, ?_⟩
    rw [show its.toArray.any (eqU x) = its.any (eqU x) by simp, any_eqU r fs]
    exact q
theorem call_len_seq : CallR X (.builtin "len") (fun xs H Q => ∃ p ys, xs = [.ref p] ∧ (SqL X.K H p ys ∨ SqT X.K H p ys) ∧ Q (.int ys.length) H) := by
  intro pins s σ H xs us Q I r h
  obtain ⟨p, ys, rfl, hq, q⟩ := h
  obtain ⟨u, rfl, rx⟩ := vals1 r
  cases rx
  have hn := line63
  rcases hq with hq | hq
  · obtain ⟨its, r', pl, hz⟩ := I.list hq
    have hlen := r'.length
    exact Calls.call_len_list pl.isList (by simp only [List.size_toArray] <;> omega) ⟨.int ys.length, H, I.tok _, ⟨s.toks + 1, by rw [List.size_toArray, hlen]⟩, q⟩
  · obtain ⟨its, r', pl, hz⟩ := I.tuple hq
    have hlen := r'.length
    exact len_tuple pl (by simp only [List.size_toArray] <;> omega) ⟨.int ys.length, H, I.tok _, ⟨s.toks + 1, by rw [List.size_toArray, hlen]⟩, q⟩
theorem call_len_str : CallR X (.builtin "len") (fun xs H Q => ∃ z, xs = [.str z] ∧ z.length ≤ sizeLine ∧ Q (.int z.length) H) := by
  intro pins s σ H xs us Q I r h
  obtain ⟨z, rfl, hz, q⟩ := h
  obtain ⟨u, rfl, t, rfl⟩ := vals1 r
  have hn := line63
  exact len_str (by omega) ⟨.int z.length, H, I.tok _, ⟨_, rfl⟩, q⟩
theorem CallR.or {f : Value} {r r' : List V → Hp → VK → Prop} (h : CallR X f r) (h' : CallR X f r') : CallR X f (fun xs H Q => r xs H Q ∨ r' xs H Q) := by
  intro pins s σ H xs us Q I rs q
  rcases q with q | q
  · exact h pins s σ H xs us Q I rs q
  · exact h' pins s σ H xs us Q I rs q
def tyV (K : PySem.W.Frag) (T : String) (x : V) (H : Hp) : Prop := match x with
  | .str _ => T = "str"
  | .int _ => T = "int"
  | .ref p => (T = "list" ∧ ∃ xs, SqL K H p xs) ∨ (T = "tuple" ∧ ∃ o, K.lookup p = some o ∧ o.cls = .type "tuple" ∧ o.dict = none) ∨
      (T = "dict" ∧ ((∃ kvs, H p = some (.dK kvs)) ∨ ∃ kvs, H p = some (.dT kvs))) ∨ (T = "set" ∧ ∃ S n, H p = some (.set S n))
  | _ => False
theorem tyV_is {pins : List (Addr × Obj)} {σ : St} {H : Hp} {s : Shared} {T : String} {x : V} {v : Value} (I : Inv X pins σ H s) (r : RelV x v) (ty : tyV X.K T x H) :
    s.TypeIs v T ∧ ∀ a, v = .ref a → ∃ ob, s.heap.get? a = some ob ∧ ob.dict = none := by
  cases x with
  | str z =>
    obtain ⟨t, rfl⟩ := r
    cases (show T = "str" from ty)
    exact ⟨typeIs_str s z t, fun _ e => nomatch e⟩
  | int i =>
    obtain ⟨t, rfl⟩ := r
    cases (show T = "int" from ty)
    exact ⟨typeIs_int s i t, fun _ e => nomatch e⟩
  | ref p =>
    cases r
    rcases ty with ⟨rfl, xs, hq⟩ | ⟨rfl, o, hk, hc, hd⟩ | ⟨rfl, hk⟩ | ⟨rfl, S, n, hk⟩
    · obtain ⟨its, _, pl, _⟩ := I.list hq
      refine ⟨pl.isList.typeIs, fun a e => ?_⟩
      cases e
      obtain ⟨o, n, e, c, hd, _⟩ := pl
      exact ⟨o, e, hd⟩
    · refine ⟨⟨o, I.kIn p o hk, hc⟩, fun a e => ?_⟩
      cases e
      exact ⟨o, I.kIn _ o hk, hd⟩
    · have z : ∃ o, s.heap.get? p = some o ∧ o.ExactDict := by
        rcases hk with ⟨kvs, hk⟩ | ⟨kvs, hk⟩
        · obtain ⟨_, _, _, _, o, _, _, e, ex, _⟩ := I.hok p _ hk
          exact ⟨o, e, ex⟩
        · obtain ⟨_, _, _, _, o, _, _, e, ex, _⟩ := I.hok p _ hk
          exact ⟨o, e, ex⟩
      obtain ⟨o, e, ex⟩ := z
      refine ⟨⟨o, e, ex.1⟩, fun a e2 => ?_⟩
      cases e2
      exact ⟨o, e, ex.2.1⟩
    · obtain ⟨o, _, _, _, e, ex, _⟩ := I.hok p _ hk
      refine ⟨⟨o, e, ex.1⟩, fun a e2 => ?_⟩
      cases e2
      exact ⟨o, e, ex.2.1⟩
  | _ => exact False.elim ty
def tBM (K : PySem.W.Frag) (T : String) (r : V → List V → Hp → VK → Prop) (to : TE) (t : TA) : TE := fun σ H Q => to σ H fun x H1 => tyV K T x H1 ∧ t σ H1 fun xs H2 => r x xs H2 Q
variable {o e : Expr} {es : List Expr} {to : TE} {t : TA} {name : Str} {apos cpos : Pos} {T id : String} {r : V → List V → Hp → VK → Prop}
theorem pe_bm (pa : PlainAttrs T) (slot : Slot T name id) (hty : typeOf (.builtin id) = pure (.type "method_descriptor")) (hm : MtR X id r) (ho : PE X o to) (ha : PA X (e :: es) t)
    (hbase : attributeBase o name X.env (eval o X.env) = eval o X.env := by rfl)
    (hfew : ((backTo cpos (starEach (e :: es) X.env)).all (fun x => !x.1) && (backToKw cpos (keywordEach [] X.env)).all (fun x => x.1.isSome)
      && decide ((e :: es).length + ([] : List Keyword).length + (if ([] : List Keyword).isEmpty then 0 else 1) < 30)) = true := by rfl)
    (hline : (apos.endLine == cpos.line) = true := by rfl) (hs : starEach (e :: es) X.env = (false, eval e X.env) :: starEach es X.env := by rfl) (hplain : (backTo cpos (starEach es X.env)).any (·.1) = false := by rfl) :
    PE X (.Call (.Attribute o name apos) (e :: es) [] cpos) (tBM X.K T r to t) := by
  intro pins s σ H Q I h
  refine wpAny_Call_method_late hbase hfew hline rfl (thn (ho pins s σ H _ I h) fun v s1 ⟨x, H1, I1, r1, ty, q1⟩ => ?_)
  obtain ⟨h1, h2⟩ := tyV_is I1 r1 ty
  refine ⟨T, id, pa, slot, hty, h1, h2, ?_⟩
  have hA := ha cpos pins s1 σ H1 _ I1 q1
  rw [hs] at hA ⊢
  refine Calls.callWith_builtin (by show (false || (backTo cpos (starEach es X.env)).any (·.1)) = false; rw [hplain] <;> rfl) (Calls.evalArgs_plain ?_)
  exact thn hA fun us s2 ⟨vs, H2, I2, r2, q2⟩ => hm pins s2 σ H2 x vs v us Q I2 r1 r2 q2

end
end L2

namespace L2
open PySem PySem.Spec PyProof.Rows

def MtM (X : Cx) (id : String) (r : V → List V → Hp → VK → Prop) : Prop :=
  ∀ (pins : List (Addr × Obj)) (s : Shared) (σ : St) (H : Hp) (x : V) (xs : List V) (v : Value) (us : List Value) (Q : VK), Inv X pins σ H s → RelV x v → Vals xs us → r x xs H Q →
    wpAny (model X.prog X.w) X.A (call (.builtin id) (v :: us)) (EP X pins σ Q) X.xe s

theorem Vals.one : ∀ {x : V} {us : List Value}, Vals [x] us → ∃ u, us = [u] ∧ RelV x u
  | _, _, .cons r .nil => ⟨_, rfl, r⟩
theorem Vals.two : ∀ {x y : V} {us : List Value}, Vals [x, y] us → ∃ u v, us = [u, v] ∧ RelV x u ∧ RelV y v
  | _, _, _, .cons r (.cons q .nil) => ⟨_, _, rfl, r, q⟩
theorem Vals.zero : ∀ {us : List Value}, Vals [] us → us = []
  | _, .nil => rfl
section
variable {X : Cx} {pins : List (Addr × Obj)} {σ : St} {H : Hp} {s : Shared} {l b : Addr} {xs ys zs : List V}

theorem Inv.lset {its its' : List Value} {n : Nat} {f : Array Value → Array Value} {t' : Nat} (I : Inv X pins σ H s) (hH : H l = some (.lst xs))
    (e : s.heap.get? l = some { cls := .type "list", data := .seq its.toArray n }) (hf : f its.toArray = its'.toArray) (hv : Vals ys its') (hz : ys.length ≤ sizeLine) :
    Inv X pins σ (upd H l (.lst ys)) { s with heap := s.heap.update l (Obj.mapSeq f), toks := t' } := by
  have q := PySem.IsL.update e f
  rw [hf] at q
  refine I.write (x := l) (e := l) (by rw [hH]; exact trivial) (.inl rfl) (fun b' u hb hu => (Heap.get?_update_other s.heap (Obj.mapSeq f) (Ne.symm hb)).trans hu) ⟨_, q⟩ ?_
  exact ⟨hz, its', _, hv, q⟩
theorem Inv.fresh (I : Inv X pins σ H s) : H s.heap.objs.size = none := I.hok.fresh (Nat.le_refl _)
theorem Inv.lstM (I : Inv X pins σ H s) (hH : H l = some (.lst xs)) : xs.length ≤ sizeLine ∧ ∃ (its : List Value) (n : Nat), Vals xs its ∧ xs.length = its.length ∧ s.heap.get? l = some { cls := .type "list", data := .seq its.toArray n } := by
  obtain ⟨z, its, n, r, e⟩ := I.hok l _ hH
  exact ⟨z, its, n, r, r.length, e⟩

theorem notLongL {n : Nat} (h : n ≤ sizeLine) : Builtin.List.listTooLong n = false := by
  unfold Builtin.List.listTooLong
  exact decide_eq_false (by omega)
end

section
variable {X : Cx}

def rAppend : V → List V → Hp → VK → Prop := fun x vs H Q => ∃ l xs y, x = .ref l ∧ vs = [y] ∧ H l = some (.lst xs) ∧ xs.length < sizeLine ∧ Q .non (upd H l (.lst (xs ++ [y])))
theorem mt_append : MtM X "list.append" rAppend := by
  intro pins s σ H x vs v us Q I rx rv h
  obtain ⟨l, xs, y, rfl, rfl, hH, hz, q⟩ := h
  cases rx
  obtain ⟨u, rfl, ru⟩ := rv.one
  obtain ⟨z, its, n, r, hl, e⟩ := I.lstM hH
  refine call_meets F.slot_list_append ⟨_, e, rfl⟩ F.entry_list_append (F.args_list_append_2 _ _) (PySem.list_append l its.toArray n u (by rw [List.size_toArray]; omega)) ⟨e, ?_⟩
  refine ⟨.non, _, I.lset (its' := its ++ [u]) hH e (by simp) (r.append (.cons ru .nil)) ?_, rfl, q⟩
  rw [List.length_append, List.length_singleton]
  omega

def rExtend : V → List V → Hp → VK → Prop := fun x vs H Q => ∃ l b xs zs, x = .ref l ∧ vs = [.ref b] ∧ H l = some (.lst xs) ∧ H b = some (.lst zs) ∧ xs.length + zs.length ≤ sizeLine ∧ Q .non (upd H l (.lst (xs ++ zs)))
theorem mt_extend : MtM X "list.extend" rExtend := by
  intro pins s σ H x vs v us Q I rx rv h
  obtain ⟨l, b, xs, zs, rfl, rfl, hH, hB, hz, q⟩ := h
  cases rx
  obtain ⟨u, rfl, ru⟩ := rv.one
  cases ru
  obtain ⟨z, its, n, r, hl, e⟩ := I.lstM hH
  obtain ⟨z2, its2, n2, r2, hl2, e2⟩ := I.lstM hB
  have hsz : its.toArray.size + its2.toArray.size ≤ sizeLine := by rw [List.size_toArray, List.size_toArray]; omega
  have hlong : ¬ (!its.toArray.isEmpty && Builtin.List.listTooLong (its.toArray.size + its2.toArray.size)) = true := by
    rw [notLongL hsz, Bool.and_false]
    exact Bool.false_ne_true
  refine call_meets F.slot_list_extend ⟨_, e, rfl⟩ F.entry_list_extend (F.args_list_extend_2 _ _)
    (AutoSeq1.list_extend_list_list_0 l its.toArray n b its2.toArray n2 hlong (by rw [List.size_toArray]; omega) (by omega)) ⟨e, e2, ?_⟩
  refine ⟨.non, _, I.lset (its' := its ++ its2) hH e (by simp) (r.append r2) ?_, rfl, q⟩
  rw [List.length_append]
  omega

end

section
variable {prog : Program} {w : World} {A : Around} {E : Value → Shared → Prop} {s : Shared}
end

section
variable {X : Cx}
end
end L2

namespace L2
open PySem PySem.Spec PyProof.Rows

theorem Vals.ints : ∀ {ns : List Int} {us : List Value}, Vals (ns.map V.int) us → IntsAre us ns
  | [], us, h => by
    rw [List.map_nil] at h
    cases h
    exact IntsAre.nil
  | n :: ns, us, h => by
    rw [List.map_cons] at h
    cases h with
    | cons r t =>
      obtain ⟨k, rfl⟩ := r
      exact IntsAre.cons n k (Vals.ints t)
theorem Vals.strs : ∀ {xs : List Str} {us : List Value}, Vals (xs.map V.str) us → StrsAre us xs
  | [], us, h => by
    rw [List.map_nil] at h
    cases h
    exact StrsAre.nil
  | x :: xs, us, h => by
    rw [List.map_cons] at h
    cases h with
    | cons r t =>
      obtain ⟨k, rfl⟩ := r
      exact StrsAre.cons x k (Vals.strs t)
theorem Vals.bls : ∀ {bs : List Bool} {us : List Value}, Vals (bs.map V.bl) us → us = bs.map Value.bool
  | [], us, h => by
    rw [List.map_nil] at h
    cases h
    rfl
  | b :: bs, us, h => by
    rw [List.map_cons] at h
    cases h with
    | cons r t =>
      cases r
      rw [Vals.bls t, List.map_cons]
theorem Vals.ref1 {a : Addr} {us : List Value} (r : Vals [V.ref a] us) : us = [Value.ref a] := by
  cases r with
  | cons r t =>
    cases t
    cases r
    rfl
section
variable {prog : Program} {w : World} {A : Around} {E : Value → Shared → Prop} {s : Shared} {l : Addr} {its : List Value} {ns : List Int} {Q : Value → Shared → Prop}
theorem max_raw (hh : A.handled = none) (hl : s.heap.IsList l its.toArray) (hi : IntsAre its ns) (hne : 0 < ns.length)
    (h : ∀ h' tk M t', (∀ b o, s.heap.get? b = some o → h'.get? b = some o) → M ∈ ns → (∀ a, a ∈ ns → a ≤ M) → Q (.int M t') { s with heap := h', toks := tk }) : wpAny (model prog w) A (call (.builtin "max") [.ref l]) Q E s := by
  obtain ⟨xs, e⟩ := hi.allInts.items
  have hn : numsOf (intItems xs).toList = ns := by rw [← e]; exact hi.numsOf
  rw [nums_intItems] at hn
  subst hn
  rw [e] at hl
  have hsz : 0 < xs.size := by simpa using hne
  refine PySem.max_intList hh hl hsz fun v h' tk hv hk => ?_
  obtain ⟨t, rfl⟩ := intItems_at hv
  obtain ⟨h1, h2⟩ := argBest_gt (numAt xs) (xs.size - 1)
  refine h h' tk _ t hk ?_ fun a ha => ?_
  · rw [numAt_eq]; exact PySem.getD_mem (by rw [List.length_map, Array.length_toList]; omega)
  · obtain ⟨j, hj, rfl⟩ := mem_getD ha
    rw [List.length_map, Array.length_toList] at hj
    rw [← numAt_eq]; exact h2 j (by omega)
end

section
variable {X : Cx}
def rSum (K : PySem.W.Frag) : List V → Hp → VK → Prop := fun vs H Q => ∃ (a : Addr) (ns : List Int), vs = [V.ref a] ∧ SqL K H a (ns.map V.int) ∧ Q (.int ns.sum) H
def rMax (K : PySem.W.Frag) : List V → Hp → VK → Prop := fun vs H Q => ∃ (a : Addr) (ns : List Int), vs = [V.ref a] ∧ SqL K H a (ns.map V.int) ∧ 0 < ns.length ∧ ∀ m, m ∈ ns → (∀ y, y ∈ ns → y ≤ m) → Q (.int m) H
theorem cr_max (hc : X.calm = true) : CallR X (.builtin "max") (rMax X.K) := by
  intro pins s σ H vs us Q I r h
  obtain ⟨a, ns, rfl, hs, hne, q⟩ := h
  obtain ⟨its, rv, hl, _⟩ := I.list hs
  rw [Vals.ref1 r]
  exact max_raw (I.ok.hd hc) hl.isList rv.ints hne fun h' tk m t' hk h1 h2 => ⟨.int _, H, I.kept hk, ⟨_, rfl⟩, q m h1 h2⟩
end

section
variable {X : Cx}
end

section
variable {X : Cx}
end

theorem iter_any {prog : Program} {w : World} {A : Around} {E : Value → Shared → Prop} {s : Shared} {l : Addr} {items : Array Value} {Q : Value → Shared → Prop} (hl : s.heap.IsList l items)
    (h : ∀ s₂ : Shared, s₂ = { s with heap := s.heap.push { cls := .type "list_iterator", data := .fields #[.ref l, .int 0 0] } } →
      (s₂.heap.IsListIter s.heap.objs.size l 0 ∧ s₂.heap.IsList l items) → l ≠ s.heap.objs.size → Q (.ref s.heap.objs.size) s₂) : wpAny (model prog w) A (pyIter (.ref l)) Q E s := by
  have hlt : l < s.heap.objs.size := by obtain ⟨_, e, _⟩ := hl; exact Heap.lt_size e
  exact wpAny_pyIter_list hl (h _ rfl ⟨⟨_, Heap.get?_push_size _ rfl, rfl, rfl⟩, hl.push _⟩ (Nat.ne_of_lt hlt))
theorem truth_bools {prog : Program} {w : World} {A : Around} {bs : List Bool} {its : List Value} (e : its = bs.map Value.bool) :
    TruthOf prog w A (fun i v => its.toArray[i]? = some v) (fun i => bs.getD i false) := fun i v s Q E hv hq => by
  have hv' : its[i]? = some v := by simpa using hv
  rw [e, List.getElem?_map] at hv'
  obtain ⟨b, hb, rfl⟩ := Option.map_eq_some_iff.mp hv'
  have hg : bs.getD i false = b := by rw [List.getD_eq_getElem?_getD, hb] <;> rfl
  have hq' : Q (bs.getD i false) s := hq
  rw [hg] at hq'
  exact wpAny_truthy_bool hq'
theorem all_range : ∀ bs : List Bool, (List.range bs.length).all (fun i => bs.getD i false) = bs.all id
  | [] => rfl
  | b :: bs => by
    rw [List.length_cons, List.range_succ_eq_map, List.all_cons, List.all_map, List.all_cons, ← all_range bs]
    all_goals rfl
section
variable {X : Cx}
def rAll (K : PySem.W.Frag) : List V → Hp → VK → Prop := fun vs H Q => ∃ (a : Addr) (bs : List Bool), vs = [V.ref a] ∧ SqL K H a (bs.map V.bl) ∧ Q (.bl (bs.all id)) H
theorem cr_all (hc : X.calm = true) : CallR X (.builtin "all") (rAll X.K) := by
  intro pins s σ H vs us Q I r h
  obtain ⟨a, bs, rfl, hs, q⟩ := h
  obtain ⟨its, rv, hl, _⟩ := I.list hs
  rw [Vals.ref1 r]
  have hb := rv.bls
  refine call_all_walk (iter_any hl.isList fun s₂ e2 st hne => ?_)
  subst e2
  refine ⟨_, _, _, _, _, _, _, rfl, Walks.list (A := X.A.in1) (I.ok.hd hc) _ a hne its.toArray, st, truth_bools hb, fun h' tk hk => ?_⟩
  refine ⟨.bl _, H, I.kept fun b o eo => hk b o (fun hmem => ?_) (Heap.get?_push_of_some _ eo), ?_, q⟩
  · rcases List.mem_cons.mp hmem with e1 | hmem
    · exact absurd (e1 ▸ Heap.lt_size eo) (Nat.lt_irrefl _)
    · cases hmem
  · show Value.bool _ = Value.bool _
    rw [← all_range, hb, List.size_toArray, List.length_map]
end

mutual
inductive Dp (K : PySem.W.Frag) (H : Hp) : V → PyData → Prop
  | non : Dp K H .non .none
  | bl (b : Bool) : Dp K H (.bl b) (.bool b)
  | int (i : Int) : Dp K H (.int i) (.int i)
  | str (x : Str) : Dp K H (.str x) (.str x)
  | lst {a : Addr} {xs : List V} {ds : List PyData} : SqL K H a xs → DpAll K H xs ds → Dp K H (.ref a) (.list ds)
  | tup {a : Addr} {xs : List V} {ds : List PyData} : SqT K H a xs → DpAll K H xs ds → Dp K H (.ref a) (.tuple ds)
inductive DpAll (K : PySem.W.Frag) (H : Hp) : List V → List PyData → Prop
  | nil : DpAll K H [] []
  | cons {v : V} {vs : List V} {d : PyData} {ds : List PyData} : Dp K H v d → DpAll K H vs ds → DpAll K H (v :: vs) (d :: ds)
end
section
variable {X : Cx} {pins : List (Addr × Obj)} {σ : St} {H : Hp} {s : Shared}
mutual
theorem Dp.reads (I : Inv X pins σ H s) : ∀ (d : PyData) (v : V) (u : Value), Dp X.K H v d → RelV v u → ∃ as, Reads s.heap u d as
  | .none, _, _, h, r => by
    cases h
    cases r
    exact ⟨_, Reads.none⟩
  | .bool b, _, _, h, r => by
    cases h
    cases r
    exact ⟨_, Reads.bool b⟩
  | .int i, _, _, h, r => by
    cases h
    obtain ⟨t, rfl⟩ := r
    exact ⟨_, Reads.int i t⟩
  | .str x, _, _, h, r => by
    cases h
    obtain ⟨t, rfl⟩ := r
    exact ⟨_, Reads.str x t⟩
  | .list ds, _, _, h, r => by
    cases h with
    | lst hs ha =>
      cases r
      obtain ⟨its, rv, ⟨o, n, ho, hc, _, hd⟩, _⟩ := I.list hs
      obtain ⟨as, hr⟩ := Dp.readsAll I ds _ its ha rv
      exact ⟨_, Reads.list ho hc hd hr⟩
  | .tuple ds, _, _, h, r => by
    cases h with
    | tup hs ha =>
      cases r
      obtain ⟨its, rv, ⟨o, ho, hc, n, hd⟩, _⟩ := I.tuple hs
      obtain ⟨as, hr⟩ := Dp.readsAll I ds _ its ha rv
      exact ⟨_, Reads.tuple ho hc hd hr⟩
  | .dict _, _, _, h, _ => by cases h
theorem Dp.readsAll (I : Inv X pins σ H s) : ∀ (ds : List PyData) (vs : List V) (us : List Value), DpAll X.K H vs ds → Vals vs us → ∃ as, ReadsAll s.heap us ds as
  | [], _, _, h, r => by
    cases h
    cases r
    exact ⟨_, ReadsAll.nil⟩
  | d :: ds, _, _, h, r => by
    cases h with
    | cons h1 h2 =>
      cases r with
      | cons r1 r2 =>
        obtain ⟨as, q1⟩ := Dp.reads I d _ _ h1 r1
        obtain ⟨bs, q2⟩ := Dp.readsAll I ds _ _ h2 r2
        exact ⟨_, ReadsAll.cons q1 q2⟩
end
end
section
variable {X : Cx}
end
end L2

namespace L2
open PySem PySem.Spec PyProof.Rows
abbrev CellAt (h : Heap) (c : Addr) (v : Option Value) : Prop := h.IsCell c v
def relS (scope sc : Scope) : Scope :=
  { scope with names := scope.names.map fun (n, k) => if (k == .free && sc.kind == .function && sc.names.lookup n == some .cell) then (n, .cell) else (n, k) }

def cloFrom (cells : List (Str × Addr)) : List (Str × NameKind) → List (Str × Addr) → List (Str × Addr)
  | [], acc => acc
  | (n, k) :: r, acc => if k == .free then cloFrom cells r ((n, (cells.lookup n).getD 0) :: acc) else cloFrom cells r acc

theorem closure_loop (env : Env) (f : Str × NameKind → List (Str × Addr) → Sem (ForInStep (List (Str × Addr))))
    (hf : ∀ n k c, f (n, k) c = if k == .free then (do let a ← cellOf env n; pure (.yield ((n, a) :: c))) else pure (.yield c)) :
    ∀ (names : List (Str × NameKind)) (acc : List (Str × Addr)), (∀ y ∈ names, y.2 = .free → ∃ c, env.cells.lookup y.1 = some c) → forIn names acc f = pure (cloFrom env.cells names acc)
  | [], acc, _ => by rw [List.forIn_nil]; rfl
  | (n, k) :: r, acc, h => by
    rw [List.forIn_cons, hf]
    have ih := fun acc => closure_loop env f hf r acc fun y hy => h y (List.mem_cons_of_mem _ hy)
    unfold cloFrom
    by_cases hk : (k == NameKind.free) = true
    · rw [if_pos hk, if_pos hk]
      obtain ⟨c, hc⟩ := h (n, k) List.mem_cons_self (by simpa using hk)
      have e : cellOf env n = pure c := by unfold cellOf; rw [hc]
      rw [e]
      have e2 : (env.cells.lookup n).getD 0 = c := by rw [hc]; rfl
      rw [e2]
      exact ih _
    · rw [if_neg hk, if_neg hk]
      exact ih _
theorem closure_ok {scope : Scope} {env : Env} (h : ∀ y ∈ scope.names, y.2 = .free → ∃ c, env.cells.lookup y.1 = some c) : closureFor scope env = pure (cloFrom env.cells scope.names []) := by
  simp only [closureFor]
  rw [closure_loop env _ (fun n k c => rfl) scope.names [] h]
  rfl

theorem mem_lookup {α : Type} : ∀ {l : List (Str × α)} {n : Str} {c : α}, (n, c) ∈ l → ∃ c', l.lookup n = some c'
  | (k, v) :: r, n, c, h => by
    rw [List.lookup_cons]
    cases hb : n == k with
    | true => exact ⟨_, rfl⟩
    | false =>
      rcases List.mem_cons.mp h with e | h
      · cases e; simp at hb
      · exact mem_lookup h

theorem cloFrom_mem {cells : List (Str × Addr)} : ∀ {names : List (Str × NameKind)} {acc : List (Str × Addr)} {n : Str} {c : Addr}, (n, c) ∈ cloFrom cells names acc → (n, c) ∈ acc ∨ ((n, .free) ∈ names ∧ c = (cells.lookup n).getD 0)
  | [], _, _, _, h => .inl h
  | (m, k) :: r, acc, n, c, h => by
    unfold cloFrom at h
    split at h
    · rename_i hk
      have hk : k = .free := by simpa using hk
      rcases cloFrom_mem h with h | ⟨h1, h2⟩
      · rcases List.mem_cons.mp h with e | h
        · cases e; exact .inr ⟨hk ▸ List.mem_cons_self, rfl⟩
        · exact .inl h
      · exact .inr ⟨List.mem_cons_of_mem _ h1, h2⟩
    · rcases cloFrom_mem h with h | ⟨h1, h2⟩
      · exact .inl h
      · exact .inr ⟨List.mem_cons_of_mem _ h1, h2⟩
theorem cloFrom_acc {cells : List (Str × Addr)} : ∀ {names : List (Str × NameKind)} {acc : List (Str × Addr)} {p : Str × Addr}, p ∈ acc → p ∈ cloFrom cells names acc
  | [], _, _, h => h
  | (m, k) :: r, acc, p, h => by
    unfold cloFrom
    split
    · exact cloFrom_acc (List.mem_cons_of_mem _ h)
    · exact cloFrom_acc h
theorem cloFrom_has {cells : List (Str × Addr)} : ∀ {names : List (Str × NameKind)} {acc : List (Str × Addr)} {n : Str}, (n, .free) ∈ names → (n, (cells.lookup n).getD 0) ∈ cloFrom cells names acc
  | (m, k) :: r, acc, n, h => by
    unfold cloFrom
    rcases List.mem_cons.mp h with e | h
    · cases e
      exact cloFrom_acc List.mem_cons_self
    · split
      · exact cloFrom_has h
      · exact cloFrom_has h

theorem cells_mem : ∀ {names : List (Str × NameKind)} {h : Heap} {acc : List (Str × Addr)} {x : Str} {c : Addr}, (x, c) ∈ cellsFrom h.objs.size names acc →
    (x, c) ∈ acc ∨ ((x, .cell) ∈ names ∧ h.objs.size ≤ c ∧ CellAt (pushCells h names) c none)
  | [], _, _, _, _, h => .inl h
  | (n, k) :: r, h, acc, x, c, hm => by
    unfold cellsFrom at hm
    unfold pushCells
    split at hm
    · rename_i hk
      rw [if_pos hk]
      have hk : k = .cell := by simpa using hk
      rw [← Heap.size_push h { cls := .type "cell", data := .cell none }] at hm
      rcases cells_mem hm with hm | ⟨h1, h2, h3⟩
      · rcases List.mem_cons.mp hm with e | hm
        · cases e
          exact .inr ⟨hk ▸ List.mem_cons_self, Nat.le_refl _, _, pushCells_keeps r _ _ _ (Heap.get?_push_size _ rfl), rfl⟩
        · exact .inl hm
      · rw [Heap.size_push] at h2
        exact .inr ⟨List.mem_cons_of_mem _ h1, Nat.le_of_succ_le h2, h3⟩
    · rename_i hk
      rw [if_neg hk]
      rcases cells_mem hm with hm | ⟨h1, h2, h3⟩
      · exact .inl hm
      · exact .inr ⟨List.mem_cons_of_mem _ h1, h2, h3⟩
theorem cells_acc : ∀ {names : List (Str × NameKind)} {n : Nat} {acc : List (Str × Addr)} {p : Str × Addr}, p ∈ acc → p ∈ cellsFrom n names acc
  | [], _, _, _, h => h
  | (m, k) :: r, n, acc, p, h => by
    unfold cellsFrom
    split
    · exact cells_acc (List.mem_cons_of_mem _ h)
    · exact cells_acc h
theorem cells_has : ∀ {names : List (Str × NameKind)} {n : Nat} {acc : List (Str × Addr)} {x : Str}, (x, .cell) ∈ names → ∃ c, (x, c) ∈ cellsFrom n names acc
  | (m, k) :: r, n, acc, x, h => by
    unfold cellsFrom
    rcases List.mem_cons.mp h with e | h
    · cases e
      exact ⟨n, cells_acc List.mem_cons_self⟩
    · split
      · exact cells_has h
      · exact cells_has h
theorem cells_inj : ∀ {names : List (Str × NameKind)} {h : Heap} {acc : List (Str × Addr)} {x y : Str} {c : Addr}, (∀ p ∈ acc, p.2 < h.objs.size) → (∀ x y c, (x, c) ∈ acc → (y, c) ∈ acc → x = y) →
    (x, c) ∈ cellsFrom h.objs.size names acc → (y, c) ∈ cellsFrom h.objs.size names acc → x = y
  | [], _, _, _, _, _, _, hi, h1, h2 => hi _ _ _ h1 h2
  | (n, k) :: r, h, acc, x, y, c, hl, hi, h1, h2 => by
    unfold cellsFrom at h1 h2
    split at h1
    · rename_i hk
      rw [if_pos hk] at h2
      rw [← Heap.size_push h { cls := .type "cell", data := .cell none }] at h1 h2
      refine cells_inj (h := h.push _) (fun p hp => ?_) (fun x y c a b => ?_) h1 h2
      · rw [Heap.size_push]
        rcases List.mem_cons.mp hp with rfl | hp
        · exact Nat.lt_succ_self _
        · exact Nat.lt_succ_of_lt (hl p hp)
      · rcases List.mem_cons.mp a with e | a <;> rcases List.mem_cons.mp b with e' | b
        · cases e; cases e'; rfl
        · cases e; exact absurd (hl _ b) (Nat.lt_irrefl _)
        · cases e'; exact absurd (hl _ a) (Nat.lt_irrefl _)
        · exact hi _ _ _ a b
    · rename_i hk
      rw [if_neg hk] at h2
      exact cells_inj hl hi h1 h2

theorem newEnv_comp {M : Model} {A : Around} {E : Value → Shared → Prop} {s : Shared} {scope : Scope} {globals : Addr} {closure : List (Str × Addr)} {qual : Str} {func : Option Addr} {code : Value} {around : Env} {builtins : Addr} {Q : Env → Shared → Prop}
    (h : Q (newEnv scope s.heap.objs.size globals (cellsFrom (s.heap.objs.size + 1) scope.names closure) qual func code (some around) builtins)
      { s with heap := pushCells (s.heap.push { cls := .type "dict", data := .dict #[] }) scope.names }) :
    wpAny M A (newFunctionEnv scope globals closure [] qual func code (some around) builtins) Q E s := by
  simp only [newFunctionEnv, Option.isSome_some, if_true]
  refine wpAny_bind (wpAny_alloc ?_)
  refine wpAny_bind (wpAny_layCells _ (fun n k c => rfl) scope.names closure _ _ ?_)
  rw [show ({ s with heap := s.heap.push { cls := .type "dict", data := .dict #[] } } : Shared).heap.objs.size = s.heap.objs.size + 1 from Heap.size_push ..]
  rw [List.forIn_nil]
  exact wpAny_bind (wpAny_pure (wpAny_pure h))

theorem lookup_relS {sc : Scope} : ∀ {names : List (Str × NameKind)} {x : Str} {k : NameKind},
    (names.map fun (n, k) => if (k == NameKind.free && sc.kind == .function && sc.names.lookup n == some .cell) then (n, NameKind.cell) else (n, k)).lookup x = some k →
    ∃ k', names.lookup x = some k' ∧ (k = k' ∨ (k' = .free ∧ k = .cell))
  | [], _, _, h => by simp at h
  | (n, k₀) :: r, x, k, h => by
    have ih := @lookup_relS sc r x k
    have h' : List.lookup x ((if (k₀ == NameKind.free && sc.kind == .function && sc.names.lookup n == some .cell) = true then (n, NameKind.cell) else (n, k₀)) :: (r.map _)) = some k := h
    cases hx : x == n with
    | true =>
      simp only [List.lookup_cons, hx]
      by_cases hc : (k₀ == NameKind.free && sc.kind == .function && sc.names.lookup n == some .cell) = true
      · rw [if_pos hc] at h'
        simp only [List.lookup_cons, hx] at h'
        cases h'
        simp only [Bool.and_eq_true, beq_iff_eq] at hc
        exact ⟨k₀, rfl, .inr ⟨hc.1.1, rfl⟩⟩
      · rw [if_neg hc] at h'
        simp only [List.lookup_cons, hx] at h'
        cases h'
        exact ⟨_, rfl, .inl rfl⟩
    | false =>
      simp only [List.lookup_cons, hx]
      by_cases hc : (k₀ == NameKind.free && sc.kind == .function && sc.names.lookup n == some .cell) = true
      · rw [if_pos hc] at h'
        simp only [List.lookup_cons, hx] at h'
        exact ih h'
      · rw [if_neg hc] at h'
        simp only [List.lookup_cons, hx] at h'
        exact ih h'
structure BlkOk (N : List Str) (sc scope : Scope) (own : List (Str × Nat)) : Prop where
  kind : scope.kind = .function
  uniq : ∀ y ∈ scope.names, scope.names.lookup y.1 = some y.2
  ix : ∀ p ∈ own, N[p.2]? = some p.1
  free : ∀ y ∈ scope.names, y.2 = .free → sc.names.lookup y.1 = some .cell ∨ sc.names.lookup y.1 = some .free
  own : ∀ y ∈ scope.names, y.2 = .local ∨ y.2 = .cell → y.1 ∈ own.map (·.1) ∨ y.1 ∉ N
def wipe (σ : St) : List Nat → St
  | [] => σ
  | v :: vs => (wipe σ vs).set v none
theorem wipe_length (σ : St) : ∀ vs : List Nat, (wipe σ vs).length = σ.length
  | [] => rfl
  | v :: vs => by unfold wipe; rw [List.length_set, wipe_length σ vs]
theorem wipe_some {σ : St} {i : Nat} {x : V} : ∀ {vs : List Nat}, (wipe σ vs)[i]? = some (some x) → σ[i]? = some (some x) ∧ i ∉ vs
  | [], h => ⟨h, by simp⟩
  | v :: vs, h => by
    unfold wipe at h
    by_cases hi : v = i
    · subst hi
      by_cases hv : v < (wipe σ vs).length
      · rw [List.getElem?_set_self hv] at h; cases h
      · rw [List.getElem?_eq_none (by simpa using hv)] at h; cases h
    · rw [List.getElem?_set_ne hi] at h
      obtain ⟨h1, h2⟩ := wipe_some h
      exact ⟨h1, by simp only [List.mem_cons, not_or]; exact ⟨fun e => hi e.symm, h2⟩⟩

abbrev Cx.blk (X : Cx) (s : Shared) (H : Hp) (scope : Scope) (cenv : Env) (fp : List Addr) : Cx := { X with s_0 := s, H_0 := H, env := cenv, outer := X.stack, ex := fp, fn := fun x => scope.names.lookup x == some .cell, pn := [], xe := fun _ _ => False }
section
variable {X : Cx} {pins : List (Addr × Obj)} {σ : St} {H : Hp} {s : Shared}
theorem block_start {scope : Scope} {own : List (Str × Nat)} {fp : List Addr} (I : Inv X pins σ H s) (ok : BlkOk X.N X.env.scope scope own) (hN : X.N.Nodup) (hfp : ∀ b ∈ fp, FpOk X pins H b ∧ b < s.heap.objs.size) :
    Inv (X.blk s H scope (compEnvC scope (cellsFrom (s.heap.objs.size + 1) scope.names (cloFrom X.env.cells scope.names [])) s.heap.objs.size X.env) fp) [] (wipe σ (own.map (·.2))) H { s with heap := pushCells (s.heap.push { cls := .type "dict", data := .dict #[] }) scope.names } := by
  have hfree : ∀ y ∈ scope.names, y.2 = .free → ∃ c, X.env.cells.lookup y.1 = some c := fun y hy e => by
    rcases ok.free y hy e with k | k
    · exact I.ok.has _ (.inl k)
    · exact I.ok.has _ (.inr k)
  generalize hcenv : compEnvC scope (cellsFrom (s.heap.objs.size + 1) scope.names (cloFrom X.env.cells scope.names [])) s.heap.objs.size X.env = cenv
  have kp : ∀ b o, s.heap.get? b = some o → (pushCells (s.heap.push { cls := .type "dict", data := .dict #[] }) scope.names).get? b = some o := fun b o e => pushCells_keeps _ _ _ _ (Heap.get?_push_of_some _ e)
  have hL : cenv.locals = s.heap.objs.size := by rw [← hcenv]; rfl
  have hcl : cenv.cells = cellsFrom (s.heap.objs.size + 1) scope.names (cloFrom X.env.cells scope.names []) := by rw [← hcenv]; rfl
  have hsc : cenv.scope = relS scope X.env.scope := by rw [← hcenv]; rfl
  rw [← Heap.size_push s.heap { cls := .type "dict", data := .dict #[] }] at hcl
  have cm : ∀ {y c}, (y, c) ∈ cloFrom X.env.cells scope.names [] → X.env.cells.lookup y = some c ∧ c < s.heap.objs.size := fun {y c} hm => by
    rcases cloFrom_mem hm with hm | ⟨h1, rfl⟩
    · cases hm
    · obtain ⟨c, hc⟩ := hfree _ h1 rfl
      rw [hc]
      obtain ⟨w, z⟩ := I.cell _ _ hc
      exact ⟨rfl, z.lt⟩
  have mem : ∀ {y c}, cenv.cells.lookup y = some c → (X.env.cells.lookup y = some c ∧ c < s.heap.objs.size) ∨ (s.heap.objs.size + 1 ≤ c ∧ CellAt (pushCells (s.heap.push { cls := .type "dict", data := .dict #[] }) scope.names) c none) := fun {y c} e => by
    rw [hcl] at e
    rcases cells_mem (PySem.mem_of_lookup e) with hm | ⟨_, h2, h3⟩
    · exact .inl (cm hm)
    · rw [Heap.size_push] at h2; exact .inr ⟨h2, h3⟩
  have look : ∀ {y}, scope.names.lookup y = some .free → ∃ c, cenv.cells.lookup y = some c ∧ X.env.cells.lookup y = some c := fun {y} hl => by
    have hy : (y, NameKind.free) ∈ scope.names := PySem.mem_of_lookup hl
    obtain ⟨c', e'⟩ := mem_lookup (cells_acc (names := scope.names) (n := (s.heap.push { cls := .type "dict", data := .dict #[] }).objs.size) (cloFrom_has (cells := X.env.cells) (acc := []) hy))
    rw [← hcl] at e'
    refine ⟨c', e', ?_⟩
    rw [hcl] at e'
    rcases cells_mem (PySem.mem_of_lookup e') with hm | ⟨h1, _, _⟩
    · exact (cm hm).1
    · have := ok.uniq _ h1
      rw [hl] at this; cases this
  have okB : (X.blk s H scope cenv fp).Ok := by
    refine ⟨I.ok.mod, by show cenv.scope.kind = _; rw [hsc]; exact ok.kind, by show cenv.globals = _; rw [← hcenv]; exact I.ok.glob, by show cenv.builtins = _; rw [← hcenv]; exact I.ok.blt, by show s.heap.objs.size ≤ cenv.locals; rw [hL]; exact Nat.le_refl _,
      fun y z c e1 e2 => ?_, fun y hy => ?_, fun y c z e => ?_, I.ok.hd, I.ok.frames, .inl rfl, fun b hb => ⟨?_, fun y c e z => ?_⟩, I.bs, Nat.le_trans I.ok.bsz I.sz, fun b o e hb => ?_, fun b hb z => ?_, I.stack, I.stkFree⟩
    · have e1 : cenv.cells.lookup y = some c := e1
      have e2 : cenv.cells.lookup z = some c := e2
      rw [hcl] at e1 e2
      refine cells_inj (fun p hp => ?_) (fun y z c a b => I.ok.inj y z c (cm a).1 (cm b).1) (PySem.mem_of_lookup e1) (PySem.mem_of_lookup e2)
      rw [Heap.size_push]
      exact Nat.lt_succ_of_lt (cm (y := p.1) (c := p.2) hp).2
    · show ∃ c, cenv.cells.lookup y = some c
      have key : ∀ k, cenv.kindOf y = some k → (k = .cell ∨ k = .free) → ∃ c, cenv.cells.lookup y = some c := fun k hk hk' => by
        unfold Env.kindOf at hk
        rw [hsc] at hk
        obtain ⟨k', e, r⟩ := lookup_relS hk
        have : k' = .cell ∨ k' = .free := by
          rcases r with rfl | ⟨rfl, _⟩
          · exact hk'
          · exact .inr rfl
        rcases this with rfl | rfl
        · obtain ⟨c, hm⟩ := cells_has (n := (s.heap.push { cls := .type "dict", data := .dict #[] }).objs.size) (acc := cloFrom X.env.cells scope.names []) (PySem.mem_of_lookup e)
          obtain ⟨c', e'⟩ := mem_lookup hm
          exact ⟨c', by rw [hcl]; exact e'⟩
        · obtain ⟨c, h1, _⟩ := look e
          exact ⟨c, h1⟩
      rcases hy with hy | hy
      · exact key _ hy (.inl rfl)
      · exact key _ hy (.inr rfl)
    · have z : (scope.names.lookup y == some NameKind.cell) = true := z
      have z : scope.names.lookup y = some .cell := by simpa using z
      have e : cenv.cells.lookup y = some c := e
      rw [hcl] at e
      rcases cells_mem (PySem.mem_of_lookup e) with hm | ⟨_, h2, _⟩
      · rcases cloFrom_mem hm with hm | ⟨h1, _⟩
        · cases hm
        · have q := ok.uniq _ h1
          rw [z] at q; cases q
      · rw [Heap.size_push] at h2
        exact Nat.le_of_succ_le h2
    · show b ≠ cenv.locals
      rw [hL]; exact Nat.ne_of_lt (hfp b hb).2
    · have e : cenv.cells.lookup y = some c := e
      rcases mem e with ⟨h1, _⟩ | ⟨h1, _⟩
      · exact (hfp b hb).1.2.2.2.2.1 y c h1 z
      · have h2 : s.heap.objs.size + 1 ≤ b := by rw [← z]; exact h1
        exact absurd (Nat.lt_of_lt_of_le (hfp b hb).2 (Nat.le_of_succ_le h2)) (Nat.lt_irrefl _)
    · rcases (hfp b hb).1.2.2.2.1 with z | z
      · exact I.ok.noex b o e z
      · exact absurd (Nat.lt_of_lt_of_le (Heap.lt_size e) (Nat.le_trans I.ok.bsz z)) (Nat.lt_irrefl _)
    · rcases List.mem_cons.mp (I.stkSub b z) with z | z
      · exact (hfp b hb).1.2.1 z
      · exact (hfp b hb).1.2.2.1 z
  refine ⟨okB, rfl, I.bare, Un.kept kp, ⟨fun _ => none, ?_, fun i y av e1 e2 e3 => ?_⟩, fun y c e => ?_, ?_, fun y c e => ?_, fun p hp => ?_, I.hok.kept kp, by rw [wipe_length]; exact I.len⟩
  · show Heap.Ns _ cenv.locals _
    rw [hL]
    exact Heap.Ns.keeps (Heap.Ns.new ..) fun b o e => pushCells_keeps _ _ _ _ e
  · obtain ⟨e2, hne⟩ := wipe_some e2
    have hfr : scope.names.lookup y = some .free ∧ (cenv.kindOf y = some .cell ∨ cenv.kindOf y = some .free) := by
      have key : ∀ k, cenv.scope.names.lookup y = some k → k = .local ∨ k = .cell ∨ k = .free → scope.names.lookup y = some .free ∧ (cenv.kindOf y = some .cell ∨ cenv.kindOf y = some .free) := fun k hk hk' => by
        have hk0 := hk
        rw [hsc] at hk
        obtain ⟨k', e, r⟩ := lookup_relS hk
        have no : ¬ (k' = .local ∨ k' = .cell) := fun hh => by
          rcases ok.own _ (PySem.mem_of_lookup e) hh with e' | e'
          · obtain ⟨p, hp, hpy⟩ := List.mem_map.mp e'
            have e3 := ok.ix p hp
            have : p.1 = y := hpy
            rw [this] at e3
            exact hne (List.mem_map.mpr ⟨p, hp, nodup_ix hN e3 e1⟩)
          · exact e' (List.mem_of_getElem? e1)
        rcases r with rfl | ⟨rfl, rfl⟩
        · rcases hk' with rfl | rfl | rfl
          · exact absurd (.inl rfl) no
          · exact absurd (.inr rfl) no
          · exact ⟨e, .inr hk0⟩
        · exact ⟨e, .inl hk0⟩
      have e3 : Vis cenv.scope y := e3
      rcases e3 with e3 | e3 | e3
      · exact key _ e3 (.inl rfl)
      · exact key _ e3 (.inr (.inl rfl))
      · exact key _ e3 (.inr (.inr rfl))
    obtain ⟨m, hn, hl⟩ := I.loc
    have hvis : Vis X.env.scope y := (ok.free _ (PySem.mem_of_lookup hfr.1) rfl).elim (fun k => .inr (.inl k)) (fun k => .inr (.inr k))
    obtain ⟨w, r, q⟩ := hl i y av e1 e2 hvis
    refine ⟨w, r, .inr ⟨hfr.2, ?_⟩⟩
    obtain ⟨c, h1, h2⟩ := look hfr.1
    rcases q with ⟨k, _⟩ | ⟨_, c', e', z⟩
    · have k : X.env.scope.names.lookup y = some .local := k
      rcases ok.free _ (PySem.mem_of_lookup hfr.1) rfl with k' | k' <;> rw [show X.env.scope.names.lookup y = _ from k'] at k <;> cases k
    · rw [h2] at e'; cases e'
      exact ⟨c, h1, z.keeps kp⟩
  · have e : cenv.cells.lookup y = some c := e
    rcases mem e with ⟨h1, _⟩ | ⟨_, z⟩
    · obtain ⟨w, z⟩ := I.cell y c h1
      exact ⟨w, z.keeps kp⟩
    · exact ⟨_, z⟩
  · show H cenv.locals = none
    rw [hL]; exact I.hok.fresh (Nat.le_refl _)
  · have e : cenv.cells.lookup y = some c := e
    rcases mem e with ⟨h1, _⟩ | ⟨h1, _⟩
    · exact I.freeC y c h1
    · exact I.hok.fresh (Nat.le_of_succ_le h1)
  · exact absurd (show p ∈ ([] : List (Addr × Obj)) ++ [] from hp) (by simp)

theorem app_ok {E : Value → Shared → Prop} {D : Addr} {xs : List V} {y : V} {v : Value} {Q : Value → Shared → Prop} (I : Inv X pins σ H s) (hD : H D = some (.lst xs)) (hz : xs.length < sizeLine) (r : RelV y v)
    (h : ∀ s', Inv X pins σ (upd H D (.lst (xs ++ [y]))) s' → Q .none s') : wpAny (model X.prog X.w) X.A (call (.builtin "list.append") [.ref D, v]) Q E s := by
  obtain ⟨hz', its, n, ri, e⟩ := I.hok D _ hD
  have hl := ri.length
  refine append_at (hsz := by rw [List.size_toArray]; omega) e fun h' sb ho' => ?_
  refine h { s with heap := h' } (I.write (t' := s.toks) (by rw [hD]; trivial) (.inl rfl) (fun b u hb q => (sb.2 b hb).trans q) ⟨_, ho'⟩ ⟨by rw [List.length_append]; exact hz, its ++ [v], n + 1, ri.append (.cons r .nil), ?_⟩)
  rw [ho']
  simp

def PTs (X : Cx) (ifs : List Expr) (t : TT) : Prop :=
  ∀ (pins : List (Addr × Obj)) (s : Shared) (σ : St) (H : Hp) (Q : Bool → Hp → Prop), Inv X pins σ H s → t σ H Q →
    wpAny (model X.prog X.w) X.A (forIn ifs true fun c r => if r = true then do let ok ← isTrue c X.env (eval c X.env); pure (ForInStep.yield ok) else pure (ForInStep.yield r)) (TP X pins σ Q) X.xe s
def tYes : TT := fun _ H Q => Q true H
theorem pts_nil : PTs X [] tYes := fun _ _ _ H _ I h => wpAny_tests_nil ⟨H, I, h⟩
end

theorem thnF {α : Type} {t : Sem α} {Q Q' : α → Shared → Prop} {M : Model} {A : Around} {E : Value → Shared → Prop} {s : Shared} (h : wpAny M A t Q (fun _ _ => False) s) (hQ : ∀ a s, Q a s → Q' a s) : wpAny M A t Q' E s := wpAny_mono h hQ fun _ _ z => False.elim z

theorem compLoop_any {prog : Program} {w : World} {A : Around} {R : Result → Shared → Prop} {s : Shared} {elt target iter : Expr} {ifs : List Expr} {scope : Scope} {pos : Pos} {it acc : Value} {env : Env} (I : Nat → Shared → Prop)
    (turn : ∀ n s, I n s → wpAny (model prog w) A (pyNext it) (fun r s₁ => match r with
      | none => R (.ok .next) s₁
      | some v => wpAny (model prog w) A (letOwnedTupleGo target it v) (fun _ s₁' => wpAny (model prog w) A (assign target env v) (fun _ s₂ =>
          wpAny (model prog w) A (forIn ifs true fun c r => if r = true then do let ok ← isTrue c env (eval c env); pure (ForInStep.yield ok) else pure (ForInStep.yield r)) (fun ok s₃ =>
            if ok = true then wpAny (model prog w) A (eval elt env) (fun x s₄ =>
              wpAny (model prog w) A (call (.builtin "list.append") [acc, x]) (fun _ s₅ => ∃ m, m < n ∧ I m s₅) (notedBy (model prog w) A env fun e s' => R (.error e) s') s₄) (notedBy (model prog w) A env fun e s' => R (.error e) s') s₃
            else ∃ m, m < n ∧ I m s₃) (notedBy (model prog w) A env fun e s' => R (.error e) s') s₂) (notedBy (model prog w) A env fun e s' => R (.error e) s') s₁') (notedBy (model prog w) A env fun e s' => R (.error e) s') s₁) (notedBy (model prog w) A env fun e s' => R (.error e) s') s)
    (n : Nat) (h : I n s) :
    codeAny (model prog w) A (.compLoop (.ListComp elt [⟨target, iter, ifs, 0⟩] scope pos) 0 it acc env) R s := by
  refine codeAny_loop rfl I (fun n s hI => ?_) n h
  show wpAny _ A ((compTurn (.ListComp elt [⟨target, iter, ifs, 0⟩] scope pos) 0 it acc env).onRaise (fun x => do noteFrame x env; theTreesLotGoes x)) _ _ s
  refine wpAny_noted ?_
  rw [compTurn_list]
  refine wpAny_bind (wpAny_standAt (wpAny_bind (wpAny_mono (turn n s hI) (fun r s₁ h₁ => ?_) fun _ _ h' => h')))
  cases r with
  | none => exact wpAny_pure h₁
  | some v =>
    refine wpAny_bind (wpAny_mono h₁ (fun _ s₁' h₁' => ?_) fun _ _ h' => h')
    refine wpAny_bind (wpAny_mono h₁' (fun _ s₂ h₂ => wpAny_bind (wpAny_mono h₂ (fun ok s₃ h₃ => ?_) fun _ _ h' => h')) fun _ _ h' => h')
    cases ok with
    | false => exact wpAny_pure ⟨rfl, h₃⟩
    | true =>
      exact wpAny_bind (wpAny_bind (wpAny_mono h₃ (fun x s₄ h₄ => wpAny_bind (wpAny_mono h₄ (fun _ s₅ h₅ => wpAny_pure (wpAny_pure ⟨rfl, h₅⟩)) fun _ _ h' => h')) fun _ _ h' => h'))

section
variable {X : Cx}
def tLc (wi : TI) (g : TG) (tt : TT) (te : TE) (vs : List Nat) : TE := fun σ H Q => wi σ H fun J H1 => ∀ D, H1 D = none → ∃ W : Nat → Nat → Hp → Prop, (∃ m, W 0 m (upd H1 D (.lst []))) ∧ ∀ i m H, W i m H →
  (J.stop i H ∧ Q (.ref D) H) ∨ (J.go i H ∧ ∃ Nx : Hp → Prop, (∀ H', Nx H' → ∃ m', m' < m ∧ W (i + 1) m' H') ∧ ∀ x H', J.yld i H x H' → g x (wipe σ vs) H' fun σ2 H2 => wipe σ2 vs = wipe σ vs ∧ tt σ2 H2 fun b H3 =>
    if b = true then te σ2 H3 fun y H4 => ∃ acc, H4 D = some (.lst acc) ∧ acc.length < sizeLine ∧ Nx (upd H4 D (.lst (acc ++ [y]))) else Nx H3)
theorem lc_core {pins : List (Addr × Obj)} {s : Shared} {σ : St} {H : Hp} {Q : VK} {elt tg iter : Expr} {ifs : List Expr} {scope : Scope} {own : List (Str × Nat)} {pos pos' : Pos} {wi : TI} {g : TG} {tt : TT} {te : TE} {use : Option (Value → Sem Unit)} {Qf : Value → Shared → Prop}
    (hc : X.calm = true) (hN : X.N.Nodup) (I : Inv X pins σ H s) (hi : PI X tg iter wi) (ok : BlkOk X.N X.env.scope scope own)
    (hg : ∀ (s : Shared) (H : Hp) (C : Addr) (cl : List (Str × Addr)) (fp : List Addr), PG (X.blk s H scope (compEnvC scope cl C X.env) fp) tg g) (ht : ∀ (s : Shared) (H : Hp) (C : Addr) (cl : List (Str × Addr)) (fp : List Addr), PTs (X.blk s H scope (compEnvC scope cl C X.env) fp) ifs tt)
    (he : ∀ (s : Shared) (H : Hp) (C : Addr) (cl : List (Str × Addr)) (fp : List Addr), PE (X.blk s H scope (compEnvC scope cl C X.env) fp) elt te) (hs : ∀ x, foldedSetIterable iter X.env x = pure x)
    (h : tLc wi g tt te (own.map (·.2)) σ H Q)
    (hRR : ∀ D C s' m H', Inv X pins σ H' s' → Q (.ref D) H' → s'.heap.Ns C m → FpOk X pins H' C → compPost (model X.prog X.w) X.A X.xe use Qf (.ref D) C (.ok .next) s') :
    wpAny (model X.prog X.w) X.A (comprehension (.ListComp elt [⟨tg, iter, ifs, 0⟩] scope pos) scope X.env pos' (newList []) false (eval iter X.env) use) Qf X.xe s := by
  have hfree : ∀ y ∈ scope.names, y.2 = .free → ∃ c, X.env.cells.lookup y.1 = some c := fun y hy e => by
    rcases ok.free y hy e with k | k
    · exact I.ok.has _ (.inl k)
    · exact I.ok.has _ (.inr k)
  refine wpAny_comprehension_free (use := use) rfl hs (closure_ok hfree) ok.kind (fun y hy e => by rw [ok.uniq y hy, e])
    (thn (hi pins s σ H _ I h) fun xv s1 hx => thn hx fun itv s2 h2 => ?_)
  obtain ⟨it, fp, tn, J, H2, e, I2, T, st2, f2, q⟩ := h2
  subst e
  refine wpAny_newObj_type (newEnv_comp ?_) (by show 0 ≤ sizeLine; decide)
  generalize hD : s2.heap.objs.size = D
  have hDn : H2 D = none := I2.hok.fresh (Nat.le_of_eq hD)
  obtain ⟨W, ⟨m0, w0⟩, turn⟩ := q D hDn
  -- the new list
  generalize hs3 : ({ s2 with heap := s2.heap.push { cls := .type "list", data := .seq ([] : List Value).toArray } } : Shared) = s3
  have I3 : Inv X pins σ (upd H2 D (.lst [])) s3 := by
    rw [← hs3]
    refine I2.laid (t' := s2.toks) (fun b o e => Heap.get?_push_of_some _ e) (Nat.le_of_eq hD) ⟨Nat.zero_le _, [], 0, .nil, ?_⟩
    rw [← hD]
    exact Heap.get?_push_size _ rfl
  have h3 : s3.heap = s2.heap.push { cls := .type "list", data := .seq ([] : List Value).toArray } := by rw [← hs3]
  have sz : ∀ b ∈ fp, b < s2.heap.objs.size := fun b hb => by
    obtain ⟨o, e, _⟩ := T.obj _ _ st2 b hb
    exact Heap.lt_size e
  have f3 : ∀ b ∈ fp, FpOk X pins (upd H2 D (.lst [])) b ∧ b < s3.heap.objs.size := fun b hb => by
    have hlt := sz b hb
    refine ⟨⟨?_, (f2 b hb).2⟩, by rw [h3, Heap.size_push]; exact Nat.lt_succ_of_lt hlt⟩
    rw [upd_ne (by rw [← hD]; exact Nat.ne_of_lt hlt)]
    exact (f2 b hb).1
  have st3 : tn 0 s3.heap := T.keep _ _ _ st2 fun b _ o e => by rw [h3]; exact Heap.get?_push_of_some _ e
  have I4 := block_start I3 ok hN f3
  have pg := hg s3 (upd H2 D (.lst [])) s3.heap.objs.size (cellsFrom (s3.heap.objs.size + 1) scope.names (cloFrom X.env.cells scope.names [])) fp
  have pt := ht s3 (upd H2 D (.lst [])) s3.heap.objs.size (cellsFrom (s3.heap.objs.size + 1) scope.names (cloFrom X.env.cells scope.names [])) fp
  have pe := he s3 (upd H2 D (.lst [])) s3.heap.objs.size (cellsFrom (s3.heap.objs.size + 1) scope.names (cloFrom X.env.cells scope.names [])) fp
  show codeAny _ _ (.compStart (.ListComp elt [⟨tg, iter, ifs, 0⟩] scope pos) 0 (.ref it) (.ref D) (compEnvC scope (cellsFrom (s3.heap.objs.size + 1) scope.names (cloFrom X.env.cells scope.names [])) s3.heap.objs.size X.env)) (compPost (model X.prog X.w) X.A X.xe use Qf (.ref D) s3.heap.objs.size) { s3 with heap := pushCells (s3.heap.push { cls := .type "dict", data := .dict #[] }) scope.names }
  have nfp : ∀ b ∈ fp, (upd H2 D (.lst [])) b = none := fun b hb => (f3 b hb).1.1
  generalize hce : compEnvC scope (cellsFrom (s3.heap.objs.size + 1) scope.names (cloFrom X.env.cells scope.names [])) s3.heap.objs.size X.env = ce at I4 pg pt pe ⊢
  have cL : ce.locals = s3.heap.objs.size := by subst hce; rfl
  generalize hH3 : upd H2 D (.lst []) = H3 at I3 I4 pg pt pe w0 nfp f3
  generalize hs4 : ({ s3 with heap := pushCells (s3.heap.push { cls := .type "dict", data := .dict #[] }) scope.names } : Shared) = s4 at I4 ⊢
  have st4 : tn 0 s4.heap := T.keep _ _ _ st3 fun b _ o e => by rw [← hs4]; exact pushCells_keeps _ _ _ _ (Heap.get?_push_of_some _ e)
  have stat : ∀ {σ' : St} {H' : Hp} {s' : Shared}, Inv (X.blk s3 H3 scope ce fp) [] σ' H' s' → (∀ b ∈ fp, H' b = none) → ∀ b ∈ fp, FpOk (X.blk s3 H3 scope ce fp) [] H' b := fun {σ' H' s'} I' hn b hb =>
    ⟨hn b hb, (I'.ok.exf b hb).1, I'.ok.exfs b hb, .inl hb, fun x c e => (I'.ok.exf b hb).2 x c e, fun p hp => absurd (show p ∈ ([] : List (Addr × Obj)) ++ [] from hp) (by simp)⟩
  have loop : codeAny (model X.prog X.w) X.A (.compLoop (.ListComp elt [⟨tg, iter, ifs, 0⟩] scope pos) 0 (.ref it) (.ref D) ce) (compPost (model X.prog X.w) X.A X.xe use Qf (.ref D) s3.heap.objs.size) s4 := by
    refine compLoop_any (fun n s' => ∃ i H', Inv (X.blk s3 H3 scope ce fp) [] (wipe σ (own.map (·.2))) H' s' ∧ tn i s'.heap ∧ (∀ b ∈ fp, H' b = none) ∧ W i n H') ?_ m0 ⟨0, H3, I4, st4, nfp, w0⟩
    rintro n s5 ⟨i, H5, I5, st5, n5, w5⟩
    rcases turn i n H5 w5 with ⟨stop, qq⟩ | ⟨go, Nx, hNx, step⟩
    · have td := T.done (X.blk s3 H3 scope ce fp) rfl rfl rfl hc i [] s5 _ H5 (fun _ _ => False) I5 (stat I5 n5) st5 stop
      refine thnF td fun r s6 ⟨hr, I6⟩ => ?_
      subst hr
      -- back in the def's context
      have I7 : Inv X pins σ H5 s6 := I3.call' (ch := fp) I6.os I6.base I6.hok I6.bare fun b hb => ⟨(f3 b hb).1.2.2.2.1, (f3 b hb).1.2.1, (f3 b hb).1.2.2.2.2.1, (f3 b hb).1.2.2.2.2.2⟩
      have nC : H5 s3.heap.objs.size = none := by
        have z : H5 ce.locals = none := I6.free
        rw [cL] at z
        exact z
      obtain ⟨m, hn, _⟩ := I6.loc
      have hn : s6.heap.Ns ce.locals m := hn
      rw [cL] at hn
      exact hRR D s3.heap.objs.size s6 m H5 I7 qq hn (I3.fpOk (Nat.le_refl _) nC)
    · have ti := T.item (X.blk s3 H3 scope ce fp) rfl rfl rfl hc i [] s5 _ H5 (fun _ _ => False) I5 (stat I5 n5) st5 go
      refine thnF ti fun r s6 ⟨u, hr, h6⟩ => ?_
      subst hr
      refine thnF h6 fun _ s7 ⟨x, H7, I7, r7, y7, st7, n7⟩ => ?_
      have I7' := I7.pinned (stat I7 n7) (T.obj _ _ st7)
      refine thnF (pg _ s7 _ H7 x u _ I7' r7 (step x H7 y7)) fun _ s8 ⟨σ8, H8, I8, hw8, q8⟩ => ?_
      refine thnF (pt _ s8 σ8 H8 _ I8 q8) fun b s9 ⟨H9, I9, q9⟩ => ?_
      -- the turn's end
      have fin : ∀ {s' : Shared} {H' : Hp}, Inv (X.blk s3 H3 scope ce fp) ([] ++ pinsAt fp s7.heap) σ8 H' s' → Nx H' → ∃ m, m < n ∧ ∃ i H', Inv (X.blk s3 H3 scope ce fp) [] (wipe σ (own.map (·.2))) H' s' ∧ tn i s'.heap ∧ (∀ b ∈ fp, H' b = none) ∧ W i m H' := fun {s' H'} I' nx => by
        obtain ⟨m', hm, w'⟩ := hNx H' nx
        have pin' : ∀ b ∈ fp, ∀ o, s7.heap.get? b = some o → s'.heap.get? b = some o ∧ H' b = none := fun b hb o e =>
          let z := I'.pin (b, o) (List.mem_append_right _ (List.mem_append_right _ (mem_pinsAt hb e)))
          ⟨z.1, z.2.1⟩
        have hl : (wipe σ (own.map (·.2))).length = σ8.length := by rw [← hw8, wipe_length]
        refine ⟨m', hm, i + 1, H', (I'.unpinned (pins := [])).weak hl (fun j v e => ?_), T.keep _ _ _ st7 fun b hb o e => (pin' b hb o e).1, fun b hb => ?_, w'⟩
        · rw [← hw8] at e
          exact (wipe_some e).1
        · obtain ⟨o, e, _⟩ := T.obj _ _ st7 b hb
          exact (pin' b hb o e).2
      cases b with
      | false =>
        simp only [Bool.false_eq_true, if_false] at q9 ⊢
        exact fin I9 q9
      | true =>
        simp only [if_true] at q9 ⊢
        refine thnF (pe _ s9 σ8 H9 _ I9 q9) fun z s10 ⟨yv, H10, I10, r10, acc, hD10, hz10, nx⟩ => ?_
        exact app_ok (X := X.blk s3 H3 scope ce fp) I10 hD10 hz10 r10 fun s11 I11 => fin I11 nx
  exact codeAny_compStart_list loop (T.self X.A 0 _ _ _ st4 loop)
theorem pe_lc {elt tg iter : Expr} {ifs : List Expr} {scope : Scope} {own : List (Str × Nat)} {pos : Pos} {wi : TI} {g : TG} {tt : TT} {te : TE} (hc : X.calm = true) (hN : X.N.Nodup) (hi : PI X tg iter wi) (ok : BlkOk X.N X.env.scope scope own)
    (hg : ∀ (s : Shared) (H : Hp) (C : Addr) (cl : List (Str × Addr)) (fp : List Addr), PG (X.blk s H scope (compEnvC scope cl C X.env) fp) tg g) (ht : ∀ (s : Shared) (H : Hp) (C : Addr) (cl : List (Str × Addr)) (fp : List Addr), PTs (X.blk s H scope (compEnvC scope cl C X.env) fp) ifs tt)
    (he : ∀ (s : Shared) (H : Hp) (C : Addr) (cl : List (Str × Addr)) (fp : List Addr), PE (X.blk s H scope (compEnvC scope cl C X.env) fp) elt te) (hs : ∀ x, foldedSetIterable iter X.env x = pure x := by intro _; rfl) :
    PE X (.ListComp elt [⟨tg, iter, ifs, 0⟩] scope pos) (tLc wi g tt te (own.map (·.2))) := by
  intro pins s σ H Q I h
  rw [eval_ListComp]
  refine lc_core hc hN I hi ok hg ht he hs h fun D C s' m H' I' q hn f => ⟨m, hn, fun h'' sb => ?_⟩
  obtain ⟨f0, f1, f2, f3, f4, f5⟩ := f
  exact ⟨.ref D, H', I'.turned (t' := s'.toks) (fun b o hb e => (sb.2 b hb).trans e) f0 f1 f3 f4 f5, rfl, q⟩
end

def blkC (N : List Str) (sc scope : Scope) (own : List (Str × Nat)) : Bool :=
  (match scope.kind with | .function => true | _ => false) && (scope.names.all fun y => decide (scope.names.lookup y.1 = some y.2)) && (own.all fun p => decide (N[p.2]? = some p.1)) &&
    (scope.names.all fun y => match y.2 with
      | .free => (match sc.names.lookup y.1 with | some .cell => true | some .free => true | _ => false)
      | .local => decide (y.1 ∈ own.map (·.1)) || decide (y.1 ∉ N)
      | .cell => decide (y.1 ∈ own.map (·.1)) || decide (y.1 ∉ N)
      | _ => true)
theorem blkOk_by {N : List Str} {sc scope : Scope} {own : List (Str × Nat)} (h : blkC N sc scope own = true) : BlkOk N sc scope own := by
  unfold blkC at h
  simp only [Bool.and_eq_true, List.all_eq_true, decide_eq_true_eq] at h
  obtain ⟨⟨⟨h1, h2⟩, h3⟩, h4⟩ := h
  refine ⟨?_, h2, h3, fun y hy e => ?_, fun y hy e => ?_⟩
  · split at h1
    · assumption
    · cases h1
  · have q := h4 y hy
    simp only [e] at q
    split at q <;> first | exact .inl (by assumption) | exact .inr (by assumption) | cases q
  · have q := h4 y hy
    rcases e with e | e <;> (simp only [e, Bool.or_eq_true, decide_eq_true_eq] at q; exact q)
end L2

namespace L2
open PySem PySem.Spec PyProof.Rows

section
variable {prog : Program} {w : World} {A : Around} {R : Result → Shared → Prop} {s : Shared} {elt t0 i0 t1 i1 : Expr} {ifs0 ifs1 : List Expr} {scope : Scope} {pos : Pos} {it acc : Value} {env : Env}
end

section
variable {X : Cx}
end
end L2

namespace L2
open PySem PySem.Spec PyProof.Rows

section
variable {κ : Type} [DecidableEq κ]
def valV (kvs : List (κ × V)) (k : κ) : Option V := (kvs.find? fun kv => decide (kv.1 = k)).map (·.2)
def putK (kvs : List (κ × V)) (k : κ) (v : V) : List (κ × V) :=
  if (kvs.any fun kv => decide (kv.1 = k)) = true then kvs.map (fun kv => if kv.1 = k then (kv.1, v) else kv) else kvs ++ [(k, v)]
def dropK (kvs : List (κ × V)) (k : κ) : List (κ × V) := kvs.filter fun kv => decide (kv.1 ≠ k)

theorem valV_pos {p : κ × V} {r : List (κ × V)} {k : κ} (e : p.1 = k) : valV (p :: r) k = some p.2 := by simp [valV, List.find?_cons, e]
theorem valV_neg {p : κ × V} {r : List (κ × V)} {k : κ} (e : ¬ p.1 = k) : valV (p :: r) k = valV r k := by simp [valV, List.find?_cons, e]
theorem valV_any (k : κ) : ∀ kvs : List (κ × V), (kvs.any fun kv => decide (kv.1 = k)) = (valV kvs k).isSome
  | [] => rfl
  | p :: r => by
    rw [List.any_cons]
    by_cases e : p.1 = k
    · simp only [valV_pos e, decide_eq_true e, Bool.true_or, Option.isSome_some]
    · rw [valV_neg e, decide_eq_false e, Bool.false_or]; exact valV_any k r
theorem RelO.isSome_eq {o : Option V} {u : Option Value} (r : RelO o u) : o.isSome = u.isSome := by
  cases o with
  | none => cases u with
    | none => rfl
    | some _ => exact (show False from r).elim
  | some _ => cases u with
    | none => exact (show False from r).elim
    | some _ => rfl
theorem RelO.getD {o : Option V} {u : Option Value} {d : V} {d' : Value} (r : RelO o u) (rd : RelV d d') : RelV (o.getD d) (u.getD d') := by
  cases o with
  | none => cases u with
    | none => exact rd
    | some _ => exact (show False from r).elim
  | some _ => cases u with
    | none => exact (show False from r).elim
    | some _ => exact r

theorem KV.val {kvs : List (κ × V)} {vs : List (κ × Value)} (r : KV kvs vs) (k : κ) : RelO (valV kvs k) (valueAt vs k) := by
  unfold KV at r
  induction r with
  | nil => exact True.intro
  | @cons p q ps qs h t ih =>
    obtain ⟨h1, h2⟩ := h
    by_cases e : p.1 = k
    · have e' : q.1 = k := h1.symm.trans e
      have b : valueAt (q :: qs) k = some q.2 := by simp [valueAt, List.find?_cons, e']
      rw [valV_pos e, b]; exact h2
    · have e' : ¬ q.1 = k := fun z => e (h1.trans z)
      have b : valueAt (q :: qs) k = valueAt qs k := by simp [valueAt, List.find?_cons, e']
      rw [valV_neg e, b]; exact ih
theorem KV.any {kvs : List (κ × V)} {vs : List (κ × Value)} (r : KV kvs vs) (k : κ) : (kvs.any fun kv => decide (kv.1 = k)) = vs.any fun kv => decide (kv.1 = k) := by
  unfold KV at r
  induction r with
  | nil => rfl
  | cons h t ih => rw [List.any_cons, List.any_cons, ih, h.1]
theorem KV.repl {kvs : List (κ × V)} {vs : List (κ × Value)} (r : KV kvs vs) (k : κ) {y : V} {u : Value} (ry : RelV y u) :
    KV (kvs.map fun kv => if kv.1 = k then (kv.1, y) else kv) (vs.map fun kv => if kv.1 = k then (kv.1, u) else kv) := by
  unfold KV at r ⊢
  induction r with
  | nil => exact .nil
  | @cons p q ps qs h t ih =>
    rw [List.map_cons, List.map_cons]
    refine .cons ?_ ih
    obtain ⟨h1, h2⟩ := h
    by_cases e : p.1 = k
    · rw [if_pos e, if_pos (h1.symm.trans e)]; exact ⟨h1, ry⟩
    · rw [if_neg e, if_neg (fun z => e (h1.trans z))]; exact ⟨h1, h2⟩
theorem KV.put {kvs : List (κ × V)} {vs : List (κ × Value)} (r : KV kvs vs) (k : κ) {y : V} {u : Value} (ry : RelV y u) : KV (putK kvs k y) (stored vs k u) := by
  unfold putK stored
  rw [r.any k]
  by_cases e : (vs.any fun kv => decide (kv.1 = k)) = true
  · rw [if_pos e, if_pos e]; exact r.repl k ry
  · rw [if_neg e, if_neg e]; exact Paired.snoc r ⟨rfl, ry⟩
theorem KV.drop {kvs : List (κ × V)} {vs : List (κ × Value)} (r : KV kvs vs) (k : κ) : KV (dropK kvs k) (without vs k) := by
  unfold KV at r ⊢
  unfold dropK without
  induction r with
  | nil => exact .nil
  | @cons p q ps qs h t ih =>
    obtain ⟨h1, h2⟩ := h
    rw [List.filter_cons, List.filter_cons]
    by_cases e : p.1 = k
    · have a : ¬ decide (p.1 ≠ k) = true := by simp [e]
      have b : ¬ decide (q.1 ≠ k) = true := by simp [h1.symm.trans e]
      rw [if_neg a, if_neg b]; exact ih
    · have e' : ¬ q.1 = k := fun z => e (h1.trans z)
      have a : decide (p.1 ≠ k) = true := by simp [e]
      have b : decide (q.1 ≠ k) = true := by simp [e']
      rw [if_pos a, if_pos b]; exact .cons ⟨h1, h2⟩ ih
theorem KV.keys {kvs : List (κ × V)} {vs : List (κ × Value)} (r : KV kvs vs) : kvs.map (·.1) = vs.map (·.1) := by
  unfold KV at r
  induction r with
  | nil => rfl
  | cons h t ih => rw [List.map_cons, List.map_cons, ih, h.1]
theorem KV.length {kvs : List (κ × V)} {vs : List (κ × Value)} (r : KV kvs vs) : kvs.length = vs.length := Paired.length r
end


abbrev KT (H : Hp) : List (List Key × V) → List (List Key × Addr × Value) → Prop := Paired fun p q => p.1 = q.1 ∧ H q.2.1 = some (.tup (p.1.map kV)) ∧ RelV p.2 q.2.2
theorem KT.val {H : Hp} {kvs : List (List Key × V)} {xs : List (List Key × Addr × Value)} (r : KT H kvs xs) (k : List Key) : RelO (valV kvs k) ((atKey xs k).map (·.2)) := by
  induction r with
  | nil => exact True.intro
  | @cons p q ps qs h t ih =>
    obtain ⟨h1, _, h2⟩ := h
    by_cases e : p.1 = k
    · have e' : q.1 = k := h1.symm.trans e
      have b : atKey (q :: qs) k = some q.2 := by simp [atKey, List.find?_cons, e']
      rw [valV_pos e, b]; exact h2
    · have e' : ¬ q.1 = k := fun z => e (h1.trans z)
      have b : atKey (q :: qs) k = atKey qs k := by simp [atKey, List.find?_cons, e']
      rw [valV_neg e, b]; exact ih
theorem KT.repl {H : Hp} {kvs : List (List Key × V)} {xs : List (List Key × Addr × Value)} (r : KT H kvs xs) (k : List Key) {y : V} {u : Value} (ry : RelV y u) :
    KT H (kvs.map fun kv => if kv.1 = k then (kv.1, y) else kv) (xs.map (putAt k u)) := by
  induction r with
  | nil => exact .nil
  | @cons p q ps qs h t ih =>
    rw [List.map_cons, List.map_cons]
    refine .cons ?_ ih
    obtain ⟨h1, h2, h3⟩ := h
    unfold putAt
    by_cases e : p.1 = k
    · rw [if_pos e, if_pos (h1.symm.trans e)]; exact ⟨h1, h2, ry⟩
    · rw [if_neg e, if_neg (fun z => e (h1.trans z))]; exact ⟨h1, h2, h3⟩
theorem KT.put {H : Hp} {kvs : List (List Key × V)} {xs : List (List Key × Addr × Value)} (r : KT H kvs xs) (k : List Key) {b : Addr} {y : V} {u : Value} (hb : H b = some (.tup (k.map kV))) (ry : RelV y u) :
    KT H (putK kvs k y) (storedH xs k b u) := by
  have e : (kvs.any fun kv => decide (kv.1 = k)) = (atKey xs k).isSome := by
    rw [valV_any, (r.val k).isSome_eq, Option.isSome_map]
  unfold putK storedH
  rw [e]
  by_cases q : (atKey xs k).isSome = true
  · rw [if_pos q, if_pos q]; exact r.repl k ry
  · rw [if_neg q, if_neg q]; exact Paired.snoc r ⟨rfl, hb, ry⟩
theorem KT.keeps {H H' : Hp} {kvs : List (List Key × V)} {xs : List (List Key × Addr × Value)} (r : KT H kvs xs) (ht : ∀ b ys, H b = some (.tup ys) → H' b = some (.tup ys)) : KT H' kvs xs :=
  Paired.mapP r fun _ _ z => ⟨z.1, ht _ _ z.2.1, z.2.2⟩

section
variable {P : Program} {w : World} {H : Hp} {h : Heap} {a : Addr}
end

def DGet (H : Hp) (a : Addr) (y : V) (r : Option V) : Prop :=
  (∃ kvs k, Rd H a (.dK kvs) ∧ y = kV k ∧ r = valV kvs k) ∨ ∃ kvs k b, Rd H a (.dT kvs) ∧ y = .ref b ∧ H b = some (.tup (k.map kV)) ∧ r = valV kvs k
def DPut (H : Hp) (a : Addr) (y v : V) (H' : Hp) : Prop :=
  (∃ kvs k, H a = some (.dK kvs) ∧ y = kV k ∧ kvs.length < sizeLine ∧ H' = upd H a (.dK (putK kvs k v))) ∨
  ∃ kvs k b, H a = some (.dT kvs) ∧ y = .ref b ∧ H b = some (.tup (k.map kV)) ∧ kvs.length < sizeLine ∧ H' = upd H a (.dT (putK kvs k v))
theorem DGet.k {H : Hp} {a : Addr} {kvs : List (Key × V)} {k : Key} (e : H a = some (.dK kvs)) : DGet H a (kV k) (valV kvs k) := .inl ⟨kvs, k, .inl e, rfl, rfl⟩
theorem DGet.t {H : Hp} {a b : Addr} {kvs : List (List Key × V)} {k : List Key} (e : H a = some (.dT kvs)) (eb : H b = some (.tup (k.map kV))) : DGet H a (.ref b) (valV kvs k) := .inr ⟨kvs, k, b, .inl e, rfl, eb, rfl⟩
theorem DPut.k {H : Hp} {a : Addr} {kvs : List (Key × V)} {k : Key} {v : V} (e : H a = some (.dK kvs)) (hl : kvs.length < sizeLine) : DPut H a (kV k) v (upd H a (.dK (putK kvs k v))) := .inl ⟨kvs, k, e, rfl, hl, rfl⟩
theorem DPut.t {H : Hp} {a b : Addr} {kvs : List (List Key × V)} {k : List Key} {v : V} (e : H a = some (.dT kvs)) (eb : H b = some (.tup (k.map kV))) (hl : kvs.length < sizeLine) :
    DPut H a (.ref b) v (upd H a (.dT (putK kvs k v))) := .inr ⟨kvs, k, b, e, rfl, eb, hl, rfl⟩


section
variable {X : Cx} {pins : List (Addr × Obj)} {σ : St} {H : Hp} {s : Shared} {a : Addr} {y v : V} {u r : Value} {o : Option V} {A : Around} {E : Value → Shared → Prop}

theorem Inv.big (I : Inv X pins σ H s) : sysModules < s.heap.objs.size := by
  have h : mainGlobals < s.heap.objs.size := (I.mod.glob.keeps I.bk).lt
  exact Nat.lt_trans (by decide) h

end

section
variable {X : Cx} {pins : List (Addr × Obj)} {σ : St} {H : Hp} {s : Shared} {a : Addr} {kvs : List (Key × V)} {k : Key} {u : Value} {A : Around} {E : Value → Shared → Prop}
end


section
variable {X : Cx} {o i e value : Expr} {pos pos' tpos : Pos} {td ty tv : TE}
end


section
variable {X : Cx} {pos : Pos}
end

section
variable {X : Cx} {pins : List (Addr × Obj)} {σ : St} {H : Hp} {s : Shared} {a : Addr} {y d : V} {u r : Value} {o : Option V} {A : Around} {E : Value → Shared → Prop}
end

section
variable {X : Cx} {o e f : Expr} {apos cpos : Pos} {td ty tx : TE}
end

section
variable {X : Cx} {pins : List (Addr × Obj)} {σ : St} {H : Hp} {s : Shared} {a : Addr} {kvs : List (Key × V)} {A : Around} {E : Value → Shared → Prop}
end


section
variable {X : Cx} {pins : List (Addr × Obj)} {σ : St} {H : Hp} {s : Shared} {a : Addr} {y : V} {u : Value} {A : Around} {E : Value → Shared → Prop}
end
end L2

namespace L2
open PySem PySem.Spec PyProof.Rows

section
variable {prog : Program} {w : World} {A : Around} {E : Value → Shared → Prop}
end

section
variable {X : Cx}
end
end L2

namespace L2
open PySem PySem.Spec PyProof.Rows

section
variable {X : Cx} {pins : List (Addr × Obj)} {σ : St} {H : Hp} {s : Shared} {h' : Heap}
end
section
variable {X : Cx}
theorem pi_one {tg : Expr} {pins : List (Addr × Obj)} {σ : St} {H : Hp} {s : Shared} {R : It → Hp → Prop} {J : It} {tn : Nat → Heap → Prop} {tk : Nat} (I : Inv X pins σ H s) (o : Obj)
    (T : Turn X.prog X.w X.K tg J [s.heap.objs.size] s.heap.objs.size tn) (st : tn 0 (s.heap.push o)) (q : R J H) : PIE X pins σ tg R (.ref s.heap.objs.size) { s with heap := s.heap.push o, toks := tk } := by
  refine ⟨s.heap.objs.size, [s.heap.objs.size], tn, J, H, rfl, I.kept fun b ob e => Heap.get?_push_of_some _ e, T, st, fun b hb => ?_, q⟩
  have e : b = s.heap.objs.size := by simpa using hb
  subst e
  exact I.fpOk (Nat.le_refl _) (I.hok.fresh (Nat.le_refl _))
end

def RgC (i j c : Int) (n : Nat) : Prop := c ≠ 0 ∧ c.natAbs < 1073741824 ∧ Builtin.Range.small i j c = true ∧ Builtin.Range.rangeSize i j c = n
theorem RgC.neg {i j : Int} (ha : -(2 ^ 62) ≤ i) (ha' : i < 2 ^ 62) (hb : -(2 ^ 62) ≤ j) (hb' : j < 2 ^ 62) : RgC i j (-1) (i - j).toNat :=
  ⟨by decide, by decide, PySem.W.small_down ha ha' hb hb', PySem.W.rangeSize_downNat i j⟩
section
variable {X : Cx} {tg : Expr}
end
section
variable {X : Cx} {tg : Expr}
end

def Its (x : Str) : It := ⟨fun i _ => i < x.cps.size, fun i H v H' => H' = H ∧ ∃ c, x.cps[i]? = some c ∧ v = .str ⟨#[c]⟩, fun i _ => x.cps.size ≤ i⟩
theorem turn_str {P : Program} {w : World} {K : PySem.W.Frag} {tg : Expr} (it : Addr) (x : Str) (t : Tok) (ty : String) (hty : ty = "str_ascii_iterator" ∨ ty = "str_iterator") :
    Turn P w K tg (Its x) [it] it (fun i h => h.IsStrIter it ty x t i) where
  mem := by simp
  obj := fun i h st b hb => by
    have e : b = it := by simpa using hb
    subst e
    obtain ⟨o, e, c, d⟩ := st
    exact ⟨o, e, fun v z => by rw [d] at z; cases z⟩
  keep := fun i h h' st k => let ⟨o, ho, r⟩ := st; ⟨o, k it (by simp) o ho, r⟩
  item := by
    intro X hP hw hK hc i pins s σ H E I hf st hg
    subst hP hw hK
    obtain ⟨f0, f1, f2, f3, f4, f5⟩ := hf it (by simp)
    have W : Walks X.prog X.w X.A it [it] [it] x.cps.size (SignAt x) (fun i h => h.IsStrIter it ty x t i) := by
      rcases hty with e | e
      · rw [e]; exact Walks.strAscii (I.ok.hd hc) it x t
      · rw [e]; exact Walks.strWide (I.ok.hd hc) it x t
    have hno : ["enumerate", "zip", "dict_itemiterator", "dict_reverseitemiterator", "odict_iterator", "itertools.zip_longest", "itertools.pairwise"].contains ty = false := by
      rcases hty with e | e
      · rw [e]; decide
      · rw [e]; decide
    refine W.item i s _ _ hg st fun v h' tk hv st' kk => ?_
    obtain ⟨c, u, hcx, rfl⟩ := hv
    have I1 : Inv X pins σ H { s with heap := h', toks := tk } := I.turned (fun b o hb e => kk b o (by simpa using hb) e) f0 f1 f3 f4 f5
    obtain ⟨oi, e, cc, dd⟩ := id st'
    exact ⟨_, rfl, go_of (s := { s with heap := h', toks := tk }) e cc dd hno ⟨.str ⟨#[c]⟩, H, I1, ⟨u, rfl⟩, ⟨rfl, c, hcx, rfl⟩, st', fun b hb => (hf b hb).1⟩⟩
  done := by
    intro X hP hw hK hc i pins s σ H E I hf st hg
    subst hP hw hK
    obtain ⟨f0, f1, f2, f3, f4, f5⟩ := hf it (by simp)
    have hx : x.cps[i]? = none := Array.getElem?_eq_none hg
    rcases hty with e | e
    · rw [e] at st
      exact wpAny_pyNext_ascii_end (I.ok.hd hc) st hx fun h' eb => ⟨rfl, I.turned (t' := s.toks) (fun b o hb e => eb b o hb e) f0 f1 f3 f4 f5⟩
    · rw [e] at st
      exact wpAny_pyNext_wide_end (I.ok.hd hc) st hx fun h' eb => ⟨rfl, I.turned (t' := s.toks) (fun b o hb e => eb b o hb e) f0 f1 f3 f4 f5⟩
  self := fun A i s Q E st h => by
    rcases hty with e | e
    · rw [e] at st; exact wpAny_pyIter_striter_ascii st h
    · rw [e] at st; exact wpAny_pyIter_striter_wide st h
def iStr (te : TE) : TI := fun σ H R => te σ H fun v H1 => ∃ x, v = .str x ∧ R (Its x) H1
theorem pi_str {X : Cx} {tg e : Expr} {te : TE} (he : PE X e te) : PI X tg e (iStr te) := by
  intro pins s σ H R I h
  refine thn (he pins s σ H _ I h) fun v s1 ⟨y, H1, I1, r1, x, ex, q⟩ => ?_
  subst ex
  obtain ⟨t, rfl⟩ := r1
  cases ha : x.cps.all (· < 128)
  · exact wpAny_pyIter_wide ha (pi_one (tk := s1.toks) I1 _ (turn_str _ x t "str_iterator" (.inr rfl)) ⟨_, Heap.get?_push_size _ rfl, rfl, rfl⟩ q)
  · exact wpAny_pyIter_ascii ha (pi_one (tk := s1.toks) I1 _ (turn_str _ x t "str_ascii_iterator" (.inl rfl)) ⟨_, Heap.get?_push_size _ rfl, rfl, rfl⟩ q)

section
variable {prog : Program} {w : World} {A : Around} {E : Value → Shared → Prop} {s : Shared}
end

theorem paired_get {α β : Type} {G : α → β → Prop} {l₁ : List α} {l₂ : List β} (h : Paired G l₁ l₂) : ∀ {i : Nat} {a : α}, l₁[i]? = some a → ∃ b, l₂[i]? = some b ∧ G a b := by
  induction h with
  | nil => intro i a e; simp at e
  | @cons a b l₁ l₂ r t ih =>
    intro i a' e
    cases i with
    | zero =>
      simp only [List.getElem?_cons_zero, Option.some.injEq] at e
      subst e
      exact ⟨b, rfl, r⟩
    | succ j =>
      simp only [List.getElem?_cons_succ] at e ⊢
      exact ih e
section
variable {X : Cx} {pins : List (Addr × Obj)} {σ : St} {H : Hp} {s : Shared} {d : Addr} {o : Obj}
end

section
variable {P : Program} {w : World} {K : PySem.W.Frag} {tg : Expr} {d : Addr} {o : Obj} {es : Array DictEntry} {ep : Nat}
end

section
variable {X : Cx} {tg e : Expr} {td : TE} {apos cpos : Pos}
end

end L2

section 
namespace Bits
open PySem PyProof.Rows

end Bits
end 

section 
namespace TL
open PySem PySem.Builtin PySem.Builtin.Str PySem.StrLaws

abbrev tl (x : Str) : List Nat := x.cps.toList
theorem len_tl (x : Str) : x.length = (tl x).length := by simp [tl, Str.length]
theorem ext_tl {x y : Str} (h : tl x = tl y) : x = y := Str.ext' (Array.toList_inj.mp h)
theorem tl_append (x y : Str) : tl (x ++ y) = tl x ++ tl y := by
  show (x ++ y).cps.toList = _
  rw [Str.cps_append, Array.toList_append]
theorem tl_mk (l : List Nat) : tl ⟨l.toArray⟩ = l := rfl
theorem mk_tl (x : Str) : (⟨(tl x).toArray⟩ : Str) = x := ext_tl rfl
theorem map_tl_inj : ∀ {l m : List Str}, l.map tl = m.map tl → l = m
  | [], [], _ => rfl
  | [], _ :: _, h => by simp at h
  | _ :: _, [], h => by simp at h
  | x :: l, y :: m, h => by
    rw [List.map_cons, List.map_cons] at h
    injection h with h1 h2
    rw [ext_tl h1, map_tl_inj h2]
theorem tl_ofString (s : String) : tl (Str.ofString s) = s.toList.map Char.toNat := PyProof.Rows.signs_ofString s

def pre (S l : List Nat) : Bool := l.take S.length == S
def spl (S : List Nat) : Nat → List Nat → List Nat → List (List Nat)
  | _, acc, [] => [acc]
  | 0, acc, c :: r => if pre S (c :: r) = true then acc :: spl S (S.length - 1) [] r else spl S 0 (acc ++ [c]) r
  | k + 1, acc, _ :: r => spl S k acc r
def par (S : List Nat) : List Nat → List Nat → Option (List Nat × List Nat)
  | _, [] => none
  | acc, c :: r => if pre S (c :: r) = true then some (acc, (c :: r).drop S.length) else par S (acc ++ [c]) r

theorem spl_nil (S : List Nat) (k : Nat) (acc : List Nat) : spl S k acc [] = [acc] := by cases k <;> rfl
theorem spl_hit {S acc r : List Nat} {c : Nat} (h : pre S (c :: r) = true) : spl S 0 acc (c :: r) = acc :: spl S (S.length - 1) [] r := by
  show (if pre S (c :: r) = true then acc :: spl S (S.length - 1) [] r else spl S 0 (acc ++ [c]) r) = _
  rw [if_pos h]
theorem spl_miss {S acc r : List Nat} {c : Nat} (h : pre S (c :: r) = false) : spl S 0 acc (c :: r) = spl S 0 (acc ++ [c]) r := by
  show (if pre S (c :: r) = true then acc :: spl S (S.length - 1) [] r else spl S 0 (acc ++ [c]) r) = _
  rw [if_neg (by rw [h]; exact Bool.false_ne_true)]
theorem spl_pass (S : List Nat) : ∀ (k : Nat) (acc l : List Nat), spl S k acc l = spl S 0 acc (l.drop k)
  | 0, _, _ => by rw [List.drop_zero]
  | k + 1, acc, [] => by rw [List.drop_nil, spl_nil, spl_nil]
  | k + 1, acc, c :: r => by
    show spl S k acc r = spl S 0 acc (r.drop k)
    exact spl_pass S k acc r
theorem par_hit {S acc r : List Nat} {c : Nat} (h : pre S (c :: r) = true) : par S acc (c :: r) = some (acc, (c :: r).drop S.length) := by
  show (if pre S (c :: r) = true then some (acc, (c :: r).drop S.length) else par S (acc ++ [c]) r) = _
  rw [if_pos h]
theorem par_miss {S acc r : List Nat} {c : Nat} (h : pre S (c :: r) = false) : par S acc (c :: r) = par S (acc ++ [c]) r := by
  show (if pre S (c :: r) = true then some (acc, (c :: r).drop S.length) else par S (acc ++ [c]) r) = _
  rw [if_neg (by rw [h]; exact Bool.false_ne_true)]

theorem pre_nil {S : List Nat} (hS : S ≠ []) : pre S [] = false := by
  cases S with
  | nil => exact absurd rfl hS
  | cons s S => rfl
theorem pre_of_head {s c : Nat} (S r : List Nat) (h : c ≠ s) : pre (s :: S) (c :: r) = false := by
  cases hp : pre (s :: S) (c :: r) with
  | false => rfl
  | true =>
    have e : (c :: r).take (s :: S).length = s :: S := eq_of_beq hp
    rw [List.length_cons, List.take_succ_cons] at e
    injection e with e1 e2
    exact absurd e1 h
theorem pre_self (S r : List Nat) : pre S (S ++ r) = true := by
  show ((S ++ r).take S.length == S) = true
  have e : (S ++ r).take S.length = S := List.take_left
  rw [e] <;> exact beq_self_eq_true S

theorem getElem_drop_cons {L : List Nat} {a : Nat} (h : a < L.length) : ∃ c, L.drop a = c :: L.drop (a + 1) := ⟨L[a], List.drop_eq_getElem_cons h⟩
theorem spl_run (S L : List Nat) : ∀ (m a : Nat) (acc : List Nat), a + m ≤ L.length → (∀ k, a ≤ k → k < a + m → pre S (L.drop k) = false) →
    spl S 0 acc (L.drop a) = spl S 0 (acc ++ (L.drop a).take m) (L.drop (a + m))
  | 0, a, acc, _, _ => by rw [List.take_zero, List.append_nil, Nat.add_zero]
  | m + 1, a, acc, h, hn => by
    have hlt : a < L.length := by omega
    obtain ⟨c, e⟩ := getElem_drop_cons hlt
    have h0 := hn a (Nat.le_refl _) (by omega)
    have ih := spl_run S L m (a + 1) (acc ++ [c]) (by omega) (fun k h1 h2 => hn k (by omega) (by omega))
    have e2 : a + 1 + m = a + (m + 1) := by omega
    rw [e2] at ih
    rw [e] at h0
    rw [e, spl_miss h0, ih, List.take_succ_cons, List.append_assoc] <;> rfl
theorem par_run (S L : List Nat) : ∀ (m a : Nat) (acc : List Nat), a + m ≤ L.length → (∀ k, a ≤ k → k < a + m → pre S (L.drop k) = false) →
    par S acc (L.drop a) = par S (acc ++ (L.drop a).take m) (L.drop (a + m))
  | 0, a, acc, _, _ => by rw [List.take_zero, List.append_nil, Nat.add_zero]
  | m + 1, a, acc, h, hn => by
    have hlt : a < L.length := by omega
    obtain ⟨c, e⟩ := getElem_drop_cons hlt
    have h0 := hn a (Nat.le_refl _) (by omega)
    have ih := par_run S L m (a + 1) (acc ++ [c]) (by omega) (fun k h1 h2 => hn k (by omega) (by omega))
    have e2 : a + 1 + m = a + (m + 1) := by omega
    rw [e2] at ih
    rw [e] at h0
    rw [e, par_miss h0, ih, List.take_succ_cons, List.append_assoc] <;> rfl
theorem drop_two (L : List Nat) (a b : Nat) : (L.drop a).drop b = L.drop (a + b) := by
  first
    | rw [List.drop_drop]
    | rw [List.drop_drop, Nat.add_comm]
theorem spl_at {S L : List Nat} (hS : S ≠ []) {c : Nat} {acc : List Nat} (h : pre S (L.drop c) = true) : spl S 0 acc (L.drop c) = acc :: spl S 0 [] (L.drop (c + S.length)) := by
  rw [← drop_two]
  cases e : L.drop c with
  | nil => rw [e, pre_nil hS] at h; cases h
  | cons d r =>
    rw [e] at h
    rw [spl_hit h, spl_pass]
    cases S with
    | nil => exact absurd rfl hS
    | cons s S => rfl
theorem par_at {S L : List Nat} (hS : S ≠ []) {c : Nat} {acc : List Nat} (h : pre S (L.drop c) = true) : par S acc (L.drop c) = some (acc, L.drop (c + S.length)) := by
  rw [← drop_two]
  cases e : L.drop c with
  | nil => rw [e, pre_nil hS] at h; cases h
  | cons d r =>
    rw [e] at h
    rw [par_hit h]

theorem at_iff {x y : Str} (hy : tl y ≠ []) (i : Nat) : At x y x.length i ↔ pre (tl y) ((tl x).drop i) = true := by
  have hx := len_tl x
  have hl := len_tl y
  constructor
  · intro h
    have h2 := h.2
    rw [subAt_eq, hl] at h2
    exact h2
  · intro h
    have e : ((tl x).drop i).take (tl y).length = tl y := eq_of_beq h
    have e1 := congrArg List.length e
    rw [List.length_take, List.length_drop] at e1
    have e2 : 0 < (tl y).length := List.length_pos_iff.mpr hy
    refine ⟨by omega, ?_⟩
    rw [subAt_eq, hl]
    exact h
theorem no_at {x y : Str} (hy : tl y ≠ []) {i : Nat} (h : ¬ At x y x.length i) : pre (tl y) ((tl x).drop i) = false := by
  cases hp : pre (tl y) ((tl x).drop i) with
  | false => rfl
  | true => exact absurd ((at_iff hy i).mpr hp) h
theorem len1 {y : Str} (hy : tl y ≠ []) : 1 ≤ y.length := by
  have e2 : 0 < (tl y).length := List.length_pos_iff.mpr hy
  rw [len_tl y]
  exact e2
theorem tl_strSub (x : Str) (i j : Nat) : tl (strSub x i j) = ((tl x).drop i).take (j - i) := strSub_toList x i j
theorem tl_strSub_end (x : Str) (i : Nat) : tl (strSub x i x.length) = (tl x).drop i := by
  rw [tl_strSub, len_tl x]
  exact List.take_of_length_le (by rw [List.length_drop] <;> omega)

theorem parts_spl {x y : Str} (hy : tl y ≠ []) : ∀ (cuts : List Nat) (a f : Nat), a ≤ (tl x).length → ChainG x y x.length a cuts f → (∀ k, f ≤ k → ¬ At x y x.length k) →
    (partsFrom x y.length a cuts).map tl = spl (tl y) 0 [] ((tl x).drop a)
  | [], a, f, ha, h, hn => by
    have e : f = a := h
    subst e
    show [tl (strSub x f x.length)] = _
    have run := spl_run (tl y) (tl x) ((tl x).length - f) f [] (by omega) (fun k h1 _ => no_at hy (hn k h1))
    have e2 : f + ((tl x).length - f) = (tl x).length := by omega
    rw [e2, List.drop_length, spl_nil, List.nil_append, List.take_of_length_le (by rw [List.length_drop] <;> omega)] at run
    rw [run, tl_strSub_end]
  | c :: r, a, f, ha, h, hn => by
    obtain ⟨h1, h2, h3, h4⟩ := h
    have hc : c + y.length ≤ x.length := h2.1
    have hx := len_tl x
    have hl := len_tl y
    have ih := parts_spl hy r (c + y.length) f (by omega) h4 hn
    show tl (strSub x a c) :: (partsFrom x y.length (c + y.length) r).map tl = _
    have run := spl_run (tl y) (tl x) (c - a) a [] (by omega) (fun k k1 k2 => no_at hy (h3 k k1 (by omega)))
    have e2 : a + (c - a) = c := by omega
    rw [e2, List.nil_append, spl_at hy ((at_iff hy c).mp h2)] at run
    rw [run, ih, tl_strSub, hl]

theorem split_spl (x y : Str) (hy : tl y ≠ []) (hk : ¬ Builtin.Str.strKind x < Builtin.Str.strKind y) : (Txt.split x y).map tl = spl (tl y) 0 [] (tl x) := by
  obtain ⟨f, g, hn⟩ := occ_tight x y (len1 hy)
  have key := parts_spl hy _ 0 f (Nat.zero_le _) g hn
  rw [List.drop_zero] at key
  have none_case : occurrences x y 0 x.length (x.length + 1) = [] → [x].map tl = spl (tl y) 0 [] (tl x) := fun ho => by
    rw [ho] at key
    rw [← key]
    show [tl x] = [tl (strSub x 0 x.length)]
    rw [sub_whole]
  unfold Txt.split
  by_cases h1 : (decide (x.length < y.length) || decide (Builtin.Str.strKind x < Builtin.Str.strKind y)) = true
  · rw [if_pos h1]
    have hlt : x.length < y.length := by
      simp only [Bool.or_eq_true, decide_eq_true_eq] at h1
      rcases h1 with h | h
      · exact h
      · exact absurd h hk
    refine none_case ?_
    cases ho : occurrences x y 0 x.length (x.length + 1) with
    | nil => rfl
    | cons c r =>
      rw [ho] at g
      have hc : c + y.length ≤ x.length := g.2.1.1
      omega
  · rw [if_neg h1]
    by_cases h2 : (occurrences x y 0 x.length (x.length + 1)).isEmpty = true
    · rw [if_pos h2]
      exact none_case (List.isEmpty_iff.mp h2)
    · rw [if_neg h2, partsBetween_eq]
      exact key
theorem kind_ok {x y : Str} (h : y.cps.all (· < 256) = true) : ¬ Builtin.Str.strKind x < Builtin.Str.strKind y := by
  have e : Builtin.Str.strKind y = 1 := by unfold PySem.Builtin.Str.strKind; rw [if_pos h]
  rw [e]
  unfold PySem.Builtin.Str.strKind
  split
  · omega
  · split <;> omega

theorem partition_par (x y : Str) (hy : tl y ≠ []) :
    Txt.partition x y = (match par (tl y) [] (tl x) with | some (a, b) => (⟨a.toArray⟩, y, ⟨b.toArray⟩) | none => (x, Str.empty, Str.empty)) := by
  have hx := len_tl x
  have hl := len_tl y
  rcases PyProof.Rows.partition_whole x y with ⟨e, hn⟩ | ⟨i, e, hi, hn⟩
  · have run := par_run (tl y) (tl x) (tl x).length 0 [] (by omega) (fun k _ _ => no_at hy (hn k))
    rw [List.drop_zero, Nat.zero_add, List.drop_length] at run
    rw [e, run] <;> rfl
  · have hb : i + y.length ≤ x.length := hi.1
    have run := par_run (tl y) (tl x) i 0 [] (by omega) (fun k _ k2 => no_at hy (hn k (by omega)))
    rw [List.drop_zero, Nat.zero_add, List.nil_append, par_at hy ((at_iff hy i).mp hi)] at run
    rw [e, run]
    have e1 : strSub x 0 i = ⟨((tl x).take i).toArray⟩ := ext_tl (by rw [tl_strSub, List.drop_zero, Nat.sub_zero])
    have e2 : strSub x (i + y.length) x.length = ⟨((tl x).drop (i + (tl y).length)).toArray⟩ := ext_tl (by rw [tl_strSub_end, hl])
    rw [e1, e2] <;> rfl

theorem spl_part {S p rest acc : List Nat} (hS : S ≠ []) (h : ∀ i, i < p.length → pre S ((p ++ (S ++ rest)).drop i) = false) :
    spl S 0 acc (p ++ (S ++ rest)) = (acc ++ p) :: spl S 0 [] rest := by
  have run := spl_run S (p ++ (S ++ rest)) p.length 0 acc (by rw [List.length_append]; omega) (fun k _ k2 => h k (by omega))
  have ed : (p ++ (S ++ rest)).drop p.length = S ++ rest := List.drop_left
  rw [List.drop_zero, Nat.zero_add, List.take_left] at run
  rw [run, spl_at hS (by rw [ed]; exact pre_self S rest), ← drop_two, ed, List.drop_left]
theorem spl_last {S p acc : List Nat} (h : ∀ i, i < p.length → pre S (p.drop i) = false) : spl S 0 acc p = [acc ++ p] := by
  have run := spl_run S p p.length 0 acc (by omega) (fun k _ k2 => h k (by omega))
  rw [List.drop_zero, Nat.zero_add, List.drop_length, spl_nil, List.take_length] at run
  exact run
theorem par_part {S p rest acc : List Nat} (hS : S ≠ []) (h : ∀ i, i < p.length → pre S ((p ++ (S ++ rest)).drop i) = false) :
    par S acc (p ++ (S ++ rest)) = some (acc ++ p, rest) := by
  have run := par_run S (p ++ (S ++ rest)) p.length 0 acc (by rw [List.length_append]; omega) (fun k _ k2 => h k (by omega))
  have ed : (p ++ (S ++ rest)).drop p.length = S ++ rest := List.drop_left
  rw [List.drop_zero, Nat.zero_add, List.take_left] at run
  rw [run, par_at hS (by rw [ed]; exact pre_self S rest), ← drop_two, ed, List.drop_left]
theorem free_of {s : Nat} {S p q : List Nat} (h : s ∉ p) : ∀ i, i < p.length → pre (s :: S) ((p ++ q).drop i) = false := fun i hi => by
  have hlt : i < (p ++ q).length := by rw [List.length_append]; omega
  have e : (p ++ q).drop i = (p ++ q)[i] :: (p ++ q).drop (i + 1) := List.drop_eq_getElem_cons hlt
  rw [e]
  refine pre_of_head _ _ fun z => h ?_
  have e1 : (p ++ q)[i] = p[i] := List.getElem_append_left hi
  rw [← z, e1]
  exact List.getElem_mem hi
theorem spl_part1 {s : Nat} {S p rest acc : List Nat} (h : s ∉ p) : spl (s :: S) 0 acc (p ++ (s :: S ++ rest)) = (acc ++ p) :: spl (s :: S) 0 [] rest :=
  spl_part (by simp) (free_of h)
theorem spl_last1 {s : Nat} {S p acc : List Nat} (h : s ∉ p) : spl (s :: S) 0 acc p = [acc ++ p] := spl_last fun i hi => by
  have z := free_of (S := S) (q := []) h i hi
  rw [List.append_nil] at z
  exact z
theorem par_part1 {s : Nat} {S p rest acc : List Nat} (h : s ∉ p) : par (s :: S) acc (p ++ (s :: S ++ rest)) = some (acc ++ p, rest) := par_part (by simp) (free_of h)
def joinL (S : List Nat) : List (List Nat) → List Nat
  | [] => []
  | [p] => p
  | p :: q :: r => p ++ (S ++ joinL S (q :: r))
theorem tl_join (y : Str) : ∀ parts : List Str, tl (Str.join y parts) = joinL (tl y) (parts.map tl)
  | [] => rfl
  | [_] => rfl
  | x :: z :: r => by
    show tl (x ++ y ++ Str.join y (z :: r)) = tl x ++ (tl y ++ joinL (tl y) ((z :: r).map tl))
    rw [tl_append, tl_append, tl_join y (z :: r), List.append_assoc]
theorem join_eq (y : Str) (parts : List Str) : Txt.join y parts = Str.join y parts := glued_eq_join y parts
theorem partition_app {y : Str} {s : Nat} {S : List Nat} (ey : tl y = s :: S) {a b : Str} (h : s ∉ tl a) : Txt.partition (a ++ y ++ b) y = (a, y, b) := by
  rw [partition_par _ y (by rw [ey]; simp), tl_append, tl_append, List.append_assoc, ey, par_part1 h]
  show ((⟨([] ++ tl a).toArray⟩ : Str), y, (⟨(tl b).toArray⟩ : Str)) = _
  rw [List.nil_append, mk_tl, mk_tl]
end TL
end 

namespace L2
open PySem PySem.Spec PyProof.Rows

theorem vals_strs : ∀ l : List (Str × Tok), Vals ((l.map (·.1)).map V.str) (strValues l)
  | [] => .nil
  | p :: r => .cons ⟨p.2, rfl⟩ (vals_strs r)
theorem strs_of_vals : ∀ {ys : List Str} {us : List Value}, Vals (ys.map V.str) us → StrsAre us ys
  | [], _, .nil => .nil
  | y :: ys, _, .cons r t => by
    obtain ⟨k, rfl⟩ := r
    exact .cons y k (strs_of_vals t)

def rNewStrs (ys : List Str) : Hp → VK → Prop := fun H Q => ∀ p, H p = none → Q (.ref p) (upd H p (.lst (ys.map V.str)))

section
variable {X : Cx} {pins : List (Addr × Obj)} {σ : St} {H : Hp} {s : Shared} {Q : VK}
theorem laid_strs {l : List (Str × Tok)} {ys : List Str} {k : Nat} (I : Inv X pins σ H s) (e : l.map (·.1) = ys) (hz : ys.length ≤ sizeLine) (h : rNewStrs ys H Q) :
    EP X pins σ Q (.ref s.heap.objs.size) { s with toks := k, heap := s.heap.push { cls := .type "list", data := .seq (strValues l).toArray } } := by
  have hp := I.hok.fresh (Nat.le_refl _)
  refine ⟨.ref s.heap.objs.size, upd H s.heap.objs.size (.lst (ys.map V.str)), I.laid (fun b u q => Heap.get?_push_of_some _ q) (Nat.le_refl _) ⟨by rw [List.length_map]; exact hz, strValues l, _, ?_, Heap.get?_push_size _ rfl⟩, rfl, h _ hp⟩
  rw [← e]
  exact vals_strs l
theorem laid_parts {x y z : Str} {t u v : Tok} {k : Nat} (I : Inv X pins σ H s) (h : ∀ p, H p = none → Q (.ref p) (upd H p (.tup [.str x, .str y, .str z]))) :
    EP X pins σ Q (.ref s.heap.objs.size) { s with toks := k, heap := s.heap.push { cls := .type "tuple", data := .seq [Value.str x t, .str y u, .str z v].toArray } } := by
  have hp := I.hok.fresh (Nat.le_refl _)
  exact ⟨.ref s.heap.objs.size, upd H s.heap.objs.size (.tup [.str x, .str y, .str z]), I.laid (fun b u q => Heap.get?_push_of_some _ q) (Nat.le_refl _)
    ⟨by show 3 ≤ sizeLine; decide, [Value.str x t, .str y u, .str z v], .cons ⟨t, rfl⟩ (.cons ⟨u, rfl⟩ (.cons ⟨v, rfl⟩ .nil)), _, Heap.get?_push_size _ rfl, rfl, _, rfl⟩, rfl, h _ hp⟩
end

section
variable {X : Cx}

theorem mt_split : MtR X "str.split" (fun x xs H Q => ∃ a b, x = .str a ∧ xs = [.str b] ∧ (b.length == 0) = false ∧ a.length + 2 ≤ sizeLine ∧ rNewStrs (Txt.split a b) H Q) := by
  intro pins s σ H x xs v us Q I rx rs h
  obtain ⟨a, b, rfl, rfl, hb, hz, h⟩ := h
  obtain ⟨t, rfl⟩ := rx
  cases rs with
  | cons r1 rs =>
    cases rs
    obtain ⟨u, rfl⟩ := r1
    have hl : (Txt.split a b).length ≤ sizeLine := Nat.le_trans (PyProof.Rows.split_le a b) hz
    have hn : (Builtin.Str.partsBetween a (Builtin.Str.occurrences a b 0 a.length (a.length + 1)) b.length).length ≤ sizeLine := by
      have e1 := StrLaws.occ_length_le a b 0 a.length (a.length + 1)
      rw [length_partsBetween]; omega
    cases h1 : (decide (a.length < b.length) || decide (Builtin.Str.strKind a < Builtin.Str.strKind b))
    · cases hf : (Builtin.Str.occurrences a b 0 a.length (a.length + 1)).isEmpty
      · refine call_meets F.slot_str_split (typeIs_str _ _ _) F.entry_str_split (F.args_str_split_2 _ _) (meets_str_split_sep a b t u h1 hb hf (by omega) hn) ?_
        show EP X pins σ Q (.ref s.heap.objs.size) { s with toks := _, heap := s.heap.push { cls := .type "list", data := .seq (strsFrom s.toks (Builtin.Str.partsBetween a (Builtin.Str.occurrences a b 0 a.length (a.length + 1)) b.length)).toArray } }
        rw [strsFrom_eq]
        exact laid_strs (ys := Txt.split a b) I ((numbered_texts _ _).trans ((if_neg (ne_true_of_eq_false h1)).trans (if_neg (ne_true_of_eq_false hf))).symm) hl h
      · refine call_meets F.slot_str_split (typeIs_str _ _ _) F.entry_str_split (F.args_str_split_2 _ _) (meets_str_split_not_found a b t u h1 hb hf) ?_
        exact laid_strs (l := [(a, t)]) (ys := Txt.split a b) (k := s.toks) I ((if_neg (ne_true_of_eq_false h1)).trans (if_pos hf)).symm hl h
    · refine call_meets F.slot_str_split (typeIs_str _ _ _) F.entry_str_split (F.args_str_split_2 _ _) (meets_str_split_cannot_occur a b t u h1) ?_
      exact laid_strs (l := [(a, t)]) (ys := Txt.split a b) (k := s.toks) I (if_pos h1).symm hl h

theorem mt_partition : MtR X "str.partition" (fun x xs H Q => ∃ a b, x = .str a ∧ xs = [.str b] ∧ (b.length == 0) = false ∧ a.length ≤ sizeLine ∧
    ∀ p, H p = none → Q (.ref p) (upd H p (.tup [.str (Txt.partition a b).1, .str (Txt.partition a b).2.1, .str (Txt.partition a b).2.2]))) := by
  intro pins s σ H x xs v us Q I rx rs h
  obtain ⟨a, b, rfl, rfl, hb, hz, h⟩ := h
  obtain ⟨t, rfl⟩ := rx
  cases rs with
  | cons r1 rs =>
    cases rs
    obtain ⟨u, rfl⟩ := r1
    refine call_meets F.slot_str_partition (typeIs_str _ _ _) F.entry_str_partition (F.args_str_partition_2 _ _) (meets_str_partition a b t u hb hz) ?_
    unfold Txt.partition at h
    revert h
    cases Builtin.Str.occurrences a b 0 a.length 1 with
    | nil => intro h; exact laid_parts I h
    | cons i r => intro h; exact laid_parts I h

theorem mt_join : MtR X "str.join" (fun x xs H Q => ∃ a p, ∃ ys : List Str, x = .str a ∧ xs = [.ref p] ∧ (SqL X.K H p (ys.map V.str) ∨ SqT X.K H p (ys.map V.str)) ∧
    (ys.map (·.length)).sum + ys.length * a.length ≤ 16777216 ∧ Q (.str (Txt.join a ys)) H) := by
  intro pins s σ H x xs v us Q I rx rs h
  obtain ⟨a, p, ys, rfl, rfl, hp, hz, h⟩ := h
  obtain ⟨t, rfl⟩ := rx
  cases rs with
  | cons r1 rs =>
    cases rs
    cases r1
    rcases hp with hp | hp
    · obtain ⟨its, r, ⟨o, n, ho, hc, _, hd⟩, _⟩ := I.list hp
      exact PyProof.Rows.join_list (items := its.toArray) ⟨o, ho, hc, n, hd⟩ (by rw [List.toList_toArray]; exact strs_of_vals r) hz fun t' k => ⟨.str _, H, I.tok k, ⟨t', rfl⟩, h⟩
    · obtain ⟨its, r, ht, _⟩ := I.tuple hp
      exact PyProof.Rows.join_tuple (items := its.toArray) ht (by rw [List.toList_toArray]; exact strs_of_vals r) hz fun t' k => ⟨.str _, H, I.tok k, ⟨t', rfl⟩, h⟩

theorem mt1 {id : String} {g : Str → Str → V} (rule : ∀ (a b : Str) (t u : Tok) (s : Shared) (Q : Value → Shared → Prop), (∀ (v : Value) (k : Nat), RelV (g a b) v → Q v { s with toks := k }) →
    wpAny (model X.prog X.w) X.A (call (.builtin id) [.str a t, .str b u]) Q X.xe s) : MtR X id (fun x xs H Q => ∃ a b, x = .str a ∧ xs = [.str b] ∧ Q (g a b) H) := by
  intro pins s σ H x xs v us Q I rx rs h
  obtain ⟨a, b, rfl, rfl, h⟩ := h
  obtain ⟨t, rfl⟩ := rx
  cases rs with
  | cons r1 rs =>
    cases rs
    obtain ⟨u, rfl⟩ := r1
    exact rule a b t u s _ fun v k r => ⟨g a b, H, I.tok k, r, h⟩
theorem mt_startswith : MtR X "str.startswith" (fun x xs H Q => ∃ a b, x = .str a ∧ xs = [.str b] ∧ Q (.bl (Txt.startswith a b)) H) :=
  mt1 (g := fun a b => .bl (Txt.startswith a b)) fun _ _ _ _ s _ h => PySem.SC.startswith (h _ s.toks rfl)
theorem call_int_str : CallR X (.type "int") (fun xs H Q => ∃ a n, xs = [.str a] ∧ PySem.intText? a = some n ∧ a.length ≤ 640 ∧ Q (.int n) H) := by
  intro pins s σ H xs us Q I rs h
  obtain ⟨a, n, rfl, hn, hl, h⟩ := h
  cases rs with
  | cons r1 rs =>
    cases rs
    obtain ⟨t, rfl⟩ := r1
    exact PySem.W.KIN.call_text hn hl ⟨.int n, H, I.tok _, ⟨_, rfl⟩, h⟩
end

section
variable {X : Cx} {o e : Expr} {to te : TE}
def tM0 (r : V → List V → Hp → VK → Prop) (to : TE) : TE := fun σ H Q => to σ H fun x H1 => (∃ a, x = .str a) ∧ r x [] H1 Q
def tM1 (r : V → List V → Hp → VK → Prop) (to te : TE) : TE := fun σ H Q => to σ H fun x H1 => (∃ a, x = .str a) ∧ te σ H1 fun y H2 => r x [y] H2 Q
theorem pe_m1 {id : String} {name : Str} {apos pos : Pos} {r : V → List V → Hp → VK → Prop} (slot : Slot "str" name id) (ty : typeOf (.builtin id) = pure (.type "method_descriptor")) (rule : MtR X id r) (ho : PE X o to) (he : PE X e te)
    (hs : starEach [e] X.env = [(false, eval e X.env)] := by rfl) (hbase : attributeBase o name X.env (eval o X.env) = eval o X.env := by rfl) (hline : (apos.endLine == pos.line) = true := by rfl) :
    PE X (.Call (.Attribute o name apos) [e] [] pos) (tM1 r to te) := by
  intro pins s σ H Q I h
  refine PySem.Call_method1 hbase hs hline (thn (ho pins s σ H _ I h) fun v s1 ⟨x, H1, I1, r1, q1⟩ => ?_)
  obtain ⟨⟨a, rfl⟩, q1⟩ := q1
  obtain ⟨t, rfl⟩ := _root_.id r1
  refine ⟨"str", _, F.plainAttrs_str, slot, ty, typeIs_str _ _ _, (fun _ e => nomatch e), Calls.callWith_builtin rfl (Calls.evalArgs_plain (Calls.spliced_cons ?_))⟩
  exact thn (he pins s1 σ H1 _ I1 q1) fun u s2 ⟨y, H2, I2, r2, q2⟩ => Calls.spliced_nil (rule pins s2 σ H2 _ [y] _ [u] Q I2 r1 (.cons r2 .nil) q2)

theorem pe_split {apos pos : Pos} (ho : PE X o to) (he : PE X e te) (hs : starEach [e] X.env = [(false, eval e X.env)] := by rfl) (hbase : attributeBase o "split" X.env (eval o X.env) = eval o X.env := by rfl) (hline : (apos.endLine == pos.line) = true := by rfl) :
    PE X (.Call (.Attribute o "split" apos) [e] [] pos) (tM1 (fun x xs H Q => ∃ a b, x = .str a ∧ xs = [.str b] ∧ (b.length == 0) = false ∧ a.length + 2 ≤ sizeLine ∧ rNewStrs (Txt.split a b) H Q) to te) :=
  pe_m1 F.slot_str_split F.type_str_split mt_split ho he hs hbase hline
theorem pe_partition {apos pos : Pos} (ho : PE X o to) (he : PE X e te) (hs : starEach [e] X.env = [(false, eval e X.env)] := by rfl) (hbase : attributeBase o "partition" X.env (eval o X.env) = eval o X.env := by rfl) (hline : (apos.endLine == pos.line) = true := by rfl) :
    PE X (.Call (.Attribute o "partition" apos) [e] [] pos) (tM1 (fun x xs H Q => ∃ a b, x = .str a ∧ xs = [.str b] ∧ (b.length == 0) = false ∧ a.length ≤ sizeLine ∧
      ∀ p, H p = none → Q (.ref p) (upd H p (.tup [.str (Txt.partition a b).1, .str (Txt.partition a b).2.1, .str (Txt.partition a b).2.2]))) to te) :=
  pe_m1 F.slot_str_partition F.type_str_partition mt_partition ho he hs hbase hline
theorem pe_join {apos pos : Pos} (ho : PE X o to) (he : PE X e te) (hs : starEach [e] X.env = [(false, eval e X.env)] := by rfl) (hbase : attributeBase o "join" X.env (eval o X.env) = eval o X.env := by rfl) (hline : (apos.endLine == pos.line) = true := by rfl) :
    PE X (.Call (.Attribute o "join" apos) [e] [] pos) (tM1 (fun x xs H Q => ∃ a p, ∃ ys : List Str, x = .str a ∧ xs = [.ref p] ∧ (SqL X.K H p (ys.map V.str) ∨ SqT X.K H p (ys.map V.str)) ∧
      (ys.map (·.length)).sum + ys.length * a.length ≤ 16777216 ∧ Q (.str (Txt.join a ys)) H) to te) :=
  pe_m1 F.slot_str_join F.type_str_join mt_join ho he hs hbase hline
end
end L2

namespace L2
open PySem PySem.Spec PyProof.Rows

section
variable {X : Cx}
theorem op_in_sign : OpR X (compareOp .In) (fun x y H Q => ∃ (c : Nat) (z : Str), x = .str ⟨#[c]⟩ ∧ y = .str z ∧ Q (.bl (decide (c ∈ z.cps.toList))) H) := by
  intro pins s σ H x y v u Q I rx ry h
  obtain ⟨c, z, rfl, rfl, q⟩ := h
  obtain ⟨t, rfl⟩ := rx
  obtain ⟨t', rfl⟩ := ry
  exact PyProof.Rows.in_str (fin_bl I q (PySem.StrLaws.found_one z c).symm)
theorem op_notIn_sign : OpR X (compareOp .NotIn) (fun x y H Q => ∃ (c : Nat) (z : Str), x = .str ⟨#[c]⟩ ∧ y = .str z ∧ Q (.bl (!decide (c ∈ z.cps.toList))) H) := by
  intro pins s σ H x y v u Q I rx ry h
  obtain ⟨c, z, rfl, rfl, q⟩ := h
  obtain ⟨t, rfl⟩ := rx
  obtain ⟨t', rfl⟩ := ry
  exact PyProof.Rows.notIn_str (fin_bl I q (congrArg Bool.not (PySem.StrLaws.found_one z c).symm))
end

theorem IsPart.raw {v : Value} {o : Option Int} (p : IsPart v o) : ∃ l : Option (Int × Tok), v = partValue l ∧ l.map (·.1) = o := by
  cases p with
  | none => exact ⟨none, rfl, rfl⟩
  | int i t => exact ⟨some (i, t), rfl, rfl⟩

def clipS (n d : Nat) : Option Int → Int
  | none => (d : Int)
  | some i => max 0 (min (if i < 0 then i + (n : Int) else i) (n : Int))
theorem clipS_eq (n d : Nat) (o : Option Int) : clipS n d o = ((HT.sIx n d o : Nat) : Int) := by
  cases o with
  | none => rfl
  | some v =>
    show max (0 : Int) (min (if v < 0 then v + (n : Int) else v) (n : Int)) = (((if v < 0 then (v + (n : Int)).toNat else min v.toNat n) : Nat) : Int)
    by_cases hv : v < 0
    · simp only [if_pos hv]
      omega
    · simp only [if_neg hv]
      omega
theorem sidx_clip (a b : Option Int) (n : Nat) : Builtin.Str.strSliceIndices a b 1 n = sliceRange (clipS n 0 a) (clipS n n b) 1 := by
  have h1 : ((1 : Int) > 0) = True := by simp
  cases a <;> cases b <;> first
    | rfl
    | (simp only [Builtin.Str.strSliceIndices, clipS, h1, if_true]; rfl)
    | simp [Builtin.Str.strSliceIndices, clipS]
theorem sidx (a b : Option Int) (n : Nat) : Builtin.Str.strSliceIndices a b 1 n = (List.range (HT.sIx n n b - HT.sIx n 0 a)).map (fun k => HT.sIx n 0 a + k) := by
  rw [sidx_clip, clipS_eq, clipS_eq]
  generalize HT.sIx n 0 a = p
  generalize HT.sIx n n b = q
  simp only [sliceRange, show ((1 : Int) > 0) = True from by simp, if_true]
  by_cases hlt : (p : Int) < q
  · have e3 : (((q : Int) - p + 1 - 1) / 1).toNat = q - p := by first | omega | (simp; done) | (simp; omega)
    simp only [hlt, if_true, e3]
    refine List.map_congr_left fun k _ => ?_
    omega
  · have : q - p = 0 := by omega
    simp [hlt, this]

def cutS (z : Str) (lo hi : Option Int) : Str :=
  ⟨((z.cps.toList.drop (HT.sIx z.length 0 lo)).take (HT.sIx z.length z.length hi - HT.sIx z.length 0 lo)).toArray⟩
theorem sliceText_cut (z : Str) (lo hi : Option Int) : PySem.StrLaws.sliceText z lo hi = cutS z lo hi := by
  have h1 : HT.sIx z.length 0 lo ≤ z.length := HT.sIx_le _ _ (Nat.zero_le _) _
  have h2 : HT.sIx z.length z.length hi ≤ z.length := HT.sIx_le _ _ (Nat.le_refl _) _
  have hp : HT.sIx z.length 0 lo ≤ max (HT.sIx z.length 0 lo) (HT.sIx z.length z.length hi) := Nat.le_max_left _ _
  have hq : max (HT.sIx z.length 0 lo) (HT.sIx z.length z.length hi) ≤ z.length := Nat.max_le.mpr ⟨h1, h2⟩
  have hd : max (HT.sIx z.length 0 lo) (HT.sIx z.length z.length hi) - HT.sIx z.length 0 lo = HT.sIx z.length z.length hi - HT.sIx z.length 0 lo := by omega
  have e : Builtin.Str.strSliceIndices lo hi 1 z.length =
      Builtin.Str.strSliceIndices (some ((HT.sIx z.length 0 lo : Nat) : Int)) (some ((max (HT.sIx z.length 0 lo) (HT.sIx z.length z.length hi) : Nat) : Int)) 1 z.length := by
    rw [PySem.StrLaws.strSliceIndices_plain hp hq, hd, sidx]
  have e2 : PySem.StrLaws.sliceText z lo hi =
      PySem.StrLaws.sliceText z (some ((HT.sIx z.length 0 lo : Nat) : Int)) (some ((max (HT.sIx z.length 0 lo) (HT.sIx z.length z.length hi) : Nat) : Int)) := by
    unfold PySem.StrLaws.sliceText
    rw [e]
  rw [e2, PySem.StrLaws.sliceText_nat z hp hq, hd]
  rfl
theorem cutS_length (z : Str) (lo hi : Option Int) : (cutS z lo hi).length ≤ z.length := by
  show (((z.cps.toList.drop (HT.sIx z.length 0 lo)).take (HT.sIx z.length z.length hi - HT.sIx z.length 0 lo)).toArray).size ≤ z.cps.size
  rw [List.size_toArray, List.length_take, List.length_drop, Array.length_toList]
  omega
def rSlS : V → Option Int → Option Int → Hp → VK → Prop := fun x lo hi H Q => ∃ z, x = .str z ∧ z.length ≤ sizeLine ∧ Q (.str (cutS z lo hi)) H
theorem sl_str {X : Cx} : SlR X rSlS := by
  intro pins s σ H x v vl vu lo hi sl Q I rx hs pl pu h
  obtain ⟨z, rfl, hz, q⟩ := h
  obtain ⟨t, rfl⟩ := rx
  obtain ⟨os, hos, hcs, hds⟩ := hs
  obtain ⟨l, rfl, rfl⟩ := IsPart.raw pl
  obtain ⟨u, rfl, rfl⟩ := IsPart.raw pu
  refine ⟨"str", _, F.slot_str_getitem.lookup, typeIs_str _ _ _, ?_⟩
  refine wpAny_getItem_str_slice (l := l) (u := u) (st := none) ⟨os, hos, hcs, hds⟩ rfl ?_
  have hl : (PySem.StrLaws.sliceText z (l.map (·.1)) (u.map (·.1))).length ≤ sizeLine := by
    rw [sliceText_cut]
    exact Nat.le_trans (cutS_length z _ _) hz
  rw [← sliceText_cut] at q
  unfold PySem.StrLaws.sliceText at q hl
  show Made.post (if ((1 : Int) == 1 && (Builtin.Str.strSliceIndices (l.map (·.1)) (u.map (·.1)) 1 z.length).length == z.length) = true then Made.val (.str z t)
    else Made.str ⟨((Builtin.Str.strSliceIndices (l.map (·.1)) (u.map (·.1)) 1 z.length).filterMap (z.cps[·]?)).toArray⟩) (EP X pins σ Q) s
  by_cases c : ((1 : Int) == 1 && (Builtin.Str.strSliceIndices (l.map (·.1)) (u.map (·.1)) 1 z.length).length == z.length) = true
  · rw [if_pos c] at q ⊢
    exact ⟨.str z, H, I, ⟨t, rfl⟩, q⟩
  · rw [if_neg c] at q hl ⊢
    exact ⟨hl, .str _, H, I.tok _, ⟨_, rfl⟩, q⟩
end L2

namespace Att
open PySem PySem.W PySem.Calls PyProof.Rows

section
variable {prog : Program} {w : World} {A : Around} {E : Value → Shared → Prop} {s : Shared} {K : Frag}

end
end Att

namespace L2
open PySem PySem.Spec PyProof.Rows

end L2

namespace L2
open PySem PySem.Spec PyProof.Rows

end L2



namespace L2
open PySem PySem.Spec PyProof.Rows

def inClass (s : Stmt) (j : Nat) : Stmt := match s with
  | .ClassDef _ _ _ body _ _ _ _ _ _ _ => body.getD j (.Pass ⟨0, 0, 0, 0⟩)
  | _ => .Pass ⟨0, 0, 0, 0⟩
def defArgs (s : Stmt) : Arguments := match s with
  | .FunctionDef _ a _ _ _ _ _ _ _ _ => a
  | _ => { posonlyargs := [], args := [], vararg := none, kwonlyargs := [], kw_defaults := [], kwarg := none, defaults := [] }
def defBody (s : Stmt) : List Stmt := match s with
  | .FunctionDef _ _ b _ _ _ _ _ _ _ => b
  | _ => []
def defScope (s : Stmt) : Scope := match s with
  | .FunctionDef _ _ _ _ _ _ sc _ _ _ => sc
  | _ => { kind := .function, names := [], isGenerator := false, isCoroutine := false }

abbrev CX0 : CXT := fun _ _ _ _ _ _ => False
abbrev E0 : XK := fun _ _ _ => False
theorem pass0 {X : Cx} : Passes CX0 X E0 := fun _ _ _ _ _ _ _ h => h.elim

structure Fun (K : PySem.W.Frag) (x qual : Str) (st : Stmt) (f : Addr) (fd : FuncData) : Prop where
  ex : ∃ (oc : Value) (od : Option Addr) (kV doc pm : Value) (an : Option Addr) (cdv ct : Value) (osl : Array (Option Value)),
    fd = PySem.W.fnOf x qual (defArgs st) (defBody st) (defScope st) .none kV doc pm an cdv ct ∧ K.lookup f = some ⟨oc, od, .func fd, osl⟩ ∧ PySem.W.codeIn K cdv qual = true
  kp : PySem.W.keepIn K (.ref f) = true
section
variable {P : Program} {w : World} {K : PySem.W.Frag} {mg : Str → Option Value} {base : Heap}
theorem Fun.ok {x qual : Str} {st : Stmt} {f : Addr} {fd : FuncData} {N ps : List Str} {k : Nat} {sp : Sp} (F : Fun K x qual st f fd) (S : FnScope N ps (defScope st)) (len : ∀ vs H Q E, sp vs H Q E → vs.length = ps.length)
    (hbody : ∀ (cdv : Value) (A : Around) (outer : List Env) (s : Shared) (H : Hp) (vs : List V) (Q : VK) (E : XK), Room k (A.deeper (envOfC qual (defScope st) s.heap.objs.size f cdv)) → sp vs H Q E →
      ∃ t, PSs (cxOf CX0 P w K mg base N qual (defScope st) f cdv A outer s H E).nox (defBody st) t ∧ t { nx := fun _ H' => Q .non H', rt := Q } (start N vs) H) : FnOk P w K mg base CX0 (k + 1) f fd ps sp := by
  obtain ⟨oc, od, kV, doc, pm, an, cdv, ct, osl, rfl, lk, hcd⟩ := F.ex
  refine fn_of lk hcd S len fun A outer s H vs Q E hr hsp => ?_
  obtain ⟨t, h, q⟩ := hbody cdv A outer s H vs Q E hr hsp
  exact ⟨t, h.nox, q⟩
theorem Fun.binds {x qual : Str} {st : Stmt} {f : Addr} {fd : FuncData} {ps : List Str} (F : Fun K x qual st f fd)
    (h : ∀ (kV doc pm : Value) (an : Option Addr) (cdv ct : Value) (us : List Value), us.length = ps.length → bindArgs (PySem.W.fnOf x qual (defArgs st) (defBody st) (defScope st) .none kV doc pm an cdv ct) ⟨us, []⟩ = pure (ps.zip us)) : Binds K fd ps [] := by
  obtain ⟨oc, od, kV, doc, pm, an, cdv, ct, osl, rfl, lk, hcd⟩ := F.ex
  exact .all (h kV doc pm an cdv ct)
theorem fun_mk {x qual : Str} {st : Stmt} {f : Addr} {oc : Value} {od an : Option Addr} {osl : Array (Option Value)} {kV doc pm cdv ct : Value} (l : K.lookup f = some ⟨oc, od, .func (PySem.W.fnOf x qual (defArgs st) (defBody st) (defScope st) .none kV doc pm an cdv ct), osl⟩)
    (c : PySem.W.codeIn K cdv qual = true) (k : PySem.W.keepIn K (.ref f) = true) : Fun K x qual st f (PySem.W.fnOf x qual (defArgs st) (defBody st) (defScope st) .none kV doc pm an cdv ct) := ⟨⟨oc, od, kV, doc, pm, an, cdv, ct, osl, rfl, l, c⟩, k⟩
end
section
variable {X : Cx}
theorem pv (i : Nat) {x : Str} {pos : Pos} (hN : X.N[i]? = some x := by rfl) (hv : Vis X.env.scope x := by first | exact Or.inl rfl | exact Or.inr (Or.inl rfl) | exact Or.inr (Or.inr rfl)) (hd : (x == ("__debug__" : Str)) = false := by decide)
    (hcd : (x == ("__classdict__" : Str)) = false := by decide) : PE X (.Name x pos) (tVar i) := pe_var hN hv hd hcd
end

theorem iteF {A B : Prop} (h : B) : if false = true then A else B := by
  rw [if_neg Bool.false_ne_true]
  exact h
theorem iteT {A B : Prop} (h : A) : if true = true then A else B := by
  rw [if_pos rfl]
  exact h
theorem ite2 {c A B : Prop} [Decidable c] (h1 : c → A) (h2 : ¬ c → B) : if c then A else B := by
  by_cases h : c
  · rw [if_pos h]
    exact h1 h
  · rw [if_neg h]
    exact h2 h
theorem iteNS {c A B : Prop} [Decidable c] (hc : c) (h : B) : if (!decide c) = true then A else B := by
  rw [decide_eq_true hc]
  exact iteF h

def Same (H H' : Hp) : Prop := ∀ b o, H b = some o → H' b = some o
theorem Same.refl (H : Hp) : Same H H := fun _ _ h => h
theorem Same.trans {H H1 H2 : Hp} (a : Same H H1) (b : Same H1 H2) : Same H H2 := fun c o h => b c o (a c o h)
theorem Same.free {H H' : Hp} (e : Same H H') {l : Addr} (h : H' l = Option.none) : H l = Option.none := by
  cases q : H l with
  | none => rfl
  | some o =>
    rw [e l o q] at h
    cases h
theorem Same.seq {K : PySem.W.Frag} {H H' : Hp} {a : Addr} {xs : List V} (e : Same H H') (h : SqL K H a xs) : SqL K H' a xs := by
  rcases h with (h | ⟨o, h⟩) | h
  · exact .inl (.inl (e _ _ h))
  · exact .inl (.inr ⟨o, e _ _ h⟩)
  · exact .inr h

section
variable {κ : Type} [DecidableEq κ]
end
theorem Same.made {H H1 : Hp} {x dx C : Addr} (nx : H x = Option.none) (nd : H dx = Option.none) (k : ∀ b o, (upd (upd H dx (.own x)) x (.ins C dx [])) b = some o → b ≠ x → H1 b = some o) : Same H H1 := fun b o e =>
  k b o (by rw [upd_ne (ne_of_none e nx), upd_ne (ne_of_none e nd)]; exact e) (ne_of_none e nx)
end L2

set_option Elab.async false
set_option linter.all false
set_option maxRecDepth 100000
namespace L2
open PySem PySem.Spec PyProof.Rows

/-! ## own exceptions: made, raised, passed on, caught -/
/-- what stands above a class of the text that is made right from Exception -/
abbrev aboveX : List Value := [.type "Exception", .type "BaseException", .type "object"]
/-- a class of the text made from Exception, with an __init__ of its own, f -/
structure XCls (K : PySem.W.Frag) (C f : Addr) : Prop where
  obj : ∃ nm q N bs sn sub ab col dd k0 k1 k2 k3 k5, K.lookup C = some (excClassObj nm q C N bs aboveX true sn sub ab col dd k0 k1 k2 k3 k5 "Exception.__new__")
  init : PySem.W.findIn K (.ref C) "__init__" = some (some (.ref f))
  fn : PySem.W.isFn K (.ref f) = true
  kp : PySem.W.keepIn K (.ref C) = true
  ga : PySem.W.findIn K (.ref C) "__getattribute__" = some (some (.builtin "BaseException.__getattribute__"))
  gn : PySem.W.findIn K (.ref C) "__getattr__" = some none
  sa : PySem.W.findIn K (.ref C) "__setattr__" = some (some (.builtin "object.__setattr__"))
  hd : PySem.W.hasDictIn K C = true

theorem xcls_mk {K : PySem.W.Frag} {C f N : Addr} {nm q : Str} {bs : List Value} {sn : List Str} {sub : List Value} {ab : Bool} {col : Option Bool} {dd : Option Addr} {k0 k1 k2 k3 k5 : Option Value}
    (l : K.lookup C = some (excClassObj nm q C N bs aboveX true sn sub ab col dd k0 k1 k2 k3 k5 "Exception.__new__")) (i : PySem.W.findIn K (.ref C) "__init__" = some (some (.ref f))) (n : PySem.W.isFn K (.ref f) = true) (k : PySem.W.keepIn K (.ref C) = true)
    (g : PySem.W.findIn K (.ref C) "__getattribute__" = some (some (.builtin "BaseException.__getattribute__"))) (a : PySem.W.findIn K (.ref C) "__getattr__" = some none) (s : PySem.W.findIn K (.ref C) "__setattr__" = some (some (.builtin "object.__setattr__")))
    (d : PySem.W.hasDictIn K C = true) : XCls K C f := ⟨⟨nm, q, N, bs, sn, sub, ab, col, dd, k0, k1, k2, k3, k5, l⟩, i, n, k, g, a, s, d⟩

abbrev bareX (C t : Addr) : Obj := { cls := .ref C, data := .fields #[.ref t, .none, .none, .none, .bool false, .none] }
/-- the heap with a new exception and the tuple of its arguments -/
def heapX (h : Heap) (C : Addr) (us : List Value) : Heap := (h.push { cls := .type "tuple", data := .seq us.toArray }).push (bareX C h.objs.size)
theorem heapX_keeps {h : Heap} {C : Addr} {us : List Value} {b : Addr} {o : Obj} (e : h.get? b = some o) : (heapX h C us).get? b = some o := Heap.get?_push_of_some _ (Heap.get?_push_of_some _ e)
theorem heapX_at {h : Heap} {C : Addr} {us : List Value} : (heapX h C us).get? (h.objs.size + 1) = some (bareX C h.objs.size) := by
  unfold heapX
  heap_get

section
variable {P : Program} {w : World} {A : Around} {K : PySem.W.Frag} {C f : Addr} {R : Result → Shared → Prop} {s : Shared}
theorem makeX {us : List Value} (X : K.In s.heap) (c : XCls K C f) (hl : us.length ≤ sizeLine)
    (go : codeAny (model P w) (A.under (.builtin "type.__call__" ⟨.ref C :: us, []⟩)) (.call (.ref f) ⟨.ref (s.heap.objs.size + 1) :: us, []⟩) (PySem.W.InitBack (s.heap.objs.size + 1) R) { s with heap := heapX s.heap C us }) :
    codeAny (model P w) A (.call (.ref C) ⟨us, []⟩) R s := by
  obtain ⟨hp, g, d, t, os⟩ := s
  obtain ⟨nm, q, N, bs, sn, sub, ab, col, dd, k0, k1, k2, k3, k5, lk⟩ := c.obj
  have atC := X _ _ lk
  have B := PySem.F.excBase_Exception
  have n1 := tc_lookup
  have n2 := tc_bind (.ref C)
  have tyC : (⟨hp, g, d, t, os⟩ : Shared).TypeIs (.ref C) "type" := ⟨_, atC, rfl⟩
  refine codeAny_of_tree ?_
  show wpAny _ _ (callAny (.ref C) _) _ _ _
  repeat (any_goals (first | assumption | (with_reducible refine wpAny_loadPart_at atC ?_) | wp_step))
  refine And.intro rfl (codeAny_call_builtin_at (Code.quiet_builtin _ (by decide +kernel)) entry_typeCall (wpAny_check_type_call_sub atC ?_))
  repeat (first | (with_reducible refine wpAny_loadPart_at atC ?_) | (with_reducible refine wpAny_madeBy_exc atC ?_) | wp_step)
  refine codeAny_call_builtin_code (Code.quiet_builtin _ B.quiet) (wpAny_check_new_sub B atC (codeAny_exc_new_sub B atC ?_ hl))
  show wpAny _ _ _ _ _ ⟨heapX hp C us, g, d, t, os⟩
  have X' : K.In (heapX hp C us) := X.keeps fun b o e => heapX_keeps e
  have atC' := X' _ _ lk
  have atE : (heapX hp C us).get? (hp.objs.size + 1) = some (bareX C hp.objs.size) := heapX_at
  have inC : (Value.ref C :: aboveX).contains (.ref C) = true := by simp
  unfold isInstance
  repeat (first | (with_reducible refine wpAny_loadPart_at atE ?_) | ((with_reducible refine wpAny_isSubtype_exc atC' ?_); rw [inC]) | wp_step)
  show wpAny _ _ (typeLookup (.ref C) _) _ _ _
  refine (PySem.W.looks_findIn X' c.init).at ?_
  refine wpAny_holding (wpAny_bind ((PySem.W.bind_fn X' _ (beq_iff_eq.mp c.fn)).at ?_))
  refine wpAny_bind (wpAny_call (codeAny_mono go fun r s' z => ?_))
  rcases r with e | (_ | _ | _ | v)
  · exact z
  · exact z.elim
  · exact z.elim
  · exact z.elim
  · obtain ⟨rfl, z⟩ := z
    exact wpAny_pure (wpAny_pure z)
end
end L2

set_option Elab.async false
set_option linter.all false
set_option maxRecDepth 100000
namespace L2
open PySem PySem.Spec PyProof.Rows
open PySem.W (InstAt Looks)

section
variable {P : Program} {w : World} {A : Around} {K : PySem.W.Frag} {C f x : Addr} {s : Shared} {ox : Obj} {od : Option Obj} {name : Str} {v : Value}
/-- object.__setattr__ of an exception's attribute that no class of it has -/
theorem storeX {tk : Tok} {R : Result → Shared → Prop} (X : K.In s.heap) (I : InstAt s.heap x ox C od) (c : XCls K C f) (n : NoAttr K C name)
    (go : ∀ b, wpAny (model P w) A.in1 (Builtin.ObjectAttr.storeInOwnDict (.ref x) (.ref C) (.str name tk) name v b)
      (fun fin s' => match fin with | .done f => R (.ok f) s' | .again c' => c'.quiet = true ∧ codeAny (model P w) A c' R s') (fun e s' => R (.error e) s') s) :
    codeAny (model P w) A (.call (.builtin "object.__setattr__") ⟨[.ref x, .str name tk, v], []⟩) R s := by
  have S := PySem.F.store_Exception
  obtain ⟨nm, q, N, bs, sn, sub, ab, col, dd, k0, k1, k2, k3, k5, lk⟩ := c.obj
  have hcd : PySem.W.clsIn K C = some { name := nm, bases := bs, mro := .ref C :: aboveX, ns := N, qualname := q, hasDict := true, slotNames := sn, subclasses := sub, abstract := ab, collection := col, hasDel := false } := by
    unfold PySem.W.clsIn
    rw [lk]
  have isO : Looks (model P w) s.heap (isInstance (.ref x) (.type "object")) true := I.type.andThen (PySem.W.looks_mroIn X (by unfold PySem.W.mroIn; rw [hcd, Option.bind_some]; rfl))
  have mro : Looks (model P w) s.heap (mroOf (.ref C)) (.ref C :: aboveX) := (PySem.W.looks_clsIn X hcd).andThen .now
  refine codeAny_call_builtin S.slot.plain S.entry (@PySem.W.check_slot (model P w) _ _ s "object.__setattr__" "object" "__setattr__" (.ref x) [.str name tk, v] [] _ S.kind S.split isO (S.args (.ref x) (.str name tk) v) ?_)
  rw [PySem.W.osa_eq, refuse_eq]
  refine wpAny_bind (wpAny_bind (I.type.here (wpAny_bind (mro.here ?_))))
  rw [refuseLoop_ref, S.passes]
  refine wpAny_pure (wpAny_bind (I.type.here (wpAny_bind ((PySem.W.looks_findIn X n).here (wpAny_bind (wpAny_pure ?_))))))
  exact go _
end

/-- an exception of the class at C that stands at p as it was made, its dict at d -/
def XNew (C p : Addr) (d : Option Addr) : HO := .ext fun h => ∃ t, h.get? p = some { cls := .ref C, dict := d, data := .fields #[.ref t, .none, .none, .none, .bool false, .none] }
/-- an exception's dict at p -/
def XDic (p : Addr) (fs : List (Str × V)) : HO := .ext fun h => fs.length ≤ 1000 ∧ ∃ mA, h.Ns1 p mA ∧ (∀ f, RelO (fs.lookup f) (mA f)) ∧ PySem.Within mA (fs.map (·.1))

theorem upd_swap {H : Hp} {a b : Addr} {o u : HO} (h : a ≠ b) : upd (upd H a o) b u = upd (upd H b u) a o := by
  funext c
  unfold upd
  by_cases h1 : c = a
  · rw [if_pos h1, if_neg (fun q => h (h1.symm.trans q)), if_pos h1]
  · rw [if_neg h1, if_neg h1]
theorem xd_ok {P : Program} {w : World} {H : Hp} {h : Heap} {p : Addr} {fs : List (Str × V)} {mA : Str → Option Value} (l : fs.length ≤ 1000) (n : h.Ns1 p mA) (r : ∀ f, RelO (fs.lookup f) (mA f)) (k : PySem.Within mA (fs.map (·.1))) : ObjOk P w H h p (XDic p fs) := by
  obtain ⟨o, es, ep, ho, c⟩ := n
  exact ⟨⟨l, mA, ⟨o, es, ep, ho, c⟩, r, k⟩, ⟨o, ho⟩, fun h1 h2 ⟨l, mA, ⟨o, es, ep, ho, c⟩, r⟩ kp => ⟨l, mA, ⟨o, es, ep, kp o ho, c⟩, r⟩⟩
theorem xn_ok {P : Program} {w : World} {H : Hp} {h : Heap} {C p t : Addr} {d : Option Addr} (e : h.get? p = some { cls := .ref C, dict := d, data := .fields #[.ref t, .none, .none, .none, .bool false, .none] }) : ObjOk P w H h p (XNew C p d) :=
  ⟨⟨t, e⟩, ⟨_, e⟩, fun h1 h2 ⟨t, e⟩ kp => ⟨t, kp _ e⟩⟩

section
variable {X : Cx} {pins : List (Addr × Obj)} {σ : St} {H : Hp} {s : Shared} {a C f₀ dx : Addr} {fs : List (Str × V)} {f : Str} {y : V} {u : Value} {A : Around} {E : Value → Shared → Prop} {Q : Unit → Shared → Prop}
theorem setattrX0 (I : Inv X pins σ H s) (e : H a = some (XNew C a none)) (c : XCls X.K C f₀) (n : NoAttr X.K C f) (ry : RelV y u)
    (h : ∀ dx s', H dx = none → dx ≠ a → Inv X pins σ (upd (upd H dx (XDic dx [(f, y)])) a (XNew C a (some dx))) s' → Q () s') : wpAny (model X.prog X.w) A (setAttr (.ref a) f u) Q E s := by
  obtain ⟨⟨t, ha⟩, _, _⟩ := (show ObjOk X.prog X.w H s.heap a (XNew C a none) from I.hok a _ e)
  have J : InstAt s.heap a _ C none := ⟨ha, rfl, rfl, trivial⟩
  obtain ⟨nm, q, N, bs, sn, sub, ab, col, dd, k0, k1, k2, k3, k5, lk⟩ := c.obj
  have hcd : PySem.W.clsIn X.K C = some { name := nm, bases := bs, mro := .ref C :: aboveX, ns := N, qualname := q, hasDict := true, slotNames := sn, subclasses := sub, abstract := ab, collection := col, hasDel := false } := by
    unfold PySem.W.clsIn
    rw [lk]
  refine PySem.W.set_plain I.kIn J c.sa (storeX (s := { s with toks := s.toks + 1 }) I.kIn J c n fun b => ?_)
  refine wpAny_bind (wpAny_pure (wpAny_bind (wpAny_bind (wpAny_loadPart ha (wpAny_bind (PySem.W.Looks.here (s := { s with toks := s.toks + 1 }) (PySem.W.looks_clsIn I.kIn hcd) ?_))))))
  rw [if_neg (by exact Bool.false_ne_true)]
  dsimp only
  rw [if_neg (by exact Bool.false_ne_true)]
  have hlt := Heap.lt_size ha
  have nda : s.heap.objs.size ≠ a := Nat.ne_of_gt hlt
  have ha1 := Heap.get?_push_of_some PySem.W.emptyDict ha
  have fr : H s.heap.objs.size = none := I.hok.fresh (Nat.le_refl _)
  refine wpAny_bind (wpAny_alloc (wpAny_bind (wpAny_update ha1 (wpAny_pure (a := some s.heap.objs.size) ?_))))
  have hd2 : ((s.heap.push PySem.W.emptyDict).update a fun o => { cls := o.cls, dict := some s.heap.objs.size, data := o.data, slots := o.slots }).get? s.heap.objs.size = some PySem.W.emptyDict :=
    (Heap.get?_update_ne _ _ _ _ nda).trans (Heap.get?_push_size s.heap rfl)
  have ha2 := Heap.get?_update_self (fun o => { cls := o.cls, dict := some s.heap.objs.size, data := o.data, slots := o.slots }) ha1 rfl
  have hnd : ((s.heap.push PySem.W.emptyDict).update a fun o => { cls := o.cls, dict := some s.heap.objs.size, data := o.data, slots := o.slots }).Ns s.heap.objs.size (fun _ => none) := ⟨_, #[], _, hd2, rfl, fun e he => absurd he (by simp), fun _ => rfl⟩
  have I1 := I.laid (a := s.heap.objs.size) (o := XDic s.heap.objs.size []) (h' := s.heap.push PySem.W.emptyDict) (t' := s.toks + 1) (fun b u q => Heap.get?_push_of_some _ q) (Nat.le_refl _)
    (xd_ok (Nat.zero_le _) (Heap.Ns1.of_empty ⟨_, #[], _, Heap.get?_push_size s.heap rfl, rfl, fun e he => absurd he (by simp), fun _ => rfl⟩) (fun _ => trivial) fun y hy => absurd rfl hy)
  have I2 := I1.write (x := a) (e := a) (o := XNew C a (some s.heap.objs.size)) (t' := s.toks + 1) (by rw [upd_ne (Ne.symm nda), e]; exact True.intro) (.inl rfl) (fun b u hb q => (Heap.get?_update_ne _ _ _ _ hb).trans q) ⟨_, ha2⟩ (xn_ok ha2)
  show wpAny _ _ (Builtin.ObjectAttr.storeInDict s.heap.objs.size (.str f s.toks) f u) _ _ _
  unfold Builtin.ObjectAttr.storeInDict Builtin.ObjectAttr.newKeyGuard
  refine wpAny_bind (wpAny_pure (wpAny_bind (wpAny_nsSet1 (Heap.Ns1.of_empty hnd) fun h' hn' hs => ?_)))
  obtain ⟨oD, esD, epD, hoD, hdD, hcD⟩ := hn'.count (Within.cons f u Within.nil)
  refine wpAny_bind (wpAny_lookBehind hoD (by rw [hdD]; exact pastItsLine_dict (Nat.le_trans hcD (by rw [List.length_cons, List.length_nil, sizeLine_eq]; omega))) ?_)
  refine wpAny_pure (h s.heap.objs.size _ fr nda ?_)
  have I3 := I2.write (x := s.heap.objs.size) (e := s.heap.objs.size) (o := XDic s.heap.objs.size [(f, y)]) (t' := s.toks + 1 + 1) (by rw [upd_ne nda, upd_same]; exact True.intro) (.inl rfl) (fun b u hb q => (hs.2 b hb).trans q) ⟨_, hoD⟩
    (xd_ok (by show 1 ≤ 1000; decide) hn' (fun g => ?_) fun g hg => ?_)
  · rw [upd_swap (Ne.symm nda), upd_upd] at I3
    exact I3
  · show RelO (([(f, y)] : List (Str × V)).lookup g) (if g = f then some u else none)
    by_cases q : g = f
    · subst q
      rw [if_pos rfl, List.lookup_cons_self]
      exact ry
    · rw [if_neg q, List.lookup_cons, beq_eq_false_iff_ne.mpr q]
      trivial
  · by_cases q : g = f
    · simp [q]
    · exact absurd (by show (if g = f then some u else none) = none; rw [if_neg q]) hg
theorem setattrX1 (I : Inv X pins σ H s) (e : H a = some (XNew C a (some dx))) (ed : H dx = some (XDic dx fs)) (c : XCls X.K C f₀) (n : NoAttr X.K C f) (hl : fs.length < 1000) (ry : RelV y u)
    (h : ∀ s', Inv X pins σ (upd H dx (XDic dx (putF f y fs))) s' → Q () s') : wpAny (model X.prog X.w) A (setAttr (.ref a) f u) Q E s := by
  obtain ⟨⟨t, ha⟩, _, _⟩ := (show ObjOk X.prog X.w H s.heap a (XNew C a (some dx)) from I.hok a _ e)
  obtain ⟨⟨l, mA, hns, rel, wi⟩, ⟨od, hod⟩, _⟩ := (show ObjOk X.prog X.w H s.heap dx (XDic dx fs) from I.hok dx _ ed)
  have J : InstAt s.heap a _ C (some od) := ⟨ha, rfl, rfl, hod⟩
  obtain ⟨nm, q, N, bs, sn, sub, ab, col, dd, k0, k1, k2, k3, k5, lk⟩ := c.obj
  have hcd : PySem.W.clsIn X.K C = some { name := nm, bases := bs, mro := .ref C :: aboveX, ns := N, qualname := q, hasDict := true, slotNames := sn, subclasses := sub, abstract := ab, collection := col, hasDel := false } := by
    unfold PySem.W.clsIn
    rw [lk]
  refine PySem.W.set_plain I.kIn J c.sa (storeX (s := { s with toks := s.toks + 1 }) I.kIn J c n fun b => ?_)
  refine wpAny_bind (wpAny_pure (wpAny_bind (wpAny_bind (wpAny_loadPart ha (wpAny_bind (PySem.W.Looks.here (s := { s with toks := s.toks + 1 }) (PySem.W.looks_clsIn I.kIn hcd) ?_))))))
  rw [if_neg (by exact Bool.false_ne_true)]
  refine wpAny_pure (a := some dx) ?_
  show wpAny _ _ (Builtin.ObjectAttr.storeInDict dx (.str f s.toks) f u) _ _ _
  unfold Builtin.ObjectAttr.storeInDict Builtin.ObjectAttr.newKeyGuard
  refine wpAny_bind (wpAny_pure (wpAny_bind (wpAny_nsSet1 (s := { s with toks := s.toks + 1 }) hns fun h' hn' hs => ?_)))
  obtain ⟨oD, esD, epD, hoD, hdD, hcD⟩ := hn'.count (PySem.Within.cons f u wi)
  refine wpAny_bind (wpAny_lookBehind hoD (by rw [hdD]; exact pastItsLine_dict (Nat.le_trans hcD (by rw [List.length_cons, List.length_map, sizeLine_eq]; omega))) ?_)
  refine wpAny_pure (h _ ?_)
  refine I.write (x := dx) (e := dx) (t' := s.toks + 1 + 1) (by rw [ed]; exact True.intro) (.inl rfl) (fun b u hb q => (hs.2 b hb).trans q) ⟨_, hoD⟩ (xd_ok (by have := length_putF f y fs; omega) hn' (fun g => ?_) fun g hg => ?_)
  · show RelO ((putF f y fs).lookup g) (if g = f then some u else mA g)
    rw [lookup_putF]
    by_cases q : g = f
    · rw [if_pos q, if_pos q]
      exact ry
    · rw [if_neg q, if_neg q]
      exact rel g
  · by_cases q : g = f
    · rw [q]
      exact (keys_putF f y fs).1
    · refine (keys_putF f y fs).2 g (wi g fun z => hg ?_)
      show (if g = f then some u else mA g) = none
      rw [if_neg q]
      exact z
end
end L2

set_option Elab.async false
set_option linter.all false
set_option maxRecDepth 100000
namespace L2
open PySem PySem.Spec PyProof.Rows
open PySem.W (InstAt Looks)

/-- an exception of the class at C that stands at p, its dict at d -/
def XGot (C p d : Addr) : HO := .ext fun h => ∃ vs sl, h.get? p = some ⟨.ref C, some d, .fields vs, sl⟩
theorem xg_ok {P : Program} {w : World} {H : Hp} {h : Heap} {C p d : Addr} {vs : Array Value} {sl : Array (Option Value)} (e : h.get? p = some ⟨.ref C, some d, .fields vs, sl⟩) : ObjOk P w H h p (XGot C p d) :=
  ⟨⟨vs, sl, e⟩, ⟨_, e⟩, fun h1 h2 ⟨vs, sl, e⟩ kp => ⟨vs, sl, kp _ e⟩⟩

section
variable {X : Cx} {pins : List (Addr × Obj)} {σ : St} {H : Hp} {s : Shared} {a C f₀ dx : Addr} {fs : List (Str × V)} {f : Str} {v : V} {u : Value} {A : Around} {E : Value → Shared → Prop}
theorem getattrX {b : Bool} {Q : Value → Shared → Prop} (I : Inv X pins σ H s) (e : H a = some (XGot C a dx)) (ed : H dx = some (XDic dx fs)) (c : XCls X.K C f₀) (n : NoAttr X.K C f) (l : fs.lookup f = some v)
    (h : ∀ u s', Inv X pins σ H s' → RelV v u → Q u s') : wpAny (model X.prog X.w) A (getAttr (.ref a) f b) Q E s := by
  obtain ⟨⟨vs, sl, ha⟩, _, _⟩ := (show ObjOk X.prog X.w H s.heap a (XGot C a dx) from I.hok a _ e)
  obtain ⟨⟨hlen, mA, hns, rel, wi⟩, _, _⟩ := (show ObjOk X.prog X.w H s.heap dx (XDic dx fs) from I.hok dx _ ed)
  obtain ⟨od, hod, hlk⟩ := lookIn_ns hns
  have J : InstAt s.heap a _ C (some od) := ⟨ha, rfl, rfl, hod⟩
  obtain ⟨u, hu, ru⟩ := RelO.some_of (v := v) (o := mA f) (by rw [← l]; exact rel f)
  have hf : PySem.W.findObj X.K C (some od) f = some (.value u) := PySem.W.findObj_own c.hd n rfl (by rw [hlk, hu])
  have K0 := I.kIn
  have I1 := I.tok (s.toks + 1)
  obtain ⟨hp, g, d, t, os⟩ := s
  have L0 := J.type (M := model X.prog X.w)
  have L1 := PySem.W.looks_findIn (M := model X.prog X.w) K0 c.ga
  have L2 := PySem.W.looks_findIn (M := model X.prog X.w) K0 c.gn
  unfold getAttr getAttrBy
  refine wpAny_bind (wpAny_mkText (wpAny_holding (wpAny_bind (L0.at (wpAny_bind (L1.at ?_))))))
  dsimp only
  rw [if_neg (by rw [show (Value.builtin "BaseException.__getattribute__" == Value.builtin "object.__getattribute__") = false by decide +kernel, Bool.and_false]; exact Bool.false_ne_true)]
  unfold getAttrByItsOwn hookBefore
  refine wpAny_bind (L2.at ?_)
  have hb : callGetattribute (Value.ref a) (Value.str f t) (Value.builtin "BaseException.__getattribute__") b = boundAndCalled (Value.builtin "BaseException.__getattribute__") (.ref a) (.str f t) := by cases b <;> rfl
  rw [hb]
  refine wpAny_bind (wpAny_attempt (wpAny_holding ?_))
  unfold boundAndCalled
  have G := PySem.F.attr_Exception
  rw [G.ga.bind]
  refine wpAny_bind (wpAny_pure (wpAny_call ?_))
  obtain ⟨nm, q, N, bs, sn, sub, ab, col, dd, k0, k1, k2, k3, k5, lk⟩ := c.obj
  have hcd : PySem.W.clsIn X.K C = some { name := nm, bases := bs, mro := .ref C :: aboveX, ns := N, qualname := q, hasDict := true, slotNames := sn, subclasses := sub, abstract := ab, collection := col, hasDel := false } := by
    unfold PySem.W.clsIn
    rw [lk]
  have isB : Looks (model X.prog X.w) hp (isInstance (.ref a) (.type "BaseException")) true := L0.andThen (PySem.W.looks_mroIn K0 (by unfold PySem.W.mroIn; rw [hcd, Option.bind_some]; rfl))
  refine codeAny_call_builtin G.ga.plain PySem.F.entry_bexc_ga (@PySem.W.check_slot (model X.prog X.w) _ _ ⟨hp, g, d, t + 1, os⟩ "BaseException.__getattribute__" "BaseException" "__getattribute__" (.ref a) [.str f t] [] _ (by decide +kernel) (by decide +kernel) isB (PySem.F.args_bexc_ga _ _) ?_)
  have L3 := PySem.W.looks_find (M := model X.prog X.w) K0 J hf
  unfold Builtin.«object.__getattribute__»
  refine wpAny_bind (wpAny_pure (wpAny_bind (wpAny_pure (wpAny_bind (L0.at (wpAny_bind (L3.at (wpAny_pure ?_))))))))
  show wpAny _ _ (handedOut u) _ _ _
  rw [PySem.W.handedOut_of (handed_of ru)]
  exact wpAny_pure (h u _ I1 ru)
end

/-- o.f = e, o a new exception without a dict; one that has its dict; e.f of a caught one -/
def sFldX0 (K : PySem.W.Frag) (ta tv : TE) (f : Str) : TS := fun D σ H => tv σ H fun y H1 => ta σ H1 fun x H2 => ∃ a C f₀, x = .ref a ∧ H2 a = some (XNew C a none) ∧ XCls K C f₀ ∧ NoAttr K C f ∧
  ∀ dx, H2 dx = none → dx ≠ a → D.nx σ (upd (upd H2 dx (XDic dx [(f, y)])) a (XNew C a (some dx)))
def sFldX1 (K : PySem.W.Frag) (ta tv : TE) (f : Str) : TS := fun D σ H => tv σ H fun y H1 => ta σ H1 fun x H2 => ∃ a C f₀ dx fs, x = .ref a ∧ H2 a = some (XNew C a (some dx)) ∧ H2 dx = some (XDic dx fs) ∧ XCls K C f₀ ∧ NoAttr K C f ∧ fs.length < 1000 ∧
  D.nx σ (upd H2 dx (XDic dx (putF f y fs)))
def tFldX (K : PySem.W.Frag) (ta : TE) (f : Str) : TE := fun σ H Q => ta σ H fun x H1 => ∃ a C f₀ dx fs v, x = .ref a ∧ H1 a = some (XGot C a dx) ∧ H1 dx = some (XDic dx fs) ∧ XCls K C f₀ ∧ NoAttr K C f ∧ fs.lookup f = some v ∧ Q v H1
section
variable {X : Cx} {o e value : Expr} {f : Str} {pos pos' : Pos} {ta tv : TE}
theorem ps_fldX0 (ha : PE X o ta) (hv : PE X value tv) (hs : swapsWith value (some (.Attribute o f pos')) pos.line X.env = pure false) : PS X (.Assign [.Attribute o f pos'] value pos) (sFldX0 X.K ta tv f) := by
  intro pins s σ H D I h
  refine plainObj_wpAny_Assign_Attribute (thn (hv pins s σ H _ I h) fun u s1 ⟨y, H1, I1, ry, q⟩ => thn (ha pins s1 σ H1 _ I1 q) fun ov s2 ⟨x, H2, I2, rx, a, C, f₀, ex, ea, c, n, q2⟩ => ?_) hs
  subst ex
  obtain rfl : ov = Value.ref a := rx
  exact setattrX0 I2 ea c n ry fun dx s3 h1 h2 I3 => ⟨σ, _, I3, q2 dx h1 h2⟩
theorem ps_fldX1 (ha : PE X o ta) (hv : PE X value tv) (hs : swapsWith value (some (.Attribute o f pos')) pos.line X.env = pure false) : PS X (.Assign [.Attribute o f pos'] value pos) (sFldX1 X.K ta tv f) := by
  intro pins s σ H D I h
  refine plainObj_wpAny_Assign_Attribute (thn (hv pins s σ H _ I h) fun u s1 ⟨y, H1, I1, ry, q⟩ => thn (ha pins s1 σ H1 _ I1 q) fun ov s2 ⟨x, H2, I2, rx, a, C, f₀, dx, fs, ex, ea, ed, c, n, l, q2⟩ => ?_) hs
  subst ex
  obtain rfl : ov = Value.ref a := rx
  exact setattrX1 I2 ea ed c n l ry fun s3 I3 => ⟨σ, _, I3, q2⟩
theorem pe_fldX (he : PE X e ta) (hb : attributeBase e f X.env (eval e X.env) = eval e X.env) : PE X (.Attribute e f pos) (tFldX X.K ta f) := by
  intro pins s σ H Q I h
  refine attr_of hb (thn (he pins s σ H _ I h) fun u s1 ⟨x, H1, I1, rx, a, C, f₀, dx, fs, v, ex, ea, ed, c, n, l, q⟩ => ?_)
  subst ex
  obtain rfl : u = Value.ref a := rx
  exact getattrX I1 ea ed c n l fun u' s2 I2 ru => ⟨v, H1, I2, ru, q⟩
end

/-! ### raise -/
/-- p is tracked no more -/
def del (H : Hp) (p : Addr) : Hp := fun b => if b = p then none else H b
theorem del_same {H : Hp} {p : Addr} : del H p p = none := by
  unfold del
  rw [if_pos rfl]
theorem del_ne {H : Hp} {p b : Addr} (h : b ≠ p) : del H p b = H b := by
  unfold del
  rw [if_neg h]
section
variable {M : Model} {A : Around} {E : Value → Shared → Prop} {s : Shared} {env : Env} {K : PySem.W.Frag} {C f : Addr}
/-- raise x, where x gives an exception as it was made -/
theorem raiseX {x : Sem Value} {Q : Flow → Shared → Prop} (hh : A.handled = none) (c : XCls K C f)
    (go : wpAny M A x (fun v s₁ => ∃ e d t, v = .ref e ∧ K.In s₁.heap ∧ s₁.heap.get? e = some { cls := .ref C, dict := d, data := .fields #[.ref t, .none, .none, .none, .bool false, .none] } ∧ E (.ref e) s₁) E s) :
    wpAny M A (raiseStmt env (some x) none) Q E s := by
  obtain ⟨nm, q, N, bs, sn, sub, ab, col, dd, k0, k1, k2, k3, k5, lk⟩ := c.obj
  have isB : (Value.ref C :: aboveX).contains (.type "BaseException") = true := by rw [List.contains_cons, PySem.F.excBase_Exception.hasBase, Bool.or_true]
  unfold raiseStmt
  refine wpAny_bind (wpAny_mono go (fun v s₁ z => ?_) fun _ _ z => z)
  obtain ⟨e, d, t, rfl, KX, atE, hE⟩ := z
  have atC := KX _ _ lk
  obtain ⟨hp, g, dr, tk, os⟩ := s₁
  repeat (first | (with_reducible refine wpAny_loadPart_at atE ?_) | (with_reducible refine wpAny_loadPart_at atC ?_) | ((with_reducible refine wpAny_isSubtype_exc atC ?_); rw [isB]) | wp_step)
  exact wpAny_raiseNew_none hh hE
end

/-- raise C(..): what is wanted where __init__ has come back -/
def sRaise (C : Addr) (sp : Sp) (t : TA) (E : XK) : TS := fun _ σ H => t σ H fun vs H1 => vs.length ≤ sizeLine ∧ ∀ a, H1 a = none →
  sp (.ref a :: vs) (upd H1 a (XNew C a none)) (fun v H2 => v = .non ∧ ∃ dx fs, H2 a = some (XNew C a (some dx)) ∧ H2 dx = some (XDic dx fs) ∧ E (.ref C) (some dx) (del H2 a)) fun _ _ _ => False
/-- an exception that was just made may leave the body so -/
def Raises (X : Cx) (E : XK) : Prop := ∀ (pins : List (Addr × Obj)) (σ : St) (H : Hp) (s : Shared) (C a dx : Addr) (fs : List (Str × V)), Inv X pins σ H s → X.s_0.heap.objs.size ≤ a →
  H a = some (XNew C a (some dx)) → H dx = some (XDic dx fs) → E (.ref C) (some dx) (del H a) → X.xe (.ref a) s
theorem Inv.madeX {X : Cx} {pins : List (Addr × Obj)} {σ : St} {H : Hp} {s : Shared} {C : Addr} {us : List Value} (I : Inv X pins σ H s) : Inv X pins σ (upd H (s.heap.objs.size + 1) (XNew C (s.heap.objs.size + 1) none)) { s with heap := heapX s.heap C us } :=
  I.laid (a := s.heap.objs.size + 1) (o := XNew C (s.heap.objs.size + 1) none) (t' := s.toks) (fun b u q => heapX_keeps q) (Nat.le_succ _) (xn_ok heapX_at)
section
variable {X : Cx} {k : Nat} {f C : Addr} {fd : FuncData} {ps : List Str} {sp : Sp} {E : XK} {x : Str} {p pos cpos : Pos} {e : Expr} {es : List Expr} {t : TA}
theorem runX {pins : List (Addr × Obj)} {σ : St} {H : Hp} {s : Shared} {us : List Value} {vs : List V} {Q : Addr → Hp → Prop} (c : XCls X.K C f) (F : FnOk X.prog X.w X.K X.mg X.base CX0 k f fd ps sp) (hr : Room (k + 1) X.A) (hb : Binds X.K fd ps [])
    (I : Inv X pins σ H s) (r : Vals vs us) (hl : vs.length ≤ sizeLine) (h : ∀ a, H a = none → sp (.ref a :: vs) (upd H a (XNew C a none)) (fun v H2 => v = .non ∧ Q a H2) fun _ _ _ => False) :
    wpAny (model X.prog X.w) X.A (call (.ref C) us) (fun v s' => ∃ a H', v = .ref a ∧ X.s_0.heap.objs.size ≤ a ∧ Inv X pins σ H' s' ∧ Q a H') X.xe s := by
  have hq := h (s.heap.objs.size + 1) (I.hok.fresh (Nat.le_succ _))
  have I2 := Inv.madeX (C := C) (us := us) I
  have r2 : Vals (V.ref (s.heap.objs.size + 1) :: vs) (Value.ref (s.heap.objs.size + 1) :: us) := .cons rfl r
  have hl2 : (Value.ref (s.heap.objs.size + 1) :: us ++ []).length = ps.length := by
    rw [List.append_nil, ← r2.length]
    exact F.len _ _ _ _ hq
  have hb2 := hb { s with heap := heapX s.heap C us } (Value.ref (s.heap.objs.size + 1) :: us) I2.kIn hl2
  rw [List.append_nil] at hb2
  refine wpAny_call (makeX (f := f) I.kIn c (by rw [← r.length]; exact hl) (codeAny_mono (F.run _ X.stack _ _ ⟨Value.ref (s.heap.objs.size + 1) :: us, []⟩ (Value.ref (s.heap.objs.size + 1) :: us) _ _ _ (hr.make C us [])
    (I2.env0.make C us []) hb2 r2 hq) fun r s' hq' => ?_))
  cases r with
  | error e => exact False.elim hq'
  | ok fl =>
    cases fl with
    | ret u =>
      obtain ⟨v, H', I3, rv, ev, q3⟩ := I2.after hq'
      subst ev
      exact ⟨rv, _, H', rfl, Nat.le_trans I.sz (Nat.le_succ _), I3, q3⟩
    | next => exact False.elim hq'
    | brk => exact False.elim hq'
    | cont => exact False.elim hq'
/-- raise C(e, ..) -/
theorem ps_raise (c : XCls X.K C f) (F : FnOk X.prog X.w X.K X.mg X.base CX0 k f fd ps sp) (hr : Room (k + 1) X.A) (hg : Gl X x) (hm : X.mg x = some (.ref C)) (hb : Binds X.K fd ps []) (hx : Raises X E) (hc : X.calm = true)
    (ha : PA X (e :: es) t) (hdb : (x == ("__debug__" : Str)) = false := by decide) (he : starEach (e :: es) X.env = (false, eval e X.env) :: starEach es X.env := by rfl) (hpl : (backTo cpos (starEach es X.env)).any (·.1) = false := by rfl) :
    PS X (.Raise (some (.Call (.Name x p) (e :: es) [] cpos)) none pos) (sRaise C sp t E) := by
  intro pins s σ H D I h
  have key : wpAny (model X.prog X.w) X.A (eval (.Call (.Name x p) (e :: es) [] cpos) X.env) (fun v s₁ => ∃ e d t, v = .ref e ∧ X.K.In s₁.heap ∧ s₁.heap.get? e = some { cls := .ref C, dict := d, data := .fields #[.ref t, .none, .none, .none, .bool false, .none] } ∧ X.xe (.ref e) s₁) X.xe s := by
    refine wpAny_Call_Name_kw (ld_glob I hg hm ?_ hdb)
    refine PySem.W.callWith_K (h₀ := X.base) I.ok.mod.kin c.kp (thn (ha cpos pins s σ H _ I h) fun us s1 ⟨vs, H1, I1, r, hl, q⟩ => ⟨I1.kIn, ?_⟩) he hpl
    refine thn (runX c F hr hb I1 r hl q) fun v s2 ⟨a, H2, ev, hs, I2, dx, fs, h1, h2, h3⟩ => ?_
    obtain ⟨⟨t, hat⟩, _, _⟩ := (show ObjOk X.prog X.w H2 s2.heap a (XNew C a (some dx)) from I2.hok a _ h1)
    exact ⟨a, some dx, t, ev, I2.kIn, hat, hx pins σ H2 s2 C a dx fs I2 hs h1 h2 h3⟩
  rw [arm_exec_Raise]
  exact wpAny_bind (wpAny_standAt (raiseX (I.ok.hd hc) c (wpAny_bind (wpAny_mono key (fun v s₁ z => wpAny_bind (wpAny_standAt (wpAny_pure z))) fun _ _ z => z))))
end
end L2

set_option Elab.async false
set_option linter.all false
set_option maxRecDepth 100000
namespace L2
open PySem PySem.Spec PyProof.Rows
open PySem.W (InstAt Looks)

/-! ### an exception passes a frame -/
/-- a frame was noted at the exception e: its own object bears a new entry, the frames' slots may have changed, all else but old (its last entry) stands as it stood -/
structure Noted (l : List Env) (e : Addr) (old : Option Addr) (fl : Value) (h h' : Heap) : Prop where
  keep : ∀ b o, b ≠ e → some b ≠ old → b ∉ frs l → h.get? b = some o → h'.get? b = some o
  slot : ∀ b o, b ≠ e → some b ≠ old → h.get? b = some o → ∃ sl, h'.get? b = some { o with slots := sl }
  there : ∀ b o, h.get? b = some o → ∃ o', h'.get? b = some o'
  exc : ∀ oe vs, h.get? e = some oe → oe.data = .fields vs → ∃ vs' T oT ts, h'.get? e = some { oe with data := .fields vs' } ∧ vs'[1]? = some (.ref T) ∧ h.objs.size ≤ T ∧ T ≠ e ∧ h'.get? T = some oT ∧ oT.data = .fields ts ∧ ts[3]? = some fl

section
variable {M : Model} {A : Around} {E : Value → Shared → Prop} {s : Shared}
theorem mapFields_eq {o : Obj} {vs : Array Value} (d : o.data = .fields vs) (g : Array Value → Array Value) : Obj.mapFields g o = { o with data := .fields (g vs) } := by
  obtain ⟨c, dd, dt, sl⟩ := o
  dsimp only at d
  subst d
  rfl
theorem entryX {base : Heap} {env : Env} {outer : List Env} {L e : Addr} {oe : Obj} {vs : Array Value} {head : Value} {nx : Bool} {Q : Unit → Shared → Prop}
    (hfr : A.frames = some (env :: outer)) (hl : s.heap.FunFrames base (env :: outer)) (hf : env.frame = some L) (he : s.heap.get? e = some oe) (hd : oe.data = .fields vs) (hz : 1 < vs.size)
    (go : ∀ h', Noted (env :: outer) e none (rawInt L) s.heap h' → Q () { s with heap := h' }) :
    wpAny M A (do let a ← frameOf env; let pl ← entryPlaceOf L nx; let b ← EntryCells.newEntry head a .none (rawInt L) .none pl; setField (.ref e) 1 b) Q E s := by
  have nfr : e ∉ frs (env :: outer) := fun hm => by
    obtain ⟨_, o, ho, nf⟩ := hl.mem hm
    rw [he] at ho
    cases ho
    exact nf vs hd
  refine wpAny_bind (wpAny_frameOf_fun hfr hl hf fun h₁ so => wpAny_bind (wpAny_entryPlaceOf fun pl hpl => ?_))
  unfold EntryCells.newEntry newFields
  refine wpAny_bind (wpAny_newObj_type ?_ (hpl.sizeOk5 _ _ _ _ _))
  have e1 : h₁.get? e = some oe := (so.2.1 e nfr).trans he
  have e2 := Heap.get?_push_of_some { cls := .type "traceback", dict := none, data := .fields ([head, .ref L, .none, rawInt L, .none] ++ (if pl.isEmpty then List.replicate 6 Value.none else pl)).toArray } e1
  have nT : h₁.objs.size ≠ e := Nat.ne_of_gt (Heap.lt_size e1)
  have hfd := Obj.isFreed_of_fields (Obj.data_mapFields hd (·.setIfInBounds 1 (Value.ref h₁.objs.size)))
  refine wpAny_setField e2 hd hz (go _ ⟨fun b o hb _ hn q => ?_, fun b o hb _ q => ?_, fun b o q => ?_, fun oe' vs' q1 q2 => ?_⟩)
  · rw [Heap.get?_update_other _ _ (Ne.symm hb)]
    exact Heap.get?_push_of_some _ ((so.2.1 b hn).trans q)
  · obtain ⟨sl, z⟩ := so.2.2 b o q
    exact ⟨sl, by rw [Heap.get?_update_other _ _ (Ne.symm hb)]; exact Heap.get?_push_of_some _ z⟩
  · by_cases hb : b = e
    · subst hb
      exact ⟨_, Heap.get?_update_self _ e2 hfd⟩
    · obtain ⟨sl, z⟩ := so.2.2 b o q
      exact ⟨_, by rw [Heap.get?_update_other _ _ (Ne.symm hb)]; exact Heap.get?_push_of_some _ z⟩
  · rw [he] at q1
    cases q1
    rw [hd] at q2
    cases q2
    have atT : ((h₁.push { cls := .type "traceback", dict := none, data := .fields ([head, .ref L, .none, rawInt L, .none] ++ (if pl.isEmpty then List.replicate 6 Value.none else pl)).toArray }).update e (Obj.mapFields (·.setIfInBounds 1 (Value.ref h₁.objs.size)))).get? h₁.objs.size
        = some { cls := .type "traceback", dict := none, data := .fields ([head, .ref L, .none, rawInt L, .none] ++ (if pl.isEmpty then List.replicate 6 Value.none else pl)).toArray } := by
      rw [Heap.get?_update_other _ _ (Ne.symm nT)]
      exact Heap.get?_push_size h₁ rfl
    refine ⟨vs.setIfInBounds 1 (Value.ref h₁.objs.size), h₁.objs.size, _, ([head, .ref L, .none, rawInt L, .none] ++ (if pl.isEmpty then List.replicate 6 Value.none else pl)).toArray, ?_, by simp [hz], Nat.le_of_eq so.1.symm, nT, atT, rfl, ?_⟩
    · rw [← mapFields_eq hd (·.setIfInBounds 1 (Value.ref h₁.objs.size))]
      exact Heap.get?_update_self _ e2 hfd
    · first | (simp; done) | (rcases hpl with rfl | ⟨_, _, _, _, _, _, _, rfl⟩ <;> simp)
/-- where the exception has been noted at no frame yet, or last at a frame that it has left -/
def LastX (h : Heap) (e : Addr) (vs : Array Value) (old : Option Addr) : Prop :=
  (old = none ∧ vs[1]? = some .none) ∨ ∃ T oT ts, old = some T ∧ vs[1]? = some (.ref T) ∧ T ≠ e ∧ h.get? T = some oT ∧ oT.data = .fields ts ∧ ts[3]? = some .none
theorem noteX {base : Heap} {env : Env} {outer : List Env} {L e : Addr} {oe : Obj} {vs : Array Value} {old : Option Addr} {Q : Unit → Shared → Prop}
    (hfr : A.frames = some (env :: outer)) (hl : s.heap.FunFrames base (env :: outer)) (hf : env.frame = some L) (he : s.heap.get? e = some oe) (hd : oe.data = .fields vs) (la : LastX s.heap e vs old)
    (go : ∀ h', Noted (env :: outer) e old (rawInt L) s.heap h' → Q () { s with heap := h' }) : wpAny M A (noteFrame (.ref e) env) Q E s := by
  unfold noteFrame
  simp only [hf]
  rcases la with ⟨rfl, h1⟩ | ⟨T, oT, ts, rfl, h1, nTe, hT, dT, h3⟩
  · refine wpAny_bind (wpAny_field he hd h1 ?_)
    rw [if_neg (by decide)]
    exact entryX hfr hl hf he hd (Array.getElem?_eq_some_iff.mp h1).1 go
  · refine wpAny_bind (wpAny_field he hd h1 ?_)
    rw [if_pos (show (Value.ref T != Value.none) = true by simp)]
    refine wpAny_bind (wpAny_field hT dT h3 ?_)
    rw [if_neg (show ¬ ((Value.none == rawInt L) = true) by simp [rawInt])]
    refine wpAny_bind (wpAny_setField hT dT (Array.getElem?_eq_some_iff.mp h3).1 ?_)
    have oth : ∀ b, b ≠ T → (s.heap.update T (Obj.mapFields (·.setIfInBounds 3 Value.none))).get? b = s.heap.get? b := fun b hb => Heap.get?_update_other _ _ (Ne.symm hb)
    have atT := Heap.get?_update_self (Obj.mapFields (·.setIfInBounds 3 Value.none)) hT (Obj.isFreed_of_fields (Obj.data_mapFields dT _))
    refine entryX (s := { s with heap := s.heap.update T (Obj.mapFields (·.setIfInBounds 3 Value.none)) }) hfr (hl.of_keeps fun b o hb nf => ⟨o, (oth b fun q => ?_).trans hb, rfl⟩) hf ((oth e (Ne.symm nTe)).trans he) hd (Array.getElem?_eq_some_iff.mp h1).1
      fun h' n => go h' ⟨fun b o hb ho hn q => n.keep b o hb (by simp) hn ((oth b fun z => ho (by rw [z])).trans q), fun b o hb ho q => n.slot b o hb (by simp) ((oth b fun z => ho (by rw [z])).trans q), fun b o q => ?_, fun oe' vs' q1 q2 => ?_⟩
    · subst q
      rw [hT] at hb
      cases hb
      exact nf ts dT
    · by_cases hb : b = T
      · subst hb
        exact n.there b _ atT
      · exact n.there b o ((oth b hb).trans q)
    · obtain ⟨vs2, T2, oT2, ts2, z1, z2, z3, z⟩ := n.exc oe' vs' ((oth e (Ne.symm nTe)).trans q1) q2
      exact ⟨vs2, T2, oT2, ts2, z1, z2, Nat.le_trans (Nat.le_of_eq (Heap.size_after_update ..).symm) z3, z⟩
/-- the exception lands: its last entry bears no frame's mark -/
theorem flightX {h : Heap} {l : List Env} {e : Addr} {old : Option Addr} {fl : Value} {oe : Obj} {vs : Array Value} {Q : Unit → Shared → Prop} (he : h.get? e = some oe) (hd : oe.data = .fields vs) (n : Noted l e old fl h s.heap)
    (go : ∀ h', Noted l e old .none h h' → Q () { s with heap := h' }) : wpAny M A (setFlight (.ref e) none) Q E s := by
  obtain ⟨vs', T, oT, ts, z1, z2, z3, z4, z5, z6, z7⟩ := n.exc oe vs he hd
  have hz : 3 < ts.size := (Array.getElem?_eq_some_iff.mp z7).1
  unfold setFlight
  refine wpAny_bind (wpAny_field z1 rfl z2 ?_)
  rw [if_pos (show (Value.ref T != Value.none) = true by simp)]
  refine wpAny_setField z5 z6 hz (go _ ?_)
  have oth : ∀ b, b ≠ T → (s.heap.update T (Obj.mapFields (·.setIfInBounds 3 ((none : Option Addr).elim Value.none fun f => rawInt f)))).get? b = s.heap.get? b := fun b hb => Heap.get?_update_other _ _ (Ne.symm hb)
  have ne : ∀ b o, h.get? b = some o → b ≠ T := fun b o q => Nat.ne_of_lt (Nat.lt_of_lt_of_le (Heap.lt_size q) z3)
  refine ⟨fun b o hb ho hn q => (oth b (ne b o q)).trans (n.keep b o hb ho hn q), fun b o hb ho q => ?_, fun b o q => ?_, fun oe' vs2 q1 q2 => ?_⟩
  · obtain ⟨sl, z⟩ := n.slot b o hb ho q
    exact ⟨sl, (oth b (ne b o q)).trans z⟩
  · obtain ⟨o', z⟩ := n.there b o q
    exact ⟨o', (oth b (ne b o q)).trans z⟩
  · rw [he] at q1
    cases q1
    rw [hd] at q2
    cases q2
    exact ⟨vs', T, _, _, (oth e (Ne.symm z4)).trans z1, z2, z3, z4, Heap.get?_update_self _ z5 (Obj.isFreed_of_fields (Obj.data_mapFields z6 _)), Obj.data_mapFields z6 _, by simp [hz]⟩
end

/-! ### how it lies behind a call -/
structure Flown (h₀ h : Heap) (H : Hp) (a C d : Addr) : Prop where
  new : h₀.objs.size ≤ a
  free : H a = none
  at_ : ∃ vs sl T oT ts, h.get? a = some ⟨.ref C, some d, .fields vs, sl⟩ ∧ vs[1]? = some (.ref T) ∧ T ≠ a ∧ h₀.objs.size ≤ T ∧ H T = none ∧ h.get? T = some oT ∧ oT.data = .fields ts ∧ ts[3]? = some .none
/-- an own exception that was raised, its attributes fs, leaves a def -/
def CX1 (P : Program) (w : World) : CXT := fun outer H s E e s' => ∃ a C d fs H', e = .ref a ∧ s'.os = s.os ∧ AllBare s'.gens ∧ Un (frs outer) [] H H' s.heap s'.heap ∧ HOk P w H' s'.heap ∧ Flown s.heap s'.heap H' a C d ∧
  H' d = some (XDic d fs) ∧ E (.ref C) (some d) H'
theorem HOk.noted {P : Program} {w : World} {H : Hp} {h h' : Heap} {l : List Env} {a : Addr} {old : Option Addr} {fl : Value} (x : HOk P w H h) (n : Noted l a old fl h h') (ha : H a = none) (ho : ∀ T, old = some T → H T = none) (hl : ∀ b ∈ frs l, H b = none) : HOk P w H h' := fun b o e => by
  have k : ∀ c u, H c ≠ none → h.get? c = some u → h'.get? c = some u := fun c u q z => n.keep c u (fun r => q (by rw [r]; exact ha)) (fun r => q (ho c r.symm)) (fun r => q (hl c r)) z
  refine (x b o e).stay (fun c u hc q => k c u ?_ q) (fun _ q => q) fun _ _ q => q
  rcases hc with r | r
  · rw [r, e]
    simp
  · rw [r]
    simp
theorem Un.noted {fs' : List Addr} {H₀ H : Hp} {h₀ h h' : Heap} {l : List Env} {a : Addr} {old : Option Addr} {fl : Value} (u : Un fs' [] H₀ H h₀ h) (n : Noted l a old fl h h') (ha : h₀.get? a = none) (ho : ∀ T, old = some T → h₀.get? T = none)
    (hl : ∀ b ∈ frs l, b ∈ fs' ∨ h₀.get? b = none) : Un fs' [] H₀ H h₀ h' := by
  have na : ∀ b o, h₀.get? b = some o → b ≠ a := fun b o q r => by
    rw [r, ha] at q
    cases q
  have no : ∀ b o, h₀.get? b = some o → some b ≠ old := fun b o q r => by
    rw [ho b r.symm] at q
    cases q
  refine ⟨fun b o q z hb hx => n.keep b o (na b o q) (no b o q) (fun r => ?_) (u.keep b o q z hb hx), fun b o q z hb hx => ?_, u.free, fun b o q hx => ?_, u.tups, u.frzs, u.tbls⟩
  · rcases hl b r with r | r
    · exact hb r
    · rw [q] at r
      cases r
  · obtain ⟨sl, e⟩ := u.slot b o q z hb hx
    obtain ⟨sl', e'⟩ := n.slot b _ (na b o q) (no b o q) e
    exact ⟨sl', e'⟩
  · obtain ⟨o', e⟩ := u.there b o q hx
    exact n.there b o' e
theorem Flown.noted {h₀ h h' : Heap} {H : Hp} {P : Program} {w : World} {l : List Env} {a C d : Addr} {old : Option Addr} {vs : Array Value} {sl : Array (Option Value)} (hok : HOk P w H h) (sz : h₀.objs.size ≤ h.objs.size) (n : Noted l a old .none h h')
    (e : h.get? a = some ⟨.ref C, some d, .fields vs, sl⟩) (ha : h₀.objs.size ≤ a) (hf : H a = none) : Flown h₀ h' H a C d := by
  obtain ⟨vs', T, oT, ts, z1, z2, z3, z4, z5, z6, z7⟩ := n.exc _ vs e rfl
  exact ⟨ha, hf, vs', sl, T, oT, ts, z1, z2, z4, Nat.le_trans sz z3, hok.fresh z3, z5, z6, z7⟩
end L2

set_option Elab.async false
set_option linter.all false
set_option maxRecDepth 100000
namespace L2
open PySem PySem.Spec PyProof.Rows
open PySem.W (InstAt Looks)

theorem HOk.del {P : Program} {w : World} {H : Hp} {h : Heap} {a : Addr} {φ : Heap → Prop} (x : HOk P w H h) (e : H a = some (.ext φ)) : HOk P w (del H a) h := fun b o q => by
  have hb : b ≠ a := fun r => by
    rw [r, del_same] at q
    cases q
  rw [del_ne hb] at q
  refine (x b o q).stay (fun _ _ _ z => z) (fun c z => ?_) fun c xs z => ?_
  · rw [del_ne (fun r => by rw [r, e] at z; cases z)]
    exact z
  · rw [del_ne (fun r => by rw [r, e] at z; cases z)]
    exact z
theorem Un.del {fs ex : List Addr} {H₀ H : Hp} {h₀ h : Heap} {a : Addr} {φ : Heap → Prop} (u : Un fs ex H₀ H h₀ h) (e : H a = some (.ext φ)) : Un fs ex H₀ (del H a) h₀ h := by
  refine ⟨u.keep, u.slot, fun b o q z hx => ?_, u.there, fun b xs q => ?_, fun b o xs q => ?_, fun b ps q => ?_⟩
  · by_cases hb : b = a
    · rw [hb, del_same]
    · rw [del_ne hb]
      exact u.free b o q z hx
  · have z := u.tups b xs q
    rw [del_ne (fun r => by rw [r, e] at z; cases z)]
    exact z
  · have z := u.frzs b o xs q
    rw [del_ne (fun r => by rw [r, e] at z; cases z)]
    exact z
  · obtain ⟨m, z⟩ := u.tbls b ps q
    rw [del_ne (fun r => by rw [r, e] at z; cases z)]
    exact ⟨m, z⟩
theorem del_none {H : Hp} {a b : Addr} (h : H b = none) : del H a b = none := by
  by_cases hb : b = a
  · rw [hb, del_same]
  · rw [del_ne hb]
    exact h
theorem Inv.del {X : Cx} {pins : List (Addr × Obj)} {σ : St} {H : Hp} {s : Shared} {a : Addr} {φ : Heap → Prop} (I : Inv X pins σ H s) (e : H a = some (.ext φ)) : Inv X pins σ (L2.del H a) s :=
  ⟨I.ok, I.os, I.bare, I.base.del e, I.loc, I.cell, del_none I.free, fun x c q => del_none (I.freeC x c q), fun p hp => let ⟨h1, h2, h3⟩ := I.pin p hp; ⟨h1, del_none h2, h3⟩, I.hok.del e, I.len⟩

section
variable {P : Program} {w : World} {K : PySem.W.Frag} {mg : Str → Option Value} {base : Heap} {N : List Str} {qual : Str} {scope : Scope} {f : Addr} {cd : Value} {A : Around} {outer : List Env} {s₀ : Shared} {H₀ : Hp} {E : XK}
/-- an exception that stands so leaves the body -/
theorem xe_leaves {pins : List (Addr × Obj)} {σ : St} {H : Hp} {s : Shared} {a C d : Addr} {vs : Array Value} {sl : Array (Option Value)} {old : Option Addr} {fs : List (Str × V)} (I : Inv (cxOf (CX1 P w) P w K mg base N qual scope f cd A outer s₀ H₀ E) pins σ H s)
    (ha : s₀.heap.objs.size ≤ a) (hat : s.heap.get? a = some ⟨.ref C, some d, .fields vs, sl⟩) (la : LastX s.heap a vs old) (ho : ∀ T, old = some T → s₀.heap.objs.size ≤ T ∧ H T = none) (hf : H a = none) (hd : H d = some (XDic d fs)) (q : E (.ref C) (some d) H) :
    (cxOf (CX1 P w) P w K mg base N qual scope f cd A outer s₀ H₀ E).xe (.ref a) s := by
  have b1 : Un (frs outer) [] H₀ H s₀.heap s.heap := I.base
  show wpAny _ _ (leaving _ (.ref a)) _ _ s
  unfold leaving
  refine wpAny_bind (noteX (s := s) I.ok.frames I.stack rfl hat rfl la fun h1 n1 => ?_)
  refine flightX (s := { s with heap := h1 }) (h := s.heap) hat rfl n1 fun h2 n2 => ?_
  refine ⟨a, C, d, fs, H, rfl, I.os, I.bare, ?_, ?_, ?_, hd, q⟩
  · refine b1.noted n2 (Heap.get?_none_of_le ha) (fun T z => Heap.get?_none_of_le (ho T z).1) fun b hb => ?_
    rcases List.mem_cons.mp (I.stkSub b hb) with e | hb
    · refine .inr ?_
      rw [e]
      exact Heap.get?_none_of_le (Nat.le_refl _)
    · exact .inl hb
  · exact I.hok.noted n2 hf (fun T z => (ho T z).2) fun b hb => I.stkFree b hb
  · exact Flown.noted I.hok I.sz n2 hat ha hf
theorem raises_cx : Raises (cxOf (CX1 P w) P w K mg base N qual scope f cd A outer s₀ H₀ E) E := fun pins σ H s C a dx fs I hs h1 h2 q => by
  obtain ⟨⟨t, hat⟩, _, _⟩ := (show ObjOk P w H s.heap a (XNew C a (some dx)) from I.hok a _ h1)
  have nd : dx ≠ a := fun z => by
    obtain ⟨_, mA, ⟨o, es, ep, ho, hd, _⟩, _⟩ := (show ObjOk P w H s.heap dx (XDic dx fs) from I.hok dx _ h2).1
    rw [z, hat] at ho
    cases ho
    cases hd
  exact xe_leaves (old := none) (I.del h1) hs hat (.inl ⟨rfl, rfl⟩) (fun T z => nomatch z) del_same (by rw [del_ne nd]; exact h2) q
theorem passes_cx : Passes (CX1 P w) (cxOf (CX1 P w) P w K mg base N qual scope f cd A outer s₀ H₀ E) E := fun pins σ H s e s' I z => by
  obtain ⟨a, C, d, fs, H', rfl, os, bare, un, hok, ⟨new, free, vs, sl, T, oT, ts, hat, h1, nT, nT0, fT, hT, dT, h3⟩, hd, q⟩ := z
  have I' := I.call' (ch := []) os un hok bare (fun b z => absurd z (by simp))
  exact xe_leaves (old := some T) I' (Nat.le_trans I.sz new) hat (.inr ⟨T, oT, ts, rfl, h1, nT, hT, dT, h3⟩) (fun T' z => by cases z; exact ⟨Nat.le_trans I.sz nT0, fT⟩) free hd q
theorem own_cx : PassesOwn (model P w) (cxOf (CX1 P w) P w K mg base N qual scope f cd A outer s₀ H₀ E).A (cxOf (CX1 P w) P w K mg base N qual scope f cd A outer s₀ H₀ E).env (cxOf (CX1 P w) P w K mg base N qual scope f cd A outer s₀ H₀ E).xe := PassesOwn.leaving
/-- a def that may raise: its body as a term of rules, and the reading of that term -/
theorem Fun.okX {x : Str} {st : Stmt} {fd : FuncData} {ps : List Str} {k : Nat} {sp : Sp} (F : Fun K x qual st f fd) (S : FnScope N ps (defScope st)) (len : ∀ vs H Q E, sp vs H Q E → vs.length = ps.length)
    (hbody : ∀ (cdv : Value) (A : Around) (outer : List Env) (s : Shared) (H : Hp) (vs : List V) (Q : VK) (E : XK), Room k (A.deeper (envOfC qual (defScope st) s.heap.objs.size f cdv)) → sp vs H Q E →
      ∃ t, PSs (cxOf (CX1 P w) P w K mg base N qual (defScope st) f cdv A outer s H E) (defBody st) t ∧ t { nx := fun _ H' => Q .non H', rt := Q } (start N vs) H) : FnOk P w K mg base (CX1 P w) (k + 1) f fd ps sp := by
  obtain ⟨oc, od, kV, doc, pm, an, cdv, ct, osl, rfl, lk, hcd⟩ := F.ex
  exact fn_of lk hcd S len fun A outer s H vs Q E hr hsp => hbody cdv A outer s H vs Q E hr hsp
end
end L2

set_option Elab.async false
set_option linter.all false
set_option maxRecDepth 100000
namespace L2
open PySem PySem.Spec PyProof.Rows
open PySem.W (InstAt Looks)

/-! ### try .. except C as x: a suite that gives back -/
/-- the same body with other pins that every state bears, another wish about exceptions -/
abbrev Cx.pinned (X : Cx) (pn : List (Addr × Obj)) (E : Value → Shared → Prop) : Cx := { X with pn := pn, xe := E }
/-- within the except suite that handles the exception at a -/
abbrev Cx.hand (X : Cx) (a : Addr) : Cx := { X with A := X.A.mark (some (.ref a)), calm := false, xe := fun _ _ => False }
section
variable {X : Cx} {pins : List (Addr × Obj)} {σ : St} {H : Hp} {s : Shared} {E : Value → Shared → Prop} {a : Addr}
theorem Inv.pin_in (I : Inv X pins σ H s) : Inv (X.pinned (X.pn ++ pins) E) [] σ H s :=
  ⟨⟨I.ok.mod, I.ok.kind, I.ok.glob, I.ok.blt, I.ok.above, I.ok.inj, I.ok.has, I.ok.cab, I.ok.hd, I.ok.frames, I.ok.stk, I.ok.exf, I.ok.bs, I.ok.bsz, I.ok.noex, I.ok.exfs, I.ok.funs, I.ok.frf⟩, I.os, I.bare, I.base, I.loc, I.cell, I.free, I.freeC, fun p hp => I.pin p (by simpa using hp), I.hok, I.len⟩
theorem Inv.pin_out {pins' : List (Addr × Obj)} (I : Inv (X.pinned (X.pn ++ pins) E) pins' σ H s) : Inv X pins σ H s :=
  ⟨⟨I.ok.mod, I.ok.kind, I.ok.glob, I.ok.blt, I.ok.above, I.ok.inj, I.ok.has, I.ok.cab, I.ok.hd, I.ok.frames, I.ok.stk, I.ok.exf, I.ok.bs, I.ok.bsz, I.ok.noex, I.ok.exfs, I.ok.funs, I.ok.frf⟩, I.os, I.bare, I.base, I.loc, I.cell, I.free, I.freeC, fun p hp => I.pin p (List.mem_append_left _ hp), I.hok, I.len⟩
theorem Inv.hand_in (I : Inv X pins σ H s) (a : Addr) : Inv (X.hand a) pins σ H s :=
  ⟨⟨I.ok.mod, I.ok.kind, I.ok.glob, I.ok.blt, I.ok.above, I.ok.inj, I.ok.has, I.ok.cab, fun z => Bool.noConfusion z, I.ok.frames, I.ok.stk, I.ok.exf, I.ok.bs, I.ok.bsz, I.ok.noex, I.ok.exfs, I.ok.funs, I.ok.frf⟩, I.os, I.bare, I.base, I.loc, I.cell, I.free, I.freeC, I.pin, I.hok, I.len⟩
theorem Inv.hand_out (ok : X.Ok) (I : Inv (X.hand a) pins σ H s) : Inv X pins σ H s := ⟨ok, I.os, I.bare, I.base, I.loc, I.cell, I.free, I.freeC, I.pin, I.hok, I.len⟩
theorem SP.pin_out {D : Ends} {f : Flow} (h : SP (X.pinned (X.pn ++ pins) E) [] D f s) : SP X pins D f s := by
  cases f with
  | next => obtain ⟨σ', H', I, q⟩ := h; exact ⟨σ', H', I.pin_out, q⟩
  | brk => obtain ⟨σ', H', I, q⟩ := h; exact ⟨σ', H', I.pin_out, q⟩
  | cont => obtain ⟨σ', H', I, q⟩ := h; exact ⟨σ', H', I.pin_out, q⟩
  | ret u => obtain ⟨v, σ', H', I, r, q⟩ := h; exact ⟨v, σ', H', I.pin_out, r, q⟩
/-- an exception of ours was noted -/
theorem Inv.noted {old : Option Addr} {fl : Value} {h' : Heap} {t' : Nat} (I : Inv X pins σ H s) (n : Noted X.stack a old fl s.heap h') (ha : H a = none) (ho : ∀ T, old = some T → H T = none)
    (hx : ∀ b, b = a ∨ some b = old → X.s_0.heap.objs.size ≤ b ∧ b ≠ X.env.locals ∧ (∀ x c, X.env.cells.lookup x = some c → c ≠ b) ∧ ∀ p ∈ X.pn ++ pins, p.1 ≠ b) : Inv X pins σ H { s with heap := h', toks := t' } := by
  have mem : ∀ b, b ∈ a :: old.toList → b = a ∨ some b = old := fun b hb => by
    rcases List.mem_cons.mp hb with e | e
    · exact .inl e
    · cases old with
      | none => simp at e
      | some T => exact .inr (by simpa using e)
  have nch : ∀ b, b ∉ a :: old.toList → b ≠ a ∧ some b ≠ old := fun b hb => ⟨fun z => hb (by simp [z]), fun z => hb (by rw [← z]; simp)⟩
  refine I.step (g' := s.gens) (d' := s.drawn) (ch := a :: old.toList) (fun b hb => let ⟨h1, h2, h3, h4⟩ := hx b (mem b hb); ⟨.inr h1, h2, h3, h4⟩) (fun b o hL hb hc q _ => n.keep b o (nch b hc).1 (nch b hc).2 (fun z => ?_) q)
    (fun b o _ _ hc q _ => n.slot b o (nch b hc).1 (nch b hc).2 q) (fun b o _ _ z => z) (fun b o _ q => n.there b o q) (fun _ _ z => z) (fun _ _ _ z => z) (fun b ps z => ⟨#[], by rw [z]; simp⟩) (fun m hm => ?_)
    (I.hok.noted n ha ho fun b hb => I.stkFree b hb) I.bare
  · rcases List.mem_cons.mp (I.stkSub b z) with e | e
    · exact hL e
    · exact hb e
  · obtain ⟨o, es, ep, ho', r⟩ := hm
    have nl : X.env.locals ≠ a ∧ some X.env.locals ≠ old := ⟨fun z => (hx _ (.inl z)).2.1 rfl, fun z => (hx _ (.inr z)).2.1 rfl⟩
    obtain ⟨sl, e⟩ := n.slot _ o nl.1 nl.2 ho'
    exact ⟨_, es, ep, e, r⟩
/-- all names of the frame are forgotten, one was taken out -/
theorem Inv.unbound {h' : Heap} {m' : Str → Option Value} {t' : Nat} (I : Inv X pins σ H s) (hn : h'.Ns X.env.locals m') (sb : Heap.SameBut X.env.locals s.heap h') : Inv X pins (List.replicate X.N.length none) H { s with heap := h', toks := t' } := by
  have old : ∀ b o, X.s_0.heap.get? b = some o → h'.get? b = s.heap.get? b := fun b o q => sb.2 b (Nat.ne_of_lt (Nat.lt_of_lt_of_le (Heap.lt_size q) I.ok.above))
  refine ⟨I.ok, I.os, I.bare, ⟨fun b o q z hb hx => (old b o q).trans (I.base.keep b o q z hb hx), fun b o q z hb hx => ?_, I.base.free, fun b o q hx => ?_, I.base.tups, I.base.frzs, I.base.tbls⟩, ⟨m', hn, fun i x v _ e2 _ => ?_⟩, fun x c e => ?_, I.free, I.freeC, fun p hp => ?_, fun b ob e => ?_, by simp⟩
  · obtain ⟨sl, e⟩ := I.base.slot b o q z hb hx
    exact ⟨sl, (old b o q).trans e⟩
  · obtain ⟨o', e⟩ := I.base.there b o q hx
    exact ⟨o', (old b o q).trans e⟩
  · rw [List.getElem?_replicate] at e2
    split at e2 <;> cases e2
  · obtain ⟨v, z⟩ := I.cell x c e
    exact ⟨v, z.sameBut sb (I.cne x c e)⟩
  · obtain ⟨h1, h2, h3, h4⟩ := I.pin p hp
    exact ⟨(sb.2 p.1 h3).trans h1, h2, h3, h4⟩
  · refine (I.hok b ob e).stay (fun c u hc q => (sb.2 c fun z => ?_).trans q) (fun _ q => q) fun _ _ q => q
    rcases hc with r | r
    · rw [← r, z, I.free] at e
      cases e
    · rw [z, I.free] at r
      cases r
/-- an untracked object of ours is tracked -/
theorem Inv.track {o : HO} (I : Inv X pins σ H s) (hn : H a = none) (hx : X.s_0.heap.objs.size ≤ a ∧ a ≠ X.env.locals ∧ (∀ x c, X.env.cells.lookup x = some c → c ≠ a) ∧ ∀ p ∈ X.pn ++ pins, p.1 ≠ a) (ok : ObjOk X.prog X.w (upd H a o) s.heap a o) : Inv X pins σ (upd H a o) s := by
  have na : ∀ b u, H b = some u → b ≠ a := fun b u q => ne_of_none q hn
  refine ⟨I.ok, I.os, I.bare, ⟨I.base.keep, I.base.slot, fun b u q z hb => ?_, I.base.there, fun b xs q => ?_, fun b u xs q => ?_, fun b ps q => ?_⟩, I.loc, I.cell, ?_, fun x c e => ?_, fun p hp => ?_, fun b u q => ?_, I.len⟩
  · rw [upd_ne (Nat.ne_of_lt (Nat.lt_of_lt_of_le (Heap.lt_size q) hx.1))]
    exact I.base.free b u q z hb
  · have z := I.base.tups b xs q
    rw [upd_ne (na _ _ z)]
    exact z
  · have z := I.base.frzs b u xs q
    rw [upd_ne (na _ _ z)]
    exact z
  · obtain ⟨m, z⟩ := I.base.tbls b ps q
    exact ⟨m, by rw [upd_ne (na _ _ z)]; exact z⟩
  · rw [upd_ne (Ne.symm hx.2.1)]
    exact I.free
  · rw [upd_ne (hx.2.2.1 x c e)]
    exact I.freeC x c e
  · obtain ⟨h1, h2, h3⟩ := I.pin p hp
    exact ⟨h1, by rw [upd_ne (hx.2.2.2 p hp)]; exact h2, h3⟩
  · by_cases hb : b = a
    · subst hb
      rw [upd_same] at q
      cases q
      exact ok
    · rw [upd_ne hb] at q
      exact (I.hok b u q).stay (fun _ _ _ z => z) (fun c z => by rw [upd_ne (na _ _ z)]; exact z) fun c xs z => by rw [upd_ne (na _ _ z)]; exact z
end

/-- what is wanted of the exception: its class, its attributes; the suite ts begins with its name in slot i -/
def handE (X : Cx) (C : Addr) (i : Nat) (ts : TS) (D : Ends) : XK := fun cls d H => cls = .ref C ∧ ∀ a dx, d = some dx → H a = none → ts { nx := fun _ _ => False, rt := D.rt } ((List.replicate X.N.length none).set i (some (.ref a))) (upd H a (XGot C a dx))
section
variable {X : Cx} {C f : Addr} {i : Nat} {cx nm : Str} {np hpos pos : Pos} {body suite : List Stmt} {b₀ : Stmt} {ts : TS} {tb : Ends → TS}
/-- tb D: the body's reading, where an exception meets handE .. D -/
theorem ps_try (c : XCls X.K C f) (hg : Gl X cx) (hm : X.mg cx = some (.ref C)) (hN : X.N.Nodup) (hi : X.N[i]? = some nm) (hk : X.env.scope.names.lookup nm = some .local) (hstk : X.stack = X.env :: X.outer) (hfr : X.env.frame = some X.env.locals)
    (hb : ∀ (pn : List (Addr × Obj)) (E : Value → Shared → Prop) (D : Ends), Passes (CX1 X.prog X.w) (X.pinned pn E) (handE X C i ts D) → PSs (X.pinned pn E) body (tb D)) (hs : ∀ a, PSs (X.hand a) (b₀ :: suite) ts)
    (hdb : (cx == ("__debug__" : Str)) = false := by decide) :
    PS X (.Try body [.ExceptHandler (some (.Name cx np)) (some nm) (b₀ :: suite) hpos] [] [] pos) (fun D σ H => tb D D σ H) := by
  intro pins s σ H D I h
  refine wpAny_Try_except ?_
  refine wpAny_mono (hb (X.pn ++ pins) (fun e s' => ∃ pins' σ' H₁ s₁, Inv (X.pinned (X.pn ++ pins) fun _ _ => False) pins' σ' H₁ s₁ ∧ CX1 X.prog X.w X.stack H₁ s₁ (handE X C i ts D) e s') D (fun pins' σ' H₁ s₁ e s' J z => ⟨pins', σ', H₁, s₁, ?_, z⟩) [] s σ H D I.pin_in h) (fun fl s₁ q => ?_) fun e s' q => ?_
  · exact ⟨⟨J.ok.mod, J.ok.kind, J.ok.glob, J.ok.blt, J.ok.above, J.ok.inj, J.ok.has, J.ok.cab, J.ok.hd, J.ok.frames, J.ok.stk, J.ok.exf, J.ok.bs, J.ok.bsz, J.ok.noex, J.ok.exfs, J.ok.funs, J.ok.frf⟩, J.os, J.bare, J.base, J.loc, J.cell, J.free, J.freeC, J.pin, J.hok, J.len⟩
  · have q' := SP.pin_out q
    cases fl with
    | next => exact wpAny_execs_nil q'
    | brk => exact q'
    | cont => exact q'
    | ret u => exact q'
  · obtain ⟨pins', σ', H₁, s₁, J, a, C', d, fs, H', rfl, os, bare, un, hok, ⟨new, free, vs, sl, T, oT, tv, hat, h1, nT, nT0, fT, hT, dT, h3⟩, hd, hC, q⟩ := q
    cases hC
    have J1 := J.pin_out
    have J2 := J1.call' (ch := []) os un hok bare (fun b z => absurd z (by simp))
    have hx : ∀ b, b = a ∨ some b = some T → X.s_0.heap.objs.size ≤ b ∧ b ≠ X.env.locals ∧ (∀ x c, X.env.cells.lookup x = some c → c ≠ b) ∧ ∀ p ∈ X.pn ++ pins, p.1 ≠ b := fun b hb => by
      have big : s₁.heap.objs.size ≤ b := by
        rcases hb with e | e
        · rw [e]; exact new
        · cases e; exact nT0
      refine ⟨Nat.le_trans J1.sz big, Nat.ne_of_gt (Nat.lt_of_lt_of_le J1.lt big), fun x c e => ?_, fun p hp => Nat.ne_of_lt (Nat.lt_of_lt_of_le (Heap.lt_size (J1.pin p hp).1) big)⟩
      obtain ⟨v, z⟩ := J1.cell x c e
      exact Nat.ne_of_lt (Nat.lt_of_lt_of_le z.lt big)
    have stk := J2.stack
    have frm := J2.ok.frames
    rw [hstk] at stk frm
    refine noteX (s := s') frm stk hfr hat rfl (.inr ⟨T, oT, tv, rfl, h1, nT, hT, dT, h3⟩) fun h2 n2 => ?_
    refine flightX (s := { s' with heap := h2 }) (h := s'.heap) hat rfl n2 fun h3 n3 => ?_
    refine wpAny_handleBy_cons (codeAny_handlers_test ?_) (by intro z; cases z)
    have n3' : Noted X.stack a (some T) Value.none s'.heap h3 := by rw [hstk]; exact n3
    have J3 := J2.noted (t' := s'.toks) n3' free (fun T' z => by cases z; exact fT) hx
    refine ld_glob (J3.hand_in a) hg hm ?_ hdb
    obtain ⟨nm', q', N', bs, sn, sub, ab, col, dd, k0, k1, k2, k3, k5, lk⟩ := c.obj
    obtain ⟨vs2, T2, oT2, tv2, z1, z2, z3, z4, z5, z6, z7⟩ := n3.exc _ vs hat rfl
    refine wpAny_excMatches_sub_self (J3.kIn _ _ lk) z1 rfl PySem.F.excBase_Exception.hasBase ?_
    refine codeAny_handlers_suite_as ?_
    refine flightX (s := { s' with heap := h3 }) (h := s'.heap) hat rfl n3 fun h4 n4 => ?_
    have n4' : Noted X.stack a (some T) Value.none s'.heap h4 := by rw [hstk]; exact n4
    have J4 := J2.noted (t' := s'.toks) n4' free (fun T' z => by cases z; exact fT) hx
    obtain ⟨vs4, T4, oT4, tv4, y1, _⟩ := n4.exc _ vs hat rfl
    have J5 : Inv X pins ((List.replicate X.N.length none)) (upd H' a (XGot C a d)) { s' with heap := h4 } := by
      refine Inv.weak (σ := σ') ?_ (by rw [List.length_replicate]; exact J4.len.symm) fun j v e => ?_
      · exact J4.track free (hx a (.inl rfl)) (xg_ok y1)
      · rw [List.getElem?_replicate] at e
        split at e <;> cases e
    refine store_ok (X := X) J5 hN hi (.inl hk) (v := .ref a) rfl (fun s5 J6 => ?_) (.inr hk)
    refine wpAny_mono (hs a pins s5 _ _ { nx := fun _ _ => False, rt := D.rt } (J6.hand_in a) (q a d rfl free)) (fun fl s6 r => ?_) fun _ _ z => False.elim z
    cases fl with
    | next => obtain ⟨_, _, _, z⟩ := r; exact z.elim
    | brk => obtain ⟨_, _, _, z⟩ := r; exact z.elim
    | cont => obtain ⟨_, _, _, z⟩ := r; exact z.elim
    | ret u =>
      obtain ⟨v, σ7, H7, J7, rv, r⟩ := r
      have J8 := J7.hand_out I.ok
      obtain ⟨m, hm8, _⟩ := id J8.loc
      refine wpAny_nameGoes hk hm8 (by rw [I.ok.kind]; rfl) fun h9 m9 hn9 sb => ?_
      exact ⟨v, _, H7, J8.unbound hn9 sb, rv, r⟩
end
end L2

set_option Elab.async false
set_option linter.all false
set_option maxRecDepth 100000
namespace L2
open PySem PySem.Spec PyProof.Rows

/-! ## own rules: calls of a function that stands in a name, tokens, texts -/
section
variable {X : Cx} {CX : CXT} {k : Nat} {E : XK} {x : Str} {p pos : Pos} {e : Expr} {es : List Expr} {t : TA}
/-- f(..), f a local name -/
def tCallV (X : Cx) (CX : CXT) (k i : Nat) (E : XK) (t : TA) : TE := fun σ H Q => ∃ f fd ps sp, σ[i]? = some (some (.ref f)) ∧ FnOk X.prog X.w X.K X.mg X.base CX k f fd ps sp ∧ Binds X.K fd ps [] ∧ PySem.W.keepIn X.K (.ref f) = true ∧
  t σ H fun vs H1 => sp vs H1 Q E
theorem pe_callv (i : Nat) (hr : Room k X.A) (hx : Passes CX X E) (ha : PA X (e :: es) t) (hN : X.N[i]? = some x := by rfl)
    (hv : Vis X.env.scope x := by first | exact Or.inl rfl | exact Or.inr (Or.inl rfl) | exact Or.inr (Or.inr rfl)) (hd : (x == ("__debug__" : Str)) = false := by decide) (hcd : (x == ("__classdict__" : Str)) = false := by decide)
    (he : starEach (e :: es) X.env = (false, eval e X.env) :: starEach es X.env := by rfl) (hpl : (backTo pos (starEach es X.env)).any (·.1) = false := by rfl) :
    PE X (.Call (.Name x p) (e :: es) [] pos) (tCallV X CX k i E t) := by
  intro pins s σ H Q I h
  obtain ⟨f, fd, ps, sp, h1, F, hb, hk, h2⟩ := h
  refine wpAny_Call_Name_kw (thn (pv (X := X) i hN hv hd hcd pins s σ H (fun v H' => v = .ref f ∧ H' = H) I ⟨_, h1, rfl, rfl⟩) fun u s1 ⟨v, H1, I1, r1, ev, eH⟩ => ?_)
  subst ev eH
  cases r1
  refine PySem.W.callWith_K (h₀ := X.base) I1.ok.mod.kin hk (thn (ha pos pins s1 σ _ _ I1 h2) fun us s2 ⟨vs, H2, I2, r, q⟩ => ⟨I2.kIn, ?_⟩) he hpl
  exact run_fn (dvs := []) F hr hb .nil hx I2 r (by rw [List.append_nil]; exact q)
end
section
variable {X : Cx}
/-- a global by what it stands for -/
theorem pe_g {x : Str} {v : V} {pos : Pos} (h : ∃ u, X.mg x = some u ∧ RelV v u) (hg : Gl X x := by rfl) (hd : (x == ("__debug__" : Str)) = false := by decide) : PE X (.Name x pos) (tC v) := by
  obtain ⟨u, h1, h2⟩ := h
  exact pe_glob hg h1 h2 hd
/-- // of ints that are not huge -/
def CDivB (i j : Int) : Prop := 0 < j ∧ j.natAbs.log2 < 9000
theorem op_fdivB : OpR X (binaryOp .FloorDiv) (rI CDivB fun i j => .int (i / j)) := opI fun i j _ _ _ _ _ hc q => by
  have hj : j ≠ 0 := by have := hc.1; omega
  refine floordiv_int hj ?_ (.inl (PyProof.noPylong_of_log2 hc.2))
  rw [Int.fdiv_eq_ediv_of_nonneg _ (Int.le_of_lt hc.1)]
  exact q
theorem log2_small {n : Nat} (h : n < 2 ^ 200) : n.log2 < 9000 := by
  by_cases h0 : n = 0
  · subst h0; decide
  · exact Nat.lt_trans ((Nat.log2_lt h0).mpr h) (by decide)
theorem op_mul_str : OpR X (binaryOp .Mult) (fun x y H Q => ∃ a n, x = .str a ∧ y = .int n ∧ MulOk a n ∧ Q (.str (Txt.mul a n)) H) := by
  intro pins s σ H x y v u Q I rx ry h
  obtain ⟨a, n, rfl, rfl, hm, h⟩ := h
  obtain ⟨t1, rfl⟩ := rx
  obtain ⟨t2, rfl⟩ := ry
  exact SB.mul hm fun t' k => ⟨.str (Txt.mul a n), H, I.tok _, ⟨_, rfl⟩, h⟩
end

/-! ### tokens: a state whose next token is not 0 -/
def PET (X : Cx) (e : Expr) (t : TE) : Prop :=
  ∀ (pins : List (Addr × Obj)) (s : Shared) (σ : St) (H : Hp) (Q : VK), Inv X pins σ H s → 1 ≤ s.toks → t σ H Q → wpAny (model X.prog X.w) X.A (eval e X.env) (EP X pins σ Q) X.xe s
def PEp (X : Cx) (e : Expr) (t : TE) : Prop :=
  ∀ (pins : List (Addr × Obj)) (s : Shared) (σ : St) (H : Hp) (Q : VK), Inv X pins σ H s → t σ H Q → wpAny (model X.prog X.w) X.A (eval e X.env) (fun u s' => 1 ≤ s'.toks ∧ EP X pins σ Q u s') X.xe s
def PTT (X : Cx) (e : Expr) (t : TT) : Prop :=
  ∀ (pins : List (Addr × Obj)) (s : Shared) (σ : St) (H : Hp) (Q : Bool → Hp → Prop), Inv X pins σ H s → 1 ≤ s.toks → t σ H Q → wpAny (model X.prog X.w) X.A (isTrue e X.env (eval e X.env)) (TP X pins σ Q) X.xe s
def PTp (X : Cx) (e : Expr) (t : TT) : Prop :=
  ∀ (pins : List (Addr × Obj)) (s : Shared) (σ : St) (H : Hp) (Q : Bool → Hp → Prop), Inv X pins σ H s → t σ H Q → wpAny (model X.prog X.w) X.A (isTrue e X.env (eval e X.env)) (fun u s' => 1 ≤ s'.toks ∧ TP X pins σ Q u s') X.xe s
def PSsT (X : Cx) (st : List Stmt) (t : TS) : Prop :=
  ∀ (pins : List (Addr × Obj)) (s : Shared) (σ : St) (H : Hp) (D : Ends), Inv X pins σ H s → 1 ≤ s.toks → t D σ H → wpAny (model X.prog X.w) X.A (execs st X.env) (SP X pins D) X.xe s
def PST (X : Cx) (st : Stmt) (t : TS) : Prop :=
  ∀ (pins : List (Addr × Obj)) (s : Shared) (σ : St) (H : Hp) (D : Ends), Inv X pins σ H s → 1 ≤ s.toks → t D σ H → wpAny (model X.prog X.w) X.A (exec st X.env) (SP X pins D) X.xe s
def PIT (X : Cx) (tg iter : Expr) (wi : TI) : Prop :=
  ∀ (pins : List (Addr × Obj)) (s : Shared) (σ : St) (H : Hp) (R : It → Hp → Prop), Inv X pins σ H s → 1 ≤ s.toks → wi σ H R →
    wpAny (model X.prog X.w) X.A (eval iter X.env) (fun v s1 => wpAny (model X.prog X.w) X.A (pyIter v) (PIE X pins σ tg R) X.xe s1) X.xe s
structure FnOkT (P : Program) (w : World) (K : PySem.W.Frag) (mg : Str → Option Value) (base : Heap) (CX : CXT) (k : Nat) (f : Addr) (fd : FuncData) (ps : List Str) (sp : Sp) : Prop where
  len : ∀ vs H Q E, sp vs H Q E → vs.length = ps.length
  run : ∀ (A : Around) (outer : List Env) (s : Shared) (H : Hp) (args : Args) (us : List Value) (vs : List V) (Q : VK) (E : XK), 1 ≤ s.toks → Room k A → Env0 P w K mg base A outer s H → BindsTo s fd args (ps.zip us) → Vals vs us → sp vs H Q E →
    codeAny (model P w) A (.call (.ref f) args) (CR CX outer P w H s Q E) s
section
variable {X : Cx} {CX : CXT} {k : Nat} {E : XK} {x : Str} {p pos apos : Pos} {a b c e o : Expr} {es : List Expr} {ta tb te to : TE} {t : TA} {tA tB' tc : TT} {st : Stmt} {rest : List Stmt} {tS u : TS} {f : Addr} {fd : FuncData} {ps : List Str} {sp : Sp}
theorem pt_cmpP {op : CmpOp} {r : R2} (ho : OpR X (compareOp op) r) (ha : PE X a ta) (hb : PEp X b tb) (hm : behindInMarks op b = false) : PTp X (.Compare a [op] [b] pos) (tTest (tOp r ta tb)) := by
  intro pins s σ H Q I h
  refine wpAny_isTrue_Compare1 (thn (ha pins s σ H _ I h) fun v s1 ⟨x, H1, I1, r1, q1⟩ => thn (hb pins s1 σ H1 _ I1 q1) fun u s2 ⟨tk, y, H2, I2, r2, q2⟩ =>
    thn (wpAny_toks_of tk (ho pins s2 σ H2 x y v u _ I2 r1 r2 q2) |> fun z => wpAny_mono z (fun _ _ q => q) fun _ _ q => q.2) fun c s3 ⟨tk3, z, H3, I3, r3, k, e, q3⟩ => ?_) hm
  subst e
  cases r3
  exact wpAny_truthy_bool ⟨tk3, H3, I3, q3⟩
theorem pe_lenP (hg : Gl X "len") (hm : X.mg "len" = none) (ha : PE X a ta) (hs : starEach [a] X.env = [(false, eval a X.env)] := by rfl) :
    PEp X (.Call (.Name "len" p) [a] [] pos) (fun σ H Q => ta σ H fun x H1 => ∃ q ys, x = .ref q ∧ SqL X.K H1 q ys ∧ Q (.int ys.length) H1) := by
  intro pins s σ H Q I h
  refine wpAny_Call_Name_kw (ld_blt I hg hm PySem.boot_len ?_)
  have he : starEach (a :: []) X.env = (false, eval a X.env) :: starEach [] X.env := by rw [hs]; rfl
  refine PyProof.Rows.callWith_builtin1 (thn (pa_cons ha pa_nil he pos pins s σ H (fun vs H1 => ∃ x, vs = [x] ∧ ∃ q ys, x = .ref q ∧ SqL X.K H1 q ys ∧ Q (.int ys.length) H1) I ?_) fun us s1 ⟨vs, H1, I1, r1, x, ex, q, ys, exq, hq, qq⟩ => ?_) he rfl
  · have h' : ta σ H fun x H1 => ∃ q ys, x = V.ref q ∧ SqL X.K H1 q ys ∧ Q (.int ys.length) H1 := h
    show ta σ H fun x H1 => ∃ x_1, [x] = [x_1] ∧ _
    have e : (fun (x : V) (H1 : Hp) => ∃ x_1, [x] = [x_1] ∧ ∃ q ys, x_1 = V.ref q ∧ SqL X.K H1 q ys ∧ Q (.int ys.length) H1) = fun x H1 => ∃ q ys, x = V.ref q ∧ SqL X.K H1 q ys ∧ Q (.int ys.length) H1 := by
      funext x H1
      exact propext ⟨fun ⟨y, e, z⟩ => by cases e; exact z, fun z => ⟨x, rfl, z⟩⟩
    rw [e]
    exact h'
  · subst ex exq
    obtain ⟨u, rfl, rx⟩ := vals1 r1
    cases rx
    have hn := line63
    obtain ⟨its, r', pl, hz⟩ := I1.list hq
    have hlen := r'.length
    exact Calls.call_len_list pl.isList (by simp only [List.size_toArray] <;> omega) ⟨by show 1 ≤ _ ; simp; try omega, .int ys.length, H1, I1.tok _, ⟨_, by rw [List.size_toArray, hlen]⟩, qq⟩
theorem pw_orP (ha : PTp X a tA) (hb : ∀ whole (pins : List (Addr × Obj)) (s : Shared) (σ : St) (H : Hp) (Q : Bool → Hp → Prop), Inv X pins σ H s → 1 ≤ s.toks → tB' σ H Q → wpAny (model X.prog X.w) X.A (isTrue (.BoolOp .Or [b] pos) X.env whole) (TP X pins σ Q) X.xe s) : PT X (.BoolOp .Or [a, b] pos) (tOr tA tB') := by
  intro pins s σ H Q I h
  refine isTrue_or (thn (ha pins s σ H _ I h) fun c s1 ⟨tk, H1, I1, q1⟩ => ?_)
  cases c with
  | true => exact ⟨H1, I1, q1⟩
  | false => exact hb _ pins s1 σ H1 Q I1 tk q1
theorem pw_or1T (ha : PTT X a tA) : ∀ whole (pins : List (Addr × Obj)) (s : Shared) (σ : St) (H : Hp) (Q : Bool → Hp → Prop), Inv X pins σ H s → 1 ≤ s.toks → tA σ H Q → wpAny (model X.prog X.w) X.A (isTrue (.BoolOp .Or [a] pos) X.env whole) (TP X pins σ Q) X.xe s := by
  intro wh pins s σ H Q I tk h
  refine isTrue_or (thn (ha pins s σ H Q I tk h) fun c s1 e => ?_)
  cases c with
  | false => exact isTrue_or_nil e
  | true => exact e
theorem pt_notT (ha : PTT X a tA) : PTT X (.UnaryOp .Not a pos) (tNot tA) := by
  intro pins s σ H Q I tk h
  exact isTrue_not (ha pins s σ H (fun c H1 => Q (!c) H1) I tk h)
theorem pt_valT {e : Expr} {t : TE} (h : PET X e t) (he : ∀ whole, isTrue e X.env whole = (do let v ← whole; standAt e.pos; holding [v] (truthy v)) := by intro _; rfl) : PTT X e (tB t) := by
  intro pins s σ H Q I tk hw
  refine isTrue_plain (thn (h pins s σ H _ I tk hw) fun v s1 ⟨x, H1, I1, r1, q1⟩ => ?_) (he _)
  obtain ⟨d, rfl, q⟩ := q1
  cases r1
  exact wpAny_truthy_bool ⟨H1, I1, q⟩
theorem run_fnT {pins : List (Addr × Obj)} {σ : St} {H : Hp} {s : Shared} {Q : VK} {us : List Value} {vs : List V} (F : FnOkT X.prog X.w X.K X.mg X.base CX k f fd ps sp) (hr : Room k X.A) (hb : Binds X.K fd ps []) (hx : Passes CX X E)
    (I : Inv X pins σ H s) (tk : 1 ≤ s.toks) (r : Vals vs us) (h : sp vs H Q E) : wpAny (model X.prog X.w) X.A (call (.ref f) us) (EP X pins σ Q) X.xe s := by
  have hl : (us ++ []).length = ps.length := by rw [List.append_nil, ← r.length]; exact F.len _ _ _ _ h
  have hb2 := hb s us I.kIn hl
  rw [List.append_nil] at hb2
  refine wpAny_call (codeAny_mono (F.run X.A X.stack s H ⟨us, []⟩ us vs Q E tk hr I.env0 hb2 r h) fun r s' hq => ?_)
  cases r with
  | error e => exact hx pins σ H s e s' I hq
  | ok fl =>
    cases fl with
    | ret u => exact I.after hq
    | next => exact False.elim hq
    | brk => exact False.elim hq
    | cont => exact False.elim hq
theorem pe_callT (F : FnOkT X.prog X.w X.K X.mg X.base CX k f fd ps sp) (hr : Room k X.A) (hg : Gl X x) (hm : X.mg x = some (.ref f)) (hk : PySem.W.keepIn X.K (.ref f) = true) (hb : Binds X.K fd ps []) (hx : Passes CX X E)
    (ha : PA X (e :: es) t) (hdb : (x == ("__debug__" : Str)) = false := by decide) (he : starEach (e :: es) X.env = (false, eval e X.env) :: starEach es X.env := by rfl) (hpl : (backTo pos (starEach es X.env)).any (·.1) = false := by rfl) :
    PET X (.Call (.Name x p) (e :: es) [] pos) (tCall sp [] E t) := by
  intro pins s σ H Q I tk h
  refine wpAny_Call_Name_kw (ld_glob I hg hm ?_ hdb)
  refine PySem.W.callWith_K (h₀ := X.base) I.ok.mod.kin hk (wpAny_mono (wpAny_toks_of tk (ha pos pins s σ H _ I h)) (fun us s1 ⟨tk1, vs, H1, I1, r, q⟩ => ⟨I1.kIn, ?_⟩) fun _ _ z => z.2) he hpl
  have q' : sp (vs ++ []) H1 Q E := q
  rw [List.append_nil] at q'
  exact run_fnT F hr hb hx I1 tk1 r q'
theorem pss_consT (h1 : PST X st tS) (h2 : PSs X rest u) : PSsT X (st :: rest) (tSeq tS u) := by
  intro pins s σ H D I tk h
  refine wpAny_execs_cons (thn (h1 pins s σ H { D with nx := u D } I tk h) fun f s1 q => ?_)
  cases f with
  | next =>
    obtain ⟨σ', H', I', q⟩ := q
    exact h2 pins s1 σ' H' D I' q
  | ret v => exact q
  | brk => exact q
  | cont => exact q
theorem pi_listT {tg l : Expr} {tl : TE} (hl : PET X l tl) : PIT X tg l (iList X.K tl) := by
  intro pins s σ H R I tk h
  refine thn (hl pins s σ H _ I tk h) fun v s1 ⟨x, H1, I1, r1, q1⟩ => ?_
  obtain ⟨a, e, ⟨xs, hq⟩, q⟩ := q1
  subst e
  cases r1
  obtain ⟨its, rv, p, hz⟩ := I1.list hq
  refine wpAny_pyIter_list p.isList ?_
  refine ⟨s1.heap.objs.size, [s1.heap.objs.size], _, _, H1, rfl, I1.kept (t' := s1.toks) fun b o e => Heap.get?_push_of_some _ e, turn_list a _, ⟨_, Heap.get?_push_size _ rfl, rfl, rfl⟩, fun b hb => ?_, q⟩
  have e : b = s1.heap.objs.size := by simpa using hb
  subst e
  exact I1.fpOk (Nat.le_refl _) (I1.hok.fresh (Nat.le_refl _))
theorem pe_m1T {id : String} {name : Str} {r : V → List V → Hp → VK → Prop} (slot : Slot "str" name id) (ty : typeOf (.builtin id) = pure (.type "method_descriptor")) (rule : MtR X id r) (ho : PET X o to) (he : PE X e te)
    (hs : starEach [e] X.env = [(false, eval e X.env)] := by rfl) (hbase : attributeBase o name X.env (eval o X.env) = eval o X.env := by rfl) (hline : (apos.endLine == pos.line) = true := by rfl) :
    PET X (.Call (.Attribute o name apos) [e] [] pos) (tM1 r to te) := by
  intro pins s σ H Q I tk h
  refine PySem.Call_method1 hbase hs hline (thn (ho pins s σ H _ I tk h) fun v s1 ⟨x, H1, I1, r1, q1⟩ => ?_)
  obtain ⟨⟨a, rfl⟩, q1⟩ := q1
  obtain ⟨t, rfl⟩ := _root_.id r1
  refine ⟨"str", _, F.plainAttrs_str, slot, ty, typeIs_str _ _ _, (fun _ e => nomatch e), Calls.callWith_builtin rfl (Calls.evalArgs_plain (Calls.spliced_cons ?_))⟩
  exact thn (he pins s1 σ H1 _ I1 q1) fun u s2 ⟨y, H2, I2, r2, q2⟩ => Calls.spliced_nil (rule pins s2 σ H2 _ [y] _ [u] Q I2 r1 (.cons r2 .nil) q2)
/-- x.replace('..', '..'), two written texts that differ -/
theorem pe_replaceT {y z : Str} {j1 j2 : Nat} {p1 p2 : Pos} (ho : PE X (.Name x p) to) (hyz : (y == z) = false := by decide) (hz : z.length ≤ 14 := by decide)
    (hs : starEach [.Constant (.str y) j1 p1, .Constant (.str z) j2 p2] X.env = [(false, eval (.Constant (.str y) j1 p1) X.env), (false, eval (.Constant (.str z) j2 p2) X.env)] := by rfl)
    (hbase : attributeBase (.Name x p) "replace" X.env (eval (.Name x p) X.env) = eval (.Name x p) X.env := by rfl) (hline : (apos.endLine == pos.line) = true := by rfl) :
    PET X (.Call (.Attribute (.Name x p) "replace" apos) [.Constant (.str y) j1 p1, .Constant (.str z) j2 p2] [] pos) (fun σ H Q => to σ H fun v H1 => ∃ a, v = .str a ∧ a.length ≤ 1048576 ∧ Q (.str (Txt.replace a y z)) H1) := by
  intro pins s σ H Q I tk h
  refine PySem.Call_method2 hbase hs hline (wpAny_mono (wpAny_toks_of tk (ho pins s σ H _ I h)) (fun v s1 ⟨tk1, x, H1, I1, r1, q1⟩ => ?_) fun _ _ z => z.2)
  obtain ⟨a, rfl, ha, q1⟩ := q1
  obtain ⟨t, rfl⟩ := _root_.id r1
  refine ⟨"str", _, F.plainAttrs_str, F.slot_str_replace, F.type_str_replace, typeIs_str _ _ _, (fun _ e => nomatch e), Calls.callWith_builtin rfl (Calls.evalArgs_plain (Calls.spliced_cons ?_))⟩
  refine Calls.Constant_str (Calls.spliced_cons (Calls.Constant_str (Calls.spliced_nil ?_)))
  refine SC.replaceW ?_ ?_ ?_ hyz ha hz fun t' k => ⟨.str (Txt.replace a y z), H1, ((I1.tok _).tok _).tok _, ⟨_, rfl⟩, q1⟩
  · exact Nat.ne_of_gt tk1
  · exact Nat.succ_ne_zero _
  · exact Nat.ne_of_lt (Nat.lt_succ_self _)
theorem ps_forT {tg iter : Expr} {body : List Stmt} {wi : TI} {g : TG} {tb : TS} (hp : PassesOwn (model X.prog X.w) X.A X.env X.xe) (hc : X.calm = true) (hi : PIT X tg iter wi) (hg : PG X tg g) (hb : PSs X body tb)
    (hs : ∀ x, foldedSetIterable iter X.env x = pure x := by intro _; rfl) : PST X (.For tg iter body [] pos) (tFor wi g tb) := by
  intro pins s σ H D I tk h
  refine wpAny_For (thn (hi pins s σ H _ I tk h) fun v s1 h1 => thn h1 fun itv s2 h2 => ?_) hs
  obtain ⟨it, fp, tn, J, H2, e, I2, T, st2, f2, W, ⟨m0, w0⟩, turn⟩ := h2
  subst e
  have stat : ∀ {H' : Hp}, (∀ b ∈ fp, H' b = none) → ∀ b ∈ fp, FpOk X pins H' b := fun hn b hb => ⟨hn b hb, (f2 b hb).2⟩
  refine codeAny_forLoop_any (fun n s' => ∃ i σ' H', Inv X pins σ' H' s' ∧ tn i s'.heap ∧ (∀ b ∈ fp, H' b = none) ∧ W i n σ' H') ?_ m0 ⟨0, σ, H2, I2, st2, fun b hb => (f2 b hb).1, w0⟩
  rintro n s3 ⟨i, σ3, H3, I3, st3, fr3, w3⟩
  rcases turn i n σ3 H3 w3 with ⟨stop, qn⟩ | ⟨go, N, hN, step⟩
  · refine wpAny_passesOwn hp (thn (T.done X rfl rfl rfl hc i pins s3 σ3 H3 X.xe I3 (stat fr3) st3 stop) fun r s4 ⟨hr, I4⟩ => ?_)
    subst hr
    exact wpAny_execs_nil ⟨σ3, H3, I4, qn⟩
  · refine wpAny_passesOwn hp (thn (T.item X rfl rfl rfl hc i pins s3 σ3 H3 X.xe I3 (stat fr3) st3 go) fun r s4 ⟨u, hr, h4⟩ => ?_)
    subst hr
    refine wpAny_passesOwn hp (thn h4 fun _ s5 ⟨x, H5, I5, r5, y5, st5, fr5⟩ => ?_)
    have I5' := I5.pinned (stat fr5) (T.obj _ _ st5)
    refine wpAny_passesOwn hp (thn (hg _ s5 σ3 H5 x u _ I5' r5 (step x H5 y5)) fun _ s6 ⟨σ6, H6, I6, q6⟩ => ?_)
    refine wpAny_passesOwn hp (thn (hb _ s6 σ6 H6 _ I6 q6) fun f s7 q7 => ?_)
    have again : ∀ {σ7 : St} {H7 : Hp}, Inv X (pins ++ pinsAt fp s5.heap) σ7 H7 s7 → N σ7 H7 → ∃ m, m < n ∧ ∃ i σ' H', Inv X pins σ' H' s7 ∧ tn i s7.heap ∧ (∀ b ∈ fp, H' b = none) ∧ W i m σ' H' := fun {σ7 H7} I7 n7 => by
      obtain ⟨m', hm, w7⟩ := hN σ7 H7 n7
      refine ⟨m', hm, i + 1, σ7, H7, I7.unpinned, T.keep _ _ _ st5 fun b hb o e => (I7.pin (b, o) (List.mem_append_right _ (List.mem_append_right _ (mem_pinsAt hb e)))).1, fun b hb => ?_, w7⟩
      obtain ⟨o, e, d⟩ := T.obj _ _ st5 b hb
      exact (I7.pin (b, o) (List.mem_append_right _ (List.mem_append_right _ (mem_pinsAt hb e)))).2.1
    cases f with
    | next => obtain ⟨σ7, H7, I7, n7⟩ := q7; exact again I7 n7
    | cont => obtain ⟨σ7, H7, I7, n7⟩ := q7; exact again I7 n7
    | brk => obtain ⟨σ7, H7, I7, q7⟩ := q7; exact ⟨σ7, H7, I7.unpinned, q7⟩
    | ret v => obtain ⟨x7, σ7, H7, I7, r7, q7⟩ := q7; exact ⟨x7, σ7, H7, I7.unpinned, r7, q7⟩
theorem PSsT.nox {st : List Stmt} {t : TS} (h : PSsT X.nox st t) : PSsT X st t := fun pins s σ H D I tk hw =>
  wpAny_mono (h pins s σ H D (I.wish _) tk hw) (fun _ _ q => q.unwish) fun _ _ q => q.elim
end
theorem fn_ofT {CX : CXT} {P : Program} {w : World} {K : PySem.W.Frag} {mg : Str → Option Value} {base : Heap} {k : Nat} {f : Addr} {name qual : Str} {params : Arguments} {body : List Stmt} {scope : Scope} {dV kV doc pm cdv ct oc : Value} {an od : Option Addr}
    {osl : Array (Option Value)} {N ps : List Str} {sp : Sp} (lk : K.lookup f = some ⟨oc, od, .func (PySem.W.fnOf name qual params body scope dV kV doc pm an cdv ct), osl⟩) (hcd : PySem.W.codeIn K cdv qual = true) (S : FnScope N ps scope)
    (len : ∀ vs H Q E, sp vs H Q E → vs.length = ps.length)
    (hbody : ∀ (A : Around) (outer : List Env) (s : Shared) (H : Hp) (vs : List V) (Q : VK) (E : XK), Room k (A.deeper (envOfC qual scope s.heap.objs.size f cdv)) → sp vs H Q E →
      ∃ t, PSsT (cxOf CX P w K mg base N qual scope f cdv A outer s H E) body t ∧ t { nx := fun _ H' => Q .non H', rt := Q } (start N vs) H) :
    FnOkT P w K mg base CX (k + 1) f (PySem.W.fnOf name qual params body scope dV kV doc pm an cdv ct) ps sp := by
  refine ⟨len, fun A outer s H args us vs Q E tk hr e0 hb r hsp => ?_⟩
  have hl := len _ _ _ _ hsp
  have KX : K.In s.heap := e0.mod.kin.keeps fun b o e => (e0.bs b o e).1
  have lim : s.heap.NoLimit := e0.mod.nolimit.keeps fun b o e => (e0.bs b o e).1
  have hkind : ∀ y ∈ ps.zip us, scope.names.lookup y.1 = some .local ∨ (scope.names.lookup y.1 = some .cell ∧ ((cellsFrom (s.heap.objs.size + 1) scope.names []).lookup y.1).isSome = true) := fun ⟨n, v⟩ hy => by
    rcases S.par n (List.of_mem_zip hy).1 with q | q
    · exact .inl q
    · exact .inr ⟨q, PySem.W.cellsFrom_some _ _ _ (.inl q)⟩
  refine codeAny_call_function hr.depth (KX _ _ lk) rfl S.co S.gen rfl (PySem.W.codeRec_of KX hcd) (hb _ _ _ _ ?_)
  refine wpAny_with_toks tk ?_
  refine wpAny_newFunctionEnv_cells S.kind hkind fun env he s1 x => ?_
  subst he
  intro tk1
  refine ⟨lim.keeps x.toInCall.keep, codeAny_func ?_⟩
  obtain ⟨t, ht, hq⟩ := hbody A outer s H vs Q E (hr.deeper _) hsp
  have I : Inv (cxOf CX P w K mg base N qual scope f cdv A outer s H E) [] (start N vs) H s1 := inv_start S hr.hd e0 hl r x
  refine wpAny_mono (ht [] s1 (start N vs) H _ I tk1 hq) (fun fl s' hs => ?_) fun e s' hs => hs
  have fin : ∀ {σ' : St} {H' : Hp} {v : V} {u : Value}, Inv (cxOf CX P w K mg base N qual scope f cdv A outer s H E) [] σ' H' s' → RelV v u → Q v H' → CE outer P w H s Q u s' :=
    fun {σ' H' v u} J rv q => ⟨v, H', J.os, J.bare, J.base, J.hok, rv, q⟩
  cases fl with
  | ret u =>
    obtain ⟨v, σ', H', J, rv, q⟩ := hs
    exact fin J rv q
  | next =>
    obtain ⟨σ', H', J, q⟩ := hs
    exact fin (v := V.non) (u := Value.none) J rfl q
  | brk =>
    obtain ⟨_, _, _, q⟩ := hs
    exact False.elim q
  | cont =>
    obtain ⟨_, _, _, q⟩ := hs
    exact False.elim q
theorem Fun.okT {P : Program} {w : World} {K : PySem.W.Frag} {mg : Str → Option Value} {base : Heap} {x qual : Str} {st : Stmt} {f : Addr} {fd : FuncData} {N ps : List Str} {k : Nat} {sp : Sp} (F : Fun K x qual st f fd) (S : FnScope N ps (defScope st)) (len : ∀ vs H Q E, sp vs H Q E → vs.length = ps.length)
    (hbody : ∀ (cdv : Value) (A : Around) (outer : List Env) (s : Shared) (H : Hp) (vs : List V) (Q : VK) (E : XK), Room k (A.deeper (envOfC qual (defScope st) s.heap.objs.size f cdv)) → sp vs H Q E →
      ∃ t, PSsT (cxOf CX0 P w K mg base N qual (defScope st) f cdv A outer s H E).nox (defBody st) t ∧ t { nx := fun _ H' => Q .non H', rt := Q } (start N vs) H) : FnOkT P w K mg base CX0 (k + 1) f fd ps sp := by
  obtain ⟨oc, od, kV, doc, pm, an, cdv, ct, osl, rfl, lk, hcd⟩ := F.ex
  refine fn_ofT lk hcd S len fun A outer s H vs Q E hr hsp => ?_
  obtain ⟨t, h, q⟩ := hbody cdv A outer s H vs Q E hr hsp
  exact ⟨t, h.nox, q⟩
end L2

set_option Elab.async false
set_option linter.all false
set_option maxRecDepth 100000
namespace L2
open PySem PySem.Spec PyProof.Rows TL
/-- a def of the text by its global name -/
structure FG (K : PySem.W.Frag) (mg : Str → Option Value) (x : Str) (st : Stmt) (ps : List Str) (f : Addr) (fd : FuncData) : Prop where
  mg : mg x = some (.ref f)
  fn : Fun K x x st f fd
  b : Binds K fd ps []
theorem boot_ord1 : bootBuiltins "ord" = some (.builtin "ord") := by decide +kernel
theorem boot_all1 : bootBuiltins "all" = some (.builtin "all") := by decide +kernel
theorem boot_max1 : bootBuiltins "max" = some (.builtin "max") := by decide +kernel
theorem boot_sum1 : bootBuiltins "sum" = some (.builtin "sum") := by decide +kernel
theorem boot_int1 : bootBuiltins "int" = some (.type "int") := by decide +kernel
theorem boot_str1 : bootBuiltins "str" = some (.type "str") := by decide +kernel
/-- bytes as a list of values; signs as a text -/
def bs (t : List Nat) : List V := t.map fun (n : Nat) => V.int (n : Int)
def S (l : List Nat) : Str := ⟨l.toArray⟩
theorem tl_S (l : List Nat) : tl (S l) = l := rfl
theorem S_tl (x : Str) : S (tl x) = x := ext_tl rfl
theorem S_len (l : List Nat) : (S l).length = l.length := by rw [len_tl, tl_S]
theorem bs_len (t : List Nat) : (bs t).length = t.length := by unfold bs; rw [List.length_map]
theorem bs_get {t : List Nat} {i c : Nat} (h : t[i]? = some c) : (bs t)[i]? = some (V.int (c : Int)) := by unfold bs; rw [List.getElem?_map, h]; rfl
theorem bs_drop (t : List Nat) (i : Nat) : (bs t).drop i = bs (t.drop i) := by unfold bs; rw [List.map_drop]
theorem bs_take (t : List Nat) (i : Nat) : (bs t).take i = bs (t.take i) := by unfold bs; rw [List.map_take]
/-- a predicate on bytes -/
def spB (b : Nat → Bool) : Sp := fun vs H Q _ => ∃ n : Nat, vs = [.int (n : Int)] ∧ Q (.bl (b n)) H
/-- a function value that is such a predicate -/
def PredF (P : Program) (w : World) (K : PySem.W.Frag) (mg : Str → Option Value) (base : Heap) (k : Nat) (f : Addr) (b : Nat → Bool) : Prop :=
  ∃ fd ps, FnOk P w K mg base CX0 k f fd ps (spB b) ∧ Binds K fd ps [] ∧ PySem.W.keepIn K (.ref f) = true
theorem Same.rd {H H' : Hp} {a : Addr} {u : HO} (e : Same H H') (h : Rd H a u) : Rd H' a u := by
  rcases h with h | ⟨o, h⟩
  · exact .inl (e _ _ h)
  · exact .inr ⟨o, e _ _ h⟩
theorem Same.upd {H : Hp} {a : Addr} {o : HO} (h : H a = none) : Same H (L2.upd H a o) := fun b u e => by rw [upd_ne (ne_of_none e h)]; exact e
/-- the text at a -/
abbrev TxtAt (H : Hp) (a : Addr) (t : List Nat) : Prop := Rd H a (.lst (bs t))
theorem ite_bool {b : Bool} {A B : Prop} (h1 : b = true → A) (h2 : b = false → B) : if b = true then A else B := by
  cases b with
  | true => exact iteT (h1 rfl)
  | false => exact iteF (h2 rfl)
end L2

set_option Elab.async false
set_option linter.all false
set_option maxRecDepth 100000
namespace L2
open PySem PySem.Spec PyProof.Rows TL
/-- while, by a word and a measure of the state: nothing is asked of the test's reading -/
theorem while_dir {c : TT} {tb : TS} {D : Ends} {σ : St} {H : Hp} (Pv : St → Hp → Prop) (μ : St → Hp → Nat) (h0 : Pv σ H)
    (hs : ∀ σ H, Pv σ H → c σ H fun b H1 => if b = true then ∃ N : St → Hp → Prop, (∀ σ' H', N σ' H' → ∃ m', m' < μ σ H ∧ m' = μ σ' H' ∧ Pv σ' H') ∧ tb { D with nx := N, ct := N, bk := D.nx } σ H1 else D.nx σ H1) : tWhile c tb D σ H := by
  refine ⟨fun m σ H => m = μ σ H ∧ Pv σ H, ⟨_, rfl, h0⟩, ?_⟩
  rintro m σ H ⟨rfl, p⟩
  exact hs σ H p
def Nxt (Pv : St → Hp → Prop) (μ : St → Hp → Nat) (σ : St) (H : Hp) : St → Hp → Prop := fun σ' H' => Pv σ' H' ∧ μ σ' H' < μ σ H
theorem nxt {Pv : St → Hp → Prop} {μ : St → Hp → Nat} {σ : St} {H : Hp} : ∀ σ' H', Nxt Pv μ σ H σ' H' → ∃ m', m' < μ σ H ∧ m' = μ σ' H' ∧ Pv σ' H' := fun _ _ z => ⟨_, z.2, rfl, z.1⟩
/-- a comprehension that makes of each item one value; what was tracked stays -/
theorem lc_map {J : It} {g : TG} {tt : TT} {te : TE} {vs : List Nat} {σ : St} {H1 : Hp} {D : Addr} {Qd : Hp → Prop} (xs : List V) (f : V → V) (hD : H1 D = none) (hn : xs.length ≤ sizeLine)
    (hgo : ∀ i x H, Same H1 H → xs[i]? = some x → J.go i H ∧ ∀ y H', J.yld i H y H' → H' = H ∧ y = x) (hst : ∀ H, Same H1 H → J.stop xs.length H)
    (hs : ∀ x H acc (Nx : Hp → Prop), x ∈ xs → Same H1 H → H D = some (.lst acc) → acc.length < sizeLine → (∀ H', Same H H' → Nx (upd H' D (.lst (acc ++ [f x])))) →
      g x (wipe σ vs) H fun σ2 H2 => wipe σ2 vs = wipe σ vs ∧ tt σ2 H2 fun b H3 => if b = true then te σ2 H3 fun y H4 => ∃ acc, H4 D = some (.lst acc) ∧ acc.length < sizeLine ∧ Nx (upd H4 D (.lst (acc ++ [y]))) else Nx H3)
    (hd : ∀ H, Same H1 H → H D = some (.lst (xs.map f)) → Qd H) :
    ∃ W : Nat → Nat → Hp → Prop, (∃ m, W 0 m (upd H1 D (.lst []))) ∧ ∀ i m H, W i m H →
      (J.stop i H ∧ Qd H) ∨ (J.go i H ∧ ∃ Nx : Hp → Prop, (∀ H', Nx H' → ∃ m', m' < m ∧ W (i + 1) m' H') ∧ ∀ x H', J.yld i H x H' → g x (wipe σ vs) H' fun σ2 H2 => wipe σ2 vs = wipe σ vs ∧ tt σ2 H2 fun b H3 =>
        if b = true then te σ2 H3 fun y H4 => ∃ acc, H4 D = some (.lst acc) ∧ acc.length < sizeLine ∧ Nx (upd H4 D (.lst (acc ++ [y]))) else Nx H3) := by
  refine ⟨fun i m H => m = xs.length - i ∧ i ≤ xs.length ∧ Same H1 H ∧ H D = some (.lst ((xs.take i).map f)), ⟨_, rfl, Nat.zero_le _, Same.upd hD, upd_same⟩, ?_⟩
  rintro i m H ⟨rfl, hi, sm, hd1⟩
  by_cases hlt : i < xs.length
  · have hx : xs[i]? = some xs[i] := List.getElem?_eq_getElem hlt
    obtain ⟨go, yl⟩ := hgo i xs[i] H sm hx
    refine .inr ⟨go, fun H' => Same H1 H' ∧ H' D = some (.lst ((xs.take (i + 1)).map f)), fun H' z => ⟨_, by omega, rfl, hlt, z.1, z.2⟩, fun y H' q => ?_⟩
    obtain ⟨rfl, rfl⟩ := yl y H' q
    refine hs _ H' _ _ (List.getElem_mem hlt) sm hd1 (by rw [List.length_map, List.length_take]; omega) fun H2 s2 => ⟨fun b o e => ?_, ?_⟩
    · rw [upd_ne (ne_of_none e hD)]
      exact s2 _ _ (sm _ _ e)
    · rw [upd_same, List.take_succ, hx, List.map_append]
      rfl
  · have e : i = xs.length := by omega
    subst e
    rw [List.take_length] at hd1
    exact .inl ⟨hst H sm, hd H sm hd1⟩
theorem go_list {K : PySem.W.Frag} {a : Addr} {xs : List V} {H1 : Hp} (h : SqL K H1 a xs) : (∀ i x H, Same H1 H → xs[i]? = some x → (Itl K a).go i H ∧ ∀ y H', (Itl K a).yld i H y H' → H' = H ∧ y = x) ∧ ∀ H, Same H1 H → (Itl K a).stop xs.length H :=
  ⟨fun i x H sm e => ⟨⟨xs, x, sm.seq h, e⟩, fun y H' ⟨e1, e2⟩ => ⟨e1, Option.some.inj ((e2 xs (by subst e1; exact sm.seq h)).symm.trans e)⟩⟩, fun H sm => ⟨xs, sm.seq h, Nat.le_refl _⟩⟩
theorem Same.seqT {K : PySem.W.Frag} {H H' : Hp} {a : Addr} {xs : List V} (e : Same H H') (h : SqT K H a xs) : SqT K H' a xs := by
  rcases h with (h | ⟨o, h⟩) | h
  · exact .inl (.inl (e _ _ h))
  · exact .inl (.inr ⟨o, e _ _ h⟩)
  · exact .inr h
theorem go_str {x : Str} {H1 : Hp} : (∀ i y H, Same H1 H → ((tl x).map fun c => V.str ⟨#[c]⟩)[i]? = some y → (Its x).go i H ∧ ∀ z H', (Its x).yld i H z H' → H' = H ∧ z = y) ∧ ∀ H, Same H1 H → (Its x).stop ((tl x).map fun c => V.str ⟨#[c]⟩).length H := by
  refine ⟨fun i y H sm e => ?_, fun H sm => ?_⟩
  · rw [List.getElem?_map] at e
    cases q : (tl x)[i]? with
    | none => rw [q] at e; cases e
    | some c =>
      rw [q] at e
      cases e
      have q' : x.cps[i]? = some c := by rw [← Array.getElem?_toList]; exact q
      refine ⟨?_, ?_⟩
      · show i < x.cps.size
        exact (Array.getElem?_eq_some_iff.mp q').1
      · rintro z H' ⟨e1, c', e2, e3⟩
        rw [q'] at e2
        cases e2
        exact ⟨e1, e3⟩
  · show x.cps.size ≤ _
    simp
end L2

set_option Elab.async false
set_option linter.all false
set_option maxRecDepth 100000
namespace L2
open PySem PySem.Spec PyProof.Rows TL
theorem cx_K {CX : CXT} {P : Program} {w : World} {K : PySem.W.Frag} {mg : Str → Option Value} {base : Heap} {N : List Str} {qual : Str} {scope : Scope} {f : Addr} {cd : Value} {A : Around} {outer : List Env} {s : Shared} {H : Hp} {E : XK} : (cxOf CX P w K mg base N qual scope f cd A outer s H E).K = K := rfl
theorem cx_P {CX : CXT} {P : Program} {w : World} {K : PySem.W.Frag} {mg : Str → Option Value} {base : Heap} {N : List Str} {qual : Str} {scope : Scope} {f : Addr} {cd : Value} {A : Around} {outer : List Env} {s : Shared} {H : Hp} {E : XK} : (cxOf CX P w K mg base N qual scope f cd A outer s H E).prog = P := rfl
theorem cx_w {CX : CXT} {P : Program} {w : World} {K : PySem.W.Frag} {mg : Str → Option Value} {base : Heap} {N : List Str} {qual : Str} {scope : Scope} {f : Addr} {cd : Value} {A : Around} {outer : List Env} {s : Shared} {H : Hp} {E : XK} : (cxOf CX P w K mg base N qual scope f cd A outer s H E).w = w := rfl
theorem cx_mg {CX : CXT} {P : Program} {w : World} {K : PySem.W.Frag} {mg : Str → Option Value} {base : Heap} {N : List Str} {qual : Str} {scope : Scope} {f : Addr} {cd : Value} {A : Around} {outer : List Env} {s : Shared} {H : Hp} {E : XK} : (cxOf CX P w K mg base N qual scope f cd A outer s H E).mg = mg := rfl
theorem cx_base {CX : CXT} {P : Program} {w : World} {K : PySem.W.Frag} {mg : Str → Option Value} {base : Heap} {N : List Str} {qual : Str} {scope : Scope} {f : Addr} {cd : Value} {A : Around} {outer : List Env} {s : Shared} {H : Hp} {E : XK} : (cxOf CX P w K mg base N qual scope f cd A outer s H E).base = base := rfl
theorem cx_N {CX : CXT} {P : Program} {w : World} {K : PySem.W.Frag} {mg : Str → Option Value} {base : Heap} {N : List Str} {qual : Str} {scope : Scope} {f : Addr} {cd : Value} {A : Around} {outer : List Env} {s : Shared} {H : Hp} {E : XK} : (cxOf CX P w K mg base N qual scope f cd A outer s H E).N = N := rfl
theorem ofStr (s : String) : Str.ofString s = S (Vaunid.txt s) := ext_tl (by rw [tl_ofString, tl_S]; rfl)
theorem S_inj {l m : List Nat} : (S l = S m) = (l = m) := propext ⟨fun e => by have := congrArg tl e; exact this, fun e => by rw [e]⟩
theorem S_eq (l : List Nat) (s : String) : (S l = Str.ofString s) = (l = Vaunid.txt s) := by rw [ofStr, S_inj]
theorem S_one (c : Nat) : (⟨#[c]⟩ : Str) = S [c] := rfl
theorem one_len (c : Nat) : (⟨#[c]⟩ : Str).length = 1 := rfl
theorem one_get (c : Nat) : (⟨#[c]⟩ : Str).cps.getD 0 0 = c := rfl
theorem S_tlz (l : List Nat) : (S l).cps.toList = l := rfl
theorem int_beq (n c : Nat) : decide ((n : Int) = (c : Int)) = (n == c) := by
  rw [Bool.eq_iff_iff]
  simp
  omega
end L2
namespace L2
open PySem PySem.Spec PyProof.Rows TL
/-- a comprehension over J's items xs, each made into f of it -/
theorem tlc_of {wi : TI} {g : TG} {tt : TT} {te : TE} {vs : List Nat} {σ : St} {H H1 : Hp} {Q : VK} (J : It) (xs : List V) (f : V → V) (hw : ∀ R : It → Hp → Prop, R J H1 → wi σ H R) (hn : xs.length ≤ sizeLine)
    (hgo : (∀ i x H, Same H1 H → xs[i]? = some x → J.go i H ∧ ∀ y H', J.yld i H y H' → H' = H ∧ y = x) ∧ ∀ H, Same H1 H → J.stop xs.length H)
    (hs : ∀ x H D acc (Nx : Hp → Prop), x ∈ xs → Same H1 H → H D = some (.lst acc) → acc.length < sizeLine → (∀ H', Same H H' → Nx (upd H' D (.lst (acc ++ [f x])))) →
      g x (wipe σ vs) H fun σ2 H2 => wipe σ2 vs = wipe σ vs ∧ tt σ2 H2 fun b H3 => if b = true then te σ2 H3 fun y H4 => ∃ acc, H4 D = some (.lst acc) ∧ acc.length < sizeLine ∧ Nx (upd H4 D (.lst (acc ++ [y]))) else Nx H3)
    (hd : ∀ D H, H1 D = none → Same H1 H → H D = some (.lst (xs.map f)) → Q (.ref D) H) : tLc wi g tt te vs σ H Q :=
  hw _ fun D hD => lc_map xs f hD hn hgo.1 hgo.2 (fun x H acc Nx h1 h2 h3 h4 h5 => hs x H D acc Nx h1 h2 h3 h4 h5) fun H s e => hd D H hD s e
end L2
namespace L2
open PySem PySem.Spec PyProof.Rows TL
theorem while_m {c : TT} {tb : TS} {D : Ends} {σ : St} {H : Hp} (Pv : Nat → St → Hp → Prop) (m0 : Nat) (h0 : Pv m0 σ H)
    (hs : ∀ m σ H, Pv m σ H → c σ H fun b H1 => if b = true then ∃ N : St → Hp → Prop, (∀ σ' H', N σ' H' → ∃ m', m' < m ∧ Pv m' σ' H') ∧ tb { D with nx := N, ct := N, bk := D.nx } σ H1 else D.nx σ H1) : tWhile c tb D σ H :=
  ⟨Pv, ⟨m0, h0⟩, hs⟩
end L2

set_option Elab.async false
set_option linter.all false
set_option maxRecDepth 100000
namespace M
open PySem PySem.Spec PyProof.Rows L2 TL
open Vaunid (isSmall isDigit inWord)
def shortWord (l : List Nat) : Bool := !l.isEmpty && (decide (l.length ≤ 12) && (isSmall (l.headD 0) && l.all inWord))
/-! ### measures: what the program asks is what the specification asks -/
def isPower (b : List Nat) : Bool := let d := if b.head? = some 45 then b.tail else b; !d.isEmpty && (decide (d.length ≤ 2) && d.all isDigit)
def isFactor (f : List Nat) : Bool := f == [49] || (if f.contains 94 = true then shortWord (f.takeWhile (· != 94)) && isPower ((f.dropWhile (· != 94)).drop 1) else shortWord f)
def sep (c : Nat) : Bool := c == 46 || c == 47
def nsep (c : Nat) : Bool := !sep c
def cut (p : Nat → Bool) : List Nat → List Nat → List (List Nat)
  | acc, [] => [acc]
  | acc, c :: r => if p c = true then acc :: cut p [] r else cut p (acc ++ [c]) r
def unslash (c : Nat) : Nat := if c = 47 then 46 else c
theorem spl_ne (S : List Nat) : ∀ (k : Nat) (acc l : List Nat), spl S k acc l ≠ []
  | k, acc, [] => by rw [spl_nil]; simp
  | 0, acc, c :: r => by
    cases h : pre S (c :: r) with
    | true => rw [spl_hit h]; simp
    | false => rw [spl_miss h]; exact spl_ne S 0 _ r
  | k + 1, acc, c :: r => by
    rw [spl_pass]
    show spl S 0 acc (r.drop k) ≠ []
    rw [← spl_pass]
    exact spl_ne S k acc r
theorem pre_one (s c : Nat) (r : List Nat) : pre [s] (c :: r) = (c == s) := by
  unfold pre
  show ([c] == [s]) = _
  simp
theorem joinL_cons (S p : List Nat) {q : List (List Nat)} (h : q ≠ []) : joinL S (p :: q) = p ++ (S ++ joinL S q) := by
  cases q with
  | nil => exact absurd rfl h
  | cons a r => rfl
theorem join_unslash : ∀ (l acc : List Nat), joinL [46] (spl [47] 0 acc l) = acc ++ l.map unslash
  | [], acc => by rw [spl_nil]; simp [joinL]
  | c :: r, acc => by
    by_cases h : c = 47
    · subst h
      rw [spl_hit (by rw [pre_one]; rfl), joinL_cons _ _ (spl_ne _ _ _ _)]
      show acc ++ ([46] ++ joinL [46] (spl [47] 0 [] r)) = _
      rw [join_unslash r []]
      rfl
    · rw [spl_miss (by rw [pre_one]; simpa using h), join_unslash r, List.append_assoc]
      show acc ++ (c :: r.map unslash) = acc ++ (unslash c :: r.map unslash)
      rw [show unslash c = c from if_neg h]
theorem kind_slash (x : Str) : ¬ Builtin.Str.strKind x < Builtin.Str.strKind (Str.ofString "/") := kind_ok (by decide +kernel)
theorem kind_dot (x : Str) : ¬ Builtin.Str.strKind x < Builtin.Str.strKind (Str.ofString ".") := kind_ok (by decide +kernel)
theorem split_slash (l : List Nat) : (Txt.split (S l) (Str.ofString "/")).map tl = spl [47] 0 [] l := split_spl (S l) (Str.ofString "/") (by decide +kernel) (kind_slash _)
theorem split_dot (l : List Nat) : (Txt.split (S l) (Str.ofString ".")).map tl = spl [46] 0 [] l := split_spl (S l) (Str.ofString ".") (by decide +kernel) (kind_dot _)
theorem replace_map (l : List Nat) : Txt.replace (S l) (Str.ofString "/") (Str.ofString ".") = S (l.map unslash) := by
  cases l with
  | nil => decide +kernel
  | cons c r =>
    have e : Txt.replace (S (c :: r)) (Str.ofString "/") (Str.ofString ".") = Str.join (Str.ofString ".") (Txt.split (S (c :: r)) (Str.ofString "/")) := by
      unfold Txt.replace Txt.split
      have h1 : (decide ((S (c :: r)).length < (Str.ofString "/").length) || decide (Builtin.Str.strKind (S (c :: r)) < Builtin.Str.strKind (Str.ofString "/"))) = false := by
        rw [decide_eq_false (kind_slash _), S_len, decide_eq_false]
        · rfl
        · rw [List.length_cons, show (Str.ofString "/").length = 1 by decide +kernel]; omega
      have h2 : ((Str.ofString "/").length == 0 && (Str.ofString ".").length == 0) = false := by decide +kernel
      rw [h1, h2, Bool.or_false]
      cases hc : (Builtin.Str.occurrences (S (c :: r)) (Str.ofString "/") 0 (S (c :: r)).length ((S (c :: r)).length + 1)).isEmpty with
      | true => rfl
      | false =>
        simp only [Bool.false_eq_true, if_false]
        exact StrLaws.glued_eq_join _ _
    refine ext_tl ?_
    rw [e, tl_join, split_slash]
    show joinL [46] _ = _
    rw [join_unslash]
    rfl
theorem spl_cut : ∀ (l acc : List Nat), spl [46] 0 acc (l.map unslash) = cut sep acc l
  | [], acc => by rw [List.map_nil, spl_nil]; rfl
  | c :: r, acc => by
    rw [List.map_cons]
    show _ = if sep c = true then acc :: cut sep [] r else cut sep (acc ++ [c]) r
    by_cases h : sep c = true
    · have hu : unslash c = 46 := by
        unfold sep at h
        unfold unslash
        rcases Bool.or_eq_true_iff.mp h with q | q
        · rw [eq_of_beq q]; rfl
        · rw [eq_of_beq q]; rfl
      rw [if_pos h, hu, spl_hit (by rw [pre_one]; rfl)]
      exact congrArg (acc :: ·) (spl_cut r [])
    · have h2 : ¬ c = 46 ∧ ¬ c = 47 := by
        unfold sep at h
        simpa using h
      rw [if_neg h, show unslash c = c from if_neg h2.2, spl_miss (by rw [pre_one]; simpa using h2.1)]
      exact spl_cut r _
theorem cut_acc : ∀ (l acc : List Nat), cut sep acc l = (acc ++ l.takeWhile nsep) :: (match l.dropWhile nsep with | [] => [] | _ :: r => cut sep [] r)
  | [], acc => by simp [cut]
  | c :: r, acc => by
    show (if sep c = true then acc :: cut sep [] r else cut sep (acc ++ [c]) r) = _
    by_cases h : sep c = true
    · have h2 : nsep c = false := by unfold nsep; rw [h]; rfl
      rw [if_pos h, List.takeWhile_cons, List.dropWhile_cons, h2]
      simp
    · have h2 : nsep c = true := by unfold nsep; simpa using h
      rw [if_neg h, cut_acc r, List.takeWhile_cons, List.dropWhile_cons, h2]
      simp
theorem inWord_nsep {c : Nat} (h : inWord c = true) : nsep c = true := by
  unfold nsep sep
  by_cases h1 : c = 46
  · subst h1; revert h; decide
  · by_cases h2 : c = 47
    · subst h2; revert h; decide
    · simp [h1, h2]
theorem digit_nsep {c : Nat} (h : isDigit c = true) : nsep c = true := inWord_nsep (by unfold inWord; rw [h]; simp)
theorem inWord_94 {c : Nat} (h : inWord c = true) : c ≠ 94 := by
  intro e; subst e; revert h; decide
theorem tw_all {p : Nat → Bool} (l : List Nat) : ∀ x ∈ l.takeWhile p, p x = true := fun x hx => by
  induction l with
  | nil => simp at hx
  | cons c r ih =>
    rw [List.takeWhile_cons] at hx
    split at hx
    · rcases List.mem_cons.mp hx with e | e
      · subst e; assumption
      · exact ih e
    · simp at hx
theorem dw_head {p : Nat → Bool} : ∀ (l : List Nat) {e : Nat} {s : List Nat}, l.dropWhile p = e :: s → p e = false
  | [], e, s, h => by simp at h
  | c :: r, e, s, h => by
    rw [List.dropWhile_cons] at h
    split at h
    · exact dw_head r h
    · cases h
      rename_i q
      simpa using q
/-- behind a factor -/
def goes (K : List Nat → Bool) (o : Option (List Nat)) : Bool := match o with
  | none => false
  | some [] => true
  | some (c :: r) => sep c && K r
def after (K : List Nat → Bool) (l : List Nat) : Bool := match l with
  | [] => true
  | _ :: r => K r
theorem digits_goes (K : List Nat → Bool) (s : List Nat) :
    goes K (if (s.takeWhile isDigit).length = 1 ∨ (s.takeWhile isDigit).length = 2 then some (s.dropWhile isDigit) else none) =
      ((!(s.takeWhile nsep).isEmpty && (decide ((s.takeWhile nsep).length ≤ 2) && (s.takeWhile nsep).all isDigit)) && after K (s.dropWhile nsep)) := by
  have hs : s = s.takeWhile isDigit ++ s.dropWhile isDigit := List.takeWhile_append_dropWhile.symm
  have hd := tw_all (p := isDigit) s
  generalize hdd : s.takeWhile isDigit = d at hs hd
  generalize hrr : s.dropWhile isDigit = rest at hs
  have hn : ∀ x ∈ d, nsep x = true := fun x hx => digit_nsep (hd x hx)
  have e1 : s.takeWhile nsep = d ++ rest.takeWhile nsep := by rw [hs, List.takeWhile_append_of_pos hn]
  have e2 : s.dropWhile nsep = rest.dropWhile nsep := by rw [hs, List.dropWhile_append_of_pos hn]
  rw [e1, e2]
  have hall : d.all isDigit = true := List.all_eq_true.mpr hd
  have small : (!d.isEmpty && decide (d.length ≤ 2)) = decide (d.length = 1 ∨ d.length = 2) := by
    match d with
    | [] => rfl
    | [_] => rfl
    | [_, _] => rfl
    | _ :: _ :: _ :: r => simp
  cases rest with
  | nil =>
    rw [List.takeWhile_nil, List.dropWhile_nil, List.append_nil, hall, Bool.and_true, small]
    by_cases q : d.length = 1 ∨ d.length = 2
    · rw [if_pos q, decide_eq_true q]; rfl
    · rw [if_neg q, decide_eq_false q]; rfl
  | cons e r =>
    have he : isDigit e = false := dw_head s hrr
    by_cases hs2 : sep e = true
    · have hn2 : nsep e = false := by unfold nsep; rw [hs2]; rfl
      rw [List.takeWhile_cons, List.dropWhile_cons, hn2]
      simp only [Bool.false_eq_true, if_false, List.append_nil]
      rw [hall, Bool.and_true, small]
      by_cases q : d.length = 1 ∨ d.length = 2
      · rw [if_pos q, decide_eq_true q]
        show (sep e && K r) = _
        rw [hs2]
        rfl
      · rw [if_neg q, decide_eq_false q]; rfl
    · have hn2 : nsep e = true := by unfold nsep; simpa using hs2
      have ha : (d ++ (e :: r).takeWhile nsep).all isDigit = false := by
        rw [List.takeWhile_cons, hn2, List.all_append]
        simp [he]
      rw [ha]
      simp only [Bool.and_false, Bool.false_and]
      by_cases q : d.length = 1 ∨ d.length = 2
      · rw [if_pos q]
        show (sep e && K r) = false
        simp [hs2]
      · rw [if_neg q]; rfl
theorem power_goes (K : List Nat → Bool) (s : List Nat) : goes K (Vaunid.powerText s) = (isPower (s.takeWhile nsep) && after K (s.dropWhile nsep)) := by
  match s with
  | [] => exact digits_goes K []
  | c :: r =>
    by_cases h : c = 45
    · subst h
      have e := digits_goes K r
      have e1 : (45 :: r).takeWhile nsep = 45 :: r.takeWhile nsep := rfl
      have e2 : (45 :: r).dropWhile nsep = r.dropWhile nsep := rfl
      rw [e1, e2]
      exact e
    · have e := digits_goes K (c :: r)
      have e3 : Vaunid.powerText (c :: r) = if ((c :: r).takeWhile isDigit).length = 1 ∨ ((c :: r).takeWhile isDigit).length = 2 then some ((c :: r).dropWhile isDigit) else none := by
        unfold Vaunid.powerText
        dsimp only
        split
        · rename_i q; cases q; exact absurd rfl h
        · rfl
      rw [e3, e]
      have e4 : isPower ((c :: r).takeWhile nsep) = (!((c :: r).takeWhile nsep).isEmpty && (decide (((c :: r).takeWhile nsep).length ≤ 2) && ((c :: r).takeWhile nsep).all isDigit)) := by
        unfold isPower
        have hh : ¬ ((c :: r).takeWhile nsep).head? = some 45 := by
          rw [List.takeWhile_cons]
          split
          · simpa using h
          · simp
        simp only [if_neg hh]
      rw [e4]
theorem small_49 {c : Nat} (h : isSmall c = true) : c ≠ 49 := by
  intro e; subst e; revert h; decide
theorem small_word {c : Nat} (h : isSmall c = true) : inWord c = true := by unfold inWord; rw [h]; rfl
theorem short_false {l : List Nat} {e : Nat} (h : e ∈ l) (he : inWord e = false) : shortWord l = false := by
  unfold shortWord
  have : l.all inWord = false := List.all_eq_false.mpr ⟨e, h, by rw [he]; simp⟩
  rw [this]
  simp
theorem short_head {c : Nat} {r : List Nat} (h : isSmall c = false) : shortWord (c :: r) = false := by
  unfold shortWord
  rw [List.headD_cons, h]
  simp
theorem factor_goes (K : List Nat → Bool) (t : List Nat) : goes K (Vaunid.factorText t) = (isFactor (t.takeWhile nsep) && after K (t.dropWhile nsep)) := by
  match t with
  | [] => rfl
  | c :: r =>
    unfold Vaunid.factorText
    dsimp only
    by_cases h49 : c = 49
    · subst h49
      simp only [if_true]
      have e1 : (49 :: r).takeWhile nsep = 49 :: r.takeWhile nsep := rfl
      have e2 : (49 :: r).dropWhile nsep = r.dropWhile nsep := rfl
      rw [e1, e2]
      cases r with
      | nil => rfl
      | cons d r2 =>
        by_cases hs : sep d = true
        · have hn : nsep d = false := by unfold nsep; rw [hs]; rfl
          rw [List.takeWhile_cons, List.dropWhile_cons, hn]
          show (sep d && K r2) = (isFactor [49] && K r2)
          rw [hs]
          rfl
        · have hn : nsep d = true := by unfold nsep; simpa using hs
          have hf : isFactor (49 :: (d :: r2).takeWhile nsep) = false := by
            unfold isFactor
            rw [List.takeWhile_cons, hn]
            simp only [if_true]
            have h1 : ((49 :: d :: r2.takeWhile nsep) == [49]) = false := by simp
            rw [h1, Bool.false_or]
            split
            · have : (49 :: d :: r2.takeWhile nsep).takeWhile (· != 94) = 49 :: (d :: r2.takeWhile nsep).takeWhile (· != 94) := rfl
              rw [this, short_head (by decide)]
              rfl
            · exact short_head (by decide)
          rw [hf]
          show (sep d && K r2) = _
          simp [hs]
    · rw [if_neg h49]
      cases hsm : isSmall c with
      | false =>
        simp only [if_true]
        show false = _
        by_cases hs : sep c = true
        · have hn : nsep c = false := by unfold nsep; rw [hs]; rfl
          rw [List.takeWhile_cons, hn]
          rfl
        · have hn : nsep c = true := by unfold nsep; simpa using hs
          have hf : isFactor ((c :: r).takeWhile nsep) = false := by
            rw [List.takeWhile_cons, hn]
            simp only [if_true]
            unfold isFactor
            have h1 : ((c :: r.takeWhile nsep) == [49]) = false := by simp [h49]
            rw [h1, Bool.false_or]
            split
            · rw [List.takeWhile_cons]
              split
              · rw [short_head hsm]; rfl
              · rfl
            · exact short_head hsm
          rw [hf]
          rfl
      | true =>
        simp only [Bool.true_eq_false, if_false]
        have hs : c :: r = (c :: r).takeWhile inWord ++ (c :: r).dropWhile inWord := List.takeWhile_append_dropWhile.symm
        have hw : (c :: r).takeWhile inWord = c :: r.takeWhile inWord := by rw [List.takeWhile_cons, small_word hsm]; rfl
        have hd := tw_all (p := inWord) (c :: r)
        have hrest := fun {e s} => dw_head (p := inWord) (c :: r) (e := e) (s := s)
        generalize hww : (c :: r).takeWhile inWord = ww at hs hd hw
        generalize (c :: r).dropWhile inWord = rest at hs hrest
        have hn : ∀ x ∈ ww, nsep x = true := fun x hx => inWord_nsep (hd x hx)
        have e1 : (c :: r).takeWhile nsep = ww ++ rest.takeWhile nsep := by rw [hs, List.takeWhile_append_of_pos hn]
        have e2 : (c :: r).dropWhile nsep = rest.dropWhile nsep := by rw [hs, List.dropWhile_append_of_pos hn]
        have hall : ww.all inWord = true := List.all_eq_true.mpr hd
        have h94 : ∀ x ∈ ww, (x != 94) = true := fun x hx => by simpa using inWord_94 (hd x hx)
        have hshort : shortWord ww = decide (ww.length ≤ 12) := by
          unfold shortWord
          rw [hall, hw, List.headD_cons, hsm]
          simp
        have hno : ww.contains 94 = false := by
          cases q : ww.contains 94 with
          | false => rfl
          | true => exact absurd rfl (inWord_94 (hd 94 (List.contains_iff_mem.mp q)))
        have h1 : ∀ x, ((ww ++ x) == [49]) = false := fun x => by
          rw [hw]
          simp [h49]
        have hfw : isFactor ww = decide (ww.length ≤ 12) := by
          unfold isFactor
          have := h1 []
          rw [List.append_nil] at this
          rw [this, Bool.false_or, hno]
          simp [hshort]
        rw [e1, e2]
        cases rest with
        | nil =>
          rw [List.takeWhile_nil, List.dropWhile_nil, List.append_nil, hfw]
          by_cases q : 12 < ww.length
          · rw [if_pos (show Vaunid.MOSTSIGNS < ww.length from q), decide_eq_false (by omega)]; rfl
          · rw [if_neg (show ¬ Vaunid.MOSTSIGNS < ww.length from q), decide_eq_true (by omega)]; rfl
        | cons e s =>
          have he : inWord e = false := hrest rfl
          by_cases hs2 : sep e = true
          · have hn2 : nsep e = false := by unfold nsep; rw [hs2]; rfl
            have ne94 : e ≠ 94 := by intro z; subst z; revert hs2; decide
            rw [List.takeWhile_cons, List.dropWhile_cons, hn2]
            simp only [Bool.false_eq_true, if_false, List.append_nil]
            rw [hfw]
            by_cases q : 12 < ww.length
            · rw [if_pos (show Vaunid.MOSTSIGNS < ww.length from q), decide_eq_false (by omega)]; rfl
            · rw [if_neg (show ¬ Vaunid.MOSTSIGNS < ww.length from q), decide_eq_true (by omega)]
              split
              · rename_i z; cases z; exact absurd rfl ne94
              · show (sep e && K s) = _
                rw [hs2]
                rfl
          · have hn2 : nsep e = true := by unfold nsep; simpa using hs2
            rw [List.takeWhile_cons, List.dropWhile_cons, hn2]
            simp only [if_true]
            by_cases h94e : e = 94
            · subst h94e
              have hf : isFactor (ww ++ 94 :: s.takeWhile nsep) = (decide (ww.length ≤ 12) && isPower (s.takeWhile nsep)) := by
                unfold isFactor
                rw [h1, Bool.false_or, if_pos (by simp), List.takeWhile_append_of_pos h94, List.dropWhile_append_of_pos h94]
                simp [hshort]
              rw [hf]
              by_cases q : 12 < ww.length
              · rw [if_pos (show Vaunid.MOSTSIGNS < ww.length from q), decide_eq_false (by omega)]; rfl
              · rw [if_neg (show ¬ Vaunid.MOSTSIGNS < ww.length from q), decide_eq_true (by omega)]
                simp only [Bool.true_and]
                exact power_goes K s
            · have hf : isFactor (ww ++ e :: s.takeWhile nsep) = false := by
                unfold isFactor
                rw [h1, Bool.false_or]
                split
                · have hne : (e != 94) = true := by simpa using h94e
                  rw [List.takeWhile_append_of_pos h94, List.takeWhile_cons, hne]
                  rw [short_false (e := e) (by simp) he]
                  rfl
                · exact short_false (e := e) (by simp) he
              rw [hf]
              by_cases q : 12 < ww.length
              · rw [if_pos (show Vaunid.MOSTSIGNS < ww.length from q)]; rfl
              · rw [if_neg (show ¬ Vaunid.MOSTSIGNS < ww.length from q)]
                split
                · rename_i z; cases z; exact absurd rfl h94e
                · show (sep e && K s) = _
                  simp [hs2]
theorem measure_eq : ∀ (n : Nat) (t : List Nat), t.length < n → Vaunid.measureText n t = (cut sep [] t).all isFactor
  | 0, t, h => by omega
  | n + 1, t, h => by
    have e : Vaunid.measureText (n + 1) t = goes (Vaunid.measureText n) (Vaunid.factorText t) := by
      show (match Vaunid.factorText t with | none => false | some [] => true | some (c :: r) => (c == 46 || c == 47) && Vaunid.measureText n r) = _
      cases Vaunid.factorText t with
      | none => rfl
      | some l => cases l <;> rfl
    rw [e, factor_goes, cut_acc, List.nil_append, List.all_cons]
    have hl : t.length = (t.takeWhile nsep).length + (t.dropWhile nsep).length := by rw [← List.length_append, List.takeWhile_append_dropWhile]
    cases q : t.dropWhile nsep with
    | nil => rfl
    | cons c r =>
      rw [q, List.length_cons] at hl
      show (_ && Vaunid.measureText n r) = _
      rw [measure_eq n r (by omega)]
theorem cut_len (p : Nat → Bool) : ∀ (l acc : List Nat), ∀ f ∈ cut p acc l, f.length ≤ acc.length + l.length
  | [], acc, f, h => by
    rw [List.mem_singleton.mp h]
    omega
  | c :: r, acc, f, h => by
    have h' : f ∈ (if p c = true then acc :: cut p [] r else cut p (acc ++ [c]) r) := h
    rw [List.length_cons]
    split at h'
    · rcases List.mem_cons.mp h' with e | e
      · rw [e]; omega
      · have := cut_len p r [] f e
        rw [List.length_nil] at this
        omega
    · have := cut_len p r _ f h'
      rw [List.length_append, List.length_singleton] at this
      omega
theorem take_all {p : List Nat → Bool} {l : List (List Nat)} {i : Nat} {x : List Nat} (h : l[i]? = some x) : (l.take (i + 1)).all p = ((l.take i).all p && p x) := by
  rw [List.take_succ, h, List.all_append]
  simp
theorem all_at {p : List Nat → Bool} {l : List (List Nat)} {i : Nat} {x : List Nat} (h : l[i]? = some x) (hx : p x = false) : l.all p = false := List.all_eq_false.mpr ⟨x, List.mem_of_getElem? h, by rw [hx]; simp⟩
end M

set_option Elab.async false
set_option linter.all false
set_option maxRecDepth 100000
namespace M
open PySem PySem.Spec PyProof.Rows L2 TL
open Vaunid (isSmall isDigit inWord)
/-! ### numbers -/
theorem dv_eq (l : List Nat) : NumText.digitsVal l = Vaunid.digitsValue l := by
  unfold NumText.digitsVal Vaunid.digitsValue
  have e : (fun (acc c : Nat) => acc * 10 + (c - 48)) = fun n c => 10 * n + (c - 48) := by
    funext x y
    rw [Nat.mul_comm]
  rw [e]
theorem digits_all {l : List Nat} (h : ∀ c ∈ l, isDigit c = true) : NumText.AllDigits l := fun c hc => by
  have := h c hc
  unfold isDigit at this
  simpa using this
theorem dv_snoc (l : List Nat) (c : Nat) : Vaunid.digitsValue (l ++ [c]) = 10 * Vaunid.digitsValue l + (c - 48) := by
  unfold Vaunid.digitsValue
  rw [List.foldl_append]
  rfl
theorem dv_fold : ∀ (l : List Nat) (n : Nat), (∀ c ∈ l, isDigit c = true) → l.foldl (fun n c => 10 * n + (c - 48)) n < (n + 1) * 10 ^ l.length
  | [], n, _ => by simp
  | c :: r, n, h => by
    have hc := digits_all h c (List.mem_cons_self ..)
    have ih := dv_fold r (10 * n + (c - 48)) fun x hx => h x (List.mem_cons_of_mem _ hx)
    rw [List.foldl_cons, List.length_cons, Nat.pow_succ]
    refine Nat.lt_of_lt_of_le ih ?_
    rw [Nat.mul_comm (10 ^ r.length) 10, ← Nat.mul_assoc]
    exact Nat.mul_le_mul_right _ (by omega)
theorem dv_lt {l : List Nat} (h : ∀ c ∈ l, isDigit c = true) : Vaunid.digitsValue l < 10 ^ l.length := by
  have := dv_fold l 0 h
  rw [Nat.zero_add, Nat.one_mul] at this
  exact this
theorem pow_mono10 {a b : Nat} (h : a ≤ b) : 10 ^ a ≤ 10 ^ b := Nat.pow_le_pow_right (by decide) h
theorem dv_lt' {l : List Nat} {k : Nat} (h : ∀ c ∈ l, isDigit c = true) (hk : l.length ≤ k) : Vaunid.digitsValue l < 10 ^ k := Nat.lt_of_lt_of_le (dv_lt h) (pow_mono10 hk)
theorem int_of {l : List Nat} (h : ∀ c ∈ l, isDigit c = true) (h1 : l ≠ []) (h2 : l.length ≤ 4300) : intText? (S l) = some ((Vaunid.digitsValue l : Nat) : Int) := by
  have e := PySem.intText_digits (x := S l) (digits_all h) h1 (by rw [S_len]; exact h2)
  rw [show (S l).cps.toList = l from rfl, dv_eq] at e
  exact e
theorem dv_zeros (n : Nat) : ∀ k, (List.replicate n 48).foldl (fun n c => 10 * n + (c - 48)) k = k * 10 ^ n := by
  induction n with
  | zero => intro k; simp
  | succ n ih =>
    intro k
    rw [List.replicate_succ, List.foldl_cons, ih, Nat.pow_succ]
    show (10 * k + 0) * 10 ^ n = k * (10 ^ n * 10)
    rw [Nat.add_zero, Nat.mul_comm 10 k, Nat.mul_assoc, Nat.mul_comm 10]
theorem dv_ten (n : Nat) : Vaunid.digitsValue (49 :: List.replicate n 48) = 10 ^ n := by
  unfold Vaunid.digitsValue
  rw [List.foldl_cons, dv_zeros]
  show (10 * 0 + 1) * 10 ^ n = _
  simp
theorem foldl_rep1 (x : Array Nat) : ∀ (n : Nat) (acc : Array Nat), (List.replicate n x).foldl (· ++ ·) acc = acc ++ ((List.replicate n x.toList).flatten).toArray
  | 0, acc => by simp
  | n + 1, acc => by
    rw [List.replicate_succ, List.foldl_cons, foldl_rep1 x n, List.replicate_succ, List.flatten_cons]
    apply Array.ext'
    simp
theorem flatten_ones (n c : Nat) : (List.replicate n [c]).flatten = List.replicate n c := by
  induction n with
  | zero => rfl
  | succ n ih => rw [List.replicate_succ, List.flatten_cons, ih]; rfl
theorem mul_zeros (n : Nat) : Txt.mul (Str.ofString "0") (n : Int) = S (List.replicate n 48) := by
  unfold Txt.mul
  by_cases h : (n : Int) < 1
  · have : n = 0 := by omega
    subst this
    rw [if_pos h]
    rfl
  · rw [if_neg h]
    have e0 : ((Str.ofString "0").length == 0) = false := by decide +kernel
    rw [e0, Bool.or_false]
    by_cases h1 : ((n : Int) == 1) = true
    · have : n = 1 := by have := eq_of_beq h1; omega
      subst this
      rw [if_pos h1]
      decide +kernel
    · rw [if_neg h1]
      refine ext_tl ?_
      rw [Int.toNat_natCast]
      show (List.foldl (fun x1 x2 => x1 ++ x2) #[] (List.replicate n (Str.ofString "0").cps)).toList = List.replicate n 48
      rw [foldl_rep1]
      rw [show (Str.ofString "0").cps.toList = [48] by decide +kernel, flatten_ones]
      simp
/-- what the specification makes of the two rows of digits -/
def frac (a : List Nat) (c : Nat) (b : List Nat) : Option (Nat × Nat) :=
  let top := if c = 46 then Vaunid.digitsValue (a ++ b) else Vaunid.digitsValue a
  let low := if c = 47 then Vaunid.digitsValue b else if c = 46 then 10 ^ b.length else 1
  let g := Nat.gcd top low
  let good := decide (a.length ≤ Vaunid.MOSTSIGNS) && (decide (b.length ≤ Vaunid.MOSTSIGNS) && (low != 0 && (Vaunid.fits (top / g) && Vaunid.fits (low / g))))
  if good = true then some (top / g, low / g) else none
def lowest (o u : Nat) : Option (Nat × Nat) := if u = 0 then none else if 10 ^ 12 ≤ o / Nat.gcd o u ∨ 10 ^ 12 ≤ u / Nat.gcd o u then none else some (o / Nat.gcd o u, u / Nat.gcd o u)
theorem frac_lowest {a b : List Nat} {c : Nat} (ha : a.length ≤ 12) (hb : b.length ≤ 12) :
    frac a c b = lowest (if c = 46 then Vaunid.digitsValue (a ++ b) else Vaunid.digitsValue a) (if c = 47 then Vaunid.digitsValue b else if c = 46 then 10 ^ b.length else 1) := by
  unfold frac lowest
  dsimp only
  generalize (if c = 46 then Vaunid.digitsValue (a ++ b) else Vaunid.digitsValue a) = o
  generalize (if c = 47 then Vaunid.digitsValue b else if c = 46 then 10 ^ b.length else 1) = u
  rw [decide_eq_true (show a.length ≤ Vaunid.MOSTSIGNS from ha), decide_eq_true (show b.length ≤ Vaunid.MOSTSIGNS from hb)]
  unfold Vaunid.fits
  by_cases h0 : u = 0
  · subst h0
    simp
  · rw [if_neg h0]
    by_cases h1 : 10 ^ 12 ≤ o / o.gcd u ∨ 10 ^ 12 ≤ u / o.gcd u
    · rw [if_pos h1, if_neg]
      simp only [Bool.true_and, Bool.and_eq_true, bne_iff_ne, decide_eq_true_eq]
      omega
    · rw [if_neg h1, if_pos]
      simp only [Bool.true_and, Bool.and_eq_true, bne_iff_ne, decide_eq_true_eq]
      omega
theorem frac_long {a b : List Nat} {c : Nat} (h : 12 < a.length ∨ 12 < b.length) : frac a c b = none := by
  unfold frac
  dsimp only
  rw [if_neg]
  simp only [Bool.and_eq_true, decide_eq_true_eq]
  have : Vaunid.MOSTSIGNS = 12 := rfl
  omega
/-! ### an amount -/
def afs (o u : Int) (m : Str) : List (Str × V) := [("over", .int o), ("under", .int u), ("measure", .str m)]
theorem afs_over {o u : Int} {m : Str} : (afs o u m).lookup ("over" : Str) = some (.int o) := rfl
theorem afs_under {o u : Int} {m : Str} : (afs o u m).lookup ("under" : Str) = some (.int u) := rfl
theorem afs_measure {o u : Int} {m : Str} : (afs o u m).lookup ("measure" : Str) = some (.str m) := rfl
def AmountAt (C : Addr) (H : Hp) (a : Addr) (o u : Int) (m : List Nat) : Prop := ∃ dx, H a = some (.ins C dx (afs o u (S m)))
theorem AmountAt.same {C : Addr} {H H' : Hp} {a : Addr} {o u : Int} {m : List Nat} (h : AmountAt C H a o u m) (s : Same H H') : AmountAt C H' a o u m := let ⟨dx, e⟩ := h; ⟨dx, s _ _ e⟩
/-- a class's __init__ that stores its arguments -/
def spInit (C : Addr) (names : List Str) : Sp := fun vs H Q _ => ∃ (p dx : Addr) (args : List V), vs = .ref p :: args ∧ args.length = names.length ∧ H p = some (.ins C dx []) ∧ Q .non (upd H p (.ins C dx (names.zip args)))
theorem same_make {H : Hp} {x dx : Addr} {o1 o2 : HO} (h1 : H x = none) (h2 : H dx = none) : Same H (upd (upd H dx o1) x o2) := fun b o e => by rw [upd_ne (ne_of_none e h1), upd_ne (ne_of_none e h2)]; exact e
/-- an answer that is an amount or None -/
def ansFrac (C : Addr) (H : Hp) (Q : VK) (r : Option (Nat × Nat)) : Prop := match r with
  | none => ∀ H', Same H H' → Q .non H'
  | some (x, y) => ∀ (p : Addr) (H' : Hp), Same H H' → AmountAt C H' p (x : Int) (y : Int) [] → Q (.ref p) H'
theorem ansFrac.mono {C : Addr} {H H1 : Hp} {Q : VK} {r : Option (Nat × Nat)} (h : ansFrac C H Q r) (s : Same H H1) : ansFrac C H1 Q r := by
  cases r with
  | none => exact fun H' s' => h H' (s.trans s')
  | some p => exact fun a H' s' q => h a H' (s.trans s') q
end M
namespace L2
open PySem PySem.Spec PyProof.Rows TL
theorem pe_r {X : Cx} {x : Str} {a : Addr} {pos : Pos} (h : X.mg x = some (.ref a)) (hg : Gl X x := by rfl) (hd : (x == ("__debug__" : Str)) = false := by decide) : PE X (.Name x pos) (tC (.ref a)) := pe_glob hg h rfl hd
theorem few0 {n : Nat} (h : n < 1000 := by decide) : n < 1000 := h
theorem few {f : Str} {v : V} {fs : List (Str × V)} {n : Nat} (h : fs.length ≤ n) : (putF f v fs).length ≤ n + 1 := Nat.le_trans (length_putF f v fs) (Nat.add_le_add_right h 1)
theorem few1 {f1 : Str} {v1 : V} : (putF f1 v1 []).length < 1000 := Nat.lt_of_le_of_lt (few (n := 0) (Nat.le_refl _)) (by decide)
theorem few2 {f1 f2 : Str} {v1 v2 : V} : (putF f2 v2 (putF f1 v1 [])).length < 1000 := Nat.lt_of_le_of_lt (few (few (n := 0) (Nat.le_refl _))) (by decide)
theorem few3 {f1 f2 f3 : Str} {v1 v2 v3 : V} : (putF f3 v3 (putF f2 v2 (putF f1 v1 []))).length < 1000 := Nat.lt_of_le_of_lt (few (few (few (n := 0) (Nat.le_refl _)))) (by decide)
theorem few4 {f1 f2 f3 f4 : Str} {v1 v2 v3 v4 : V} : (putF f4 v4 (putF f3 v3 (putF f2 v2 (putF f1 v1 [])))).length < 1000 := Nat.lt_of_le_of_lt (few (few (few (few (n := 0) (Nat.le_refl _))))) (by decide)
theorem in_ints (x : Int) (l : List Int) : inV (.int x) (l.map V.int) = l.contains x := by
  unfold inV
  induction l with
  | nil => rfl
  | cons a r ih =>
    rw [List.map_cons, List.any_cons, ih, List.contains_cons]
    congr 1
    show (a == x) = (x == a)
    exact Bool.beq_comm
theorem flat_ints (l : List Int) : (l.map V.int).all flatV = true := by
  rw [List.all_map]
  exact List.all_eq_true.mpr fun _ _ => rfl
theorem in_strs (x : Str) (l : List Str) : inV (.str x) (l.map V.str) = l.any (· == x) := by
  unfold inV
  rw [List.any_map]
  rfl
theorem flat_strs (l : List Str) : (l.map V.str).all flatV = true := by
  rw [List.all_map]
  exact List.all_eq_true.mpr fun _ _ => rfl
end L2

set_option Elab.async false
set_option linter.all false
set_option maxRecDepth 100000
namespace M
open PySem PySem.Spec PyProof.Rows L2 TL
open Vaunid (isSmall isDigit inWord)
theorem dw_drop (p : Nat → Bool) : ∀ l : List Nat, l.dropWhile p = l.drop (l.takeWhile p).length
  | [] => rfl
  | c :: r => by
    rw [List.dropWhile_cons, List.takeWhile_cons]
    split
    · rw [dw_drop p r, List.length_cons, List.drop_succ_cons]
    · rfl
theorem tw_le (p : Nat → Bool) (l : List Nat) : (l.takeWhile p).length ≤ l.length := List.Sublist.length_le (List.takeWhile_sublist p)
theorem drop_at {t : List Nat} {i c : Nat} (h : t[i]? = some c) : t.drop i = c :: t.drop (i + 1) := by
  obtain ⟨h1, h2⟩ := List.getElem?_eq_some_iff.mp h
  rw [List.drop_eq_getElem_cons h1, h2]
/-- how many bytes a number text has -/
theorem num_size (s : List Nat) : (Vaunid.numberText s).1 = (match s.drop (s.takeWhile isDigit).length with
    | c :: d :: r => if (c = 47 ∨ c = 46) ∧ isDigit d = true then (s.takeWhile isDigit).length + (1 + ((d :: r).takeWhile isDigit).length) else (s.takeWhile isDigit).length
    | _ => (s.takeWhile isDigit).length) := by
  unfold Vaunid.numberText
  dsimp only
  rw [dw_drop]
  generalize (s.takeWhile isDigit).length = n
  generalize s.drop n = l
  match l with
  | [] => rfl
  | [c] => rfl
  | c :: d :: r =>
    unfold Vaunid.secondRow
    dsimp only
    by_cases h : (c = 47 ∨ c = 46) ∧ isDigit d = true
    · simp only [if_pos h]
      rw [if_neg (by omega)]
    · simp only [if_neg h, if_true, Nat.add_zero]
theorem num_short {t : List Nat} {p : Nat} (h : ¬ p + ((t.drop p).takeWhile isDigit).length + 1 < t.length) : (Vaunid.numberText (t.drop p)).1 = ((t.drop p).takeWhile isDigit).length := by
  rw [num_size, List.drop_drop]
  have hl : (t.drop (p + ((t.drop p).takeWhile isDigit).length)).length ≤ 1 := by rw [List.length_drop]; omega
  generalize t.drop (p + ((t.drop p).takeWhile isDigit).length) = l at hl
  match l, hl with
  | [], _ => rfl
  | [c], _ => rfl
  | _ :: _ :: _, hl => simp at hl
theorem num_long {t : List Nat} {p c d : Nat} (h1 : t[p + ((t.drop p).takeWhile isDigit).length]? = some c) (h2 : t[p + ((t.drop p).takeWhile isDigit).length + 1]? = some d) :
    (Vaunid.numberText (t.drop p)).1 = if (c = 47 ∨ c = 46) ∧ isDigit d = true then ((t.drop p).takeWhile isDigit).length + (1 + ((t.drop (p + ((t.drop p).takeWhile isDigit).length + 1)).takeWhile isDigit).length) else ((t.drop p).takeWhile isDigit).length := by
  rw [num_size, List.drop_drop, drop_at h1, drop_at h2]
theorem in_frac (c : Nat) : inV (.int (c : Int)) [V.int 46, V.int 47] = decide (c = 46 ∨ c = 47) := by
  have e := in_ints (c : Int) [46, 47]
  rw [show [V.int 46, V.int 47] = [46, 47].map V.int from rfl, e]
  rw [Bool.eq_iff_iff]
  simp
  omega
theorem slash_cut {a b : List Nat} (h : ∀ x ∈ a, isDigit x = true) (h2 : ∀ x ∈ b, isDigit x = true) : Txt.split (S (a ++ 47 :: b)) (Str.ofString "/") = [S a, S b] := by
  refine map_tl_inj ?_
  rw [split_slash]
  have na : 47 ∉ a := fun m => by have := h _ m; revert this; decide
  have nb : 47 ∉ b := fun m => by have := h2 _ m; revert this; decide
  have e := spl_part1 (s := 47) (S := []) (rest := b) (acc := []) na
  rw [spl_last1 nb] at e
  exact e
theorem dot_cut {a b : List Nat} (h : ∀ x ∈ a, isDigit x = true) (h2 : ∀ x ∈ b, isDigit x = true) : Txt.split (S (a ++ 46 :: b)) (Str.ofString ".") = [S a, S b] := by
  refine map_tl_inj ?_
  rw [split_dot]
  have na : 46 ∉ a := fun m => by have := h _ m; revert this; decide
  have nb : 46 ∉ b := fun m => by have := h2 _ m; revert this; decide
  have e := spl_part1 (s := 46) (S := []) (rest := b) (acc := []) na
  rw [spl_last1 nb] at e
  exact e
theorem dot_none {a : List Nat} (h : ∀ x ∈ a, isDigit x = true) : Txt.split (S a) (Str.ofString ".") = [S a] := by
  refine map_tl_inj ?_
  rw [split_dot]
  have na : 46 ∉ a := fun m => by have := h _ m; revert this; decide
  rw [spl_last1 na]
  rfl
theorem lens_max {K : PySem.W.Frag} {x0 x1 x3 : Option V} {H : Hp} {p : Addr} {ys : List Str} {R : VK} (hp : H p = some (.lst (ys.map V.str))) (hy : ∀ y ∈ ys, y.length ≤ sizeLine) (hl : ys.length ≤ sizeLine)
    (k : ∀ (D : Addr) (H' : Hp), Same H H' → H' D = some (.lst ((ys.map fun y => (y.length : Int)).map V.int)) → R (.ref D) H') :
    tLc (iList K (tVar 2)) (gName 3) tYes (tCB (fun xs H Q => ∃ z, xs = [V.str z] ∧ z.length ≤ sizeLine ∧ Q (V.int ↑z.length) H) (tCons (tVar 3) tNil)) [3] [x0, x1, some (.ref p), x3] H R := by
  refine tlc_of (Itl K p) (ys.map V.str) (fun v => match v with | .str z => V.int z.length | _ => .non) (H1 := H) (fun R h => ?_) (by rw [List.length_map]; exact hl) (go_list (SqL.of hp)) (fun x H' D acc Nx hx sm hD hacc nx => ?_) fun D H' hD sm e => ?_
  · exact ⟨_, rfl, p, rfl, ⟨_, SqL.of hp⟩, h⟩
  · obtain ⟨d, hd, rfl⟩ := List.mem_map.mp hx
    refine ⟨rfl, ?_⟩
    unfold tYes
    simp only [if_true]
    exact ⟨_, rfl, d, rfl, hy d hd, acc, hD, hacc, nx H' (Same.refl _)⟩
  · refine k D H' sm ?_
    rw [e, List.map_map, List.map_map]
    rfl
theorem slash_one : Str.ofString "/" = (⟨#[47]⟩ : Str) := by decide +kernel
theorem S_app (a b : List Nat) : S a ++ S b = S (a ++ b) := ext_tl (by rw [tl_append]; rfl)
theorem mulOk0 (n : Nat) (h : n ≤ 12) : MulOk (Str.ofString "0") (n : Int) := by
  have key : ∀ m : Fin 13, MulOk (Str.ofString "0") (m.1 : Int) := by
    unfold MulOk
    decide +kernel
  exact key ⟨n, by omega⟩
theorem one_str : Str.ofString "1" = S [49] := by decide +kernel
theorem one_ten (n : Nat) (h : n ≤ 12) : intText? (Str.ofString "1" ++ Txt.mul (Str.ofString "0") (n : Int)) = some ((10 ^ n : Nat) : Int) ∧ (Str.ofString "1" ++ Txt.mul (Str.ofString "0") (n : Int)).length ≤ 640 ∧ (Str.ofString "1").length + (Txt.mul (Str.ofString "0") (n : Int)).length ≤ sizeLine := by
  rw [mul_zeros, one_str, S_app, S_len, S_len, S_len]
  have e := int_of (l := [49] ++ List.replicate n 48) (fun c hc => by
    rcases List.mem_append.mp hc with q | q
    · rw [List.mem_singleton.mp q]; decide
    · rw [(List.mem_replicate.mp q).2]; decide) (by simp) (by simp; omega)
  refine ⟨?_, by simp; omega, ?_⟩
  · rw [e]
    congr 2
    exact dv_ten n
  · rw [List.length_replicate]
    exact Nat.le_trans (show 1 + n ≤ 13 by omega) (by decide)
end M

set_option Elab.async false
set_option linter.all false
set_option maxRecDepth 100000
namespace M
open PySem PySem.Spec PyProof.Rows L2 TL
open Vaunid (isSmall isDigit inWord)
theorem cut_from (l : List Nat) (k : Nat) : cutS (S l) (some (k : Int)) none = S (l.drop k) := by
  refine ext_tl ?_
  unfold cutS
  rw [tl_mk, tl_S, HT.sIx_nat, HT.sIx_none, S_tlz, S_len]
  by_cases h : k ≤ l.length
  · rw [Nat.min_eq_left h]
    exact List.take_of_length_le (by rw [List.length_drop]; omega)
  · rw [Nat.min_eq_right (by omega), List.drop_eq_nil_of_le (Nat.le_refl _), List.drop_eq_nil_of_le (by omega)]
    simp
theorem cut_to (l : List Nat) (k : Nat) : cutS (S l) none (some (k : Int)) = S (l.take k) := by
  refine ext_tl ?_
  unfold cutS
  rw [tl_mk, tl_S, HT.sIx_nat, HT.sIx_none, S_tlz, S_len, List.drop_zero, Nat.sub_zero]
  rw [Nat.min_def]
  split
  · rfl
  · rw [List.take_length, List.take_of_length_le (by omega)]
theorem cutV_nat (t : List Nat) (i j : Nat) (hi : i ≤ t.length) (hj : j ≤ t.length) : cutV (bs t) (some (i : Int)) (some (j : Int)) = bs ((t.drop i).take (j - i)) := by
  unfold cutV
  rw [HT.sIx_nat, HT.sIx_nat, bs_len, Nat.min_eq_left hi, Nat.min_eq_left hj, bs_drop, bs_take]
theorem cutV_nat2 (t : List Nat) (i j : Nat) (hi : i ≤ t.length) : cutV (bs t) (some (i : Int)) (some (j : Int)) = bs ((t.drop i).take (j - i)) := by
  unfold cutV
  rw [HT.sIx_nat, HT.sIx_nat, bs_len, Nat.min_eq_left hi, bs_drop, bs_take]
  by_cases h : j ≤ t.length
  · rw [Nat.min_eq_left h]
  · rw [Nat.min_eq_right (by omega), List.take_of_length_le (by rw [List.length_drop]; exact Nat.le_refl _), List.take_of_length_le (l := t.drop i) (by rw [List.length_drop]; omega)]
theorem starts_minus (l : List Nat) : Txt.startswith (S l) (Str.ofString "-") = decide (l.head? = some 45) := by
  match l with
  | [] => decide +kernel
  | c :: r =>
    unfold Txt.startswith
    have e1 : (Str.ofString "-").length = 1 := by decide +kernel
    rw [S_len, e1, List.length_cons, decide_eq_true (by omega), Bool.true_and]
    have e2 : Builtin.Str.subAt (S (c :: r)) (Str.ofString "-") 0 = decide (c = 45) := by
      rw [StrLaws.subAt_eq, e1, S_tlz, show (Str.ofString "-").cps.toList = [45] by decide +kernel]
      show ([c] == [45]) = _
      rw [Bool.eq_iff_iff]
      simp
    rw [e2]
    simp
theorem chars_all {b : Nat → Bool} {x0 x2 : Option V} {H : Hp} {l : List Nat} {R : VK} (hl : l.length ≤ sizeLine) (k : ∀ (D : Addr) (H' : Hp), Same H H' → H' D = some (.lst ((l.map b).map V.bl)) → R (.ref D) H') :
    tLc (iStr (tVar 1)) (gName 2) tYes (tCall (spB b) [] E0 (tCons (tCB (fun xs H Q => ∃ x, xs = [V.str x] ∧ x.length = 1 ∧ Q (V.int ↑(x.cps.getD 0 0)) H) (tCons (tVar 2) tNil)) tNil)) [2] [x0, some (.str (S l)), x2] H R := by
  refine tlc_of (Its (S l)) (l.map fun d => V.str ⟨#[d]⟩) (fun v => match v with | .str x => V.bl (b (x.cps.getD 0 0)) | _ => .non) (H1 := H) (fun R h => ?_) (by rw [List.length_map]; exact hl) (go_str (x := S l)) (fun x H' D acc Nx hx sm hD hacc nx => ?_) fun D H' hD sm e => ?_
  · exact ⟨_, rfl, _, rfl, h⟩
  · obtain ⟨d, hd, rfl⟩ := List.mem_map.mp hx
    refine ⟨rfl, ?_⟩
    unfold tYes
    simp only [if_true]
    exact ⟨_, rfl, _, rfl, rfl, d, rfl, acc, hD, hacc, nx H' (Same.refl _)⟩
  · refine k D H' sm ?_
    rw [e, List.map_map, List.map_map]
    rfl
theorem hat_one : Str.ofString "^" = (⟨#[94]⟩ : Str) := by decide +kernel
theorem part_hat {l : List Nat} (h : 94 ∈ l) : Txt.partition (S l) (Str.ofString "^") = (S (l.takeWhile (· != 94)), Str.ofString "^", S ((l.dropWhile (· != 94)).drop 1)) := by
  have hl : l = l.takeWhile (· != 94) ++ l.dropWhile (· != 94) := List.takeWhile_append_dropWhile.symm
  have hn : 94 ∉ l.takeWhile (· != 94) := fun m => by have := tw_all _ _ m; simp at this
  cases q : l.dropWhile (· != 94) with
  | nil =>
    rw [q, List.append_nil] at hl
    rw [hl] at h
    exact absurd h hn
  | cons e s =>
    have he : e = 94 := by have := dw_head _ q; simpa using this
    subst he
    rw [q] at hl
    have e := partition_app (y := Str.ofString "^") (s := 94) (S := []) (by decide +kernel) (a := S (l.takeWhile (· != 94))) (b := S s) hn
    have e2 : S (l.takeWhile (· != 94)) ++ Str.ofString "^" ++ S s = S l := by
      rw [show Str.ofString "^" = S [94] by decide +kernel, S_app, S_app, List.append_assoc]
      exact congrArg S hl.symm
    rw [e2] at e
    rw [e]
    rfl
end M
namespace L2
open PySem PySem.Spec PyProof.Rows TL
theorem tfor_list {K : PySem.W.Frag} {a : Addr} {wi : TI} {g : TG} {tb : TS} {D : Ends} {σ : St} {H H1 : Hp} (xs : List V) (hw : ∀ R : It → Hp → Prop, R (Itl K a) H1 → wi σ H R) (Pv : Nat → St → Hp → Prop) (h0 : Pv 0 σ H1) (hl : ∀ i σ H, i ≤ xs.length → Pv i σ H → SqL K H a xs)
    (hs : ∀ i x σ H, xs[i]? = some x → Pv i σ H → g x σ H fun σ2 H2 => tb { D with nx := Pv (i + 1), ct := Pv (i + 1), bk := D.nx } σ2 H2) (hd : ∀ σ H, Pv xs.length σ H → D.nx σ H) : tFor wi g tb D σ H :=
  hw _ (for_list Pv h0 hl hs hd)
def ForOk (g : TG) (tb : TS) (D : Ends) (σ : St) (J : It) (H1 : Hp) : Prop := ∃ W : Nat → Nat → St → Hp → Prop, (∃ m, W 0 m σ H1) ∧ ∀ i m σ H, W i m σ H →
  (J.stop i H ∧ D.nx σ H) ∨ (J.go i H ∧ ∃ N : St → Hp → Prop, (∀ σ' H', N σ' H' → ∃ m', m' < m ∧ W (i + 1) m' σ' H') ∧ ∀ x H', J.yld i H x H' → g x σ H' fun σ2 H2 => tb { D with nx := N, ct := N, bk := D.nx } σ2 H2)
theorem tfor_intro {wi : TI} {g : TG} {tb : TS} {D : Ends} {σ : St} {H : Hp} (h : wi σ H (ForOk g tb D σ)) : tFor wi g tb D σ H := h
theorem forok_list {K : PySem.W.Frag} {a : Addr} {g : TG} {tb : TS} {D : Ends} {σ : St} {H1 : Hp} (xs : List V) (Pv : Nat → St → Hp → Prop) (h0 : Pv 0 σ H1) (hl : ∀ i σ H, i ≤ xs.length → Pv i σ H → SqL K H a xs)
    (hs : ∀ i x σ H, xs[i]? = some x → Pv i σ H → g x σ H fun σ2 H2 => tb { D with nx := Pv (i + 1), ct := Pv (i + 1), bk := D.nx } σ2 H2) (hd : ∀ σ H, Pv xs.length σ H → D.nx σ H) : ForOk g tb D σ (Itl K a) H1 :=
  for_list Pv h0 hl hs hd
end L2

set_option Elab.async false
set_option linter.all false
set_option maxRecDepth 100000
namespace M
open PySem PySem.Spec PyProof.Rows L2 TL
open Vaunid (isSmall isDigit inWord inComment)
/-- the sign that stands for a byte -/
def sgn (c : Nat) : Nat := if (32 ≤ c ∧ c ≤ 126) ∧ c ≠ 37 then c else 63
theorem sgn_or (c : Nat) : sgn c = c ∨ (sgn c = 63 ∧ ¬ ((32 ≤ c ∧ c ≤ 126) ∧ c ≠ 37)) := by
  unfold sgn
  by_cases h : (32 ≤ c ∧ c ≤ 126) ∧ c ≠ 37
  · rw [if_pos h]; exact .inl rfl
  · rw [if_neg h]; exact .inr ⟨rfl, h⟩
theorem sgn_pred {q : Nat → Bool} (h63 : q 63 = false) (hq : ∀ c, q c = true → (32 ≤ c ∧ c ≤ 126) ∧ c ≠ 37) (c : Nat) : q (sgn c) = q c := by
  rcases sgn_or c with e | ⟨e, h⟩
  · rw [e]
  · rw [e, h63]
    cases r : q c with
    | false => rfl
    | true => exact absurd (hq c r) h
theorem small_rng {c : Nat} (h : isSmall c = true) : 97 ≤ c ∧ c ≤ 122 := by unfold isSmall at h; simpa using h
theorem digit_rng {c : Nat} (h : isDigit c = true) : 48 ≤ c ∧ c ≤ 57 := by unfold isDigit at h; simpa using h
theorem word_rng {c : Nat} (h : inWord c = true) : (97 ≤ c ∧ c ≤ 122) ∨ (48 ≤ c ∧ c ≤ 57) ∨ c = 95 := by
  unfold inWord at h
  rcases Bool.or_eq_true_iff.mp h with q | q
  · exact .inl (small_rng q)
  · rcases Bool.or_eq_true_iff.mp q with q | q
    · exact .inr (.inl (digit_rng q))
    · exact .inr (.inr (eq_of_beq q))
theorem sgn_small (c : Nat) : isSmall (sgn c) = isSmall c := sgn_pred (by decide) (fun c h => by have := small_rng h; omega) c
theorem sgn_digit (c : Nat) : isDigit (sgn c) = isDigit c := sgn_pred (by decide) (fun c h => by have := digit_rng h; omega) c
theorem sgn_word (c : Nat) : inWord (sgn c) = inWord c := sgn_pred (by decide) (fun c h => by have := word_rng h; omega) c
theorem sgn_beq (d : Nat) (h : (32 ≤ d ∧ d ≤ 126) ∧ d ≠ 37 ∧ d ≠ 63) (c : Nat) : (sgn c == d) = (c == d) := sgn_pred (q := fun c => c == d) (by simp; omega) (fun c e => by have := eq_of_beq e; omega) c
theorem sgn_sep (c : Nat) : sep (sgn c) = sep c := by unfold sep; rw [sgn_beq 46 (by decide), sgn_beq 47 (by decide)]
theorem sgn_plain {c : Nat} (h : (32 ≤ c ∧ c ≤ 126) ∧ c ≠ 37) : sgn c = c := if_pos h
theorem map_sgn {l : List Nat} (h : ∀ c ∈ l, (32 ≤ c ∧ c ≤ 126) ∧ c ≠ 37) : l.map sgn = l := by
  induction l with
  | nil => rfl
  | cons c r ih => rw [List.map_cons, sgn_plain (h c (List.mem_cons_self ..)), ih fun x hx => h x (List.mem_cons_of_mem _ hx)]
theorem map_word {l : List Nat} (h : ∀ c ∈ l, inWord c = true) : l.map sgn = l := map_sgn fun c hc => by have := word_rng (h c hc); omega
/-! ### measures by their signs -/
theorem all_sgn {q : Nat → Bool} (h : ∀ c, q (sgn c) = q c) (l : List Nat) : (l.map sgn).all q = l.all q := by
  rw [List.all_map]
  congr 1
  funext c
  exact h c
theorem tw_sgn {q : Nat → Bool} (h : ∀ c, q (sgn c) = q c) : ∀ l : List Nat, (l.map sgn).takeWhile q = (l.takeWhile q).map sgn
  | [] => rfl
  | c :: r => by
    rw [List.map_cons, List.takeWhile_cons, List.takeWhile_cons, h c]
    split
    · rw [tw_sgn h r, List.map_cons]
    · rfl
theorem dw_sgn {q : Nat → Bool} (h : ∀ c, q (sgn c) = q c) : ∀ l : List Nat, (l.map sgn).dropWhile q = (l.dropWhile q).map sgn
  | [] => rfl
  | c :: r => by
    rw [List.map_cons, List.dropWhile_cons, List.dropWhile_cons, h c]
    split
    · exact dw_sgn h r
    · rfl
theorem short_sgn (l : List Nat) : shortWord (l.map sgn) = shortWord l := by
  unfold shortWord
  rw [all_sgn sgn_word, List.length_map]
  cases l with
  | nil => rfl
  | cons c r =>
    rw [List.map_cons, List.headD_cons, List.headD_cons, sgn_small]
    rfl
theorem power_sgn (l : List Nat) : isPower (l.map sgn) = isPower l := by
  unfold isPower
  have e : ((l.map sgn).head? = some 45) = (l.head? = some 45) := by
    cases l with
    | nil => rfl
    | cons c r =>
      have := sgn_beq 45 (by decide) c
      rw [List.map_cons, List.head?_cons, List.head?_cons]
      rw [Bool.eq_iff_iff] at this
      simpa using this
  simp only [e]
  split
  · cases l with
    | nil => rfl
    | cons c r =>
      rw [List.map_cons, List.tail_cons, List.tail_cons, all_sgn sgn_digit, List.length_map]
      cases r <;> rfl
  · rw [all_sgn sgn_digit, List.length_map]
    simp
theorem factor_sgn (l : List Nat) : isFactor (l.map sgn) = isFactor l := by
  unfold isFactor
  have n94 : ∀ c, (sgn c != 94) = (c != 94) := fun c => by unfold bne; rw [sgn_beq 94 (by decide)]
  have e1 : (l.map sgn == [49]) = (l == [49]) := by
    match l with
    | [] => rfl
    | [c] =>
      have := sgn_beq 49 (by decide) c
      show ([sgn c] == [49]) = ([c] == [49])
      rw [Bool.eq_iff_iff] at this ⊢
      simpa using this
    | c :: d :: r => simp
  have e2 : (l.map sgn).contains 94 = l.contains 94 := by
    rw [List.contains_eq_any_beq, List.contains_eq_any_beq, List.any_map]
    congr 1
    funext c
    show (94 == sgn c) = (94 == c)
    rw [Bool.beq_comm, sgn_beq 94 (by decide), Bool.beq_comm]
  rw [e1, e2, tw_sgn n94, dw_sgn n94, ← List.map_drop, short_sgn, short_sgn, power_sgn]
theorem cut_sgn : ∀ (l acc : List Nat), cut sep (acc.map sgn) (l.map sgn) = (cut sep acc l).map (List.map sgn)
  | [], acc => rfl
  | c :: r, acc => by
    show (if sep (sgn c) = true then acc.map sgn :: cut sep [] (r.map sgn) else cut sep (acc.map sgn ++ [sgn c]) (r.map sgn)) = (if sep c = true then acc :: cut sep [] r else cut sep (acc ++ [c]) r).map (List.map sgn)
    rw [sgn_sep]
    split
    · rw [List.map_cons]
      exact congrArg _ (cut_sgn r [])
    · have := cut_sgn r (acc ++ [c])
      rw [List.map_append] at this
      exact this
theorem measure_sgn (l : List Nat) : Vaunid.measureText ((l.map sgn).length + 1) (l.map sgn) = Vaunid.measureText (l.length + 1) l := by
  rw [measure_eq _ _ (by omega), measure_eq _ _ (by omega)]
  have e := cut_sgn l []
  rw [List.map_nil] at e
  rw [e, List.all_map]
  congr 1
  funext f
  exact factor_sgn f
end M

set_option Elab.async false
set_option linter.all false
set_option maxRecDepth 100000
namespace M
open PySem PySem.Spec PyProof.Rows L2 TL
open Vaunid (isSmall isDigit inWord inComment)
/-! ### signs of a measure are plain -/
def mch (c : Nat) : Bool := inWord c || (c == 94 || (c == 45 || (c == 46 || c == 47)))
theorem mch_plain {c : Nat} (h : mch c = true) : (32 ≤ c ∧ c ≤ 126) ∧ c ≠ 37 := by
  unfold mch at h
  rcases Bool.or_eq_true_iff.mp h with q | q
  · have := word_rng q; omega
  · simp at q; omega
theorem digit_word {c : Nat} (h : isDigit c = true) : inWord c = true := by unfold inWord; rw [h]; simp
theorem word_mch {c : Nat} (h : inWord c = true) : mch c = true := by unfold mch; rw [h]; rfl
theorem short_mch {l : List Nat} (h : shortWord l = true) : ∀ c ∈ l, mch c = true := fun c hc => by
  unfold shortWord at h
  simp only [Bool.and_eq_true] at h
  exact word_mch (List.all_eq_true.mp h.2.2.2 c hc)
theorem power_mch {l : List Nat} (h : isPower l = true) : ∀ c ∈ l, mch c = true := fun c hc => by
  unfold isPower at h
  by_cases q : l.head? = some 45
  · simp only [if_pos q, Bool.and_eq_true] at h
    cases l with
    | nil => cases q
    | cons d r =>
      cases q
      rcases List.mem_cons.mp hc with e | e
      · subst e; rfl
      · exact word_mch (digit_word (List.all_eq_true.mp h.2.2 c e))
  · simp only [if_neg q, Bool.and_eq_true] at h
    exact word_mch (digit_word (List.all_eq_true.mp h.2.2 c hc))
theorem factor_mch {l : List Nat} (h : isFactor l = true) : ∀ c ∈ l, mch c = true := fun c hc => by
  unfold isFactor at h
  rcases Bool.or_eq_true_iff.mp h with q | q
  · rw [eq_of_beq q] at hc
    rw [List.mem_singleton.mp hc]
    rfl
  · by_cases r : l.contains 94 = true
    · rw [if_pos r, Bool.and_eq_true] at q
      have hl : l = l.takeWhile (· != 94) ++ l.dropWhile (· != 94) := List.takeWhile_append_dropWhile.symm
      rw [hl] at hc
      rcases List.mem_append.mp hc with e | e
      · exact short_mch q.1 c e
      · cases z : l.dropWhile (· != 94) with
        | nil => rw [z] at e; simp at e
        | cons d s =>
          have hd : d = 94 := by have := dw_head _ z; simpa using this
          rw [z] at e q
          rcases List.mem_cons.mp e with e | e
          · rw [e, hd]; rfl
          · exact power_mch q.2 c e
    · rw [if_neg r] at q
      exact short_mch q c hc
theorem cut_mch : ∀ (l acc : List Nat), (cut sep acc l).all isFactor = true → ∀ c ∈ acc ++ l, mch c = true
  | [], acc, h, c, hc => by
    have h' : isFactor acc = true := by
      have := h
      simpa [cut] using this
    rw [List.append_nil] at hc
    exact factor_mch h' c hc
  | d :: r, acc, h, c, hc => by
    have h' : (if sep d = true then acc :: cut sep [] r else cut sep (acc ++ [d]) r).all isFactor = true := h
    by_cases q : sep d = true
    · rw [if_pos q, List.all_cons, Bool.and_eq_true] at h'
      rcases List.mem_append.mp hc with e | e
      · exact factor_mch h'.1 c e
      · rcases List.mem_cons.mp e with e | e
        · subst e
          unfold sep at q
          unfold mch
          rw [q]
          simp
        · exact cut_mch r [] h'.2 c (by simpa using e)
    · rw [if_neg q] at h'
      exact cut_mch r (acc ++ [d]) h' c (by simpa using hc)
theorem measure_map {m : List Nat} (h : Vaunid.measureText (m.length + 1) m = true) : m.map sgn = m := by
  rw [measure_eq _ _ (by omega)] at h
  exact map_sgn fun c hc => mch_plain (cut_mch m [] h c (by simpa using hc))
theorem measure_ne {m : List Nat} (h : Vaunid.measureText (m.length + 1) m = true) : m ≠ [] := by
  intro e
  subst e
  revert h
  decide
/-! ### the number text: its rest -/
theorem num_rest (s : List Nat) : (Vaunid.numberText s).2.2 = s.drop (Vaunid.numberText s).1 ∧ (Vaunid.numberText s).1 ≤ s.length := by
  have hs : (s.takeWhile isDigit).length ≤ s.length := tw_le _ _
  rw [num_size]
  unfold Vaunid.numberText
  dsimp only
  rw [dw_drop]
  have hd : ∀ l, s.drop (s.takeWhile isDigit).length = l → s.length = (s.takeWhile isDigit).length + l.length := fun l e => by rw [← e, List.length_drop]; omega
  cases q : s.drop (s.takeWhile isDigit).length with
  | nil => exact ⟨q.symm, hs⟩
  | cons c l =>
    have := hd _ q
    cases l with
    | nil => exact ⟨q.symm, hs⟩
    | cons d r =>
      unfold Vaunid.secondRow
      dsimp only
      rw [List.length_cons, List.length_cons] at this
      by_cases h : (c = 47 ∨ c = 46) ∧ isDigit d = true
      · simp only [if_pos h]
        have tl2 := tw_le isDigit (d :: r)
        rw [List.length_cons] at tl2
        have key : (s.takeWhile isDigit).length + (1 + ((d :: r).takeWhile isDigit).length) ≤ s.length := by omega
        refine ⟨?_, key⟩
        rw [dw_drop, ← Nat.add_assoc, ← List.drop_drop, ← List.drop_drop, q]
        rfl
      · simp only [if_neg h]
        exact ⟨q.symm, hs⟩
theorem num_pos {s : List Nat} {c : Nat} {r : List Nat} (e : s = c :: r) (h : isDigit c = true) : 1 ≤ (Vaunid.numberText s).1 := by
  rw [num_size]
  have : 1 ≤ (s.takeWhile isDigit).length := by
    rw [e, List.takeWhile_cons, h]
    simp
  split
  · split
    · exact Nat.le_trans this (Nat.le_add_right _ _)
    · exact this
  · exact this
theorem tw_take (p : Nat → Bool) : ∀ s : List Nat, s.take (s.takeWhile p).length = s.takeWhile p
  | [] => rfl
  | c :: r => by
    rw [List.takeWhile_cons]
    split
    · rw [List.length_cons, List.take_succ_cons, tw_take p r]
    · rfl
theorem take_plus (s : List Nat) (n k : Nat) : s.take (n + k) = s.take n ++ (s.drop n).take k := List.take_add
/-- the spelling of a number text in its rows -/
theorem num_spell (s : List Nat) : ∃ (b : List Nat) (c : Nat), s.take (Vaunid.numberText s).1 = s.takeWhile isDigit ++ (if c = 0 then [] else c :: b) ∧
    ((c = 0 ∧ b = []) ∨ ((c = 46 ∨ c = 47) ∧ b ≠ [] ∧ ∀ x ∈ b, isDigit x = true)) ∧ (Vaunid.numberText s).2.1 = frac (s.takeWhile isDigit) c b ∧ (s.takeWhile isDigit).length + b.length ≤ s.length := by
  have hs : (s.takeWhile isDigit).length ≤ s.length := tw_le _ _
  have ht := tw_take isDigit s
  have hd : ∀ l, s.drop (s.takeWhile isDigit).length = l → s.length = (s.takeWhile isDigit).length + l.length := fun l e => by rw [← e, List.length_drop]; omega
  rw [num_size]
  have plain : Vaunid.secondRow (s.dropWhile isDigit) = (0, [], s.dropWhile isDigit) → s.take (s.takeWhile isDigit).length = s.takeWhile isDigit ++ (if 0 = 0 then [] else 0 :: []) ∧ (Vaunid.numberText s).2.1 = frac (s.takeWhile isDigit) 0 [] := fun e => by
    refine ⟨by rw [ht]; simp, ?_⟩
    unfold Vaunid.numberText
    dsimp only
    rw [e]
    rfl
  cases q : s.drop (s.takeWhile isDigit).length with
  | nil =>
    obtain ⟨p1, p2⟩ := plain (by rw [dw_drop, q]; rfl)
    exact ⟨[], 0, p1, .inl ⟨rfl, rfl⟩, p2, hs⟩
  | cons c l =>
    have := hd _ q
    cases l with
    | nil =>
      obtain ⟨p1, p2⟩ := plain (by rw [dw_drop, q]; rfl)
      exact ⟨[], 0, p1, .inl ⟨rfl, rfl⟩, p2, hs⟩
    | cons d r =>
      dsimp only
      rw [List.length_cons, List.length_cons] at this
      by_cases h : (c = 47 ∨ c = 46) ∧ isDigit d = true
      · rw [if_pos h]
        have tl2 := tw_le isDigit (d :: r)
        rw [List.length_cons] at tl2
        have hc0 : c ≠ 0 := by omega
        refine ⟨(d :: r).takeWhile isDigit, c, ?_, .inr ⟨by omega, ?_, fun x hx => tw_all _ x hx⟩, ?_, by omega⟩
        · rw [take_plus, ht, q, if_neg hc0, Nat.add_comm 1, List.take_succ_cons, tw_take]
        · rw [List.takeWhile_cons, h.2]
          simp
        · have e : Vaunid.secondRow (s.dropWhile isDigit) = (c, (d :: r).takeWhile isDigit, (d :: r).dropWhile isDigit) := by
            rw [dw_drop, q]
            unfold Vaunid.secondRow
            dsimp only
            rw [if_pos h]
          unfold Vaunid.numberText
          dsimp only
          rw [e]
          rfl
      · rw [if_neg h]
        obtain ⟨p1, p2⟩ := plain (by
          rw [dw_drop, q]
          unfold Vaunid.secondRow
          dsimp only
          rw [if_neg h])
        exact ⟨[], 0, p1, .inl ⟨rfl, rfl⟩, p2, hs⟩
/-! ### tokens: where they end, and what is behind -/
structure TokFact (p : Nat) (s : List Nat) (k : Vaunid.Token) (r : List Nat) : Prop where
  start : k.start = p
  lt : p < k.halt_
  le : k.halt_ ≤ p + s.length
  rest : r = s.drop (k.halt_ - p)
theorem word_fact {p : Nat} {s r : List Nat} {k : Vaunid.Token} {c : Nat} {s' : List Nat} (e : s = c :: s') (hc : isSmall c = true) (h : Vaunid.wordToken p s = .ok (k, r)) : TokFact p s k r := by
  unfold Vaunid.wordToken at h
  dsimp only at h
  split at h
  · cases h
  · cases h
    have h1 : 1 ≤ (s.takeWhile inWord).length := by
      rw [e, List.takeWhile_cons, small_word hc]
      simp
    exact ⟨rfl, Nat.lt_add_of_pos_right h1, Nat.add_le_add_left (tw_le _ _) _, by rw [Nat.add_sub_cancel_left, dw_drop]⟩
theorem num_fact {p : Nat} {s r : List Nat} {k : Vaunid.Token} {neg : Bool} {c : Nat} {s' : List Nat} (e : (if neg = true then s.drop 1 else s) = c :: s') (hc : isDigit c = true) (h : Vaunid.numberToken neg p s = .ok (k, r)) : TokFact p s k r := by
  unfold Vaunid.numberToken at h
  dsimp only at h
  have hpos := num_pos e hc
  obtain ⟨hrest, hle⟩ := num_rest (if neg = true then s.drop 1 else s)
  generalize hx : Vaunid.numberText (if neg = true then s.drop 1 else s) = x at h hpos hrest hle
  obtain ⟨n, o, rest⟩ := x
  dsimp only at h hpos hrest hle
  have hn : n + (if neg = true then 1 else 0) ≤ s.length := by
    cases neg with
    | false => simpa using hle
    | true =>
      simp only [if_true] at e hle ⊢
      rw [List.length_drop] at hle
      have : s ≠ [] := by intro z; subst z; simp at e
      have : 1 ≤ s.length := List.length_pos_iff.mpr this
      omega
  have hr : rest = s.drop (n + (if neg = true then 1 else 0)) := by
    rw [hrest]
    cases neg with
    | false => rfl
    | true =>
      simp only [if_true]
      rw [List.drop_drop, Nat.add_comm]
  generalize hm : n + (if neg = true then 1 else 0) = sz at h hn hr
  have hsz : 1 ≤ sz := by omega
  cases o with
  | none => cases h
  | some tl =>
    obtain ⟨top, low⟩ := tl
    dsimp only at h
    split at h
    · rename_i r2
      split at h
      · cases h
      · rename_i hne
        cases h
        have hl : s.length = sz + (r2.length + 1) := by
          have := congrArg List.length hr
          rw [List.length_cons, List.length_drop] at this
          omega
        have hm2 : (r2.takeWhile fun c => c != 93).length < r2.length := by
          have h1 := tw_le (fun c => c != 93) r2
          have h2 : (r2.takeWhile fun c => c != 93).length ≠ r2.length := fun z => hne (.inl z)
          omega
        refine ⟨rfl, ?_, ?_, ?_⟩
        · show p < p + sz + _ + 2
          omega
        · show p + sz + _ + 2 ≤ _
          omega
        · show r2.drop _ = s.drop (p + sz + _ + 2 - p)
          have e1 : p + sz + (r2.takeWhile fun c => c != 93).length + 2 - p = sz + (1 + ((r2.takeWhile fun c => c != 93).length + 1)) := by omega
          have e2 : s.drop (sz + (1 + ((r2.takeWhile fun c => c != 93).length + 1))) = ((s.drop sz).drop 1).drop ((r2.takeWhile fun c => c != 93).length + 1) := by
            rw [List.drop_drop, List.drop_drop, ← Nat.add_assoc]
          rw [e1, e2, ← hr]
          rfl
    · cases h
      exact ⟨rfl, Nat.lt_add_of_pos_right hsz, Nat.add_le_add_left hn _, by rw [Nat.add_sub_cancel_left]; exact hr⟩
theorem sign_fact {p : Nat} {s r : List Nat} {k : Vaunid.Token} {L : List (List Nat)} (hL : ∀ x ∈ L, x ≠ []) (h : Vaunid.signToken L p s = .ok (k, r)) : TokFact p s k r := by
  unfold Vaunid.signToken at h
  split at h
  · rename_i x hx
    cases h
    have hm := List.mem_of_find?_eq_some hx
    have hp := List.find?_some hx
    have hpos : 1 ≤ x.length := List.length_pos_iff.mpr (hL x hm)
    have hpre : x <+: s := List.isPrefixOf_iff_prefix.mp hp
    exact ⟨rfl, Nat.lt_add_of_pos_right hpos, Nat.add_le_add_left hpre.length_le _, by rw [Nat.add_sub_cancel_left]⟩
  · cases h
theorem token_fact {core : Bool} {p : Nat} {s r : List Nat} {k : Vaunid.Token} (h : Vaunid.token core p s = .ok (k, r)) : TokFact p s k r := by
  unfold Vaunid.token at h
  cases s with
  | nil => cases h
  | cons c s' =>
    dsimp only at h
    split at h
    · exact word_fact rfl (by assumption) h
    · split at h
      · exact num_fact (neg := false) rfl (by assumption) h
      · split at h
        · rename_i hc
          obtain ⟨_, hm⟩ := hc
          unfold Vaunid.minusDigit at hm
          split at hm
          · rename_i z
            cases z
            exact num_fact (neg := true) rfl hm h
          · cases hm
        · refine sign_fact (fun x hx => ?_) h
          cases core with
          | true =>
            intro e
            subst e
            revert hx
            decide +kernel
          | false =>
            intro e
            subst e
            revert hx
            decide +kernel
/-! ### gaps -/
def gap (core : Bool) : Nat → Nat → List Nat → Vaunid.Res (Nat × List Nat)
  | _, p, [] => .ok (p, [])
  | 0, p, s => .ok (p, s)
  | n + 1, p, c :: r =>
    if c = 32 ∨ (core = false ∧ c = 10) then gap core n (p + 1) r
    else if core = false ∧ c = 123 then
      (match r.dropWhile inComment with
      | [] => Vaunid.fault 2 p
      | 125 :: s => gap core n (p + (r.takeWhile inComment).length + 2) s
      | _ => Vaunid.fault 1 (p + 1 + (r.takeWhile inComment).length))
    else .ok (p, c :: r)
theorem dw_len (q : Nat → Bool) (l : List Nat) : (l.dropWhile q).length ≤ l.length := by rw [dw_drop, List.length_drop]; omega
theorem gap_fuel (core : Bool) : ∀ (n m p : Nat) (s : List Nat), s.length < n → s.length < m → gap core n p s = gap core m p s
  | n, m, p, [], _, _ => by cases n <;> cases m <;> rfl
  | 0, _, _, _ :: _, h, _ => by simp at h
  | _, 0, _, _ :: _, _, h => by simp at h
  | n + 1, m + 1, p, c :: r, h1, h2 => by
    rw [List.length_cons] at h1 h2
    unfold gap
    split
    · exact gap_fuel core n m _ r (by omega) (by omega)
    · split
      · have hl := dw_len inComment r
        cases q : r.dropWhile inComment with
        | nil => rfl
        | cons d s =>
          rw [q, List.length_cons] at hl
          by_cases hd : d = 125
          · subst hd
            exact gap_fuel core n m _ s (by omega) (by omega)
          · split
            · rename_i z; cases z
            · rename_i z; cases z; exact absurd rfl hd
            · rfl
      · rfl
def gapT (core : Bool) (p : Nat) (s : List Nat) : Vaunid.Res (Nat × List Nat) := gap core (s.length + 1) p s
theorem gapT_nil (core : Bool) (p : Nat) : gapT core p [] = .ok (p, []) := rfl
theorem gapT_blank {core : Bool} {p c : Nat} {r : List Nat} (h : c = 32 ∨ (core = false ∧ c = 10)) : gapT core p (c :: r) = gapT core (p + 1) r := by
  unfold gapT
  rw [List.length_cons]
  conv => lhs; unfold gap
  rw [if_pos h]
theorem gapT_other {core : Bool} {p c : Nat} {r : List Nat} (h : ¬ (c = 32 ∨ (core = false ∧ c = 10))) (h2 : ¬ (core = false ∧ c = 123)) : gapT core p (c :: r) = .ok (p, c :: r) := by
  unfold gapT
  rw [List.length_cons]
  unfold gap
  rw [if_neg h, if_neg h2]
theorem gapT_comment {p : Nat} {r : List Nat} : gapT false p (123 :: r) = (match r.dropWhile inComment with
      | [] => Vaunid.fault 2 p
      | 125 :: s => gapT false (p + (r.takeWhile inComment).length + 2) s
      | _ => Vaunid.fault 1 (p + 1 + (r.takeWhile inComment).length)) := by
  unfold gapT
  rw [List.length_cons]
  conv => lhs; unfold gap
  rw [if_neg (by decide), if_pos (by decide)]
  have hl := dw_len inComment r
  cases q : r.dropWhile inComment with
  | nil => rfl
  | cons d s =>
    rw [q, List.length_cons] at hl
    by_cases hd : d = 125
    · subst hd
      exact gap_fuel false _ _ _ s (by omega) (by omega)
    · split
      · rename_i z; cases z
      · rename_i z; cases z; exact absurd rfl hd
      · rfl
/-! ### tokens by gaps -/
theorem tokens_fuel (core : Bool) : ∀ (n m p : Nat) (s : List Nat), s.length < n → s.length < m → Vaunid.tokens core n p s = Vaunid.tokens core m p s
  | n, m, p, [], _, _ => by cases n <;> cases m <;> rfl
  | 0, _, _, _ :: _, h, _ => by simp at h
  | _, 0, _, _ :: _, _, h => by simp at h
  | n + 1, m + 1, p, c :: r, h1, h2 => by
    rw [List.length_cons] at h1 h2
    unfold Vaunid.tokens
    split
    · exact tokens_fuel core n m _ r (by omega) (by omega)
    · split
      · have hl := dw_len inComment r
        cases q : r.dropWhile inComment with
        | nil => rfl
        | cons d s =>
          rw [q, List.length_cons] at hl
          by_cases hd : d = 125
          · subst hd
            exact tokens_fuel core n m _ s (by omega) (by omega)
          · split
            · rename_i z; cases z
            · rename_i z; cases z; exact absurd rfl hd
            · rfl
      · cases q : Vaunid.token core p (c :: r) with
        | error e => rfl
        | ok x =>
          obtain ⟨k, s⟩ := x
          have hf := token_fact q
          have hs : s.length ≤ r.length := by
            have h3 := hf.lt
            rw [hf.rest, List.length_drop, List.length_cons]
            omega
          dsimp only
          rw [tokens_fuel core n m k.halt_ s (by omega) (by omega)]
def toksT (core : Bool) (p : Nat) (s : List Nat) : Vaunid.Res (List Vaunid.Token) := Vaunid.tokens core (s.length + 1) p s
theorem toksT_all (core : Bool) (t : List Nat) : Vaunid.allTokens core t = toksT core 0 t := rfl
def thenToks (core : Bool) (x : Nat × List Nat) : Vaunid.Res (List Vaunid.Token) := match x.2 with
  | [] => .ok []
  | c :: r => match Vaunid.token core x.1 (c :: r) with
    | .error e => .error e
    | .ok (k, s) => match toksT core k.halt_ s with
      | .error e => .error e
      | .ok l => .ok (k :: l)
theorem toksT_gap (core : Bool) : ∀ (n p : Nat) (s : List Nat), s.length < n → toksT core p s = (match gap core n p s with | .error e => .error e | .ok x => thenToks core x)
  | n, p, [], _ => by cases n <;> rfl
  | 0, p, _ :: _, h => by simp at h
  | n + 1, p, c :: r, h => by
    rw [List.length_cons] at h
    unfold toksT gap
    rw [List.length_cons]
    conv => lhs; unfold Vaunid.tokens
    split
    · exact toksT_gap core n (p + 1) r (by omega)
    · split
      · have hl := dw_len inComment r
        cases q : r.dropWhile inComment with
        | nil => rfl
        | cons d s =>
          rw [q, List.length_cons] at hl
          by_cases hd : d = 125
          · subst hd
            show Vaunid.tokens core (r.length + 1) _ s = _
            rw [tokens_fuel core (r.length + 1) (s.length + 1) _ s (by omega) (by omega)]
            exact toksT_gap core n _ s (by omega)
          · have e2 : (match d :: s with
                | [] => (Vaunid.fault 2 p : Vaunid.Res (Nat × List Nat))
                | 125 :: s => gap core n (p + (List.takeWhile inComment r).length + 2) s
                | x => Vaunid.fault 1 (p + 1 + (List.takeWhile inComment r).length)) = Vaunid.fault 1 (p + 1 + (List.takeWhile inComment r).length) := by
              split
              · rename_i z; cases z
              · rename_i z; cases z; exact absurd rfl hd
              · rfl
            refine Eq.trans ?_ (congrArg (fun (o : Vaunid.Res (Nat × List Nat)) => (match o with | .error e => .error e | .ok x => thenToks core x : Vaunid.Res (List Vaunid.Token))) e2).symm
            split
            · rename_i z; cases z
            · rename_i z; cases z; exact absurd rfl hd
            · rfl
      · show _ = thenToks core (p, c :: r)
        unfold thenToks
        dsimp only
        cases q : Vaunid.token core p (c :: r) with
        | error e => rfl
        | ok x =>
          obtain ⟨k, s⟩ := x
          have hf := token_fact q
          have hs : s.length ≤ r.length := by
            have h3 := hf.lt
            rw [hf.rest, List.length_drop, List.length_cons]
            omega
          dsimp only
          unfold toksT
          rw [tokens_fuel core (r.length + 1) (s.length + 1) _ s (by omega) (by omega)]
          rfl
theorem toksT_step (core : Bool) (p : Nat) (s : List Nat) : toksT core p s = (match gapT core p s with | .error e => .error e | .ok x => thenToks core x) := toksT_gap core _ p s (Nat.lt_succ_self _)
/-- where a gap ends -/
theorem gap_fact (core : Bool) : ∀ (n p : Nat) (s : List Nat) (x : Nat × List Nat), gap core n p s = .ok x → p ≤ x.1 ∧ x.1 ≤ p + s.length ∧ x.2 = s.drop (x.1 - p)
  | n, p, [], x, h => by
    have : x = (p, []) := by
      cases n <;> (cases h; rfl)
    subst this
    simp
  | 0, p, c :: r, x, h => by
    cases h
    simp
  | n + 1, p, c :: r, x, h => by
    unfold gap at h
    split at h
    · obtain ⟨h1, h2, h3⟩ := gap_fact core n (p + 1) r x h
      rw [List.length_cons]
      refine ⟨by omega, by omega, ?_⟩
      rw [h3, show x.1 - p = (x.1 - (p + 1)) + 1 by omega, List.drop_succ_cons]
    · split at h
      · have hl := dw_drop inComment r
        have hl2 := tw_le inComment r
        cases q : r.dropWhile inComment with
        | nil => rw [q] at h; cases h
        | cons d s =>
          rw [q] at h hl
          by_cases hd : d = 125
          · subst hd
            obtain ⟨h1, h2, h3⟩ := gap_fact core n _ s x h
            have hs : r.length = (r.takeWhile inComment).length + (s.length + 1) := by
              have := congrArg List.length hl
              rw [List.length_cons, List.length_drop] at this
              omega
            rw [List.length_cons]
            refine ⟨by omega, by omega, ?_⟩
            have e : x.1 - p = (x.1 - (p + (r.takeWhile inComment).length + 2)) + 1 + (r.takeWhile inComment).length + 1 := by omega
            have e2 : r.drop (x.1 - (p + (r.takeWhile inComment).length + 2) + 1 + (r.takeWhile inComment).length) = (r.drop (r.takeWhile inComment).length).drop (x.1 - (p + (r.takeWhile inComment).length + 2) + 1) := by rw [List.drop_drop, Nat.add_comm]
            rw [h3, e, List.drop_succ_cons, e2, ← hl, List.drop_succ_cons]
          · split at h
            · rename_i z; cases z
            · rename_i z; cases z; exact absurd rfl hd
            · cases h
      · cases h
        simp
end M
namespace M
open PySem PySem.Spec PyProof.Rows L2 TL
open Vaunid (isSmall isDigit inWord inComment)
theorem gap_spaces : ∀ (s : List Nat) (p : Nat), gapT false p s = gapT false (p + (s.takeWhile fun c => c == 32 || c == 10).length) (s.drop (s.takeWhile fun c => c == 32 || c == 10).length)
  | [], p => rfl
  | c :: r, p => by
    rw [List.takeWhile_cons]
    cases h : (c == 32 || c == 10) with
    | false => rfl
    | true =>
      simp only [if_true]
      rw [List.length_cons, List.drop_succ_cons, gapT_blank (by simpa using h), gap_spaces r (p + 1)]
      congr 1
      omega
theorem gap_blanks : ∀ (s : List Nat) (p : Nat), gapT true p s = .ok (p + (s.takeWhile fun c => c == 32).length, s.drop (s.takeWhile fun c => c == 32).length)
  | [], p => rfl
  | c :: r, p => by
    rw [List.takeWhile_cons]
    cases h : (c == 32) with
    | false => exact gapT_other (by simpa using h) (by simp)
    | true =>
      simp only [if_true]
      rw [List.length_cons, List.drop_succ_cons, gapT_blank (by simpa using h), gap_blanks r (p + 1)]
      congr 2
      omega
theorem head_drop (q : Nat → Bool) (s : List Nat) {c : Nat} {r : List Nat} (h : s.drop (s.takeWhile q).length = c :: r) : q c = false := by
  rw [← dw_drop] at h
  exact dw_head s h
theorem get_drop {t : List Nat} {p c : Nat} {r : List Nat} (h : t.drop p = c :: r) : t[p]? = some c := by
  have := List.getElem?_drop (xs := t) (i := p) (j := 0)
  rw [h] at this
  simpa using this.symm
theorem drop_more {t : List Nat} {p : Nat} {s : List Nat} (h : t.drop p = s) (k : Nat) : t.drop (p + k) = s.drop k := by rw [← h, List.drop_drop]
theorem drop_len {t : List Nat} {p : Nat} {s : List Nat} (h : t.drop p = s) (hp : p ≤ t.length) : t.length = p + s.length := by rw [← h, List.length_drop]; omega
theorem lt_of_drop {t : List Nat} {p c : Nat} {r : List Nat} (h : t.drop p = c :: r) : p < t.length := by
  have := congrArg List.length h
  rw [List.length_drop, List.length_cons] at this
  omega
end M

set_option Elab.async false
set_option linter.all false
set_option maxRecDepth 100000
namespace M
open PySem PySem.Spec PyProof.Rows L2 TL
open Vaunid (isSmall isDigit inWord inComment)
/-! ### a sign by its bytes -/
theorem find_len {n : Nat} (t : List Nat) : ∀ (L : List (List Nat)), (∀ x ∈ L, x.length = n) → L.find? (fun s => s.isPrefixOf t) = if t.take n ∈ L then some (t.take n) else none
  | [], _ => by simp
  | x :: r, h => by
    have hx := h x (List.mem_cons_self ..)
    have ih := find_len t r fun y hy => h y (List.mem_cons_of_mem _ hy)
    rw [List.find?_cons]
    by_cases hp : x.isPrefixOf t = true
    · rw [hp]
      have e : x = t.take n := by rw [← hx]; exact (List.prefix_iff_eq_take.mp (List.isPrefixOf_iff_prefix.mp hp))
      dsimp only
      rw [← e, if_pos (List.mem_cons_self ..)]
    · have hp' : x.isPrefixOf t = false := Bool.eq_false_iff.mpr hp
      rw [hp']
      dsimp only
      rw [ih]
      have ne : t.take n ≠ x := fun e => hp (List.isPrefixOf_iff_prefix.mpr (e ▸ List.take_prefix n t))
      by_cases hm : t.take n ∈ r
      · rw [if_pos hm, if_pos (List.mem_cons_of_mem _ hm)]
      · rw [if_neg hm, if_neg]
        intro z
        rcases List.mem_cons.mp z with q | q
        · exact ne q
        · exact hm q
structure GoodSigns (L : List (List Nat)) : Prop where
  parts : ∃ L2 L1, L = L2 ++ L1 ∧ (∀ x ∈ L2, x.length = 2) ∧ ∀ x ∈ L1, x.length = 1
  plain : ∀ x ∈ L, ∀ c ∈ x, ((32 ≤ c ∧ c ≤ 126) ∧ c ≠ 37) ∧ c ≠ 63
theorem good_core : GoodSigns Vaunid.coreSigns := ⟨⟨[], Vaunid.coreSigns, rfl, by decide, by decide +kernel⟩, by decide +kernel⟩
theorem good_surface : GoodSigns Vaunid.surfaceSigns := ⟨⟨Vaunid.surfaceSigns.take 5, Vaunid.surfaceSigns.drop 5, by decide +kernel, by decide +kernel, by decide +kernel⟩, by decide +kernel⟩
theorem mem_sgn {L : List (List Nat)} (g : GoodSigns L) (l : List Nat) : l.map sgn ∈ L ↔ l ∈ L := by
  constructor
  · intro h
    have e : l.map sgn = l := map_sgn fun c hc => by
      have := g.plain _ h (sgn c) (List.mem_map.mpr ⟨c, hc, rfl⟩)
      rcases sgn_or c with q | ⟨q, _⟩
      · rw [q] at this; exact this.1
      · rw [q] at this; exact absurd rfl this.2
    rwa [e] at h
  · intro h
    rw [map_sgn fun c hc => (g.plain _ h c hc).1]
    exact h
def signOf (L : List (List Nat)) (t : List Nat) : Option (List Nat) := if t.take 2 ∈ L then some (t.take 2) else if t.take 1 ∈ L then some (t.take 1) else none
theorem find_signs {L : List (List Nat)} (g : GoodSigns L) (t : List Nat) : L.find? (fun s => s.isPrefixOf t) = signOf L t := by
  obtain ⟨L2, L1, rfl, h2, h1⟩ := g.parts
  rw [List.find?_append, find_len t L2 h2, find_len t L1 h1]
  unfold signOf
  by_cases m2 : t.take 2 ∈ L2
  · rw [if_pos m2, if_pos (List.mem_append_left _ m2)]
    rfl
  · rw [if_neg m2]
    by_cases m1 : t.take 1 ∈ L1
    · rw [if_pos m1]
      by_cases m : t.take 2 ∈ L2 ++ L1
      · have m' : t.take 2 ∈ L1 := (List.mem_append.mp m).resolve_left m2
        have e := h1 _ m'
        have e3 : t.take 1 = t.take 2 := by
          rw [List.length_take] at e
          have : t.length ≤ 1 := by omega
          rw [List.take_of_length_le this, List.take_of_length_le (by omega)]
        rw [if_pos m, e3]
        rfl
      · rw [if_neg m, if_pos (List.mem_append_right _ m1)]
        rfl
    · rw [if_neg m1]
      have n1 : ¬ t.take 1 ∈ L2 ++ L1 := fun z => by
        rcases List.mem_append.mp z with q | q
        · have := h2 _ q
          rw [List.length_take] at this
          omega
        · exact m1 q
      by_cases m : t.take 2 ∈ L2 ++ L1
      · have m' : t.take 2 ∈ L1 := (List.mem_append.mp m).resolve_left m2
        have e := h1 _ m'
        have e3 : t.take 1 = t.take 2 := by
          rw [List.length_take] at e
          have : t.length ≤ 1 := by omega
          rw [List.take_of_length_le this, List.take_of_length_le (by omega)]
        rw [← e3] at m'
        exact absurd m' m1
      · rw [if_neg m, if_neg n1]
        rfl
/-! ### what a def answers that may find a fault -/
def faultFs (k p : Int) : List (Str × V) := [("kind", .int k), ("place", .int p)]
def ExF (C : Addr) (E : XK) (H : Hp) (k p : Int) : Prop := ∀ (dx : Addr) (H' : Hp), Same H H' → H' dx = some (XDic dx (faultFs k p)) → E (.ref C) (some dx) H'
theorem ExF.mono {C : Addr} {E : XK} {H H1 : Hp} {k p : Int} (h : ExF C E H k p) (s : Same H H1) : ExF C E H1 k p := fun dx H' s' e => h dx H' (s.trans s') e
def RES {A : Type} (C : Addr) (H : Hp) (Q : VK) (E : XK) (r : Vaunid.Res A) (post : A → V → Hp → Prop) : Prop := match r with
  | .ok a => ∀ (v : V) (H' : Hp), Same H H' → post a v H' → Q v H'
  | .error e => ExF C E H (e.kind : Int) (e.place : Int)
theorem RES.mono {A : Type} {C : Addr} {H H1 : Hp} {Q : VK} {E : XK} {r : Vaunid.Res A} {post : A → V → Hp → Prop} (h : RES C H Q E r post) (s : Same H H1) : RES C H1 Q E r post := by
  cases r with
  | ok a => exact fun v H' s' p => h v H' (s.trans s') p
  | error e => exact ExF.mono h s
/-- Fault's own __init__ -/
def spFaultInit (C : Addr) : Sp := fun vs H Q _ => ∃ (p : Addr) (k q : V), vs = [.ref p, k, q] ∧ H p = some (XNew C p none) ∧ ∀ dx, H dx = none → dx ≠ p → Q .non (upd (upd H dx (XDic dx [("kind", k), ("place", q)])) p (XNew C p (some dx)))
theorem raise_of {C : Addr} {E : XK} {H : Hp} {k p : Int} {E' : XK} (h : ExF C E H k p) : ∀ a, H a = none → spFaultInit C [.ref a, .int k, .int p] (upd H a (XNew C a none))
    (fun v H2 => v = .non ∧ ∃ dx, H2 a = some (XNew C a (some dx)) ∧ ∃ fs, H2 dx = some (XDic dx fs) ∧ E (.ref C) (some dx) (del H2 a)) E' := fun a ha => by
  refine ⟨a, _, _, rfl, upd_same, fun dx hdx hne => ⟨rfl, dx, upd_same, _, by rw [upd_ne hne]; exact upd_same, ?_⟩⟩
  have hdx' : H dx = none := by rw [upd_ne hne] at hdx; exact hdx
  refine h dx _ (fun b o e => ?_) ?_
  · have nb : b ≠ a := ne_of_none e ha
    rw [del_ne nb, upd_ne nb, upd_ne (ne_of_none e hdx'), upd_ne nb]
    exact e
  · rw [del_ne hne, upd_ne hne]
    exact upd_same
/-! ### tokens as objects -/
def tokFs (g : Int) (k : Str) (b e : Int) (c : V) : List (Str × V) := [("group", .int g), ("kind", .str k), ("begin", .int b), ("end", .int e), ("content", c)]
def kindOf : Vaunid.Tok → List Nat
  | .word w => if Vaunid.isTaken w = true then w else Vaunid.txt "name"
  | .num _ d => if d.isSome = true then Vaunid.txt "digit" else Vaunid.txt "number"
  | .sign s => s
def ContAt (Ca : Addr) (H : Hp) (c : V) : Vaunid.Tok → Prop
  | .word w => c = .str (S w)
  | .num v _ => ∃ a, c = .ref a ∧ AmountAt Ca H a v.top (v.low : Int) (v.measure.getD [])
  | .sign s => c = .str (S s)
def TokAt (Ca Ct : Addr) (H : Hp) (a : Addr) (k : Vaunid.Token) : Prop := ∃ dx c, H a = some (.ins Ct dx (tokFs (Vaunid.sortOf k.tok) (S (kindOf k.tok)) (k.start : Int) (k.halt_ : Int) c)) ∧ ContAt Ca H c k.tok
theorem ContAt.same {Ca : Addr} {H H' : Hp} {c : V} {k : Vaunid.Tok} (h : ContAt Ca H c k) (s : Same H H') : ContAt Ca H' c k := by
  cases k with
  | word w => exact h
  | num v d => obtain ⟨a, e, q⟩ := h; exact ⟨a, e, q.same s⟩
  | sign x => exact h
theorem TokAt.same {Ca Ct : Addr} {H H' : Hp} {a : Addr} {k : Vaunid.Token} (h : TokAt Ca Ct H a k) (s : Same H H') : TokAt Ca Ct H' a k := by
  obtain ⟨dx, c, e, q⟩ := h
  exact ⟨dx, c, s _ _ e, q.same s⟩
theorem taken_vals : [V.str "fn", V.str "let", V.str "rec", V.str "if", V.str "cons", V.str "case", V.str "pair", V.str "fst", V.str "snd", V.str "fold", V.str "root", V.str "floor", V.str "rest", V.str "true", V.str "false", V.str "nil", V.str "truth", V.str "num", V.str "list", V.str "base", V.str "unit", V.str "def", V.str "fun", V.str "in", V.str "then", V.str "else", V.str "match", V.str "with", V.str "and", V.str "or", V.str "not"] = (Vaunid.taken.map S).map V.str := by decide +kernel
theorem surface_vals : [V.str "->", V.str "::", V.str "<=", V.str ">=", V.str "<>", V.str "|", V.str "<", V.str ">", V.str "=", V.str "+", V.str "-", V.str "*", V.str "/", V.str "^", V.str "(", V.str ")", V.str "[", V.str "]", V.str ","] = (Vaunid.surfaceSigns.map S).map V.str := by decide +kernel
theorem core_vals : [V.str "(", V.str ")", V.str "+", V.str "-", V.str "*", V.str "/", V.str "^", V.str "<", V.str "="] = (Vaunid.coreSigns.map S).map V.str := by decide +kernel
theorem in_S (l : List Nat) (L : List (List Nat)) : inV (.str (S l)) ((L.map S).map V.str) = decide (l ∈ L) := by
  rw [in_strs, List.any_map, Bool.eq_iff_iff]
  simp only [List.any_eq_true, decide_eq_true_eq, Function.comp_def, beq_iff_eq, S_inj]
  constructor
  · rintro ⟨x, hx, rfl⟩; exact hx
  · intro h; exact ⟨l, h, rfl⟩
theorem taken_iff (w : List Nat) : Vaunid.isTaken w = decide (w ∈ Vaunid.taken) := by
  unfold Vaunid.isTaken
  rw [Bool.eq_iff_iff]
  simp only [List.any_eq_true, decide_eq_true_eq, beq_iff_eq]
  constructor
  · rintro ⟨x, hx, rfl⟩; exact hx
  · intro h; exact ⟨w, h, rfl⟩
end M
namespace L2
theorem scal_ii {a b : Int} : scal (.int a) (.int b) = true := rfl
theorem scal_ss {a b : PySem.Str} : scal (.str a) (.str b) = true := rfl
theorem scal_bb {a b : Bool} : scal (.bl a) (.bl b) = true := rfl
end L2
namespace L2
/-- a statement and what is behind it, parted by what is known between -/
theorem seq_mid {t u : TS} {D : Ends} {σ : St} {H : Hp} (R : St → Hp → Prop) (ht : ∀ X : St → Hp → Prop, (∀ σ' H', R σ' H' → X σ' H') → t { D with nx := X } σ H) (hc : ∀ σ' H', R σ' H' → u D σ' H') : tSeq t u D σ H := ht _ hc
end L2
namespace M
open PySem PySem.Spec PyProof.Rows L2 TL
/-- the instances stay -/
def SameI (H H' : Hp) : Prop := ∀ a C dx fs, H a = some (.ins C dx fs) → H' a = some (.ins C dx fs)
theorem Same.insts {H H' : Hp} (s : Same H H') : SameI H H' := fun a C dx fs e => s _ _ e
theorem SameI.trans {H H1 H2 : Hp} (s : SameI H H1) (r : SameI H1 H2) : SameI H H2 := fun a C dx fs e => r _ _ _ _ (s _ _ _ _ e)
theorem SameI.lst {H : Hp} {b : Addr} {xs : List V} {o : HO} (h : H b = some (.lst xs)) : SameI H (upd H b o) := fun a C dx fs e => by rw [upd_ne (ne_of e h (by intro z; cases z))]; exact e
theorem AmountAt.sameI {C : Addr} {H H' : Hp} {a : Addr} {o u : Int} {m : List Nat} (h : AmountAt C H a o u m) (s : SameI H H') : AmountAt C H' a o u m := let ⟨dx, e⟩ := h; ⟨dx, s _ _ _ _ e⟩
theorem TokAt.sameI {Ca Ct : Addr} {H H' : Hp} {a : Addr} {k : Vaunid.Token} (h : TokAt Ca Ct H a k) (s : SameI H H') : TokAt Ca Ct H' a k := by
  obtain ⟨dx, c, e, q⟩ := h
  refine ⟨dx, c, s _ _ _ _ e, ?_⟩
  cases hk : k.tok with
  | word w => rw [hk] at q; exact q
  | num v d => rw [hk] at q; obtain ⟨a, e, q⟩ := q; exact ⟨a, e, q.sameI s⟩
  | sign x => rw [hk] at q; exact q
abbrev ToksAt (Ca Ct : Addr) (H : Hp) (as : List Addr) (l : List Vaunid.Token) : Prop := Paired (fun a k => TokAt Ca Ct H a k) as l
theorem ToksAt.sameI {Ca Ct : Addr} {H H' : Hp} {as : List Addr} {l : List Vaunid.Token} (h : ToksAt Ca Ct H as l) (s : SameI H H') : ToksAt Ca Ct H' as l := Paired.mapP h fun a k z => z.sameI s
theorem ToksAt.snoc {Ca Ct : Addr} {H : Hp} : ∀ {as : List Addr} {l : List Vaunid.Token} {a : Addr} {k : Vaunid.Token}, ToksAt Ca Ct H as l → TokAt Ca Ct H a k → ToksAt Ca Ct H (as ++ [a]) (l ++ [k])
  | _, _, _, _, .nil, q => .cons q .nil
  | _, _, _, _, .cons r t, q => .cons r (ToksAt.snoc t q)
/-- what was read so far ahead of the rest's outcome -/
def preR {A : Type} (l : List A) (r : Vaunid.Res (List A)) : Vaunid.Res (List A) := match r with
  | .error e => .error e
  | .ok m => .ok (l ++ m)
end M
namespace L2
open PySem PySem.Spec PyProof.Rows TL
section
variable {X : Cx} {CX : CXT} {k : Nat} {E : XK} {x : Str} {p pos : Pos} {e : Expr} {es : List Expr} {t : TA} {P : Program} {w : World} {K : PySem.W.Frag} {mg : Str → Option Value} {base : Heap}
def tCallP (P : Program) (w : World) (K : PySem.W.Frag) (mg : Str → Option Value) (base : Heap) (CX : CXT) (k i : Nat) (E : XK) (t : TA) : TE := fun σ H Q => ∃ f fd ps sp, σ[i]? = some (some (.ref f)) ∧ FnOk P w K mg base CX k f fd ps sp ∧ Binds K fd ps [] ∧ PySem.W.keepIn K (.ref f) = true ∧
  t σ H fun vs H1 => sp vs H1 Q E
theorem pe_callP (i : Nat) (hr : Room k X.A) (hx : Passes CX X E) (ha : PA X (e :: es) t) (hN : X.N[i]? = some x := by rfl) (e1 : X.prog = P := by rfl) (e2 : X.w = w := by rfl) (e3 : X.K = K := by rfl) (e4 : X.mg = mg := by rfl) (e5 : X.base = base := by rfl)
    (hv : Vis X.env.scope x := by first | exact Or.inl rfl | exact Or.inr (Or.inl rfl) | exact Or.inr (Or.inr rfl)) (hd : (x == ("__debug__" : Str)) = false := by decide) (hcd : (x == ("__classdict__" : Str)) = false := by decide)
    (he : starEach (e :: es) X.env = (false, eval e X.env) :: starEach es X.env := by rfl) (hpl : (backTo pos (starEach es X.env)).any (·.1) = false := by rfl) :
    PE X (.Call (.Name x p) (e :: es) [] pos) (tCallP P w K mg base CX k i E t) := by
  subst e1 e2 e3 e4 e5
  exact pe_callv i hr hx ha hN hv hd hcd he hpl
end
end L2

section
set_option Elab.async false
set_option linter.all false
set_option maxRecDepth 100000
set_option maxHeartbeats 2000000
namespace L2
open PySem PySem.Spec PyProof.Rows
open PySem.W (WData Codec OpenSpec Well WellAll ReadsW ReadsAllW)
/-! ### an answer as data -/
mutual
/-- x stands for the datum d, lists and tuples all the way -/
inductive Dw (K : PySem.W.Frag) (H : Hp) : V → WData → Prop
  | non : Dw K H .non .none
  | bl (b : Bool) : Dw K H (.bl b) (.bool b)
  | int (i : Int) : Dw K H (.int i) (.int i)
  | str (x : Str) : Dw K H (.str x) (.str x)
  | byt (b : Array UInt8) : Dw K H (.byt b) (.bytes b.toList)
  | lst {a : Addr} {xs : List V} {ds : List WData} : SqL K H a xs → DwAll K H xs ds → Dw K H (.ref a) (.list ds)
  | tup {a : Addr} {xs : List V} {ds : List WData} : SqT K H a xs → DwAll K H xs ds → Dw K H (.ref a) (.tuple ds)
inductive DwAll (K : PySem.W.Frag) (H : Hp) : List V → List WData → Prop
  | nil : DwAll K H [] []
  | cons {v : V} {vs : List V} {d : WData} {ds : List WData} : Dw K H v d → DwAll K H vs ds → DwAll K H (v :: vs) (d :: ds)
end
theorem dw_ints {K : PySem.W.Frag} {H : Hp} : ∀ ns : List Int, DwAll K H (ns.map V.int) (ns.map WData.int)
  | [] => .nil
  | n :: r => .cons (.int n) (dw_ints r)
theorem ints_dw {K : PySem.W.Frag} {H : Hp} : ∀ (ns : List Int) (xs : List V), DwAll K H xs (ns.map WData.int) → xs = ns.map V.int
  | [], xs, h => by
    cases h
    rfl
  | n :: r, xs, h => by
    cases h with
    | cons h1 h2 =>
      cases h1
      rw [ints_dw r _ h2] <;> rfl
section
variable {P : Program} {w : World} {K : PySem.W.Frag} {H : Hp} {h : Heap} {R : PySem.W.WRecords} {cl : Str → Option Addr}
theorem sqL_at {a : Addr} {xs : List V} (hok : HOk P w H h) (KX : K.In h) (q : SqL K H a xs) : ∃ (its : List Value) (o : Obj) (n : Nat), Vals xs its ∧ h.get? a = some o ∧ o.cls = .type "list" ∧ o.data = .seq its.toArray n := by
  rcases q with q | ⟨o, its, n, e, hc, _, hd, _, hv⟩
  · obtain ⟨_, its, n, hv, e⟩ := (show ObjOk P w H h a (.lst xs) from q.ok hok)
    exact ⟨its, _, n, hv, e, rfl, rfl⟩
  · exact ⟨its.toList, o, n, hv, KX _ _ e, hc, by simp [hd]⟩
theorem sqT_at {a : Addr} {xs : List V} (hok : HOk P w H h) (KX : K.In h) (q : SqT K H a xs) : ∃ (its : List Value) (o : Obj) (n : Nat), Vals xs its ∧ h.get? a = some o ∧ o.cls = .type "tuple" ∧ o.data = .seq its.toArray n := by
  rcases q with q | ⟨o, its, n, e, hc, hd, _, hv⟩
  · obtain ⟨_, its, hv, o, e, hc, n, hd⟩ := (show ObjOk P w H h a (.tup xs) from q.ok hok)
    exact ⟨its, o, n, hv, e, hc, hd⟩
  · exact ⟨its.toList, o, n, hv, KX _ _ e, hc, by simp [hd]⟩
mutual
theorem Dw.reads (hok : HOk P w H h) (KX : K.In h) : ∀ (d : WData) (v : V) (u : Value), Dw K H v d → RelV v u → ∃ as, ReadsW R cl h u d as
  | .none, _, _, x, r => by
    cases x
    cases r
    exact ⟨_, ReadsW.none⟩
  | .bool b, _, _, x, r => by
    cases x
    cases r
    exact ⟨_, ReadsW.bool b⟩
  | .int i, _, _, x, r => by
    cases x
    obtain ⟨t, rfl⟩ := r
    exact ⟨_, ReadsW.int i t⟩
  | .str s, _, _, x, r => by
    cases x
    obtain ⟨t, rfl⟩ := r
    exact ⟨_, ReadsW.str s t⟩
  | .bytes b, _, _, x, r => by
    cases x
    obtain ⟨t, rfl⟩ := r
    exact ⟨_, ReadsW.bytes _ t⟩
  | .list ds, _, _, x, r => by
    cases x with
    | lst hs ha =>
      cases r
      obtain ⟨its, o, n, rv, ho, hc, hd⟩ := sqL_at hok KX hs
      obtain ⟨as, hr⟩ := Dw.readsAll hok KX ds _ its ha rv
      exact ⟨_, ReadsW.list ho hc hd hr⟩
  | .tuple ds, _, _, x, r => by
    cases x with
    | tup hs ha =>
      cases r
      obtain ⟨its, o, n, rv, ho, hc, hd⟩ := sqT_at hok KX hs
      obtain ⟨as, hr⟩ := Dw.readsAll hok KX ds _ its ha rv
      exact ⟨_, ReadsW.tuple ho hc hd hr⟩
  | .float _, _, _, x, _ => by cases x
  | .dict _, _, _, x, _ => by cases x
  | .bytearray _, _, _, x, _ => by cases x
  | .set _, _, _, x, _ => by cases x
  | .frozenset _, _, _, x, _ => by cases x
  | .obj _ _, _, _, x, _ => by cases x
theorem Dw.readsAll (hok : HOk P w H h) (KX : K.In h) : ∀ (ds : List WData) (vs : List V) (us : List Value), DwAll K H vs ds → Vals vs us → ∃ as, ReadsAllW R cl h us ds as
  | [], _, _, x, r => by
    cases x
    cases r
    exact ⟨_, ReadsAllW.nil⟩
  | d :: ds, _, _, x, r => by
    cases x with
    | cons h1 h2 =>
      cases r with
      | cons r1 r2 =>
        obtain ⟨as, q1⟩ := Dw.reads hok KX d _ _ h1 r1
        obtain ⟨bs, q2⟩ := Dw.readsAll hok KX ds _ _ h2 r2
        exact ⟨_, ReadsAllW.cons q1 q2⟩
end
end
/-! ### the arguments -/
mutual
/-- data that a codec tells -/
def plW : WData → Bool
  | .none => true
  | .bool _ => true
  | .int _ => true
  | .str _ => true
  | .bytes _ => true
  | .list xs => plWs xs
  | .tuple xs => plWs xs
  | _ => false
def plWs : List WData → Bool
  | [] => true
  | x :: r => plW x && plWs r
end
theorem plWs_map {α : Type} {f : α → WData} (h : ∀ a, plW (f a) = true) : ∀ l : List α, plWs (l.map f) = true
  | [] => rfl
  | x :: r => by
    show (plW (f x) && plWs (r.map f)) = true
    rw [h x, plWs_map h r] <;> rfl
theorem pl_enc : ∀ (c : Codec) (a : c.denote), plW (c.enc a) = true
  | .unit, _ => rfl
  | .bool, _ => rfl
  | .int _ _, _ => rfl
  | .nat _ _, _ => rfl
  | .u8, _ => rfl
  | .bytes _ _, _ => rfl
  | .text _ _ _ _, _ => rfl
  | .list _ _ c, a => plWs_map (fun x => pl_enc c x) a
  | .pair c d, a => by
    show (plW (c.enc a.1) && (plW (d.enc a.2) && true)) = true
    rw [pl_enc c a.1, pl_enc d a.2] <;> rfl
  | .triple c d e, a => by
    show (plW (c.enc a.1) && (plW (d.enc a.2.1) && (plW (e.enc a.2.2) && true))) = true
    rw [pl_enc c a.1, pl_enc d a.2.1, pl_enc e a.2.2] <;> rfl
  | .option c, none => rfl
  | .option c, some x => pl_enc c x
theorem pl_encAll : ∀ (cs : List Codec) (a : Codec.denoteAll cs), plWs (Codec.encAll cs a) = true
  | [], _ => rfl
  | c :: cs, a => by
    show (plW (c.enc a.1) && plWs (Codec.encAll cs a.2)) = true
    rw [pl_enc c a.1, pl_encAll cs a.2] <;> rfl
theorem weight_mem : ∀ {xs : List WData} {d : WData}, d ∈ xs → d.weight ≤ WData.weightAll xs
  | [], d, h => absurd h (by simp)
  | x :: r, d, h => by
    show d.weight ≤ x.weight + 1 + WData.weightAll r
    rcases List.mem_cons.mp h with e | m
    · rw [e]
      omega
    · have z := weight_mem m
      omega
def toV : Value → V
  | .none => .non
  | .bool b => .bl b
  | .int i _ => .int i
  | .str x _ => .str x
  | .bytes b _ => .byt b
  | .ref a => .ref a
  | _ => .non
/-- a value of the arguments, its objects among A -/
def OkU (A : List Addr) : Value → Prop
  | .none => True
  | .bool _ => True
  | .int _ _ => True
  | .str _ _ => True
  | .bytes _ _ => True
  | .ref a => a ∈ A
  | _ => False
theorem OkU.mono {A B : List Addr} (h : ∀ a ∈ A, a ∈ B) : ∀ {u : Value}, OkU A u → OkU B u := fun {u} x => by
  cases u with
  | ref a => exact h a x
  | none => trivial
  | bool b => trivial
  | int i t => trivial
  | str s t => trivial
  | bytes b t => trivial
  | _ => exact False.elim x
theorem relV_toV {A : List Addr} {u : Value} (x : OkU A u) : RelV (toV u) u := by
  cases u with
  | ref a => rfl
  | none => rfl
  | bool b => rfl
  | int i t => exact ⟨t, rfl⟩
  | str s t => exact ⟨t, rfl⟩
  | bytes b t => exact ⟨t, rfl⟩
  | _ => exact False.elim x
theorem vals_toV {A : List Addr} : ∀ {vs : List Value}, (∀ u ∈ vs, OkU A u) → Vals (vs.map toV) vs
  | [], _ => .nil
  | u :: r, h => .cons (relV_toV (h u (List.mem_cons_self ..))) (vals_toV fun x hx => h x (List.mem_cons_of_mem _ hx))
/-- an object of the arguments -/
def ArgOb (h : Heap) (A : List Addr) (a : Addr) : Prop := ∃ vs : List Value, vs.length ≤ sizeLine ∧ (∀ u ∈ vs, OkU A u) ∧
  (h.get? a = some { cls := .type "list", data := .seq vs.toArray } ∨ h.get? a = some { cls := .type "tuple", data := .seq vs.toArray })
theorem ArgOb.mono {h : Heap} {A B : List Addr} {a : Addr} (k : ∀ a ∈ A, a ∈ B) (x : ArgOb h A a) : ArgOb h B a := by
  obtain ⟨vs, h1, h2, h3⟩ := x
  exact ⟨vs, h1, fun u hu => (h2 u hu).mono k, h3⟩
theorem wellAll_len {P : Params} {h : Heap} : ∀ {vs : List Value} {ds : List WData}, WellAll P h vs ds → vs.length = ds.length
  | _, _, .nil => rfl
  | _, _, .cons _ b => by
    show _ + 1 = _ + 1
    rw [wellAll_len b]
theorem well_list {P : Params} {h : Heap} {v : Value} {ds : List WData} (x : Well P h v (.list ds)) : ∃ (a : Addr) (vs : List Value), v = .ref a ∧ h.get? a = some { cls := .type "list", data := .seq vs.toArray } ∧ WellAll P h vs ds := by
  cases x with
  | list ho hall => exact ⟨_, _, rfl, ho, hall⟩
theorem well_tuple {P : Params} {h : Heap} {v : Value} {ds : List WData} (x : Well P h v (.tuple ds)) : ∃ (a : Addr) (vs : List Value), v = .ref a ∧ h.get? a = some { cls := .type "tuple", data := .seq vs.toArray } ∧ WellAll P h vs ds := by
  cases x with
  | tuple ho hall => exact ⟨_, _, rfl, ho, hall⟩
theorem well_cons {P : Params} {h : Heap} {us : List Value} {d : WData} {ds : List WData} (x : WellAll P h us (d :: ds)) : ∃ (v : Value) (vs : List Value), us = v :: vs ∧ Well P h v d ∧ WellAll P h vs ds := by
  cases x with
  | cons a b => exact ⟨_, _, rfl, a, b⟩
theorem line_of {n : Nat} (h : n ≤ 1048576) : n ≤ sizeLine := Nat.le_trans h (by decide)
section
variable {P : Params} {h : Heap}
mutual
theorem area_one : ∀ (d : WData) (v : Value), Well P h v d → plW d = true → d.weight ≤ 1048576 → ∃ A : List Addr, OkU A v ∧ ∀ a ∈ A, ArgOb h A a
  | .none, _, x, _, _ => by
    cases x
    exact ⟨[], trivial, fun a m => absurd m (by simp)⟩
  | .bool b, _, x, _, _ => by
    cases x
    exact ⟨[], trivial, fun a m => absurd m (by simp)⟩
  | .int i, _, x, _, _ => by
    cases x
    exact ⟨[], trivial, fun a m => absurd m (by simp)⟩
  | .str s, _, x, _, _ => by
    cases x
    exact ⟨[], trivial, fun a m => absurd m (by simp)⟩
  | .bytes b, _, x, _, _ => by
    cases x
    exact ⟨[], trivial, fun a m => absurd m (by simp)⟩
  | .list ds, _, x, p, z => by
    obtain ⟨a, vs, rfl, ho, hall⟩ := well_list x
    have z2 : WData.weightAll ds ≤ 1048576 := z
    obtain ⟨A, h1, h2⟩ := area_all ds _ hall p fun d hd => Nat.le_trans (weight_mem hd) z2
    have k : ∀ b ∈ A, b ∈ a :: A := fun b hb => List.mem_cons_of_mem _ hb
    refine ⟨a :: A, List.mem_cons_self .., fun b hb => ?_⟩
    rcases List.mem_cons.mp hb with e | m
    · rw [e]
      exact ⟨vs, line_of (by rw [wellAll_len hall]; exact Nat.le_trans (PySem.W.length_le_weightAllW ds) z2), fun u hu => (h1 u hu).mono k, .inl ho⟩
    · exact (h2 b m).mono k
  | .tuple ds, _, x, p, z => by
    obtain ⟨a, vs, rfl, ho, hall⟩ := well_tuple x
    have z2 : WData.weightAll ds ≤ 1048576 := z
    obtain ⟨A, h1, h2⟩ := area_all ds _ hall p fun d hd => Nat.le_trans (weight_mem hd) z2
    have k : ∀ b ∈ A, b ∈ a :: A := fun b hb => List.mem_cons_of_mem _ hb
    refine ⟨a :: A, List.mem_cons_self .., fun b hb => ?_⟩
    rcases List.mem_cons.mp hb with e | m
    · rw [e]
      exact ⟨vs, line_of (by rw [wellAll_len hall]; exact Nat.le_trans (PySem.W.length_le_weightAllW ds) z2), fun u hu => (h1 u hu).mono k, .inr ho⟩
    · exact (h2 b m).mono k
  | .float _, _, _, p, _ => Bool.noConfusion (show false = true from p)
  | .dict _, _, _, p, _ => Bool.noConfusion (show false = true from p)
  | .bytearray _, _, _, p, _ => Bool.noConfusion (show false = true from p)
  | .set _, _, _, p, _ => Bool.noConfusion (show false = true from p)
  | .frozenset _, _, _, p, _ => Bool.noConfusion (show false = true from p)
  | .obj _ _, _, _, p, _ => Bool.noConfusion (show false = true from p)
theorem area_all : ∀ (ds : List WData) (vs : List Value), WellAll P h vs ds → plWs ds = true → (∀ d ∈ ds, d.weight ≤ 1048576) → ∃ A : List Addr, (∀ u ∈ vs, OkU A u) ∧ ∀ a ∈ A, ArgOb h A a
  | [], _, x, _, _ => by
    cases x
    exact ⟨[], fun u m => absurd m (by simp), fun a m => absurd m (by simp)⟩
  | d :: ds, _, x, p, z => by
    obtain ⟨v, vs, rfl, x1, x2⟩ := well_cons x
    have q : plW d = true ∧ plWs ds = true := Bool.and_eq_true_iff.mp p
    obtain ⟨A, a1, a2⟩ := area_one d v x1 q.1 (z d (List.mem_cons_self ..))
    obtain ⟨B, b1, b2⟩ := area_all ds vs x2 q.2 fun e he => z e (List.mem_cons_of_mem _ he)
    have kA : ∀ b ∈ A, b ∈ A ++ B := fun b hb => List.mem_append.mpr (.inl hb)
    have kB : ∀ b ∈ B, b ∈ A ++ B := fun b hb => List.mem_append.mpr (.inr hb)
    refine ⟨A ++ B, fun u hu => ?_, fun b hb => ?_⟩
    · rcases List.mem_cons.mp hu with e | m
      · rw [e]
        exact a1.mono kA
      · exact (b1 u m).mono kB
    · rcases List.mem_append.mp hb with m | m
      · exact (a2 b m).mono kA
      · exact (b2 b m).mono kB
end
end
/-- what is tracked of an argument's object -/
def hoOf (o : Obj) : Option HO := match o.data with
  | .seq vs _ => if (o.cls == Value.type "list") = true then some (.frz o (.lst (vs.toList.map toV))) else some (.frz o (.tup (vs.toList.map toV)))
  | _ => none
def argH (K : PySem.W.Frag) (h : Heap) (A : List Addr) : Hp := fun b => if b ∈ A then (if (K.lookup b).isNone = true then (h.get? b).bind hoOf else none) else none
/-- nothing is tracked but what is known to the object -/
def OnlyF (H : Hp) : Prop := ∀ b, H b = none ∨ ∃ o u, H b = some (.frz o u)
theorem hoOf_lst (vs : List Value) : hoOf { cls := .type "list", data := .seq vs.toArray } = some (.frz { cls := .type "list", data := .seq vs.toArray } (.lst (vs.map toV))) := by
  show (if (Value.type "list" == Value.type "list") = true then some (HO.frz { cls := .type "list", data := .seq vs.toArray } (.lst (vs.toArray.toList.map toV))) else some (HO.frz { cls := .type "list", data := .seq vs.toArray } (.tup (vs.toArray.toList.map toV)))) = _
  rw [if_pos (beq_self_eq_true _)]
theorem hoOf_tup (vs : List Value) : hoOf { cls := .type "tuple", data := .seq vs.toArray } = some (.frz { cls := .type "tuple", data := .seq vs.toArray } (.tup (vs.map toV))) := by
  show (if (Value.type "tuple" == Value.type "list") = true then some (HO.frz { cls := .type "tuple", data := .seq vs.toArray } (.lst (vs.toArray.toList.map toV))) else some (HO.frz { cls := .type "tuple", data := .seq vs.toArray } (.tup (vs.toArray.toList.map toV)))) = _
  rw [if_neg (by decide)]
section
variable {P : Program} {w : World} {K : PySem.W.Frag} {h : Heap} {A : List Addr}
theorem argH_at {b : Addr} {o : Obj} (hb : b ∈ A) (hk : K.lookup b = none) (e : h.get? b = some o) : argH K h A b = hoOf o := by
  unfold argH
  rw [if_pos hb, hk, if_pos (show (none : Option Obj).isNone = true from rfl), e] <;> rfl
theorem of_argH {b : Addr} {u : HO} (q : argH K h A b = some u) : b ∈ A ∧ K.lookup b = none := by
  unfold argH at q
  by_cases hb : b ∈ A
  · rw [if_pos hb] at q
    cases hk : K.lookup b with
    | none => exact ⟨hb, rfl⟩
    | some o =>
      rw [hk, if_neg (by simp)] at q
      cases q
  · rw [if_neg hb] at q
    cases q
/-- what stands tracked -/
theorem argH_is (ar : ∀ a ∈ A, ArgOb h A a) {b : Addr} {u : HO} (q : argH K h A b = some u) : K.lookup b = none ∧ ∃ vs : List Value, vs.length ≤ sizeLine ∧ (∀ u ∈ vs, OkU A u) ∧
    ((h.get? b = some { cls := .type "list", data := .seq vs.toArray } ∧ u = .frz { cls := .type "list", data := .seq vs.toArray } (.lst (vs.map toV))) ∨
     (h.get? b = some { cls := .type "tuple", data := .seq vs.toArray } ∧ u = .frz { cls := .type "tuple", data := .seq vs.toArray } (.tup (vs.map toV)))) := by
  obtain ⟨hb, hk⟩ := of_argH q
  obtain ⟨vs, h1, h2, h3⟩ := ar b hb
  refine ⟨hk, vs, h1, h2, ?_⟩
  rcases h3 with e | e
  · rw [argH_at hb hk e, hoOf_lst] at q
    exact .inl ⟨e, (Option.some.inj q).symm⟩
  · rw [argH_at hb hk e, hoOf_tup] at q
    exact .inr ⟨e, (Option.some.inj q).symm⟩
theorem argH_only (ar : ∀ a ∈ A, ArgOb h A a) : OnlyF (argH K h A) := fun b => by
  cases q : argH K h A b with
  | none => exact .inl rfl
  | some u =>
    obtain ⟨_, vs, _, _, ⟨_, e⟩ | ⟨_, e⟩⟩ := argH_is ar q
    · exact .inr ⟨_, _, by rw [e]⟩
    · exact .inr ⟨_, _, by rw [e]⟩
theorem argH_ok (ar : ∀ a ∈ A, ArgOb h A a) : HOk P w (argH K h A) h := fun b u q => by
  obtain ⟨_, vs, h1, h2, ⟨e, rfl⟩ | ⟨e, rfl⟩⟩ := argH_is ar q
  · exact ⟨e, by rw [List.length_map]; exact h1, vs, _, vals_toV h2, e⟩
  · exact ⟨e, by rw [List.length_map]; exact h1, vs, vals_toV h2, _, e, rfl, _, rfl⟩
theorem seq_inj {c c' : Value} {vs us : List Value} (e : (some { cls := c, data := .seq vs.toArray } : Option Obj) = some { cls := c', data := .seq us.toArray }) : c = c' ∧ vs = us := by
  have e1 := Option.some.inj e
  have e2 : c = c' := congrArg Obj.cls e1
  have e3 : Data.seq vs.toArray = Data.seq us.toArray := congrArg Obj.data e1
  injection e3 with e4
  refine ⟨e2, ?_⟩
  have e5 := congrArg Array.toList e4
  simpa using e5
/-- a list argument -/
theorem argL (KX : K.In h) (ar : ∀ a ∈ A, ArgOb h A a) {a : Addr} {vs : List Value} (ha : a ∈ A) (e : h.get? a = some { cls := .type "list", data := .seq vs.toArray }) : (∀ u ∈ vs, OkU A u) ∧ SqL K (argH K h A) a (vs.map toV) := by
  obtain ⟨us, h1, h2, h3⟩ := ar a ha
  have hu : us = vs := by
    rcases h3 with q | q
    · rw [e] at q
      exact (seq_inj q).2.symm
    · rw [e] at q
      exact absurd (Value.type.inj (seq_inj q).1) (by decide)
  subst hu
  refine ⟨h2, ?_⟩
  cases hk : K.lookup a with
  | none => exact .inl (.inr ⟨_, by rw [argH_at ha hk e, hoOf_lst]⟩)
  | some o =>
    have e2 := KX a o hk
    rw [e] at e2
    obtain rfl := Option.some.inj e2
    exact .inr ⟨_, us.toArray, _, hk, rfl, rfl, rfl, by rw [List.size_toArray]; exact h1, by simpa using vals_toV h2⟩
theorem argT (KX : K.In h) (ar : ∀ a ∈ A, ArgOb h A a) {a : Addr} {vs : List Value} (ha : a ∈ A) (e : h.get? a = some { cls := .type "tuple", data := .seq vs.toArray }) : (∀ u ∈ vs, OkU A u) ∧ SqT K (argH K h A) a (vs.map toV) := by
  obtain ⟨us, h1, h2, h3⟩ := ar a ha
  have hu : us = vs := by
    rcases h3 with q | q
    · rw [e] at q
      exact absurd (Value.type.inj (seq_inj q).1) (by decide)
    · rw [e] at q
      exact (seq_inj q).2.symm
  subst hu
  refine ⟨h2, ?_⟩
  cases hk : K.lookup a with
  | none => exact .inl (.inr ⟨_, by rw [argH_at ha hk e, hoOf_tup]⟩)
  | some o =>
    have e2 := KX a o hk
    rw [e] at e2
    obtain rfl := Option.some.inj e2
    exact .inr ⟨_, us.toArray, _, hk, rfl, rfl, by rw [List.size_toArray]; exact h1, by simpa using vals_toV h2⟩
mutual
theorem dw_one {Pm : Params} (KX : K.In h) (ar : ∀ a ∈ A, ArgOb h A a) : ∀ (d : WData) (v : Value), Well Pm h v d → plW d = true → OkU A v → Dw K (argH K h A) (toV v) d
  | .none, _, x, _, _ => by
    cases x
    exact .non
  | .bool b, _, x, _, _ => by
    cases x
    exact .bl b
  | .int i, _, x, _, _ => by
    cases x
    exact .int i
  | .str s, _, x, _, _ => by
    cases x
    exact .str s
  | .bytes b, _, x, _, _ => by
    cases x
    have z := Dw.byt (K := K) (H := argH K h A) b.toArray
    exact z
  | .list ds, _, x, p, hu => by
    obtain ⟨a, vs, rfl, ho, hall⟩ := well_list x
    obtain ⟨h2, hs⟩ := argL KX ar hu ho
    exact .lst hs (dw_all KX ar ds _ hall p h2)
  | .tuple ds, _, x, p, hu => by
    obtain ⟨a, vs, rfl, ho, hall⟩ := well_tuple x
    obtain ⟨h2, hs⟩ := argT KX ar hu ho
    exact .tup hs (dw_all KX ar ds _ hall p h2)
  | .float _, _, _, p, _ => Bool.noConfusion (show false = true from p)
  | .dict _, _, _, p, _ => Bool.noConfusion (show false = true from p)
  | .bytearray _, _, _, p, _ => Bool.noConfusion (show false = true from p)
  | .set _, _, _, p, _ => Bool.noConfusion (show false = true from p)
  | .frozenset _, _, _, p, _ => Bool.noConfusion (show false = true from p)
  | .obj _ _, _, _, p, _ => Bool.noConfusion (show false = true from p)
theorem dw_all {Pm : Params} (KX : K.In h) (ar : ∀ a ∈ A, ArgOb h A a) : ∀ (ds : List WData) (vs : List Value), WellAll Pm h vs ds → plWs ds = true → (∀ u ∈ vs, OkU A u) → DwAll K (argH K h A) (vs.map toV) ds
  | [], _, x, _, _ => by
    cases x
    exact .nil
  | d :: ds, _, x, p, hu => by
    obtain ⟨v, vs, rfl, x1, x2⟩ := well_cons x
    have q : plW d = true ∧ plWs ds = true := Bool.and_eq_true_iff.mp p
    exact .cons (dw_one KX ar d v x1 q.1 (hu _ (List.mem_cons_self ..))) (dw_all KX ar ds vs x2 q.2 fun u m => hu u (List.mem_cons_of_mem _ m))
end
end
/-! ### the call -/
theorem spec_call {P : Program} {w : World} {K : PySem.W.Frag} {mg mb : Str → Option Value} {CX : CXT} {k : Nat} {fa : Addr} {fd : FuncData} {ps : List Str} {sp : Sp} {s₁ : Shared} {vals : List Value} {ds : List WData} {R : PySem.W.WRecords} {cl : Str → Option Addr} {d0 : WData}
    (KX : K.In s₁.heap) (hns : s₁.heap.Ns mainGlobals mg) (hb : s₁.heap.Ns builtinsNs mb) (hbb : ∀ x : Str, x ≠ "__name__" → mb x = bootBuiltins x) (hlim : s₁.heap.NoLimit) (hg : s₁.gens = #[])
    (hwl : WellAll w.params s₁.heap vals ds) (hpl : plWs ds = true) (hwt : ∀ d ∈ ds, d.weight ≤ 1048576) (hr : Room k callerA)
    (F : ∀ base : Heap, K.In base → base.Ns mainGlobals mg → FnOk P w K mg base CX k fa fd ps sp) (hbind : ∀ (s : Shared) (us : List Value), us.length = ps.length → BindsTo s fd ⟨us, []⟩ (ps.zip us)) (hlen : ds.length = ps.length)
    (hsp : ∀ (H : Hp) (xs : List V), OnlyF H → DwAll K H xs ds → sp xs H (fun v H' => Dw K H' v d0) fun _ _ _ => False)
    (hCX : ∀ H e s', CX [] H s₁ (fun _ _ _ => False) e s' → False) :
    codeAny (model P w) callerA (.call (.ref fa) ⟨vals, []⟩) (fun r s' => ∃ u as, r = .ok (.ret u) ∧ ReadsW R cl s'.heap u d0 as ∧ OldK s₁.heap s'.heap ∧ s'.os = s₁.os ∧ AllBare s'.gens) s₁ := by
  obtain ⟨A, ho, ar⟩ := area_all ds vals hwl hpl hwt
  have hO : OnlyF (argH K s₁.heap A) := argH_only ar
  have hok : HOk P w (argH K s₁.heap A) s₁.heap := argH_ok ar
  have hS := dw_all KX ar ds vals hwl hpl ho
  have hV := vals_toV ho
  have hK : ∀ b u, argH K s₁.heap A b = some u → K.lookup b = none := fun b u q => (argH_is ar q).1
  have noA : ∀ {b : Addr} {o : Obj} {es : Array DictEntry} {ep : Nat}, s₁.heap.get? b = some o → o.data = .dict es ep → argH K s₁.heap A b = none := fun {b o es ep} e d => by
    cases q : argH K s₁.heap A b with
    | none => rfl
    | some u =>
      obtain ⟨_, vs, _, _, ⟨e2, _⟩ | ⟨e2, _⟩⟩ := argH_is ar q
      · rw [e2] at e
        cases e
        have d' : Data.seq vs.toArray _ = Data.dict es ep := d
        cases d'
      · rw [e2] at e
        cases e
        have d' : Data.seq vs.toArray _ = Data.dict es ep := d
        cases d'
  generalize argH K s₁.heap A = H at hO hok hS hK noA
  have base_of : ∀ {b : Addr} {o : Obj}, s₁.heap.get? b = some o → H b = none → (hidT s₁.heap H).get? b = some o := fun e n => hidT_get e n
  have nsK : ∀ {b : Addr} {m : Str → Option Value}, s₁.heap.Ns b m → (hidT s₁.heap H).Ns b m := fun {b m} ⟨o, es, ep, e, d, r⟩ => ⟨o, es, ep, base_of e (noA e d), d, r⟩
  have nK : ∀ b o, K.lookup b = some o → H b = none := fun b o e => by
    cases q : H b with
    | none => rfl
    | some u =>
      rw [hK b u q] at e
      cases e
  have hKb : K.In (hidT s₁.heap H) := fun b o e => base_of (KX b o e) (nK b o e)
  have hM : Mod K mg (hidT s₁.heap H) := ⟨hKb, nsK hns, ⟨mb, nsK hb, hbb⟩, let ⟨mc, h1, h2⟩ := hlim; ⟨mc, nsK h1, h2⟩⟩
  have e0 : Env0 P w K mg (hidT s₁.heap H) callerA [] s₁ H := ⟨rfl, hM, fun b o e => of_hidT e, Nat.le_of_eq (hidT_size _ _), trivial, fun b hb => absurd (show b ∈ ([] : List Addr) from hb) (by simp), hok, .of_eq hg⟩
  have hl : vals.length = ps.length := by rw [wellAll_len hwl]; exact hlen
  refine codeAny_mono ((F _ hKb (nsK hns)).run callerA [] s₁ H ⟨vals, []⟩ vals (vals.map toV) _ _ hr e0 (hbind s₁ vals hl) hV (hsp H _ hO hS)) fun r s' x => ?_
  cases r with
  | error e => exact (hCX H e s' x).elim
  | ok fl =>
    cases fl with
    | next => exact False.elim x
    | brk => exact False.elim x
    | cont => exact False.elim x
    | ret u =>
      obtain ⟨v, H', os, bare, un, hok', r', q⟩ := x
      have kept : ∀ b o, s₁.heap.get? b = some o → s'.heap.get? b = some o := fun b o e => by
        cases q2 : H b with
        | none => exact un.keep b o e q2 (by intro z; exact absurd (show b ∈ ([] : List Addr) from z) (by simp)) (by simp)
        | some u2 =>
          rcases hO b with z | ⟨ob, u3, z⟩
          · rw [q2] at z
            cases z
          · have z2 := un.frzs b ob _ z
            obtain ⟨e1, _⟩ := hok b _ z
            obtain ⟨e2, _⟩ := hok' b _ z2
            rw [e] at e1
            cases e1
            exact e2
      have KX' : K.In s'.heap := fun b o e => kept b o (KX b o e)
      obtain ⟨as, hrd⟩ := Dw.reads (R := R) (cl := cl) hok' KX' d0 v u q r'
      exact ⟨u, as, rfl, hrd, OldK.of_keep kept, os, bare⟩
/-! ### the row -/
theorem layable_weight {ds : List WData} (h : WData.layableAll ds = true) : ∀ d ∈ ds, d.weight ≤ 1048576 := fun d hd =>
  (PySem.W.layableW_iff.mp (List.all_eq_true.mp h d hd)).2.2
theorem encAll_len : ∀ (cs : List Codec) (a : Codec.denoteAll cs), (Codec.encAll cs a).length = cs.length
  | [], _ => rfl
  | c :: cs, a => by
    show (Codec.encAll cs a.2).length + 1 = cs.length + 1
    rw [encAll_len cs a.2]
/-- the goal that k_headS leaves (case hc), from the promise of the row's def: whatever the arguments that the codecs let and the row asks for, the def gives what stands for enc (f ..) -/
theorem walk_spec {r : OpenSpec} {k : Nat} {q : Program} {loose : List Str} {XP : (Str → Option Value) → Heap → Prop} {YP : World → Heap → Prop} {d : DefRec} {K : Params → PySem.W.Frag} {CX : World → CXT} {ps : List Str} {sp : World → Sp}
    (hwell : r.wellSaid = true) (hdf : d.params.defaults = []) (hlen : r.args.length = ps.length) (hr : Room k callerA)
    (hY : ∀ (w : World) (h : Heap), YP w h → (K w.params).In h)
    (F : ∀ (w : World) (mg : Str → Option Value) (fa : Addr) (h : Heap), YP w h → (K w.params).In h → h.Ns mainGlobals mg → mg d.name = some (.ref fa) →
      ∃ fd : FuncData, (∀ (s : Shared) (us : List Value), us.length = ps.length → BindsTo s fd ⟨us, []⟩ (ps.zip us)) ∧
        ∀ base : Heap, (K w.params).In base → base.Ns mainGlobals mg → FnOk r.prog w (K w.params) mg base (CX w) k fa fd ps (sp w))
    (hsp : ∀ (w : World) (H : Hp) (xs : List V) (a : Codec.denoteAll r.args), OnlyF H → Codec.withinAll r.args a = true → Codec.app r.args r.asked a = true → DwAll (K w.params) H xs (Codec.encAll r.args a) →
      sp w xs H (fun v H' => Dw (K w.params) H' v (r.ret.enc (Codec.app r.args r.f a))) fun _ _ _ => False)
    (hCX : ∀ (w : World) (H : Hp) (s : Shared) (e : Value) (s' : Shared), CX w [] H s (fun _ _ _ => False) e s' → False) :
    PySem.W.WalkOS q loose XP YP r d [] (fun f vs => PySem.call f vs) := by
  intro w s_0 s₁ mg mb G Y fa o pm cd doc dV kV ho hd hcd hD hmg hg args vals as hpre hlay hrd hwl hlo
  obtain ⟨a, e1, e2⟩ := PySem.W.os_pre_some hpre
  obtain ⟨e3, hwi⟩ := Codec.encAll_of_decAll r.args args a e1
  subst e3
  have KX := hY w _ Y
  obtain ⟨fd, hb, hF⟩ := F w mg fa _ Y KX G.T.g hmg
  refine PySem.W.enter_call (codeAny_mono (spec_call (R := []) (cl := classAt s_0.heap) (d0 := r.ret.enc (Codec.app r.args r.f a)) KX G.T.g G.T.b G.T.builtins G.T.nolimit hg hwl (pl_encAll _ _) (layable_weight hlay) hr hF hb (by rw [encAll_len]; exact hlen)
    (fun H xs hO hS => hsp w H xs a hO hwi e2 hS) fun H e s' => hCX w H s₁ e s') fun r' s' hq => ?_)
  obtain ⟨u, as', rfl, h1, h2, h3, h4⟩ := hq
  exact ⟨.inl ⟨u, _, as', rfl, fun _ => rfl, h1, (OpenSpec.post_iff hwell hwi _ _).mpr rfl, fun z => Bool.noConfusion (show false = true from z)⟩, h2, h3, h4⟩
/-- the same where the promise hangs on the written part alone -/
theorem walk_specK {r : OpenSpec} {k : Nat} {q : Program} {loose : List Str} {XP : (Str → Option Value) → Heap → Prop} {YP : World → Heap → Prop} {d : DefRec} {K : Params → PySem.W.Frag} {CX : CXT} {ps : List Str} {sp : PySem.W.Frag → Sp}
    (hwell : r.wellSaid = true) (hdf : d.params.defaults = []) (hlen : r.args.length = ps.length) (hr : Room k callerA)
    (hY : ∀ (w : World) (h : Heap), YP w h → (K w.params).In h)
    (F : ∀ (w : World) (mg : Str → Option Value) (fa : Addr) (h : Heap), YP w h → (K w.params).In h → h.Ns mainGlobals mg → mg d.name = some (.ref fa) →
      ∃ fd : FuncData, (∀ (s : Shared) (us : List Value), us.length = ps.length → BindsTo s fd ⟨us, []⟩ (ps.zip us)) ∧
        ∀ base : Heap, (K w.params).In base → base.Ns mainGlobals mg → FnOk r.prog w (K w.params) mg base CX k fa fd ps (sp (K w.params)))
    (hsp : ∀ (K : PySem.W.Frag) (H : Hp) (xs : List V) (a : Codec.denoteAll r.args), OnlyF H → Codec.withinAll r.args a = true → Codec.app r.args r.asked a = true → DwAll K H xs (Codec.encAll r.args a) →
      sp K xs H (fun v H' => Dw K H' v (r.ret.enc (Codec.app r.args r.f a))) fun _ _ _ => False)
    (hCX : ∀ (H : Hp) (s : Shared) (e : Value) (s' : Shared), CX [] H s (fun _ _ _ => False) e s' → False) :
    PySem.W.WalkOS q loose XP YP r d [] (fun f vs => PySem.call f vs) :=
  walk_spec (K := K) (CX := fun _ => CX) (sp := fun w => sp (K w.params)) hwell hdf hlen hr hY F (fun w H xs a h1 h2 h3 h4 => hsp (K w.params) H xs a h1 h2 h3 h4) fun _ H s e s' => hCX H s e s'
end L2
-- rests on (row put in by the clerk, for the bench that shows a file only what it spells): KE.SpHead KE.OsShapes
end

set_option Elab.async false
set_option linter.all false
set_option maxRecDepth 100000
set_option maxHeartbeats 2000000
namespace M
open PySem PySem.Spec PyProof.Rows L2 TL
def top (i : Nat) : Stmt := PySem.Challenge.pw_measuretext_s01_tokens.main.body.getD i (.Pass ⟨0, 0, 0, 0⟩)
abbrev s_is_letter : Stmt := top 15
theorem sc_is_letter : FnScope ["byte"] ["byte"] (defScope s_is_letter) := ⟨rfl, rfl, rfl, by decide +kernel, rfl, by decide +kernel, by decide +kernel⟩
abbrev s_is_digit : Stmt := top 16
theorem sc_is_digit : FnScope ["byte"] ["byte"] (defScope s_is_digit) := ⟨rfl, rfl, rfl, by decide +kernel, rfl, by decide +kernel, by decide +kernel⟩
abbrev s_is_in_word : Stmt := top 17
theorem sc_is_in_word : FnScope ["byte"] ["byte"] (defScope s_is_in_word) := ⟨rfl, rfl, rfl, by decide +kernel, rfl, by decide +kernel, by decide +kernel⟩
abbrev s_is_short_word : Stmt := top 18
theorem sc_is_short_word : FnScope ["text", "sign"] ["text"] (defScope s_is_short_word) := ⟨rfl, rfl, rfl, by decide +kernel, rfl, by decide +kernel, by decide +kernel⟩
abbrev s_is_space : Stmt := top 19
theorem sc_is_space : FnScope ["byte"] ["byte"] (defScope s_is_space) := ⟨rfl, rfl, rfl, by decide +kernel, rfl, by decide +kernel, by decide +kernel⟩
abbrev s_is_in_comment : Stmt := top 20
theorem sc_is_in_comment : FnScope ["byte"] ["byte"] (defScope s_is_in_comment) := ⟨rfl, rfl, rfl, by decide +kernel, rfl, by decide +kernel, by decide +kernel⟩
abbrev s_is_before_measure_end : Stmt := top 21
theorem sc_is_before_measure_end : FnScope ["byte"] ["byte"] (defScope s_is_before_measure_end) := ⟨rfl, rfl, rfl, by decide +kernel, rfl, by decide +kernel, by decide +kernel⟩
abbrev s_run_end : Stmt := top 22
theorem sc_run_end : FnScope ["text", "place", "belongs"] ["text", "place", "belongs"] (defScope s_run_end) := ⟨rfl, rfl, rfl, by decide +kernel, rfl, by decide +kernel, by decide +kernel⟩
abbrev s_sign_of : Stmt := top 23
theorem sc_sign_of : FnScope ["byte"] ["byte"] (defScope s_sign_of) := ⟨rfl, rfl, rfl, by decide +kernel, rfl, by decide +kernel, by decide +kernel⟩
abbrev s_signs_of : Stmt := top 24
theorem sc_signs_of : FnScope ["some_bytes", "byte"] ["some_bytes"] (defScope s_signs_of) := ⟨rfl, rfl, rfl, by decide +kernel, rfl, by decide +kernel, by decide +kernel⟩
abbrev s_number_end : Stmt := top 30
theorem sc_number_end : FnScope ["text", "begin", "end"] ["text", "begin"] (defScope s_number_end) := ⟨rfl, rfl, rfl, by decide +kernel, rfl, by decide +kernel, by decide +kernel⟩
abbrev s_fraction_of : Stmt := top 31
theorem sc_fraction_of : FnScope ["spelling", "divided", "rows", "row"] ["spelling"] (defScope s_fraction_of) := ⟨rfl, rfl, rfl, by decide +kernel, rfl, by decide +kernel, by decide +kernel⟩
abbrev s_lowest : Stmt := top 32
theorem sc_lowest : FnScope ["over", "under", "divisor"] ["over", "under"] (defScope s_lowest) := ⟨rfl, rfl, rfl, by decide +kernel, rfl, by decide +kernel, by decide +kernel⟩
abbrev s_common_divisor : Stmt := top 33
theorem sc_common_divisor : FnScope ["first", "second", "remainder"] ["first", "second"] (defScope s_common_divisor) := ⟨rfl, rfl, rfl, by decide +kernel, rfl, by decide +kernel, by decide +kernel⟩
abbrev s_is_measure : Stmt := top 34
theorem sc_is_measure : FnScope ["measure", "factor"] ["measure"] (defScope s_is_measure) := ⟨rfl, rfl, rfl, by decide +kernel, rfl, by decide +kernel, by decide +kernel⟩
abbrev s_is_factor : Stmt := top 35
theorem sc_is_factor : FnScope ["factor", "halves"] ["factor"] (defScope s_is_factor) := ⟨rfl, rfl, rfl, by decide +kernel, rfl, by decide +kernel, by decide +kernel⟩
abbrev s_is_power : Stmt := top 36
theorem sc_is_power : FnScope ["power", "digits", "sign"] ["power"] (defScope s_is_power) := ⟨rfl, rfl, rfl, by decide +kernel, rfl, by decide +kernel, by decide +kernel⟩
abbrev s_measured : Stmt := top 37
theorem sc_measured : FnScope ["amount", "measure"] ["amount", "measure"] (defScope s_measured) := ⟨rfl, rfl, rfl, by decide +kernel, rfl, by decide +kernel, by decide +kernel⟩
abbrev s_negated : Stmt := top 38
theorem sc_negated : FnScope ["amount"] ["amount"] (defScope s_negated) := ⟨rfl, rfl, rfl, by decide +kernel, rfl, by decide +kernel, by decide +kernel⟩
abbrev s_surface_tokens : Stmt := top 45
theorem sc_surface_tokens : FnScope ["text"] ["text"] (defScope s_surface_tokens) := ⟨rfl, rfl, rfl, by decide +kernel, rfl, by decide +kernel, by decide +kernel⟩
abbrev s_tokens_between : Stmt := top 46
theorem sc_tokens_between : FnScope ["text", "gap_end", "token_at", "found", "place", "token"] ["text", "gap_end", "token_at"] (defScope s_tokens_between) := ⟨rfl, rfl, rfl, by decide +kernel, rfl, by decide +kernel, by decide +kernel⟩
abbrev s_surface_gap_end : Stmt := top 47
theorem sc_surface_gap_end : FnScope ["text", "place", "end"] ["text", "place"] (defScope s_surface_gap_end) := ⟨rfl, rfl, rfl, by decide +kernel, rfl, by decide +kernel, by decide +kernel⟩
abbrev s_comment_end : Stmt := top 48
theorem sc_comment_end : FnScope ["text", "begin", "end"] ["text", "begin"] (defScope s_comment_end) := ⟨rfl, rfl, rfl, by decide +kernel, rfl, by decide +kernel, by decide +kernel⟩
abbrev s_surface_token : Stmt := top 49
theorem sc_surface_token : FnScope ["text", "begin"] ["text", "begin"] (defScope s_surface_token) := ⟨rfl, rfl, rfl, by decide +kernel, rfl, by decide +kernel, by decide +kernel⟩
abbrev s_word_token : Stmt := top 50
theorem sc_word_token : FnScope ["text", "begin", "end", "word", "kind"] ["text", "begin"] (defScope s_word_token) := ⟨rfl, rfl, rfl, by decide +kernel, rfl, by decide +kernel, by decide +kernel⟩
abbrev s_number_token : Stmt := top 51
theorem sc_number_token : FnScope ["text", "begin", "digits", "end", "amount", "measure", "kind"] ["text", "begin", "digits"] (defScope s_number_token) := ⟨rfl, rfl, rfl, by decide +kernel, rfl, by decide +kernel, by decide +kernel⟩
abbrev s_measure_at : Stmt := top 52
theorem sc_measure_at : FnScope ["text", "begin", "end", "measure"] ["text", "begin"] (defScope s_measure_at) := ⟨rfl, rfl, rfl, by decide +kernel, rfl, by decide +kernel, by decide +kernel⟩
abbrev s_sign_token : Stmt := top 53
theorem sc_sign_token : FnScope ["text", "begin", "signs", "sign"] ["text", "begin", "signs"] (defScope s_sign_token) := ⟨rfl, rfl, rfl, by decide +kernel, rfl, by decide +kernel, by decide +kernel⟩
abbrev s_tokens : Stmt := top 57
theorem sc_tokens : FnScope ["text"] ["text"] (defScope s_tokens) := ⟨rfl, rfl, rfl, by decide +kernel, rfl, by decide +kernel, by decide +kernel⟩
abbrev s_answered : Stmt := top 58
theorem sc_answered : FnScope ["text", "reading", "answering", "found", "fault"] ["text", "reading", "answering"] (defScope s_answered) := ⟨rfl, rfl, rfl, by decide +kernel, rfl, by decide +kernel, by decide +kernel⟩
abbrev s_tokens_answer : Stmt := top 59
theorem sc_tokens_answer : FnScope ["found", "answer", "token"] ["found"] (defScope s_tokens_answer) := ⟨rfl, rfl, rfl, by decide +kernel, rfl, by decide +kernel, by decide +kernel⟩
abbrev s_Fault___init__ : Stmt := inClass (top 1) 0
theorem sc_Fault___init__ : FnScope ["self", "kind", "place"] ["self", "kind", "place"] (defScope s_Fault___init__) := ⟨rfl, rfl, rfl, by decide +kernel, rfl, by decide +kernel, by decide +kernel⟩
abbrev s_Amount___init__ : Stmt := inClass (top 29) 0
theorem sc_Amount___init__ : FnScope ["self", "over", "under", "measure"] ["self", "over", "under", "measure"] (defScope s_Amount___init__) := ⟨rfl, rfl, rfl, by decide +kernel, rfl, by decide +kernel, by decide +kernel⟩
abbrev s_Token___init__ : Stmt := inClass (top 44) 0
theorem sc_Token___init__ : FnScope ["self", "group", "kind", "begin", "end", "content"] ["self", "group", "kind", "begin", "end", "content"] (defScope s_Token___init__) := ⟨rfl, rfl, rfl, by decide +kernel, rfl, by decide +kernel, by decide +kernel⟩
structure TX (K : PySem.W.Frag) (mg : Str → Option Value) where
  g_BLANK : ∃ u, mg "BLANK" = some u ∧ RelV (.int 32) u
  g_LINE_END : ∃ u, mg "LINE_END" = some u ∧ RelV (.int 10) u
  g_COMMENT_BEGIN : ∃ u, mg "COMMENT_BEGIN" = some u ∧ RelV (.int 123) u
  g_COMMENT_END : ∃ u, mg "COMMENT_END" = some u ∧ RelV (.int 125) u
  g_MEASURE_BEGIN : ∃ u, mg "MEASURE_BEGIN" = some u ∧ RelV (.int 91) u
  g_MEASURE_END : ∃ u, mg "MEASURE_END" = some u ∧ RelV (.int 93) u
  a_FRACTION_SIGNS : Addr
  g_FRACTION_SIGNS : mg "FRACTION_SIGNS" = some (.ref a_FRACTION_SIGNS)
  t_FRACTION_SIGNS : ∀ H, SqT K H a_FRACTION_SIGNS [V.int 46, V.int 47]
  g_FIRST_PRINTED : ∃ u, mg "FIRST_PRINTED" = some u ∧ RelV (.int 32) u
  g_LAST_PRINTED : ∃ u, mg "LAST_PRINTED" = some u ∧ RelV (.int 126) u
  g_MOST_SIGNS : ∃ u, mg "MOST_SIGNS" = some u ∧ RelV (.int 12) u
  g_PRINTED : ∃ u, mg "PRINTED" = some u ∧ RelV (.str " !\"#$?&'()*+,-./0123456789:;<=>?@ABCDEFGHIJKLMNOPQRSTUVWXYZ[\\]^_`abcdefghijklmnopqrstuvwxyz{|}~") u
  a_TAKEN_WORDS : Addr
  g_TAKEN_WORDS : mg "TAKEN_WORDS" = some (.ref a_TAKEN_WORDS)
  t_TAKEN_WORDS : ∀ H, SqT K H a_TAKEN_WORDS [V.str "fn", V.str "let", V.str "rec", V.str "if", V.str "cons", V.str "case", V.str "pair", V.str "fst", V.str "snd", V.str "fold", V.str "root", V.str "floor", V.str "rest", V.str "true", V.str "false", V.str "nil", V.str "truth", V.str "num", V.str "list", V.str "base", V.str "unit", V.str "def", V.str "fun", V.str "in", V.str "then", V.str "else", V.str "match", V.str "with", V.str "and", V.str "or", V.str "not"]
  g_MOST_DIGITS : ∃ u, mg "MOST_DIGITS" = some u ∧ RelV (.int 12) u
  g_FIRST_TOO_GREAT : ∃ u, mg "FIRST_TOO_GREAT" = some u ∧ RelV (.int 1000000000000) u
  g_MOST_POWER_DIGITS : ∃ u, mg "MOST_POWER_DIGITS" = some u ∧ RelV (.int 2) u
  g_WORD_GROUP : ∃ u, mg "WORD_GROUP" = some u ∧ RelV (.int 0) u
  g_NUMBER_GROUP : ∃ u, mg "NUMBER_GROUP" = some u ∧ RelV (.int 1) u
  g_SIGN_GROUP : ∃ u, mg "SIGN_GROUP" = some u ∧ RelV (.int 2) u
  a_SURFACE_SIGNS : Addr
  g_SURFACE_SIGNS : mg "SURFACE_SIGNS" = some (.ref a_SURFACE_SIGNS)
  t_SURFACE_SIGNS : ∀ H, SqT K H a_SURFACE_SIGNS [V.str "->", V.str "::", V.str "<=", V.str ">=", V.str "<>", V.str "|", V.str "<", V.str ">", V.str "=", V.str "+", V.str "-", V.str "*", V.str "/", V.str "^", V.str "(", V.str ")", V.str "[", V.str "]", V.str ","]
  g_MOST_BYTES : ∃ u, mg "MOST_BYTES" = some u ∧ RelV (.int 2000) u
  g_TEXT_TOO_LONG : ∃ u, mg "TEXT_TOO_LONG" = some u ∧ RelV (.int (-1)) u
  b_all : mg "all" = none
  b_int : mg "int" = none
  b_len : mg "len" = none
  b_max : mg "max" = none
  b_ord : mg "ord" = none
  C_Fault : Addr
  G_Fault : mg "Fault" = some (.ref C_Fault)
  f_Fault___init__ : Addr
  d_Fault___init__ : FuncData
  F_Fault___init__ : Fun K "__init__" "Fault.__init__" s_Fault___init__ f_Fault___init__ d_Fault___init__
  b_Fault___init__ : Binds K d_Fault___init__ ["self", "kind", "place"] []
  X_Fault : XCls K C_Fault f_Fault___init__
  n_Fault_kind : NoAttr K C_Fault "kind"
  n_Fault_place : NoAttr K C_Fault "place"
  C_Amount : Addr
  G_Amount : mg "Amount" = some (.ref C_Amount)
  f_Amount___init__ : Addr
  d_Amount___init__ : FuncData
  F_Amount___init__ : Fun K "__init__" "Amount.__init__" s_Amount___init__ f_Amount___init__ d_Amount___init__
  b_Amount___init__ : Binds K d_Amount___init__ ["self", "over", "under", "measure"] []
  cl_Amount : Cls K C_Amount
  M_Amount : Mk K C_Amount f_Amount___init__
  n_Amount_over : NoAttr K C_Amount "over"
  n_Amount_under : NoAttr K C_Amount "under"
  n_Amount_measure : NoAttr K C_Amount "measure"
  C_Token : Addr
  G_Token : mg "Token" = some (.ref C_Token)
  f_Token___init__ : Addr
  d_Token___init__ : FuncData
  F_Token___init__ : Fun K "__init__" "Token.__init__" s_Token___init__ f_Token___init__ d_Token___init__
  b_Token___init__ : Binds K d_Token___init__ ["self", "group", "kind", "begin", "end", "content"] []
  cl_Token : Cls K C_Token
  M_Token : Mk K C_Token f_Token___init__
  n_Token_group : NoAttr K C_Token "group"
  n_Token_kind : NoAttr K C_Token "kind"
  n_Token_begin : NoAttr K C_Token "begin"
  n_Token_end : NoAttr K C_Token "end"
  n_Token_content : NoAttr K C_Token "content"
  f_is_letter : Addr
  d_is_letter : FuncData
  F_is_letter : FG K mg "is_letter" s_is_letter ["byte"] f_is_letter d_is_letter
  f_is_digit : Addr
  d_is_digit : FuncData
  F_is_digit : FG K mg "is_digit" s_is_digit ["byte"] f_is_digit d_is_digit
  f_is_in_word : Addr
  d_is_in_word : FuncData
  F_is_in_word : FG K mg "is_in_word" s_is_in_word ["byte"] f_is_in_word d_is_in_word
  f_is_short_word : Addr
  d_is_short_word : FuncData
  F_is_short_word : FG K mg "is_short_word" s_is_short_word ["text"] f_is_short_word d_is_short_word
  f_is_space : Addr
  d_is_space : FuncData
  F_is_space : FG K mg "is_space" s_is_space ["byte"] f_is_space d_is_space
  f_is_in_comment : Addr
  d_is_in_comment : FuncData
  F_is_in_comment : FG K mg "is_in_comment" s_is_in_comment ["byte"] f_is_in_comment d_is_in_comment
  f_is_before_measure_end : Addr
  d_is_before_measure_end : FuncData
  F_is_before_measure_end : FG K mg "is_before_measure_end" s_is_before_measure_end ["byte"] f_is_before_measure_end d_is_before_measure_end
  f_run_end : Addr
  d_run_end : FuncData
  F_run_end : FG K mg "run_end" s_run_end ["text", "place", "belongs"] f_run_end d_run_end
  f_sign_of : Addr
  d_sign_of : FuncData
  F_sign_of : FG K mg "sign_of" s_sign_of ["byte"] f_sign_of d_sign_of
  f_signs_of : Addr
  d_signs_of : FuncData
  F_signs_of : FG K mg "signs_of" s_signs_of ["some_bytes"] f_signs_of d_signs_of
  f_number_end : Addr
  d_number_end : FuncData
  F_number_end : FG K mg "number_end" s_number_end ["text", "begin"] f_number_end d_number_end
  f_fraction_of : Addr
  d_fraction_of : FuncData
  F_fraction_of : FG K mg "fraction_of" s_fraction_of ["spelling"] f_fraction_of d_fraction_of
  f_lowest : Addr
  d_lowest : FuncData
  F_lowest : FG K mg "lowest" s_lowest ["over", "under"] f_lowest d_lowest
  f_common_divisor : Addr
  d_common_divisor : FuncData
  F_common_divisor : FG K mg "common_divisor" s_common_divisor ["first", "second"] f_common_divisor d_common_divisor
  f_is_measure : Addr
  d_is_measure : FuncData
  F_is_measure : FG K mg "is_measure" s_is_measure ["measure"] f_is_measure d_is_measure
  f_is_factor : Addr
  d_is_factor : FuncData
  F_is_factor : FG K mg "is_factor" s_is_factor ["factor"] f_is_factor d_is_factor
  f_is_power : Addr
  d_is_power : FuncData
  F_is_power : FG K mg "is_power" s_is_power ["power"] f_is_power d_is_power
  f_measured : Addr
  d_measured : FuncData
  F_measured : FG K mg "measured" s_measured ["amount", "measure"] f_measured d_measured
  f_negated : Addr
  d_negated : FuncData
  F_negated : FG K mg "negated" s_negated ["amount"] f_negated d_negated
  f_surface_tokens : Addr
  d_surface_tokens : FuncData
  F_surface_tokens : FG K mg "surface_tokens" s_surface_tokens ["text"] f_surface_tokens d_surface_tokens
  f_tokens_between : Addr
  d_tokens_between : FuncData
  F_tokens_between : FG K mg "tokens_between" s_tokens_between ["text", "gap_end", "token_at"] f_tokens_between d_tokens_between
  f_surface_gap_end : Addr
  d_surface_gap_end : FuncData
  F_surface_gap_end : FG K mg "surface_gap_end" s_surface_gap_end ["text", "place"] f_surface_gap_end d_surface_gap_end
  f_comment_end : Addr
  d_comment_end : FuncData
  F_comment_end : FG K mg "comment_end" s_comment_end ["text", "begin"] f_comment_end d_comment_end
  f_surface_token : Addr
  d_surface_token : FuncData
  F_surface_token : FG K mg "surface_token" s_surface_token ["text", "begin"] f_surface_token d_surface_token
  f_word_token : Addr
  d_word_token : FuncData
  F_word_token : FG K mg "word_token" s_word_token ["text", "begin"] f_word_token d_word_token
  f_number_token : Addr
  d_number_token : FuncData
  F_number_token : FG K mg "number_token" s_number_token ["text", "begin", "digits"] f_number_token d_number_token
  f_measure_at : Addr
  d_measure_at : FuncData
  F_measure_at : FG K mg "measure_at" s_measure_at ["text", "begin"] f_measure_at d_measure_at
  f_sign_token : Addr
  d_sign_token : FuncData
  F_sign_token : FG K mg "sign_token" s_sign_token ["text", "begin", "signs"] f_sign_token d_sign_token
  f_tokens : Addr
  d_tokens : FuncData
  F_tokens : FG K mg "tokens" s_tokens ["text"] f_tokens d_tokens
  f_answered : Addr
  d_answered : FuncData
  F_answered : FG K mg "answered" s_answered ["text", "reading", "answering"] f_answered d_answered
  f_tokens_answer : Addr
  d_tokens_answer : FuncData
  F_tokens_answer : FG K mg "tokens_answer" s_tokens_answer ["found"] f_tokens_answer d_tokens_answer
section
variable {P : Program} {w : World} {K : PySem.W.Frag} {mg : Str → Option Value} {base : Heap}
/-! ### signs -/
theorem ok_is_letter (T : TX K mg) : FnOk P w K mg base CX0 1 T.f_is_letter T.d_is_letter ["byte"] (spB Vaunid.isSmall) := by
  refine T.F_is_letter.fn.ok sc_is_letter (fun vs H Q E h => ?_) (fun cdv A outer s H vs Q E hr h => ?_)
  · obtain ⟨n, rfl, _⟩ := h
    rfl
  · obtain ⟨n, rfl, k⟩ := h
    refine ⟨_, (pss_one (ps_ret (pe_chain op_le op_le pe_int (pv 0) pe_int))), ?_⟩
    simp only [tRet, tRetN, tSeq, tNext, tChain, tC, tVar, tOp, tUn, rI0, rI, rU, tTest, tB, tIfS, tIf, tAnd, tOr, tNot, tAndV, tOrV, tNotV, tAsg, gName, tCB, tCons, tNil, tCall, tDrop, tAug, ipI, tSl, tPart, tNoPart, tM0, tM1, rEq, rNe, tIsN, tNotN, scal_ii, scal_ss, scal_bb, rIxS, rIxL, rIxT, rAll, rMax, rSum, rSlL, rSlS, rIn, tLst, tTup, iStr, iList, iTup, tYes, cx_K, cx_P, cx_w, cx_mg, cx_base, cx_N, wipe, L2.start, List.map_cons, List.map_nil, List.length_cons, List.length_nil, List.replicate, List.cons_append, List.nil_append, List.append_nil, List.getElem?_cons_zero, List.getElem?_cons_succ, List.set_cons_zero, List.set_cons_succ, Nat.reduceSub, Nat.reduceAdd, Nat.add_zero, Nat.zero_add, Option.some.injEq, V.int.injEq, V.bl.injEq, V.str.injEq, V.ref.injEq, List.cons.injEq, and_true, true_and, exists_eq_left, exists_eq_left', exists_and_left, exists_eq, exists_eq', reduceCtorEq, false_and, Bool.false_eq_true, if_true, if_false, ite_true, ite_false, decide_eq_true_eq, one_len, one_get, S_eq, S_len, and_assoc, Int.natCast_inj, upd_same, upd_upd, HO.ins.injEq, List.zip_cons_cons, List.zip_nil_left, List.zip_nil_right]
    have e : Vaunid.isSmall n = (decide ((97 : Int) ≤ n) && decide ((n : Int) ≤ 122)) := by unfold Vaunid.isSmall; congr 1 <;> exact decide_eq_decide.mpr (by omega)
    rw [e] at k
    split <;> rename_i q <;> simpa [q] using k
theorem ok_is_digit (T : TX K mg) : FnOk P w K mg base CX0 1 T.f_is_digit T.d_is_digit ["byte"] (spB Vaunid.isDigit) := by
  refine T.F_is_digit.fn.ok sc_is_digit (fun vs H Q E h => ?_) (fun cdv A outer s H vs Q E hr h => ?_)
  · obtain ⟨n, rfl, _⟩ := h
    rfl
  · obtain ⟨n, rfl, k⟩ := h
    refine ⟨_, (pss_one (ps_ret (pe_chain op_le op_le pe_int (pv 0) pe_int))), ?_⟩
    simp only [tRet, tRetN, tSeq, tNext, tChain, tC, tVar, tOp, tUn, rI0, rI, rU, tTest, tB, tIfS, tIf, tAnd, tOr, tNot, tAndV, tOrV, tNotV, tAsg, gName, tCB, tCons, tNil, tCall, tDrop, tAug, ipI, tSl, tPart, tNoPart, tM0, tM1, rEq, rNe, tIsN, tNotN, scal_ii, scal_ss, scal_bb, rIxS, rIxL, rIxT, rAll, rMax, rSum, rSlL, rSlS, rIn, tLst, tTup, iStr, iList, iTup, tYes, cx_K, cx_P, cx_w, cx_mg, cx_base, cx_N, wipe, L2.start, List.map_cons, List.map_nil, List.length_cons, List.length_nil, List.replicate, List.cons_append, List.nil_append, List.append_nil, List.getElem?_cons_zero, List.getElem?_cons_succ, List.set_cons_zero, List.set_cons_succ, Nat.reduceSub, Nat.reduceAdd, Nat.add_zero, Nat.zero_add, Option.some.injEq, V.int.injEq, V.bl.injEq, V.str.injEq, V.ref.injEq, List.cons.injEq, and_true, true_and, exists_eq_left, exists_eq_left', exists_and_left, exists_eq, exists_eq', reduceCtorEq, false_and, Bool.false_eq_true, if_true, if_false, ite_true, ite_false, decide_eq_true_eq, one_len, one_get, S_eq, S_len, and_assoc, Int.natCast_inj, upd_same, upd_upd, HO.ins.injEq, List.zip_cons_cons, List.zip_nil_left, List.zip_nil_right]
    have e : Vaunid.isDigit n = (decide ((48 : Int) ≤ n) && decide ((n : Int) ≤ 57)) := by unfold Vaunid.isDigit; congr 1 <;> exact decide_eq_decide.mpr (by omega)
    rw [e] at k
    split <;> rename_i q <;> simpa [q] using k
theorem ok_is_in_word (T : TX K mg) : FnOk P w K mg base CX0 2 T.f_is_in_word T.d_is_in_word ["byte"] (spB Vaunid.inWord) := by
  have G_is_letter := ok_is_letter (P := P) (w := w) (base := base) T
  have G_is_digit := ok_is_digit (P := P) (w := w) (base := base) T
  refine T.F_is_in_word.fn.ok sc_is_in_word (fun vs H Q E h => ?_) (fun cdv A outer s H vs Q E hr h => ?_)
  · obtain ⟨n, rfl, _⟩ := h
    rfl
  · obtain ⟨n, rfl, k⟩ := h
    refine ⟨_, (pss_one (ps_ret (pe_or (pe_call G_is_letter (hr.mono (by decide)) rfl T.F_is_letter.mg T.F_is_letter.fn.kp T.F_is_letter.b .nil pass0 (pa_cons (pv 0) pa_nil)) (pe_or (pe_call G_is_digit (hr.mono (by decide)) rfl T.F_is_digit.mg T.F_is_digit.fn.kp T.F_is_digit.b .nil pass0 (pa_cons (pv 0) pa_nil)) (pe_one (pe_cmpR op_eq (pv 0) pe_int (nomark _))))))), ?_⟩
    simp only [tRet, tRetN, tSeq, tNext, tChain, tC, tVar, tOp, tUn, rI0, rI, rU, tTest, tB, tIfS, tIf, tAnd, tOr, tNot, tAndV, tOrV, tNotV, tAsg, gName, tCB, tCons, tNil, tCall, tDrop, tAug, ipI, tSl, tPart, tNoPart, tM0, tM1, rEq, rNe, tIsN, tNotN, scal_ii, scal_ss, scal_bb, rIxS, rIxL, rIxT, rAll, rMax, rSum, rSlL, rSlS, rIn, tLst, tTup, iStr, iList, iTup, tYes, cx_K, cx_P, cx_w, cx_mg, cx_base, cx_N, wipe, L2.start, List.map_cons, List.map_nil, List.length_cons, List.length_nil, List.replicate, List.cons_append, List.nil_append, List.append_nil, List.getElem?_cons_zero, List.getElem?_cons_succ, List.set_cons_zero, List.set_cons_succ, Nat.reduceSub, Nat.reduceAdd, Nat.add_zero, Nat.zero_add, Option.some.injEq, V.int.injEq, V.bl.injEq, V.str.injEq, V.ref.injEq, List.cons.injEq, and_true, true_and, exists_eq_left, exists_eq_left', exists_and_left, exists_eq, exists_eq', reduceCtorEq, false_and, Bool.false_eq_true, if_true, if_false, ite_true, ite_false, decide_eq_true_eq, one_len, one_get, S_eq, S_len, and_assoc, Int.natCast_inj, upd_same, upd_upd, HO.ins.injEq, List.zip_cons_cons, List.zip_nil_left, List.zip_nil_right, spB, Int.natCast_inj]
    have e : decide ((n : Int) = 95) = (n == 95) := int_beq n 95
    unfold Vaunid.inWord at k
    rw [e]
    cases h1 : Vaunid.isSmall n <;> cases h2 : Vaunid.isDigit n <;> rw [h1, h2] at k <;> simpa using k
def spShort : Sp := fun vs H Q _ => ∃ l : List Nat, vs = [.str (S l)] ∧ l.length ≤ sizeLine ∧ ∀ H', Same H H' → Q (.bl (shortWord l)) H'
theorem ok_is_short_word (T : TX K mg) : FnOk P w K mg base CX0 3 T.f_is_short_word T.d_is_short_word ["text"] spShort := by
  have G_is_letter := ok_is_letter (P := P) (w := w) (base := base) T
  have G_is_in_word := ok_is_in_word (P := P) (w := w) (base := base) T
  refine T.F_is_short_word.fn.ok sc_is_short_word (fun vs H Q E h => ?_) (fun cdv A outer s H vs Q E hr h => ?_)
  · obtain ⟨n, rfl, _⟩ := h
    rfl
  · obtain ⟨l, rfl, hl, k⟩ := h
    refine ⟨_, (pss_cons (ps_if (PW.pt (pw_or (pt_cmpR op_eq (pv 0) pe_str (nomark _)) (pw_or (pt_cmpR op_gt (pe_callB call_len_str rfl T.b_len PySem.boot_len (pa_cons (pv 0) pa_nil)) (pe_g T.g_MOST_SIGNS) (nomark _)) (pw_or1 (pt_not (pt_val (pe_call G_is_letter (hr.mono (by decide)) rfl T.F_is_letter.mg T.F_is_letter.fn.kp T.F_is_letter.b .nil pass0 (pa_cons (pe_callB call_ord rfl T.b_ord boot_ord1 (pa_cons (pe_ix ix_str (pv 0) pe_int (fun _ _ => rfl)) pa_nil)) pa_nil)))))))) (pss_one (ps_ret pe_bl)) pss_nil)
      (pss_one (ps_ret (pe_callB (cr_all rfl) rfl T.b_all boot_all1 (pa_cons (pe_lc rfl (sc_is_short_word).nd (pi_str (pv 0)) (blkOk_by (own := [("sign", 1)]) (by kernel_rfl)) (fun _ _ _ _ _ => pg_name (i := 1) (sc_is_short_word).nd rfl (Or.inl rfl)) (fun _ _ _ _ _ => pts_nil) (fun _ _ _ _ _ => (pe_call G_is_in_word (hr.mono (by decide)) rfl T.F_is_in_word.mg T.F_is_in_word.fn.kp T.F_is_in_word.b .nil pass0 (pa_cons (pe_callB call_ord rfl T.b_ord boot_ord1 (pa_cons (pv 1) pa_nil)) pa_nil)))) pa_nil))))), ?_⟩
    simp only [tRet, tRetN, tSeq, tNext, tChain, tC, tVar, tOp, tUn, rI0, rI, rU, tTest, tB, tIfS, tIf, tAnd, tOr, tNot, tAndV, tOrV, tNotV, tAsg, gName, tCB, tCons, tNil, tCall, tDrop, tAug, ipI, tSl, tPart, tNoPart, tM0, tM1, rEq, rNe, tIsN, tNotN, scal_ii, scal_ss, scal_bb, rIxS, rIxL, rIxT, rAll, rMax, rSum, rSlL, rSlS, rIn, tLst, tTup, iStr, iList, iTup, tYes, cx_K, cx_P, cx_w, cx_mg, cx_base, cx_N, wipe, L2.start, List.map_cons, List.map_nil, List.length_cons, List.length_nil, List.replicate, List.cons_append, List.nil_append, List.append_nil, List.getElem?_cons_zero, List.getElem?_cons_succ, List.set_cons_zero, List.set_cons_succ, Nat.reduceSub, Nat.reduceAdd, Nat.add_zero, Nat.zero_add, Option.some.injEq, V.int.injEq, V.bl.injEq, V.str.injEq, V.ref.injEq, List.cons.injEq, and_true, true_and, exists_eq_left, exists_eq_left', exists_and_left, exists_eq, exists_eq', reduceCtorEq, false_and, Bool.false_eq_true, if_true, if_false, ite_true, ite_false, decide_eq_true_eq, one_len, one_get, S_eq, S_len, and_assoc, Int.natCast_inj, upd_same, upd_upd, HO.ins.injEq, List.zip_cons_cons, List.zip_nil_left, List.zip_nil_right, spB, Int.natCast_inj]
    have k0 := k H (Same.refl H)
    match l, hl, k, k0 with
    | [], hl, k, k0 =>
      exact ite2 (fun _ => k0) fun z => absurd rfl z
    | c :: r, hl, k, k0 =>
      rw [if_neg (by intro z; cases z)]
      refine ⟨hl, ite2 (fun h => ?_) fun h => ⟨hl, c, atI_nat (j := 0) rfl, ite2 (fun h2 => ?_) fun h2 => ?_⟩⟩
      · have e : shortWord (c :: r) = false := by
          unfold shortWord
          rw [decide_eq_false (by omega)]
          simp
        rw [e] at k0
        exact k0
      · have e : shortWord (c :: r) = false := by
          have h3 : Vaunid.isSmall c = false := by simpa using h2
          unfold shortWord
          rw [List.headD_cons, h3]
          simp
        rw [e] at k0
        exact k0
      · have h3 : Vaunid.isSmall c = true := by simpa using h2
        refine tlc_of (Its (S (c :: r))) ((c :: r).map fun d => V.str ⟨#[d]⟩) (fun v => match v with | .str x => V.bl (Vaunid.inWord (x.cps.getD 0 0)) | _ => .non) (H1 := H) (fun R h => ?_) (by rw [List.length_map]; exact hl) (go_str (x := S (c :: r))) (fun x H' D acc Nx hx sm hD hacc nx => ?_) fun D H' hD sm e => ?_
        · simp only [tRet, tRetN, tSeq, tNext, tChain, tC, tVar, tOp, tUn, rI0, rI, rU, tTest, tB, tIfS, tIf, tAnd, tOr, tNot, tAndV, tOrV, tNotV, tAsg, gName, tCB, tCons, tNil, tCall, tDrop, tAug, ipI, tSl, tPart, tNoPart, tM0, tM1, rEq, rNe, tIsN, tNotN, scal_ii, scal_ss, scal_bb, rIxS, rIxL, rIxT, rAll, rMax, rSum, rSlL, rSlS, rIn, tLst, tTup, iStr, iList, iTup, tYes, cx_K, cx_P, cx_w, cx_mg, cx_base, cx_N, wipe, L2.start, List.map_cons, List.map_nil, List.length_cons, List.length_nil, List.replicate, List.cons_append, List.nil_append, List.append_nil, List.getElem?_cons_zero, List.getElem?_cons_succ, List.set_cons_zero, List.set_cons_succ, Nat.reduceSub, Nat.reduceAdd, Nat.add_zero, Nat.zero_add, Option.some.injEq, V.int.injEq, V.bl.injEq, V.str.injEq, V.ref.injEq, List.cons.injEq, and_true, true_and, exists_eq_left, exists_eq_left', exists_and_left, exists_eq, exists_eq', reduceCtorEq, false_and, Bool.false_eq_true, if_true, if_false, ite_true, ite_false, decide_eq_true_eq, one_len, one_get, S_eq, S_len, and_assoc, Int.natCast_inj, upd_same, upd_upd, HO.ins.injEq, List.zip_cons_cons, List.zip_nil_left, List.zip_nil_right]
          exact h
        · obtain ⟨d, hd, rfl⟩ := List.mem_map.mp hx
          simp only [tRet, tRetN, tSeq, tNext, tChain, tC, tVar, tOp, tUn, rI0, rI, rU, tTest, tB, tIfS, tIf, tAnd, tOr, tNot, tAndV, tOrV, tNotV, tAsg, gName, tCB, tCons, tNil, tCall, tDrop, tAug, ipI, tSl, tPart, tNoPart, tM0, tM1, rEq, rNe, tIsN, tNotN, scal_ii, scal_ss, scal_bb, rIxS, rIxL, rIxT, rAll, rMax, rSum, rSlL, rSlS, rIn, tLst, tTup, iStr, iList, iTup, tYes, cx_K, cx_P, cx_w, cx_mg, cx_base, cx_N, wipe, L2.start, List.map_cons, List.map_nil, List.length_cons, List.length_nil, List.replicate, List.cons_append, List.nil_append, List.append_nil, List.getElem?_cons_zero, List.getElem?_cons_succ, List.set_cons_zero, List.set_cons_succ, Nat.reduceSub, Nat.reduceAdd, Nat.add_zero, Nat.zero_add, Option.some.injEq, V.int.injEq, V.bl.injEq, V.str.injEq, V.ref.injEq, List.cons.injEq, and_true, true_and, exists_eq_left, exists_eq_left', exists_and_left, exists_eq, exists_eq', reduceCtorEq, false_and, Bool.false_eq_true, if_true, if_false, ite_true, ite_false, decide_eq_true_eq, one_len, one_get, S_eq, S_len, and_assoc, Int.natCast_inj, upd_same, upd_upd, HO.ins.injEq, List.zip_cons_cons, List.zip_nil_left, List.zip_nil_right, spB, Int.natCast_inj]
          exact ⟨acc, hD, hacc, nx H' (Same.refl _)⟩
        · simp only [tRet, tRetN, tSeq, tNext, tChain, tC, tVar, tOp, tUn, rI0, rI, rU, tTest, tB, tIfS, tIf, tAnd, tOr, tNot, tAndV, tOrV, tNotV, tAsg, gName, tCB, tCons, tNil, tCall, tDrop, tAug, ipI, tSl, tPart, tNoPart, tM0, tM1, rEq, rNe, tIsN, tNotN, scal_ii, scal_ss, scal_bb, rIxS, rIxL, rIxT, rAll, rMax, rSum, rSlL, rSlS, rIn, tLst, tTup, iStr, iList, iTup, tYes, cx_K, cx_P, cx_w, cx_mg, cx_base, cx_N, wipe, L2.start, List.map_cons, List.map_nil, List.length_cons, List.length_nil, List.replicate, List.cons_append, List.nil_append, List.append_nil, List.getElem?_cons_zero, List.getElem?_cons_succ, List.set_cons_zero, List.set_cons_succ, Nat.reduceSub, Nat.reduceAdd, Nat.add_zero, Nat.zero_add, Option.some.injEq, V.int.injEq, V.bl.injEq, V.str.injEq, V.ref.injEq, List.cons.injEq, and_true, true_and, exists_eq_left, exists_eq_left', exists_and_left, exists_eq, exists_eq', reduceCtorEq, false_and, Bool.false_eq_true, if_true, if_false, ite_true, ite_false, decide_eq_true_eq, one_len, one_get, S_eq, S_len, and_assoc, Int.natCast_inj, upd_same, upd_upd, HO.ins.injEq, List.zip_cons_cons, List.zip_nil_left, List.zip_nil_right]
          refine ⟨(c :: r).map Vaunid.inWord, SqL.of ?_, ?_⟩
          · rw [e, List.map_map, List.map_map]
            rfl
          · have e2 : shortWord (c :: r) = ((c :: r).map Vaunid.inWord).all id := by
              unfold shortWord
              rw [List.headD_cons, h3, decide_eq_true (by omega), List.all_map]
              rfl
            rw [← e2]
            exact k H' sm
theorem ok_is_space (T : TX K mg) : FnOk P w K mg base CX0 1 T.f_is_space T.d_is_space ["byte"] (spB fun c => c == 32 || c == 10) := by
  refine T.F_is_space.fn.ok sc_is_space (fun vs H Q E h => ?_) (fun cdv A outer s H vs Q E hr h => ?_)
  · obtain ⟨n, rfl, _⟩ := h
    rfl
  · obtain ⟨n, rfl, k⟩ := h
    refine ⟨_, (pss_one (ps_ret (pe_or (pe_cmpR op_eq (pv 0) (pe_g T.g_BLANK) (nomark _)) (pe_one (pe_cmpR op_eq (pv 0) (pe_g T.g_LINE_END) (nomark _)))))), ?_⟩
    simp only [tRet, tRetN, tSeq, tNext, tChain, tC, tVar, tOp, tUn, rI0, rI, rU, tTest, tB, tIfS, tIf, tAnd, tOr, tNot, tAndV, tOrV, tNotV, tAsg, gName, tCB, tCons, tNil, tCall, tDrop, tAug, ipI, tSl, tPart, tNoPart, tM0, tM1, rEq, rNe, tIsN, tNotN, scal_ii, scal_ss, scal_bb, rIxS, rIxL, rIxT, rAll, rMax, rSum, rSlL, rSlS, rIn, tLst, tTup, iStr, iList, iTup, tYes, cx_K, cx_P, cx_w, cx_mg, cx_base, cx_N, wipe, L2.start, List.map_cons, List.map_nil, List.length_cons, List.length_nil, List.replicate, List.cons_append, List.nil_append, List.append_nil, List.getElem?_cons_zero, List.getElem?_cons_succ, List.set_cons_zero, List.set_cons_succ, Nat.reduceSub, Nat.reduceAdd, Nat.add_zero, Nat.zero_add, Option.some.injEq, V.int.injEq, V.bl.injEq, V.str.injEq, V.ref.injEq, List.cons.injEq, and_true, true_and, exists_eq_left, exists_eq_left', exists_and_left, exists_eq, exists_eq', reduceCtorEq, false_and, Bool.false_eq_true, if_true, if_false, ite_true, ite_false, decide_eq_true_eq, one_len, one_get, S_eq, S_len, and_assoc, Int.natCast_inj, upd_same, upd_upd, HO.ins.injEq, List.zip_cons_cons, List.zip_nil_left, List.zip_nil_right]
    have e : decide ((n : Int) = 10) = (n == 10) := int_beq n 10
    rw [e]
    refine ite2 (fun h => ?_) fun h => ?_
    · have h' : n = 32 := by omega
      subst h'
      exact k
    · have h' : (n == 32) = false := by simp; omega
      have k : Q (V.bl (n == 32 || n == 10)) H := k
      rw [h'] at k
      exact k
theorem ok_is_in_comment (T : TX K mg) : FnOk P w K mg base CX0 1 T.f_is_in_comment T.d_is_in_comment ["byte"] (spB Vaunid.inComment) := by
  refine T.F_is_in_comment.fn.ok sc_is_in_comment (fun vs H Q E h => ?_) (fun cdv A outer s H vs Q E hr h => ?_)
  · obtain ⟨n, rfl, _⟩ := h
    rfl
  · obtain ⟨n, rfl, k⟩ := h
    refine ⟨_, (pss_cons (ps_if (pt_cmpR op_eq (pv 0) (pe_g T.g_LINE_END) (nomark _)) (pss_one (ps_ret pe_bl)) pss_nil)
      (pss_one (ps_ret (pe_and (pe_chain op_le op_le (pe_g T.g_FIRST_PRINTED) (pv 0) (pe_g T.g_LAST_PRINTED)) (pe_one (pe_cmpR op_ne (pv 0) (pe_g T.g_COMMENT_END) (nomark _))))))), ?_⟩
    simp only [tRet, tRetN, tSeq, tNext, tChain, tC, tVar, tOp, tUn, rI0, rI, rU, tTest, tB, tIfS, tIf, tAnd, tOr, tNot, tAndV, tOrV, tNotV, tAsg, gName, tCB, tCons, tNil, tCall, tDrop, tAug, ipI, tSl, tPart, tNoPart, tM0, tM1, rEq, rNe, tIsN, tNotN, scal_ii, scal_ss, scal_bb, rIxS, rIxL, rIxT, rAll, rMax, rSum, rSlL, rSlS, rIn, tLst, tTup, iStr, iList, iTup, tYes, cx_K, cx_P, cx_w, cx_mg, cx_base, cx_N, wipe, L2.start, List.map_cons, List.map_nil, List.length_cons, List.length_nil, List.replicate, List.cons_append, List.nil_append, List.append_nil, List.getElem?_cons_zero, List.getElem?_cons_succ, List.set_cons_zero, List.set_cons_succ, Nat.reduceSub, Nat.reduceAdd, Nat.add_zero, Nat.zero_add, Option.some.injEq, V.int.injEq, V.bl.injEq, V.str.injEq, V.ref.injEq, List.cons.injEq, and_true, true_and, exists_eq_left, exists_eq_left', exists_and_left, exists_eq, exists_eq', reduceCtorEq, false_and, Bool.false_eq_true, if_true, if_false, ite_true, ite_false, decide_eq_true_eq, one_len, one_get, S_eq, S_len, and_assoc, Int.natCast_inj, upd_same, upd_upd, HO.ins.injEq, List.zip_cons_cons, List.zip_nil_left, List.zip_nil_right]
    have e : Vaunid.inComment n = ((decide ((n : Int) = 10) || (decide ((32 : Int) ≤ n) && decide ((n : Int) ≤ 126))) && !decide ((n : Int) = 125)) := by
      unfold Vaunid.inComment
      rw [Bool.eq_iff_iff]
      simp
      omega
    rw [e] at k
    split <;> rename_i q
    · have q2 : ¬ (n : Int) = 125 := by omega
      simpa [q, q2] using k
    · split <;> rename_i q1
      · split <;> rename_i q2 <;> simpa [q, q1, q2] using k
      · simpa [q, q1] using k
theorem ok_is_before_measure_end (T : TX K mg) : FnOk P w K mg base CX0 1 T.f_is_before_measure_end T.d_is_before_measure_end ["byte"] (spB fun c => c != 93) := by
  refine T.F_is_before_measure_end.fn.ok sc_is_before_measure_end (fun vs H Q E h => ?_) (fun cdv A outer s H vs Q E hr h => ?_)
  · obtain ⟨n, rfl, _⟩ := h
    rfl
  · obtain ⟨n, rfl, k⟩ := h
    refine ⟨_, (pss_one (ps_ret (pe_cmpR op_ne (pv 0) (pe_g T.g_MEASURE_END) (nomark _)))), ?_⟩
    simp only [tRet, tRetN, tSeq, tNext, tChain, tC, tVar, tOp, tUn, rI0, rI, rU, tTest, tB, tIfS, tIf, tAnd, tOr, tNot, tAndV, tOrV, tNotV, tAsg, gName, tCB, tCons, tNil, tCall, tDrop, tAug, ipI, tSl, tPart, tNoPart, tM0, tM1, rEq, rNe, tIsN, tNotN, scal_ii, scal_ss, scal_bb, rIxS, rIxL, rIxT, rAll, rMax, rSum, rSlL, rSlS, rIn, tLst, tTup, iStr, iList, iTup, tYes, cx_K, cx_P, cx_w, cx_mg, cx_base, cx_N, wipe, L2.start, List.map_cons, List.map_nil, List.length_cons, List.length_nil, List.replicate, List.cons_append, List.nil_append, List.append_nil, List.getElem?_cons_zero, List.getElem?_cons_succ, List.set_cons_zero, List.set_cons_succ, Nat.reduceSub, Nat.reduceAdd, Nat.add_zero, Nat.zero_add, Option.some.injEq, V.int.injEq, V.bl.injEq, V.str.injEq, V.ref.injEq, List.cons.injEq, and_true, true_and, exists_eq_left, exists_eq_left', exists_and_left, exists_eq, exists_eq', reduceCtorEq, false_and, Bool.false_eq_true, if_true, if_false, ite_true, ite_false, decide_eq_true_eq, one_len, one_get, S_eq, S_len, and_assoc, Int.natCast_inj, upd_same, upd_upd, HO.ins.injEq, List.zip_cons_cons, List.zip_nil_left, List.zip_nil_right]
    have e : decide ((n : Int) = 93) = (n == 93) := int_beq n 93
    rw [e]
    exact k
def spRun (P : Program) (w : World) (K : PySem.W.Frag) (mg : Str → Option Value) (base : Heap) : Sp := fun vs H Q _ => ∃ (a f : Addr) (t : List Nat) (p : Nat) (b : Nat → Bool), vs = [.ref a, .int (p : Int), .ref f] ∧ SqL K H a (bs t) ∧ PredF P w K mg base 2 f b ∧
  Q (.int ((p + ((t.drop p).takeWhile b).length : Nat) : Int)) H
theorem ok_run_end (T : TX K mg) : FnOk P w K mg base CX0 3 T.f_run_end T.d_run_end ["text", "place", "belongs"] (spRun P w K mg base) := by
  refine T.F_run_end.fn.ok sc_run_end (fun vs H Q E h => ?_) (fun cdv A outer s H vs Q E hr h => ?_)
  · obtain ⟨a, f, t, p, b, rfl, _⟩ := h
    rfl
  · obtain ⟨a, f, t, p, b, rfl, ht, ⟨fd, ps, F, hb, hk⟩, k⟩ := h
    refine ⟨_, (pss_cons (ps_while PassesOwn.never (PW.pt (pw_and (pt_cmpR op_lt (pv 1) (pe_callB call_len_seq rfl T.b_len PySem.boot_len (pa_cons (pv 0) pa_nil)) (nomark _)) (pw_and1 (pt_val (pe_callv (CX := CX0) (k := 2) 2 (hr.mono (by decide)) pass0 (pa_cons (pe_ix ix_list (pv 0) (pv 1) (fun _ _ => rfl)) pa_nil)))))) (pss_one (ps_aug (i := 1) (sc_run_end).nd rfl (Or.inl rfl) pe_int ip_add)))
      (pss_one (ps_ret (pv 1)))), ?_⟩
    simp only [tRet, tRetN, tSeq, tNext, tChain, tC, tVar, tOp, tUn, rI0, rI, rU, tTest, tB, tIfS, tIf, tAnd, tOr, tNot, tAndV, tOrV, tNotV, tAsg, gName, tCB, tCons, tNil, tCall, tDrop, tAug, ipI, tSl, tPart, tNoPart, tM0, tM1, rEq, rNe, tIsN, tNotN, scal_ii, scal_ss, scal_bb, rIxS, rIxL, rIxT, rAll, rMax, rSum, rSlL, rSlS, rIn, tLst, tTup, iStr, iList, iTup, tYes, cx_K, cx_P, cx_w, cx_mg, cx_base, cx_N, wipe, L2.start, List.map_cons, List.map_nil, List.length_cons, List.length_nil, List.replicate, List.cons_append, List.nil_append, List.append_nil, List.getElem?_cons_zero, List.getElem?_cons_succ, List.set_cons_zero, List.set_cons_succ, Nat.reduceSub, Nat.reduceAdd, Nat.add_zero, Nat.zero_add, Option.some.injEq, V.int.injEq, V.bl.injEq, V.str.injEq, V.ref.injEq, List.cons.injEq, and_true, true_and, exists_eq_left, exists_eq_left', exists_and_left, exists_eq, exists_eq', reduceCtorEq, false_and, Bool.false_eq_true, if_true, if_false, ite_true, ite_false, decide_eq_true_eq, one_len, one_get, S_eq, S_len, and_assoc, Int.natCast_inj, upd_same, upd_upd, HO.ins.injEq, List.zip_cons_cons, List.zip_nil_left, List.zip_nil_right]
    obtain ⟨Pv, hPv⟩ : ∃ Pv : Nat → L2.St → Hp → Prop, Pv = fun m σ H' => H' = H ∧ ∃ j, m = t.length - (p + j) ∧ σ = [some (.ref a), some (.int ((p + j : Nat) : Int)), some (.ref f)] ∧ ((t.drop p).takeWhile b).length = j + ((t.drop (p + j)).takeWhile b).length := ⟨_, rfl⟩
    refine while_m Pv _ (by rw [hPv]; exact ⟨rfl, 0, rfl, rfl, by simp⟩) fun m σ H' hp => ?_
    rw [hPv] at hp
    obtain ⟨rfl, j, rfl, rfl, hj⟩ := hp
    simp only [tRet, tRetN, tSeq, tNext, tChain, tC, tVar, tOp, tUn, rI0, rI, rU, tTest, tB, tIfS, tIf, tAnd, tOr, tNot, tAndV, tOrV, tNotV, tAsg, gName, tCB, tCons, tNil, tCall, tDrop, tAug, ipI, tSl, tPart, tNoPart, tM0, tM1, rEq, rNe, tIsN, tNotN, scal_ii, scal_ss, scal_bb, rIxS, rIxL, rIxT, rAll, rMax, rSum, rSlL, rSlS, rIn, tLst, tTup, iStr, iList, iTup, tYes, cx_K, cx_P, cx_w, cx_mg, cx_base, cx_N, wipe, L2.start, List.map_cons, List.map_nil, List.length_cons, List.length_nil, List.replicate, List.cons_append, List.nil_append, List.append_nil, List.getElem?_cons_zero, List.getElem?_cons_succ, List.set_cons_zero, List.set_cons_succ, Nat.reduceSub, Nat.reduceAdd, Nat.add_zero, Nat.zero_add, Option.some.injEq, V.int.injEq, V.bl.injEq, V.str.injEq, V.ref.injEq, List.cons.injEq, and_true, true_and, exists_eq_left, exists_eq_left', exists_and_left, exists_eq, exists_eq', reduceCtorEq, false_and, Bool.false_eq_true, if_true, if_false, ite_true, ite_false, decide_eq_true_eq, one_len, one_get, S_eq, S_len, and_assoc, Int.natCast_inj, upd_same, upd_upd, HO.ins.injEq, List.zip_cons_cons, List.zip_nil_left, List.zip_nil_right, tCallV]
    refine ⟨bs t, .inl ht, ite2 (fun h => ?_) fun h => ?_⟩
    · rw [bs_len] at h
      have hlt : p + j < t.length := by omega
      refine ⟨fd, ps, spB b, F, hb, hk, bs t, ht, _, atI_nat (bs_get (List.getElem?_eq_getElem hlt)), ?_⟩
      simp only [tRet, tRetN, tSeq, tNext, tChain, tC, tVar, tOp, tUn, rI0, rI, rU, tTest, tB, tIfS, tIf, tAnd, tOr, tNot, tAndV, tOrV, tNotV, tAsg, gName, tCB, tCons, tNil, tCall, tDrop, tAug, ipI, tSl, tPart, tNoPart, tM0, tM1, rEq, rNe, tIsN, tNotN, scal_ii, scal_ss, scal_bb, rIxS, rIxL, rIxT, rAll, rMax, rSum, rSlL, rSlS, rIn, tLst, tTup, iStr, iList, iTup, tYes, cx_K, cx_P, cx_w, cx_mg, cx_base, cx_N, wipe, L2.start, List.map_cons, List.map_nil, List.length_cons, List.length_nil, List.replicate, List.cons_append, List.nil_append, List.append_nil, List.getElem?_cons_zero, List.getElem?_cons_succ, List.set_cons_zero, List.set_cons_succ, Nat.reduceSub, Nat.reduceAdd, Nat.add_zero, Nat.zero_add, Option.some.injEq, V.int.injEq, V.bl.injEq, V.str.injEq, V.ref.injEq, List.cons.injEq, and_true, true_and, exists_eq_left, exists_eq_left', exists_and_left, exists_eq, exists_eq', reduceCtorEq, false_and, Bool.false_eq_true, if_true, if_false, ite_true, ite_false, decide_eq_true_eq, one_len, one_get, S_eq, S_len, and_assoc, Int.natCast_inj, upd_same, upd_upd, HO.ins.injEq, List.zip_cons_cons, List.zip_nil_left, List.zip_nil_right, spB, Int.natCast_inj]
      have hd : t.drop (p + j) = t[p + j] :: t.drop (p + j + 1) := List.drop_eq_getElem_cons hlt
      rw [hd, List.takeWhile_cons] at hj
      refine ite_bool (fun q => ⟨_, fun _ _ z => z, t.length - (p + (j + 1)), by omega, ?_⟩) fun q => ?_
      · rw [hPv]
        refine ⟨rfl, j + 1, rfl, ?_, ?_⟩
        · have e : ((p + j : Nat) : Int) + 1 = ((p + (j + 1) : Nat) : Int) := by omega
          rw [e]
        · rw [q, if_pos rfl, List.length_cons] at hj
          rw [hj, show p + (j + 1) = p + j + 1 by omega]
          omega
      · rw [q, if_neg (by simp)] at hj
        have e : p + (List.takeWhile b (List.drop p t)).length = p + j := by rw [hj]; rfl
        rw [e] at k
        exact k
    · rw [bs_len] at h
      have hd : t.drop (p + j) = [] := List.drop_eq_nil_of_le (by omega)
      rw [hd] at hj
      have e : p + (List.takeWhile b (List.drop p t)).length = p + j := by rw [hj]; rfl
      rw [e] at k
      exact k
def spSign : Sp := fun vs H Q _ => ∃ n : Nat, vs = [.int (n : Int)] ∧ Q (.str ⟨#[sgn n]⟩) H
theorem printed_at (n : Nat) (h1 : 32 ≤ n) (h2 : n ≤ 126) : (tl (Str.ofString " !\"#$?&'()*+,-./0123456789:;<=>?@ABCDEFGHIJKLMNOPQRSTUVWXYZ[\\]^_`abcdefghijklmnopqrstuvwxyz{|}~"))[n - 32]? = some (sgn n) := by
  have key : ∀ m : Fin 95, (tl (Str.ofString " !\"#$?&'()*+,-./0123456789:;<=>?@ABCDEFGHIJKLMNOPQRSTUVWXYZ[\\]^_`abcdefghijklmnopqrstuvwxyz{|}~"))[m.1]? = some (sgn (m.1 + 32)) := by decide +kernel
  have e := key ⟨n - 32, by omega⟩
  rw [show n = n - 32 + 32 by omega]
  simpa using e
theorem ok_sign_of (T : TX K mg) : FnOk P w K mg base CX0 1 T.f_sign_of T.d_sign_of ["byte"] spSign := by
  refine T.F_sign_of.fn.ok sc_sign_of (fun vs H Q E h => ?_) (fun cdv A outer s H vs Q E hr h => ?_)
  · obtain ⟨n, rfl, _⟩ := h
    rfl
  · obtain ⟨n, rfl, k⟩ := h
    refine ⟨_, (pss_cons (ps_if (pt_chain op_le op_le (pe_g T.g_FIRST_PRINTED) (pv 0) (pe_g T.g_LAST_PRINTED)) (pss_one (ps_ret (pe_ix ix_str (pe_g T.g_PRINTED) (pe_op op_sub (pv 0) (pe_g T.g_FIRST_PRINTED)) (fun _ _ => rfl)))) pss_nil)
      (pss_one (ps_ret pe_str))), ?_⟩
    simp only [tRet, tRetN, tSeq, tNext, tChain, tC, tVar, tOp, tUn, rI0, rI, rU, tTest, tB, tIfS, tIf, tAnd, tOr, tNot, tAndV, tOrV, tNotV, tAsg, gName, tCB, tCons, tNil, tCall, tDrop, tAug, ipI, tSl, tPart, tNoPart, tM0, tM1, rEq, rNe, tIsN, tNotN, scal_ii, scal_ss, scal_bb, rIxS, rIxL, rIxT, rAll, rMax, rSum, rSlL, rSlS, rIn, tLst, tTup, iStr, iList, iTup, tYes, cx_K, cx_P, cx_w, cx_mg, cx_base, cx_N, wipe, L2.start, List.map_cons, List.map_nil, List.length_cons, List.length_nil, List.replicate, List.cons_append, List.nil_append, List.append_nil, List.getElem?_cons_zero, List.getElem?_cons_succ, List.set_cons_zero, List.set_cons_succ, Nat.reduceSub, Nat.reduceAdd, Nat.add_zero, Nat.zero_add, Option.some.injEq, V.int.injEq, V.bl.injEq, V.str.injEq, V.ref.injEq, List.cons.injEq, and_true, true_and, exists_eq_left, exists_eq_left', exists_and_left, exists_eq, exists_eq', reduceCtorEq, false_and, Bool.false_eq_true, if_true, if_false, ite_true, ite_false, decide_eq_true_eq, one_len, one_get, S_eq, S_len, and_assoc, Int.natCast_inj, upd_same, upd_upd, HO.ins.injEq, List.zip_cons_cons, List.zip_nil_left, List.zip_nil_right]
    refine ite2 (fun h1 => ite2 (fun h2 => ?_) fun h2 => ?_) fun h1 => ?_
    · refine ⟨by decide +kernel, sgn n, ?_, k⟩
      have e : (n : Int) - 32 = ((n - 32 : Nat) : Int) := by omega
      rw [e]
      exact atI_nat (printed_at n (by omega) (by omega))
    · have e : sgn n = 63 := by unfold sgn; rw [if_neg (by omega)]
      rw [e] at k
      exact k
    · have e : sgn n = 63 := by unfold sgn; rw [if_neg (by omega)]
      rw [e] at k
      exact k
def spSigns (K : PySem.W.Frag) : Sp := fun vs H Q _ => ∃ (a : Addr) (t : List Nat), vs = [.ref a] ∧ SqL K H a (bs t) ∧ t.length ≤ 1000000 ∧ ∀ H', Same H H' → Q (.str (S (t.map sgn))) H'
theorem join_ones : ∀ l : List Nat, joinL [] (l.map fun c => [c]) = l
  | [] => rfl
  | [c] => rfl
  | c :: d :: r => by
    have ih := join_ones (d :: r)
    show c :: ([] ++ joinL [] ((d :: r).map fun c => [c])) = _
    rw [ih]
    rfl
theorem sum_ones : ∀ l : List Nat, ((l.map fun c => (⟨#[c]⟩ : Str)).map (·.length)).sum = l.length
  | [] => rfl
  | c :: r => by
    have ih := sum_ones r
    simp only [List.map_cons, List.sum_cons, List.length_cons, ih]
    show 1 + r.length = r.length + 1
    omega
theorem ok_signs_of (T : TX K mg) : FnOk P w K mg base CX0 2 T.f_signs_of T.d_signs_of ["some_bytes"] (spSigns K) := by
  have G_sign_of := ok_sign_of (P := P) (w := w) (base := base) T
  refine T.F_signs_of.fn.ok sc_signs_of (fun vs H Q E h => ?_) (fun cdv A outer s H vs Q E hr h => ?_)
  · obtain ⟨a, t, rfl, _⟩ := h
    rfl
  · obtain ⟨a, t, rfl, ht, hl, k⟩ := h
    refine ⟨_, (pss_one (ps_ret (pe_join pe_str (pe_lc rfl (sc_signs_of).nd (pi_list (pv 0)) (blkOk_by (own := [("byte", 1)]) (by kernel_rfl)) (fun _ _ _ _ _ => pg_name (i := 1) (sc_signs_of).nd rfl (Or.inl rfl)) (fun _ _ _ _ _ => pts_nil) (fun _ _ _ _ _ => (pe_call G_sign_of (hr.mono (by decide)) rfl T.F_sign_of.mg T.F_sign_of.fn.kp T.F_sign_of.b .nil pass0 (pa_cons (pv 1) pa_nil))))))), ?_⟩
    simp only [tRet, tRetN, tSeq, tNext, tChain, tC, tVar, tOp, tUn, rI0, rI, rU, tTest, tB, tIfS, tIf, tAnd, tOr, tNot, tAndV, tOrV, tNotV, tAsg, gName, tCB, tCons, tNil, tCall, tDrop, tAug, ipI, tSl, tPart, tNoPart, tM0, tM1, rEq, rNe, tIsN, tNotN, scal_ii, scal_ss, scal_bb, rIxS, rIxL, rIxT, rAll, rMax, rSum, rSlL, rSlS, rIn, tLst, tTup, iStr, iList, iTup, tYes, cx_K, cx_P, cx_w, cx_mg, cx_base, cx_N, wipe, L2.start, List.map_cons, List.map_nil, List.length_cons, List.length_nil, List.replicate, List.cons_append, List.nil_append, List.append_nil, List.getElem?_cons_zero, List.getElem?_cons_succ, List.set_cons_zero, List.set_cons_succ, Nat.reduceSub, Nat.reduceAdd, Nat.add_zero, Nat.zero_add, Option.some.injEq, V.int.injEq, V.bl.injEq, V.str.injEq, V.ref.injEq, List.cons.injEq, and_true, true_and, exists_eq_left, exists_eq_left', exists_and_left, exists_eq, exists_eq', reduceCtorEq, false_and, Bool.false_eq_true, if_true, if_false, ite_true, ite_false, decide_eq_true_eq, one_len, one_get, S_eq, S_len, and_assoc, Int.natCast_inj, upd_same, upd_upd, HO.ins.injEq, List.zip_cons_cons, List.zip_nil_left, List.zip_nil_right]
    refine tlc_of (Itl K a) (bs t) (fun v => match v with | .int n => V.str ⟨#[sgn n.toNat]⟩ | _ => .non) (H1 := H) (fun R h => ?_) (by rw [bs_len]; exact Nat.le_trans hl (by decide)) (go_list ht) (fun x H' D acc Nx hx sm hD hacc nx => ?_) fun D H' hD sm e => ?_
    · simp only [tRet, tRetN, tSeq, tNext, tChain, tC, tVar, tOp, tUn, rI0, rI, rU, tTest, tB, tIfS, tIf, tAnd, tOr, tNot, tAndV, tOrV, tNotV, tAsg, gName, tCB, tCons, tNil, tCall, tDrop, tAug, ipI, tSl, tPart, tNoPart, tM0, tM1, rEq, rNe, tIsN, tNotN, scal_ii, scal_ss, scal_bb, rIxS, rIxL, rIxT, rAll, rMax, rSum, rSlL, rSlS, rIn, tLst, tTup, iStr, iList, iTup, tYes, cx_K, cx_P, cx_w, cx_mg, cx_base, cx_N, wipe, L2.start, List.map_cons, List.map_nil, List.length_cons, List.length_nil, List.replicate, List.cons_append, List.nil_append, List.append_nil, List.getElem?_cons_zero, List.getElem?_cons_succ, List.set_cons_zero, List.set_cons_succ, Nat.reduceSub, Nat.reduceAdd, Nat.add_zero, Nat.zero_add, Option.some.injEq, V.int.injEq, V.bl.injEq, V.str.injEq, V.ref.injEq, List.cons.injEq, and_true, true_and, exists_eq_left, exists_eq_left', exists_and_left, exists_eq, exists_eq', reduceCtorEq, false_and, Bool.false_eq_true, if_true, if_false, ite_true, ite_false, decide_eq_true_eq, one_len, one_get, S_eq, S_len, and_assoc, Int.natCast_inj, upd_same, upd_upd, HO.ins.injEq, List.zip_cons_cons, List.zip_nil_left, List.zip_nil_right]
      exact ⟨⟨_, ht⟩, h⟩
    · obtain ⟨d, hd, rfl⟩ := List.mem_map.mp hx
      simp only [tRet, tRetN, tSeq, tNext, tChain, tC, tVar, tOp, tUn, rI0, rI, rU, tTest, tB, tIfS, tIf, tAnd, tOr, tNot, tAndV, tOrV, tNotV, tAsg, gName, tCB, tCons, tNil, tCall, tDrop, tAug, ipI, tSl, tPart, tNoPart, tM0, tM1, rEq, rNe, tIsN, tNotN, scal_ii, scal_ss, scal_bb, rIxS, rIxL, rIxT, rAll, rMax, rSum, rSlL, rSlS, rIn, tLst, tTup, iStr, iList, iTup, tYes, cx_K, cx_P, cx_w, cx_mg, cx_base, cx_N, wipe, L2.start, List.map_cons, List.map_nil, List.length_cons, List.length_nil, List.replicate, List.cons_append, List.nil_append, List.append_nil, List.getElem?_cons_zero, List.getElem?_cons_succ, List.set_cons_zero, List.set_cons_succ, Nat.reduceSub, Nat.reduceAdd, Nat.add_zero, Nat.zero_add, Option.some.injEq, V.int.injEq, V.bl.injEq, V.str.injEq, V.ref.injEq, List.cons.injEq, and_true, true_and, exists_eq_left, exists_eq_left', exists_and_left, exists_eq, exists_eq', reduceCtorEq, false_and, Bool.false_eq_true, if_true, if_false, ite_true, ite_false, decide_eq_true_eq, one_len, one_get, S_eq, S_len, and_assoc, Int.natCast_inj, upd_same, upd_upd, HO.ins.injEq, List.zip_cons_cons, List.zip_nil_left, List.zip_nil_right, spSign, Int.natCast_inj]
      exact ⟨acc, hD, hacc, nx H' (Same.refl _)⟩
    · simp only [tRet, tRetN, tSeq, tNext, tChain, tC, tVar, tOp, tUn, rI0, rI, rU, tTest, tB, tIfS, tIf, tAnd, tOr, tNot, tAndV, tOrV, tNotV, tAsg, gName, tCB, tCons, tNil, tCall, tDrop, tAug, ipI, tSl, tPart, tNoPart, tM0, tM1, rEq, rNe, tIsN, tNotN, scal_ii, scal_ss, scal_bb, rIxS, rIxL, rIxT, rAll, rMax, rSum, rSlL, rSlS, rIn, tLst, tTup, iStr, iList, iTup, tYes, cx_K, cx_P, cx_w, cx_mg, cx_base, cx_N, wipe, L2.start, List.map_cons, List.map_nil, List.length_cons, List.length_nil, List.replicate, List.cons_append, List.nil_append, List.append_nil, List.getElem?_cons_zero, List.getElem?_cons_succ, List.set_cons_zero, List.set_cons_succ, Nat.reduceSub, Nat.reduceAdd, Nat.add_zero, Nat.zero_add, Option.some.injEq, V.int.injEq, V.bl.injEq, V.str.injEq, V.ref.injEq, List.cons.injEq, and_true, true_and, exists_eq_left, exists_eq_left', exists_and_left, exists_eq, exists_eq', reduceCtorEq, false_and, Bool.false_eq_true, if_true, if_false, ite_true, ite_false, decide_eq_true_eq, one_len, one_get, S_eq, S_len, and_assoc, Int.natCast_inj, upd_same, upd_upd, HO.ins.injEq, List.zip_cons_cons, List.zip_nil_left, List.zip_nil_right]
      refine ⟨t.map fun c => ⟨#[sgn c]⟩, .inl (SqL.of ?_), ?_, ?_⟩
      · rw [e]
        unfold bs
        rw [List.map_map, List.map_map]
        rfl
      · have e1 : (t.map fun c => (⟨#[sgn c]⟩ : Str)) = (t.map sgn).map fun c => (⟨#[c]⟩ : Str) := by rw [List.map_map]; rfl
        rw [e1, sum_ones, List.length_map, List.length_map]
        show t.length + t.length * 0 ≤ 16777216
        omega
      · have e1 : Txt.join (Str.ofString "") (t.map fun c => (⟨#[sgn c]⟩ : Str)) = S (t.map sgn) := by
          refine ext_tl ?_
          rw [join_eq, tl_join, List.map_map]
          have e2 : (t.map (tl ∘ fun c => (⟨#[sgn c]⟩ : Str))) = (t.map sgn).map fun c => [c] := by rw [List.map_map]; rfl
          rw [e2]
          exact join_ones _
        rw [e1]
        exact k H' sm
end
end M

set_option Elab.async false
set_option linter.all false
set_option maxRecDepth 100000
set_option maxHeartbeats 2000000
namespace M
open PySem PySem.Spec PyProof.Rows L2 TL
section
variable {P : Program} {w : World} {K : PySem.W.Frag} {mg : Str → Option Value} {base : Heap}
/-! ### figures -/
theorem ok_Amount (T : TX K mg) : FnOk P w K mg base CX0 1 T.f_Amount___init__ T.d_Amount___init__ ["self", "over", "under", "measure"] (spInit T.C_Amount ["over", "under", "measure"]) := by
  refine T.F_Amount___init__.ok sc_Amount___init__ (fun vs H Q E h => ?_) (fun cdv A outer s H vs Q E hr h => ?_)
  · obtain ⟨p, dx, args, rfl, hl, _⟩ := h
    simp only [List.length_cons, List.length_nil] at hl ⊢
    rw [hl]
  · obtain ⟨p, dx, args, rfl, hl, hp, k⟩ := h
    match args, hl, k with
    | [a, b, c], _, k =>
      refine ⟨_, (pss_cons (ps_fld (pv 0) (pv 1) rfl)
      (pss_cons (ps_fld (pv 0) (pv 2) rfl)
      (pss_one (ps_fld (pv 0) (pv 3) rfl)))), ?_⟩
      simp only [tRet, tRetN, tSeq, tNext, tChain, tC, tVar, tOp, tUn, rI0, rI, rU, tTest, tB, tIfS, tIf, tAnd, tOr, tNot, tAndV, tOrV, tNotV, tAsg, gName, tCB, tCons, tNil, tCall, tDrop, tAug, ipI, tSl, tPart, tNoPart, tM0, tM1, rEq, rNe, tIsN, tNotN, scal_ii, scal_ss, scal_bb, rIxS, rIxL, rIxT, rAll, rMax, rSum, rSlL, rSlS, rIn, tLst, tTup, iStr, iList, iTup, tYes, cx_K, cx_P, cx_w, cx_mg, cx_base, cx_N, wipe, L2.start, List.map_cons, List.map_nil, List.length_cons, List.length_nil, List.replicate, List.cons_append, List.nil_append, List.append_nil, List.getElem?_cons_zero, List.getElem?_cons_succ, List.set_cons_zero, List.set_cons_succ, Nat.reduceSub, Nat.reduceAdd, Nat.add_zero, Nat.zero_add, Option.some.injEq, V.int.injEq, V.bl.injEq, V.str.injEq, V.ref.injEq, List.cons.injEq, and_true, true_and, exists_eq_left, exists_eq_left', exists_and_left, exists_eq, exists_eq', reduceCtorEq, false_and, Bool.false_eq_true, if_true, if_false, ite_true, ite_false, decide_eq_true_eq, one_len, one_get, S_eq, S_len, and_assoc, Int.natCast_inj, upd_same, upd_upd, HO.ins.injEq, List.zip_cons_cons, List.zip_nil_left, List.zip_nil_right, sFld]
      refine ⟨_, _, _, hp, T.cl_Amount, T.n_Amount_over, (by decide), T.cl_Amount, T.n_Amount_under, few1, T.cl_Amount, T.n_Amount_measure, few2, ?_⟩
      exact k
def spNumEnd (K : PySem.W.Frag) : Sp := fun vs H Q _ => ∃ (a : Addr) (t : List Nat) (p : Nat), vs = [.ref a, .int (p : Int)] ∧ SqL K H a (bs t) ∧ p ≤ t.length ∧ ∀ H', Same H H' → Q (.int ((p + (Vaunid.numberText (t.drop p)).1 : Nat) : Int)) H'
theorem ok_number_end (T : TX K mg) : FnOk P w K mg base CX0 4 T.f_number_end T.d_number_end ["text", "begin"] (spNumEnd K) := by
  have G_is_digit := ok_is_digit (P := P) (w := w) (base := base) T
  have G_run_end := ok_run_end (P := P) (w := w) (base := base) T
  have PD : PredF P w K mg base 2 T.f_is_digit Vaunid.isDigit := ⟨_, _, G_is_digit.mono (by decide), T.F_is_digit.b, T.F_is_digit.fn.kp⟩
  refine T.F_number_end.fn.ok sc_number_end (fun vs H Q E h => ?_) (fun cdv A outer s H vs Q E hr h => ?_)
  · obtain ⟨a, t, p, rfl, _⟩ := h
    rfl
  · obtain ⟨a, t, p, rfl, ht, hp, k⟩ := h
    refine ⟨_, (pss_cons (ps_set (i := 2) (sc_number_end).nd rfl (Or.inl rfl) (pe_call G_run_end (hr.mono (by decide)) rfl T.F_run_end.mg T.F_run_end.fn.kp T.F_run_end.b .nil pass0 (pa_cons (pv 0) (pa_cons (pv 1) (pa_cons (pe_r T.F_is_digit.mg) pa_nil)))))
      (pss_cons (ps_if (PW.pt (pw_and (pt_cmpR op_lt (pe_op op_add (pv 2) pe_int) (pe_callB call_len_seq rfl T.b_len PySem.boot_len (pa_cons (pv 0) pa_nil)) (nomark _)) (pw_and (pt_cmpR op_in_seq (pe_ix ix_list (pv 0) (pv 2) (fun _ _ => rfl)) (pe_r T.g_FRACTION_SIGNS) rfl) (pw_and1 (pt_val (pe_call G_is_digit (hr.mono (by decide)) rfl T.F_is_digit.mg T.F_is_digit.fn.kp T.F_is_digit.b .nil pass0 (pa_cons (pe_ix ix_list (pv 0) (pe_op op_add (pv 2) pe_int) (fun _ _ => rfl)) pa_nil))))))) (pss_one (ps_set (i := 2) (sc_number_end).nd rfl (Or.inl rfl) (pe_call G_run_end (hr.mono (by decide)) rfl T.F_run_end.mg T.F_run_end.fn.kp T.F_run_end.b .nil pass0 (pa_cons (pv 0) (pa_cons (pe_op op_add (pv 2) pe_int) (pa_cons (pe_r T.F_is_digit.mg) pa_nil)))))) pss_nil)
      (pss_one (ps_ret (pv 2))))), ?_⟩
    simp only [tRet, tRetN, tSeq, tNext, tChain, tC, tVar, tOp, tUn, rI0, rI, rU, tTest, tB, tIfS, tIf, tAnd, tOr, tNot, tAndV, tOrV, tNotV, tAsg, gName, tCB, tCons, tNil, tCall, tDrop, tAug, ipI, tSl, tPart, tNoPart, tM0, tM1, rEq, rNe, tIsN, tNotN, scal_ii, scal_ss, scal_bb, rIxS, rIxL, rIxT, rAll, rMax, rSum, rSlL, rSlS, rIn, tLst, tTup, iStr, iList, iTup, tYes, cx_K, cx_P, cx_w, cx_mg, cx_base, cx_N, wipe, L2.start, List.map_cons, List.map_nil, List.length_cons, List.length_nil, List.replicate, List.cons_append, List.nil_append, List.append_nil, List.getElem?_cons_zero, List.getElem?_cons_succ, List.set_cons_zero, List.set_cons_succ, Nat.reduceSub, Nat.reduceAdd, Nat.add_zero, Nat.zero_add, Option.some.injEq, V.int.injEq, V.bl.injEq, V.str.injEq, V.ref.injEq, List.cons.injEq, and_true, true_and, exists_eq_left, exists_eq_left', exists_and_left, exists_eq, exists_eq', reduceCtorEq, false_and, Bool.false_eq_true, if_true, if_false, ite_true, ite_false, decide_eq_true_eq, one_len, one_get, S_eq, S_len, and_assoc, Int.natCast_inj, upd_same, upd_upd, HO.ins.injEq, List.zip_cons_cons, List.zip_nil_left, List.zip_nil_right, spRun]
    refine ⟨t, ht, Vaunid.isDigit, PD, bs t, .inl ht, ?_⟩
    rw [bs_len]
    have k0 := k H (Same.refl H)
    refine ite2 (fun h => ?_) fun h => ?_
    · have hlt : p + ((t.drop p).takeWhile Vaunid.isDigit).length + 1 < t.length := by omega
      have h1 : t[p + ((t.drop p).takeWhile Vaunid.isDigit).length]? = some _ := List.getElem?_eq_getElem (by omega)
      have h2 : t[p + ((t.drop p).takeWhile Vaunid.isDigit).length + 1]? = some _ := List.getElem?_eq_getElem hlt
      refine ⟨bs t, ht, _, atI_nat (bs_get h1), _, .inr (T.t_FRACTION_SIGNS H), rfl, rfl, ?_⟩
      rw [in_frac]
      have nl := num_long h1 h2
      refine ite2 (fun q => ⟨bs t, ht, _, atI_nat (bs_get h2), ?_⟩) fun q => ?_
      · simp only [tRet, tRetN, tSeq, tNext, tChain, tC, tVar, tOp, tUn, rI0, rI, rU, tTest, tB, tIfS, tIf, tAnd, tOr, tNot, tAndV, tOrV, tNotV, tAsg, gName, tCB, tCons, tNil, tCall, tDrop, tAug, ipI, tSl, tPart, tNoPart, tM0, tM1, rEq, rNe, tIsN, tNotN, scal_ii, scal_ss, scal_bb, rIxS, rIxL, rIxT, rAll, rMax, rSum, rSlL, rSlS, rIn, tLst, tTup, iStr, iList, iTup, tYes, cx_K, cx_P, cx_w, cx_mg, cx_base, cx_N, wipe, L2.start, List.map_cons, List.map_nil, List.length_cons, List.length_nil, List.replicate, List.cons_append, List.nil_append, List.append_nil, List.getElem?_cons_zero, List.getElem?_cons_succ, List.set_cons_zero, List.set_cons_succ, Nat.reduceSub, Nat.reduceAdd, Nat.add_zero, Nat.zero_add, Option.some.injEq, V.int.injEq, V.bl.injEq, V.str.injEq, V.ref.injEq, List.cons.injEq, and_true, true_and, exists_eq_left, exists_eq_left', exists_and_left, exists_eq, exists_eq', reduceCtorEq, false_and, Bool.false_eq_true, if_true, if_false, ite_true, ite_false, decide_eq_true_eq, one_len, one_get, S_eq, S_len, and_assoc, Int.natCast_inj, upd_same, upd_upd, HO.ins.injEq, List.zip_cons_cons, List.zip_nil_left, List.zip_nil_right, spB]
        have q' := of_decide_eq_true q
        refine ite_bool (fun r => ?_) fun r => ?_
        · rw [if_pos ⟨q'.symm, r⟩] at nl
          refine ⟨_, _, _, rfl, rfl, ht, _, PD, ?_⟩
          rw [nl, ← Nat.add_assoc, ← Nat.add_assoc] at k0
          exact k0
        · rw [if_neg (by rw [r]; simp)] at nl
          rw [nl] at k0
          exact k0
      · rw [if_neg (fun z => q (decide_eq_true z.1.symm))] at nl
        rw [nl] at k0
        exact k0
    · rw [num_short (by omega)] at k0
      exact k0
def spGcd : Sp := fun vs H Q _ => ∃ o u : Nat, vs = [.int (o : Int), .int (u : Int)] ∧ Q (.int (Nat.gcd o u : Int)) H
theorem ok_common_divisor (T : TX K mg) : FnOk P w K mg base CX0 1 T.f_common_divisor T.d_common_divisor ["first", "second"] spGcd := by
  refine T.F_common_divisor.fn.ok sc_common_divisor (fun vs H Q E h => ?_) (fun cdv A outer s H vs Q E hr h => ?_)
  · obtain ⟨o, u, rfl, _⟩ := h
    rfl
  · obtain ⟨o, u, rfl, k⟩ := h
    refine ⟨_, (pss_cons (ps_while PassesOwn.never (pt_cmpR op_ne (pv 1) pe_int (nomark _)) (pss_cons (ps_set (i := 2) (sc_common_divisor).nd rfl (Or.inl rfl) (pe_op op_mod (pv 0) (pv 1)))
      (pss_cons (ps_set (i := 0) (sc_common_divisor).nd rfl (Or.inl rfl) (pv 1))
      (pss_one (ps_set (i := 1) (sc_common_divisor).nd rfl (Or.inl rfl) (pv 2))))))
      (pss_one (ps_ret (pv 0)))), ?_⟩
    simp only [tRet, tRetN, tSeq, tNext, tChain, tC, tVar, tOp, tUn, rI0, rI, rU, tTest, tB, tIfS, tIf, tAnd, tOr, tNot, tAndV, tOrV, tNotV, tAsg, gName, tCB, tCons, tNil, tCall, tDrop, tAug, ipI, tSl, tPart, tNoPart, tM0, tM1, rEq, rNe, tIsN, tNotN, scal_ii, scal_ss, scal_bb, rIxS, rIxL, rIxT, rAll, rMax, rSum, rSlL, rSlS, rIn, tLst, tTup, iStr, iList, iTup, tYes, cx_K, cx_P, cx_w, cx_mg, cx_base, cx_N, wipe, L2.start, List.map_cons, List.map_nil, List.length_cons, List.length_nil, List.replicate, List.cons_append, List.nil_append, List.append_nil, List.getElem?_cons_zero, List.getElem?_cons_succ, List.set_cons_zero, List.set_cons_succ, Nat.reduceSub, Nat.reduceAdd, Nat.add_zero, Nat.zero_add, Option.some.injEq, V.int.injEq, V.bl.injEq, V.str.injEq, V.ref.injEq, List.cons.injEq, and_true, true_and, exists_eq_left, exists_eq_left', exists_and_left, exists_eq, exists_eq', reduceCtorEq, false_and, Bool.false_eq_true, if_true, if_false, ite_true, ite_false, decide_eq_true_eq, one_len, one_get, S_eq, S_len, and_assoc, Int.natCast_inj, upd_same, upd_upd, HO.ins.injEq, List.zip_cons_cons, List.zip_nil_left, List.zip_nil_right]
    obtain ⟨Pv, hPv⟩ : ∃ Pv : Nat → L2.St → Hp → Prop, Pv = fun m σ H' => H' = H ∧ ∃ (x y : Nat) (z : Option V), m = y ∧ σ = [some (.int (x : Int)), some (.int (y : Int)), z] ∧ Nat.gcd x y = Nat.gcd o u := ⟨_, rfl⟩
    refine while_m Pv _ (by rw [hPv]; exact ⟨rfl, o, u, none, rfl, rfl, rfl⟩) fun m σ H' hp => ?_
    rw [hPv] at hp
    obtain ⟨rfl, x, y, z, rfl, rfl, hg⟩ := hp
    simp only [tRet, tRetN, tSeq, tNext, tChain, tC, tVar, tOp, tUn, rI0, rI, rU, tTest, tB, tIfS, tIf, tAnd, tOr, tNot, tAndV, tOrV, tNotV, tAsg, gName, tCB, tCons, tNil, tCall, tDrop, tAug, ipI, tSl, tPart, tNoPart, tM0, tM1, rEq, rNe, tIsN, tNotN, scal_ii, scal_ss, scal_bb, rIxS, rIxL, rIxT, rAll, rMax, rSum, rSlL, rSlS, rIn, tLst, tTup, iStr, iList, iTup, tYes, cx_K, cx_P, cx_w, cx_mg, cx_base, cx_N, wipe, L2.start, List.map_cons, List.map_nil, List.length_cons, List.length_nil, List.replicate, List.cons_append, List.nil_append, List.append_nil, List.getElem?_cons_zero, List.getElem?_cons_succ, List.set_cons_zero, List.set_cons_succ, Nat.reduceSub, Nat.reduceAdd, Nat.add_zero, Nat.zero_add, Option.some.injEq, V.int.injEq, V.bl.injEq, V.str.injEq, V.ref.injEq, List.cons.injEq, and_true, true_and, exists_eq_left, exists_eq_left', exists_and_left, exists_eq, exists_eq', reduceCtorEq, false_and, Bool.false_eq_true, if_true, if_false, ite_true, ite_false, decide_eq_true_eq, one_len, one_get, S_eq, S_len, and_assoc, Int.natCast_inj, upd_same, upd_upd, HO.ins.injEq, List.zip_cons_cons, List.zip_nil_left, List.zip_nil_right]
    refine ite2 (fun h => ⟨_, fun _ _ q => q, ?_, x % m, ?_, ?_⟩) fun h => ?_
    · simp at h
      omega
    · have : m ≠ 0 := by
        intro e
        subst e
        simp at h
      exact Nat.mod_lt _ (Nat.pos_of_ne_zero this)
    · rw [hPv]
      refine ⟨rfl, m, x % m, _, rfl, by rw [← Int.natCast_emod], ?_⟩
      rw [← hg, Nat.gcd_comm x m, Nat.gcd_rec m x, Nat.gcd_comm]
    · have e : m = 0 := by simp at h; omega
      subst e
      rw [Nat.gcd_zero_right] at hg
      rw [hg]
      exact k
def spLowest (C : Addr) : Sp := fun vs H Q _ => ∃ o u : Nat, vs = [.int (o : Int), .int (u : Int)] ∧ u < 2 ^ 200 ∧ ansFrac C H Q (M.lowest o u)
theorem ok_lowest (T : TX K mg) : FnOk P w K mg base CX0 3 T.f_lowest T.d_lowest ["over", "under"] (spLowest T.C_Amount) := by
  have G_common_divisor := ok_common_divisor (P := P) (w := w) (base := base) T
  have G_Amount := ok_Amount (P := P) (w := w) (base := base) T
  refine T.F_lowest.fn.ok sc_lowest (fun vs H Q E h => ?_) (fun cdv A outer s H vs Q E hr h => ?_)
  · obtain ⟨o, u, rfl, _⟩ := h
    rfl
  · obtain ⟨o, u, rfl, hu, k⟩ := h
    refine ⟨_, (pss_cons (ps_if (pt_cmpR op_eq (pv 1) pe_int (nomark _)) (pss_one (ps_ret pe_non)) pss_nil)
      (pss_cons (ps_set (i := 2) (sc_lowest).nd rfl (Or.inl rfl) (pe_call G_common_divisor (hr.mono (by decide)) rfl T.F_common_divisor.mg T.F_common_divisor.fn.kp T.F_common_divisor.b .nil pass0 (pa_cons (pv 0) (pa_cons (pv 1) pa_nil))))
      (pss_cons (ps_set (i := 0) (sc_lowest).nd rfl (Or.inl rfl) (pe_op op_fdivB (pv 0) (pv 2)))
      (pss_cons (ps_set (i := 1) (sc_lowest).nd rfl (Or.inl rfl) (pe_op op_fdivB (pv 1) (pv 2)))
      (pss_cons (ps_if (PW.pt (pw_or (pt_cmpR op_ge (pv 0) (pe_g T.g_FIRST_TOO_GREAT) (nomark _)) (pw_or1 (pt_cmpR op_ge (pv 1) (pe_g T.g_FIRST_TOO_GREAT) (nomark _))))) (pss_one (ps_ret pe_non)) pss_nil)
      (pss_one (ps_ret (pe_make T.M_Amount G_Amount (hr.mono (by decide)) rfl T.G_Amount T.b_Amount___init__ .nil pass0 (pa_cons (pv 0) (pa_cons (pv 1) (pa_cons pe_str pa_nil))))))))))), ?_⟩
    simp only [tRet, tRetN, tSeq, tNext, tChain, tC, tVar, tOp, tUn, rI0, rI, rU, tTest, tB, tIfS, tIf, tAnd, tOr, tNot, tAndV, tOrV, tNotV, tAsg, gName, tCB, tCons, tNil, tCall, tDrop, tAug, ipI, tSl, tPart, tNoPart, tM0, tM1, rEq, rNe, tIsN, tNotN, scal_ii, scal_ss, scal_bb, rIxS, rIxL, rIxT, rAll, rMax, rSum, rSlL, rSlS, rIn, tLst, tTup, iStr, iList, iTup, tYes, cx_K, cx_P, cx_w, cx_mg, cx_base, cx_N, wipe, L2.start, List.map_cons, List.map_nil, List.length_cons, List.length_nil, List.replicate, List.cons_append, List.nil_append, List.append_nil, List.getElem?_cons_zero, List.getElem?_cons_succ, List.set_cons_zero, List.set_cons_succ, Nat.reduceSub, Nat.reduceAdd, Nat.add_zero, Nat.zero_add, Option.some.injEq, V.int.injEq, V.bl.injEq, V.str.injEq, V.ref.injEq, List.cons.injEq, and_true, true_and, exists_eq_left, exists_eq_left', exists_and_left, exists_eq, exists_eq', reduceCtorEq, false_and, Bool.false_eq_true, if_true, if_false, ite_true, ite_false, decide_eq_true_eq, one_len, one_get, S_eq, S_len, and_assoc, Int.natCast_inj, upd_same, upd_upd, HO.ins.injEq, List.zip_cons_cons, List.zip_nil_left, List.zip_nil_right, spGcd, tMake, spInit]
    unfold M.lowest at k
    refine ite2 (fun h => ?_) fun h => ?_
    · rw [if_pos (by omega)] at k
      exact k H (Same.refl H)
    · have hu0 : u ≠ 0 := by omega
      have hg : 0 < o.gcd u := Nat.gcd_pos_of_pos_right _ (Nat.pos_of_ne_zero hu0)
      have hg2 : o.gcd u ≤ u := Nat.gcd_le_right _ (Nat.pos_of_ne_zero hu0)
      have cd : ∀ i : Int, CDivB i ((o.gcd u : Nat) : Int) := fun i => ⟨by omega, log2_small (by rw [Int.natAbs_natCast]; omega)⟩
      rw [if_neg hu0] at k
      refine ⟨cd _, cd _, ?_⟩
      rw [← Int.natCast_ediv, ← Int.natCast_ediv]
      refine ite2 (fun h1 => ?_) fun h1 => ite2 (fun h2 => ?_) fun h2 => ?_
      · rw [if_pos (.inl (by omega))] at k
        exact k H (Same.refl H)
      · rw [if_pos (.inr (by omega))] at k
        exact k H (Same.refl H)
      · rw [if_neg (by omega)] at k
        intro x dx hx hdx hne
        exact k x _ (same_make hx hdx) ⟨dx, upd_same⟩
def spFrac (C : Addr) : Sp := fun vs H Q _ => ∃ (a b : List Nat) (c : Nat), vs = [.str (S (a ++ (if c = 0 then [] else c :: b)))] ∧ (∀ x ∈ a, Vaunid.isDigit x = true) ∧ a ≠ [] ∧ a.length + b.length ≤ 100000 ∧
  ((c = 0 ∧ b = []) ∨ ((c = 46 ∨ c = 47) ∧ b ≠ [] ∧ ∀ x ∈ b, Vaunid.isDigit x = true)) ∧ ansFrac C H Q (frac a c b)
theorem ok_fraction_of (T : TX K mg) : FnOk P w K mg base CX0 4 T.f_fraction_of T.d_fraction_of ["spelling"] (spFrac T.C_Amount) := by
  have G_lowest := ok_lowest (P := P) (w := w) (base := base) T
  refine T.F_fraction_of.fn.ok sc_fraction_of (fun vs H Q E h => ?_) (fun cdv A outer s H vs Q E hr h => ?_)
  · obtain ⟨a, b, c, rfl, _⟩ := h
    rfl
  · obtain ⟨a, b, c, rfl, ha, hne, hl, hc, k⟩ := h
    refine ⟨_, (pss_cons (ps_set (i := 1) (sc_fraction_of).nd rfl (Or.inl rfl) (pe_cmpR op_in_sign pe_str (pv 0) rfl))
      (pss_cons (ps_set (i := 2) (sc_fraction_of).nd rfl (Or.inl rfl) (pe_ifExp (pt_val (pv 1)) (pe_split (pv 0) pe_str) (pe_split (pv 0) pe_str)))
      (pss_cons (ps_if (pt_cmpR op_gt (pe_callB (cr_max rfl) rfl T.b_max boot_max1 (pa_cons (pe_lc rfl (sc_fraction_of).nd (pi_list (pv 2)) (blkOk_by (own := [("row", 3)]) (by kernel_rfl)) (fun _ _ _ _ _ => pg_name (i := 3) (sc_fraction_of).nd rfl (Or.inl rfl)) (fun _ _ _ _ _ => pts_nil) (fun _ _ _ _ _ => (pe_callB call_len_str rfl T.b_len PySem.boot_len (pa_cons (pv 3) pa_nil)))) pa_nil)) (pe_g T.g_MOST_DIGITS) (nomark _)) (pss_one (ps_ret pe_non)) pss_nil)
      (pss_cons (ps_if (pt_val (pv 1)) (pss_one (ps_ret (pe_call G_lowest (hr.mono (by decide)) rfl T.F_lowest.mg T.F_lowest.fn.kp T.F_lowest.b .nil pass0 (pa_cons (pe_callTy call_int_str rfl T.b_int boot_int1 (pa_cons (pe_ix ix_list (pv 2) pe_int (fun _ _ => rfl)) pa_nil)) (pa_cons (pe_callTy call_int_str rfl T.b_int boot_int1 (pa_cons (pe_ix ix_list (pv 2) pe_int (fun _ _ => rfl)) pa_nil)) pa_nil))))) pss_nil)
      (pss_cons (ps_if (pt_cmpR op_eq (pe_callB call_len_seq rfl T.b_len PySem.boot_len (pa_cons (pv 2) pa_nil)) pe_int (nomark _)) (pss_one (ps_ret (pe_call G_lowest (hr.mono (by decide)) rfl T.F_lowest.mg T.F_lowest.fn.kp T.F_lowest.b .nil pass0 (pa_cons (pe_callTy call_int_str rfl T.b_int boot_int1 (pa_cons (pe_op op_add_str (pe_ix ix_list (pv 2) pe_int (fun _ _ => rfl)) (pe_ix ix_list (pv 2) pe_int (fun _ _ => rfl))) pa_nil)) (pa_cons (pe_callTy call_int_str rfl T.b_int boot_int1 (pa_cons (pe_op op_add_str pe_str (pe_op op_mul_str pe_str (pe_callB call_len_str rfl T.b_len PySem.boot_len (pa_cons (pe_ix ix_list (pv 2) pe_int (fun _ _ => rfl)) pa_nil)))) pa_nil)) pa_nil))))) pss_nil)
      (pss_one (ps_ret (pe_call G_lowest (hr.mono (by decide)) rfl T.F_lowest.mg T.F_lowest.fn.kp T.F_lowest.b .nil pass0 (pa_cons (pe_callTy call_int_str rfl T.b_int boot_int1 (pa_cons (pe_ix ix_list (pv 2) pe_int (fun _ _ => rfl)) pa_nil)) (pa_cons pe_int pa_nil)))))))))), ?_⟩
    simp only [tRet, tRetN, tSeq, tNext, tChain, tC, tVar, tOp, tUn, rI0, rI, rU, tTest, tB, tIfS, tIf, tAnd, tOr, tNot, tAndV, tOrV, tNotV, tAsg, gName, tCB, tCons, tNil, tCall, tDrop, tAug, ipI, tSl, tPart, tNoPart, tM0, tM1, rEq, rNe, tIsN, tNotN, scal_ii, scal_ss, scal_bb, rIxS, rIxL, rIxT, rAll, rMax, rSum, rSlL, rSlS, rIn, tLst, tTup, iStr, iList, iTup, tYes, cx_K, cx_P, cx_w, cx_mg, cx_base, cx_N, wipe, L2.start, List.map_cons, List.map_nil, List.length_cons, List.length_nil, List.replicate, List.cons_append, List.nil_append, List.append_nil, List.getElem?_cons_zero, List.getElem?_cons_succ, List.set_cons_zero, List.set_cons_succ, Nat.reduceSub, Nat.reduceAdd, Nat.add_zero, Nat.zero_add, Option.some.injEq, V.int.injEq, V.bl.injEq, V.str.injEq, V.ref.injEq, List.cons.injEq, and_true, true_and, exists_eq_left, exists_eq_left', exists_and_left, exists_eq, exists_eq', reduceCtorEq, false_and, Bool.false_eq_true, if_true, if_false, ite_true, ite_false, decide_eq_true_eq, one_len, one_get, S_eq, S_len, and_assoc, Int.natCast_inj, upd_same, upd_upd, HO.ins.injEq, List.zip_cons_cons, List.zip_nil_left, List.zip_nil_right]
    refine ⟨47, slash_one, ?_⟩
    have big : ∀ n : Nat, n ≤ 100001 → n + 2 ≤ sizeLine := fun n h => Nat.le_trans (Nat.add_le_add_right h 2) (by decide)
    have big2 : ∀ n : Nat, n ≤ 100001 → n ≤ sizeLine := fun n h => Nat.le_trans (Nat.le_add_right n 2) (big n h)
    have p12 : (10 : Nat) ^ 12 < 2 ^ 200 := by decide
    have n47 : 47 ∉ a := fun m => by have := ha _ m; revert this; decide
    have dotne : ((Str.ofString ".").length == 0) = false := by decide +kernel
    have slane : ((Str.ofString "/").length == 0) = false := by decide +kernel
    rcases hc with ⟨rfl, rfl⟩ | ⟨rfl | rfl, hb, hbd⟩
    · simp only [if_true, List.append_nil]
      rw [if_neg (by rw [S_tlz]; exact n47)]
      refine ⟨dotne, big _ (by simp at hl; omega), ?_⟩
      rw [dot_none ha]
      intro p hp
      refine lens_max upd_same (by intro y hy; rw [List.mem_singleton.mp hy, S_len]; exact big2 _ (by simp at hl; omega)) (by show 1 ≤ sizeLine; decide) fun D H' sm e => ?_
      have hpp : H' p = some (.lst [.str (S a)]) := sm _ _ upd_same
      have sm2 : Same H H' := (Same.upd hp).trans sm
      simp only [tRet, tRetN, tSeq, tNext, tChain, tC, tVar, tOp, tUn, rI0, rI, rU, tTest, tB, tIfS, tIf, tAnd, tOr, tNot, tAndV, tOrV, tNotV, tAsg, gName, tCB, tCons, tNil, tCall, tDrop, tAug, ipI, tSl, tPart, tNoPart, tM0, tM1, rEq, rNe, tIsN, tNotN, scal_ii, scal_ss, scal_bb, rIxS, rIxL, rIxT, rAll, rMax, rSum, rSlL, rSlS, rIn, tLst, tTup, iStr, iList, iTup, tYes, cx_K, cx_P, cx_w, cx_mg, cx_base, cx_N, wipe, L2.start, List.map_cons, List.map_nil, List.length_cons, List.length_nil, List.replicate, List.cons_append, List.nil_append, List.append_nil, List.getElem?_cons_zero, List.getElem?_cons_succ, List.set_cons_zero, List.set_cons_succ, Nat.reduceSub, Nat.reduceAdd, Nat.add_zero, Nat.zero_add, Option.some.injEq, V.int.injEq, V.bl.injEq, V.str.injEq, V.ref.injEq, List.cons.injEq, and_true, true_and, exists_eq_left, exists_eq_left', exists_and_left, exists_eq, exists_eq', reduceCtorEq, false_and, Bool.false_eq_true, if_true, if_false, ite_true, ite_false, decide_eq_true_eq, one_len, one_get, S_eq, S_len, and_assoc, Int.natCast_inj, upd_same, upd_upd, HO.ins.injEq, List.zip_cons_cons, List.zip_nil_left, List.zip_nil_right]
      refine ⟨[((S a).length : Int)], SqL.of e, by simp, fun m hm hmax => ?_⟩
      rw [List.mem_singleton.mp hm, S_len]
      refine ite2 (fun h => ?_) fun h => ?_
      · rw [frac_long (.inl (by omega))] at k
        exact k _ sm2
      · rw [if_neg (by rw [S_tlz]; exact n47)]
        refine ⟨_, .inl (SqL.of hpp), ?_⟩
        rw [if_neg (by simp)]
        refine ⟨_, SqL.of hpp, _, rfl, _, rfl, _, int_of ha hne (by omega), by rw [S_len]; omega, ?_⟩
        rw [frac_lowest (by omega) (by decide)] at k
        exact ⟨_, 1, rfl, by decide, k.mono sm2⟩
    · have e0 : (a ++ if 46 = 0 then [] else 46 :: b) = a ++ 46 :: b := rfl
      rw [e0]
      have n47b : 47 ∉ a ++ 46 :: b := fun m => by
        rcases List.mem_append.mp m with q | q
        · exact n47 q
        · rcases List.mem_cons.mp q with q | q
          · cases q
          · have := hbd _ q; revert this; decide
      have hlen : (a ++ 46 :: b).length ≤ 100001 := by rw [List.length_append, List.length_cons]; omega
      rw [if_neg (by rw [S_tlz]; exact n47b)]
      refine ⟨dotne, big _ hlen, ?_⟩
      rw [dot_cut ha hbd]
      intro p hp
      refine lens_max upd_same (by intro y hy; rcases List.mem_cons.mp hy with q | q; · rw [q, S_len]; exact big2 _ (by omega)
                                   · rw [List.mem_singleton.mp q, S_len]; exact big2 _ (by omega)) (by show 2 ≤ sizeLine; decide) fun D H' sm e => ?_
      have hpp : H' p = some (.lst [.str (S a), .str (S b)]) := sm _ _ upd_same
      have sm2 : Same H H' := (Same.upd hp).trans sm
      simp only [tRet, tRetN, tSeq, tNext, tChain, tC, tVar, tOp, tUn, rI0, rI, rU, tTest, tB, tIfS, tIf, tAnd, tOr, tNot, tAndV, tOrV, tNotV, tAsg, gName, tCB, tCons, tNil, tCall, tDrop, tAug, ipI, tSl, tPart, tNoPart, tM0, tM1, rEq, rNe, tIsN, tNotN, scal_ii, scal_ss, scal_bb, rIxS, rIxL, rIxT, rAll, rMax, rSum, rSlL, rSlS, rIn, tLst, tTup, iStr, iList, iTup, tYes, cx_K, cx_P, cx_w, cx_mg, cx_base, cx_N, wipe, L2.start, List.map_cons, List.map_nil, List.length_cons, List.length_nil, List.replicate, List.cons_append, List.nil_append, List.append_nil, List.getElem?_cons_zero, List.getElem?_cons_succ, List.set_cons_zero, List.set_cons_succ, Nat.reduceSub, Nat.reduceAdd, Nat.add_zero, Nat.zero_add, Option.some.injEq, V.int.injEq, V.bl.injEq, V.str.injEq, V.ref.injEq, List.cons.injEq, and_true, true_and, exists_eq_left, exists_eq_left', exists_and_left, exists_eq, exists_eq', reduceCtorEq, false_and, Bool.false_eq_true, if_true, if_false, ite_true, ite_false, decide_eq_true_eq, one_len, one_get, S_eq, S_len, and_assoc, Int.natCast_inj, upd_same, upd_upd, HO.ins.injEq, List.zip_cons_cons, List.zip_nil_left, List.zip_nil_right]
      refine ⟨[((S a).length : Int), ((S b).length : Int)], SqL.of e, by simp, fun m hm hmax => ?_⟩
      have m1 := hmax ((S a).length : Int) (by simp)
      have m2 := hmax ((S b).length : Int) (by simp)
      rw [S_len] at m1 m2
      have m3 : m = (a.length : Int) ∨ m = (b.length : Int) := by
        rcases List.mem_cons.mp hm with q | q
        · rw [q, S_len]; exact .inl rfl
        · rw [List.mem_singleton.mp q, S_len]; exact .inr rfl
      refine ite2 (fun h => ?_) fun h => ?_
      · rw [frac_long (by omega)] at k
        exact k _ sm2
      · rw [if_neg (by rw [S_tlz]; exact n47b)]
        refine ⟨_, .inl (SqL.of hpp), ?_⟩
        rw [if_pos (by simp)]
        have hl24 : (a ++ b).length ≤ 24 := by rw [List.length_append]; omega
        have hab : ∀ x ∈ a ++ b, Vaunid.isDigit x = true := fun x hx => (List.mem_append.mp hx).elim (ha x) (hbd x)
        obtain ⟨t1, t2, t3⟩ := one_ten b.length (by omega)
        refine ⟨_, SqL.of hpp, _, rfl, _, SqL.of hpp, _, rfl, _, rfl, _, rfl, ?_⟩
        rw [S_app, S_len, S_len, S_len]
        refine ⟨big2 _ (by omega), _, int_of hab (by simp [hne]) (by omega), by omega, _, SqL.of hpp, _, rfl, _, rfl, ?_⟩
        rw [S_len]
        refine ⟨big2 _ (by omega), mulOk0 _ (by omega), t3, _, t1, t2, ?_⟩
        rw [frac_lowest (by omega) (by omega)] at k
        exact ⟨_, 10 ^ b.length, rfl, Nat.lt_of_le_of_lt (pow_mono10 (by omega)) p12, k.mono sm2⟩
    · have e0 : (a ++ if 47 = 0 then [] else 47 :: b) = a ++ 47 :: b := rfl
      rw [e0]
      have i47 : 47 ∈ a ++ 47 :: b := by simp
      have hlen : (a ++ 47 :: b).length ≤ 100001 := by rw [List.length_append, List.length_cons]; omega
      rw [if_pos (by rw [S_tlz]; exact i47)]
      refine ⟨slane, big _ hlen, ?_⟩
      rw [slash_cut ha hbd]
      intro p hp
      refine lens_max upd_same (by intro y hy; rcases List.mem_cons.mp hy with q | q; · rw [q, S_len]; exact big2 _ (by omega)
                                   · rw [List.mem_singleton.mp q, S_len]; exact big2 _ (by omega)) (by show 2 ≤ sizeLine; decide) fun D H' sm e => ?_
      have hpp : H' p = some (.lst [.str (S a), .str (S b)]) := sm _ _ upd_same
      have sm2 : Same H H' := (Same.upd hp).trans sm
      simp only [tRet, tRetN, tSeq, tNext, tChain, tC, tVar, tOp, tUn, rI0, rI, rU, tTest, tB, tIfS, tIf, tAnd, tOr, tNot, tAndV, tOrV, tNotV, tAsg, gName, tCB, tCons, tNil, tCall, tDrop, tAug, ipI, tSl, tPart, tNoPart, tM0, tM1, rEq, rNe, tIsN, tNotN, scal_ii, scal_ss, scal_bb, rIxS, rIxL, rIxT, rAll, rMax, rSum, rSlL, rSlS, rIn, tLst, tTup, iStr, iList, iTup, tYes, cx_K, cx_P, cx_w, cx_mg, cx_base, cx_N, wipe, L2.start, List.map_cons, List.map_nil, List.length_cons, List.length_nil, List.replicate, List.cons_append, List.nil_append, List.append_nil, List.getElem?_cons_zero, List.getElem?_cons_succ, List.set_cons_zero, List.set_cons_succ, Nat.reduceSub, Nat.reduceAdd, Nat.add_zero, Nat.zero_add, Option.some.injEq, V.int.injEq, V.bl.injEq, V.str.injEq, V.ref.injEq, List.cons.injEq, and_true, true_and, exists_eq_left, exists_eq_left', exists_and_left, exists_eq, exists_eq', reduceCtorEq, false_and, Bool.false_eq_true, if_true, if_false, ite_true, ite_false, decide_eq_true_eq, one_len, one_get, S_eq, S_len, and_assoc, Int.natCast_inj, upd_same, upd_upd, HO.ins.injEq, List.zip_cons_cons, List.zip_nil_left, List.zip_nil_right]
      refine ⟨[((S a).length : Int), ((S b).length : Int)], SqL.of e, by simp, fun m hm hmax => ?_⟩
      have m1 := hmax ((S a).length : Int) (by simp)
      have m2 := hmax ((S b).length : Int) (by simp)
      rw [S_len] at m1 m2
      have m3 : m = (a.length : Int) ∨ m = (b.length : Int) := by
        rcases List.mem_cons.mp hm with q | q
        · rw [q, S_len]; exact .inl rfl
        · rw [List.mem_singleton.mp q, S_len]; exact .inr rfl
      refine ite2 (fun h => ?_) fun h => ?_
      · rw [frac_long (by omega)] at k
        exact k _ sm2
      · rw [if_pos (by rw [S_tlz]; exact i47)]
        refine ⟨_, SqL.of hpp, _, rfl, _, rfl, _, int_of ha hne (by omega), by rw [S_len]; omega, _, SqL.of hpp, _, rfl, _, rfl, _, int_of hbd hb (by omega), by rw [S_len]; omega, ?_⟩
        rw [frac_lowest (by omega) (by omega)] at k
        exact ⟨_, _, rfl, Nat.lt_trans (dv_lt' hbd (by omega)) p12, k.mono sm2⟩
def spPower : Sp := fun vs H Q _ => ∃ l : List Nat, vs = [.str (S l)] ∧ l.length ≤ sizeLine ∧ ∀ H', Same H H' → Q (.bl (isPower l)) H'
theorem ok_is_power (T : TX K mg) : FnOk P w K mg base CX0 2 T.f_is_power T.d_is_power ["power"] spPower := by
  have G_is_digit := ok_is_digit (P := P) (w := w) (base := base) T
  refine T.F_is_power.fn.ok sc_is_power (fun vs H Q E h => ?_) (fun cdv A outer s H vs Q E hr h => ?_)
  · obtain ⟨n, rfl, _⟩ := h
    rfl
  · obtain ⟨l, rfl, hl, k⟩ := h
    refine ⟨_, (pss_cons (ps_set (i := 1) (sc_is_power).nd rfl (Or.inl rfl) (pe_ifExp (pt_val (pe_m1 F.slot_str_startswith F.type_str_startswith mt_startswith (pv 0) pe_str)) (pe_slice sl_str (pv 0) (po_some pe_int) po_none) (pv 0)))
      (pss_cons (ps_if (PW.pt (pw_or (pt_cmpR op_eq (pv 1) pe_str (nomark _)) (pw_or1 (pt_cmpR op_gt (pe_callB call_len_str rfl T.b_len PySem.boot_len (pa_cons (pv 1) pa_nil)) (pe_g T.g_MOST_POWER_DIGITS) (nomark _))))) (pss_one (ps_ret pe_bl)) pss_nil)
      (pss_one (ps_ret (pe_callB (cr_all rfl) rfl T.b_all boot_all1 (pa_cons (pe_lc rfl (sc_is_power).nd (pi_str (pv 1)) (blkOk_by (own := [("sign", 2)]) (by kernel_rfl)) (fun _ _ _ _ _ => pg_name (i := 2) (sc_is_power).nd rfl (Or.inl rfl)) (fun _ _ _ _ _ => pts_nil) (fun _ _ _ _ _ => (pe_call G_is_digit (hr.mono (by decide)) rfl T.F_is_digit.mg T.F_is_digit.fn.kp T.F_is_digit.b .nil pass0 (pa_cons (pe_callB call_ord rfl T.b_ord boot_ord1 (pa_cons (pv 2) pa_nil)) pa_nil)))) pa_nil)))))), ?_⟩
    simp only [tRet, tRetN, tSeq, tNext, tChain, tC, tVar, tOp, tUn, rI0, rI, rU, tTest, tB, tIfS, tIf, tAnd, tOr, tNot, tAndV, tOrV, tNotV, tAsg, gName, tCB, tCons, tNil, tCall, tDrop, tAug, ipI, tSl, tPart, tNoPart, tM0, tM1, rEq, rNe, tIsN, tNotN, scal_ii, scal_ss, scal_bb, rIxS, rIxL, rIxT, rAll, rMax, rSum, rSlL, rSlS, rIn, tLst, tTup, iStr, iList, iTup, tYes, cx_K, cx_P, cx_w, cx_mg, cx_base, cx_N, wipe, L2.start, List.map_cons, List.map_nil, List.length_cons, List.length_nil, List.replicate, List.cons_append, List.nil_append, List.append_nil, List.getElem?_cons_zero, List.getElem?_cons_succ, List.set_cons_zero, List.set_cons_succ, Nat.reduceSub, Nat.reduceAdd, Nat.add_zero, Nat.zero_add, Option.some.injEq, V.int.injEq, V.bl.injEq, V.str.injEq, V.ref.injEq, List.cons.injEq, and_true, true_and, exists_eq_left, exists_eq_left', exists_and_left, exists_eq, exists_eq', reduceCtorEq, false_and, Bool.false_eq_true, if_true, if_false, ite_true, ite_false, decide_eq_true_eq, one_len, one_get, S_eq, S_len, and_assoc, Int.natCast_inj, upd_same, upd_upd, HO.ins.injEq, List.zip_cons_cons, List.zip_nil_left, List.zip_nil_right]
    have k0 := k H (Same.refl H)
    have part : ∀ d : List Nat, isPower l = (!d.isEmpty && (decide (d.length ≤ 2) && d.all Vaunid.isDigit)) → d.length ≤ sizeLine → (if S d = Str.ofString "" then Q (V.bl false) H else (S d).length ≤ sizeLine ∧ if 2 < ((S d).length : Int) then Q (V.bl false) H else
        tLc (iStr (tVar 1)) (gName 2) tYes (tCall (spB Vaunid.isDigit) [] E0 (tCons (tCB (fun xs H Q => ∃ x, xs = [V.str x] ∧ x.length = 1 ∧ Q (V.int ↑(x.cps.getD 0 0)) H) (tCons (tVar 2) tNil)) tNil)) [2] [some (V.str (S l)), some (V.str (S d)), none] H fun x H1 =>
          ∃ a, x = V.ref a ∧ ∃ x, SqL K H1 a (List.map V.bl x) ∧ Q (V.bl (x.all id)) H1) := fun d hd hdl => by
      rw [hd] at k0 k
      rw [S_len]
      refine ite2 (fun z => ?_) fun z => ⟨hdl, ite2 (fun z2 => ?_) fun z2 => ?_⟩
      · have e : d = [] := by rw [S_eq] at z; exact z
        subst e
        exact k0
      · rw [decide_eq_false (by omega)] at k0
        simpa using k0
      · refine chars_all hdl fun D H' sm e => ⟨D, rfl, d.map Vaunid.isDigit, SqL.of e, ?_⟩
        have k1 := k H' sm
        have e2 : (!d.isEmpty && (decide (d.length ≤ 2) && d.all Vaunid.isDigit)) = (d.map Vaunid.isDigit).all id := by
          rw [decide_eq_true (by omega), List.all_map]
          cases d with
          | nil => exact absurd (by rw [S_eq]; rfl) z
          | cons c r => rfl
        rw [e2] at k1
        exact k1
    have ec : cutS (S l) (some 1) none = S (l.drop 1) := cut_from l 1
    rw [starts_minus, ec]
    refine ite2 (fun h => ?_) fun h => ?_
    · have hh := of_decide_eq_true h
      refine ⟨hl, part (l.drop 1) ?_ (by rw [List.length_drop]; omega)⟩
      unfold isPower
      rw [if_pos hh]
      cases l with
      | nil => cases hh
      | cons c r => rfl
    · have hh : ¬ l.head? = some 45 := fun z => h (decide_eq_true z)
      have := part l (by unfold isPower; rw [if_neg hh]) hl
      simp only [S_eq, S_len] at this
      exact this
def spFactor : Sp := fun vs H Q _ => ∃ l : List Nat, vs = [.str (S l)] ∧ l.length ≤ sizeLine ∧ ∀ H', Same H H' → Q (.bl (isFactor l)) H'
theorem ok_is_factor (T : TX K mg) : FnOk P w K mg base CX0 4 T.f_is_factor T.d_is_factor ["factor"] spFactor := by
  have G_is_short_word := ok_is_short_word (P := P) (w := w) (base := base) T
  have G_is_power := ok_is_power (P := P) (w := w) (base := base) T
  refine T.F_is_factor.fn.ok sc_is_factor (fun vs H Q E h => ?_) (fun cdv A outer s H vs Q E hr h => ?_)
  · obtain ⟨n, rfl, _⟩ := h
    rfl
  · obtain ⟨l, rfl, hl, k⟩ := h
    refine ⟨_, (pss_cons (ps_if (pt_cmpR op_eq (pv 0) pe_str (nomark _)) (pss_one (ps_ret pe_bl)) pss_nil)
      (pss_cons (ps_if (pt_cmpR op_notIn_sign pe_str (pv 0) rfl) (pss_one (ps_ret (pe_call G_is_short_word (hr.mono (by decide)) rfl T.F_is_short_word.mg T.F_is_short_word.fn.kp T.F_is_short_word.b .nil pass0 (pa_cons (pv 0) pa_nil)))) pss_nil)
      (pss_cons (ps_set (i := 1) (sc_is_factor).nd rfl (Or.inl rfl) (pe_partition (pv 0) pe_str))
      (pss_one (ps_ret (pe_and (pe_call G_is_short_word (hr.mono (by decide)) rfl T.F_is_short_word.mg T.F_is_short_word.fn.kp T.F_is_short_word.b .nil pass0 (pa_cons (pe_ix ix_tup (pv 1) pe_int (fun _ _ => rfl)) pa_nil)) (pe_one (pe_call G_is_power (hr.mono (by decide)) rfl T.F_is_power.mg T.F_is_power.fn.kp T.F_is_power.b .nil pass0 (pa_cons (pe_ix ix_tup (pv 1) pe_int (fun _ _ => rfl)) pa_nil))))))))), ?_⟩
    simp only [tRet, tRetN, tSeq, tNext, tChain, tC, tVar, tOp, tUn, rI0, rI, rU, tTest, tB, tIfS, tIf, tAnd, tOr, tNot, tAndV, tOrV, tNotV, tAsg, gName, tCB, tCons, tNil, tCall, tDrop, tAug, ipI, tSl, tPart, tNoPart, tM0, tM1, rEq, rNe, tIsN, tNotN, scal_ii, scal_ss, scal_bb, rIxS, rIxL, rIxT, rAll, rMax, rSum, rSlL, rSlS, rIn, tLst, tTup, iStr, iList, iTup, tYes, cx_K, cx_P, cx_w, cx_mg, cx_base, cx_N, wipe, L2.start, List.map_cons, List.map_nil, List.length_cons, List.length_nil, List.replicate, List.cons_append, List.nil_append, List.append_nil, List.getElem?_cons_zero, List.getElem?_cons_succ, List.set_cons_zero, List.set_cons_succ, Nat.reduceSub, Nat.reduceAdd, Nat.add_zero, Nat.zero_add, Option.some.injEq, V.int.injEq, V.bl.injEq, V.str.injEq, V.ref.injEq, List.cons.injEq, and_true, true_and, exists_eq_left, exists_eq_left', exists_and_left, exists_eq, exists_eq', reduceCtorEq, false_and, Bool.false_eq_true, if_true, if_false, ite_true, ite_false, decide_eq_true_eq, one_len, one_get, S_eq, S_len, and_assoc, Int.natCast_inj, upd_same, upd_upd, HO.ins.injEq, List.zip_cons_cons, List.zip_nil_left, List.zip_nil_right]
    have k0 := k H (Same.refl H)
    refine ite2 (fun h => ?_) fun h => ⟨94, hat_one, ?_⟩
    · have e : isFactor l = true := by rw [h]; decide +kernel
      rw [e] at k0
      exact k0
    · have h1 : (l == [49]) = false := by
        cases q : l == [49] with
        | false => rfl
        | true => exact absurd ((eq_of_beq q).trans (by decide +kernel)) h
      rw [S_tlz]
      have hc : l.contains 94 = decide (94 ∈ l) := by rw [Bool.eq_iff_iff]; simp
      refine ite2 (fun q => ?_) fun q => ?_
      · have q' : ¬ 94 ∈ l := by simpa using q
        have e : isFactor l = shortWord l := by
          unfold isFactor
          rw [h1, hc, decide_eq_false q']
          rfl
        refine ⟨l, rfl, hl, ?_⟩
        rw [e] at k
        exact k
      · have q' : 94 ∈ l := by simpa using q
        have e : isFactor l = (shortWord (l.takeWhile (· != 94)) && isPower ((l.dropWhile (· != 94)).drop 1)) := by
          unfold isFactor
          rw [h1, hc, decide_eq_true q']
          rfl
        rw [e] at k
        refine ⟨by decide +kernel, hl, fun p hp => ⟨_, SqT.of upd_same, _, rfl, ?_⟩⟩
        rw [part_hat q']
        refine ⟨_, rfl, Nat.le_trans (tw_le _ _) hl, fun H' sm => ⟨_, rfl, ?_⟩⟩
        have sm2 : Same H H' := (Same.upd hp).trans sm
        refine ite_bool (fun r => ?_) fun r => ?_
        · refine ⟨_, SqT.of (sm _ _ upd_same), _, rfl, _, rfl, ?_, fun H2 s2 => ?_⟩
          · rw [List.length_drop, dw_drop, List.length_drop]
            omega
          · have := k H2 (sm2.trans s2)
            rw [r] at this
            exact this
        · have := k H' sm2
          rw [r] at this
          exact this
def spMeasure : Sp := fun vs H Q _ => ∃ l : List Nat, vs = [.str (S l)] ∧ l.length ≤ 1000000 ∧ ∀ H', Same H H' → Q (.bl (Vaunid.measureText (l.length + 1) l)) H'
theorem ok_is_measure (T : TX K mg) : FnOkT P w K mg base CX0 5 T.f_is_measure T.d_is_measure ["measure"] spMeasure := by
  have G_is_factor := ok_is_factor (P := P) (w := w) (base := base) T
  refine T.F_is_measure.fn.okT sc_is_measure (fun vs H Q E h => ?_) (fun cdv A outer s H vs Q E hr h => ?_)
  · obtain ⟨n, rfl, _⟩ := h
    rfl
  · obtain ⟨l, rfl, hl, k⟩ := h
    refine ⟨_, (pss_consT (ps_forT PassesOwn.never rfl (pi_listT (pe_m1T PySem.F.slot_str_split PySem.F.type_str_split mt_split (pe_replaceT (pv 0)) pe_str)) (pg_name (i := 1) (sc_is_measure).nd rfl (Or.inl rfl)) (pss_one (ps_if (pt_not (pt_val (pe_call G_is_factor (hr.mono (by decide)) rfl T.F_is_factor.mg T.F_is_factor.fn.kp T.F_is_factor.b .nil pass0 (pa_cons (pv 1) pa_nil)))) (pss_one (ps_ret pe_bl)) pss_nil)))
      (pss_one (ps_ret pe_bl))), ?_⟩
    have ea : (Txt.split (Txt.replace (S l) (Str.ofString "/") (Str.ofString ".")) (Str.ofString ".")).map tl = cut sep [] l := by rw [replace_map, split_dot, spl_cut]
    have ea2 : Txt.split (Txt.replace (S l) (Str.ofString "/") (Str.ofString ".")) (Str.ofString ".") = (cut sep [] l).map S := by
      refine map_tl_inj ?_
      rw [ea, List.map_map]
      exact (List.map_id _).symm
    refine tfor_intro ?_
    simp only [tRet, tRetN, tSeq, tNext, tChain, tC, tVar, tOp, tUn, rI0, rI, rU, tTest, tB, tIfS, tIf, tAnd, tOr, tNot, tAndV, tOrV, tNotV, tAsg, gName, tCB, tCons, tNil, tCall, tDrop, tAug, ipI, tSl, tPart, tNoPart, tM0, tM1, rEq, rNe, tIsN, tNotN, scal_ii, scal_ss, scal_bb, rIxS, rIxL, rIxT, rAll, rMax, rSum, rSlL, rSlS, rIn, tLst, tTup, iStr, iList, iTup, tYes, cx_K, cx_P, cx_w, cx_mg, cx_base, cx_N, wipe, L2.start, List.map_cons, List.map_nil, List.length_cons, List.length_nil, List.replicate, List.cons_append, List.nil_append, List.append_nil, List.getElem?_cons_zero, List.getElem?_cons_succ, List.set_cons_zero, List.set_cons_succ, Nat.reduceSub, Nat.reduceAdd, Nat.add_zero, Nat.zero_add, Option.some.injEq, V.int.injEq, V.bl.injEq, V.str.injEq, V.ref.injEq, List.cons.injEq, and_true, true_and, exists_eq_left, exists_eq_left', exists_and_left, exists_eq, exists_eq', reduceCtorEq, false_and, Bool.false_eq_true, if_true, if_false, ite_true, ite_false, decide_eq_true_eq, one_len, one_get, S_eq, S_len, and_assoc, Int.natCast_inj, upd_same, upd_upd, HO.ins.injEq, List.zip_cons_cons, List.zip_nil_left, List.zip_nil_right, rNewStrs]
    rw [ea2]
    have me := measure_eq (l.length + 1) l (by omega)
    rw [me] at k
    have sz : (1000000 : Nat) + 2 ≤ sizeLine := by decide
    refine ⟨by omega, by decide +kernel, by rw [replace_map, S_len, List.length_map]; omega, fun p hp => ⟨⟨_, SqL.of upd_same⟩, ?_⟩⟩
    refine forok_list (((cut sep [] l).map S).map V.str) (fun i σ H' => Same (upd H p (HO.lst (List.map V.str (List.map S (cut sep [] l))))) H' ∧ (∃ z, σ = [some (.str (S l)), z]) ∧ ((cut sep [] l).take i).all isFactor = true) ⟨Same.refl _, ⟨_, rfl⟩, rfl⟩ (fun i σ H' _ hp => SqL.of (hp.1 _ _ upd_same)) (fun i x σ H' hx hp => ?_) fun σ H' hp => ?_
    · obtain ⟨sm, ⟨z, rfl⟩, hall⟩ := hp
      rw [List.getElem?_map, List.getElem?_map] at hx
      cases q : (cut sep [] l)[i]? with
      | none => rw [q] at hx; cases hx
      | some f =>
        rw [q] at hx
        cases hx
        simp only [tRet, tRetN, tSeq, tNext, tChain, tC, tVar, tOp, tUn, rI0, rI, rU, tTest, tB, tIfS, tIf, tAnd, tOr, tNot, tAndV, tOrV, tNotV, tAsg, gName, tCB, tCons, tNil, tCall, tDrop, tAug, ipI, tSl, tPart, tNoPart, tM0, tM1, rEq, rNe, tIsN, tNotN, scal_ii, scal_ss, scal_bb, rIxS, rIxL, rIxT, rAll, rMax, rSum, rSlL, rSlS, rIn, tLst, tTup, iStr, iList, iTup, tYes, cx_K, cx_P, cx_w, cx_mg, cx_base, cx_N, wipe, L2.start, List.map_cons, List.map_nil, List.length_cons, List.length_nil, List.replicate, List.cons_append, List.nil_append, List.append_nil, List.getElem?_cons_zero, List.getElem?_cons_succ, List.set_cons_zero, List.set_cons_succ, Nat.reduceSub, Nat.reduceAdd, Nat.add_zero, Nat.zero_add, Option.some.injEq, V.int.injEq, V.bl.injEq, V.str.injEq, V.ref.injEq, List.cons.injEq, and_true, true_and, exists_eq_left, exists_eq_left', exists_and_left, exists_eq, exists_eq', reduceCtorEq, false_and, Bool.false_eq_true, if_true, if_false, ite_true, ite_false, decide_eq_true_eq, one_len, one_get, S_eq, S_len, and_assoc, Int.natCast_inj, upd_same, upd_upd, HO.ins.injEq, List.zip_cons_cons, List.zip_nil_left, List.zip_nil_right]
        have hf := cut_len sep l [] f (List.mem_of_getElem? q)
        rw [List.length_nil] at hf
        refine ⟨f, rfl, by omega, fun H2 s2 => ⟨_, rfl, ?_⟩⟩
        have sm2 : Same H H2 := ((Same.upd hp).trans sm).trans s2
        cases r : isFactor f with
        | false =>
          have k1 := k H2 sm2
          rw [all_at q r] at k1
          exact iteT k1
        | true =>
          refine iteF ⟨sm.trans s2, ?_⟩
          rw [take_all q, hall, r]
          rfl
    · obtain ⟨sm, ⟨z, rfl⟩, hall⟩ := hp
      rw [List.length_map, List.length_map, List.take_length] at hall
      have k1 := k H' ((Same.upd hp).trans sm)
      rw [hall] at k1
      exact k1
def spMeasured (C : Addr) : Sp := fun vs H Q _ => ∃ (a : Addr) (o u : Int) (m l : List Nat), vs = [.ref a, .str (S l)] ∧ AmountAt C H a o u m ∧ ∀ (b : Addr) (H' : Hp), Same H H' → AmountAt C H' b o u l → Q (.ref b) H'
theorem ok_measured (T : TX K mg) : FnOk P w K mg base CX0 3 T.f_measured T.d_measured ["amount", "measure"] (spMeasured T.C_Amount) := by
  have G_Amount := ok_Amount (P := P) (w := w) (base := base) T
  refine T.F_measured.fn.ok sc_measured (fun vs H Q E h => ?_) (fun cdv A outer s H vs Q E hr h => ?_)
  · obtain ⟨a, o, u, m, l, rfl, _⟩ := h
    rfl
  · obtain ⟨a, o, u, m, l, rfl, ⟨dx, ha⟩, k⟩ := h
    refine ⟨_, (pss_one (ps_ret (pe_make T.M_Amount G_Amount (hr.mono (by decide)) rfl T.G_Amount T.b_Amount___init__ .nil pass0 (pa_cons (pe_fld (pv 0) rfl) (pa_cons (pe_fld (pv 0) rfl) (pa_cons (pv 1) pa_nil)))))), ?_⟩
    simp only [tRet, tRetN, tSeq, tNext, tChain, tC, tVar, tOp, tUn, rI0, rI, rU, tTest, tB, tIfS, tIf, tAnd, tOr, tNot, tAndV, tOrV, tNotV, tAsg, gName, tCB, tCons, tNil, tCall, tDrop, tAug, ipI, tSl, tPart, tNoPart, tM0, tM1, rEq, rNe, tIsN, tNotN, scal_ii, scal_ss, scal_bb, rIxS, rIxL, rIxT, rAll, rMax, rSum, rSlL, rSlS, rIn, tLst, tTup, iStr, iList, iTup, tYes, cx_K, cx_P, cx_w, cx_mg, cx_base, cx_N, wipe, L2.start, List.map_cons, List.map_nil, List.length_cons, List.length_nil, List.replicate, List.cons_append, List.nil_append, List.append_nil, List.getElem?_cons_zero, List.getElem?_cons_succ, List.set_cons_zero, List.set_cons_succ, Nat.reduceSub, Nat.reduceAdd, Nat.add_zero, Nat.zero_add, Option.some.injEq, V.int.injEq, V.bl.injEq, V.str.injEq, V.ref.injEq, List.cons.injEq, and_true, true_and, exists_eq_left, exists_eq_left', exists_and_left, exists_eq, exists_eq', reduceCtorEq, false_and, Bool.false_eq_true, if_true, if_false, ite_true, ite_false, decide_eq_true_eq, one_len, one_get, S_eq, S_len, and_assoc, Int.natCast_inj, upd_same, upd_upd, HO.ins.injEq, List.zip_cons_cons, List.zip_nil_left, List.zip_nil_right, tFld, tMake, spInit, ha]
    refine ⟨T.cl_Amount, T.n_Amount_over, _, rfl, T.cl_Amount, T.n_Amount_under, _, rfl, fun x dx hx hdx hne => ?_⟩
    exact k x _ (same_make hx hdx) ⟨dx, upd_same⟩
def spNegated (C : Addr) : Sp := fun vs H Q _ => ∃ (a : Addr) (o u : Int) (m : List Nat), vs = [.ref a] ∧ AmountAt C H a o u m ∧ ∀ (b : Addr) (H' : Hp), Same H H' → AmountAt C H' b (-o) u m → Q (.ref b) H'
theorem ok_negated (T : TX K mg) : FnOk P w K mg base CX0 3 T.f_negated T.d_negated ["amount"] (spNegated T.C_Amount) := by
  have G_Amount := ok_Amount (P := P) (w := w) (base := base) T
  refine T.F_negated.fn.ok sc_negated (fun vs H Q E h => ?_) (fun cdv A outer s H vs Q E hr h => ?_)
  · obtain ⟨a, o, u, m, rfl, _⟩ := h
    rfl
  · obtain ⟨a, o, u, m, rfl, ⟨dx, ha⟩, k⟩ := h
    refine ⟨_, (pss_one (ps_ret (pe_make T.M_Amount G_Amount (hr.mono (by decide)) rfl T.G_Amount T.b_Amount___init__ .nil pass0 (pa_cons (pe_un un_neg (pe_fld (pv 0) rfl)) (pa_cons (pe_fld (pv 0) rfl) (pa_cons (pe_fld (pv 0) rfl) pa_nil)))))), ?_⟩
    simp only [tRet, tRetN, tSeq, tNext, tChain, tC, tVar, tOp, tUn, rI0, rI, rU, tTest, tB, tIfS, tIf, tAnd, tOr, tNot, tAndV, tOrV, tNotV, tAsg, gName, tCB, tCons, tNil, tCall, tDrop, tAug, ipI, tSl, tPart, tNoPart, tM0, tM1, rEq, rNe, tIsN, tNotN, scal_ii, scal_ss, scal_bb, rIxS, rIxL, rIxT, rAll, rMax, rSum, rSlL, rSlS, rIn, tLst, tTup, iStr, iList, iTup, tYes, cx_K, cx_P, cx_w, cx_mg, cx_base, cx_N, wipe, L2.start, List.map_cons, List.map_nil, List.length_cons, List.length_nil, List.replicate, List.cons_append, List.nil_append, List.append_nil, List.getElem?_cons_zero, List.getElem?_cons_succ, List.set_cons_zero, List.set_cons_succ, Nat.reduceSub, Nat.reduceAdd, Nat.add_zero, Nat.zero_add, Option.some.injEq, V.int.injEq, V.bl.injEq, V.str.injEq, V.ref.injEq, List.cons.injEq, and_true, true_and, exists_eq_left, exists_eq_left', exists_and_left, exists_eq, exists_eq', reduceCtorEq, false_and, Bool.false_eq_true, if_true, if_false, ite_true, ite_false, decide_eq_true_eq, one_len, one_get, S_eq, S_len, and_assoc, Int.natCast_inj, upd_same, upd_upd, HO.ins.injEq, List.zip_cons_cons, List.zip_nil_left, List.zip_nil_right, tFld, tMake, spInit, ha]
    refine ⟨T.cl_Amount, T.n_Amount_over, _, rfl, _, rfl, T.cl_Amount, T.n_Amount_under, _, rfl, T.cl_Amount, T.n_Amount_measure, _, rfl, fun x dx hx hdx hne => ?_⟩
    exact k x _ (same_make hx hdx) ⟨dx, upd_same⟩
end
end M

set_option Elab.async false
set_option linter.all false
set_option maxRecDepth 100000
set_option maxHeartbeats 2000000
namespace M
open PySem PySem.Spec PyProof.Rows L2 TL
section
variable {P : Program} {w : World} {K : PySem.W.Frag} {mg : Str → Option Value} {base : Heap}
/-! ### scan -/
theorem ok_Fault (T : TX K mg) : FnOk P w K mg base CX0 1 T.f_Fault___init__ T.d_Fault___init__ ["self", "kind", "place"] (spFaultInit T.C_Fault) := by
  refine T.F_Fault___init__.ok sc_Fault___init__ (fun vs H Q E h => ?_) (fun cdv A outer s H vs Q E hr h => ?_)
  · obtain ⟨p, k, q, rfl, _⟩ := h
    rfl
  · obtain ⟨p, k, q, rfl, hp, kk⟩ := h
    refine ⟨_, (pss_cons (ps_fldX0 (pv 0) (pv 1) rfl)
      (pss_one (ps_fldX1 (pv 0) (pv 2) rfl))), ?_⟩
    simp only [tRet, tRetN, tSeq, tNext, tChain, tC, tVar, tOp, tUn, rI0, rI, rU, tTest, tB, tIfS, tIf, tAnd, tOr, tNot, tAndV, tOrV, tNotV, tAsg, gName, tCB, tCons, tNil, tCall, tDrop, tAug, ipI, tSl, tPart, tNoPart, tM0, tM1, rEq, rNe, tIsN, tNotN, scal_ii, scal_ss, scal_bb, rIxS, rIxL, rIxT, rAll, rMax, rSum, rSlL, rSlS, rIn, tLst, tTup, iStr, iList, iTup, tYes, cx_K, cx_P, cx_w, cx_mg, cx_base, cx_N, wipe, L2.start, List.map_cons, List.map_nil, List.length_cons, List.length_nil, List.replicate, List.cons_append, List.nil_append, List.append_nil, List.getElem?_cons_zero, List.getElem?_cons_succ, List.set_cons_zero, List.set_cons_succ, Nat.reduceSub, Nat.reduceAdd, Nat.add_zero, Nat.zero_add, Option.some.injEq, V.int.injEq, V.bl.injEq, V.str.injEq, V.ref.injEq, List.cons.injEq, and_true, true_and, exists_eq_left, exists_eq_left', exists_and_left, exists_eq, exists_eq', reduceCtorEq, false_and, Bool.false_eq_true, if_true, if_false, ite_true, ite_false, decide_eq_true_eq, one_len, one_get, S_eq, S_len, and_assoc, Int.natCast_inj, upd_same, upd_upd, HO.ins.injEq, List.zip_cons_cons, List.zip_nil_left, List.zip_nil_right, sFldX0, sFldX1]
    refine ⟨_, hp, _, T.X_Fault, T.n_Fault_kind, fun dx hdx hne => ⟨_, _, _, rfl, _, (by rw [upd_ne hne]; exact upd_same), T.X_Fault, T.n_Fault_place, (by show 1 < 1000; decide), ?_⟩⟩
    have e : upd (upd (upd H dx (XDic dx [(Str.ofString "kind", k)])) p (XNew T.C_Fault p (some dx))) dx (XDic dx (putF (Str.ofString "place") q [(Str.ofString "kind", k)])) = upd (upd H dx (XDic dx [("kind", k), ("place", q)])) p (XNew T.C_Fault p (some dx)) := by
      rw [upd_swap (fun z => hne z.symm), upd_upd]
      rfl
    rw [e]
    exact kk dx hdx hne
theorem ok_Token (T : TX K mg) : FnOk P w K mg base CX0 1 T.f_Token___init__ T.d_Token___init__ ["self", "group", "kind", "begin", "end", "content"] (spInit T.C_Token ["group", "kind", "begin", "end", "content"]) := by
  refine T.F_Token___init__.ok sc_Token___init__ (fun vs H Q E h => ?_) (fun cdv A outer s H vs Q E hr h => ?_)
  · obtain ⟨p, dx, args, rfl, hl, _⟩ := h
    simp only [List.length_cons, List.length_nil] at hl ⊢
    rw [hl]
  · obtain ⟨p, dx, args, rfl, hl, hp, k⟩ := h
    match args, hl, k with
    | [a, b, c, d, e], _, k =>
      refine ⟨_, (pss_cons (ps_fld (pv 0) (pv 1) rfl)
      (pss_cons (ps_fld (pv 0) (pv 2) rfl)
      (pss_cons (ps_fld (pv 0) (pv 3) rfl)
      (pss_cons (ps_fld (pv 0) (pv 4) rfl)
      (pss_one (ps_fld (pv 0) (pv 5) rfl)))))), ?_⟩
      simp only [tRet, tRetN, tSeq, tNext, tChain, tC, tVar, tOp, tUn, rI0, rI, rU, tTest, tB, tIfS, tIf, tAnd, tOr, tNot, tAndV, tOrV, tNotV, tAsg, gName, tCB, tCons, tNil, tCall, tDrop, tAug, ipI, tSl, tPart, tNoPart, tM0, tM1, rEq, rNe, tIsN, tNotN, scal_ii, scal_ss, scal_bb, rIxS, rIxL, rIxT, rAll, rMax, rSum, rSlL, rSlS, rIn, tLst, tTup, iStr, iList, iTup, tYes, cx_K, cx_P, cx_w, cx_mg, cx_base, cx_N, wipe, L2.start, List.map_cons, List.map_nil, List.length_cons, List.length_nil, List.replicate, List.cons_append, List.nil_append, List.append_nil, List.getElem?_cons_zero, List.getElem?_cons_succ, List.set_cons_zero, List.set_cons_succ, Nat.reduceSub, Nat.reduceAdd, Nat.add_zero, Nat.zero_add, Option.some.injEq, V.int.injEq, V.bl.injEq, V.str.injEq, V.ref.injEq, List.cons.injEq, and_true, true_and, exists_eq_left, exists_eq_left', exists_and_left, exists_eq, exists_eq', reduceCtorEq, false_and, Bool.false_eq_true, if_true, if_false, ite_true, ite_false, decide_eq_true_eq, one_len, one_get, S_eq, S_len, and_assoc, Int.natCast_inj, upd_same, upd_upd, HO.ins.injEq, List.zip_cons_cons, List.zip_nil_left, List.zip_nil_right, sFld]
      refine ⟨_, _, _, hp, T.cl_Token, T.n_Token_group, few0, T.cl_Token, T.n_Token_kind, few1, T.cl_Token, T.n_Token_begin, few2, T.cl_Token, T.n_Token_end, few3, T.cl_Token, T.n_Token_content, few4, ?_⟩
      exact k
def spCommentEnd (C : Addr) (K : PySem.W.Frag) : Sp := fun vs H Q E => ∃ (a : Addr) (t : List Nat) (p : Nat) (r : List Nat), vs = [.ref a, .int (p : Int)] ∧ SqL K H a (bs t) ∧ t.drop p = 123 :: r ∧
  RES C H Q E (match r.dropWhile Vaunid.inComment with | [] => Vaunid.fault 2 p | 125 :: s => (.ok (p + (r.takeWhile Vaunid.inComment).length + 2) : Vaunid.Res Nat) | _ => Vaunid.fault 1 (p + 1 + (r.takeWhile Vaunid.inComment).length)) (fun n v _ => v = .int (n : Int))
theorem ok_comment_end (T : TX K mg) : FnOk P w K mg base (CX1 P w) 4 T.f_comment_end T.d_comment_end ["text", "begin"] (spCommentEnd T.C_Fault K) := by
  have G_Fault := ok_Fault (P := P) (w := w) (base := base) T
  have G_run_end := ok_run_end (P := P) (w := w) (base := base) T
  have G_is_in_comment := ok_is_in_comment (P := P) (w := w) (base := base) T
  have PD : PredF P w K mg base 2 T.f_is_in_comment Vaunid.inComment := ⟨_, _, G_is_in_comment.mono (by decide), T.F_is_in_comment.b, T.F_is_in_comment.fn.kp⟩
  refine T.F_comment_end.fn.okX sc_comment_end (fun vs H Q E h => ?_) (fun cdv A outer s H vs Q E hr h => ?_)
  · obtain ⟨a, t, p, r, rfl, _⟩ := h
    rfl
  · obtain ⟨a, t, p, r, rfl, ht, hr2, k⟩ := h
    refine ⟨_, (pss_cons (ps_set (i := 2) (sc_comment_end).nd rfl (Or.inl rfl) (pe_call G_run_end (hr.mono (by decide)) rfl T.F_run_end.mg T.F_run_end.fn.kp T.F_run_end.b .nil pass0 (pa_cons (pv 0) (pa_cons (pv 1) (pa_cons (pe_r T.F_is_in_comment.mg) pa_nil)))))
      (pss_cons (ps_if (pt_cmpR op_eq (pv 2) (pe_callB call_len_seq rfl T.b_len PySem.boot_len (pa_cons (pv 0) pa_nil)) (nomark _)) (pss_one (ps_raise T.X_Fault G_Fault (hr.mono (by decide)) rfl T.G_Fault T.b_Fault___init__ raises_cx rfl (pa_cons pe_int (pa_cons (pv 1) pa_nil)))) pss_nil)
      (pss_cons (ps_if (pt_cmpR op_ne (pe_ix ix_list (pv 0) (pv 2) (fun _ _ => rfl)) (pe_g T.g_COMMENT_END) (nomark _)) (pss_one (ps_raise T.X_Fault G_Fault (hr.mono (by decide)) rfl T.G_Fault T.b_Fault___init__ raises_cx rfl (pa_cons pe_int (pa_cons (pv 2) pa_nil)))) pss_nil)
      (pss_one (ps_ret (pe_op op_add (pv 2) pe_int)))))), ?_⟩
    simp only [tRet, tRetN, tSeq, tNext, tChain, tC, tVar, tOp, tUn, rI0, rI, rU, tTest, tB, tIfS, tIf, tAnd, tOr, tNot, tAndV, tOrV, tNotV, tAsg, gName, tCB, tCons, tNil, tCall, tDrop, tAug, ipI, tSl, tPart, tNoPart, tM0, tM1, rEq, rNe, tIsN, tNotN, scal_ii, scal_ss, scal_bb, rIxS, rIxL, rIxT, rAll, rMax, rSum, rSlL, rSlS, rIn, tLst, tTup, iStr, iList, iTup, tYes, cx_K, cx_P, cx_w, cx_mg, cx_base, cx_N, wipe, L2.start, List.map_cons, List.map_nil, List.length_cons, List.length_nil, List.replicate, List.cons_append, List.nil_append, List.append_nil, List.getElem?_cons_zero, List.getElem?_cons_succ, List.set_cons_zero, List.set_cons_succ, Nat.reduceSub, Nat.reduceAdd, Nat.add_zero, Nat.zero_add, Option.some.injEq, V.int.injEq, V.bl.injEq, V.str.injEq, V.ref.injEq, List.cons.injEq, and_true, true_and, exists_eq_left, exists_eq_left', exists_and_left, exists_eq, exists_eq', reduceCtorEq, false_and, Bool.false_eq_true, if_true, if_false, ite_true, ite_false, decide_eq_true_eq, one_len, one_get, S_eq, S_len, and_assoc, Int.natCast_inj, upd_same, upd_upd, HO.ins.injEq, List.zip_cons_cons, List.zip_nil_left, List.zip_nil_right, spRun, sRaise]
    have e1 : (t.drop p).takeWhile Vaunid.inComment = 123 :: r.takeWhile Vaunid.inComment := by rw [hr2]; rfl
    have hp := lt_of_drop hr2
    have hlen := drop_len hr2 (Nat.le_of_lt hp)
    rw [List.length_cons] at hlen
    have hd : t.drop (p + ((r.takeWhile Vaunid.inComment).length + 1)) = r.dropWhile Vaunid.inComment := by rw [drop_more hr2, List.drop_succ_cons, dw_drop]
    have htw := tw_le Vaunid.inComment r
    refine ⟨t, ht, Vaunid.inComment, PD, bs t, .inl ht, ?_⟩
    rw [e1, List.length_cons, bs_len]
    cases q : r.dropWhile Vaunid.inComment with
    | nil =>
      rw [q] at hd k
      have hm : ¬ p + ((r.takeWhile Vaunid.inComment).length + 1) < t.length := fun z => by
        have := List.length_drop (l := t) (i := p + ((r.takeWhile Vaunid.inComment).length + 1))
        rw [hd] at this
        simp at this
        omega
      rw [if_pos (by omega)]
      exact ⟨by decide, raise_of k⟩
    | cons d s2 =>
      rw [q] at hd k
      have hg := get_drop hd
      have hlt := lt_of_drop hd
      rw [if_neg (by omega)]
      refine ⟨bs t, ht, _, atI_nat (bs_get hg), rfl, ?_⟩
      by_cases h125 : d = 125
      · subst h125
        refine iteNS rfl ?_
        refine k _ H (Same.refl H) ?_
        show V.int _ = V.int _
        congr 1
      · have hne : ¬ V.int (d : Int) = V.int 125 := fun z => h125 (by injection z with z; omega)
        rw [decide_eq_false hne]
        have k' : ExF T.C_Fault E H 1 ((p + ((r.takeWhile Vaunid.inComment).length + 1) : Nat) : Int) := by
          have e2 : p + 1 + (r.takeWhile Vaunid.inComment).length = p + ((r.takeWhile Vaunid.inComment).length + 1) := by omega
          rw [← e2]
          split at k
          · rename_i z; cases z
          · rename_i z; cases z; exact absurd rfl h125
          · exact k
        exact iteT ⟨by decide, raise_of k'⟩
def spGap (core : Bool) (C : Addr) (K : PySem.W.Frag) : Sp := fun vs H Q E => ∃ (a : Addr) (t : List Nat) (p : Nat), vs = [.ref a, .int (p : Int)] ∧ SqL K H a (bs t) ∧ p ≤ t.length ∧ RES C H Q E (gapT core p (t.drop p)) (fun x v _ => v = .int (x.1 : Int))
theorem ok_surface_gap_end (T : TX K mg) : FnOk P w K mg base (CX1 P w) 5 T.f_surface_gap_end T.d_surface_gap_end ["text", "place"] (spGap false T.C_Fault K) := by
  have G_run_end := ok_run_end (P := P) (w := w) (base := base) T
  have G_comment_end := ok_comment_end (P := P) (w := w) (base := base) T
  have G_is_space := ok_is_space (P := P) (w := w) (base := base) T
  have PD : PredF P w K mg base 2 T.f_is_space (fun c => c == 32 || c == 10) := ⟨_, _, G_is_space.mono (by decide), T.F_is_space.b, T.F_is_space.fn.kp⟩
  refine T.F_surface_gap_end.fn.okX sc_surface_gap_end (fun vs H Q E h => ?_) (fun cdv A outer s H vs Q E hr h => ?_)
  · obtain ⟨a, t, p, rfl, _⟩ := h
    rfl
  · obtain ⟨a, t, p, rfl, ht, hp, k⟩ := h
    refine ⟨_, (pss_cons (ps_set (i := 2) (sc_surface_gap_end).nd rfl (Or.inl rfl) (pe_call G_run_end (hr.mono (by decide)) rfl T.F_run_end.mg T.F_run_end.fn.kp T.F_run_end.b .nil pass0 (pa_cons (pv 0) (pa_cons (pv 1) (pa_cons (pe_r T.F_is_space.mg) pa_nil)))))
      (pss_cons (ps_while own_cx (PW.pt (pw_and (pt_cmpR op_lt (pv 2) (pe_callB call_len_seq rfl T.b_len PySem.boot_len (pa_cons (pv 0) pa_nil)) (nomark _)) (pw_and1 (pt_cmpR op_eq (pe_ix ix_list (pv 0) (pv 2) (fun _ _ => rfl)) (pe_g T.g_COMMENT_BEGIN) (nomark _))))) (pss_one (ps_set (i := 2) (sc_surface_gap_end).nd rfl (Or.inl rfl) (pe_call G_run_end (hr.mono (by decide)) rfl T.F_run_end.mg T.F_run_end.fn.kp T.F_run_end.b .nil pass0 (pa_cons (pv 0) (pa_cons (pe_call G_comment_end (hr.mono (by decide)) rfl T.F_comment_end.mg T.F_comment_end.fn.kp T.F_comment_end.b .nil passes_cx (pa_cons (pv 0) (pa_cons (pv 2) pa_nil))) (pa_cons (pe_r T.F_is_space.mg) pa_nil)))))))
      (pss_one (ps_ret (pv 2))))), ?_⟩
    simp only [tRet, tRetN, tSeq, tNext, tChain, tC, tVar, tOp, tUn, rI0, rI, rU, tTest, tB, tIfS, tIf, tAnd, tOr, tNot, tAndV, tOrV, tNotV, tAsg, gName, tCB, tCons, tNil, tCall, tDrop, tAug, ipI, tSl, tPart, tNoPart, tM0, tM1, rEq, rNe, tIsN, tNotN, scal_ii, scal_ss, scal_bb, rIxS, rIxL, rIxT, rAll, rMax, rSum, rSlL, rSlS, rIn, tLst, tTup, iStr, iList, iTup, tYes, cx_K, cx_P, cx_w, cx_mg, cx_base, cx_N, wipe, L2.start, List.map_cons, List.map_nil, List.length_cons, List.length_nil, List.replicate, List.cons_append, List.nil_append, List.append_nil, List.getElem?_cons_zero, List.getElem?_cons_succ, List.set_cons_zero, List.set_cons_succ, Nat.reduceSub, Nat.reduceAdd, Nat.add_zero, Nat.zero_add, Option.some.injEq, V.int.injEq, V.bl.injEq, V.str.injEq, V.ref.injEq, List.cons.injEq, and_true, true_and, exists_eq_left, exists_eq_left', exists_and_left, exists_eq, exists_eq', reduceCtorEq, false_and, Bool.false_eq_true, if_true, if_false, ite_true, ite_false, decide_eq_true_eq, one_len, one_get, S_eq, S_len, and_assoc, Int.natCast_inj, upd_same, upd_upd, HO.ins.injEq, List.zip_cons_cons, List.zip_nil_left, List.zip_nil_right, spRun]
    refine ⟨t, ht, _, PD, ?_⟩
    obtain ⟨Pv, hPv⟩ : ∃ Pv : Nat → L2.St → Hp → Prop, Pv = fun m σ H' => Same H H' ∧ ∃ e : Nat, m = t.length - e ∧ e ≤ t.length ∧ σ = [some (.ref a), some (.int (p : Int)), some (.int (e : Int))] ∧ gapT false p (t.drop p) = gapT false e (t.drop e) ∧
      ∀ c r, t.drop e = c :: r → (c == 32 || c == 10) = false := ⟨_, rfl⟩
    have hk0 : p + ((t.drop p).takeWhile fun c => c == 32 || c == 10).length ≤ t.length := by
      have := tw_le (fun c => c == 32 || c == 10) (t.drop p)
      rw [List.length_drop] at this
      omega
    refine while_m Pv _ (by rw [hPv]; exact ⟨Same.refl H, _, rfl, hk0, rfl, by rw [gap_spaces (t.drop p) p, List.drop_drop], fun c r e => by rw [← List.drop_drop] at e; exact head_drop _ _ e⟩) fun m σ H' hp2 => ?_
    rw [hPv] at hp2
    obtain ⟨sm, e, rfl, he, rfl, hg, hh⟩ := hp2
    have ht' := sm.seq ht
    simp only [tRet, tRetN, tSeq, tNext, tChain, tC, tVar, tOp, tUn, rI0, rI, rU, tTest, tB, tIfS, tIf, tAnd, tOr, tNot, tAndV, tOrV, tNotV, tAsg, gName, tCB, tCons, tNil, tCall, tDrop, tAug, ipI, tSl, tPart, tNoPart, tM0, tM1, rEq, rNe, tIsN, tNotN, scal_ii, scal_ss, scal_bb, rIxS, rIxL, rIxT, rAll, rMax, rSum, rSlL, rSlS, rIn, tLst, tTup, iStr, iList, iTup, tYes, cx_K, cx_P, cx_w, cx_mg, cx_base, cx_N, wipe, L2.start, List.map_cons, List.map_nil, List.length_cons, List.length_nil, List.replicate, List.cons_append, List.nil_append, List.append_nil, List.getElem?_cons_zero, List.getElem?_cons_succ, List.set_cons_zero, List.set_cons_succ, Nat.reduceSub, Nat.reduceAdd, Nat.add_zero, Nat.zero_add, Option.some.injEq, V.int.injEq, V.bl.injEq, V.str.injEq, V.ref.injEq, List.cons.injEq, and_true, true_and, exists_eq_left, exists_eq_left', exists_and_left, exists_eq, exists_eq', reduceCtorEq, false_and, Bool.false_eq_true, if_true, if_false, ite_true, ite_false, decide_eq_true_eq, one_len, one_get, S_eq, S_len, and_assoc, Int.natCast_inj, upd_same, upd_upd, HO.ins.injEq, List.zip_cons_cons, List.zip_nil_left, List.zip_nil_right]
    refine ⟨bs t, .inl ht', ?_⟩
    rw [bs_len]
    have fin : (∀ c r, t.drop e = c :: r → c ≠ 123) → Q (V.int (e : Int)) H' := fun h123 => by
      rw [hg] at k
      cases q : t.drop e with
      | nil => rw [q] at k; exact k _ H' sm rfl
      | cons c r =>
        have h1 := hh c r q
        have h2 := h123 c r q
        rw [q, gapT_other (by simpa using h1) (by simpa using h2)] at k
        exact k _ H' sm rfl
    refine ite2 (fun hlt => ?_) fun hlt => fin fun c r q => absurd (lt_of_drop q) (by omega)
    have hlt' : e < t.length := by omega
    have hg1 : t[e]? = some t[e] := List.getElem?_eq_getElem hlt'
    have hd1 := drop_at hg1
    generalize t[e] = c at hg1 hd1
    refine ⟨bs t, ht', _, atI_nat (bs_get hg1), rfl, ite2 (fun h => ?_) fun h => fin fun c' r q => ?_⟩
    · have hc : c = 123 := by injection h with h; omega
      subst hc
      refine ⟨_, fun _ _ z => z, _, t, e, _, rfl, ht', hd1, ?_⟩
      rw [hg, hd1, gapT_comment] at k
      generalize hr : t.drop (e + 1) = r at k hd1 ⊢
      cases q : r.dropWhile Vaunid.inComment with
      | nil =>
        rw [q] at k
        exact ExF.mono k sm
      | cons d s2 =>
        by_cases h125 : d = 125
        · subst h125
          rintro v H2 s2' rfl
          have hd2 : t.drop (e + (r.takeWhile Vaunid.inComment).length + 2) = s2 := by
            have : t.drop (e + ((r.takeWhile Vaunid.inComment).length + 2)) = s2 := by
              rw [drop_more hd1, List.drop_succ_cons]
              rw [dw_drop] at q
              exact drop_more q 1
            rw [← this]
            congr 1
          have ht2 := s2'.seq ht'
          simp only [tRet, tRetN, tSeq, tNext, tChain, tC, tVar, tOp, tUn, rI0, rI, rU, tTest, tB, tIfS, tIf, tAnd, tOr, tNot, tAndV, tOrV, tNotV, tAsg, gName, tCB, tCons, tNil, tCall, tDrop, tAug, ipI, tSl, tPart, tNoPart, tM0, tM1, rEq, rNe, tIsN, tNotN, scal_ii, scal_ss, scal_bb, rIxS, rIxL, rIxT, rAll, rMax, rSum, rSlL, rSlS, rIn, tLst, tTup, iStr, iList, iTup, tYes, cx_K, cx_P, cx_w, cx_mg, cx_base, cx_N, wipe, L2.start, List.map_cons, List.map_nil, List.length_cons, List.length_nil, List.replicate, List.cons_append, List.nil_append, List.append_nil, List.getElem?_cons_zero, List.getElem?_cons_succ, List.set_cons_zero, List.set_cons_succ, Nat.reduceSub, Nat.reduceAdd, Nat.add_zero, Nat.zero_add, Option.some.injEq, V.int.injEq, V.bl.injEq, V.str.injEq, V.ref.injEq, List.cons.injEq, and_true, true_and, exists_eq_left, exists_eq_left', exists_and_left, exists_eq, exists_eq', reduceCtorEq, false_and, Bool.false_eq_true, if_true, if_false, ite_true, ite_false, decide_eq_true_eq, one_len, one_get, S_eq, S_len, and_assoc, Int.natCast_inj, upd_same, upd_upd, HO.ins.injEq, List.zip_cons_cons, List.zip_nil_left, List.zip_nil_right, spRun]
          refine ⟨t, ht2, _, PD, ?_⟩
          have hle : e + (r.takeWhile Vaunid.inComment).length + 2 ≤ t.length := by
            have h1 := lt_of_drop hd1
            have h2 := drop_len hd1 (Nat.le_of_lt h1)
            have h3 := tw_le Vaunid.inComment r
            have h4 : r.length = (r.takeWhile Vaunid.inComment).length + (s2.length + 1) := by
              rw [dw_drop] at q
              have := congrArg List.length q
              rw [List.length_drop, List.length_cons] at this
              omega
            rw [List.length_cons] at h2
            omega
          have hle2 := tw_le (fun c => c == 32 || c == 10) s2
          have hls := drop_len hd2 hle
          rw [hd2]
          refine ⟨t.length - (e + (r.takeWhile Vaunid.inComment).length + 2 + (s2.takeWhile fun c => c == 32 || c == 10).length), by omega, ?_⟩
          rw [hPv]
          refine ⟨sm.trans s2', _, rfl, by omega, rfl, ?_, fun c r' e' => ?_⟩
          · rw [hg, hd1, gapT_comment, q]
            show gapT false _ s2 = _
            rw [gap_spaces s2, drop_more hd2]
          · rw [drop_more hd2] at e'
            exact head_drop _ _ e'
        · rw [q] at k
          split
          · rename_i z; cases z
          · rename_i z; cases z; exact absurd rfl h125
          · split at k
            · rename_i z; cases z
            · rename_i z; cases z; exact absurd rfl h125
            · exact ExF.mono k sm
    · rw [hd1] at q
      cases q
      intro z
      subst z
      exact h rfl
def spWord (Ca Ct C : Addr) (K : PySem.W.Frag) : Sp := fun vs H Q E => ∃ (a : Addr) (t : List Nat) (p : Nat), vs = [.ref a, .int (p : Int)] ∧ SqL K H a (bs t) ∧ p ≤ t.length ∧ t.length ≤ 10000 ∧
  RES C H Q E (Vaunid.wordToken p (t.drop p)) (fun x v H' => ∃ b, v = .ref b ∧ TokAt Ca Ct H' b x.1)
theorem ok_word_token (T : TX K mg) : FnOk P w K mg base (CX1 P w) 4 T.f_word_token T.d_word_token ["text", "begin"] (spWord T.C_Amount T.C_Token T.C_Fault K) := by
  have G_run_end := ok_run_end (P := P) (w := w) (base := base) T
  have G_Fault := ok_Fault (P := P) (w := w) (base := base) T
  have G_Token := ok_Token (P := P) (w := w) (base := base) T
  have G_signs_of := ok_signs_of (P := P) (w := w) (base := base) T
  have G_is_in_word := ok_is_in_word (P := P) (w := w) (base := base) T
  have PD : PredF P w K mg base 2 T.f_is_in_word Vaunid.inWord := ⟨_, _, G_is_in_word, T.F_is_in_word.b, T.F_is_in_word.fn.kp⟩
  refine T.F_word_token.fn.okX sc_word_token (fun vs H Q E h => ?_) (fun cdv A outer s H vs Q E hr h => ?_)
  · obtain ⟨a, t, p, rfl, _⟩ := h
    rfl
  · obtain ⟨a, t, p, rfl, ht, hp, hl, k⟩ := h
    refine ⟨_, (pss_cons (ps_set (i := 2) (sc_word_token).nd rfl (Or.inl rfl) (pe_call G_run_end (hr.mono (by decide)) rfl T.F_run_end.mg T.F_run_end.fn.kp T.F_run_end.b .nil pass0 (pa_cons (pv 0) (pa_cons (pv 1) (pa_cons (pe_r T.F_is_in_word.mg) pa_nil)))))
      (pss_cons (ps_if (pt_cmpR op_gt (pe_op op_sub (pv 2) (pv 1)) (pe_g T.g_MOST_SIGNS) (nomark _)) (pss_one (ps_raise T.X_Fault G_Fault (hr.mono (by decide)) rfl T.G_Fault T.b_Fault___init__ raises_cx rfl (pa_cons pe_int (pa_cons (pv 1) pa_nil)))) pss_nil)
      (pss_cons (ps_set (i := 3) (sc_word_token).nd rfl (Or.inl rfl) (pe_call G_signs_of (hr.mono (by decide)) rfl T.F_signs_of.mg T.F_signs_of.fn.kp T.F_signs_of.b .nil pass0 (pa_cons (pe_slice sl_list (pv 0) (po_some (pv 1)) (po_some (pv 2))) pa_nil)))
      (pss_cons (ps_set (i := 4) (sc_word_token).nd rfl (Or.inl rfl) (pe_ifExp (pt_cmpR op_in_seq (pv 3) (pe_r T.g_TAKEN_WORDS) rfl) (pv 3) pe_str))
      (pss_one (ps_ret (pe_make T.M_Token G_Token (hr.mono (by decide)) rfl T.G_Token T.b_Token___init__ .nil pass0 (pa_cons (pe_g T.g_WORD_GROUP) (pa_cons (pv 4) (pa_cons (pv 1) (pa_cons (pv 2) (pa_cons (pv 3) pa_nil)))))))))))), ?_⟩
    simp only [tRet, tRetN, tSeq, tNext, tChain, tC, tVar, tOp, tUn, rI0, rI, rU, tTest, tB, tIfS, tIf, tAnd, tOr, tNot, tAndV, tOrV, tNotV, tAsg, gName, tCB, tCons, tNil, tCall, tDrop, tAug, ipI, tSl, tPart, tNoPart, tM0, tM1, rEq, rNe, tIsN, tNotN, scal_ii, scal_ss, scal_bb, rIxS, rIxL, rIxT, rAll, rMax, rSum, rSlL, rSlS, rIn, tLst, tTup, iStr, iList, iTup, tYes, cx_K, cx_P, cx_w, cx_mg, cx_base, cx_N, wipe, L2.start, List.map_cons, List.map_nil, List.length_cons, List.length_nil, List.replicate, List.cons_append, List.nil_append, List.append_nil, List.getElem?_cons_zero, List.getElem?_cons_succ, List.set_cons_zero, List.set_cons_succ, Nat.reduceSub, Nat.reduceAdd, Nat.add_zero, Nat.zero_add, Option.some.injEq, V.int.injEq, V.bl.injEq, V.str.injEq, V.ref.injEq, List.cons.injEq, and_true, true_and, exists_eq_left, exists_eq_left', exists_and_left, exists_eq, exists_eq', reduceCtorEq, false_and, Bool.false_eq_true, if_true, if_false, ite_true, ite_false, decide_eq_true_eq, one_len, one_get, S_eq, S_len, and_assoc, Int.natCast_inj, upd_same, upd_upd, HO.ins.injEq, List.zip_cons_cons, List.zip_nil_left, List.zip_nil_right, spRun, sRaise, spSigns]
    refine ⟨t, ht, _, PD, ?_⟩
    unfold Vaunid.wordToken at k
    dsimp only at k
    have hw := tw_all (p := Vaunid.inWord) (t.drop p)
    have htk := tw_take Vaunid.inWord (t.drop p)
    have hle := tw_le Vaunid.inWord (t.drop p)
    rw [List.length_drop] at hle
    generalize (t.drop p).takeWhile Vaunid.inWord = wd at k hw htk hle ⊢
    refine ite2 (fun h => ?_) fun h => ⟨bs t, ht, fun q hq => ?_⟩
    · rw [if_pos (show Vaunid.MOSTSIGNS < wd.length by show 12 < _; omega)] at k
      exact ⟨by decide, raise_of k⟩
    · rw [if_neg (show ¬ Vaunid.MOSTSIGNS < wd.length by show ¬ 12 < _; omega)] at k
      rw [cutV_nat2 t p _ hp, Nat.add_sub_cancel_left, htk]
      refine ⟨wd, SqL.of upd_same, by omega, fun H' sm => ⟨_, .inr (T.t_TAKEN_WORDS H'), rfl, rfl, ?_⟩⟩
      rw [taken_vals, map_word hw, in_S, ← taken_iff]
      have sm2 : Same H H' := (Same.upd hq).trans sm
      refine ite_bool (fun r => ?_) fun r => ?_
      · simp only [tRet, tRetN, tSeq, tNext, tChain, tC, tVar, tOp, tUn, rI0, rI, rU, tTest, tB, tIfS, tIf, tAnd, tOr, tNot, tAndV, tOrV, tNotV, tAsg, gName, tCB, tCons, tNil, tCall, tDrop, tAug, ipI, tSl, tPart, tNoPart, tM0, tM1, rEq, rNe, tIsN, tNotN, scal_ii, scal_ss, scal_bb, rIxS, rIxL, rIxT, rAll, rMax, rSum, rSlL, rSlS, rIn, tLst, tTup, iStr, iList, iTup, tYes, cx_K, cx_P, cx_w, cx_mg, cx_base, cx_N, wipe, L2.start, List.map_cons, List.map_nil, List.length_cons, List.length_nil, List.replicate, List.cons_append, List.nil_append, List.append_nil, List.getElem?_cons_zero, List.getElem?_cons_succ, List.set_cons_zero, List.set_cons_succ, Nat.reduceSub, Nat.reduceAdd, Nat.add_zero, Nat.zero_add, Option.some.injEq, V.int.injEq, V.bl.injEq, V.str.injEq, V.ref.injEq, List.cons.injEq, and_true, true_and, exists_eq_left, exists_eq_left', exists_and_left, exists_eq, exists_eq', reduceCtorEq, false_and, Bool.false_eq_true, if_true, if_false, ite_true, ite_false, decide_eq_true_eq, one_len, one_get, S_eq, S_len, and_assoc, Int.natCast_inj, upd_same, upd_upd, HO.ins.injEq, List.zip_cons_cons, List.zip_nil_left, List.zip_nil_right, tMake, spInit]
        intro x dx hx hdx hne
        refine k _ _ (sm2.trans (same_make hx hdx)) ⟨x, rfl, dx, .str (S wd), ?_, rfl⟩
        rw [upd_same]
        have hk : kindOf (.word wd) = wd := if_pos r
        show _ = some (HO.ins T.C_Token dx (tokFs 0 (S (kindOf (.word wd))) _ _ _))
        rw [hk]
        rfl
      · simp only [tRet, tRetN, tSeq, tNext, tChain, tC, tVar, tOp, tUn, rI0, rI, rU, tTest, tB, tIfS, tIf, tAnd, tOr, tNot, tAndV, tOrV, tNotV, tAsg, gName, tCB, tCons, tNil, tCall, tDrop, tAug, ipI, tSl, tPart, tNoPart, tM0, tM1, rEq, rNe, tIsN, tNotN, scal_ii, scal_ss, scal_bb, rIxS, rIxL, rIxT, rAll, rMax, rSum, rSlL, rSlS, rIn, tLst, tTup, iStr, iList, iTup, tYes, cx_K, cx_P, cx_w, cx_mg, cx_base, cx_N, wipe, L2.start, List.map_cons, List.map_nil, List.length_cons, List.length_nil, List.replicate, List.cons_append, List.nil_append, List.append_nil, List.getElem?_cons_zero, List.getElem?_cons_succ, List.set_cons_zero, List.set_cons_succ, Nat.reduceSub, Nat.reduceAdd, Nat.add_zero, Nat.zero_add, Option.some.injEq, V.int.injEq, V.bl.injEq, V.str.injEq, V.ref.injEq, List.cons.injEq, and_true, true_and, exists_eq_left, exists_eq_left', exists_and_left, exists_eq, exists_eq', reduceCtorEq, false_and, Bool.false_eq_true, if_true, if_false, ite_true, ite_false, decide_eq_true_eq, one_len, one_get, S_eq, S_len, and_assoc, Int.natCast_inj, upd_same, upd_upd, HO.ins.injEq, List.zip_cons_cons, List.zip_nil_left, List.zip_nil_right, tMake, spInit]
        intro x dx hx hdx hne
        refine k _ _ (sm2.trans (same_make hx hdx)) ⟨x, rfl, dx, .str (S wd), ?_, rfl⟩
        rw [upd_same]
        have hk : kindOf (.word wd) = Vaunid.txt "name" := if_neg (by rw [r]; simp)
        show _ = some (HO.ins T.C_Token dx (tokFs 0 (S (kindOf (.word wd))) _ _ _))
        rw [hk, ← ofStr]
        rfl
def spMeasureAt (C : Addr) (K : PySem.W.Frag) : Sp := fun vs H Q E => ∃ (a : Addr) (t : List Nat) (p : Nat) (r : List Nat), vs = [.ref a, .int (p : Int)] ∧ SqL K H a (bs t) ∧ t.drop p = 91 :: r ∧ t.length ≤ 10000 ∧
  RES C H Q E (if (r.takeWhile fun c => c != 93).length = r.length ∨ Vaunid.measureText ((r.takeWhile fun c => c != 93).length + 1) (r.takeWhile fun c => c != 93) = false then Vaunid.fault 5 p else (.ok (r.takeWhile fun c => c != 93) : Vaunid.Res (List Nat))) (fun m v _ => v = .str (S m))
theorem ok_measure_at (T : TX K mg) : FnOk P w K mg base (CX1 P w) 6 T.f_measure_at T.d_measure_at ["text", "begin"] (spMeasureAt T.C_Fault K) := by
  have G_run_end := ok_run_end (P := P) (w := w) (base := base) T
  have G_Fault := ok_Fault (P := P) (w := w) (base := base) T
  have G_signs_of := ok_signs_of (P := P) (w := w) (base := base) T
  have G_is_measure := ok_is_measure (P := P) (w := w) (base := base) T
  have G_is_before_measure_end := ok_is_before_measure_end (P := P) (w := w) (base := base) T
  have PD : PredF P w K mg base 2 T.f_is_before_measure_end (fun c => c != 93) := ⟨_, _, G_is_before_measure_end.mono (by decide), T.F_is_before_measure_end.b, T.F_is_before_measure_end.fn.kp⟩
  refine T.F_measure_at.fn.okX sc_measure_at (fun vs H Q E h => ?_) (fun cdv A outer s H vs Q E hr h => ?_)
  · obtain ⟨a, t, p, r, rfl, _⟩ := h
    rfl
  · obtain ⟨a, t, p, r, rfl, ht, hd, hl, k⟩ := h
    refine ⟨_, (pss_cons (ps_set (i := 2) (sc_measure_at).nd rfl (Or.inl rfl) (pe_call G_run_end (hr.mono (by decide)) rfl T.F_run_end.mg T.F_run_end.fn.kp T.F_run_end.b .nil pass0 (pa_cons (pv 0) (pa_cons (pv 1) (pa_cons (pe_r T.F_is_before_measure_end.mg) pa_nil)))))
      (pss_cons (ps_set (i := 3) (sc_measure_at).nd rfl (Or.inl rfl) (pe_call G_signs_of (hr.mono (by decide)) rfl T.F_signs_of.mg T.F_signs_of.fn.kp T.F_signs_of.b .nil pass0 (pa_cons (pe_slice sl_list (pv 0) (po_some (pe_op op_add (pv 1) pe_int)) (po_some (pv 2))) pa_nil)))
      (pss_cons (ps_if (pw_orP (pt_cmpP op_eq (pv 2) (pe_lenP rfl T.b_len (pv 0)) (nomark _)) (pw_or1T (pt_notT (pt_valT (pe_callT G_is_measure (hr.mono (by decide)) rfl T.F_is_measure.mg T.F_is_measure.fn.kp T.F_is_measure.b pass0 (pa_cons (pv 3) pa_nil))))))
          (pss_one (ps_raise T.X_Fault G_Fault (hr.mono (by decide)) rfl T.G_Fault T.b_Fault___init__ raises_cx rfl (pa_cons pe_int (pa_cons (pv 1) pa_nil)))) pss_nil)
      (pss_one (ps_ret (pv 3)))))), ?_⟩
    simp only [tRet, tRetN, tSeq, tNext, tChain, tC, tVar, tOp, tUn, rI0, rI, rU, tTest, tB, tIfS, tIf, tAnd, tOr, tNot, tAndV, tOrV, tNotV, tAsg, gName, tCB, tCons, tNil, tCall, tDrop, tAug, ipI, tSl, tPart, tNoPart, tM0, tM1, rEq, rNe, tIsN, tNotN, scal_ii, scal_ss, scal_bb, rIxS, rIxL, rIxT, rAll, rMax, rSum, rSlL, rSlS, rIn, tLst, tTup, iStr, iList, iTup, tYes, cx_K, cx_P, cx_w, cx_mg, cx_base, cx_N, wipe, L2.start, List.map_cons, List.map_nil, List.length_cons, List.length_nil, List.replicate, List.cons_append, List.nil_append, List.append_nil, List.getElem?_cons_zero, List.getElem?_cons_succ, List.set_cons_zero, List.set_cons_succ, Nat.reduceSub, Nat.reduceAdd, Nat.add_zero, Nat.zero_add, Option.some.injEq, V.int.injEq, V.bl.injEq, V.str.injEq, V.ref.injEq, List.cons.injEq, and_true, true_and, exists_eq_left, exists_eq_left', exists_and_left, exists_eq, exists_eq', reduceCtorEq, false_and, Bool.false_eq_true, if_true, if_false, ite_true, ite_false, decide_eq_true_eq, one_len, one_get, S_eq, S_len, and_assoc, Int.natCast_inj, upd_same, upd_upd, HO.ins.injEq, List.zip_cons_cons, List.zip_nil_left, List.zip_nil_right, spRun, sRaise, spSigns]
    refine ⟨t, ht, _, PD, bs t, ht, fun q hq => ?_⟩
    have e1 : ((t.drop p).takeWhile fun c => c != 93) = 91 :: r.takeWhile fun c => c != 93 := by rw [hd]; rfl
    have hp := lt_of_drop hd
    have hlen := drop_len hd (Nat.le_of_lt hp)
    rw [List.length_cons] at hlen
    have hm := measure_sgn (r.takeWhile fun c => c != 93)
    have hmm := measure_map (m := r.takeWhile fun c => c != 93)
    have htk := tw_take (fun c => c != 93) r
    have hle := tw_le (fun c => c != 93) r
    rw [e1, List.length_cons]
    generalize (r.takeWhile fun c => c != 93) = m at k hm hmm htk hle ⊢
    have ec : cutV (bs t) (some ((p : Int) + 1)) (some ((p + (m.length + 1) : Nat) : Int)) = bs m := by
      have := cutV_nat2 t (p + 1) (p + (m.length + 1)) (by omega)
      rw [show ((p : Int) + 1) = ((p + 1 : Nat) : Int) by omega, this, show p + (m.length + 1) - (p + 1) = m.length by omega, drop_more hd]
      show bs (r.take m.length) = _
      rw [htk]
    rw [ec]
    refine ⟨m, SqL.of upd_same, by omega, fun H' sm => ?_⟩
    have sm2 : Same H H' := (Same.upd hq).trans sm
    refine ⟨bs t, sm2.seq ht, ?_⟩
    rw [bs_len]
    refine ite2 (fun h => ?_) fun h => ?_
    · rw [if_pos (.inl (by omega))] at k
      exact ⟨by decide, raise_of (ExF.mono k sm2)⟩
    · refine ⟨m.map sgn, rfl, by rw [List.length_map]; omega, fun H2 s2 => ⟨_, rfl, ?_⟩⟩
      rw [hm]
      cases q2 : Vaunid.measureText (m.length + 1) m with
      | false =>
        rw [if_pos (.inr q2)] at k
        exact iteT ⟨by decide, raise_of (ExF.mono k (sm2.trans s2))⟩
      | true =>
        rw [if_neg (fun z => z.elim (by omega) (by rw [q2]; simp))] at k
        refine iteF ?_
        rw [hmm q2]
        exact k _ H2 (sm2.trans s2) rfl
def spSignTok (Ca Ct C : Addr) (K : PySem.W.Frag) : Sp := fun vs H Q E => ∃ (a b : Addr) (t : List Nat) (p : Nat) (L : List (List Nat)), vs = [.ref a, .int (p : Int), .ref b] ∧ SqL K H a (bs t) ∧ p < t.length ∧ t.length ≤ 10000 ∧ GoodSigns L ∧ (∀ H, SqT K H b ((L.map S).map V.str)) ∧
  RES C H Q E (Vaunid.signToken L p (t.drop p)) (fun x v H' => ∃ b, v = .ref b ∧ TokAt Ca Ct H' b x.1)
theorem ok_sign_token (T : TX K mg) : FnOk P w K mg base (CX1 P w) 3 T.f_sign_token T.d_sign_token ["text", "begin", "signs"] (spSignTok T.C_Amount T.C_Token T.C_Fault K) := by
  have G_Fault := ok_Fault (P := P) (w := w) (base := base) T
  have G_Token := ok_Token (P := P) (w := w) (base := base) T
  have G_signs_of := ok_signs_of (P := P) (w := w) (base := base) T
  refine T.F_sign_token.fn.okX sc_sign_token (fun vs H Q E h => ?_) (fun cdv A outer s H vs Q E hr h => ?_)
  · obtain ⟨a, b, t, p, L, rfl, _⟩ := h
    rfl
  · obtain ⟨a, b, t, p, L, rfl, ht, hp, hl, hL, hb, k⟩ := h
    refine ⟨_, (pss_cons (ps_set (i := 3) (sc_sign_token).nd rfl (Or.inl rfl) (pe_call G_signs_of (hr.mono (by decide)) rfl T.F_signs_of.mg T.F_signs_of.fn.kp T.F_signs_of.b .nil pass0 (pa_cons (pe_slice sl_list (pv 0) (po_some (pv 1)) (po_some (pe_op op_add (pv 1) pe_int))) pa_nil)))
      (pss_cons (ps_if (pt_cmpR op_notIn_seq (pv 3) (pv 2) rfl) (pss_one (ps_set (i := 3) (sc_sign_token).nd rfl (Or.inl rfl) (pe_slice sl_str (pv 3) po_none (po_some pe_int)))) pss_nil)
      (pss_cons (ps_if (pt_cmpR op_notIn_seq (pv 3) (pv 2) rfl) (pss_one (ps_raise T.X_Fault G_Fault (hr.mono (by decide)) rfl T.G_Fault T.b_Fault___init__ raises_cx rfl (pa_cons pe_int (pa_cons (pv 1) pa_nil)))) pss_nil)
      (pss_one (ps_ret (pe_make T.M_Token G_Token (hr.mono (by decide)) rfl T.G_Token T.b_Token___init__ .nil pass0 (pa_cons (pe_g T.g_SIGN_GROUP) (pa_cons (pv 3) (pa_cons (pv 1) (pa_cons (pe_op op_add (pv 1) (pe_callB call_len_str rfl T.b_len PySem.boot_len (pa_cons (pv 3) pa_nil))) (pa_cons (pv 3) pa_nil))))))))))), ?_⟩
    simp only [tRet, tRetN, tSeq, tNext, tChain, tC, tVar, tOp, tUn, rI0, rI, rU, tTest, tB, tIfS, tIf, tAnd, tOr, tNot, tAndV, tOrV, tNotV, tAsg, gName, tCB, tCons, tNil, tCall, tDrop, tAug, ipI, tSl, tPart, tNoPart, tM0, tM1, rEq, rNe, tIsN, tNotN, scal_ii, scal_ss, scal_bb, rIxS, rIxL, rIxT, rAll, rMax, rSum, rSlL, rSlS, rIn, tLst, tTup, iStr, iList, iTup, tYes, cx_K, cx_P, cx_w, cx_mg, cx_base, cx_N, wipe, L2.start, List.map_cons, List.map_nil, List.length_cons, List.length_nil, List.replicate, List.cons_append, List.nil_append, List.append_nil, List.getElem?_cons_zero, List.getElem?_cons_succ, List.set_cons_zero, List.set_cons_succ, Nat.reduceSub, Nat.reduceAdd, Nat.add_zero, Nat.zero_add, Option.some.injEq, V.int.injEq, V.bl.injEq, V.str.injEq, V.ref.injEq, List.cons.injEq, and_true, true_and, exists_eq_left, exists_eq_left', exists_and_left, exists_eq, exists_eq', reduceCtorEq, false_and, Bool.false_eq_true, if_true, if_false, ite_true, ite_false, decide_eq_true_eq, one_len, one_get, S_eq, S_len, and_assoc, Int.natCast_inj, upd_same, upd_upd, HO.ins.injEq, List.zip_cons_cons, List.zip_nil_left, List.zip_nil_right, sRaise, spSigns]
    refine ⟨bs t, ht, fun q hq => ?_⟩
    have ec : cutV (bs t) (some (p : Int)) (some ((p : Int) + 2)) = bs ((t.drop p).take 2) := by
      have := cutV_nat2 t p (p + 2) (by omega)
      rw [show ((p : Int) + 2) = ((p + 2 : Nat) : Int) by omega, this, Nat.add_sub_cancel_left]
    rw [ec]
    refine ⟨(t.drop p).take 2, SqL.of upd_same, by rw [List.length_take]; omega, fun H' sm => ?_⟩
    have sm2 : Same H H' := (Same.upd hq).trans sm
    unfold Vaunid.signToken at k
    rw [find_signs hL] at k
    unfold signOf at k
    have et : ((t.drop p).take 2).take 1 = (t.drop p).take 1 := by rw [List.take_take]; rfl
    have ec2 : cutS (S (((t.drop p).take 2).map sgn)) none (some 1) = S (((t.drop p).take 1).map sgn) := by
      have := cut_to (((t.drop p).take 2).map sgn) 1
      rw [← List.map_take, et] at this
      exact this
    have l2 : (((t.drop p).take 2).map sgn).length ≤ sizeLine := by
      rw [List.length_map, List.length_take]
      exact Nat.le_trans (Nat.min_le_left _ _) (by decide)
    rw [ec2]
    have plain : ∀ {x}, x ∈ L → x.map sgn = x := fun hx => map_sgn fun c hc => (hL.plain _ hx c hc).1
    generalize (t.drop p).take 2 = s2 at k l2 ⊢
    generalize (t.drop p).take 1 = s1 at k ⊢
    have inL : ∀ l : List Nat, inV (.str (S (l.map sgn))) ((L.map S).map V.str) = decide (l ∈ L) := fun l => by
      rw [in_S, decide_eq_decide]
      exact mem_sgn hL l
    refine ⟨_, .inr (hb H'), rfl, flat_strs _, ?_⟩
    rw [inL]
    by_cases m2 : s2 ∈ L
    · rw [if_pos m2] at k
      rw [decide_eq_true m2]
      refine iteF ⟨_, .inr (hb H'), rfl, flat_strs _, ?_⟩
      rw [inL, decide_eq_true m2]
      refine iteF ?_
      rw [plain m2]
      simp only [tRet, tRetN, tSeq, tNext, tChain, tC, tVar, tOp, tUn, rI0, rI, rU, tTest, tB, tIfS, tIf, tAnd, tOr, tNot, tAndV, tOrV, tNotV, tAsg, gName, tCB, tCons, tNil, tCall, tDrop, tAug, ipI, tSl, tPart, tNoPart, tM0, tM1, rEq, rNe, tIsN, tNotN, scal_ii, scal_ss, scal_bb, rIxS, rIxL, rIxT, rAll, rMax, rSum, rSlL, rSlS, rIn, tLst, tTup, iStr, iList, iTup, tYes, cx_K, cx_P, cx_w, cx_mg, cx_base, cx_N, wipe, L2.start, List.map_cons, List.map_nil, List.length_cons, List.length_nil, List.replicate, List.cons_append, List.nil_append, List.append_nil, List.getElem?_cons_zero, List.getElem?_cons_succ, List.set_cons_zero, List.set_cons_succ, Nat.reduceSub, Nat.reduceAdd, Nat.add_zero, Nat.zero_add, Option.some.injEq, V.int.injEq, V.bl.injEq, V.str.injEq, V.ref.injEq, List.cons.injEq, and_true, true_and, exists_eq_left, exists_eq_left', exists_and_left, exists_eq, exists_eq', reduceCtorEq, false_and, Bool.false_eq_true, if_true, if_false, ite_true, ite_false, decide_eq_true_eq, one_len, one_get, S_eq, S_len, and_assoc, Int.natCast_inj, upd_same, upd_upd, HO.ins.injEq, List.zip_cons_cons, List.zip_nil_left, List.zip_nil_right, tMake, spInit, call_len_str]
      refine ⟨by rw [← plain m2]; exact l2, fun x dx hx hdx hne => ?_⟩
      refine k _ _ (sm2.trans (same_make hx hdx)) ⟨x, rfl, dx, .str (S s2), ?_, rfl⟩
      rw [upd_same]
      rfl
    · rw [if_neg m2] at k
      rw [decide_eq_false m2]
      refine iteT ⟨l2, _, .inr (hb H'), rfl, flat_strs _, ?_⟩
      rw [inL]
      by_cases m1 : s1 ∈ L
      · rw [if_pos m1] at k
        rw [decide_eq_true m1]
        refine iteF ?_
        rw [plain m1]
        simp only [tRet, tRetN, tSeq, tNext, tChain, tC, tVar, tOp, tUn, rI0, rI, rU, tTest, tB, tIfS, tIf, tAnd, tOr, tNot, tAndV, tOrV, tNotV, tAsg, gName, tCB, tCons, tNil, tCall, tDrop, tAug, ipI, tSl, tPart, tNoPart, tM0, tM1, rEq, rNe, tIsN, tNotN, scal_ii, scal_ss, scal_bb, rIxS, rIxL, rIxT, rAll, rMax, rSum, rSlL, rSlS, rIn, tLst, tTup, iStr, iList, iTup, tYes, cx_K, cx_P, cx_w, cx_mg, cx_base, cx_N, wipe, L2.start, List.map_cons, List.map_nil, List.length_cons, List.length_nil, List.replicate, List.cons_append, List.nil_append, List.append_nil, List.getElem?_cons_zero, List.getElem?_cons_succ, List.set_cons_zero, List.set_cons_succ, Nat.reduceSub, Nat.reduceAdd, Nat.add_zero, Nat.zero_add, Option.some.injEq, V.int.injEq, V.bl.injEq, V.str.injEq, V.ref.injEq, List.cons.injEq, and_true, true_and, exists_eq_left, exists_eq_left', exists_and_left, exists_eq, exists_eq', reduceCtorEq, false_and, Bool.false_eq_true, if_true, if_false, ite_true, ite_false, decide_eq_true_eq, one_len, one_get, S_eq, S_len, and_assoc, Int.natCast_inj, upd_same, upd_upd, HO.ins.injEq, List.zip_cons_cons, List.zip_nil_left, List.zip_nil_right, tMake, spInit, call_len_str]
        refine ⟨?_, fun x dx hx hdx hne => ?_⟩
        · have : s1.length = 1 ∨ s1.length = 2 := by
            obtain ⟨L2, L1, rfl, h2, h1⟩ := hL.parts
            rcases List.mem_append.mp m1 with z | z
            · exact .inr (h2 _ z)
            · exact .inl (h1 _ z)
          exact Nat.le_trans (show s1.length ≤ 2 by omega) (by decide)
        · refine k _ _ (sm2.trans (same_make hx hdx)) ⟨x, rfl, dx, .str (S s1), ?_, rfl⟩
          rw [upd_same]
          rfl
      · rw [if_neg m1] at k
        rw [decide_eq_false m1]
        exact iteT ⟨by decide, raise_of (ExF.mono k sm2)⟩
def spNumTok (Ca Ct C : Addr) (K : PySem.W.Frag) : Sp := fun vs H Q E => ∃ (a : Addr) (t : List Nat) (p d c : Nat) (r : List Nat) (neg : Bool), vs = [.ref a, .int (p : Int), .int (d : Int)] ∧ SqL K H a (bs t) ∧ t.length ≤ 10000 ∧ d = p + (if neg = true then 1 else 0) ∧
  t.drop d = c :: r ∧ Vaunid.isDigit c = true ∧ RES C H Q E (Vaunid.numberToken neg p (t.drop p)) (fun x v H' => ∃ b, v = .ref b ∧ TokAt Ca Ct H' b x.1)
theorem ok_number_token (T : TX K mg) : FnOk P w K mg base (CX1 P w) 7 T.f_number_token T.d_number_token ["text", "begin", "digits"] (spNumTok T.C_Amount T.C_Token T.C_Fault K) := by
  have G_Fault := ok_Fault (P := P) (w := w) (base := base) T
  have G_Token := ok_Token (P := P) (w := w) (base := base) T
  have G_signs_of := ok_signs_of (P := P) (w := w) (base := base) T
  have G_number_end := ok_number_end (P := P) (w := w) (base := base) T
  have G_fraction_of := ok_fraction_of (P := P) (w := w) (base := base) T
  have G_measure_at := ok_measure_at (P := P) (w := w) (base := base) T
  have G_measured := ok_measured (P := P) (w := w) (base := base) T
  have G_negated := ok_negated (P := P) (w := w) (base := base) T
  refine T.F_number_token.fn.okX sc_number_token (fun vs H Q E h => ?_) (fun cdv A outer s H vs Q E hr h => ?_)
  · obtain ⟨a, t, p, d, c, r, neg, rfl, _⟩ := h
    rfl
  · obtain ⟨a, t, p, d, c, r, neg, rfl, ht, hl, hd, hdr, hc, k⟩ := h
    refine ⟨_, (pss_cons (ps_set (i := 3) (sc_number_token).nd rfl (Or.inl rfl) (pe_call G_number_end (hr.mono (by decide)) rfl T.F_number_end.mg T.F_number_end.fn.kp T.F_number_end.b .nil pass0 (pa_cons (pv 0) (pa_cons (pv 2) pa_nil))))
      (pss_cons (ps_set (i := 4) (sc_number_token).nd rfl (Or.inl rfl) (pe_call G_fraction_of (hr.mono (by decide)) rfl T.F_fraction_of.mg T.F_fraction_of.fn.kp T.F_fraction_of.b .nil pass0 (pa_cons (pe_call G_signs_of (hr.mono (by decide)) rfl T.F_signs_of.mg T.F_signs_of.fn.kp T.F_signs_of.b .nil pass0 (pa_cons (pe_slice sl_list (pv 0) (po_some (pv 2)) (po_some (pv 3))) pa_nil)) pa_nil)))
      (pss_cons (ps_if (pt_cmp (pc_isN (pv 4))) (pss_one (ps_raise T.X_Fault G_Fault (hr.mono (by decide)) rfl T.G_Fault T.b_Fault___init__ raises_cx rfl (pa_cons pe_int (pa_cons (pv 1) pa_nil)))) pss_nil)
      (pss_cons (ps_if (PW.pt (pw_and (pt_cmpR op_lt (pv 3) (pe_callB call_len_seq rfl T.b_len PySem.boot_len (pa_cons (pv 0) pa_nil)) (nomark _)) (pw_and1 (pt_cmpR op_eq (pe_ix ix_list (pv 0) (pv 3) (fun _ _ => rfl)) (pe_g T.g_MEASURE_BEGIN) (nomark _))))) (pss_cons (ps_set (i := 5) (sc_number_token).nd rfl (Or.inl rfl) (pe_call G_measure_at (hr.mono (by decide)) rfl T.F_measure_at.mg T.F_measure_at.fn.kp T.F_measure_at.b .nil passes_cx (pa_cons (pv 0) (pa_cons (pv 3) pa_nil))))
      (pss_cons (ps_set (i := 4) (sc_number_token).nd rfl (Or.inl rfl) (pe_call G_measured (hr.mono (by decide)) rfl T.F_measured.mg T.F_measured.fn.kp T.F_measured.b .nil pass0 (pa_cons (pv 4) (pa_cons (pv 5) pa_nil))))
      (pss_one (ps_set (i := 3) (sc_number_token).nd rfl (Or.inl rfl) (pe_op op_add (pe_op op_add (pv 3) (pe_callB call_len_str rfl T.b_len PySem.boot_len (pa_cons (pv 5) pa_nil))) pe_int))))) pss_nil)
      (pss_cons (ps_if (pt_cmpR op_lt (pv 1) (pv 2) (nomark _)) (pss_one (ps_set (i := 4) (sc_number_token).nd rfl (Or.inl rfl) (pe_call G_negated (hr.mono (by decide)) rfl T.F_negated.mg T.F_negated.fn.kp T.F_negated.b .nil pass0 (pa_cons (pv 4) pa_nil)))) pss_nil)
      (pss_cons (ps_set (i := 6) (sc_number_token).nd rfl (Or.inl rfl) (pe_ifExp (pt_cmpR op_eq (pe_op op_sub (pv 3) (pv 2)) pe_int (nomark _)) pe_str pe_str))
      (pss_one (ps_ret (pe_make T.M_Token G_Token (hr.mono (by decide)) rfl T.G_Token T.b_Token___init__ .nil pass0 (pa_cons (pe_g T.g_NUMBER_GROUP) (pa_cons (pv 6) (pa_cons (pv 1) (pa_cons (pv 3) (pa_cons (pv 4) pa_nil)))))))))))))), ?_⟩
    have es : (if neg = true then (t.drop p).drop 1 else t.drop p) = t.drop d := by
      cases neg with
      | false => rw [hd]; rfl
      | true => rw [hd, if_pos rfl, List.drop_drop]; rfl
    unfold Vaunid.numberToken at k
    dsimp only at k
    rw [es] at k
    obtain ⟨hrest, hsz⟩ := num_rest (t.drop d)
    have hpos := num_pos hdr hc
    obtain ⟨b2, c2, sp1, sp2, sp3, sp4⟩ := num_spell (t.drop d)
    have hdlt := lt_of_drop hdr
    generalize hx : Vaunid.numberText (t.drop d) = x at k hrest hsz hpos sp1 sp3
    obtain ⟨n, o, rest⟩ := x
    dsimp only at k hrest hsz hpos sp1 sp3
    rw [List.length_drop] at hsz sp4
    -- end = number_end(text, digits)
    refine seq_mid (fun σ' H' => Same H H' ∧ σ' = [some (.ref a), some (.int (p : Int)), some (.int (d : Int)), some (.int ((d + n : Nat) : Int)), none, none, none]) (fun X hX => ?_) ?_
    · simp only [tRet, tRetN, tSeq, tNext, tChain, tC, tVar, tOp, tUn, rI0, rI, rU, tTest, tB, tIfS, tIf, tAnd, tOr, tNot, tAndV, tOrV, tNotV, tAsg, gName, tCB, tCons, tNil, tCall, tDrop, tAug, ipI, tSl, tPart, tNoPart, tM0, tM1, rEq, rNe, tIsN, tNotN, scal_ii, scal_ss, scal_bb, rIxS, rIxL, rIxT, rAll, rMax, rSum, rSlL, rSlS, rIn, tLst, tTup, iStr, iList, iTup, tYes, cx_K, cx_P, cx_w, cx_mg, cx_base, cx_N, wipe, L2.start, List.map_cons, List.map_nil, List.length_cons, List.length_nil, List.replicate, List.cons_append, List.nil_append, List.append_nil, List.getElem?_cons_zero, List.getElem?_cons_succ, List.set_cons_zero, List.set_cons_succ, Nat.reduceSub, Nat.reduceAdd, Nat.add_zero, Nat.zero_add, Option.some.injEq, V.int.injEq, V.bl.injEq, V.str.injEq, V.ref.injEq, List.cons.injEq, and_true, true_and, exists_eq_left, exists_eq_left', exists_and_left, exists_eq, exists_eq', reduceCtorEq, false_and, Bool.false_eq_true, if_true, if_false, ite_true, ite_false, decide_eq_true_eq, one_len, one_get, S_eq, S_len, and_assoc, Int.natCast_inj, upd_same, upd_upd, HO.ins.injEq, List.zip_cons_cons, List.zip_nil_left, List.zip_nil_right, spNumEnd]
      refine ⟨t, ht, by omega, fun H' sm => ?_⟩
      rw [hx]
      exact hX _ _ ⟨sm, rfl⟩
    rintro σ' H1 ⟨sm1, rfl⟩
    have ht1 := sm1.seq ht
    -- amount = fraction_of(..)
    refine seq_mid (fun σ' H' => Same H H' ∧ ∃ am, σ' = [some (.ref a), some (.int (p : Int)), some (.int (d : Int)), some (.int ((d + n : Nat) : Int)), some am, none, none] ∧ (match o with | none => am = .non | some (tp, lw) => ∃ b, am = .ref b ∧ AmountAt T.C_Amount H' b (tp : Int) (lw : Int) [])) (fun X hX => ?_) ?_
    · simp only [tRet, tRetN, tSeq, tNext, tChain, tC, tVar, tOp, tUn, rI0, rI, rU, tTest, tB, tIfS, tIf, tAnd, tOr, tNot, tAndV, tOrV, tNotV, tAsg, gName, tCB, tCons, tNil, tCall, tDrop, tAug, ipI, tSl, tPart, tNoPart, tM0, tM1, rEq, rNe, tIsN, tNotN, scal_ii, scal_ss, scal_bb, rIxS, rIxL, rIxT, rAll, rMax, rSum, rSlL, rSlS, rIn, tLst, tTup, iStr, iList, iTup, tYes, cx_K, cx_P, cx_w, cx_mg, cx_base, cx_N, wipe, L2.start, List.map_cons, List.map_nil, List.length_cons, List.length_nil, List.replicate, List.cons_append, List.nil_append, List.append_nil, List.getElem?_cons_zero, List.getElem?_cons_succ, List.set_cons_zero, List.set_cons_succ, Nat.reduceSub, Nat.reduceAdd, Nat.add_zero, Nat.zero_add, Option.some.injEq, V.int.injEq, V.bl.injEq, V.str.injEq, V.ref.injEq, List.cons.injEq, and_true, true_and, exists_eq_left, exists_eq_left', exists_and_left, exists_eq, exists_eq', reduceCtorEq, false_and, Bool.false_eq_true, if_true, if_false, ite_true, ite_false, decide_eq_true_eq, one_len, one_get, S_eq, S_len, and_assoc, Int.natCast_inj, upd_same, upd_upd, HO.ins.injEq, List.zip_cons_cons, List.zip_nil_left, List.zip_nil_right, spSigns]
      refine ⟨bs t, ht1, fun q hq => ?_⟩
      rw [cutV_nat2 t d (d + n) (by omega), Nat.add_sub_cancel_left]
      refine ⟨_, SqL.of upd_same, by rw [List.length_take]; omega, fun H2 s2 => ?_⟩
      have sm2 : Same H H2 := sm1.trans ((Same.upd hq).trans s2)
      rw [sp1]
      have hall := tw_all (p := Vaunid.isDigit) (t.drop d)
      have hpl : ((t.drop d).takeWhile Vaunid.isDigit ++ (if c2 = 0 then [] else c2 :: b2)).map sgn = (t.drop d).takeWhile Vaunid.isDigit ++ (if c2 = 0 then [] else c2 :: b2) := map_sgn fun y hy => by
        rcases List.mem_append.mp hy with z | z
        · have := digit_rng (hall y z); omega
        · rcases sp2 with ⟨rfl, rfl⟩ | ⟨h46, _, hbd⟩
          · simp at z
          · rw [if_neg (by omega)] at z
            rcases List.mem_cons.mp z with z | z
            · omega
            · have := digit_rng (hbd y z); omega
      rw [hpl]
      refine ⟨_, b2, c2, rfl, hall, ?_, by omega, sp2, ?_⟩
      · rw [hdr, List.takeWhile_cons, hc]
        simp
      · rw [← sp3]
        cases o with
        | none => exact fun H3 s3 => hX _ _ ⟨sm2.trans s3, .non, rfl, rfl⟩
        | some tp => exact fun b H3 s3 hb => hX _ _ ⟨sm2.trans s3, .ref b, rfl, b, rfl, hb⟩
    rintro σ' H2 ⟨sm2, am, rfl, ham⟩
    have ht2 := sm2.seq ht
    -- if amount is None
    cases o with
    | none =>
      subst ham
      simp only [tRet, tRetN, tSeq, tNext, tChain, tC, tVar, tOp, tUn, rI0, rI, rU, tTest, tB, tIfS, tIf, tAnd, tOr, tNot, tAndV, tOrV, tNotV, tAsg, gName, tCB, tCons, tNil, tCall, tDrop, tAug, ipI, tSl, tPart, tNoPart, tM0, tM1, rEq, rNe, tIsN, tNotN, scal_ii, scal_ss, scal_bb, rIxS, rIxL, rIxT, rAll, rMax, rSum, rSlL, rSlS, rIn, tLst, tTup, iStr, iList, iTup, tYes, cx_K, cx_P, cx_w, cx_mg, cx_base, cx_N, wipe, L2.start, List.map_cons, List.map_nil, List.length_cons, List.length_nil, List.replicate, List.cons_append, List.nil_append, List.append_nil, List.getElem?_cons_zero, List.getElem?_cons_succ, List.set_cons_zero, List.set_cons_succ, Nat.reduceSub, Nat.reduceAdd, Nat.add_zero, Nat.zero_add, Option.some.injEq, V.int.injEq, V.bl.injEq, V.str.injEq, V.ref.injEq, List.cons.injEq, and_true, true_and, exists_eq_left, exists_eq_left', exists_and_left, exists_eq, exists_eq', reduceCtorEq, false_and, Bool.false_eq_true, if_true, if_false, ite_true, ite_false, decide_eq_true_eq, one_len, one_get, S_eq, S_len, and_assoc, Int.natCast_inj, upd_same, upd_upd, HO.ins.injEq, List.zip_cons_cons, List.zip_nil_left, List.zip_nil_right, sRaise]
      exact ⟨by decide, raise_of (ExF.mono k sm2)⟩
    | some tl =>
      obtain ⟨tp, lw⟩ := tl
      obtain ⟨b, rfl, hb⟩ := ham
      dsimp only at k
      refine seq_mid (fun σ' H' => H' = H2 ∧ σ' = [some (.ref a), some (.int (p : Int)), some (.int (d : Int)), some (.int ((d + n : Nat) : Int)), some (.ref b), none, none]) (fun X hX => ?_) ?_
      · simp only [tRet, tRetN, tSeq, tNext, tChain, tC, tVar, tOp, tUn, rI0, rI, rU, tTest, tB, tIfS, tIf, tAnd, tOr, tNot, tAndV, tOrV, tNotV, tAsg, gName, tCB, tCons, tNil, tCall, tDrop, tAug, ipI, tSl, tPart, tNoPart, tM0, tM1, rEq, rNe, tIsN, tNotN, scal_ii, scal_ss, scal_bb, rIxS, rIxL, rIxT, rAll, rMax, rSum, rSlL, rSlS, rIn, tLst, tTup, iStr, iList, iTup, tYes, cx_K, cx_P, cx_w, cx_mg, cx_base, cx_N, wipe, L2.start, List.map_cons, List.map_nil, List.length_cons, List.length_nil, List.replicate, List.cons_append, List.nil_append, List.append_nil, List.getElem?_cons_zero, List.getElem?_cons_succ, List.set_cons_zero, List.set_cons_succ, Nat.reduceSub, Nat.reduceAdd, Nat.add_zero, Nat.zero_add, Option.some.injEq, V.int.injEq, V.bl.injEq, V.str.injEq, V.ref.injEq, List.cons.injEq, and_true, true_and, exists_eq_left, exists_eq_left', exists_and_left, exists_eq, exists_eq', reduceCtorEq, false_and, Bool.false_eq_true, if_true, if_false, ite_true, ite_false, decide_eq_true_eq, one_len, one_get, S_eq, S_len, and_assoc, Int.natCast_inj, upd_same, upd_upd, HO.ins.injEq, List.zip_cons_cons, List.zip_nil_left, List.zip_nil_right, sRaise]
        exact hX _ _ ⟨rfl, rfl⟩
      rintro σ' H2' ⟨rfl, rfl⟩
      have hrest' : rest = t.drop (d + n) := by rw [hrest, List.drop_drop]
      have hpd : p + (n + if neg = true then 1 else 0) = d + n := by omega
      rw [hpd] at k
      -- if end < len(text) and text[end] == MEASURE_BEGIN
      refine seq_mid (fun σ' H' => Same H H' ∧ ∃ (am : Addr) (m : Option (List Nat)) (e : Nat) (dg : Option Int) (mz : Option V), σ' = [some (.ref a), some (.int (p : Int)), some (.int (d : Int)), some (.int (e : Int)), some (.ref am), mz, none] ∧ AmountAt T.C_Amount H' am (tp : Int) (lw : Int) (m.getD []) ∧ (dg.isSome = decide (e = d + 1)) ∧ d < e ∧
          (∀ v H', Same H H' → (∃ b, v = .ref b ∧ TokAt T.C_Amount T.C_Token H' b { tok := .num { top := if neg = true then -(tp : Int) else (tp : Int), low := lw, measure := m } dg, start := p, halt_ := e }) → Q v H')) (fun X hX => ?_) ?_
      · simp only [tRet, tRetN, tSeq, tNext, tChain, tC, tVar, tOp, tUn, rI0, rI, rU, tTest, tB, tIfS, tIf, tAnd, tOr, tNot, tAndV, tOrV, tNotV, tAsg, gName, tCB, tCons, tNil, tCall, tDrop, tAug, ipI, tSl, tPart, tNoPart, tM0, tM1, rEq, rNe, tIsN, tNotN, scal_ii, scal_ss, scal_bb, rIxS, rIxL, rIxT, rAll, rMax, rSum, rSlL, rSlS, rIn, tLst, tTup, iStr, iList, iTup, tYes, cx_K, cx_P, cx_w, cx_mg, cx_base, cx_N, wipe, L2.start, List.map_cons, List.map_nil, List.length_cons, List.length_nil, List.replicate, List.cons_append, List.nil_append, List.append_nil, List.getElem?_cons_zero, List.getElem?_cons_succ, List.set_cons_zero, List.set_cons_succ, Nat.reduceSub, Nat.reduceAdd, Nat.add_zero, Nat.zero_add, Option.some.injEq, V.int.injEq, V.bl.injEq, V.str.injEq, V.ref.injEq, List.cons.injEq, and_true, true_and, exists_eq_left, exists_eq_left', exists_and_left, exists_eq, exists_eq', reduceCtorEq, false_and, Bool.false_eq_true, if_true, if_false, ite_true, ite_false, decide_eq_true_eq, one_len, one_get, S_eq, S_len, and_assoc, Int.natCast_inj, upd_same, upd_upd, HO.ins.injEq, List.zip_cons_cons, List.zip_nil_left, List.zip_nil_right]
        refine ⟨bs t, .inl ht2, ?_⟩
        rw [bs_len]
        have nomeas : (∀ r2, rest ≠ 91 :: r2) → X [some (.ref a), some (.int (p : Int)), some (.int (d : Int)), some (.int ((d + n : Nat) : Int)), some (.ref b), none, none] H2' := fun hno => by
          refine hX _ _ ⟨sm2, b, none, d + n, (if n = 1 then some (if neg = true then -(tp : Int) else (tp : Int)) else none), none, rfl, hb, ?_, by omega, ?_⟩
          · by_cases h1 : n = 1
            · subst h1
              simp
            · rw [if_neg h1, decide_eq_false (by omega)]
              rfl
          · split at k
            · exact absurd rfl (hno _)
            · exact fun v H' s' q => k v H' s' q
        refine ite2 (fun hlt => ?_) fun hlt => nomeas fun r2 z => ?_
        · have hlt' : d + n < t.length := by omega
          have hg1 : t[d + n]? = some t[d + n] := List.getElem?_eq_getElem hlt'
          have hd1 := drop_at hg1
          generalize t[d + n] = c3 at hg1 hd1
          refine ⟨bs t, ht2, _, atI_nat (bs_get hg1), rfl, ite2 (fun h => ?_) fun h => nomeas fun r2 z => ?_⟩
          · have hc3 : c3 = 91 := by injection h with h; omega
            subst hc3
            rw [← hrest'] at hd1
            rw [hd1] at k
            change RES T.C_Fault H Q E (if _ ∨ _ then _ else _) _ at k
            refine ⟨a, t, d + n, _, rfl, ht2, by rw [← hrest']; exact hd1, hl, ?_⟩
            generalize t.drop (d + n + 1) = r2 at k hd1 ⊢
            by_cases hbad : (r2.takeWhile fun c => c != 93).length = r2.length ∨ Vaunid.measureText ((r2.takeWhile fun c => c != 93).length + 1) (r2.takeWhile fun c => c != 93) = false
            · rw [if_pos hbad] at k ⊢
              exact ExF.mono k sm2
            · rw [if_neg hbad] at k ⊢
              rintro v H3 s3 rfl
              simp only [tRet, tRetN, tSeq, tNext, tChain, tC, tVar, tOp, tUn, rI0, rI, rU, tTest, tB, tIfS, tIf, tAnd, tOr, tNot, tAndV, tOrV, tNotV, tAsg, gName, tCB, tCons, tNil, tCall, tDrop, tAug, ipI, tSl, tPart, tNoPart, tM0, tM1, rEq, rNe, tIsN, tNotN, scal_ii, scal_ss, scal_bb, rIxS, rIxL, rIxT, rAll, rMax, rSum, rSlL, rSlS, rIn, tLst, tTup, iStr, iList, iTup, tYes, cx_K, cx_P, cx_w, cx_mg, cx_base, cx_N, wipe, L2.start, List.map_cons, List.map_nil, List.length_cons, List.length_nil, List.replicate, List.cons_append, List.nil_append, List.append_nil, List.getElem?_cons_zero, List.getElem?_cons_succ, List.set_cons_zero, List.set_cons_succ, Nat.reduceSub, Nat.reduceAdd, Nat.add_zero, Nat.zero_add, Option.some.injEq, V.int.injEq, V.bl.injEq, V.str.injEq, V.ref.injEq, List.cons.injEq, and_true, true_and, exists_eq_left, exists_eq_left', exists_and_left, exists_eq, exists_eq', reduceCtorEq, false_and, Bool.false_eq_true, if_true, if_false, ite_true, ite_false, decide_eq_true_eq, one_len, one_get, S_eq, S_len, and_assoc, Int.natCast_inj, upd_same, upd_upd, HO.ins.injEq, List.zip_cons_cons, List.zip_nil_left, List.zip_nil_right, spMeasured]
              refine ⟨_, _, _, _, rfl, hb.same s3, fun b3 H4 s4 hb4 => ⟨?_, ?_⟩⟩
              · have h1 := tw_le (fun c => c != 93) r2
                have h2 := lt_of_drop (hrest'.symm.trans hd1)
                have h3 := drop_len (hrest'.symm.trans hd1) (Nat.le_of_lt h2)
                rw [List.length_cons] at h3
                exact Nat.le_trans (show _ ≤ 10000 by omega) (by decide)
              · refine hX _ _ ⟨sm2.trans (s3.trans s4), b3, some (r2.takeWhile fun c => c != 93), d + n + (r2.takeWhile fun c => c != 93).length + 2, none, _, rfl, hb4, ?_, by omega, ?_⟩
                · rw [decide_eq_false (by omega)]
                  rfl
                · exact fun v H' s' q => k v H' s' q
          · rw [hrest', hd1] at z
            cases z
            exact h rfl
        · rw [hrest'] at z
          exact absurd (lt_of_drop z) (by omega)
      rintro σ' H3 ⟨sm3, am, m, e, dg, mz, rfl, ham, hdg, hde, k⟩
      -- if begin < digits
      refine seq_mid (fun σ' H' => Same H H' ∧ ∃ (am : Addr) (mz : Option V), σ' = [some (.ref a), some (.int (p : Int)), some (.int (d : Int)), some (.int (e : Int)), some (.ref am), mz, none] ∧ AmountAt T.C_Amount H' am (if neg = true then -(tp : Int) else (tp : Int)) (lw : Int) (m.getD [])) (fun X hX => ?_) ?_
      · simp only [tRet, tRetN, tSeq, tNext, tChain, tC, tVar, tOp, tUn, rI0, rI, rU, tTest, tB, tIfS, tIf, tAnd, tOr, tNot, tAndV, tOrV, tNotV, tAsg, gName, tCB, tCons, tNil, tCall, tDrop, tAug, ipI, tSl, tPart, tNoPart, tM0, tM1, rEq, rNe, tIsN, tNotN, scal_ii, scal_ss, scal_bb, rIxS, rIxL, rIxT, rAll, rMax, rSum, rSlL, rSlS, rIn, tLst, tTup, iStr, iList, iTup, tYes, cx_K, cx_P, cx_w, cx_mg, cx_base, cx_N, wipe, L2.start, List.map_cons, List.map_nil, List.length_cons, List.length_nil, List.replicate, List.cons_append, List.nil_append, List.append_nil, List.getElem?_cons_zero, List.getElem?_cons_succ, List.set_cons_zero, List.set_cons_succ, Nat.reduceSub, Nat.reduceAdd, Nat.add_zero, Nat.zero_add, Option.some.injEq, V.int.injEq, V.bl.injEq, V.str.injEq, V.ref.injEq, List.cons.injEq, and_true, true_and, exists_eq_left, exists_eq_left', exists_and_left, exists_eq, exists_eq', reduceCtorEq, false_and, Bool.false_eq_true, if_true, if_false, ite_true, ite_false, decide_eq_true_eq, one_len, one_get, S_eq, S_len, and_assoc, Int.natCast_inj, upd_same, upd_upd, HO.ins.injEq, List.zip_cons_cons, List.zip_nil_left, List.zip_nil_right, spNegated]
        refine ite2 (fun h => ?_) fun h => ?_
        · have hn : neg = true := by
            cases neg with
            | true => rfl
            | false => simp at hd; omega
          rw [if_pos hn] at hX
          exact ⟨_, _, _, ham, fun b4 H4 s4 hb4 => hX _ _ ⟨sm3.trans s4, _, _, rfl, hb4⟩⟩
        · have hn : neg = false := by
            cases neg with
            | false => rfl
            | true => simp at hd; omega
          rw [if_neg (by rw [hn]; simp)] at hX
          exact hX _ _ ⟨sm3, _, _, rfl, ham⟩
      rintro σ' H4 ⟨sm4, am, mz, rfl, ham⟩
      simp only [tRet, tRetN, tSeq, tNext, tChain, tC, tVar, tOp, tUn, rI0, rI, rU, tTest, tB, tIfS, tIf, tAnd, tOr, tNot, tAndV, tOrV, tNotV, tAsg, gName, tCB, tCons, tNil, tCall, tDrop, tAug, ipI, tSl, tPart, tNoPart, tM0, tM1, rEq, rNe, tIsN, tNotN, scal_ii, scal_ss, scal_bb, rIxS, rIxL, rIxT, rAll, rMax, rSum, rSlL, rSlS, rIn, tLst, tTup, iStr, iList, iTup, tYes, cx_K, cx_P, cx_w, cx_mg, cx_base, cx_N, wipe, L2.start, List.map_cons, List.map_nil, List.length_cons, List.length_nil, List.replicate, List.cons_append, List.nil_append, List.append_nil, List.getElem?_cons_zero, List.getElem?_cons_succ, List.set_cons_zero, List.set_cons_succ, Nat.reduceSub, Nat.reduceAdd, Nat.add_zero, Nat.zero_add, Option.some.injEq, V.int.injEq, V.bl.injEq, V.str.injEq, V.ref.injEq, List.cons.injEq, and_true, true_and, exists_eq_left, exists_eq_left', exists_and_left, exists_eq, exists_eq', reduceCtorEq, false_and, Bool.false_eq_true, if_true, if_false, ite_true, ite_false, decide_eq_true_eq, one_len, one_get, S_eq, S_len, and_assoc, Int.natCast_inj, upd_same, upd_upd, HO.ins.injEq, List.zip_cons_cons, List.zip_nil_left, List.zip_nil_right, tMake, spInit]
      refine ite2 (fun h => ?_) fun h => ?_
      · intro x dx hx hdx hne
        refine k _ _ (sm4.trans (same_make hx hdx)) ⟨x, rfl, dx, .ref am, ?_, am, rfl, ham.same (same_make hx hdx)⟩
        rw [upd_same]
        have hk : kindOf (.num { top := if neg = true then -(tp : Int) else (tp : Int), low := lw, measure := m } dg) = Vaunid.txt "digit" := if_pos (by rw [hdg]; exact decide_eq_true (by omega))
        show _ = some (HO.ins T.C_Token dx (tokFs 1 (S (kindOf (.num _ dg))) _ _ _))
        rw [hk, ← ofStr]
        rfl
      · intro x dx hx hdx hne
        refine k _ _ (sm4.trans (same_make hx hdx)) ⟨x, rfl, dx, .ref am, ?_, am, rfl, ham.same (same_make hx hdx)⟩
        rw [upd_same]
        have hk : kindOf (.num { top := if neg = true then -(tp : Int) else (tp : Int), low := lw, measure := m } dg) = Vaunid.txt "number" := if_neg (by rw [hdg, decide_eq_true_eq]; omega)
        show _ = some (HO.ins T.C_Token dx (tokFs 1 (S (kindOf (.num _ dg))) _ _ _))
        rw [hk, ← ofStr]
        rfl
def spTok (core : Bool) (Ca Ct C : Addr) (K : PySem.W.Frag) : Sp := fun vs H Q E => ∃ (a : Addr) (t : List Nat) (p : Nat), vs = [.ref a, .int (p : Int)] ∧ SqL K H a (bs t) ∧ p < t.length ∧ t.length ≤ 10000 ∧
  RES C H Q E (Vaunid.token core p (t.drop p)) (fun x v H' => ∃ b, v = .ref b ∧ TokAt Ca Ct H' b x.1)
theorem ok_surface_token (T : TX K mg) : FnOk P w K mg base (CX1 P w) 8 T.f_surface_token T.d_surface_token ["text", "begin"] (spTok false T.C_Amount T.C_Token T.C_Fault K) := by
  have G_is_letter := ok_is_letter (P := P) (w := w) (base := base) T
  have G_is_digit := ok_is_digit (P := P) (w := w) (base := base) T
  have G_word_token := ok_word_token (P := P) (w := w) (base := base) T
  have G_number_token := ok_number_token (P := P) (w := w) (base := base) T
  have G_sign_token := ok_sign_token (P := P) (w := w) (base := base) T
  refine T.F_surface_token.fn.okX sc_surface_token (fun vs H Q E h => ?_) (fun cdv A outer s H vs Q E hr h => ?_)
  · obtain ⟨a, t, p, rfl, _⟩ := h
    rfl
  · obtain ⟨a, t, p, rfl, ht, hp, hl, k⟩ := h
    refine ⟨_, (pss_cons (ps_if (pt_val (pe_call G_is_letter (hr.mono (by decide)) rfl T.F_is_letter.mg T.F_is_letter.fn.kp T.F_is_letter.b .nil pass0 (pa_cons (pe_ix ix_list (pv 0) (pv 1) (fun _ _ => rfl)) pa_nil))) (pss_one (ps_ret (pe_call G_word_token (hr.mono (by decide)) rfl T.F_word_token.mg T.F_word_token.fn.kp T.F_word_token.b .nil passes_cx (pa_cons (pv 0) (pa_cons (pv 1) pa_nil))))) pss_nil)
      (pss_cons (ps_if (pt_val (pe_call G_is_digit (hr.mono (by decide)) rfl T.F_is_digit.mg T.F_is_digit.fn.kp T.F_is_digit.b .nil pass0 (pa_cons (pe_ix ix_list (pv 0) (pv 1) (fun _ _ => rfl)) pa_nil))) (pss_one (ps_ret (pe_call G_number_token (hr.mono (by decide)) rfl T.F_number_token.mg T.F_number_token.fn.kp T.F_number_token.b .nil passes_cx (pa_cons (pv 0) (pa_cons (pv 1) (pa_cons (pv 1) pa_nil)))))) pss_nil)
      (pss_one (ps_ret (pe_call G_sign_token (hr.mono (by decide)) rfl T.F_sign_token.mg T.F_sign_token.fn.kp T.F_sign_token.b .nil passes_cx (pa_cons (pv 0) (pa_cons (pv 1) (pa_cons (pe_r T.g_SURFACE_SIGNS) pa_nil)))))))), ?_⟩
    simp only [tRet, tRetN, tSeq, tNext, tChain, tC, tVar, tOp, tUn, rI0, rI, rU, tTest, tB, tIfS, tIf, tAnd, tOr, tNot, tAndV, tOrV, tNotV, tAsg, gName, tCB, tCons, tNil, tCall, tDrop, tAug, ipI, tSl, tPart, tNoPart, tM0, tM1, rEq, rNe, tIsN, tNotN, scal_ii, scal_ss, scal_bb, rIxS, rIxL, rIxT, rAll, rMax, rSum, rSlL, rSlS, rIn, tLst, tTup, iStr, iList, iTup, tYes, cx_K, cx_P, cx_w, cx_mg, cx_base, cx_N, wipe, L2.start, List.map_cons, List.map_nil, List.length_cons, List.length_nil, List.replicate, List.cons_append, List.nil_append, List.append_nil, List.getElem?_cons_zero, List.getElem?_cons_succ, List.set_cons_zero, List.set_cons_succ, Nat.reduceSub, Nat.reduceAdd, Nat.add_zero, Nat.zero_add, Option.some.injEq, V.int.injEq, V.bl.injEq, V.str.injEq, V.ref.injEq, List.cons.injEq, and_true, true_and, exists_eq_left, exists_eq_left', exists_and_left, exists_eq, exists_eq', reduceCtorEq, false_and, Bool.false_eq_true, if_true, if_false, ite_true, ite_false, decide_eq_true_eq, one_len, one_get, S_eq, S_len, and_assoc, Int.natCast_inj, upd_same, upd_upd, HO.ins.injEq, List.zip_cons_cons, List.zip_nil_left, List.zip_nil_right]
    have hg1 : t[p]? = some t[p] := List.getElem?_eq_getElem hp
    have hd1 := drop_at hg1
    generalize t[p] = c at hg1 hd1
    have k' := k
    rw [hd1] at k
    unfold Vaunid.token at k
    dsimp only at k
    rw [← hd1] at k
    refine ⟨bs t, ht, _, atI_nat (bs_get hg1), ?_⟩
    simp only [tRet, tRetN, tSeq, tNext, tChain, tC, tVar, tOp, tUn, rI0, rI, rU, tTest, tB, tIfS, tIf, tAnd, tOr, tNot, tAndV, tOrV, tNotV, tAsg, gName, tCB, tCons, tNil, tCall, tDrop, tAug, ipI, tSl, tPart, tNoPart, tM0, tM1, rEq, rNe, tIsN, tNotN, scal_ii, scal_ss, scal_bb, rIxS, rIxL, rIxT, rAll, rMax, rSum, rSlL, rSlS, rIn, tLst, tTup, iStr, iList, iTup, tYes, cx_K, cx_P, cx_w, cx_mg, cx_base, cx_N, wipe, L2.start, List.map_cons, List.map_nil, List.length_cons, List.length_nil, List.replicate, List.cons_append, List.nil_append, List.append_nil, List.getElem?_cons_zero, List.getElem?_cons_succ, List.set_cons_zero, List.set_cons_succ, Nat.reduceSub, Nat.reduceAdd, Nat.add_zero, Nat.zero_add, Option.some.injEq, V.int.injEq, V.bl.injEq, V.str.injEq, V.ref.injEq, List.cons.injEq, and_true, true_and, exists_eq_left, exists_eq_left', exists_and_left, exists_eq, exists_eq', reduceCtorEq, false_and, Bool.false_eq_true, if_true, if_false, ite_true, ite_false, decide_eq_true_eq, one_len, one_get, S_eq, S_len, and_assoc, Int.natCast_inj, upd_same, upd_upd, HO.ins.injEq, List.zip_cons_cons, List.zip_nil_left, List.zip_nil_right, spB]
    refine ite_bool (fun h => ?_) fun h => ⟨bs t, ht, _, atI_nat (bs_get hg1), ?_⟩
    · rw [if_pos h] at k
      exact ⟨a, t, p, rfl, ht, Nat.le_of_lt hp, hl, k⟩
    · rw [if_neg (by rw [h]; simp)] at k
      simp only [tRet, tRetN, tSeq, tNext, tChain, tC, tVar, tOp, tUn, rI0, rI, rU, tTest, tB, tIfS, tIf, tAnd, tOr, tNot, tAndV, tOrV, tNotV, tAsg, gName, tCB, tCons, tNil, tCall, tDrop, tAug, ipI, tSl, tPart, tNoPart, tM0, tM1, rEq, rNe, tIsN, tNotN, scal_ii, scal_ss, scal_bb, rIxS, rIxL, rIxT, rAll, rMax, rSum, rSlL, rSlS, rIn, tLst, tTup, iStr, iList, iTup, tYes, cx_K, cx_P, cx_w, cx_mg, cx_base, cx_N, wipe, L2.start, List.map_cons, List.map_nil, List.length_cons, List.length_nil, List.replicate, List.cons_append, List.nil_append, List.append_nil, List.getElem?_cons_zero, List.getElem?_cons_succ, List.set_cons_zero, List.set_cons_succ, Nat.reduceSub, Nat.reduceAdd, Nat.add_zero, Nat.zero_add, Option.some.injEq, V.int.injEq, V.bl.injEq, V.str.injEq, V.ref.injEq, List.cons.injEq, and_true, true_and, exists_eq_left, exists_eq_left', exists_and_left, exists_eq, exists_eq', reduceCtorEq, false_and, Bool.false_eq_true, if_true, if_false, ite_true, ite_false, decide_eq_true_eq, one_len, one_get, S_eq, S_len, and_assoc, Int.natCast_inj, upd_same, upd_upd, HO.ins.injEq, List.zip_cons_cons, List.zip_nil_left, List.zip_nil_right, spB]
      refine ite_bool (fun h2 => ?_) fun h2 => ?_
      · rw [if_pos h2] at k
        exact ⟨a, t, p, p, c, _, false, rfl, ht, hl, rfl, hd1, h2, k⟩
      · rw [if_neg (by rw [h2]; simp), if_neg (by simp)] at k
        refine ⟨a, _, t, p, Vaunid.surfaceSigns, rfl, ht, hp, hl, good_surface, fun H' => ?_, k⟩
        rw [← surface_vals]
        exact T.t_SURFACE_SIGNS H'
end
end M

set_option Elab.async false
set_option linter.all false
set_option maxRecDepth 100000
set_option maxHeartbeats 2000000
namespace M
open PySem PySem.Spec PyProof.Rows L2 TL
section
variable {P : Program} {w : World} {K : PySem.W.Frag} {mg : Str → Option Value} {base : Heap}
def GapF (P : Program) (w : World) (K : PySem.W.Frag) (mg : Str → Option Value) (base : Heap) (k : Nat) (C f : Addr) (core : Bool) : Prop := ∃ fd ps, FnOk P w K mg base (CX1 P w) k f fd ps (spGap core C K) ∧ Binds K fd ps [] ∧ PySem.W.keepIn K (.ref f) = true
def TokF (P : Program) (w : World) (K : PySem.W.Frag) (mg : Str → Option Value) (base : Heap) (k : Nat) (Ca Ct C f : Addr) (core : Bool) : Prop := ∃ fd ps, FnOk P w K mg base (CX1 P w) k f fd ps (spTok core Ca Ct C K) ∧ Binds K fd ps [] ∧ PySem.W.keepIn K (.ref f) = true
def postToks (Ca Ct : Addr) (l : List Vaunid.Token) (v : V) (H : Hp) : Prop := ∃ (b : Addr) (as : List Addr), v = .ref b ∧ H b = some (.lst (as.map V.ref)) ∧ ToksAt Ca Ct H as l
def spBetween (P : Program) (w : World) (K : PySem.W.Frag) (mg : Str → Option Value) (base : Heap) (Ca Ct C : Addr) : Sp := fun vs H Q E => ∃ (a f g : Addr) (t : List Nat) (core : Bool), vs = [.ref a, .ref f, .ref g] ∧ SqL K H a (bs t) ∧ t.length ≤ 10000 ∧ GapF P w K mg base 8 C f core ∧ TokF P w K mg base 8 Ca Ct C g core ∧
  RES C H Q E (toksT core 0 t) (postToks Ca Ct)
theorem ok_tokens_between (T : TX K mg) : FnOk P w K mg base (CX1 P w) 9 T.f_tokens_between T.d_tokens_between ["text", "gap_end", "token_at"] (spBetween P w K mg base T.C_Amount T.C_Token T.C_Fault) := by
  refine T.F_tokens_between.fn.okX sc_tokens_between (fun vs H Q E h => ?_) (fun cdv A outer s H vs Q E hr h => ?_)
  · obtain ⟨a, f, g, t, core, rfl, _⟩ := h
    rfl
  · obtain ⟨a, f, g, t, core, rfl, ht, hl, ⟨fd1, ps1, F1, b1, k1⟩, ⟨fd2, ps2, F2, b2, k2⟩, k⟩ := h
    refine ⟨_, (pss_cons (ps_set (i := 3) (sc_tokens_between).nd rfl (Or.inl rfl) (pe_lst pa_nil))
      (pss_cons (ps_set (i := 4) (sc_tokens_between).nd rfl (Or.inl rfl) (pe_callv (CX := CX1 P w) (k := 8) 1 (hr.mono (by decide)) passes_cx (pa_cons (pv 0) (pa_cons pe_int pa_nil))))
      (pss_cons (ps_while own_cx (pt_cmpR op_lt (pv 4) (pe_callB call_len_seq rfl T.b_len PySem.boot_len (pa_cons (pv 0) pa_nil)) (nomark _)) (pss_cons (ps_set (i := 5) (sc_tokens_between).nd rfl (Or.inl rfl) (pe_callv (CX := CX1 P w) (k := 8) 2 (hr.mono (by decide)) passes_cx (pa_cons (pv 0) (pa_cons (pv 4) pa_nil))))
      (pss_cons (ps_expr (pe_bm PySem.F.plainAttrs_list PySem.F.slot_list_append PySem.F.type_list_append mt_append (pv 3) (pa_cons (pv 5) pa_nil)))
      (pss_one (ps_set (i := 4) (sc_tokens_between).nd rfl (Or.inl rfl) (pe_callv (CX := CX1 P w) (k := 8) 1 (hr.mono (by decide)) passes_cx (pa_cons (pv 0) (pa_cons (pe_fld (pv 5) rfl) pa_nil))))))))
      (pss_one (ps_ret (pv 3)))))), ?_⟩
    simp only [tRet, tRetN, tSeq, tNext, tChain, tC, tVar, tOp, tUn, rI0, rI, rU, tTest, tB, tIfS, tIf, tAnd, tOr, tNot, tAndV, tOrV, tNotV, tAsg, gName, tCB, tCons, tNil, tCall, tDrop, tAug, ipI, tSl, tPart, tNoPart, tM0, tM1, rEq, rNe, tIsN, tNotN, scal_ii, scal_ss, scal_bb, rIxS, rIxL, rIxT, rAll, rMax, rSum, rSlL, rSlS, rIn, tLst, tTup, iStr, iList, iTup, tYes, cx_K, cx_P, cx_w, cx_mg, cx_base, cx_N, wipe, L2.start, List.map_cons, List.map_nil, List.length_cons, List.length_nil, List.replicate, List.cons_append, List.nil_append, List.append_nil, List.getElem?_cons_zero, List.getElem?_cons_succ, List.set_cons_zero, List.set_cons_succ, Nat.reduceSub, Nat.reduceAdd, Nat.add_zero, Nat.zero_add, Option.some.injEq, V.int.injEq, V.bl.injEq, V.str.injEq, V.ref.injEq, List.cons.injEq, and_true, true_and, exists_eq_left, exists_eq_left', exists_and_left, exists_eq, exists_eq', reduceCtorEq, false_and, Bool.false_eq_true, if_true, if_false, ite_true, ite_false, decide_eq_true_eq, one_len, one_get, S_eq, S_len, and_assoc, Int.natCast_inj, upd_same, upd_upd, HO.ins.injEq, List.zip_cons_cons, List.zip_nil_left, List.zip_nil_right, tCallV]
    refine ⟨Nat.zero_le _, fun b hb => ⟨fd1, ps1, _, F1, b1, k1, a, t, 0, rfl, (Same.upd hb).seq ht, Nat.zero_le _, ?_⟩⟩
    rw [List.drop_zero]
    cases q0 : gapT core 0 t with
    | error e =>
      rw [toksT_step, q0] at k
      exact ExF.mono k (Same.upd hb)
    | ok x =>
      obtain ⟨g1, g2, g3⟩ := gap_fact core _ _ _ _ q0
      rw [Nat.sub_zero] at g3
      rw [Nat.zero_add] at g2
      rintro v H1 s1 rfl
      have hk0 : toksT core 0 t = preR [] (thenToks core (x.1, t.drop x.1)) := by
        rw [toksT_step, q0]
        show thenToks core x = _
        rw [← g3]
        show thenToks core (x.1, x.2) = _
        cases thenToks core (x.1, x.2) <;> rfl
      obtain ⟨Pv, hPv⟩ : ∃ Pv : Nat → L2.St → Hp → Prop, Pv = fun m σ H' => Same H H' ∧ ∃ (q : Nat) (as : List Addr) (l : List Vaunid.Token) (z : Option V), m = t.length - q ∧ q ≤ t.length ∧ as.length ≤ q ∧ σ = [some (.ref a), some (.ref f), some (.ref g), some (.ref b), some (.int (q : Int)), z] ∧
        H' b = some (.lst (as.map V.ref)) ∧ ToksAt T.C_Amount T.C_Token H' as l ∧ toksT core 0 t = preR l (thenToks core (q, t.drop q)) := ⟨_, rfl⟩
      refine while_m Pv _ (by rw [hPv]; exact ⟨(Same.upd hb).trans s1, x.1, [], [], none, rfl, g2, Nat.zero_le _, rfl, s1 _ _ upd_same, .nil, hk0⟩) fun m σ H' hp => ?_
      rw [hPv] at hp
      obtain ⟨sm, q, as, l, z, rfl, hq, hal, rfl, hbl, hto, hk⟩ := hp
      have ht' := sm.seq ht
      simp only [tRet, tRetN, tSeq, tNext, tChain, tC, tVar, tOp, tUn, rI0, rI, rU, tTest, tB, tIfS, tIf, tAnd, tOr, tNot, tAndV, tOrV, tNotV, tAsg, gName, tCB, tCons, tNil, tCall, tDrop, tAug, ipI, tSl, tPart, tNoPart, tM0, tM1, rEq, rNe, tIsN, tNotN, scal_ii, scal_ss, scal_bb, rIxS, rIxL, rIxT, rAll, rMax, rSum, rSlL, rSlS, rIn, tLst, tTup, iStr, iList, iTup, tYes, cx_K, cx_P, cx_w, cx_mg, cx_base, cx_N, wipe, L2.start, List.map_cons, List.map_nil, List.length_cons, List.length_nil, List.replicate, List.cons_append, List.nil_append, List.append_nil, List.getElem?_cons_zero, List.getElem?_cons_succ, List.set_cons_zero, List.set_cons_succ, Nat.reduceSub, Nat.reduceAdd, Nat.add_zero, Nat.zero_add, Option.some.injEq, V.int.injEq, V.bl.injEq, V.str.injEq, V.ref.injEq, List.cons.injEq, and_true, true_and, exists_eq_left, exists_eq_left', exists_and_left, exists_eq, exists_eq', reduceCtorEq, false_and, Bool.false_eq_true, if_true, if_false, ite_true, ite_false, decide_eq_true_eq, one_len, one_get, S_eq, S_len, and_assoc, Int.natCast_inj, upd_same, upd_upd, HO.ins.injEq, List.zip_cons_cons, List.zip_nil_left, List.zip_nil_right, tCallV]
      refine ⟨bs t, .inl ht', ?_⟩
      rw [bs_len]
      refine ite2 (fun hlt => ?_) fun hlt => ?_
      · have hlt' : q < t.length := by omega
        have hg1 : t[q]? = some t[q] := List.getElem?_eq_getElem hlt'
        have hd1 := drop_at hg1
        generalize t[q] = c at hg1 hd1
        refine ⟨_, fun _ _ z => z, fd2, ps2, _, F2, b2, k2, a, t, q, rfl, ht', hlt', hl, ?_⟩
        cases qt : Vaunid.token core q (t.drop q) with
        | error e =>
          have e1 : toksT core 0 t = .error e := by
            rw [hk]
            unfold thenToks
            rw [hd1] at qt
            rw [hd1]
            dsimp only
            rw [qt]
            rfl
          rw [e1] at k
          exact ExF.mono k sm
        | ok y =>
          obtain ⟨kt, rest⟩ := y
          have tf := token_fact qt
          have hhl : kt.halt_ ≤ t.length := by have := tf.le; rw [List.length_drop] at this; omega
          have hqh : q < kt.halt_ := tf.lt
          have hrest : rest = t.drop kt.halt_ := by rw [tf.rest, List.drop_drop]; congr 1; omega
          rintro v H2 s2 ⟨bt, rfl, htk⟩
          have hk2 : toksT core 0 t = preR l (match gapT core kt.halt_ (t.drop kt.halt_) with | .error e => .error e | .ok y => preR [kt] (thenToks core y)) := by
            rw [hk]
            congr 1
            have e2 : thenToks core (q, t.drop q) = (match toksT core kt.halt_ rest with | .error e => .error e | .ok l => .ok (kt :: l)) := by
              unfold thenToks
              rw [hd1] at qt ⊢
              dsimp only
              rw [qt] <;> rfl
            rw [e2, hrest, toksT_step]
            cases gapT core kt.halt_ (t.drop kt.halt_) with
            | error e => rfl
            | ok y =>
              show (match thenToks core y with | .error e => .error e | .ok l => .ok (kt :: l)) = preR [kt] (thenToks core y)
              cases thenToks core y <;> rfl
          simp only [tRet, tRetN, tSeq, tNext, tChain, tC, tVar, tOp, tUn, rI0, rI, rU, tTest, tB, tIfS, tIf, tAnd, tOr, tNot, tAndV, tOrV, tNotV, tAsg, gName, tCB, tCons, tNil, tCall, tDrop, tAug, ipI, tSl, tPart, tNoPart, tM0, tM1, rEq, rNe, tIsN, tNotN, scal_ii, scal_ss, scal_bb, rIxS, rIxL, rIxT, rAll, rMax, rSum, rSlL, rSlS, rIn, tLst, tTup, iStr, iList, iTup, tYes, cx_K, cx_P, cx_w, cx_mg, cx_base, cx_N, wipe, L2.start, List.map_cons, List.map_nil, List.length_cons, List.length_nil, List.replicate, List.cons_append, List.nil_append, List.append_nil, List.getElem?_cons_zero, List.getElem?_cons_succ, List.set_cons_zero, List.set_cons_succ, Nat.reduceSub, Nat.reduceAdd, Nat.add_zero, Nat.zero_add, Option.some.injEq, V.int.injEq, V.bl.injEq, V.str.injEq, V.ref.injEq, List.cons.injEq, and_true, true_and, exists_eq_left, exists_eq_left', exists_and_left, exists_eq, exists_eq', reduceCtorEq, false_and, Bool.false_eq_true, if_true, if_false, ite_true, ite_false, decide_eq_true_eq, one_len, one_get, S_eq, S_len, and_assoc, Int.natCast_inj, upd_same, upd_upd, HO.ins.injEq, List.zip_cons_cons, List.zip_nil_left, List.zip_nil_right, tBM, rAppend, tFld, tCallV]
          have hbl2 := s2 _ _ hbl
          obtain ⟨dt, ct, hins, hcont⟩ := htk
          have nbt : bt ≠ b := ne_of hins hbl2 (by intro z; cases z)
          have sI : SameI H2 (upd H2 b (.lst (as.map V.ref ++ [.ref bt]))) := SameI.lst hbl2
          have sH : Same H (upd H2 b (.lst (as.map V.ref ++ [.ref bt]))) := fun c o e => by
            rw [upd_ne (ne_of_none e hb)]
            exact s2 _ _ (sm _ _ e)
          refine ⟨.inl ⟨rfl, _, SqL.of hbl2⟩, _, hbl2, ?_, ?_⟩
          · rw [List.length_map]
            exact Nat.lt_of_le_of_lt (show as.length ≤ 10000 by omega) (by decide)
          · refine ⟨fd1, ps1, _, F1, b1, k1, T.C_Token, dt, _, by rw [upd_ne nbt]; exact hins, T.cl_Token, T.n_Token_end, _, rfl, a, t, kt.halt_, rfl, sH.seq ht, hhl, ?_⟩
            cases qg : gapT core kt.halt_ (t.drop kt.halt_) with
            | error e =>
              rw [qg] at hk2
              rw [hk2] at k
              exact ExF.mono k sH
            | ok y =>
              obtain ⟨g1, g2, g3⟩ := gap_fact core _ _ _ _ qg
              rw [List.length_drop] at g2
              rintro v H3 s3 rfl
              refine ⟨t.length - y.1, by omega, ?_⟩
              rw [hPv]
              refine ⟨sH.trans s3, y.1, as ++ [bt], l ++ [kt], _, rfl, by omega, by rw [List.length_append, List.length_singleton]; omega, rfl, ?_, ?_, ?_⟩
              · rw [List.map_append]
                exact s3 _ _ upd_same
              · exact ToksAt.snoc (ToksAt.sameI hto ((Same.insts s2).trans (sI.trans (Same.insts s3)))) (TokAt.sameI ⟨dt, ct, hins, hcont⟩ (sI.trans (Same.insts s3)))
              · rw [hk2, qg]
                dsimp only
                have e3 : y = (y.1, t.drop y.1) := by
                  have : y.2 = t.drop y.1 := by rw [g3, List.drop_drop]; congr 1; omega
                  rw [← this]
                rw [← e3]
                cases thenToks core y with
                | error e => rfl
                | ok l2 =>
                  show Except.ok _ = Except.ok _
                  rw [List.append_assoc]
      · have e0 : t.drop q = [] := List.drop_eq_nil_of_le (by omega)
        rw [e0] at hk
        have e1 : toksT core 0 t = .ok l := by
          rw [hk]
          show Except.ok (l ++ []) = _
          rw [List.append_nil]
        rw [e1] at k
        exact k _ H' sm ⟨b, as, rfl, hbl, hto⟩
def spReadTok (core : Bool) (Ca Ct C : Addr) (K : PySem.W.Frag) : Sp := fun vs H Q E => ∃ (a : Addr) (t : List Nat), vs = [.ref a] ∧ SqL K H a (bs t) ∧ t.length ≤ 10000 ∧ RES C H Q E (Vaunid.allTokens core t) (postToks Ca Ct)
theorem ok_surface_tokens (T : TX K mg) : FnOk P w K mg base (CX1 P w) 10 T.f_surface_tokens T.d_surface_tokens ["text"] (spReadTok false T.C_Amount T.C_Token T.C_Fault K) := by
  have G_tokens_between := ok_tokens_between (P := P) (w := w) (base := base) T
  have GF : GapF P w K mg base 8 T.C_Fault T.f_surface_gap_end false := ⟨_, _, (ok_surface_gap_end T).mono (by decide), T.F_surface_gap_end.b, T.F_surface_gap_end.fn.kp⟩
  have TF : TokF P w K mg base 8 T.C_Amount T.C_Token T.C_Fault T.f_surface_token false := ⟨_, _, ok_surface_token T, T.F_surface_token.b, T.F_surface_token.fn.kp⟩
  refine T.F_surface_tokens.fn.okX sc_surface_tokens (fun vs H Q E h => ?_) (fun cdv A outer s H vs Q E hr h => ?_)
  · obtain ⟨a, t, rfl, _⟩ := h
    rfl
  · obtain ⟨a, t, rfl, ht, hl, k⟩ := h
    refine ⟨_, (pss_one (ps_ret (pe_call G_tokens_between (hr.mono (by decide)) rfl T.F_tokens_between.mg T.F_tokens_between.fn.kp T.F_tokens_between.b .nil passes_cx (pa_cons (pv 0) (pa_cons (pe_r T.F_surface_gap_end.mg) (pa_cons (pe_r T.F_surface_token.mg) pa_nil)))))), ?_⟩
    simp only [tRet, tRetN, tSeq, tNext, tChain, tC, tVar, tOp, tUn, rI0, rI, rU, tTest, tB, tIfS, tIf, tAnd, tOr, tNot, tAndV, tOrV, tNotV, tAsg, gName, tCB, tCons, tNil, tCall, tDrop, tAug, ipI, tSl, tPart, tNoPart, tM0, tM1, rEq, rNe, tIsN, tNotN, scal_ii, scal_ss, scal_bb, rIxS, rIxL, rIxT, rAll, rMax, rSum, rSlL, rSlS, rIn, tLst, tTup, iStr, iList, iTup, tYes, cx_K, cx_P, cx_w, cx_mg, cx_base, cx_N, wipe, L2.start, List.map_cons, List.map_nil, List.length_cons, List.length_nil, List.replicate, List.cons_append, List.nil_append, List.append_nil, List.getElem?_cons_zero, List.getElem?_cons_succ, List.set_cons_zero, List.set_cons_succ, Nat.reduceSub, Nat.reduceAdd, Nat.add_zero, Nat.zero_add, Option.some.injEq, V.int.injEq, V.bl.injEq, V.str.injEq, V.ref.injEq, List.cons.injEq, and_true, true_and, exists_eq_left, exists_eq_left', exists_and_left, exists_eq, exists_eq', reduceCtorEq, false_and, Bool.false_eq_true, if_true, if_false, ite_true, ite_false, decide_eq_true_eq, one_len, one_get, S_eq, S_len, and_assoc, Int.natCast_inj, upd_same, upd_upd, HO.ins.injEq, List.zip_cons_cons, List.zip_nil_left, List.zip_nil_right]
    exact ⟨a, _, _, t, false, rfl, ht, hl, GF, TF, k⟩
def spTokAns (Ca Ct : Addr) : Sp := fun vs H Q _ => ∃ (l : List Vaunid.Token) (v : V), vs = [v] ∧ postToks Ca Ct l v H ∧ l.length ≤ 10000 ∧ (∀ k ∈ l, k.start ≤ k.halt_) ∧ ∀ (p : Addr) (H' : Hp), Same H H' → H' p = some (.lst ((Vaunid.tokensAnswer l).map V.int)) → Q (.ref p) H'
theorem ok_tokens_answer (T : TX K mg) : FnOk P w K mg base CX0 1 T.f_tokens_answer T.d_tokens_answer ["found"] (spTokAns T.C_Amount T.C_Token) := by
  refine T.F_tokens_answer.fn.ok sc_tokens_answer (fun vs H Q E h => ?_) (fun cdv A outer s H vs Q E hr h => ?_)
  · obtain ⟨l, v, rfl, _⟩ := h
    rfl
  · obtain ⟨l, v, rfl, ⟨b, as, rfl, hb, hto⟩, hl, hse, k⟩ := h
    refine ⟨_, (pss_cons (ps_set (i := 1) (sc_tokens_answer).nd rfl (Or.inl rfl) (pe_lst (pa_cons pe_int pa_nil)))
      (pss_cons (ps_for PassesOwn.never rfl (pi_list (pv 0)) (pg_name (i := 2) (sc_tokens_answer).nd rfl (Or.inl rfl)) (pss_one (ps_expr (pe_bm PySem.F.plainAttrs_list PySem.F.slot_list_extend PySem.F.type_list_extend mt_extend (pv 1) (pa_cons (pe_lst (pa_cons (pe_fld (pv 2) rfl) (pa_cons (pe_fld (pv 2) rfl) (pa_cons (pe_op op_sub (pe_fld (pv 2) rfl) (pe_fld (pv 2) rfl)) pa_nil)))) pa_nil)))))
      (pss_one (ps_ret (pv 1))))), ?_⟩
    simp only [tRet, tRetN, tSeq, tNext, tChain, tC, tVar, tOp, tUn, rI0, rI, rU, tTest, tB, tIfS, tIf, tAnd, tOr, tNot, tAndV, tOrV, tNotV, tAsg, gName, tCB, tCons, tNil, tCall, tDrop, tAug, ipI, tSl, tPart, tNoPart, tM0, tM1, rEq, rNe, tIsN, tNotN, scal_ii, scal_ss, scal_bb, rIxS, rIxL, rIxT, rAll, rMax, rSum, rSlL, rSlS, rIn, tLst, tTup, iStr, iList, iTup, tYes, cx_K, cx_P, cx_w, cx_mg, cx_base, cx_N, wipe, L2.start, List.map_cons, List.map_nil, List.length_cons, List.length_nil, List.replicate, List.cons_append, List.nil_append, List.append_nil, List.getElem?_cons_zero, List.getElem?_cons_succ, List.set_cons_zero, List.set_cons_succ, Nat.reduceSub, Nat.reduceAdd, Nat.add_zero, Nat.zero_add, Option.some.injEq, V.int.injEq, V.bl.injEq, V.str.injEq, V.ref.injEq, List.cons.injEq, and_true, true_and, exists_eq_left, exists_eq_left', exists_and_left, exists_eq, exists_eq', reduceCtorEq, false_and, Bool.false_eq_true, if_true, if_false, ite_true, ite_false, decide_eq_true_eq, one_len, one_get, S_eq, S_len, and_assoc, Int.natCast_inj, upd_same, upd_upd, HO.ins.injEq, List.zip_cons_cons, List.zip_nil_left, List.zip_nil_right]
    refine ⟨by decide, fun p hp => tfor_intro ?_⟩
    have nbp : b ≠ p := ne_of_none hb hp
    have hb1 : upd H p (.lst [.int 0]) b = some (.lst (as.map V.ref)) := by rw [upd_ne nbp]; exact hb
    simp only [tRet, tRetN, tSeq, tNext, tChain, tC, tVar, tOp, tUn, rI0, rI, rU, tTest, tB, tIfS, tIf, tAnd, tOr, tNot, tAndV, tOrV, tNotV, tAsg, gName, tCB, tCons, tNil, tCall, tDrop, tAug, ipI, tSl, tPart, tNoPart, tM0, tM1, rEq, rNe, tIsN, tNotN, scal_ii, scal_ss, scal_bb, rIxS, rIxL, rIxT, rAll, rMax, rSum, rSlL, rSlS, rIn, tLst, tTup, iStr, iList, iTup, tYes, cx_K, cx_P, cx_w, cx_mg, cx_base, cx_N, wipe, L2.start, List.map_cons, List.map_nil, List.length_cons, List.length_nil, List.replicate, List.cons_append, List.nil_append, List.append_nil, List.getElem?_cons_zero, List.getElem?_cons_succ, List.set_cons_zero, List.set_cons_succ, Nat.reduceSub, Nat.reduceAdd, Nat.add_zero, Nat.zero_add, Option.some.injEq, V.int.injEq, V.bl.injEq, V.str.injEq, V.ref.injEq, List.cons.injEq, and_true, true_and, exists_eq_left, exists_eq_left', exists_and_left, exists_eq, exists_eq', reduceCtorEq, false_and, Bool.false_eq_true, if_true, if_false, ite_true, ite_false, decide_eq_true_eq, one_len, one_get, S_eq, S_len, and_assoc, Int.natCast_inj, upd_same, upd_upd, HO.ins.injEq, List.zip_cons_cons, List.zip_nil_left, List.zip_nil_right]
    refine ⟨⟨_, SqL.of hb1⟩, forok_list (as.map V.ref) (fun i σ H' => Same H H' ∧ (∃ z, σ = [some (.ref b), some (.ref p), z]) ∧ H' p = some (.lst ((Vaunid.tokensAnswer (l.take i)).map V.int))) ⟨Same.upd hp, ⟨_, rfl⟩, upd_same⟩ (fun i σ H' _ q => SqL.of (q.1 _ _ hb)) (fun i x σ H' hx q => ?_) fun σ H' q => ?_⟩
    · obtain ⟨sm, ⟨z, rfl⟩, hpl⟩ := q
      rw [List.getElem?_map] at hx
      cases qa : as[i]? with
      | none => rw [qa] at hx; cases hx
      | some a =>
        rw [qa] at hx
        cases hx
        obtain ⟨kt, hkt, hta⟩ := paired_get hto qa
        obtain ⟨dt, ct, hins, hcont⟩ := hta.same sm
        simp only [tRet, tRetN, tSeq, tNext, tChain, tC, tVar, tOp, tUn, rI0, rI, rU, tTest, tB, tIfS, tIf, tAnd, tOr, tNot, tAndV, tOrV, tNotV, tAsg, gName, tCB, tCons, tNil, tCall, tDrop, tAug, ipI, tSl, tPart, tNoPart, tM0, tM1, rEq, rNe, tIsN, tNotN, scal_ii, scal_ss, scal_bb, rIxS, rIxL, rIxT, rAll, rMax, rSum, rSlL, rSlS, rIn, tLst, tTup, iStr, iList, iTup, tYes, cx_K, cx_P, cx_w, cx_mg, cx_base, cx_N, wipe, L2.start, List.map_cons, List.map_nil, List.length_cons, List.length_nil, List.replicate, List.cons_append, List.nil_append, List.append_nil, List.getElem?_cons_zero, List.getElem?_cons_succ, List.set_cons_zero, List.set_cons_succ, Nat.reduceSub, Nat.reduceAdd, Nat.add_zero, Nat.zero_add, Option.some.injEq, V.int.injEq, V.bl.injEq, V.str.injEq, V.ref.injEq, List.cons.injEq, and_true, true_and, exists_eq_left, exists_eq_left', exists_and_left, exists_eq, exists_eq', reduceCtorEq, false_and, Bool.false_eq_true, if_true, if_false, ite_true, ite_false, decide_eq_true_eq, one_len, one_get, S_eq, S_len, and_assoc, Int.natCast_inj, upd_same, upd_upd, HO.ins.injEq, List.zip_cons_cons, List.zip_nil_left, List.zip_nil_right, tBM, rExtend, tFld, hins]
        have hlen : (Vaunid.tokensAnswer (l.take i)).length ≤ 40000 := by
          unfold Vaunid.tokensAnswer
          rw [List.length_cons, List.length_flatMap]
          have hh : ((l.take i).map fun k => [Vaunid.sortOf k.tok, (k.start : Int), ((k.halt_ - k.start : Nat) : Int)].length).sum = 3 * (l.take i).length := by
            generalize l.take i = m
            induction m with
            | nil => rfl
            | cons y r ih =>
              rw [List.map_cons, List.sum_cons, ih]
              show 3 + 3 * r.length = 3 * (r.length + 1)
              omega
          rw [hh, List.length_take]
          omega
        refine ⟨.inl ⟨rfl, _, SqL.of hpl⟩, T.cl_Token, T.n_Token_group, _, rfl, T.cl_Token, T.n_Token_begin, _, rfl, T.cl_Token, T.n_Token_end, _, rfl, T.cl_Token, T.n_Token_begin, _, rfl, _, rfl, _, rfl, by decide, fun q hq => ?_⟩
        have npq : p ≠ q := ne_of_none hpl hq
        refine ⟨_, by rw [upd_ne npq]; exact hpl, _, rfl, ?_, fun c o e => ?_, ?_⟩
        · rw [List.length_map]
          exact Nat.le_trans (show _ + 3 ≤ 40003 by omega) (by decide)
        · rw [upd_ne (ne_of_none e hp), upd_ne (ne_of_none (sm _ _ e) hq)]
          exact sm _ _ e
        · have hse1 := hse kt (List.mem_of_getElem? hkt)
          have e2 : ((kt.halt_ - kt.start : Nat) : Int) = (kt.halt_ : Int) - (kt.start : Int) := by omega
          rw [List.take_succ, hkt]
          unfold Vaunid.tokensAnswer
          rw [List.flatMap_append, List.map_cons, List.map_cons, List.map_append]
          show HO.lst _ = HO.lst (_ :: (_ ++ [V.int _, V.int _, V.int ((kt.halt_ - kt.start : Nat) : Int)]))
          rw [e2]
          rfl
    · obtain ⟨sm, ⟨z, rfl⟩, hpl⟩ := q
      have e1 : as.length = l.length := Paired.length hto
      rw [List.length_map, e1, List.take_length] at hpl
      simp only [tRet, tRetN, tSeq, tNext, tChain, tC, tVar, tOp, tUn, rI0, rI, rU, tTest, tB, tIfS, tIf, tAnd, tOr, tNot, tAndV, tOrV, tNotV, tAsg, gName, tCB, tCons, tNil, tCall, tDrop, tAug, ipI, tSl, tPart, tNoPart, tM0, tM1, rEq, rNe, tIsN, tNotN, scal_ii, scal_ss, scal_bb, rIxS, rIxL, rIxT, rAll, rMax, rSum, rSlL, rSlS, rIn, tLst, tTup, iStr, iList, iTup, tYes, cx_K, cx_P, cx_w, cx_mg, cx_base, cx_N, wipe, L2.start, List.map_cons, List.map_nil, List.length_cons, List.length_nil, List.replicate, List.cons_append, List.nil_append, List.append_nil, List.getElem?_cons_zero, List.getElem?_cons_succ, List.set_cons_zero, List.set_cons_succ, Nat.reduceSub, Nat.reduceAdd, Nat.add_zero, Nat.zero_add, Option.some.injEq, V.int.injEq, V.bl.injEq, V.str.injEq, V.ref.injEq, List.cons.injEq, and_true, true_and, exists_eq_left, exists_eq_left', exists_and_left, exists_eq, exists_eq', reduceCtorEq, false_and, Bool.false_eq_true, if_true, if_false, ite_true, ite_false, decide_eq_true_eq, one_len, one_get, S_eq, S_len, and_assoc, Int.natCast_inj, upd_same, upd_upd, HO.ins.injEq, List.zip_cons_cons, List.zip_nil_left, List.zip_nil_right]
      exact k p H' sm hpl
end
end M

set_option Elab.async false
set_option linter.all false
set_option maxRecDepth 100000
set_option maxHeartbeats 2000000
namespace M
open PySem PySem.Spec PyProof.Rows L2 TL
section
variable {P : Program} {w : World} {K : PySem.W.Frag} {mg : Str → Option Value} {base : Heap}
def ReadF (P : Program) (w : World) (K : PySem.W.Frag) (mg : Str → Option Value) (base : Heap) (C f a : Addr) (t : List Nat) {A : Type} (res : Vaunid.Res A) (post : A → V → Hp → Prop) : Prop := ∃ fd ps sp, FnOk P w K mg base (CX1 P w) 20 f fd ps sp ∧ Binds K fd ps [] ∧ PySem.W.keepIn K (.ref f) = true ∧
  ∀ H Q E, SqL K H a (bs t) → RES C H Q E res post → sp [.ref a] H Q E
def AnsF (P : Program) (w : World) (K : PySem.W.Frag) (mg : Str → Option Value) (base : Heap) (f : Addr) {A : Type} (res : Vaunid.Res A) (post : A → V → Hp → Prop) (ans : A → List Int) : Prop := ∃ fd ps sp, FnOk P w K mg base CX0 20 f fd ps sp ∧ Binds K fd ps [] ∧ PySem.W.keepIn K (.ref f) = true ∧
  ∀ x v H Q E, res = .ok x → post x v H → (∀ (p : Addr) (H' : Hp), Same H H' → H' p = some (.lst ((ans x).map V.int)) → Q (.ref p) H') → sp [v] H Q E
def spAnswered (P : Program) (w : World) (K : PySem.W.Frag) (mg : Str → Option Value) (base : Heap) (C : Addr) : Sp := fun vs H Q _ => ∃ (a f g : Addr) (t : List Nat) (A : Type) (res : Vaunid.Res A) (post : A → V → Hp → Prop) (ans : A → List Int), vs = [.ref a, .ref f, .ref g] ∧ SqL K H a (bs t) ∧
  (t.length ≤ 2000 → ReadF P w K mg base C f a t res post ∧ AnsF P w K mg base g res post ans) ∧ ∀ (p : Addr) (H' : Hp), Same H H' → H' p = some (.lst ((if Vaunid.long t = true then [-1] else Vaunid.reading res ans).map V.int)) → Q (.ref p) H'
theorem ok_answered (T : TX K mg) : FnOk P w K mg base CX0 21 T.f_answered T.d_answered ["text", "reading", "answering"] (spAnswered P w K mg base T.C_Fault) := by
  refine T.F_answered.fn.ok sc_answered (fun vs H Q E h => ?_) (fun cdv A outer s H vs Q E hr h => ?_)
  · obtain ⟨a, f, g, t, A, res, post, ans, rfl, _⟩ := h
    rfl
  · obtain ⟨a, f, g, t, A, res, post, ans, rfl, ht, hF, k⟩ := h
    refine ⟨_, (pss_cons (ps_if (pt_cmpR op_gt (pe_callB call_len_seq rfl T.b_len PySem.boot_len (pa_cons (pv 0) pa_nil)) (pe_g T.g_MOST_BYTES) (nomark _)) (pss_one (ps_ret (pe_lst (pa_cons (pe_g T.g_TEXT_TOO_LONG) pa_nil)))) pss_nil)
      (pss_cons (ps_try (i := 4) (ts := tRet (tLst (tCons (tFldX K (tVar 4) "kind") (tCons (tFldX K (tVar 4) "place") tNil)))) T.X_Fault rfl T.G_Fault (sc_answered).nd rfl rfl rfl rfl
          (fun pn E' D hx => pss_one (ps_set (i := 3) (sc_answered).nd rfl (Or.inl rfl) (pe_callP (P := P) (w := w) (K := K) (mg := mg) (base := base) (CX := CX1 P w) (k := 20) 1 (hr.mono (by decide)) hx (pa_cons (pv 0) pa_nil))))
          (fun a => pss_one (ps_ret (pe_lst (pa_cons (pe_fldX (pv 4) rfl) (pa_cons (pe_fldX (pv 4) rfl) pa_nil))))))
      (pss_one (ps_ret (pe_callv (CX := CX0) (k := 20) 2 (hr.mono (by decide)) pass0 (pa_cons (pv 3) pa_nil)))))), ?_⟩
    simp only [tRet, tRetN, tSeq, tNext, tChain, tC, tVar, tOp, tUn, rI0, rI, rU, tTest, tB, tIfS, tIf, tAnd, tOr, tNot, tAndV, tOrV, tNotV, tAsg, gName, tCB, tCons, tNil, tCall, tDrop, tAug, ipI, tSl, tPart, tNoPart, tM0, tM1, rEq, rNe, tIsN, tNotN, scal_ii, scal_ss, scal_bb, rIxS, rIxL, rIxT, rAll, rMax, rSum, rSlL, rSlS, rIn, tLst, tTup, iStr, iList, iTup, tYes, cx_K, cx_P, cx_w, cx_mg, cx_base, cx_N, wipe, L2.start, List.map_cons, List.map_nil, List.length_cons, List.length_nil, List.replicate, List.cons_append, List.nil_append, List.append_nil, List.getElem?_cons_zero, List.getElem?_cons_succ, List.set_cons_zero, List.set_cons_succ, Nat.reduceSub, Nat.reduceAdd, Nat.add_zero, Nat.zero_add, Option.some.injEq, V.int.injEq, V.bl.injEq, V.str.injEq, V.ref.injEq, List.cons.injEq, and_true, true_and, exists_eq_left, exists_eq_left', exists_and_left, exists_eq, exists_eq', reduceCtorEq, false_and, Bool.false_eq_true, if_true, if_false, ite_true, ite_false, decide_eq_true_eq, one_len, one_get, S_eq, S_len, and_assoc, Int.natCast_inj, upd_same, upd_upd, HO.ins.injEq, List.zip_cons_cons, List.zip_nil_left, List.zip_nil_right, tCallP, tCallV]
    refine ⟨bs t, .inl ht, ?_⟩
    rw [bs_len]
    have elong : Vaunid.long t = decide (2000 < t.length) := rfl
    refine ite2 (fun h => ?_) fun h => ?_
    · rw [elong, decide_eq_true (by omega)] at k
      exact ⟨by decide, fun p hp => k p _ (Same.upd hp) upd_same⟩
    · rw [elong, decide_eq_false (by omega)] at k
      obtain ⟨⟨fd1, ps1, sp1, F1, b1, k1, r1⟩, ⟨fd2, ps2, sp2, F2, b2, k2, r2⟩⟩ := hF (by omega)
      refine ⟨fd1, ps1, sp1, F1, b1, k1, r1 _ _ _ ht ?_⟩
      cases res with
      | ok x =>
        intro v H' s' hp
        exact ⟨fd2, ps2, sp2, F2, b2, k2, r2 x v H' _ _ rfl hp fun p H2 s2 e => k p H2 (s'.trans s2) e⟩
      | error e =>
        intro dx H' s' hdx
        refine ⟨rfl, fun ax dx' e1 hax => ?_⟩
        cases e1
        have hne : dx ≠ ax := ne_of_none hdx hax
        simp only [tRet, tRetN, tSeq, tNext, tChain, tC, tVar, tOp, tUn, rI0, rI, rU, tTest, tB, tIfS, tIf, tAnd, tOr, tNot, tAndV, tOrV, tNotV, tAsg, gName, tCB, tCons, tNil, tCall, tDrop, tAug, ipI, tSl, tPart, tNoPart, tM0, tM1, rEq, rNe, tIsN, tNotN, scal_ii, scal_ss, scal_bb, rIxS, rIxL, rIxT, rAll, rMax, rSum, rSlL, rSlS, rIn, tLst, tTup, iStr, iList, iTup, tYes, cx_K, cx_P, cx_w, cx_mg, cx_base, cx_N, wipe, L2.start, List.map_cons, List.map_nil, List.length_cons, List.length_nil, List.replicate, List.cons_append, List.nil_append, List.append_nil, List.getElem?_cons_zero, List.getElem?_cons_succ, List.set_cons_zero, List.set_cons_succ, Nat.reduceSub, Nat.reduceAdd, Nat.add_zero, Nat.zero_add, Option.some.injEq, V.int.injEq, V.bl.injEq, V.str.injEq, V.ref.injEq, List.cons.injEq, and_true, true_and, exists_eq_left, exists_eq_left', exists_and_left, exists_eq, exists_eq', reduceCtorEq, false_and, Bool.false_eq_true, if_true, if_false, ite_true, ite_false, decide_eq_true_eq, one_len, one_get, S_eq, S_len, and_assoc, Int.natCast_inj, upd_same, upd_upd, HO.ins.injEq, List.zip_cons_cons, List.zip_nil_left, List.zip_nil_right, tFldX]
        have hd2 : upd H' ax (XGot T.C_Fault ax dx) dx = some (XDic dx (faultFs (e.kind : Int) (e.place : Int))) := by rw [upd_ne hne]; exact hdx
        exact ⟨_, _, _, rfl, _, hd2, T.X_Fault, T.n_Fault_kind, _, rfl, _, _, _, rfl, _, hd2, T.X_Fault, T.n_Fault_place, _, rfl, by decide, fun p hp => k p _ (s'.trans ((Same.upd hax).trans (Same.upd hp))) upd_same⟩
theorem toks_facts (core : Bool) : ∀ (n p : Nat) (s : List Nat) (l : List Vaunid.Token), Vaunid.tokens core n p s = .ok l → l.length ≤ s.length ∧ ∀ k ∈ l, k.start ≤ k.halt_
  | n, p, [], l, h => by
    have : l = [] := by cases n <;> (cases h; rfl)
    subst this
    simp
  | 0, p, c :: r, l, h => by
    cases h
    simp
  | n + 1, p, c :: r, l, h => by
    unfold Vaunid.tokens at h
    rw [List.length_cons]
    split at h
    · have := toks_facts core n _ r l h
      exact ⟨by omega, this.2⟩
    · split at h
      · have hl := dw_len Vaunid.inComment r
        cases q : r.dropWhile Vaunid.inComment with
        | nil => rw [q] at h; cases h
        | cons d s =>
          rw [q] at h hl
          rw [List.length_cons] at hl
          by_cases hd : d = 125
          · subst hd
            have := toks_facts core n _ s l h
            exact ⟨by omega, this.2⟩
          · split at h
            · rename_i z; cases z
            · rename_i z; cases z; exact absurd rfl hd
            · cases h
      · cases q : Vaunid.token core p (c :: r) with
        | error e => rw [q] at h; cases h
        | ok x =>
          obtain ⟨k, s⟩ := x
          rw [q] at h
          dsimp only at h
          have tf := token_fact q
          have hs : s.length ≤ r.length := by
            have h3 := tf.lt
            rw [tf.rest, List.length_drop, List.length_cons]
            omega
          cases q2 : Vaunid.tokens core n k.halt_ s with
          | error e => rw [q2] at h; cases h
          | ok l2 =>
            rw [q2] at h
            cases h
            have := toks_facts core n _ s l2 q2
            rw [List.length_cons]
            refine ⟨by omega, fun y hy => ?_⟩
            rcases List.mem_cons.mp hy with e | e
            · rw [e, tf.start]
              exact Nat.le_of_lt tf.lt
            · exact this.2 y e
def spMain1 (f : List Int → List Int) (K : PySem.W.Frag) : Sp := fun vs H Q _ => ∃ (a : Addr) (ns : List Int), vs = [.ref a] ∧ SqL K H a (ns.map V.int) ∧ ns.length ≤ 10000 ∧ (∀ n ∈ ns, 0 ≤ n ∧ n ≤ 255) ∧ ∀ (H' : Hp) (p : Addr), H' p = some (.lst ((f ns).map V.int)) → Q (.ref p) H'
theorem ints_bs {ns : List Int} (h : ∀ n ∈ ns, 0 ≤ n ∧ n ≤ 255) : ns.map V.int = bs (ns.map Int.toNat) := by
  unfold bs
  rw [List.map_map]
  refine List.map_congr_left fun n hn => ?_
  show V.int n = V.int ((n.toNat : Nat) : Int)
  rw [Int.toNat_of_nonneg (h n hn).1]
theorem text_of {ns : List Int} (h : ∀ n ∈ ns, 0 ≤ n ∧ n ≤ 255) : VaunidNeutral.text? ns = some (ns.map Int.toNat) := by
  unfold VaunidNeutral.text?
  rw [if_pos]
  unfold NeutralIO.bytes
  exact List.all_eq_true.mpr fun n hn => by have := h n hn; simp; omega
theorem due_tokens {ns : List Int} (h : ∀ n ∈ ns, 0 ≤ n ∧ n ≤ 255) : PyVaunid.tokens ns = if Vaunid.long (ns.map Int.toNat) = true then [-1] else Vaunid.reading (Vaunid.allTokens false (ns.map Int.toNat)) Vaunid.tokensAnswer := by
  have e : VaunidNeutral.callOf [[0], ns] = some (.tokens (ns.map Int.toNat)) := by
    show (VaunidNeutral.text? ns).map _ = _
    rw [text_of h]
    rfl
  unfold PyVaunid.tokens VaunidNeutral.step
  rw [e]
  rfl
theorem ok_main (T : TX K mg) : FnOk P w K mg base CX0 22 T.f_tokens T.d_tokens ["text"] (spMain1 PyVaunid.tokens K) := by
  have G_answered := ok_answered (P := P) (w := w) (base := base) T
  refine T.F_tokens.fn.ok sc_tokens (fun vs H Q E h => ?_) (fun cdv A outer s H vs Q E hr h => ?_)
  · obtain ⟨a, ns, rfl, _⟩ := h
    rfl
  · obtain ⟨a, ns, rfl, ht, hl, hn, k⟩ := h
    refine ⟨_, (pss_one (ps_ret (pe_call G_answered (hr.mono (by decide)) rfl T.F_answered.mg T.F_answered.fn.kp T.F_answered.b .nil pass0 (pa_cons (pv 0) (pa_cons (pe_r T.F_surface_tokens.mg) (pa_cons (pe_r T.F_tokens_answer.mg) pa_nil)))))), ?_⟩
    simp only [tRet, tRetN, tSeq, tNext, tChain, tC, tVar, tOp, tUn, rI0, rI, rU, tTest, tB, tIfS, tIf, tAnd, tOr, tNot, tAndV, tOrV, tNotV, tAsg, gName, tCB, tCons, tNil, tCall, tDrop, tAug, ipI, tSl, tPart, tNoPart, tM0, tM1, rEq, rNe, tIsN, tNotN, scal_ii, scal_ss, scal_bb, rIxS, rIxL, rIxT, rAll, rMax, rSum, rSlL, rSlS, rIn, tLst, tTup, iStr, iList, iTup, tYes, cx_K, cx_P, cx_w, cx_mg, cx_base, cx_N, wipe, L2.start, List.map_cons, List.map_nil, List.length_cons, List.length_nil, List.replicate, List.cons_append, List.nil_append, List.append_nil, List.getElem?_cons_zero, List.getElem?_cons_succ, List.set_cons_zero, List.set_cons_succ, Nat.reduceSub, Nat.reduceAdd, Nat.add_zero, Nat.zero_add, Option.some.injEq, V.int.injEq, V.bl.injEq, V.str.injEq, V.ref.injEq, List.cons.injEq, and_true, true_and, exists_eq_left, exists_eq_left', exists_and_left, exists_eq, exists_eq', reduceCtorEq, false_and, Bool.false_eq_true, if_true, if_false, ite_true, ite_false, decide_eq_true_eq, one_len, one_get, S_eq, S_len, and_assoc, Int.natCast_inj, upd_same, upd_upd, HO.ins.injEq, List.zip_cons_cons, List.zip_nil_left, List.zip_nil_right]
    rw [ints_bs hn] at ht
    rw [due_tokens hn] at k
    refine ⟨a, _, _, ns.map Int.toNat, _, Vaunid.allTokens false (ns.map Int.toNat), postToks T.C_Amount T.C_Token, Vaunid.tokensAnswer, rfl, ht, fun h2 => ⟨?_, ?_⟩, fun p H' _ e => k H' p e⟩
    · exact ⟨_, _, _, (ok_surface_tokens T).mono (by decide), T.F_surface_tokens.b, T.F_surface_tokens.fn.kp, fun H Q E h1 h3 => ⟨a, _, rfl, h1, by rw [List.length_map]; omega, h3⟩⟩
    · refine ⟨_, _, _, (ok_tokens_answer T).mono (by decide), T.F_tokens_answer.b, T.F_tokens_answer.fn.kp, fun x v H Q E e h1 h3 => ?_⟩
      have tf := toks_facts false _ _ _ _ e
      rw [List.length_map] at tf
      exact ⟨x, v, rfl, h1, by omega, tf.2, h3⟩
end
end M

set_option Elab.async false
set_option linter.all false
set_option maxRecDepth 100000
set_option maxHeartbeats 4000000
namespace M
open PySem PySem.Spec PyProof.Rows L2 TL
open PySem.W (Codec)
theorem sqt_of {K : PySem.W.Frag} {H : Hp} {a : Addr} {od : Option Addr} {its : Array Value} {n : Nat} {sl : Array (Option Value)} {vs : List V} (l : K.lookup a = some ⟨.type "tuple", od, .seq its n, sl⟩) (v : Vals vs its.toList) (hs : vs.length ≤ sizeLine) : SqT K H a vs :=
  .inr ⟨_, its, n, l, rfl, rfl, by rw [← Array.length_toList, ← L2.Vals.length v]; exact hs, v⟩
theorem all_mk {P : Program} {w : World} {K : PySem.W.Frag} {h : Heap} {mg : Str → Option Value} {fa : Addr} (X : K.In h) (G : h.Ns mainGlobals mg) (hfa : mg "tokens" = some (.ref fa))
    {t_BLANK : Tok}
    {t_LINE_END : Tok}
    {t_COMMENT_BEGIN : Tok}
    {t_COMMENT_END : Tok}
    {t_MEASURE_BEGIN : Tok}
    {t_MEASURE_END : Tok}
    {a_FRACTION_SIGNS : Addr} {od_FRACTION_SIGNS : Option Addr} {its_FRACTION_SIGNS : Array Value} {n_FRACTION_SIGNS : Nat} {sl_FRACTION_SIGNS : Array (Option Value)}
    {t_FIRST_PRINTED : Tok}
    {t_LAST_PRINTED : Tok}
    {t_MOST_SIGNS : Tok}
    {t_PRINTED : Tok}
    {a_TAKEN_WORDS : Addr} {od_TAKEN_WORDS : Option Addr} {its_TAKEN_WORDS : Array Value} {n_TAKEN_WORDS : Nat} {sl_TAKEN_WORDS : Array (Option Value)}
    {t_MOST_DIGITS : Tok}
    {t_FIRST_TOO_GREAT : Tok}
    {t_MOST_POWER_DIGITS : Tok}
    {t_WORD_GROUP : Tok}
    {t_NUMBER_GROUP : Tok}
    {t_SIGN_GROUP : Tok}
    {a_SURFACE_SIGNS : Addr} {od_SURFACE_SIGNS : Option Addr} {its_SURFACE_SIGNS : Array Value} {n_SURFACE_SIGNS : Nat} {sl_SURFACE_SIGNS : Array (Option Value)}
    {t_MOST_BYTES : Tok}
    {t_TEXT_TOO_LONG : Tok}
    {C_Fault : Addr}
    {f_Fault___init__ : Addr} {oc_Fault___init__ kV_Fault___init__ dc_Fault___init__ pm_Fault___init__ cd_Fault___init__ ct_Fault___init__ : Value} {od_Fault___init__ an_Fault___init__ : Option Addr} {sl_Fault___init__ : Array (Option Value)}
    {N_Fault : Addr} {nm_Fault qq_Fault : Str} {bs_Fault sub_Fault : List Value} {sn_Fault : List Str} {ab_Fault : Bool} {col_Fault : Option Bool} {dd_Fault : Option Addr} {x0_Fault x1_Fault x2_Fault x3_Fault x5_Fault : Option Value}
    {C_Amount : Addr}
    {f_Amount___init__ : Addr} {oc_Amount___init__ kV_Amount___init__ dc_Amount___init__ pm_Amount___init__ cd_Amount___init__ ct_Amount___init__ : Value} {od_Amount___init__ an_Amount___init__ : Option Addr} {sl_Amount___init__ : Array (Option Value)}
    {C_Token : Addr}
    {f_Token___init__ : Addr} {oc_Token___init__ kV_Token___init__ dc_Token___init__ pm_Token___init__ cd_Token___init__ ct_Token___init__ : Value} {od_Token___init__ an_Token___init__ : Option Addr} {sl_Token___init__ : Array (Option Value)}
    {f_is_letter : Addr} {oc_is_letter kV_is_letter dc_is_letter pm_is_letter cd_is_letter ct_is_letter : Value} {od_is_letter an_is_letter : Option Addr} {sl_is_letter : Array (Option Value)}
    {f_is_digit : Addr} {oc_is_digit kV_is_digit dc_is_digit pm_is_digit cd_is_digit ct_is_digit : Value} {od_is_digit an_is_digit : Option Addr} {sl_is_digit : Array (Option Value)}
    {f_is_in_word : Addr} {oc_is_in_word kV_is_in_word dc_is_in_word pm_is_in_word cd_is_in_word ct_is_in_word : Value} {od_is_in_word an_is_in_word : Option Addr} {sl_is_in_word : Array (Option Value)}
    {f_is_short_word : Addr} {oc_is_short_word kV_is_short_word dc_is_short_word pm_is_short_word cd_is_short_word ct_is_short_word : Value} {od_is_short_word an_is_short_word : Option Addr} {sl_is_short_word : Array (Option Value)}
    {f_is_space : Addr} {oc_is_space kV_is_space dc_is_space pm_is_space cd_is_space ct_is_space : Value} {od_is_space an_is_space : Option Addr} {sl_is_space : Array (Option Value)}
    {f_is_in_comment : Addr} {oc_is_in_comment kV_is_in_comment dc_is_in_comment pm_is_in_comment cd_is_in_comment ct_is_in_comment : Value} {od_is_in_comment an_is_in_comment : Option Addr} {sl_is_in_comment : Array (Option Value)}
    {f_is_before_measure_end : Addr} {oc_is_before_measure_end kV_is_before_measure_end dc_is_before_measure_end pm_is_before_measure_end cd_is_before_measure_end ct_is_before_measure_end : Value} {od_is_before_measure_end an_is_before_measure_end : Option Addr} {sl_is_before_measure_end : Array (Option Value)}
    {f_run_end : Addr} {oc_run_end kV_run_end dc_run_end pm_run_end cd_run_end ct_run_end : Value} {od_run_end an_run_end : Option Addr} {sl_run_end : Array (Option Value)}
    {f_sign_of : Addr} {oc_sign_of kV_sign_of dc_sign_of pm_sign_of cd_sign_of ct_sign_of : Value} {od_sign_of an_sign_of : Option Addr} {sl_sign_of : Array (Option Value)}
    {f_signs_of : Addr} {oc_signs_of kV_signs_of dc_signs_of pm_signs_of cd_signs_of ct_signs_of : Value} {od_signs_of an_signs_of : Option Addr} {sl_signs_of : Array (Option Value)}
    {f_number_end : Addr} {oc_number_end kV_number_end dc_number_end pm_number_end cd_number_end ct_number_end : Value} {od_number_end an_number_end : Option Addr} {sl_number_end : Array (Option Value)}
    {f_fraction_of : Addr} {oc_fraction_of kV_fraction_of dc_fraction_of pm_fraction_of cd_fraction_of ct_fraction_of : Value} {od_fraction_of an_fraction_of : Option Addr} {sl_fraction_of : Array (Option Value)}
    {f_lowest : Addr} {oc_lowest kV_lowest dc_lowest pm_lowest cd_lowest ct_lowest : Value} {od_lowest an_lowest : Option Addr} {sl_lowest : Array (Option Value)}
    {f_common_divisor : Addr} {oc_common_divisor kV_common_divisor dc_common_divisor pm_common_divisor cd_common_divisor ct_common_divisor : Value} {od_common_divisor an_common_divisor : Option Addr} {sl_common_divisor : Array (Option Value)}
    {f_is_measure : Addr} {oc_is_measure kV_is_measure dc_is_measure pm_is_measure cd_is_measure ct_is_measure : Value} {od_is_measure an_is_measure : Option Addr} {sl_is_measure : Array (Option Value)}
    {f_is_factor : Addr} {oc_is_factor kV_is_factor dc_is_factor pm_is_factor cd_is_factor ct_is_factor : Value} {od_is_factor an_is_factor : Option Addr} {sl_is_factor : Array (Option Value)}
    {f_is_power : Addr} {oc_is_power kV_is_power dc_is_power pm_is_power cd_is_power ct_is_power : Value} {od_is_power an_is_power : Option Addr} {sl_is_power : Array (Option Value)}
    {f_measured : Addr} {oc_measured kV_measured dc_measured pm_measured cd_measured ct_measured : Value} {od_measured an_measured : Option Addr} {sl_measured : Array (Option Value)}
    {f_negated : Addr} {oc_negated kV_negated dc_negated pm_negated cd_negated ct_negated : Value} {od_negated an_negated : Option Addr} {sl_negated : Array (Option Value)}
    {f_surface_tokens : Addr} {oc_surface_tokens kV_surface_tokens dc_surface_tokens pm_surface_tokens cd_surface_tokens ct_surface_tokens : Value} {od_surface_tokens an_surface_tokens : Option Addr} {sl_surface_tokens : Array (Option Value)}
    {f_tokens_between : Addr} {oc_tokens_between kV_tokens_between dc_tokens_between pm_tokens_between cd_tokens_between ct_tokens_between : Value} {od_tokens_between an_tokens_between : Option Addr} {sl_tokens_between : Array (Option Value)}
    {f_surface_gap_end : Addr} {oc_surface_gap_end kV_surface_gap_end dc_surface_gap_end pm_surface_gap_end cd_surface_gap_end ct_surface_gap_end : Value} {od_surface_gap_end an_surface_gap_end : Option Addr} {sl_surface_gap_end : Array (Option Value)}
    {f_comment_end : Addr} {oc_comment_end kV_comment_end dc_comment_end pm_comment_end cd_comment_end ct_comment_end : Value} {od_comment_end an_comment_end : Option Addr} {sl_comment_end : Array (Option Value)}
    {f_surface_token : Addr} {oc_surface_token kV_surface_token dc_surface_token pm_surface_token cd_surface_token ct_surface_token : Value} {od_surface_token an_surface_token : Option Addr} {sl_surface_token : Array (Option Value)}
    {f_word_token : Addr} {oc_word_token kV_word_token dc_word_token pm_word_token cd_word_token ct_word_token : Value} {od_word_token an_word_token : Option Addr} {sl_word_token : Array (Option Value)}
    {f_number_token : Addr} {oc_number_token kV_number_token dc_number_token pm_number_token cd_number_token ct_number_token : Value} {od_number_token an_number_token : Option Addr} {sl_number_token : Array (Option Value)}
    {f_measure_at : Addr} {oc_measure_at kV_measure_at dc_measure_at pm_measure_at cd_measure_at ct_measure_at : Value} {od_measure_at an_measure_at : Option Addr} {sl_measure_at : Array (Option Value)}
    {f_sign_token : Addr} {oc_sign_token kV_sign_token dc_sign_token pm_sign_token cd_sign_token ct_sign_token : Value} {od_sign_token an_sign_token : Option Addr} {sl_sign_token : Array (Option Value)}
    {f_tokens : Addr} {oc_tokens kV_tokens dc_tokens pm_tokens cd_tokens ct_tokens : Value} {od_tokens an_tokens : Option Addr} {sl_tokens : Array (Option Value)}
    {f_answered : Addr} {oc_answered kV_answered dc_answered pm_answered cd_answered ct_answered : Value} {od_answered an_answered : Option Addr} {sl_answered : Array (Option Value)}
    {f_tokens_answer : Addr} {oc_tokens_answer kV_tokens_answer dc_tokens_answer pm_tokens_answer cd_tokens_answer ct_tokens_answer : Value} {od_tokens_answer an_tokens_answer : Option Addr} {sl_tokens_answer : Array (Option Value)}
    (g_BLANK : PySem.W.nsIn K mainGlobals "BLANK" = some (some (.int 32 t_BLANK)))
    (g_LINE_END : PySem.W.nsIn K mainGlobals "LINE_END" = some (some (.int 10 t_LINE_END)))
    (g_COMMENT_BEGIN : PySem.W.nsIn K mainGlobals "COMMENT_BEGIN" = some (some (.int 123 t_COMMENT_BEGIN)))
    (g_COMMENT_END : PySem.W.nsIn K mainGlobals "COMMENT_END" = some (some (.int 125 t_COMMENT_END)))
    (g_MEASURE_BEGIN : PySem.W.nsIn K mainGlobals "MEASURE_BEGIN" = some (some (.int 91 t_MEASURE_BEGIN)))
    (g_MEASURE_END : PySem.W.nsIn K mainGlobals "MEASURE_END" = some (some (.int 93 t_MEASURE_END)))
    (g_FRACTION_SIGNS : PySem.W.nsIn K mainGlobals "FRACTION_SIGNS" = some (some (.ref a_FRACTION_SIGNS)))
    (l_FRACTION_SIGNS : K.lookup a_FRACTION_SIGNS = some ⟨.type "tuple", od_FRACTION_SIGNS, .seq its_FRACTION_SIGNS n_FRACTION_SIGNS, sl_FRACTION_SIGNS⟩)
    (v_FRACTION_SIGNS : Vals [V.int 46, V.int 47] its_FRACTION_SIGNS.toList)
    (g_FIRST_PRINTED : PySem.W.nsIn K mainGlobals "FIRST_PRINTED" = some (some (.int 32 t_FIRST_PRINTED)))
    (g_LAST_PRINTED : PySem.W.nsIn K mainGlobals "LAST_PRINTED" = some (some (.int 126 t_LAST_PRINTED)))
    (g_MOST_SIGNS : PySem.W.nsIn K mainGlobals "MOST_SIGNS" = some (some (.int 12 t_MOST_SIGNS)))
    (g_PRINTED : PySem.W.nsIn K mainGlobals "PRINTED" = some (some (.str " !\"#$?&'()*+,-./0123456789:;<=>?@ABCDEFGHIJKLMNOPQRSTUVWXYZ[\\]^_`abcdefghijklmnopqrstuvwxyz{|}~" t_PRINTED)))
    (g_TAKEN_WORDS : PySem.W.nsIn K mainGlobals "TAKEN_WORDS" = some (some (.ref a_TAKEN_WORDS)))
    (l_TAKEN_WORDS : K.lookup a_TAKEN_WORDS = some ⟨.type "tuple", od_TAKEN_WORDS, .seq its_TAKEN_WORDS n_TAKEN_WORDS, sl_TAKEN_WORDS⟩)
    (v_TAKEN_WORDS : Vals [V.str "fn", V.str "let", V.str "rec", V.str "if", V.str "cons", V.str "case", V.str "pair", V.str "fst", V.str "snd", V.str "fold", V.str "root", V.str "floor", V.str "rest", V.str "true", V.str "false", V.str "nil", V.str "truth", V.str "num", V.str "list", V.str "base", V.str "unit", V.str "def", V.str "fun", V.str "in", V.str "then", V.str "else", V.str "match", V.str "with", V.str "and", V.str "or", V.str "not"] its_TAKEN_WORDS.toList)
    (g_MOST_DIGITS : PySem.W.nsIn K mainGlobals "MOST_DIGITS" = some (some (.int 12 t_MOST_DIGITS)))
    (g_FIRST_TOO_GREAT : PySem.W.nsIn K mainGlobals "FIRST_TOO_GREAT" = some (some (.int 1000000000000 t_FIRST_TOO_GREAT)))
    (g_MOST_POWER_DIGITS : PySem.W.nsIn K mainGlobals "MOST_POWER_DIGITS" = some (some (.int 2 t_MOST_POWER_DIGITS)))
    (g_WORD_GROUP : PySem.W.nsIn K mainGlobals "WORD_GROUP" = some (some (.int 0 t_WORD_GROUP)))
    (g_NUMBER_GROUP : PySem.W.nsIn K mainGlobals "NUMBER_GROUP" = some (some (.int 1 t_NUMBER_GROUP)))
    (g_SIGN_GROUP : PySem.W.nsIn K mainGlobals "SIGN_GROUP" = some (some (.int 2 t_SIGN_GROUP)))
    (g_SURFACE_SIGNS : PySem.W.nsIn K mainGlobals "SURFACE_SIGNS" = some (some (.ref a_SURFACE_SIGNS)))
    (l_SURFACE_SIGNS : K.lookup a_SURFACE_SIGNS = some ⟨.type "tuple", od_SURFACE_SIGNS, .seq its_SURFACE_SIGNS n_SURFACE_SIGNS, sl_SURFACE_SIGNS⟩)
    (v_SURFACE_SIGNS : Vals [V.str "->", V.str "::", V.str "<=", V.str ">=", V.str "<>", V.str "|", V.str "<", V.str ">", V.str "=", V.str "+", V.str "-", V.str "*", V.str "/", V.str "^", V.str "(", V.str ")", V.str "[", V.str "]", V.str ","] its_SURFACE_SIGNS.toList)
    (g_MOST_BYTES : PySem.W.nsIn K mainGlobals "MOST_BYTES" = some (some (.int 2000 t_MOST_BYTES)))
    (g_TEXT_TOO_LONG : PySem.W.nsIn K mainGlobals "TEXT_TOO_LONG" = some (some (.int (-1) t_TEXT_TOO_LONG)))
    (b_all : PySem.W.nsIn K mainGlobals "all" = some none)
    (b_int : PySem.W.nsIn K mainGlobals "int" = some none)
    (b_len : PySem.W.nsIn K mainGlobals "len" = some none)
    (b_max : PySem.W.nsIn K mainGlobals "max" = some none)
    (b_ord : PySem.W.nsIn K mainGlobals "ord" = some none)
    (G_Fault : PySem.W.nsIn K mainGlobals "Fault" = some (some (.ref C_Fault)))
    (a_Fault___init__ : PySem.W.findIn K (.ref C_Fault) "__init__" = some (some (.ref f_Fault___init__)))
    (i_Fault___init__ : PySem.W.isFn K (.ref f_Fault___init__) = true)
    (l_Fault___init__ : K.lookup f_Fault___init__ = some ⟨oc_Fault___init__, od_Fault___init__, .func (PySem.W.fnOf "__init__" "Fault.__init__" (defArgs s_Fault___init__) (defBody s_Fault___init__) (defScope s_Fault___init__) .none kV_Fault___init__ dc_Fault___init__ pm_Fault___init__ an_Fault___init__ cd_Fault___init__ ct_Fault___init__), sl_Fault___init__⟩)
    (c_Fault___init__ : PySem.W.codeIn K cd_Fault___init__ "Fault.__init__" = true)
    (k_Fault___init__ : PySem.W.keepIn K (.ref f_Fault___init__) = true)
    (kc_Fault : PySem.W.keepIn K (.ref C_Fault) = true)
    (hd_Fault : PySem.W.hasDictIn K C_Fault = true)
    (sa_Fault : PySem.W.findIn K (.ref C_Fault) "__setattr__" = some (some (.builtin "object.__setattr__")))
    (lx_Fault : K.lookup C_Fault = some (excClassObj nm_Fault qq_Fault C_Fault N_Fault bs_Fault aboveX true sn_Fault sub_Fault ab_Fault col_Fault dd_Fault x0_Fault x1_Fault x2_Fault x3_Fault x5_Fault "Exception.__new__"))
    (ga_Fault : PySem.W.findIn K (.ref C_Fault) "__getattribute__" = some (some (.builtin "BaseException.__getattribute__")))
    (gn_Fault : PySem.W.findIn K (.ref C_Fault) "__getattr__" = some none)
    (n_Fault_kind : PySem.W.findIn K (.ref C_Fault) "kind" = some none)
    (n_Fault_place : PySem.W.findIn K (.ref C_Fault) "place" = some none)
    (G_Amount : PySem.W.nsIn K mainGlobals "Amount" = some (some (.ref C_Amount)))
    (a_Amount___init__ : PySem.W.findIn K (.ref C_Amount) "__init__" = some (some (.ref f_Amount___init__)))
    (i_Amount___init__ : PySem.W.isFn K (.ref f_Amount___init__) = true)
    (l_Amount___init__ : K.lookup f_Amount___init__ = some ⟨oc_Amount___init__, od_Amount___init__, .func (PySem.W.fnOf "__init__" "Amount.__init__" (defArgs s_Amount___init__) (defBody s_Amount___init__) (defScope s_Amount___init__) .none kV_Amount___init__ dc_Amount___init__ pm_Amount___init__ an_Amount___init__ cd_Amount___init__ ct_Amount___init__), sl_Amount___init__⟩)
    (c_Amount___init__ : PySem.W.codeIn K cd_Amount___init__ "Amount.__init__" = true)
    (k_Amount___init__ : PySem.W.keepIn K (.ref f_Amount___init__) = true)
    (kc_Amount : PySem.W.keepIn K (.ref C_Amount) = true)
    (hd_Amount : PySem.W.hasDictIn K C_Amount = true)
    (sa_Amount : PySem.W.findIn K (.ref C_Amount) "__setattr__" = some (some (.builtin "object.__setattr__")))
    (pg_Amount : PySem.W.plainGet K C_Amount Str.empty = true)
    (po_Amount : PySem.W.plainOver K C_Amount = true)
    (mk_Amount : PySem.W.makesIn K C_Amount = true)
    (n_Amount_over : PySem.W.findIn K (.ref C_Amount) "over" = some none)
    (n_Amount_under : PySem.W.findIn K (.ref C_Amount) "under" = some none)
    (n_Amount_measure : PySem.W.findIn K (.ref C_Amount) "measure" = some none)
    (G_Token : PySem.W.nsIn K mainGlobals "Token" = some (some (.ref C_Token)))
    (a_Token___init__ : PySem.W.findIn K (.ref C_Token) "__init__" = some (some (.ref f_Token___init__)))
    (i_Token___init__ : PySem.W.isFn K (.ref f_Token___init__) = true)
    (l_Token___init__ : K.lookup f_Token___init__ = some ⟨oc_Token___init__, od_Token___init__, .func (PySem.W.fnOf "__init__" "Token.__init__" (defArgs s_Token___init__) (defBody s_Token___init__) (defScope s_Token___init__) .none kV_Token___init__ dc_Token___init__ pm_Token___init__ an_Token___init__ cd_Token___init__ ct_Token___init__), sl_Token___init__⟩)
    (c_Token___init__ : PySem.W.codeIn K cd_Token___init__ "Token.__init__" = true)
    (k_Token___init__ : PySem.W.keepIn K (.ref f_Token___init__) = true)
    (kc_Token : PySem.W.keepIn K (.ref C_Token) = true)
    (hd_Token : PySem.W.hasDictIn K C_Token = true)
    (sa_Token : PySem.W.findIn K (.ref C_Token) "__setattr__" = some (some (.builtin "object.__setattr__")))
    (pg_Token : PySem.W.plainGet K C_Token Str.empty = true)
    (po_Token : PySem.W.plainOver K C_Token = true)
    (mk_Token : PySem.W.makesIn K C_Token = true)
    (n_Token_group : PySem.W.findIn K (.ref C_Token) "group" = some none)
    (n_Token_kind : PySem.W.findIn K (.ref C_Token) "kind" = some none)
    (n_Token_begin : PySem.W.findIn K (.ref C_Token) "begin" = some none)
    (n_Token_end : PySem.W.findIn K (.ref C_Token) "end" = some none)
    (n_Token_content : PySem.W.findIn K (.ref C_Token) "content" = some none)
    (a_is_letter : PySem.W.nsIn K mainGlobals "is_letter" = some (some (.ref f_is_letter)))
    (l_is_letter : K.lookup f_is_letter = some ⟨oc_is_letter, od_is_letter, .func (PySem.W.fnOf "is_letter" "is_letter" (defArgs s_is_letter) (defBody s_is_letter) (defScope s_is_letter) .none kV_is_letter dc_is_letter pm_is_letter an_is_letter cd_is_letter ct_is_letter), sl_is_letter⟩)
    (c_is_letter : PySem.W.codeIn K cd_is_letter "is_letter" = true)
    (k_is_letter : PySem.W.keepIn K (.ref f_is_letter) = true)
    (a_is_digit : PySem.W.nsIn K mainGlobals "is_digit" = some (some (.ref f_is_digit)))
    (l_is_digit : K.lookup f_is_digit = some ⟨oc_is_digit, od_is_digit, .func (PySem.W.fnOf "is_digit" "is_digit" (defArgs s_is_digit) (defBody s_is_digit) (defScope s_is_digit) .none kV_is_digit dc_is_digit pm_is_digit an_is_digit cd_is_digit ct_is_digit), sl_is_digit⟩)
    (c_is_digit : PySem.W.codeIn K cd_is_digit "is_digit" = true)
    (k_is_digit : PySem.W.keepIn K (.ref f_is_digit) = true)
    (a_is_in_word : PySem.W.nsIn K mainGlobals "is_in_word" = some (some (.ref f_is_in_word)))
    (l_is_in_word : K.lookup f_is_in_word = some ⟨oc_is_in_word, od_is_in_word, .func (PySem.W.fnOf "is_in_word" "is_in_word" (defArgs s_is_in_word) (defBody s_is_in_word) (defScope s_is_in_word) .none kV_is_in_word dc_is_in_word pm_is_in_word an_is_in_word cd_is_in_word ct_is_in_word), sl_is_in_word⟩)
    (c_is_in_word : PySem.W.codeIn K cd_is_in_word "is_in_word" = true)
    (k_is_in_word : PySem.W.keepIn K (.ref f_is_in_word) = true)
    (a_is_short_word : PySem.W.nsIn K mainGlobals "is_short_word" = some (some (.ref f_is_short_word)))
    (l_is_short_word : K.lookup f_is_short_word = some ⟨oc_is_short_word, od_is_short_word, .func (PySem.W.fnOf "is_short_word" "is_short_word" (defArgs s_is_short_word) (defBody s_is_short_word) (defScope s_is_short_word) .none kV_is_short_word dc_is_short_word pm_is_short_word an_is_short_word cd_is_short_word ct_is_short_word), sl_is_short_word⟩)
    (c_is_short_word : PySem.W.codeIn K cd_is_short_word "is_short_word" = true)
    (k_is_short_word : PySem.W.keepIn K (.ref f_is_short_word) = true)
    (a_is_space : PySem.W.nsIn K mainGlobals "is_space" = some (some (.ref f_is_space)))
    (l_is_space : K.lookup f_is_space = some ⟨oc_is_space, od_is_space, .func (PySem.W.fnOf "is_space" "is_space" (defArgs s_is_space) (defBody s_is_space) (defScope s_is_space) .none kV_is_space dc_is_space pm_is_space an_is_space cd_is_space ct_is_space), sl_is_space⟩)
    (c_is_space : PySem.W.codeIn K cd_is_space "is_space" = true)
    (k_is_space : PySem.W.keepIn K (.ref f_is_space) = true)
    (a_is_in_comment : PySem.W.nsIn K mainGlobals "is_in_comment" = some (some (.ref f_is_in_comment)))
    (l_is_in_comment : K.lookup f_is_in_comment = some ⟨oc_is_in_comment, od_is_in_comment, .func (PySem.W.fnOf "is_in_comment" "is_in_comment" (defArgs s_is_in_comment) (defBody s_is_in_comment) (defScope s_is_in_comment) .none kV_is_in_comment dc_is_in_comment pm_is_in_comment an_is_in_comment cd_is_in_comment ct_is_in_comment), sl_is_in_comment⟩)
    (c_is_in_comment : PySem.W.codeIn K cd_is_in_comment "is_in_comment" = true)
    (k_is_in_comment : PySem.W.keepIn K (.ref f_is_in_comment) = true)
    (a_is_before_measure_end : PySem.W.nsIn K mainGlobals "is_before_measure_end" = some (some (.ref f_is_before_measure_end)))
    (l_is_before_measure_end : K.lookup f_is_before_measure_end = some ⟨oc_is_before_measure_end, od_is_before_measure_end, .func (PySem.W.fnOf "is_before_measure_end" "is_before_measure_end" (defArgs s_is_before_measure_end) (defBody s_is_before_measure_end) (defScope s_is_before_measure_end) .none kV_is_before_measure_end dc_is_before_measure_end pm_is_before_measure_end an_is_before_measure_end cd_is_before_measure_end ct_is_before_measure_end), sl_is_before_measure_end⟩)
    (c_is_before_measure_end : PySem.W.codeIn K cd_is_before_measure_end "is_before_measure_end" = true)
    (k_is_before_measure_end : PySem.W.keepIn K (.ref f_is_before_measure_end) = true)
    (a_run_end : PySem.W.nsIn K mainGlobals "run_end" = some (some (.ref f_run_end)))
    (l_run_end : K.lookup f_run_end = some ⟨oc_run_end, od_run_end, .func (PySem.W.fnOf "run_end" "run_end" (defArgs s_run_end) (defBody s_run_end) (defScope s_run_end) .none kV_run_end dc_run_end pm_run_end an_run_end cd_run_end ct_run_end), sl_run_end⟩)
    (c_run_end : PySem.W.codeIn K cd_run_end "run_end" = true)
    (k_run_end : PySem.W.keepIn K (.ref f_run_end) = true)
    (a_sign_of : PySem.W.nsIn K mainGlobals "sign_of" = some (some (.ref f_sign_of)))
    (l_sign_of : K.lookup f_sign_of = some ⟨oc_sign_of, od_sign_of, .func (PySem.W.fnOf "sign_of" "sign_of" (defArgs s_sign_of) (defBody s_sign_of) (defScope s_sign_of) .none kV_sign_of dc_sign_of pm_sign_of an_sign_of cd_sign_of ct_sign_of), sl_sign_of⟩)
    (c_sign_of : PySem.W.codeIn K cd_sign_of "sign_of" = true)
    (k_sign_of : PySem.W.keepIn K (.ref f_sign_of) = true)
    (a_signs_of : PySem.W.nsIn K mainGlobals "signs_of" = some (some (.ref f_signs_of)))
    (l_signs_of : K.lookup f_signs_of = some ⟨oc_signs_of, od_signs_of, .func (PySem.W.fnOf "signs_of" "signs_of" (defArgs s_signs_of) (defBody s_signs_of) (defScope s_signs_of) .none kV_signs_of dc_signs_of pm_signs_of an_signs_of cd_signs_of ct_signs_of), sl_signs_of⟩)
    (c_signs_of : PySem.W.codeIn K cd_signs_of "signs_of" = true)
    (k_signs_of : PySem.W.keepIn K (.ref f_signs_of) = true)
    (a_number_end : PySem.W.nsIn K mainGlobals "number_end" = some (some (.ref f_number_end)))
    (l_number_end : K.lookup f_number_end = some ⟨oc_number_end, od_number_end, .func (PySem.W.fnOf "number_end" "number_end" (defArgs s_number_end) (defBody s_number_end) (defScope s_number_end) .none kV_number_end dc_number_end pm_number_end an_number_end cd_number_end ct_number_end), sl_number_end⟩)
    (c_number_end : PySem.W.codeIn K cd_number_end "number_end" = true)
    (k_number_end : PySem.W.keepIn K (.ref f_number_end) = true)
    (a_fraction_of : PySem.W.nsIn K mainGlobals "fraction_of" = some (some (.ref f_fraction_of)))
    (l_fraction_of : K.lookup f_fraction_of = some ⟨oc_fraction_of, od_fraction_of, .func (PySem.W.fnOf "fraction_of" "fraction_of" (defArgs s_fraction_of) (defBody s_fraction_of) (defScope s_fraction_of) .none kV_fraction_of dc_fraction_of pm_fraction_of an_fraction_of cd_fraction_of ct_fraction_of), sl_fraction_of⟩)
    (c_fraction_of : PySem.W.codeIn K cd_fraction_of "fraction_of" = true)
    (k_fraction_of : PySem.W.keepIn K (.ref f_fraction_of) = true)
    (a_lowest : PySem.W.nsIn K mainGlobals "lowest" = some (some (.ref f_lowest)))
    (l_lowest : K.lookup f_lowest = some ⟨oc_lowest, od_lowest, .func (PySem.W.fnOf "lowest" "lowest" (defArgs s_lowest) (defBody s_lowest) (defScope s_lowest) .none kV_lowest dc_lowest pm_lowest an_lowest cd_lowest ct_lowest), sl_lowest⟩)
    (c_lowest : PySem.W.codeIn K cd_lowest "lowest" = true)
    (k_lowest : PySem.W.keepIn K (.ref f_lowest) = true)
    (a_common_divisor : PySem.W.nsIn K mainGlobals "common_divisor" = some (some (.ref f_common_divisor)))
    (l_common_divisor : K.lookup f_common_divisor = some ⟨oc_common_divisor, od_common_divisor, .func (PySem.W.fnOf "common_divisor" "common_divisor" (defArgs s_common_divisor) (defBody s_common_divisor) (defScope s_common_divisor) .none kV_common_divisor dc_common_divisor pm_common_divisor an_common_divisor cd_common_divisor ct_common_divisor), sl_common_divisor⟩)
    (c_common_divisor : PySem.W.codeIn K cd_common_divisor "common_divisor" = true)
    (k_common_divisor : PySem.W.keepIn K (.ref f_common_divisor) = true)
    (a_is_measure : PySem.W.nsIn K mainGlobals "is_measure" = some (some (.ref f_is_measure)))
    (l_is_measure : K.lookup f_is_measure = some ⟨oc_is_measure, od_is_measure, .func (PySem.W.fnOf "is_measure" "is_measure" (defArgs s_is_measure) (defBody s_is_measure) (defScope s_is_measure) .none kV_is_measure dc_is_measure pm_is_measure an_is_measure cd_is_measure ct_is_measure), sl_is_measure⟩)
    (c_is_measure : PySem.W.codeIn K cd_is_measure "is_measure" = true)
    (k_is_measure : PySem.W.keepIn K (.ref f_is_measure) = true)
    (a_is_factor : PySem.W.nsIn K mainGlobals "is_factor" = some (some (.ref f_is_factor)))
    (l_is_factor : K.lookup f_is_factor = some ⟨oc_is_factor, od_is_factor, .func (PySem.W.fnOf "is_factor" "is_factor" (defArgs s_is_factor) (defBody s_is_factor) (defScope s_is_factor) .none kV_is_factor dc_is_factor pm_is_factor an_is_factor cd_is_factor ct_is_factor), sl_is_factor⟩)
    (c_is_factor : PySem.W.codeIn K cd_is_factor "is_factor" = true)
    (k_is_factor : PySem.W.keepIn K (.ref f_is_factor) = true)
    (a_is_power : PySem.W.nsIn K mainGlobals "is_power" = some (some (.ref f_is_power)))
    (l_is_power : K.lookup f_is_power = some ⟨oc_is_power, od_is_power, .func (PySem.W.fnOf "is_power" "is_power" (defArgs s_is_power) (defBody s_is_power) (defScope s_is_power) .none kV_is_power dc_is_power pm_is_power an_is_power cd_is_power ct_is_power), sl_is_power⟩)
    (c_is_power : PySem.W.codeIn K cd_is_power "is_power" = true)
    (k_is_power : PySem.W.keepIn K (.ref f_is_power) = true)
    (a_measured : PySem.W.nsIn K mainGlobals "measured" = some (some (.ref f_measured)))
    (l_measured : K.lookup f_measured = some ⟨oc_measured, od_measured, .func (PySem.W.fnOf "measured" "measured" (defArgs s_measured) (defBody s_measured) (defScope s_measured) .none kV_measured dc_measured pm_measured an_measured cd_measured ct_measured), sl_measured⟩)
    (c_measured : PySem.W.codeIn K cd_measured "measured" = true)
    (k_measured : PySem.W.keepIn K (.ref f_measured) = true)
    (a_negated : PySem.W.nsIn K mainGlobals "negated" = some (some (.ref f_negated)))
    (l_negated : K.lookup f_negated = some ⟨oc_negated, od_negated, .func (PySem.W.fnOf "negated" "negated" (defArgs s_negated) (defBody s_negated) (defScope s_negated) .none kV_negated dc_negated pm_negated an_negated cd_negated ct_negated), sl_negated⟩)
    (c_negated : PySem.W.codeIn K cd_negated "negated" = true)
    (k_negated : PySem.W.keepIn K (.ref f_negated) = true)
    (a_surface_tokens : PySem.W.nsIn K mainGlobals "surface_tokens" = some (some (.ref f_surface_tokens)))
    (l_surface_tokens : K.lookup f_surface_tokens = some ⟨oc_surface_tokens, od_surface_tokens, .func (PySem.W.fnOf "surface_tokens" "surface_tokens" (defArgs s_surface_tokens) (defBody s_surface_tokens) (defScope s_surface_tokens) .none kV_surface_tokens dc_surface_tokens pm_surface_tokens an_surface_tokens cd_surface_tokens ct_surface_tokens), sl_surface_tokens⟩)
    (c_surface_tokens : PySem.W.codeIn K cd_surface_tokens "surface_tokens" = true)
    (k_surface_tokens : PySem.W.keepIn K (.ref f_surface_tokens) = true)
    (a_tokens_between : PySem.W.nsIn K mainGlobals "tokens_between" = some (some (.ref f_tokens_between)))
    (l_tokens_between : K.lookup f_tokens_between = some ⟨oc_tokens_between, od_tokens_between, .func (PySem.W.fnOf "tokens_between" "tokens_between" (defArgs s_tokens_between) (defBody s_tokens_between) (defScope s_tokens_between) .none kV_tokens_between dc_tokens_between pm_tokens_between an_tokens_between cd_tokens_between ct_tokens_between), sl_tokens_between⟩)
    (c_tokens_between : PySem.W.codeIn K cd_tokens_between "tokens_between" = true)
    (k_tokens_between : PySem.W.keepIn K (.ref f_tokens_between) = true)
    (a_surface_gap_end : PySem.W.nsIn K mainGlobals "surface_gap_end" = some (some (.ref f_surface_gap_end)))
    (l_surface_gap_end : K.lookup f_surface_gap_end = some ⟨oc_surface_gap_end, od_surface_gap_end, .func (PySem.W.fnOf "surface_gap_end" "surface_gap_end" (defArgs s_surface_gap_end) (defBody s_surface_gap_end) (defScope s_surface_gap_end) .none kV_surface_gap_end dc_surface_gap_end pm_surface_gap_end an_surface_gap_end cd_surface_gap_end ct_surface_gap_end), sl_surface_gap_end⟩)
    (c_surface_gap_end : PySem.W.codeIn K cd_surface_gap_end "surface_gap_end" = true)
    (k_surface_gap_end : PySem.W.keepIn K (.ref f_surface_gap_end) = true)
    (a_comment_end : PySem.W.nsIn K mainGlobals "comment_end" = some (some (.ref f_comment_end)))
    (l_comment_end : K.lookup f_comment_end = some ⟨oc_comment_end, od_comment_end, .func (PySem.W.fnOf "comment_end" "comment_end" (defArgs s_comment_end) (defBody s_comment_end) (defScope s_comment_end) .none kV_comment_end dc_comment_end pm_comment_end an_comment_end cd_comment_end ct_comment_end), sl_comment_end⟩)
    (c_comment_end : PySem.W.codeIn K cd_comment_end "comment_end" = true)
    (k_comment_end : PySem.W.keepIn K (.ref f_comment_end) = true)
    (a_surface_token : PySem.W.nsIn K mainGlobals "surface_token" = some (some (.ref f_surface_token)))
    (l_surface_token : K.lookup f_surface_token = some ⟨oc_surface_token, od_surface_token, .func (PySem.W.fnOf "surface_token" "surface_token" (defArgs s_surface_token) (defBody s_surface_token) (defScope s_surface_token) .none kV_surface_token dc_surface_token pm_surface_token an_surface_token cd_surface_token ct_surface_token), sl_surface_token⟩)
    (c_surface_token : PySem.W.codeIn K cd_surface_token "surface_token" = true)
    (k_surface_token : PySem.W.keepIn K (.ref f_surface_token) = true)
    (a_word_token : PySem.W.nsIn K mainGlobals "word_token" = some (some (.ref f_word_token)))
    (l_word_token : K.lookup f_word_token = some ⟨oc_word_token, od_word_token, .func (PySem.W.fnOf "word_token" "word_token" (defArgs s_word_token) (defBody s_word_token) (defScope s_word_token) .none kV_word_token dc_word_token pm_word_token an_word_token cd_word_token ct_word_token), sl_word_token⟩)
    (c_word_token : PySem.W.codeIn K cd_word_token "word_token" = true)
    (k_word_token : PySem.W.keepIn K (.ref f_word_token) = true)
    (a_number_token : PySem.W.nsIn K mainGlobals "number_token" = some (some (.ref f_number_token)))
    (l_number_token : K.lookup f_number_token = some ⟨oc_number_token, od_number_token, .func (PySem.W.fnOf "number_token" "number_token" (defArgs s_number_token) (defBody s_number_token) (defScope s_number_token) .none kV_number_token dc_number_token pm_number_token an_number_token cd_number_token ct_number_token), sl_number_token⟩)
    (c_number_token : PySem.W.codeIn K cd_number_token "number_token" = true)
    (k_number_token : PySem.W.keepIn K (.ref f_number_token) = true)
    (a_measure_at : PySem.W.nsIn K mainGlobals "measure_at" = some (some (.ref f_measure_at)))
    (l_measure_at : K.lookup f_measure_at = some ⟨oc_measure_at, od_measure_at, .func (PySem.W.fnOf "measure_at" "measure_at" (defArgs s_measure_at) (defBody s_measure_at) (defScope s_measure_at) .none kV_measure_at dc_measure_at pm_measure_at an_measure_at cd_measure_at ct_measure_at), sl_measure_at⟩)
    (c_measure_at : PySem.W.codeIn K cd_measure_at "measure_at" = true)
    (k_measure_at : PySem.W.keepIn K (.ref f_measure_at) = true)
    (a_sign_token : PySem.W.nsIn K mainGlobals "sign_token" = some (some (.ref f_sign_token)))
    (l_sign_token : K.lookup f_sign_token = some ⟨oc_sign_token, od_sign_token, .func (PySem.W.fnOf "sign_token" "sign_token" (defArgs s_sign_token) (defBody s_sign_token) (defScope s_sign_token) .none kV_sign_token dc_sign_token pm_sign_token an_sign_token cd_sign_token ct_sign_token), sl_sign_token⟩)
    (c_sign_token : PySem.W.codeIn K cd_sign_token "sign_token" = true)
    (k_sign_token : PySem.W.keepIn K (.ref f_sign_token) = true)
    (a_tokens : PySem.W.nsIn K mainGlobals "tokens" = some (some (.ref f_tokens)))
    (l_tokens : K.lookup f_tokens = some ⟨oc_tokens, od_tokens, .func (PySem.W.fnOf "tokens" "tokens" (defArgs s_tokens) (defBody s_tokens) (defScope s_tokens) .none kV_tokens dc_tokens pm_tokens an_tokens cd_tokens ct_tokens), sl_tokens⟩)
    (c_tokens : PySem.W.codeIn K cd_tokens "tokens" = true)
    (k_tokens : PySem.W.keepIn K (.ref f_tokens) = true)
    (a_answered : PySem.W.nsIn K mainGlobals "answered" = some (some (.ref f_answered)))
    (l_answered : K.lookup f_answered = some ⟨oc_answered, od_answered, .func (PySem.W.fnOf "answered" "answered" (defArgs s_answered) (defBody s_answered) (defScope s_answered) .none kV_answered dc_answered pm_answered an_answered cd_answered ct_answered), sl_answered⟩)
    (c_answered : PySem.W.codeIn K cd_answered "answered" = true)
    (k_answered : PySem.W.keepIn K (.ref f_answered) = true)
    (a_tokens_answer : PySem.W.nsIn K mainGlobals "tokens_answer" = some (some (.ref f_tokens_answer)))
    (l_tokens_answer : K.lookup f_tokens_answer = some ⟨oc_tokens_answer, od_tokens_answer, .func (PySem.W.fnOf "tokens_answer" "tokens_answer" (defArgs s_tokens_answer) (defBody s_tokens_answer) (defScope s_tokens_answer) .none kV_tokens_answer dc_tokens_answer pm_tokens_answer an_tokens_answer cd_tokens_answer ct_tokens_answer), sl_tokens_answer⟩)
    (c_tokens_answer : PySem.W.codeIn K cd_tokens_answer "tokens_answer" = true)
    (k_tokens_answer : PySem.W.keepIn K (.ref f_tokens_answer) = true)
    : ∃ fd : FuncData, (∀ (s : Shared) (us : List Value), us.length = (["text"] : List Str).length → BindsTo s fd ⟨us, []⟩ ((["text"] : List Str).zip us)) ∧ ∀ base : Heap, K.In base → base.Ns mainGlobals mg → FnOk P w K mg base CX0 22 fa fd ["text"] (spMain1 PyVaunid.tokens K) := by
  have F_Fault___init__ := fun_mk (st := s_Fault___init__) l_Fault___init__ c_Fault___init__ k_Fault___init__
  have B_Fault___init__ := F_Fault___init__.binds (ps := ["self", "kind", "place"]) fun _ _ _ _ _ _ us hl => match us, hl with | [_, _, _], _ => rfl
  have F_Amount___init__ := fun_mk (st := s_Amount___init__) l_Amount___init__ c_Amount___init__ k_Amount___init__
  have B_Amount___init__ := F_Amount___init__.binds (ps := ["self", "over", "under", "measure"]) fun _ _ _ _ _ _ us hl => match us, hl with | [_, _, _, _], _ => rfl
  have F_Token___init__ := fun_mk (st := s_Token___init__) l_Token___init__ c_Token___init__ k_Token___init__
  have B_Token___init__ := F_Token___init__.binds (ps := ["self", "group", "kind", "begin", "end", "content"]) fun _ _ _ _ _ _ us hl => match us, hl with | [_, _, _, _, _, _], _ => rfl
  have F_is_letter := fun_mk (st := s_is_letter) l_is_letter c_is_letter k_is_letter
  have B_is_letter := F_is_letter.binds (ps := ["byte"]) fun _ _ _ _ _ _ us hl => match us, hl with | [_], _ => rfl
  have F_is_digit := fun_mk (st := s_is_digit) l_is_digit c_is_digit k_is_digit
  have B_is_digit := F_is_digit.binds (ps := ["byte"]) fun _ _ _ _ _ _ us hl => match us, hl with | [_], _ => rfl
  have F_is_in_word := fun_mk (st := s_is_in_word) l_is_in_word c_is_in_word k_is_in_word
  have B_is_in_word := F_is_in_word.binds (ps := ["byte"]) fun _ _ _ _ _ _ us hl => match us, hl with | [_], _ => rfl
  have F_is_short_word := fun_mk (st := s_is_short_word) l_is_short_word c_is_short_word k_is_short_word
  have B_is_short_word := F_is_short_word.binds (ps := ["text"]) fun _ _ _ _ _ _ us hl => match us, hl with | [_], _ => rfl
  have F_is_space := fun_mk (st := s_is_space) l_is_space c_is_space k_is_space
  have B_is_space := F_is_space.binds (ps := ["byte"]) fun _ _ _ _ _ _ us hl => match us, hl with | [_], _ => rfl
  have F_is_in_comment := fun_mk (st := s_is_in_comment) l_is_in_comment c_is_in_comment k_is_in_comment
  have B_is_in_comment := F_is_in_comment.binds (ps := ["byte"]) fun _ _ _ _ _ _ us hl => match us, hl with | [_], _ => rfl
  have F_is_before_measure_end := fun_mk (st := s_is_before_measure_end) l_is_before_measure_end c_is_before_measure_end k_is_before_measure_end
  have B_is_before_measure_end := F_is_before_measure_end.binds (ps := ["byte"]) fun _ _ _ _ _ _ us hl => match us, hl with | [_], _ => rfl
  have F_run_end := fun_mk (st := s_run_end) l_run_end c_run_end k_run_end
  have B_run_end := F_run_end.binds (ps := ["text", "place", "belongs"]) fun _ _ _ _ _ _ us hl => match us, hl with | [_, _, _], _ => rfl
  have F_sign_of := fun_mk (st := s_sign_of) l_sign_of c_sign_of k_sign_of
  have B_sign_of := F_sign_of.binds (ps := ["byte"]) fun _ _ _ _ _ _ us hl => match us, hl with | [_], _ => rfl
  have F_signs_of := fun_mk (st := s_signs_of) l_signs_of c_signs_of k_signs_of
  have B_signs_of := F_signs_of.binds (ps := ["some_bytes"]) fun _ _ _ _ _ _ us hl => match us, hl with | [_], _ => rfl
  have F_number_end := fun_mk (st := s_number_end) l_number_end c_number_end k_number_end
  have B_number_end := F_number_end.binds (ps := ["text", "begin"]) fun _ _ _ _ _ _ us hl => match us, hl with | [_, _], _ => rfl
  have F_fraction_of := fun_mk (st := s_fraction_of) l_fraction_of c_fraction_of k_fraction_of
  have B_fraction_of := F_fraction_of.binds (ps := ["spelling"]) fun _ _ _ _ _ _ us hl => match us, hl with | [_], _ => rfl
  have F_lowest := fun_mk (st := s_lowest) l_lowest c_lowest k_lowest
  have B_lowest := F_lowest.binds (ps := ["over", "under"]) fun _ _ _ _ _ _ us hl => match us, hl with | [_, _], _ => rfl
  have F_common_divisor := fun_mk (st := s_common_divisor) l_common_divisor c_common_divisor k_common_divisor
  have B_common_divisor := F_common_divisor.binds (ps := ["first", "second"]) fun _ _ _ _ _ _ us hl => match us, hl with | [_, _], _ => rfl
  have F_is_measure := fun_mk (st := s_is_measure) l_is_measure c_is_measure k_is_measure
  have B_is_measure := F_is_measure.binds (ps := ["measure"]) fun _ _ _ _ _ _ us hl => match us, hl with | [_], _ => rfl
  have F_is_factor := fun_mk (st := s_is_factor) l_is_factor c_is_factor k_is_factor
  have B_is_factor := F_is_factor.binds (ps := ["factor"]) fun _ _ _ _ _ _ us hl => match us, hl with | [_], _ => rfl
  have F_is_power := fun_mk (st := s_is_power) l_is_power c_is_power k_is_power
  have B_is_power := F_is_power.binds (ps := ["power"]) fun _ _ _ _ _ _ us hl => match us, hl with | [_], _ => rfl
  have F_measured := fun_mk (st := s_measured) l_measured c_measured k_measured
  have B_measured := F_measured.binds (ps := ["amount", "measure"]) fun _ _ _ _ _ _ us hl => match us, hl with | [_, _], _ => rfl
  have F_negated := fun_mk (st := s_negated) l_negated c_negated k_negated
  have B_negated := F_negated.binds (ps := ["amount"]) fun _ _ _ _ _ _ us hl => match us, hl with | [_], _ => rfl
  have F_surface_tokens := fun_mk (st := s_surface_tokens) l_surface_tokens c_surface_tokens k_surface_tokens
  have B_surface_tokens := F_surface_tokens.binds (ps := ["text"]) fun _ _ _ _ _ _ us hl => match us, hl with | [_], _ => rfl
  have F_tokens_between := fun_mk (st := s_tokens_between) l_tokens_between c_tokens_between k_tokens_between
  have B_tokens_between := F_tokens_between.binds (ps := ["text", "gap_end", "token_at"]) fun _ _ _ _ _ _ us hl => match us, hl with | [_, _, _], _ => rfl
  have F_surface_gap_end := fun_mk (st := s_surface_gap_end) l_surface_gap_end c_surface_gap_end k_surface_gap_end
  have B_surface_gap_end := F_surface_gap_end.binds (ps := ["text", "place"]) fun _ _ _ _ _ _ us hl => match us, hl with | [_, _], _ => rfl
  have F_comment_end := fun_mk (st := s_comment_end) l_comment_end c_comment_end k_comment_end
  have B_comment_end := F_comment_end.binds (ps := ["text", "begin"]) fun _ _ _ _ _ _ us hl => match us, hl with | [_, _], _ => rfl
  have F_surface_token := fun_mk (st := s_surface_token) l_surface_token c_surface_token k_surface_token
  have B_surface_token := F_surface_token.binds (ps := ["text", "begin"]) fun _ _ _ _ _ _ us hl => match us, hl with | [_, _], _ => rfl
  have F_word_token := fun_mk (st := s_word_token) l_word_token c_word_token k_word_token
  have B_word_token := F_word_token.binds (ps := ["text", "begin"]) fun _ _ _ _ _ _ us hl => match us, hl with | [_, _], _ => rfl
  have F_number_token := fun_mk (st := s_number_token) l_number_token c_number_token k_number_token
  have B_number_token := F_number_token.binds (ps := ["text", "begin", "digits"]) fun _ _ _ _ _ _ us hl => match us, hl with | [_, _, _], _ => rfl
  have F_measure_at := fun_mk (st := s_measure_at) l_measure_at c_measure_at k_measure_at
  have B_measure_at := F_measure_at.binds (ps := ["text", "begin"]) fun _ _ _ _ _ _ us hl => match us, hl with | [_, _], _ => rfl
  have F_sign_token := fun_mk (st := s_sign_token) l_sign_token c_sign_token k_sign_token
  have B_sign_token := F_sign_token.binds (ps := ["text", "begin", "signs"]) fun _ _ _ _ _ _ us hl => match us, hl with | [_, _, _], _ => rfl
  have F_tokens := fun_mk (st := s_tokens) l_tokens c_tokens k_tokens
  have B_tokens := F_tokens.binds (ps := ["text"]) fun _ _ _ _ _ _ us hl => match us, hl with | [_], _ => rfl
  have F_answered := fun_mk (st := s_answered) l_answered c_answered k_answered
  have B_answered := F_answered.binds (ps := ["text", "reading", "answering"]) fun _ _ _ _ _ _ us hl => match us, hl with | [_, _, _], _ => rfl
  have F_tokens_answer := fun_mk (st := s_tokens_answer) l_tokens_answer c_tokens_answer k_tokens_answer
  have B_tokens_answer := F_tokens_answer.binds (ps := ["found"]) fun _ _ _ _ _ _ us hl => match us, hl with | [_], _ => rfl
  let T : TX K mg := {
    g_BLANK := ⟨_, PySem.W.mg_of X G g_BLANK, _, rfl⟩,
    g_LINE_END := ⟨_, PySem.W.mg_of X G g_LINE_END, _, rfl⟩,
    g_COMMENT_BEGIN := ⟨_, PySem.W.mg_of X G g_COMMENT_BEGIN, _, rfl⟩,
    g_COMMENT_END := ⟨_, PySem.W.mg_of X G g_COMMENT_END, _, rfl⟩,
    g_MEASURE_BEGIN := ⟨_, PySem.W.mg_of X G g_MEASURE_BEGIN, _, rfl⟩,
    g_MEASURE_END := ⟨_, PySem.W.mg_of X G g_MEASURE_END, _, rfl⟩,
    a_FRACTION_SIGNS := a_FRACTION_SIGNS, g_FRACTION_SIGNS := PySem.W.mg_of X G g_FRACTION_SIGNS, t_FRACTION_SIGNS := fun _ => sqt_of l_FRACTION_SIGNS v_FRACTION_SIGNS (by show 2 ≤ sizeLine; decide),
    g_FIRST_PRINTED := ⟨_, PySem.W.mg_of X G g_FIRST_PRINTED, _, rfl⟩,
    g_LAST_PRINTED := ⟨_, PySem.W.mg_of X G g_LAST_PRINTED, _, rfl⟩,
    g_MOST_SIGNS := ⟨_, PySem.W.mg_of X G g_MOST_SIGNS, _, rfl⟩,
    g_PRINTED := ⟨_, PySem.W.mg_of X G g_PRINTED, _, rfl⟩,
    a_TAKEN_WORDS := a_TAKEN_WORDS, g_TAKEN_WORDS := PySem.W.mg_of X G g_TAKEN_WORDS, t_TAKEN_WORDS := fun _ => sqt_of l_TAKEN_WORDS v_TAKEN_WORDS (by show 31 ≤ sizeLine; decide),
    g_MOST_DIGITS := ⟨_, PySem.W.mg_of X G g_MOST_DIGITS, _, rfl⟩,
    g_FIRST_TOO_GREAT := ⟨_, PySem.W.mg_of X G g_FIRST_TOO_GREAT, _, rfl⟩,
    g_MOST_POWER_DIGITS := ⟨_, PySem.W.mg_of X G g_MOST_POWER_DIGITS, _, rfl⟩,
    g_WORD_GROUP := ⟨_, PySem.W.mg_of X G g_WORD_GROUP, _, rfl⟩,
    g_NUMBER_GROUP := ⟨_, PySem.W.mg_of X G g_NUMBER_GROUP, _, rfl⟩,
    g_SIGN_GROUP := ⟨_, PySem.W.mg_of X G g_SIGN_GROUP, _, rfl⟩,
    a_SURFACE_SIGNS := a_SURFACE_SIGNS, g_SURFACE_SIGNS := PySem.W.mg_of X G g_SURFACE_SIGNS, t_SURFACE_SIGNS := fun _ => sqt_of l_SURFACE_SIGNS v_SURFACE_SIGNS (by show 19 ≤ sizeLine; decide),
    g_MOST_BYTES := ⟨_, PySem.W.mg_of X G g_MOST_BYTES, _, rfl⟩,
    g_TEXT_TOO_LONG := ⟨_, PySem.W.mg_of X G g_TEXT_TOO_LONG, _, rfl⟩,
    b_all := PySem.W.mg_none_of X G b_all,
    b_int := PySem.W.mg_none_of X G b_int,
    b_len := PySem.W.mg_none_of X G b_len,
    b_max := PySem.W.mg_none_of X G b_max,
    b_ord := PySem.W.mg_none_of X G b_ord,
    C_Fault := C_Fault, G_Fault := PySem.W.mg_of X G G_Fault,
    f_Fault___init__ := f_Fault___init__, d_Fault___init__ := _, F_Fault___init__ := F_Fault___init__, b_Fault___init__ := B_Fault___init__,
    X_Fault := xcls_mk lx_Fault a_Fault___init__ i_Fault___init__ kc_Fault ga_Fault gn_Fault sa_Fault hd_Fault,
    n_Fault_kind := n_Fault_kind,
    n_Fault_place := n_Fault_place,
    C_Amount := C_Amount, G_Amount := PySem.W.mg_of X G G_Amount,
    f_Amount___init__ := f_Amount___init__, d_Amount___init__ := _, F_Amount___init__ := F_Amount___init__, b_Amount___init__ := B_Amount___init__,
    cl_Amount := ⟨pg_Amount, hd_Amount, po_Amount, sa_Amount⟩, M_Amount := ⟨mk_Amount, a_Amount___init__, i_Amount___init__, kc_Amount⟩,
    n_Amount_over := n_Amount_over,
    n_Amount_under := n_Amount_under,
    n_Amount_measure := n_Amount_measure,
    C_Token := C_Token, G_Token := PySem.W.mg_of X G G_Token,
    f_Token___init__ := f_Token___init__, d_Token___init__ := _, F_Token___init__ := F_Token___init__, b_Token___init__ := B_Token___init__,
    cl_Token := ⟨pg_Token, hd_Token, po_Token, sa_Token⟩, M_Token := ⟨mk_Token, a_Token___init__, i_Token___init__, kc_Token⟩,
    n_Token_group := n_Token_group,
    n_Token_kind := n_Token_kind,
    n_Token_begin := n_Token_begin,
    n_Token_end := n_Token_end,
    n_Token_content := n_Token_content,
    f_is_letter := f_is_letter, d_is_letter := _, F_is_letter := ⟨PySem.W.mg_of X G a_is_letter, F_is_letter, B_is_letter⟩,
    f_is_digit := f_is_digit, d_is_digit := _, F_is_digit := ⟨PySem.W.mg_of X G a_is_digit, F_is_digit, B_is_digit⟩,
    f_is_in_word := f_is_in_word, d_is_in_word := _, F_is_in_word := ⟨PySem.W.mg_of X G a_is_in_word, F_is_in_word, B_is_in_word⟩,
    f_is_short_word := f_is_short_word, d_is_short_word := _, F_is_short_word := ⟨PySem.W.mg_of X G a_is_short_word, F_is_short_word, B_is_short_word⟩,
    f_is_space := f_is_space, d_is_space := _, F_is_space := ⟨PySem.W.mg_of X G a_is_space, F_is_space, B_is_space⟩,
    f_is_in_comment := f_is_in_comment, d_is_in_comment := _, F_is_in_comment := ⟨PySem.W.mg_of X G a_is_in_comment, F_is_in_comment, B_is_in_comment⟩,
    f_is_before_measure_end := f_is_before_measure_end, d_is_before_measure_end := _, F_is_before_measure_end := ⟨PySem.W.mg_of X G a_is_before_measure_end, F_is_before_measure_end, B_is_before_measure_end⟩,
    f_run_end := f_run_end, d_run_end := _, F_run_end := ⟨PySem.W.mg_of X G a_run_end, F_run_end, B_run_end⟩,
    f_sign_of := f_sign_of, d_sign_of := _, F_sign_of := ⟨PySem.W.mg_of X G a_sign_of, F_sign_of, B_sign_of⟩,
    f_signs_of := f_signs_of, d_signs_of := _, F_signs_of := ⟨PySem.W.mg_of X G a_signs_of, F_signs_of, B_signs_of⟩,
    f_number_end := f_number_end, d_number_end := _, F_number_end := ⟨PySem.W.mg_of X G a_number_end, F_number_end, B_number_end⟩,
    f_fraction_of := f_fraction_of, d_fraction_of := _, F_fraction_of := ⟨PySem.W.mg_of X G a_fraction_of, F_fraction_of, B_fraction_of⟩,
    f_lowest := f_lowest, d_lowest := _, F_lowest := ⟨PySem.W.mg_of X G a_lowest, F_lowest, B_lowest⟩,
    f_common_divisor := f_common_divisor, d_common_divisor := _, F_common_divisor := ⟨PySem.W.mg_of X G a_common_divisor, F_common_divisor, B_common_divisor⟩,
    f_is_measure := f_is_measure, d_is_measure := _, F_is_measure := ⟨PySem.W.mg_of X G a_is_measure, F_is_measure, B_is_measure⟩,
    f_is_factor := f_is_factor, d_is_factor := _, F_is_factor := ⟨PySem.W.mg_of X G a_is_factor, F_is_factor, B_is_factor⟩,
    f_is_power := f_is_power, d_is_power := _, F_is_power := ⟨PySem.W.mg_of X G a_is_power, F_is_power, B_is_power⟩,
    f_measured := f_measured, d_measured := _, F_measured := ⟨PySem.W.mg_of X G a_measured, F_measured, B_measured⟩,
    f_negated := f_negated, d_negated := _, F_negated := ⟨PySem.W.mg_of X G a_negated, F_negated, B_negated⟩,
    f_surface_tokens := f_surface_tokens, d_surface_tokens := _, F_surface_tokens := ⟨PySem.W.mg_of X G a_surface_tokens, F_surface_tokens, B_surface_tokens⟩,
    f_tokens_between := f_tokens_between, d_tokens_between := _, F_tokens_between := ⟨PySem.W.mg_of X G a_tokens_between, F_tokens_between, B_tokens_between⟩,
    f_surface_gap_end := f_surface_gap_end, d_surface_gap_end := _, F_surface_gap_end := ⟨PySem.W.mg_of X G a_surface_gap_end, F_surface_gap_end, B_surface_gap_end⟩,
    f_comment_end := f_comment_end, d_comment_end := _, F_comment_end := ⟨PySem.W.mg_of X G a_comment_end, F_comment_end, B_comment_end⟩,
    f_surface_token := f_surface_token, d_surface_token := _, F_surface_token := ⟨PySem.W.mg_of X G a_surface_token, F_surface_token, B_surface_token⟩,
    f_word_token := f_word_token, d_word_token := _, F_word_token := ⟨PySem.W.mg_of X G a_word_token, F_word_token, B_word_token⟩,
    f_number_token := f_number_token, d_number_token := _, F_number_token := ⟨PySem.W.mg_of X G a_number_token, F_number_token, B_number_token⟩,
    f_measure_at := f_measure_at, d_measure_at := _, F_measure_at := ⟨PySem.W.mg_of X G a_measure_at, F_measure_at, B_measure_at⟩,
    f_sign_token := f_sign_token, d_sign_token := _, F_sign_token := ⟨PySem.W.mg_of X G a_sign_token, F_sign_token, B_sign_token⟩,
    f_tokens := f_tokens, d_tokens := _, F_tokens := ⟨PySem.W.mg_of X G a_tokens, F_tokens, B_tokens⟩,
    f_answered := f_answered, d_answered := _, F_answered := ⟨PySem.W.mg_of X G a_answered, F_answered, B_answered⟩,
    f_tokens_answer := f_tokens_answer, d_tokens_answer := _, F_tokens_answer := ⟨PySem.W.mg_of X G a_tokens_answer, F_tokens_answer, B_tokens_answer⟩ }
  have e := hfa.symm.trans T.F_tokens.mg
  cases e
  exact ⟨T.d_tokens, fun s us hu => match us, hu with | [_], _ => .of_eq rfl, fun base _ _ => ok_main T⟩
end M
open PySem PySem.W PyProof.Rows
set_option maxRecDepth 100000 in
set_option maxHeartbeats 0 in
theorem PySem.Challenge.cw_measuretext_s01_tokens_holds : PySem.Challenge.rw_measuretext_s01_tokens.Holds := by
  w_on; k_headS; (case hw => exact ⟨[.list []], by decide +kernel, by decide +kernel⟩)
  k_fillS
  refine L2.walk_specK (r := PySem.Challenge.rw_measuretext_s01_tokens) (k := 22) (CX := L2.CX0) (ps := ["text"]) (sp := M.spMain1 PyVaunid.tokens) (by decide +kernel) rfl rfl ⟨rfl, by decide, by decide⟩ (fun w h Y => PySem.W.kIn_of Y) ?F ?S (fun _ _ _ _ z => z)
  case F =>
    intro w mg fa h Y KX G hmg
    refine' M.all_mk KX G hmg ?g_BLANK ?g_LINE_END ?g_COMMENT_BEGIN ?g_COMMENT_END ?g_MEASURE_BEGIN ?g_MEASURE_END ?g_FRACTION_SIGNS ?l_FRACTION_SIGNS ?v_FRACTION_SIGNS ?g_FIRST_PRINTED ?g_LAST_PRINTED ?g_MOST_SIGNS ?g_PRINTED ?g_TAKEN_WORDS ?l_TAKEN_WORDS ?v_TAKEN_WORDS ?g_MOST_DIGITS ?g_FIRST_TOO_GREAT ?g_MOST_POWER_DIGITS ?g_WORD_GROUP ?g_NUMBER_GROUP ?g_SIGN_GROUP ?g_SURFACE_SIGNS ?l_SURFACE_SIGNS ?v_SURFACE_SIGNS ?g_MOST_BYTES ?g_TEXT_TOO_LONG ?b_all ?b_int ?b_len ?b_max ?b_ord ?G_Fault ?a_Fault___init__ ?i_Fault___init__ ?l_Fault___init__ ?c_Fault___init__ ?k_Fault___init__ ?kc_Fault ?hd_Fault ?sa_Fault ?lx_Fault ?ga_Fault ?gn_Fault ?n_Fault_kind ?n_Fault_place ?G_Amount ?a_Amount___init__ ?i_Amount___init__ ?l_Amount___init__ ?c_Amount___init__ ?k_Amount___init__ ?kc_Amount ?hd_Amount ?sa_Amount ?pg_Amount ?po_Amount ?mk_Amount ?n_Amount_over ?n_Amount_under ?n_Amount_measure ?G_Token ?a_Token___init__ ?i_Token___init__ ?l_Token___init__ ?c_Token___init__ ?k_Token___init__ ?kc_Token ?hd_Token ?sa_Token ?pg_Token ?po_Token ?mk_Token ?n_Token_group ?n_Token_kind ?n_Token_begin ?n_Token_end ?n_Token_content ?a_is_letter ?l_is_letter ?c_is_letter ?k_is_letter ?a_is_digit ?l_is_digit ?c_is_digit ?k_is_digit ?a_is_in_word ?l_is_in_word ?c_is_in_word ?k_is_in_word ?a_is_short_word ?l_is_short_word ?c_is_short_word ?k_is_short_word ?a_is_space ?l_is_space ?c_is_space ?k_is_space ?a_is_in_comment ?l_is_in_comment ?c_is_in_comment ?k_is_in_comment ?a_is_before_measure_end ?l_is_before_measure_end ?c_is_before_measure_end ?k_is_before_measure_end ?a_run_end ?l_run_end ?c_run_end ?k_run_end ?a_sign_of ?l_sign_of ?c_sign_of ?k_sign_of ?a_signs_of ?l_signs_of ?c_signs_of ?k_signs_of ?a_number_end ?l_number_end ?c_number_end ?k_number_end ?a_fraction_of ?l_fraction_of ?c_fraction_of ?k_fraction_of ?a_lowest ?l_lowest ?c_lowest ?k_lowest ?a_common_divisor ?l_common_divisor ?c_common_divisor ?k_common_divisor ?a_is_measure ?l_is_measure ?c_is_measure ?k_is_measure ?a_is_factor ?l_is_factor ?c_is_factor ?k_is_factor ?a_is_power ?l_is_power ?c_is_power ?k_is_power ?a_measured ?l_measured ?c_measured ?k_measured ?a_negated ?l_negated ?c_negated ?k_negated ?a_surface_tokens ?l_surface_tokens ?c_surface_tokens ?k_surface_tokens ?a_tokens_between ?l_tokens_between ?c_tokens_between ?k_tokens_between ?a_surface_gap_end ?l_surface_gap_end ?c_surface_gap_end ?k_surface_gap_end ?a_comment_end ?l_comment_end ?c_comment_end ?k_comment_end ?a_surface_token ?l_surface_token ?c_surface_token ?k_surface_token ?a_word_token ?l_word_token ?c_word_token ?k_word_token ?a_number_token ?l_number_token ?c_number_token ?k_number_token ?a_measure_at ?l_measure_at ?c_measure_at ?k_measure_at ?a_sign_token ?l_sign_token ?c_sign_token ?k_sign_token ?a_tokens ?l_tokens ?c_tokens ?k_tokens ?a_answered ?l_answered ?c_answered ?k_answered ?a_tokens_answer ?l_tokens_answer ?c_tokens_answer ?k_tokens_answer
    (case g_BLANK => k_is)
    (case g_LINE_END => k_is)
    (case g_COMMENT_BEGIN => k_is)
    (case g_COMMENT_END => k_is)
    (case g_MEASURE_BEGIN => k_is)
    (case g_MEASURE_END => k_is)
    (case g_FRACTION_SIGNS => k_is)
    (case l_FRACTION_SIGNS => k_is)
    (case v_FRACTION_SIGNS => exact (.cons ⟨_, rfl⟩ (.cons ⟨_, rfl⟩ .nil)))
    (case g_FIRST_PRINTED => k_is)
    (case g_LAST_PRINTED => k_is)
    (case g_MOST_SIGNS => k_is)
    (case g_PRINTED => k_is)
    (case g_TAKEN_WORDS => k_is)
    (case l_TAKEN_WORDS => k_is)
    (case v_TAKEN_WORDS => exact (.cons ⟨_, rfl⟩ (.cons ⟨_, rfl⟩ (.cons ⟨_, rfl⟩ (.cons ⟨_, rfl⟩ (.cons ⟨_, rfl⟩ (.cons ⟨_, rfl⟩ (.cons ⟨_, rfl⟩ (.cons ⟨_, rfl⟩ (.cons ⟨_, rfl⟩ (.cons ⟨_, rfl⟩ (.cons ⟨_, rfl⟩ (.cons ⟨_, rfl⟩ (.cons ⟨_, rfl⟩ (.cons ⟨_, rfl⟩ (.cons ⟨_, rfl⟩ (.cons ⟨_, rfl⟩ (.cons ⟨_, rfl⟩ (.cons ⟨_, rfl⟩ (.cons ⟨_, rfl⟩ (.cons ⟨_, rfl⟩ (.cons ⟨_, rfl⟩ (.cons ⟨_, rfl⟩ (.cons ⟨_, rfl⟩ (.cons ⟨_, rfl⟩ (.cons ⟨_, rfl⟩ (.cons ⟨_, rfl⟩ (.cons ⟨_, rfl⟩ (.cons ⟨_, rfl⟩ (.cons ⟨_, rfl⟩ (.cons ⟨_, rfl⟩ (.cons ⟨_, rfl⟩ .nil))))))))))))))))))))))))))))))))
    (case g_MOST_DIGITS => k_is)
    (case g_FIRST_TOO_GREAT => k_is)
    (case g_MOST_POWER_DIGITS => k_is)
    (case g_WORD_GROUP => k_is)
    (case g_NUMBER_GROUP => k_is)
    (case g_SIGN_GROUP => k_is)
    (case g_SURFACE_SIGNS => k_is)
    (case l_SURFACE_SIGNS => k_is)
    (case v_SURFACE_SIGNS => exact (.cons ⟨_, rfl⟩ (.cons ⟨_, rfl⟩ (.cons ⟨_, rfl⟩ (.cons ⟨_, rfl⟩ (.cons ⟨_, rfl⟩ (.cons ⟨_, rfl⟩ (.cons ⟨_, rfl⟩ (.cons ⟨_, rfl⟩ (.cons ⟨_, rfl⟩ (.cons ⟨_, rfl⟩ (.cons ⟨_, rfl⟩ (.cons ⟨_, rfl⟩ (.cons ⟨_, rfl⟩ (.cons ⟨_, rfl⟩ (.cons ⟨_, rfl⟩ (.cons ⟨_, rfl⟩ (.cons ⟨_, rfl⟩ (.cons ⟨_, rfl⟩ (.cons ⟨_, rfl⟩ .nil))))))))))))))))))))
    (case g_MOST_BYTES => k_is)
    (case g_TEXT_TOO_LONG => k_is)
    (case b_all => k_is)
    (case b_int => k_is)
    (case b_len => k_is)
    (case b_max => k_is)
    (case b_ord => k_is)
    (case G_Fault => k_is)
    (case a_Fault___init__ => k_is)
    (case i_Fault___init__ => k_is)
    (case l_Fault___init__ => k_is)
    (case c_Fault___init__ => k_is)
    (case k_Fault___init__ => k_is)
    (case kc_Fault => k_is)
    (case hd_Fault => k_is)
    (case sa_Fault => k_is)
    (case lx_Fault => k_is)
    (case ga_Fault => k_is)
    (case gn_Fault => k_is)
    (case n_Fault_kind => k_is)
    (case n_Fault_place => k_is)
    (case G_Amount => k_is)
    (case a_Amount___init__ => k_is)
    (case i_Amount___init__ => k_is)
    (case l_Amount___init__ => k_is)
    (case c_Amount___init__ => k_is)
    (case k_Amount___init__ => k_is)
    (case kc_Amount => k_is)
    (case hd_Amount => k_is)
    (case sa_Amount => k_is)
    (case pg_Amount => k_is)
    (case po_Amount => k_is)
    (case mk_Amount => k_is)
    (case n_Amount_over => k_is)
    (case n_Amount_under => k_is)
    (case n_Amount_measure => k_is)
    (case G_Token => k_is)
    (case a_Token___init__ => k_is)
    (case i_Token___init__ => k_is)
    (case l_Token___init__ => k_is)
    (case c_Token___init__ => k_is)
    (case k_Token___init__ => k_is)
    (case kc_Token => k_is)
    (case hd_Token => k_is)
    (case sa_Token => k_is)
    (case pg_Token => k_is)
    (case po_Token => k_is)
    (case mk_Token => k_is)
    (case n_Token_group => k_is)
    (case n_Token_kind => k_is)
    (case n_Token_begin => k_is)
    (case n_Token_end => k_is)
    (case n_Token_content => k_is)
    (case a_is_letter => k_is)
    (case l_is_letter => k_is)
    (case c_is_letter => k_is)
    (case k_is_letter => k_is)
    (case a_is_digit => k_is)
    (case l_is_digit => k_is)
    (case c_is_digit => k_is)
    (case k_is_digit => k_is)
    (case a_is_in_word => k_is)
    (case l_is_in_word => k_is)
    (case c_is_in_word => k_is)
    (case k_is_in_word => k_is)
    (case a_is_short_word => k_is)
    (case l_is_short_word => k_is)
    (case c_is_short_word => k_is)
    (case k_is_short_word => k_is)
    (case a_is_space => k_is)
    (case l_is_space => k_is)
    (case c_is_space => k_is)
    (case k_is_space => k_is)
    (case a_is_in_comment => k_is)
    (case l_is_in_comment => k_is)
    (case c_is_in_comment => k_is)
    (case k_is_in_comment => k_is)
    (case a_is_before_measure_end => k_is)
    (case l_is_before_measure_end => k_is)
    (case c_is_before_measure_end => k_is)
    (case k_is_before_measure_end => k_is)
    (case a_run_end => k_is)
    (case l_run_end => k_is)
    (case c_run_end => k_is)
    (case k_run_end => k_is)
    (case a_sign_of => k_is)
    (case l_sign_of => k_is)
    (case c_sign_of => k_is)
    (case k_sign_of => k_is)
    (case a_signs_of => k_is)
    (case l_signs_of => k_is)
    (case c_signs_of => k_is)
    (case k_signs_of => k_is)
    (case a_number_end => k_is)
    (case l_number_end => k_is)
    (case c_number_end => k_is)
    (case k_number_end => k_is)
    (case a_fraction_of => k_is)
    (case l_fraction_of => k_is)
    (case c_fraction_of => k_is)
    (case k_fraction_of => k_is)
    (case a_lowest => k_is)
    (case l_lowest => k_is)
    (case c_lowest => k_is)
    (case k_lowest => k_is)
    (case a_common_divisor => k_is)
    (case l_common_divisor => k_is)
    (case c_common_divisor => k_is)
    (case k_common_divisor => k_is)
    (case a_is_measure => k_is)
    (case l_is_measure => k_is)
    (case c_is_measure => k_is)
    (case k_is_measure => k_is)
    (case a_is_factor => k_is)
    (case l_is_factor => k_is)
    (case c_is_factor => k_is)
    (case k_is_factor => k_is)
    (case a_is_power => k_is)
    (case l_is_power => k_is)
    (case c_is_power => k_is)
    (case k_is_power => k_is)
    (case a_measured => k_is)
    (case l_measured => k_is)
    (case c_measured => k_is)
    (case k_measured => k_is)
    (case a_negated => k_is)
    (case l_negated => k_is)
    (case c_negated => k_is)
    (case k_negated => k_is)
    (case a_surface_tokens => k_is)
    (case l_surface_tokens => k_is)
    (case c_surface_tokens => k_is)
    (case k_surface_tokens => k_is)
    (case a_tokens_between => k_is)
    (case l_tokens_between => k_is)
    (case c_tokens_between => k_is)
    (case k_tokens_between => k_is)
    (case a_surface_gap_end => k_is)
    (case l_surface_gap_end => k_is)
    (case c_surface_gap_end => k_is)
    (case k_surface_gap_end => k_is)
    (case a_comment_end => k_is)
    (case l_comment_end => k_is)
    (case c_comment_end => k_is)
    (case k_comment_end => k_is)
    (case a_surface_token => k_is)
    (case l_surface_token => k_is)
    (case c_surface_token => k_is)
    (case k_surface_token => k_is)
    (case a_word_token => k_is)
    (case l_word_token => k_is)
    (case c_word_token => k_is)
    (case k_word_token => k_is)
    (case a_number_token => k_is)
    (case l_number_token => k_is)
    (case c_number_token => k_is)
    (case k_number_token => k_is)
    (case a_measure_at => k_is)
    (case l_measure_at => k_is)
    (case c_measure_at => k_is)
    (case k_measure_at => k_is)
    (case a_sign_token => k_is)
    (case l_sign_token => k_is)
    (case c_sign_token => k_is)
    (case k_sign_token => k_is)
    (case a_tokens => k_is)
    (case l_tokens => k_is)
    (case c_tokens => k_is)
    (case k_tokens => k_is)
    (case a_answered => k_is)
    (case l_answered => k_is)
    (case c_answered => k_is)
    (case k_answered => k_is)
    (case a_tokens_answer => k_is)
    (case l_tokens_answer => k_is)
    (case c_tokens_answer => k_is)
    (case k_tokens_answer => k_is)
  case S =>
    intro K H xs a hO hwi hask hx
    cases hx with
    | cons h1 h2 =>
      cases h2
      cases h1 with
      | lst hs ha =>
        have e := L2.ints_dw a.1 _ ha
        subst e
        have q : ((Codec.inLen 0 10000 a.1 && a.1.all (Codec.inInt 0 255)) && true) = true := hwi
        rw [Bool.and_eq_true, Bool.and_eq_true] at q
        refine ⟨_, a.1, rfl, hs, (Codec.inNat_iff.mp q.1.1).2, fun n hn => ?_, fun H' p hp => .lst (L2.SqL.of hp) (L2.dw_ints _)⟩
        have := List.all_eq_true.mp q.1.2 n hn
        unfold Codec.inInt at this
        simpa using this
#print axioms PySem.Challenge.cw_measuretext_s01_tokens_holds
