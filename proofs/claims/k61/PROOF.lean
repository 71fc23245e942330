import PyProof.Rows.All
import Wide.All
import OpenK.AllK
import Wide.FinOn
import Lean
import PyProof.EqAt
import PyProof.EqKinds
import PyProof.TupleCall
import PyProof.ExcClass3
import PyProof.NeKinds
import PyProof.ZipIter
import PyProof.ExcArgsOwn
import KE.KIntText
import PySem.Challenge.RW_hastebook_k61_numbers_and_names
set_option Elab.async false
/-! LayL -/
set_option linter.all false
set_option maxRecDepth 100000
/-! THE HAND LAYER, for ints, bools, texts, own classes, LISTS and tuples (index, slices, in, append, pop ..), calls, loops. Paste it whole ahead of your own text; what your proof does not reach may be deleted. -/
namespace L2
open PySem PySem.Spec PyProof.Rows

abbrev Key := Sum Int Str
def keyIs : Key → Value → Bool
  | .inl k, v => Value.isInt k v
  | .inr x, v => Value.isStrOf x v
def keyH (w : World) : Key → Int
  | .inl k => hashInt k
  | .inr x => hashStr w x
theorem keyIs_shape : ∀ {k : Key} {v : Value}, keyIs k v = true → (∃ i t, k = Sum.inl i ∧ v = Value.int i t) ∨ (∃ x t, k = Sum.inr x ∧ v = Value.str x t)
  | .inl i, v, h => by
    obtain ⟨t, e⟩ := Value.isInt_shape (k := i) (v := v) h
    exact .inl ⟨i, t, rfl, e⟩
  | .inr x, v, h => by
    obtain ⟨t, e⟩ := Value.isStrOf_shape (x := x) (v := v) h
    exact .inr ⟨x, t, rfl, e⟩
theorem key_ll (a b : Int) : decide ((Sum.inl a : Key) = Sum.inl b) = (a == b) := by
  by_cases e : a = b
  · subst e; simp
  · have h : ¬ (Sum.inl a : Key) = Sum.inl b := fun q => e (Sum.inl.inj q)
    rw [decide_eq_false h]
    exact (beq_eq_false_iff_ne.mpr e).symm
theorem key_rr (a b : Str) : decide ((Sum.inr a : Key) = Sum.inr b) = decide (a = b) := by
  by_cases e : a = b
  · subst e; simp
  · have h : ¬ (Sum.inr a : Key) = Sum.inr b := fun q => e (Sum.inr.inj q)
    rw [decide_eq_false h, decide_eq_false e]
theorem key_lr (a : Int) (b : Str) : decide ((Sum.inl a : Key) = Sum.inr b) = false := decide_eq_false (fun q => nomatch q)
theorem key_rl (a : Str) (b : Int) : decide ((Sum.inr a : Key) = Sum.inl b) = false := decide_eq_false (fun q => nomatch q)

def mixKind (prog : Program) (w : World) : PySem.KeyKind prog w Key where
  is := keyIs
  hash := keyH w
  inj := fun v a b ha hb => by
    rcases keyIs_shape ha with ⟨i, t, rfl, rfl⟩ | ⟨x, t, rfl, rfl⟩
    · rcases keyIs_shape hb with ⟨j, u, rfl, e⟩ | ⟨y, u, rfl, e⟩
      · injection e with e1 _; rw [e1]
      · exact nomatch e
    · rcases keyIs_shape hb with ⟨j, u, rfl, e⟩ | ⟨y, u, rfl, e⟩
      · exact nomatch e
      · injection e with e1 _; rw [e1]
  byValue := fun k v h => by
    rcases keyIs_shape h with ⟨i, t, rfl, rfl⟩ | ⟨x, t, rfl, rfl⟩ <;> rfl
  pyHash := fun hv h => by
    rcases keyIs_shape hv with ⟨i, t, rfl, rfl⟩ | ⟨x, t, rfl, rfl⟩
    · exact wpAny_pyHash_int h
    · exact wpAny_pyHash_str h
  eqBool := fun hu hv h => by
    rcases keyIs_shape hu with ⟨i, t, rfl, rfl⟩ | ⟨x, t, rfl, rfl⟩
    · rcases keyIs_shape hv with ⟨j, u, rfl, rfl⟩ | ⟨y, u, rfl, rfl⟩
      · rw [key_ll] at h; exact wpAny_eqBool_int h
      · rw [key_lr] at h; exact SeqAt.EqAt.int_str i t y u _ _ _ _ h
    · rcases keyIs_shape hv with ⟨j, u, rfl, rfl⟩ | ⟨y, u, rfl, rfl⟩
      · rw [key_rl] at h; exact SeqAt.EqAt.str_int x t j u _ _ _ _ h
      · rw [key_rr] at h; exact wpAny_eqBool_str h
  «strs» := fun k x t v h => by
    rcases keyIs_shape h with ⟨i, u, rfl, e⟩ | ⟨y, u, rfl, e⟩
    · exact nomatch e
    · injection e with e1 _
      subst e1
      cases v <;> rfl

end L2

namespace L2
open PySem PySem.Spec PyProof.Rows

inductive V where
  | non | bl (b : Bool) | int (i : Int) | str (x : Str) | byt (b : Array UInt8) | flt (b : UInt64) | ref (a : Addr) | ty (n : String)
  deriving DecidableEq

def RelV : V → Value → Prop
  | .non, u => u = Value.none
  | .bl b, u => u = Value.bool b
  | .int i, u => ∃ t, u = Value.int i t
  | .str x, u => ∃ t, u = Value.str x t
  | .byt b, u => ∃ t, u = Value.bytes b t
  | .flt b, u => ∃ t, u = Value.float b t
  | .ref a, u => u = Value.ref a
  | .ty n, u => u = Value.type n

abbrev Vals : List V → List Value → Prop := Paired RelV
theorem Vals.length {xs : List V} {us : List Value} (r : Vals xs us) : xs.length = us.length := Paired.length r
theorem Vals.get : ∀ {xs : List V} {us : List Value} {i : Nat} {x : V}, Vals xs us → xs[i]? = some x → ∃ u, us[i]? = some u ∧ RelV x u
  | _, _, _, _, .nil, e => by simp at e
  | _, _, 0, _, .cons r _, e => by simp at e; subst e; exact ⟨_, rfl, r⟩
  | _, _, i + 1, x, .cons _ t, e => by
    obtain ⟨u, h1, h2⟩ := Vals.get (i := i) (x := x) t (by simpa using e)
    exact ⟨u, by simpa using h1, h2⟩
theorem Vals.set {x : V} {u : Value} (r : RelV x u) : ∀ {xs : List V} {us : List Value} (i : Nat), Vals xs us → Vals (xs.set i x) (us.set i u)
  | _, _, _, .nil => .nil
  | _, _, 0, .cons _ t => .cons r t
  | _, _, i + 1, .cons q t => .cons q (Vals.set r i t)
theorem Vals.append : ∀ {xs ys : List V} {us ws : List Value}, Vals xs us → Vals ys ws → Vals (xs ++ ys) (us ++ ws)
  | _, _, _, _, .nil, s => s
  | _, _, _, _, .cons r t, s => .cons r (Vals.append t s)
theorem Vals.take : ∀ {xs : List V} {us : List Value} (n : Nat), Vals xs us → Vals (xs.take n) (us.take n)
  | _, _, 0, _ => .nil
  | _, _, _ + 1, .nil => .nil
  | _, _, n + 1, .cons r t => .cons r (Vals.take n t)
theorem Vals.drop : ∀ {xs : List V} {us : List Value} (n : Nat), Vals xs us → Vals (xs.drop n) (us.drop n)
  | _, _, 0, r => r
  | _, _, _ + 1, .nil => .nil
  | _, _, n + 1, .cons _ t => Vals.drop n t
def RelO : Option V → Option Value → Prop
  | some v, some u => RelV v u
  | none, none => True
  | _, _ => False
def KV {κ : Type} : List (κ × V) → List (κ × Value) → Prop := Paired fun (p : κ × V) (q : κ × Value) => p.1 = q.1 ∧ RelV p.2 q.2

def kV : Key → V
  | .inl i => .int i
  | .inr x => .str x

inductive HO where
  | lst (xs : List V)
  | tup (xs : List V)
  | dK (kvs : List (Key × V)) | dT (kvs : List (List Key × V))
  | set (S : Int → Bool) (n : Nat)
  | ins (C dx : Addr) (fs : List (Str × V))
  | own (x : Addr)
  | xd (fs : List (Str × V))
  | met (f x : Addr)
  | rng (lo hi : Int)
  | frz (o : Obj) (u : HO)
  | tbl (ps : Array Value)
  | ext (φ : Heap → Prop)

abbrev Hp := Addr → Option HO
def upd (H : Hp) (a : Addr) (o : HO) : Hp := fun b => if b = a then some o else H b
theorem upd_same {H : Hp} {a : Addr} {o : HO} : upd H a o a = some o := by unfold upd; rw [if_pos rfl]
theorem upd_ne {H : Hp} {a b : Addr} {o : HO} (h : b ≠ a) : upd H a o b = H b := by unfold upd; rw [if_neg h]
theorem ne_of_none {H : Hp} {a b : Addr} {o : HO} (h : H a = some o) (h' : H b = none) : a ≠ b := by
  intro e; subst e; rw [h] at h'; cases h'

section
variable (P : Program) (w : World)
def ObjOk (H : Hp) (h : Heap) (a : Addr) : HO → Prop
  | .lst xs => xs.length ≤ sizeLine ∧ ∃ (its : List Value) (n : Nat), Vals xs its ∧ h.get? a = some { cls := .type "list", data := .seq its.toArray n }
  | .tup xs => xs.length ≤ sizeLine ∧ ∃ its : List Value, Vals xs its ∧ IsTup h a its.toArray
  | .dK kvs => kvs.length ≤ sizeLine ∧ (a == sysModules) = false ∧ ∃ vs, KV kvs vs ∧ h.DictOf (mixKind P w) a vs
  | .dT kvs => kvs.length ≤ sizeLine ∧ (a == sysModules) = false ∧ ∃ xs : List (List Key × Addr × Value),
      Paired (fun (p : List Key × V) (q : List Key × Addr × Value) => p.1 = q.1 ∧ H q.2.1 = some (.tup (p.1.map kV)) ∧ RelV p.2 q.2.2) kvs xs ∧
      ∃ o es ep, h.get? a = some o ∧ o.ExactDict ∧ o.data = .dict es ep ∧ es.toList = xs.map (entryOfKey (tupleKind (mixKind P w))) ∧ (xs.map (·.1)).Nodup
  | .set S n => h.SetOf (intKind P w) a S n
  | .ins C dx fs => H dx = some (.own a) ∧ fs.length ≤ 1000 ∧ dx ≠ a ∧ h.get? a = some (PySem.W.instObj C dx) ∧
      ∃ mA, h.Ns1 dx mA ∧ (∀ f, RelO (fs.lookup f) (mA f)) ∧ PySem.Within mA (fs.map (·.1))
  | .own _ => ∃ o, h.get? a = some o
  | .xd fs => ∃ mA, h.Ns1 a mA ∧ ∀ f, RelO (fs.lookup f) (mA f)
  | .rng lo hi => ∃ t u v, h.get? a = some { cls := .type "range", data := .fields #[.int lo t, .int hi u, .int 1 v] }
  | .frz o u => h.get? a = some o ∧ ObjOk H h a u
  | .tbl ps => h.get? a = some { cls := .none, data := .fields ps }
  | .met f x => h.get? a = some (PySem.W.methodObj (.ref f) (.ref x))
  | .ext φ => φ h ∧ (∃ o, h.get? a = some o) ∧ ∀ h1 h2 : Heap, φ h1 → (∀ o, h1.get? a = some o → h2.get? a = some o) → φ h2
def HOk (H : Hp) (h : Heap) : Prop := ∀ a o, H a = some o → ObjOk P w H h a o
end

section
variable {P : Program} {w : World} {H H' : Hp} {h h' : Heap} {a : Addr} {o : HO}
theorem ObjOk.lt (x : ObjOk P w H h a o) : a < h.objs.size := by
  cases o with
  | lst xs => obtain ⟨_, _, _, _, e⟩ := x; exact Heap.lt_size e
  | tup xs => obtain ⟨_, _, _, p⟩ := x; exact p.lt
  | dK kvs => obtain ⟨_, _, _, _, o, _, _, e, _⟩ := x; exact Heap.lt_size e
  | dT kvs => obtain ⟨_, _, _, _, o, _, _, e, _⟩ := x; exact Heap.lt_size e
  | set S n => obtain ⟨o, _, _, _, e, _⟩ := x; exact Heap.lt_size e
  | ins C dx fs => obtain ⟨_, _, _, e, _⟩ := x; exact Heap.lt_size e
  | own y => obtain ⟨_, e⟩ := x; exact Heap.lt_size e
  | xd fs => obtain ⟨_, ⟨_, _, _, e, _⟩, _⟩ := x; exact Heap.lt_size e
  | rng lo hi => obtain ⟨_, _, _, e⟩ := x; exact Heap.lt_size e
  | frz ob u => obtain ⟨e, _⟩ := x; exact Heap.lt_size e
  | tbl ps => exact Heap.lt_size (show h.get? a = some _ from x)
  | met f y => exact Heap.lt_size (show h.get? a = some _ from x)
  | ext φ => obtain ⟨_, ⟨_, e⟩, _⟩ := x; exact Heap.lt_size e
theorem Paired.mapP {α β : Type} {F G : α → β → Prop} : ∀ {l₁ : List α} {l₂ : List β}, Paired F l₁ l₂ → (∀ a b, F a b → G a b) → Paired G l₁ l₂
  | _, _, .nil, _ => .nil
  | _, _, .cons r t, f => .cons (f _ _ r) (Paired.mapP t f)
theorem ObjOk.stay (x : ObjOk P w H h a o) (k : ∀ b u, (b = a ∨ H b = some (.own a)) → h.get? b = some u → h'.get? b = some u)
    (ho : ∀ b, H b = some (.own a) → H' b = some (.own a)) (ht : ∀ b xs, H b = some (.tup xs) → H' b = some (.tup xs)) : ObjOk P w H' h' a o := by
  induction o with
  | lst xs => obtain ⟨z, its, n, r, e⟩ := x; exact ⟨z, its, n, r, k _ _ (.inl rfl) e⟩
  | tup xs => obtain ⟨z, its, r, ob, e, c⟩ := x; exact ⟨z, its, r, ob, k _ _ (.inl rfl) e, c⟩
  | dK kvs => obtain ⟨z, y, vs, r, ob, es, ep, e, c⟩ := x; exact ⟨z, y, vs, r, ob, es, ep, k _ _ (.inl rfl) e, c⟩
  | dT kvs =>
    obtain ⟨z, y, xs, r, ob, es, ep, e, c⟩ := x
    exact ⟨z, y, xs, Paired.mapP r fun p q z => ⟨z.1, ht _ _ z.2.1, z.2.2⟩, ob, es, ep, k _ _ (.inl rfl) e, c⟩
  | set S n => obtain ⟨ob, es, ep, t, e, c⟩ := x; exact ⟨ob, es, ep, t, k _ _ (.inl rfl) e, c⟩
  | ins C dx fs =>
    obtain ⟨d, z, ne, e, mA, ⟨od, es, ep, e2, c⟩, r⟩ := x
    exact ⟨ho _ d, z, ne, k _ _ (.inl rfl) e, mA, ⟨od, es, ep, k _ _ (.inr d) e2, c⟩, r⟩
  | own y => obtain ⟨ob, e⟩ := x; exact ⟨ob, k _ _ (.inl rfl) e⟩
  | xd fs => obtain ⟨mA, ⟨od, es, ep, e, c⟩, r⟩ := x; exact ⟨mA, ⟨od, es, ep, k _ _ (.inl rfl) e, c⟩, r⟩
  | rng lo hi => obtain ⟨t, u, v, e⟩ := x; exact ⟨t, u, v, k _ _ (.inl rfl) e⟩
  | frz ob u ih => obtain ⟨e, q⟩ := x; exact ⟨k _ _ (.inl rfl) e, ih q⟩
  | tbl ps =>
    have e : h.get? a = some { cls := .none, data := .fields ps } := x
    show h'.get? a = some { cls := .none, data := .fields ps }
    exact k a _ (.inl rfl) e
  | met f y =>
    have e : h.get? a = some (PySem.W.methodObj (.ref f) (.ref y)) := x
    show h'.get? a = some (PySem.W.methodObj (.ref f) (.ref y))
    exact k a _ (.inl rfl) e
  | ext φ => obtain ⟨p, ⟨o, e⟩, st⟩ := x; exact ⟨st _ _ p fun o q => k _ _ (.inl rfl) q, ⟨o, k _ _ (.inl rfl) e⟩, st⟩
theorem HOk.lt (x : HOk P w H h) (e : H a = some o) : a < h.objs.size := (x a o e).lt
theorem HOk.fresh (x : HOk P w H h) (e : h.objs.size ≤ a) : H a = none := by
  cases q : H a with
  | none => rfl
  | some u => exact absurd (Nat.lt_of_lt_of_le (x.lt q) e) (Nat.lt_irrefl _)
theorem HOk.kept (x : HOk P w H h) (k : ∀ b u, h.get? b = some u → h'.get? b = some u) : HOk P w H h' := fun a o e =>
  (x a o e).stay (fun b u _ q => k b u q) (fun _ q => q) fun _ _ q => q
theorem HOk.laid (x : HOk P w H h) (k : ∀ b u, h.get? b = some u → h'.get? b = some u) (hp : h.objs.size ≤ a) (new : ObjOk P w (upd H a o) h' a o) : HOk P w (upd H a o) h' := fun b u e => by
  have hn := x.fresh hp
  by_cases hb : b = a
  · subst hb; rw [upd_same] at e; cases e; exact new
  · rw [upd_ne hb] at e
    exact (x b u e).stay (fun c v _ q => k c v q) (fun c q => by rw [upd_ne (ne_of_none q hn)]; exact q) fun c xs q => by rw [upd_ne (ne_of_none q hn)]; exact q
end

def Rd (H : Hp) (a : Addr) (u : HO) : Prop := H a = some u ∨ ∃ o, H a = some (.frz o u)
theorem Rd.of {H : Hp} {a : Addr} {u : HO} (h : H a = some u) : Rd H a u := .inl h
theorem Rd.ok {P : Program} {w : World} {H : Hp} {h : Heap} {a : Addr} {u : HO} (r : Rd H a u) (x : HOk P w H h) : ObjOk P w H h a u := by
  rcases r with r | ⟨o, r⟩
  · exact x a u r
  · obtain ⟨_, q⟩ := x a _ r
    exact q
def Mut : Option HO → Prop
  | some (.lst _) => True
  | some (.dK _) => True
  | some (.dT _) => True
  | some (.set _ _) => True
  | some (.ins _ _ _) => True
  | some (.ext _) => True
  | _ => False
section
variable {P : Program} {w : World} {H : Hp} {h h' : Heap} {x e : Addr} {o' : HO}
theorem HOk.write (ok : HOk P w H h) (mu : Mut (H x)) (he : e = x ∨ H e = some (.own x)) (k : ∀ b u, b ≠ e → h.get? b = some u → h'.get? b = some u) (heo : ∃ u, h'.get? e = some u)
    (new : ObjOk P w (upd H x o') h' x o') : HOk P w (upd H x o') h' := fun b u q => by
  have nown : ∀ c y, H c = some (.own y) → c ≠ x := fun c y r z => by subst z; rw [r] at mu; exact mu
  have ntup : ∀ c xs, H c = some (.tup xs) → c ≠ x := fun c xs r z => by subst z; rw [r] at mu; exact mu
  by_cases hb : b = x
  · subst hb; rw [upd_same] at q; cases q; exact new
  · rw [upd_ne hb] at q
    by_cases hbe : b = e
    · have q' : H b = some (.own x) := by
        rcases he with z | z
        · exact absurd (hbe.trans z) hb
        · rw [hbe]; exact z
      rw [q] at q'; cases q'
      obtain ⟨v, hv⟩ := heo
      exact ⟨v, by rw [hbe]; exact hv⟩
    · refine (ok b u q).stay (fun c v hc r => k c v ?_ r) (fun c r => by rw [upd_ne (nown c b r)]; exact r) fun c xs r => by rw [upd_ne (ntup c xs r)]; exact r
      rcases hc with rfl | hc
      · exact hbe
      · rintro rfl
        rcases he with z | z
        · exact nown c b hc z
        · rw [hc] at z; cases z; exact hb rfl
end

/-! ### kept unless tracked; of the frames at fs (the callers') the slots may change (an exception that passes writes there); of the records at ex (iterators) nothing is said -/
structure Un (fs ex : List Addr) (H H' : Hp) (h h' : Heap) : Prop where
  keep : ∀ b o, h.get? b = some o → H b = none → b ∉ fs → b ∉ ex → h'.get? b = some o
  slot : ∀ b o, h.get? b = some o → H b = none → b ∈ fs → b ∉ ex → ∃ sl, h'.get? b = some { o with slots := sl }
  free : ∀ b o, h.get? b = some o → H b = none → b ∉ ex → H' b = none
  there : ∀ b o, h.get? b = some o → b ∉ ex → ∃ o', h'.get? b = some o'
  tups : ∀ b xs, H b = some (.tup xs) → H' b = some (.tup xs)
  frzs : ∀ b o u, H b = some (.frz o u) → H' b = some (.frz o u)
  tbls : ∀ b ps, H b = some (.tbl ps) → ∃ more, H' b = some (.tbl (ps ++ more))
section
variable {fs fs' ex ex' : List Addr} {H H1 H2 : Hp} {h h1 h2 h' : Heap} {a x e : Addr} {o : HO}
theorem Un.any (u : Un fs ex H H1 h h1) {b : Addr} {ob : Obj} (q : h.get? b = some ob) (n : H b = none) (hx : b ∉ ex) : ∃ sl, h1.get? b = some { ob with slots := sl } := by
  by_cases hb : b ∈ fs
  · exact u.slot b ob q n hb hx
  · exact ⟨ob.slots, u.keep b ob q n hb hx⟩
theorem Un.trans (a : Un fs ex H H1 h h1) (b : Un fs ex H1 H2 h1 h2) : Un fs ex H H2 h h2 where
  keep := fun c ob q n hc hx => b.keep c ob (a.keep c ob q n hc hx) (a.free c ob q n hx) hc hx
  slot := fun c ob q n hc hx => by
    obtain ⟨sl, e1⟩ := a.slot c ob q n hc hx
    obtain ⟨sl', e2⟩ := b.slot c _ e1 (a.free c ob q n hx) hc hx
    exact ⟨sl', e2⟩
  free := fun c ob q n hx => by
    obtain ⟨o', e1⟩ := a.there c ob q hx
    exact b.free c o' e1 (a.free c ob q n hx) hx
  there := fun c ob q hx => by
    obtain ⟨o', e1⟩ := a.there c ob q hx
    exact b.there c o' e1 hx
  tups := fun c xs q => b.tups c xs (a.tups c xs q)
  frzs := fun c ob xs q => b.frzs c ob xs (a.frzs c ob xs q)
  tbls := fun c ps q => by
    obtain ⟨m1, e1⟩ := a.tbls c ps q
    obtain ⟨m2, e2⟩ := b.tbls c _ e1
    exact ⟨m1 ++ m2, by rw [e2, Array.append_assoc]⟩
theorem Un.kept (k : ∀ b u, h.get? b = some u → h'.get? b = some u) : Un fs ex H H h h' :=
  ⟨fun b ob q _ _ _ => k b ob q, fun b ob q _ _ _ => ⟨ob.slots, k b ob q⟩, fun _ _ _ n _ => n, fun b ob q _ => ⟨ob, k b ob q⟩, fun _ _ q => q, fun _ _ _ q => q, fun _ ps q => ⟨#[], by rw [q]; simp⟩⟩
theorem Un.refl : Un fs ex H H h h := Un.kept fun _ _ q => q
theorem Un.laid (k : ∀ b u, h.get? b = some u → h'.get? b = some u) (hp : h.objs.size ≤ a) (hn : H a = none) : Un fs ex H (upd H a o) h h' where
  keep := fun b u q _ _ _ => k b u q
  slot := fun b u q _ _ _ => ⟨u.slots, k b u q⟩
  free := fun b u q n _ => by rw [upd_ne (Nat.ne_of_lt (Nat.lt_of_lt_of_le (Heap.lt_size q) hp))]; exact n
  there := fun b u q _ => ⟨u, k b u q⟩
  tups := fun b xs q => by rw [upd_ne (ne_of_none q hn)]; exact q
  frzs := fun b u xs q => by rw [upd_ne (ne_of_none q hn)]; exact q
  tbls := fun b ps q => ⟨#[], by rw [upd_ne (ne_of_none q hn), q]; simp⟩
theorem Un.write (mu : Mut (H x)) (he : e = x ∨ H e = some (.own x)) (k : ∀ b u, b ≠ e → h.get? b = some u → h'.get? b = some u) (heo : ∃ u, h'.get? e = some u) : Un fs ex H (upd H x o) h h' := by
  have hx : ∀ b, H b = none → b ≠ x := fun b n z => by subst z; rw [n] at mu; exact mu
  have hb : ∀ b, H b = none → b ≠ e := fun b n z => by
    subst z
    rcases he with r | r
    · exact hx b n r
    · rw [n] at r; cases r
  have hm : ∀ b u, H b = some u → ¬ Mut (some u) → b ≠ x := fun b u q nm z => by subst z; rw [q] at mu; exact nm mu
  refine ⟨fun b u q n _ _ => k b u (hb b n) q, fun b u q n _ _ => ⟨u.slots, k b u (hb b n) q⟩, fun b u q n _ => by rw [upd_ne (hx b n)]; exact n, fun b u q _ => ?_,
    fun b xs q => by rw [upd_ne (hm b _ q fun z => z)]; exact q, fun b u xs q => by rw [upd_ne (hm b _ q fun z => z)]; exact q, fun b ps q => ⟨#[], by rw [upd_ne (hm b _ q fun z => z), q]; simp⟩⟩
  by_cases hbe : b = e
  · subst hbe; exact heo
  · exact ⟨u, k b u hbe q⟩
theorem Un.mono (u : Un fs ex H H1 h h1) (hs : ∀ b ∈ fs, b ∈ fs') (hx : ∀ b ∈ ex, b ∈ ex') : Un fs' ex' H H1 h h1 :=
  ⟨fun b ob q n hb he => u.keep b ob q n (fun z => hb (hs b z)) fun z => he (hx b z), fun _ _ q n _ he => u.any q n fun z => he (hx _ z), fun b ob q n he => u.free b ob q n fun z => he (hx b z), fun b ob q he => u.there b ob q fun z => he (hx b z), u.tups, u.frzs, u.tbls⟩
end

/-! ### the heap without what is tracked -/
def trk (h : Heap) (H : Hp) : List Addr := (List.range h.objs.size).filter fun a => (H a).isSome
def hidT (h : Heap) (H : Hp) : Heap := PySem.W.hideAll h (trk h H)
theorem hidT_size (h : Heap) (H : Hp) : (hidT h H).objs.size = h.objs.size := PySem.W.hideAll_size _ _
theorem hidT_get {h : Heap} {H : Hp} {b : Addr} {o : Obj} (e : h.get? b = some o) (n : H b = none) : (hidT h H).get? b = some o :=
  PySem.W.hideAll_get _ e fun hm => by
    have q : (H b).isSome = true := (List.mem_filter.mp hm).2
    rw [n] at q; simp at q
theorem of_hidT {h : Heap} {H : Hp} {b : Addr} {o : Obj} (e : (hidT h H).get? b = some o) : h.get? b = some o ∧ H b = none := by
  have e' : h.get? b = some o := PySem.W.of_hideAll (trk h H) e
  refine ⟨e', ?_⟩
  cases q : H b with
  | none => rfl
  | some x =>
    have hm : b ∈ trk h H := List.mem_filter.mpr ⟨List.mem_range.mpr (Heap.lt_size e'), by simp [q]⟩
    have z : (hidT h H).get? b = none := PySem.W.hideAll_none (trk h H) hm
    rw [z] at e; cases e

/-! ### OpenK's ledger, filled with every new object but one -/
def allNews (g h : Heap) (L : Addr) : List (Addr × Obj) := (List.range h.objs.size).filterMap fun a => if a = L ∨ (g.get? a).isSome = true then none else (h.get? a).map fun o => (a, o)
def rest (g h : Heap) (L d : Addr) : List (Addr × Obj) := (allNews g h L).filter fun p => decide (p.1 ≠ d)
end L2

namespace L2
open PySem PySem.Spec PyProof.Rows

structure Mod (K : PySem.W.Frag) (mg : Str → Option Value) (base : Heap) : Prop where
  kin : K.In base
  glob : base.Ns mainGlobals mg
  blt : ∃ mb, base.Ns builtinsNs mb ∧ ∀ x : Str, x ≠ "__name__" → mb x = bootBuiltins x
  nolimit : base.NoLimit

structure Cx where
  prog : Program
  w : World
  K : PySem.W.Frag
  mg : Str → Option Value
  base : Heap
  A : Around
  N : List Str
  s₀ : Shared
  H₀ : Hp
  env : Env
  outer : List Env
  stack : List Env
  ex : List Addr
  fn : Str → Bool
  calm : Bool
  pn : List (Addr × Obj)
  xe : Value → Shared → Prop
def frs (l : List Env) : List Addr := l.filterMap (·.frame)
abbrev Cx.fs (X : Cx) : List Addr := frs X.outer

def Vis (sc : Scope) (x : Str) : Prop := sc.names.lookup x = some .local ∨ sc.names.lookup x = some .cell ∨ sc.names.lookup x = some .free
def Loc (sc : Scope) (x : Str) : Prop := sc.names.lookup x = some .local ∨ sc.names.lookup x = some .cell
def Look (env : Env) (h : Heap) (m : Str → Option Value) (x : Str) (u : Value) : Prop :=
  (env.kindOf x = some .local ∧ m x = some u) ∨ ((env.kindOf x = some .cell ∨ env.kindOf x = some .free) ∧ ∃ c, env.cells.lookup x = some c ∧ h.IsCell c (some u))

structure Cx.Ok (X : Cx) : Prop where
  mod : Mod X.K X.mg X.base
  kind : X.env.scope.kind = .function
  glob : X.env.globals = mainGlobals
  blt : X.env.builtins = builtinsNs
  above : X.s₀.heap.objs.size ≤ X.env.locals
  inj : ∀ x y c, X.env.cells.lookup x = some c → X.env.cells.lookup y = some c → x = y
  has : ∀ x, (X.env.kindOf x = some .cell ∨ X.env.kindOf x = some .free) → ∃ c, X.env.cells.lookup x = some c
  cab : ∀ x c, X.fn x = true → X.env.cells.lookup x = some c → X.s₀.heap.objs.size ≤ c
  hd : X.calm = true → X.A.handled = none
  frames : X.A.frames = some X.stack
  stk : X.stack = X.outer ∨ (X.stack = X.env :: X.outer ∧ X.env.frame = some X.env.locals)
  exf : ∀ b ∈ X.ex, b ≠ X.env.locals ∧ ∀ x c, X.env.cells.lookup x = some c → c ≠ b
  bs : ∀ b o, X.base.get? b = some o → X.s₀.heap.get? b = some o ∧ X.H₀ b = none
  bsz : X.base.objs.size ≤ X.s₀.heap.objs.size
  noex : ∀ b o, X.base.get? b = some o → b ∉ X.ex
  exfs : ∀ b ∈ X.ex, b ∉ X.fs
  funs : X.s₀.heap.FunFrames X.base X.outer
  frf : ∀ b ∈ X.fs, X.H₀ b = none

structure Inv (X : Cx) (pins : List (Addr × Obj)) (σ : List (Option V)) (H : Hp) (s : Shared) : Prop where
  ok : X.Ok
  os : s.os = X.s₀.os
  bare : AllBare s.gens
  base : Un X.fs X.ex X.H₀ H X.s₀.heap s.heap
  loc : ∃ m, s.heap.Ns X.env.locals m ∧ ∀ (i : Nat) (x : Str) (v : V), X.N[i]? = some x → σ[i]? = some (some v) → Vis X.env.scope x → ∃ u, RelV v u ∧ Look X.env s.heap m x u
  cell : ∀ x c, X.env.cells.lookup x = some c → ∃ v, s.heap.IsCell c v
  free : H X.env.locals = none
  freeC : ∀ x c, X.env.cells.lookup x = some c → H c = none
  pin : ∀ p ∈ X.pn ++ pins, s.heap.get? p.1 = some p.2 ∧ H p.1 = none ∧ p.1 ≠ X.env.locals ∧ p.1 ∉ X.fs ∧ ∀ v, p.2.data ≠ .cell v
  hok : HOk X.prog X.w H s.heap
  len : σ.length = X.N.length

section
variable {X : Cx} {pins : List (Addr × Obj)} {σ : List (Option V)} {H H' : Hp} {s : Shared} {h' : Heap}

theorem Cx.Ok.nofr (ok : X.Ok) {b : Addr} {o : Obj} (e : X.base.get? b = some o) : b ∉ X.fs := fun hb => by
  have := (ok.funs.mem hb).1
  rw [e] at this; cases this
theorem Inv.bs (I : Inv X pins σ H s) : ∀ b o, X.base.get? b = some o → s.heap.get? b = some o ∧ H b = none := fun b o e =>
  ⟨I.base.keep b o (I.ok.bs b o e).1 (I.ok.bs b o e).2 (I.ok.nofr e) (I.ok.noex b o e), I.base.free b o (I.ok.bs b o e).1 (I.ok.bs b o e).2 (I.ok.noex b o e)⟩
theorem Inv.bk (I : Inv X pins σ H s) : ∀ b o, X.base.get? b = some o → s.heap.get? b = some o := fun b o e => (I.bs b o e).1
theorem Inv.mod (I : Inv X pins σ H s) : Mod X.K X.mg X.base := I.ok.mod
theorem Inv.kIn (I : Inv X pins σ H s) : X.K.In s.heap := I.ok.mod.kin.keeps I.bk
theorem Inv.nolimit (I : Inv X pins σ H s) : s.heap.NoLimit := I.ok.mod.nolimit.keeps I.bk
theorem Inv.fr (I : Inv X pins σ H s) : ∃ m, Fr X.base X.env.locals s.heap m :=
  let ⟨m, hn, _⟩ := I.loc
  ⟨m, hn, I.bk, Nat.le_trans I.ok.bsz I.ok.above⟩
theorem Inv.lt (I : Inv X pins σ H s) : X.env.locals < s.heap.objs.size := let ⟨_, hn, _⟩ := I.loc; hn.lt
theorem Inv.sz (I : Inv X pins σ H s) : X.s₀.heap.objs.size ≤ s.heap.objs.size := Nat.le_trans I.ok.above (Nat.le_of_lt I.lt)
theorem Inv.nofs (I : Inv X pins σ H s) {a : Addr} (h : s.heap.objs.size ≤ a) : a ∉ X.fs := fun hb => by
  obtain ⟨_, o, ho, _⟩ := I.ok.funs.mem hb
  exact absurd (Nat.lt_of_lt_of_le (Heap.lt_size ho) (Nat.le_trans I.sz h)) (Nat.lt_irrefl _)
theorem Inv.cne (I : Inv X pins σ H s) : ∀ x c, X.env.cells.lookup x = some c → c ≠ X.env.locals := fun x c e z => by
  obtain ⟨v, o, ho, hd⟩ := I.cell x c e
  obtain ⟨m, ⟨o', es, ep, ho', hd', _⟩, _⟩ := I.loc
  rw [z, ho'] at ho; cases ho; rw [hd'] at hd; cases hd
theorem Inv.funs (I : Inv X pins σ H s) : s.heap.FunFrames X.base X.outer := by
  have all : ∀ (l : List Env), (∀ b ∈ frs l, b ∈ X.fs) → X.s₀.heap.FunFrames X.base l → s.heap.FunFrames X.base l := by
    intro l
    induction l with
    | nil => intro _ _; trivial
    | cons env r ih =>
      intro hs hl
      obtain ⟨hk, ⟨L, o, hf, hn, ho, hd⟩, hr⟩ := hl
      have hL : L ∈ X.fs := hs L (by unfold frs; rw [List.filterMap_cons, hf]; exact List.mem_cons_self)
      obtain ⟨sl, e⟩ := I.base.slot L o ho (I.ok.frf L hL) hL fun z => I.ok.exfs L z hL
      exact ⟨hk, ⟨L, _, hf, hn, e, hd⟩, ih (fun b hb => hs b (by unfold frs; rw [List.filterMap_cons, hf]; exact List.mem_cons_of_mem _ hb)) hr⟩
  exact all X.outer (fun _ hb => hb) I.ok.funs

theorem Inv.stack (I : Inv X pins σ H s) : s.heap.FunFrames X.base X.stack := by
  rcases I.ok.stk with e | ⟨e, hf⟩
  · rw [e]; exact I.funs
  · rw [e]
    obtain ⟨m, hn, _⟩ := I.loc
    refine .cons (by rw [I.ok.kind]; decide) hf hn ?_ I.funs
    exact Heap.get?_none_of_le (Nat.le_trans I.ok.bsz I.ok.above)
theorem Inv.stkSub (I : Inv X pins σ H s) : ∀ b ∈ frs X.stack, b ∈ X.env.locals :: X.fs := fun b hb => by
  rcases I.ok.stk with e | ⟨e, hf⟩
  · rw [e] at hb; exact List.mem_cons_of_mem _ hb
  · rw [e] at hb
    unfold frs at hb
    rw [List.filterMap_cons, hf] at hb
    exact hb
theorem Inv.stkFree (I : Inv X pins σ H s) : ∀ b ∈ frs X.stack, H b = none := fun b hb => by
  rcases List.mem_cons.mp (I.stkSub b hb) with e | hb
  · rw [e]; exact I.free
  · obtain ⟨_, o, ho, _⟩ := I.ok.funs.mem hb
    exact I.base.free b o ho (I.ok.frf b hb) fun z => I.ok.exfs b z hb

theorem Inv.step {g' : Array GenState} {t' : Nat} {d' : Drawn} {ch : List Addr} (I : Inv X pins σ H s)
    (hch : ∀ b ∈ ch, (b ∈ X.ex ∨ X.s₀.heap.objs.size ≤ b) ∧ b ≠ X.env.locals ∧ (∀ x c, X.env.cells.lookup x = some c → c ≠ b) ∧ ∀ p ∈ X.pn ++ pins, p.1 ≠ b)
    (keep : ∀ b o, b ≠ X.env.locals → b ∉ X.fs → b ∉ ch → s.heap.get? b = some o → H b = none → h'.get? b = some o)
    (slot : ∀ b o, b ≠ X.env.locals → b ∈ X.fs → b ∉ ch → s.heap.get? b = some o → H b = none → ∃ sl, h'.get? b = some { o with slots := sl }) (free : ∀ b o, b ∉ ch → s.heap.get? b = some o → H b = none → H' b = none)
    (there : ∀ b o, b ∉ ch → s.heap.get? b = some o → ∃ o', h'.get? b = some o')
    (tups : ∀ b xs, H b = some (.tup xs) → H' b = some (.tup xs)) (frzs : ∀ b o u, H b = some (.frz o u) → H' b = some (.frz o u)) (tbls : ∀ b ps, H b = some (.tbl ps) → ∃ more, H' b = some (.tbl (ps ++ more)))
    (ns : ∀ m, s.heap.Ns X.env.locals m → h'.Ns X.env.locals m) (hok : HOk X.prog X.w H' h') (hg : AllBare g') :
    Inv X pins σ H' { s with heap := h', gens := g', drawn := d', toks := t' } := by
  have neL : ∀ b o, X.s₀.heap.get? b = some o → b ≠ X.env.locals := fun b o e => Nat.ne_of_lt (Nat.lt_of_lt_of_le (Heap.lt_size e) I.ok.above)
  have neC : ∀ b o, X.s₀.heap.get? b = some o → b ∉ X.ex → b ∉ ch := fun b o e hx hb => by
    rcases (hch b hb).1 with z | z
    · exact hx z
    · exact absurd (Nat.lt_of_lt_of_le (Heap.lt_size e) z) (Nat.lt_irrefl _)
  have cellK : ∀ x c, X.env.cells.lookup x = some c → ∀ v, s.heap.IsCell c v → h'.IsCell c v := fun x c e v ⟨o, ho, hd⟩ => by
    have nch : c ∉ ch := fun z => (hch c z).2.2.1 x c e rfl
    by_cases hc : c ∈ X.fs
    · obtain ⟨sl, q⟩ := slot c o (I.cne x c e) hc nch ho (I.freeC x c e)
      exact ⟨_, q, hd⟩
    · exact ⟨o, keep c o (I.cne x c e) hc nch ho (I.freeC x c e), hd⟩
  refine ⟨I.ok, I.os, hg, ⟨fun b o e n hb hx => ?_, fun b o e n hb hx => ?_, fun b o e n hx => ?_, fun b o e hx => ?_, fun b xs e => tups b xs (I.base.tups b xs e), fun b o xs e => frzs b o xs (I.base.frzs b o xs e), fun b ps e => ?_⟩, ?_, fun x c e => ?_, ?_, fun x c e => ?_, fun p hp => ?_, hok, I.len⟩
  · exact keep b o (neL b o e) hb (neC b o e hx) (I.base.keep b o e n hb hx) (I.base.free b o e n hx)
  · obtain ⟨sl, e1⟩ := I.base.slot b o e n hb hx
    obtain ⟨sl', e2⟩ := slot b _ (neL b o e) hb (neC b o e hx) e1 (I.base.free b o e n hx)
    exact ⟨sl', e2⟩
  · obtain ⟨o', e1⟩ := I.base.there b o e hx
    exact free b o' (neC b o e hx) e1 (I.base.free b o e n hx)
  · obtain ⟨o', e1⟩ := I.base.there b o e hx
    exact there b o' (neC b o e hx) e1
  · obtain ⟨m1, e1⟩ := I.base.tbls b ps e
    obtain ⟨m2, e2⟩ := tbls b _ e1
    exact ⟨m1 ++ m2, by rw [e2, Array.append_assoc]⟩
  · obtain ⟨m, hn, hl⟩ := I.loc
    refine ⟨m, ns m hn, fun i x v e1 e2 e3 => ?_⟩
    obtain ⟨u, r, l⟩ := hl i x v e1 e2 e3
    refine ⟨u, r, ?_⟩
    rcases l with l | ⟨k, c, e, z⟩
    · exact .inl l
    · exact .inr ⟨k, c, e, cellK x c e _ z⟩
  · obtain ⟨v, z⟩ := I.cell x c e
    exact ⟨v, cellK x c e v z⟩
  · obtain ⟨m, ⟨o, _, _, ho, _⟩, _⟩ := I.loc
    exact free _ o (fun z => (hch _ z).2.1 rfl) ho I.free
  · obtain ⟨v, o, ho, hd⟩ := I.cell x c e
    exact free c o (fun z => (hch c z).2.2.1 x c e rfl) ho (I.freeC x c e)
  · obtain ⟨e, n, ne, nf, d⟩ := I.pin p hp
    have nch : p.1 ∉ ch := fun z => (hch p.1 z).2.2.2 p hp rfl
    exact ⟨keep p.1 p.2 ne nf nch e n, free p.1 p.2 nch e n, ne, nf, d⟩
theorem Inv.un {t' : Nat} (I : Inv X pins σ H s) (u : Un X.fs [] H H' s.heap h') (hok : HOk X.prog X.w H' h') : Inv X pins σ H' { s with heap := h', toks := t' } := by
  obtain ⟨m, ⟨o, es, ep, ho, r⟩, _⟩ := id I.loc
  obtain ⟨sl, hL⟩ := u.any ho I.free (by simp)
  exact I.step (g' := s.gens) (d' := s.drawn) (ch := []) (fun _ z => nomatch z) (fun b o _ hb _ e n => u.keep b o e n hb (by simp)) (fun b o _ hb _ e n => u.slot b o e n hb (by simp)) (fun b o _ e n => u.free b o e n (by simp)) (fun b o _ e => u.there b o e (by simp)) u.tups u.frzs u.tbls (fun m' hm => by
    obtain ⟨o', es', ep', ho', r'⟩ := hm
    rw [ho] at ho'; cases ho'
    exact ⟨_, es', ep', hL, r'⟩) hok I.bare
theorem Inv.call {g' : Array GenState} {t' : Nat} {d' : Drawn} {ch : List Addr} (I : Inv X pins σ H s) (u : Un (frs X.stack) ch H H' s.heap h') (hok : HOk X.prog X.w H' h') (hg : AllBare g')
    (hch : ∀ b ∈ ch, (b ∈ X.ex ∨ X.s₀.heap.objs.size ≤ b) ∧ b ≠ X.env.locals ∧ (∀ x c, X.env.cells.lookup x = some c → c ≠ b) ∧ ∀ p ∈ X.pn ++ pins, p.1 ≠ b) :
    Inv X pins σ H' { s with heap := h', gens := g', drawn := d', toks := t' } := by
  obtain ⟨m, ⟨o, es, ep, ho, r⟩, _⟩ := id I.loc
  obtain ⟨sl, hL⟩ := u.any ho I.free fun z => (hch _ z).2.1 rfl
  exact I.step (ch := ch) hch (fun b o hL hb hc e n => u.keep b o e n (fun z => (List.mem_cons.mp (I.stkSub b z)).elim hL hb) hc) (fun b o _ _ hc e n => u.any e n hc) (fun b o hc e n => u.free b o e n hc) (fun b o hc e => u.there b o e hc) u.tups u.frzs u.tbls (fun m' hm => by
    obtain ⟨o', es', ep', ho', r'⟩ := hm
    rw [ho] at ho'; cases ho'
    exact ⟨_, es', ep', hL, r'⟩) hok hg
theorem Inv.turned {t' : Nat} {it : Addr} (I : Inv X pins σ H s) (k : ∀ b o, b ≠ it → s.heap.get? b = some o → h'.get? b = some o) (hn : H it = none) (hL : it ≠ X.env.locals)
    (h1 : it ∈ X.ex ∨ X.s₀.heap.objs.size ≤ it) (h2 : ∀ x c, X.env.cells.lookup x = some c → c ≠ it) (h3 : ∀ p ∈ X.pn ++ pins, p.1 ≠ it) : Inv X pins σ H { s with heap := h', toks := t' } := by
  have nit : ∀ b u, H b = some u → b ≠ it := fun b u e z => by rw [z, hn] at e; cases e
  refine I.step (g' := s.gens) (d' := s.drawn) (ch := [it]) (fun b hb => ?_) (fun b o _ _ hc e _ => k b o (fun z => hc (by simp [z])) e) (fun b o _ _ hc e _ => ⟨o.slots, k b o (fun z => hc (by simp [z])) e⟩) (fun _ _ _ _ n => n)
    (fun b o hc e => ⟨o, k b o (fun z => hc (by simp [z])) e⟩) (fun _ _ e => e) (fun _ _ _ e => e) (fun b ps e => ⟨#[], by rw [e]; simp⟩) (fun m hm => ?_) (fun b u e => ?_) I.bare
  · have e : b = it := by simpa using hb
    subst e
    exact ⟨h1, hL, h2, h3⟩
  · obtain ⟨o, es, ep, ho, r⟩ := hm
    exact ⟨o, es, ep, k _ o (Ne.symm hL) ho, r⟩
  · refine (I.hok b u e).stay (fun c v hc q => k c v ?_ q) (fun _ q => q) fun _ _ q => q
    rcases hc with z | z
    · rw [z]; exact nit b u e
    · exact nit c _ z
theorem Inv.tok (I : Inv X pins σ H s) (t : Nat) : Inv X pins σ H { s with toks := t } := I.un (h' := s.heap) (t' := t) Un.refl I.hok
theorem Inv.kept {t' : Nat} (I : Inv X pins σ H s) (k : ∀ b u, s.heap.get? b = some u → h'.get? b = some u) : Inv X pins σ H { s with heap := h', toks := t' } := I.un (Un.kept k) (I.hok.kept k)
theorem Inv.laid {a : Addr} {o : HO} {t' : Nat} (I : Inv X pins σ H s) (k : ∀ b u, s.heap.get? b = some u → h'.get? b = some u) (hp : s.heap.objs.size ≤ a) (new : ObjOk X.prog X.w (upd H a o) h' a o) :
    Inv X pins σ (upd H a o) { s with heap := h', toks := t' } := I.un (Un.laid k hp (I.hok.fresh hp)) (I.hok.laid k hp new)
theorem Inv.write {x e : Addr} {o : HO} {t' : Nat} (I : Inv X pins σ H s) (mu : Mut (H x)) (he : e = x ∨ H e = some (.own x)) (k : ∀ b u, b ≠ e → s.heap.get? b = some u → h'.get? b = some u) (heo : ∃ u, h'.get? e = some u)
    (new : ObjOk X.prog X.w (upd H x o) h' x o) : Inv X pins σ (upd H x o) { s with heap := h', toks := t' } := I.un (Un.write mu he k heo) (I.hok.write mu he k heo new)
theorem Inv.weak {σ' : List (Option V)} (I : Inv X pins σ H s) (hl : σ'.length = σ.length) (w : ∀ (i : Nat) v, σ'[i]? = some (some v) → σ[i]? = some (some v)) : Inv X pins σ' H s :=
  ⟨I.ok, I.os, I.bare, I.base, let ⟨m, hn, hl'⟩ := I.loc; ⟨m, hn, fun i x v e1 e2 e3 => hl' i x v e1 (w i v e2) e3⟩, I.cell, I.free, I.freeC, I.pin, I.hok, hl.trans I.len⟩
theorem Inv.pins_of {pins' : List (Addr × Obj)} (I : Inv X pins σ H s) (h : ∀ p ∈ pins', s.heap.get? p.1 = some p.2 ∧ H p.1 = none ∧ p.1 ≠ X.env.locals ∧ p.1 ∉ X.fs ∧ ∀ v, p.2.data ≠ .cell v) : Inv X pins' σ H s :=
  ⟨I.ok, I.os, I.bare, I.base, I.loc, I.cell, I.free, I.freeC, fun p hp => (List.mem_append.mp hp).elim (fun z => I.pin p (List.mem_append_left _ z)) (h p), I.hok, I.len⟩

theorem nodup_ix {N : List Str} (hN : N.Nodup) {i j : Nat} {x : Str} (a : N[i]? = some x) (b : N[j]? = some x) : i = j := by
  obtain ⟨h1, e1⟩ := List.getElem?_eq_some_iff.mp a
  obtain ⟨h2, e2⟩ := List.getElem?_eq_some_iff.mp b
  exact (List.getElem_inj hN).mp (e1.trans e2.symm)

theorem store_ok2 {M : Model} {A : Around} {E : Value → Shared → Prop} {i : Nat} {x : Str} {v : V} {u : Value} {Q : Unit → Shared → Prop} (I : Inv X pins σ H s) (hN : X.N.Nodup) (hi : X.N[i]? = some x) (hx : Loc X.env.scope x) (r : RelV v u)
    (h : ∀ s', Inv X pins (σ.set i (some v)) H s' → (∃ a, Heap.SameBut a s.heap s'.heap ∧ (a = X.env.locals ∨ X.env.cells.lookup x = some a)) → Q () s') (hf : X.fn x = true ∨ X.env.scope.names.lookup x = some .local := by first | exact .inl rfl | exact .inr rfl | assumption) : wpAny M A (storeName X.env x u) Q E s := by
  obtain ⟨m, hn, hl⟩ := id I.loc
  have hcls : (X.env.scope.kind == .class || (X.env.scope.kind == .module && X.env.locals != X.env.globals)) = false := by rw [I.ok.kind]; rfl
  have hiσ : i < σ.length := by rw [I.len]; exact (List.getElem?_eq_some_iff.mp hi).1
  have cne := I.cne
  have tracked : ∀ {a : Addr} {h' : Heap}, (∃ o, s.heap.get? a = some o ∧ H a = none) → Heap.SameBut a s.heap h' → HOk X.prog X.w H h' := fun {a h'} ha hs b ob e => by
    obtain ⟨_, _, hfree⟩ := ha
    refine (I.hok b ob e).stay (fun c w' hc q => (hs.2 c ?_).trans q) (fun _ q => q) fun _ _ q => q
    rintro rfl
    rcases hc with rfl | hc
    · rw [hfree] at e; cases e
    · rw [hfree] at hc; cases hc
  rcases hx with hk | hk
  · refine wpAny_storeName_local hk hn (fun h' hn' hs => ?_) hcls
    obtain ⟨oL, _, _, hoL, _⟩ := id hn
    refine h _ ⟨I.ok, I.os, I.bare, ⟨fun b o e n hb hx => ?_, fun b o e n hb hx => ?_, I.base.free, fun b o e hx => ?_, I.base.tups, I.base.frzs, I.base.tbls⟩, ⟨_, hn', fun j y v' e1 e2 e3 => ?_⟩, fun y c e => ?_, I.free, I.freeC, fun p hp => ?_, tracked ⟨oL, hoL, I.free⟩ hs, by simpa using I.len⟩ ⟨_, hs, .inl rfl⟩
    · exact (hs.2 b (Nat.ne_of_lt (Nat.lt_of_lt_of_le (Heap.lt_size e) I.ok.above))).trans (I.base.keep b o e n hb hx)
    · obtain ⟨sl, e1⟩ := I.base.slot b o e n hb hx
      exact ⟨sl, (hs.2 b (Nat.ne_of_lt (Nat.lt_of_lt_of_le (Heap.lt_size e) I.ok.above))).trans e1⟩
    · obtain ⟨o', e1⟩ := I.base.there b o e hx
      exact ⟨o', (hs.2 b (Nat.ne_of_lt (Nat.lt_of_lt_of_le (Heap.lt_size e) I.ok.above))).trans e1⟩
    · by_cases hj : j = i
      · subst hj
        rw [hi] at e1; cases e1
        rw [List.getElem?_set_self hiσ] at e2
        cases e2
        exact ⟨u, r, .inl ⟨hk, by simp⟩⟩
      · rw [List.getElem?_set_ne (Ne.symm hj)] at e2
        obtain ⟨u', r', q⟩ := hl j y v' e1 e2 e3
        refine ⟨u', r', ?_⟩
        rcases q with ⟨k, e⟩ | ⟨k, c, e, z⟩
        · refine .inl ⟨k, ?_⟩
          have : y ≠ x := fun e => hj (nodup_ix hN e1 (e ▸ hi))
          simp [this, e]
        · exact .inr ⟨k, c, e, z.sameBut hs (cne y c e)⟩
    · obtain ⟨w', z⟩ := I.cell y c e
      exact ⟨w', z.sameBut hs (cne y c e)⟩
    · obtain ⟨e, n, ne, nf, d⟩ := I.pin p hp
      exact ⟨(hs.2 p.1 ne).trans e, n, ne, nf, d⟩
  · have hfn : X.fn x = true := by
      rcases hf with z | z
      · exact z
      · rw [z] at hk; cases hk
    obtain ⟨c, hc⟩ := I.ok.has x (.inl hk)
    obtain ⟨w', z⟩ := I.cell x c hc
    refine wpAny_storeName_cell I.ok.kind hk hc z (fun h' hc' hs => ?_)
    obtain ⟨oc, hoc, hocd⟩ := id z
    refine h { s with heap := h' } ⟨I.ok, I.os, I.bare, ⟨fun b o e n hb hx => ?_, fun b o e n hb hx => ?_, I.base.free, fun b o e hx => ?_, I.base.tups, I.base.frzs, I.base.tbls⟩, ⟨m, hn.sameBut hs (Ne.symm (cne x c hc)), fun j y v' e1 e2 e3 => ?_⟩, fun y c' e => ?_, I.free, I.freeC, fun p hp => ?_, tracked ⟨oc, hoc, I.freeC x c hc⟩ hs, by simpa using I.len⟩ ⟨c, hs, .inr hc⟩
    · exact (hs.2 b (Nat.ne_of_lt (Nat.lt_of_lt_of_le (Heap.lt_size e) (I.ok.cab x c hfn hc)))).trans (I.base.keep b o e n hb hx)
    · obtain ⟨sl, e1⟩ := I.base.slot b o e n hb hx
      exact ⟨sl, (hs.2 b (Nat.ne_of_lt (Nat.lt_of_lt_of_le (Heap.lt_size e) (I.ok.cab x c hfn hc)))).trans e1⟩
    · obtain ⟨o', e1⟩ := I.base.there b o e hx
      exact ⟨o', (hs.2 b (Nat.ne_of_lt (Nat.lt_of_lt_of_le (Heap.lt_size e) (I.ok.cab x c hfn hc)))).trans e1⟩
    · by_cases hj : j = i
      · subst hj
        rw [hi] at e1; cases e1
        rw [List.getElem?_set_self hiσ] at e2
        cases e2
        exact ⟨u, r, .inr ⟨.inl hk, c, hc, hc'⟩⟩
      · rw [List.getElem?_set_ne (Ne.symm hj)] at e2
        obtain ⟨u', r', q⟩ := hl j y v' e1 e2 e3
        refine ⟨u', r', ?_⟩
        rcases q with q | ⟨k, c', e, z'⟩
        · exact .inl q
        · refine .inr ⟨k, c', e, z'.sameBut hs ?_⟩
          rintro rfl
          exact hj (nodup_ix hN e1 (I.ok.inj _ _ _ e hc ▸ hi))
    · by_cases hcc : c' = c
      · subst hcc; exact ⟨_, hc'⟩
      · obtain ⟨w2, z2⟩ := I.cell y c' e
        exact ⟨w2, z2.sameBut hs hcc⟩
    · obtain ⟨e, n, ne, nf, d⟩ := I.pin p hp
      refine ⟨(hs.2 p.1 ?_).trans e, n, ne, nf, d⟩
      intro q
      rw [q, hoc] at e
      have q' : oc = p.2 := Option.some.inj e
      exact d w' (by rw [← q']; exact hocd)
theorem store_ok {M : Model} {A : Around} {E : Value → Shared → Prop} {i : Nat} {x : Str} {v : V} {u : Value} {Q : Unit → Shared → Prop} (I : Inv X pins σ H s) (hN : X.N.Nodup) (hi : X.N[i]? = some x) (hx : Loc X.env.scope x) (r : RelV v u)
    (h : ∀ s', Inv X pins (σ.set i (some v)) H s' → Q () s') (hf : X.fn x = true ∨ X.env.scope.names.lookup x = some .local := by first | exact .inl rfl | exact .inr rfl | assumption) : wpAny M A (storeName X.env x u) Q E s :=
  store_ok2 I hN hi hx r (fun s' I' _ => h s' I') hf
theorem Inv.call' {s' : Shared} {ch : List Addr} (I : Inv X pins σ H s) (ho : s'.os = s.os) (u : Un (frs X.stack) ch H H' s.heap s'.heap) (hok : HOk X.prog X.w H' s'.heap) (hg : AllBare s'.gens)
    (hch : ∀ b ∈ ch, (b ∈ X.ex ∨ X.s₀.heap.objs.size ≤ b) ∧ b ≠ X.env.locals ∧ (∀ x c, X.env.cells.lookup x = some c → c ≠ b) ∧ ∀ p ∈ X.pn ++ pins, p.1 ≠ b) : Inv X pins σ H' s' := by
  obtain ⟨h', g', d', t', o'⟩ := s'
  have e : o' = s.os := ho
  subst e
  exact I.call (g' := g') (t' := t') (d' := d') u hok hg hch
end

/-! ### the judgements -/
abbrev XK := Value → Option Addr → Hp → Prop
abbrev St := List (Option V)
abbrev VK := V → Hp → Prop
abbrev TE := St → Hp → VK → Prop
abbrev TT := St → Hp → (Bool → Hp → Prop) → Prop
abbrev TA := St → Hp → (List V → Hp → Prop) → Prop
structure Ends where
  nx : St → Hp → Prop
  rt : VK
  bk : St → Hp → Prop := fun _ _ => False
  ct : St → Hp → Prop := fun _ _ => False
abbrev TS := Ends → St → Hp → Prop

def EP (X : Cx) (pins : List (Addr × Obj)) (σ : St) (Q : VK) (u : Value) (s' : Shared) : Prop := ∃ v H', Inv X pins σ H' s' ∧ RelV v u ∧ Q v H'
def TP (X : Cx) (pins : List (Addr × Obj)) (σ : St) (Q : Bool → Hp → Prop) (b : Bool) (s' : Shared) : Prop := ∃ H', Inv X pins σ H' s' ∧ Q b H'
def AP (X : Cx) (pins : List (Addr × Obj)) (σ : St) (Q : List V → Hp → Prop) (us : List Value) (s' : Shared) : Prop := ∃ vs H', Inv X pins σ H' s' ∧ Vals vs us ∧ Q vs H'
def SP (X : Cx) (pins : List (Addr × Obj)) (D : Ends) (f : Flow) (s' : Shared) : Prop :=
  match f with
  | .next => ∃ σ' H', Inv X pins σ' H' s' ∧ D.nx σ' H'
  | .brk => ∃ σ' H', Inv X pins σ' H' s' ∧ D.bk σ' H'
  | .cont => ∃ σ' H', Inv X pins σ' H' s' ∧ D.ct σ' H'
  | .ret u => ∃ v σ' H', Inv X pins σ' H' s' ∧ RelV v u ∧ D.rt v H'

def PE (X : Cx) (e : Expr) (t : TE) : Prop :=
  ∀ (pins : List (Addr × Obj)) (s : Shared) (σ : St) (H : Hp) (Q : VK), Inv X pins σ H s → t σ H Q → wpAny (model X.prog X.w) X.A (eval e X.env) (EP X pins σ Q) X.xe s
def PT (X : Cx) (e : Expr) (t : TT) : Prop :=
  ∀ (pins : List (Addr × Obj)) (s : Shared) (σ : St) (H : Hp) (Q : Bool → Hp → Prop), Inv X pins σ H s → t σ H Q → wpAny (model X.prog X.w) X.A (isTrue e X.env (eval e X.env)) (TP X pins σ Q) X.xe s
def PW (X : Cx) (e : Expr) (t : TT) : Prop :=
  ∀ (whole : Sem Value) (pins : List (Addr × Obj)) (s : Shared) (σ : St) (H : Hp) (Q : Bool → Hp → Prop), Inv X pins σ H s → t σ H Q → wpAny (model X.prog X.w) X.A (isTrue e X.env whole) (TP X pins σ Q) X.xe s
theorem PW.pt {X : Cx} {e : Expr} {t : TT} (h : PW X e t) : PT X e t := h _
def PA (X : Cx) (es : List Expr) (t : TA) : Prop :=
  ∀ (pos : Pos) (pins : List (Addr × Obj)) (s : Shared) (σ : St) (H : Hp) (Q : List V → Hp → Prop), Inv X pins σ H s → t σ H Q → wpAny (model X.prog X.w) X.A (spliced (backTo pos (starEach es X.env))) (AP X pins σ Q) X.xe s
def PS (X : Cx) (st : Stmt) (t : TS) : Prop :=
  ∀ (pins : List (Addr × Obj)) (s : Shared) (σ : St) (H : Hp) (D : Ends), Inv X pins σ H s → t D σ H → wpAny (model X.prog X.w) X.A (exec st X.env) (SP X pins D) X.xe s
def PSs (X : Cx) (st : List Stmt) (t : TS) : Prop :=
  ∀ (pins : List (Addr × Obj)) (s : Shared) (σ : St) (H : Hp) (D : Ends), Inv X pins σ H s → t D σ H → wpAny (model X.prog X.w) X.A (execs st X.env) (SP X pins D) X.xe s
theorem thn {α : Type} {t : Sem α} {Q Q' : α → Shared → Prop} {M : Model} {A : Around} {E : Value → Shared → Prop} {s : Shared} (h : wpAny M A t Q E s) (hQ : ∀ a s, Q a s → Q' a s) : wpAny M A t Q' E s := wpAny_mono h hQ fun _ _ x => x
end L2

namespace L2
open PySem PySem.Spec PyProof.Rows
section
variable {X : Cx}

/-! ### names and constants -/
def tVar (i : Nat) : TE := fun σ H Q => ∃ v, σ[i]? = some (some v) ∧ Q v H
def tC (v : V) : TE := fun _ H Q => Q v H
theorem pe_var {i : Nat} {x : Str} {pos : Pos} (hN : X.N[i]? = some x) (hv : Vis X.env.scope x) (hd : (x == ("__debug__" : Str)) = false := by decide) (hcd : (x == ("__classdict__" : Str)) = false := by decide) : PE X (.Name x pos) (tVar i) := by
  intro pins s σ H Q I h
  obtain ⟨v, e, h⟩ := h
  obtain ⟨m, hn, hl⟩ := I.loc
  obtain ⟨u, r, l⟩ := hl i x v hN e hv
  have fin : EP X pins σ Q u s := ⟨v, H, I, r, h⟩
  rcases l with ⟨hk, hm⟩ | ⟨hk, c, hc, hcell⟩
  · exact wpAny_Name (wpAny_loadName_local I.ok.kind hk hn hm fin) hd
  · rcases hk with hk | hk
    · exact wpAny_Name (wpAny_loadName_cell I.ok.kind hk hc hcell fin) hd
    · exact wpAny_Name (wpAny_loadName_free I.ok.kind hk hc hcell fin hcd) hd
theorem pe_int {i j pos} : PE X (.Constant (.int i) j pos) (tC (.int i)) := fun _ _ _ H _ I h => wpAny_Constant_int ⟨.int i, H, I.tok _, ⟨_, rfl⟩, h⟩
theorem pe_bl {b j pos} : PE X (.Constant (.bool b) j pos) (tC (.bl b)) := fun _ _ _ H _ I h => Constant_bool ⟨.bl b, H, I, rfl, h⟩
theorem pe_non {j pos} : PE X (.Constant .none j pos) (tC .non) := fun _ _ _ H _ I h => Constant_none ⟨.non, H, I, rfl, h⟩
theorem pe_str {x j pos} : PE X (.Constant (.str x) j pos) (tC (.str x)) := fun _ _ _ H _ I h => Calls.Constant_str ⟨.str x, H, I.tok _, ⟨_, rfl⟩, h⟩

def Gl (X : Cx) (x : Str) : Prop := X.env.kindOf x = some .globalImplicit
theorem ld_glob {E : Value → Shared → Prop} {pins : List (Addr × Obj)} {s : Shared} {σ : St} {H : Hp} {x : Str} {u : Value} {pos : Pos} {Q : Value → Shared → Prop} (I : Inv X pins σ H s) (hg : Gl X x) (hm : X.mg x = some u) (h : Q u s)
    (hd : (x == ("__debug__" : Str)) = false := by decide) : wpAny (model X.prog X.w) X.A (eval (.Name x pos) X.env) Q E s :=
  Calls.Name_function_global I.ok.kind hg (Calls.loadGlobal_global (by rw [I.ok.glob]; exact I.mod.glob.keeps I.bk) hm h) hd
theorem ld_blt {E : Value → Shared → Prop} {pins : List (Addr × Obj)} {s : Shared} {σ : St} {H : Hp} {x : Str} {u : Value} {pos : Pos} {Q : Value → Shared → Prop} (I : Inv X pins σ H s) (hg : Gl X x) (hm : X.mg x = none) (hv : bootBuiltins x = some u) (h : Q u s)
    (hn : x ≠ "__name__" := by decide) (hd : (x == ("__debug__" : Str)) = false := by decide) : wpAny (model X.prog X.w) X.A (eval (.Name x pos) X.env) Q E s := by
  obtain ⟨mb, h1, h2⟩ := I.mod.blt
  exact Calls.Name_function_global I.ok.kind hg (Calls.loadGlobal_builtin (by rw [I.ok.glob]; exact I.mod.glob.keeps I.bk) hm (by rw [I.ok.blt]; exact h1.keeps I.bk) ((h2 x hn).trans hv) h) hd
theorem pe_glob {x : Str} {v : V} {u : Value} {pos : Pos} (hg : Gl X x) (hm : X.mg x = some u) (r : RelV v u) (hd : (x == ("__debug__" : Str)) = false := by decide) : PE X (.Name x pos) (tC v) :=
  fun _ _ _ H _ I h => ld_glob I hg hm ⟨v, H, I, r, h⟩ hd
theorem pe_bltn {x : Str} {v : V} {u : Value} {pos : Pos} (hg : Gl X x) (hm : X.mg x = none) (hv : bootBuiltins x = some u) (r : RelV v u) (hn : x ≠ "__name__" := by decide) (hd : (x == ("__debug__" : Str)) = false := by decide) : PE X (.Name x pos) (tC v) :=
  fun _ _ _ H _ I h => ld_blt I hg hm hv ⟨v, H, I, r, h⟩ hn hd

/-! ### arithmetic -/
variable {a b : Expr} {ta tb : TE} {pos : Pos}
/-! ### comparisons -/
/-! ### and, or, not -/
variable {tA tB' : TT} {rest : List Expr}
def tAnd (t u : TT) : TT := fun σ H Q => t σ H fun c H1 => if c = true then u σ H1 Q else Q false H1
def tOr (t u : TT) : TT := fun σ H Q => t σ H fun c H1 => if c = true then Q true H1 else u σ H1 Q
def tNot (t : TT) : TT := fun σ H Q => t σ H fun c H1 => Q (!c) H1
theorem pw_and1 (ha : PT X a tA) : PW X (.BoolOp .And [a] pos) tA := by
  intro wh pins s σ H Q I h
  refine isTrue_and (thn (ha pins s σ H Q I h) fun c s1 e => ?_)
  cases c with
  | true => exact isTrue_and_nil e
  | false => exact e
theorem pw_or1 (ha : PT X a tA) : PW X (.BoolOp .Or [a] pos) tA := by
  intro wh pins s σ H Q I h
  refine isTrue_or (thn (ha pins s σ H Q I h) fun c s1 e => ?_)
  cases c with
  | false => exact isTrue_or_nil e
  | true => exact e
theorem pw_and (ha : PT X a tA) (hb : PW X (.BoolOp .And (b :: rest) pos) tB') : PW X (.BoolOp .And (a :: b :: rest) pos) (tAnd tA tB') := by
  intro wh pins s σ H Q I h
  refine isTrue_and (thn (ha pins s σ H _ I h) fun c s1 ⟨H1, I1, q1⟩ => ?_)
  cases c with
  | true => exact hb wh pins s1 σ H1 Q I1 q1
  | false => exact ⟨H1, I1, q1⟩
theorem pw_or (ha : PT X a tA) (hb : PW X (.BoolOp .Or (b :: rest) pos) tB') : PW X (.BoolOp .Or (a :: b :: rest) pos) (tOr tA tB') := by
  intro wh pins s σ H Q I h
  refine isTrue_or (thn (ha pins s σ H _ I h) fun c s1 ⟨H1, I1, q1⟩ => ?_)
  cases c with
  | true => exact ⟨H1, I1, q1⟩
  | false => exact hb wh pins s1 σ H1 Q I1 q1
theorem pt_not (ha : PT X a tA) : PT X (.UnaryOp .Not a pos) (tNot tA) := by
  intro pins s σ H Q I h
  exact isTrue_not (ha pins s σ H (fun c H1 => Q (!c) H1) I h)
def tAndV (ta tb : TE) : TE := fun σ H Q => ta σ H fun x H1 => ∃ c, x = .bl c ∧ if c = true then tb σ H1 Q else Q (.bl false) H1
theorem pe_one {op} {t : TE} (h : PE X a t) : PE X (.BoolOp op [a] pos) t := fun pins s σ H Q I hw => BoolOp_one (h pins s σ H Q I hw)
theorem pe_and (ha : PE X a ta) (hb : PE X (.BoolOp .And (b :: rest) pos) tb) : PE X (.BoolOp .And (a :: b :: rest) pos) (tAndV ta tb) := by
  intro pins s σ H Q I h
  refine BoolOp_and (thn (ha pins s σ H _ I h) fun v s1 ⟨x, H1, I1, r1, q1⟩ => ?_)
  obtain ⟨c, rfl, q1⟩ := q1
  cases r1
  refine wpAny_truthy_bool ?_
  cases c with
  | true => exact hb pins s1 σ H1 Q I1 q1
  | false => exact ⟨.bl false, H1, I1, rfl, q1⟩
end
end L2

namespace L2
open PySem PySem.Spec PyProof.Rows

/-! ### a list, a tuple that is read: tracked, frozen, or an object of the module -/
def SqL (K : PySem.W.Frag) (H : Hp) (a : Addr) (xs : List V) : Prop :=
  Rd H a (.lst xs) ∨
    ∃ (o : Obj) (its : Array Value) (n : Nat), K.lookup a = some o ∧ o.cls = .type "list" ∧ o.dict = none ∧ o.data = .seq its n ∧ its.size ≤ sizeLine ∧ Vals xs its.toList
def SqT (K : PySem.W.Frag) (H : Hp) (a : Addr) (xs : List V) : Prop :=
  Rd H a (.tup xs) ∨
    ∃ (o : Obj) (its : Array Value) (n : Nat), K.lookup a = some o ∧ o.cls = .type "tuple" ∧ o.data = .seq its n ∧ its.size ≤ sizeLine ∧ Vals xs its.toList
def absV : Value → Option V
  | .none => some .non
  | .bool b => some (.bl b)
  | .int i _ => some (.int i)
  | .str x _ => some (.str x)
  | .bytes b _ => some (.byt b)
  | .float b _ => some (.flt b)
  | .ref a => some (.ref a)
  | .type n => some (.ty n)
  | _ => none
theorem RelV.abs {x : V} {u : Value} (r : RelV x u) : absV u = some x := by
  cases x with
  | non => cases r; rfl
  | bl _ => cases r; rfl
  | int _ => obtain ⟨t, rfl⟩ := r; rfl
  | str _ => obtain ⟨t, rfl⟩ := r; rfl
  | byt _ => obtain ⟨t, rfl⟩ := r; rfl
  | flt _ => obtain ⟨t, rfl⟩ := r; rfl
  | ref _ => cases r; rfl
  | ty _ => cases r; rfl
theorem RelV.inj {x y : V} {u : Value} (r : RelV x u) (q : RelV y u) : x = y := Option.some.inj (r.abs.symm.trans q.abs)
theorem Vals.inj : ∀ {xs ys : List V} {us : List Value}, Vals xs us → Vals ys us → xs = ys
  | _, _, _, .nil, .nil => rfl
  | _, _, _, .cons r t, .cons r' t' => by rw [r.inj r', Vals.inj t t']
section
variable {X : Cx} {pins : List (Addr × Obj)} {σ : St} {H : Hp} {s : Shared} {a : Addr} {xs ys : List V}
theorem SqL.of {K : PySem.W.Frag} (h : H a = some (.lst xs)) : SqL K H a xs := .inl (.inl h)
theorem SqT.of {K : PySem.W.Frag} (h : H a = some (.tup xs)) : SqT K H a xs := .inl (.inl h)
theorem Inv.list (I : Inv X pins σ H s) (h : SqL X.K H a xs) : ∃ its : List Value, Vals xs its ∧ PlainL s.heap a its.toArray ∧ xs.length ≤ sizeLine := by
  rcases h with h | ⟨o, its, n, hk, hc, hd, hs, hz, r⟩
  · obtain ⟨z, its, n, r, e⟩ := h.ok I.hok
    exact ⟨its, r, ⟨_, n, e, rfl, rfl, rfl⟩, z⟩
  · refine ⟨its.toList, r, ⟨o, n, I.kIn a o hk, hc, hd, by simpa using hs⟩, ?_⟩
    have e := r.length
    simp only [Array.length_toList] at e
    omega
theorem Inv.tuple (I : Inv X pins σ H s) (h : SqT X.K H a xs) : ∃ its : List Value, Vals xs its ∧ IsTup s.heap a its.toArray ∧ xs.length ≤ sizeLine := by
  rcases h with h | ⟨o, its, n, hk, hc, hs, hz, r⟩
  · obtain ⟨z, its, r, p⟩ := h.ok I.hok
    exact ⟨its, r, p, z⟩
  · refine ⟨its.toList, r, ⟨o, I.kIn a o hk, hc, n, by simpa using hs⟩, ?_⟩
    have e := r.length
    simp only [Array.length_toList] at e
    omega
theorem Inv.list_inj (I : Inv X pins σ H s) (h : SqL X.K H a xs) (h' : SqL X.K H a ys) : xs = ys := by
  obtain ⟨its, r, ⟨o, n, e, _, _, d⟩, _⟩ := I.list h
  obtain ⟨its', r', ⟨o', n', e', _, _, d'⟩, _⟩ := I.list h'
  rw [e] at e'; cases e'
  rw [d] at d'
  injection d' with d1 _
  have : its = its' := by simpa using congrArg Array.toList d1
  subst this
  exact r.inj r'
end

/-! ### another wish about exceptions -/
abbrev Cx.wish (X : Cx) (E : Value → Shared → Prop) : Cx := { X with xe := E }
abbrev Cx.nox (X : Cx) : Cx := X.wish fun _ _ => False
theorem Cx.Ok.wish {X : Cx} (ok : X.Ok) (E : Value → Shared → Prop) : (X.wish E).Ok :=
  ⟨ok.mod, ok.kind, ok.glob, ok.blt, ok.above, ok.inj, ok.has, ok.cab, ok.hd, ok.frames, ok.stk, ok.exf, ok.bs, ok.bsz, ok.noex, ok.exfs, ok.funs, ok.frf⟩
theorem Cx.Ok.unwish {X : Cx} {E : Value → Shared → Prop} (ok : (X.wish E).Ok) : X.Ok :=
  ⟨ok.mod, ok.kind, ok.glob, ok.blt, ok.above, ok.inj, ok.has, ok.cab, ok.hd, ok.frames, ok.stk, ok.exf, ok.bs, ok.bsz, ok.noex, ok.exfs, ok.funs, ok.frf⟩
section
variable {X : Cx} {pins : List (Addr × Obj)} {σ : St} {H : Hp} {s : Shared} {E : Value → Shared → Prop}
theorem Inv.wish (I : Inv X pins σ H s) (E : Value → Shared → Prop) : Inv (X.wish E) pins σ H s := ⟨I.ok.wish E, I.os, I.bare, I.base, I.loc, I.cell, I.free, I.freeC, I.pin, I.hok, I.len⟩
theorem Inv.unwish (I : Inv (X.wish E) pins σ H s) : Inv X pins σ H s := ⟨I.ok.unwish, I.os, I.bare, I.base, I.loc, I.cell, I.free, I.freeC, I.pin, I.hok, I.len⟩
theorem SP.unwish {D : Ends} {f : Flow} {s' : Shared} (h : SP (X.wish E) pins D f s') : SP X pins D f s' := by
  cases f with
  | next => obtain ⟨σ', H', I, q⟩ := h; exact ⟨σ', H', I.unwish, q⟩
  | brk => obtain ⟨σ', H', I, q⟩ := h; exact ⟨σ', H', I.unwish, q⟩
  | cont => obtain ⟨σ', H', I, q⟩ := h; exact ⟨σ', H', I.unwish, q⟩
  | ret u => obtain ⟨v, σ', H', I, r, q⟩ := h; exact ⟨v, σ', H', I.unwish, r, q⟩
theorem PE.nox {e : Expr} {t : TE} (h : PE X.nox e t) : PE X e t := fun pins s σ H Q I hw =>
  wpAny_mono (h pins s σ H Q (I.wish _) hw) (fun _ _ ⟨v, H', I', r, q⟩ => ⟨v, H', I'.unwish, r, q⟩) fun _ _ z => False.elim z
theorem PT.nox {e : Expr} {t : TT} (h : PT X.nox e t) : PT X e t := fun pins s σ H Q I hw =>
  wpAny_mono (h pins s σ H Q (I.wish _) hw) (fun _ _ ⟨H', I', q⟩ => ⟨H', I'.unwish, q⟩) fun _ _ z => False.elim z
theorem PSs.nox {st : List Stmt} {t : TS} (h : PSs X.nox st t) : PSs X st t := fun pins s σ H D I hw =>
  wpAny_mono (h pins s σ H D (I.wish _) hw) (fun _ _ q => q.unwish) fun _ _ z => False.elim z
end

/-! ### blocks and small statements -/
section
variable {X : Cx} {st : Stmt} {rest : List Stmt} {t u : TS} {e : Expr} {te : TE} {pos : Pos}
def tNext : TS := fun D σ H => D.nx σ H
def tSeq (t u : TS) : TS := fun D σ H => t { D with nx := u D } σ H
theorem pss_nil : PSs X [] tNext := fun _ _ σ H _ I h => wpAny_execs_nil ⟨σ, H, I, h⟩
theorem pss_cons (h1 : PS X st t) (h2 : PSs X rest u) : PSs X (st :: rest) (tSeq t u) := by
  intro pins s σ H D I h
  refine wpAny_execs_cons (thn (h1 pins s σ H { D with nx := u D } I h) fun f s1 q => ?_)
  cases f with
  | next =>
    obtain ⟨σ', H', I', q⟩ := q
    exact h2 pins s1 σ' H' D I' q
  | ret v => exact q
  | brk => exact q
  | cont => exact q
theorem pss_one (h1 : PS X st t) : PSs X [st] t := by
  intro pins s σ H D I h
  refine wpAny_execs_cons (thn (h1 pins s σ H D I h) fun f s1 q => ?_)
  cases f with
  | next => exact wpAny_execs_nil q
  | ret v => exact q
  | brk => exact q
  | cont => exact q
theorem Inv.quiet {pins : List (Addr × Obj)} {σ : St} {H : Hp} {s : Shared} (I : Inv X pins σ H s) : interactive X.env = false := by simp [interactive, I.ok.kind]
def tDrop (te : TE) : TS := fun D σ H => te σ H fun _ H1 => D.nx σ H1
theorem ps_expr (he : PE X e te) (hs : swapsWith e none pos.line X.env = pure false := by rfl) : PS X (.Expr e pos) (tDrop te) := by
  intro pins s σ H D I h
  exact wpAny_Expr_any (thn (he pins s σ H _ I h) fun v s1 ⟨x, H1, I1, r1, q1⟩ => ⟨σ, H1, I1, q1⟩) I.quiet hs
def tRet (te : TE) : TS := fun D σ H => te σ H D.rt
theorem ps_ret (he : PE X e te) : PS X (.Return (some e) pos) (tRet te) := by
  intro pins s σ H D I h
  exact wpAny_Return_some (thn (he pins s σ H _ I h) fun v s1 ⟨x, H1, I1, r1, q1⟩ => ⟨x, σ, H1, I1, r1, q1⟩)
def tIfS (c : TT) (t u : TS) : TS := fun D σ H => c σ H fun b H1 => if b = true then t D σ H1 else u D σ H1
theorem ps_if {c : Expr} {a b : List Stmt} {tc : TT} (hc : PT X c tc) (ha : PSs X a t) (hb : PSs X b u) : PS X (.If c a b pos) (tIfS tc t u) := by
  intro pins s σ H D I h
  refine wpAny_If (thn (hc pins s σ H _ I h) fun d s1 ⟨H1, I1, q1⟩ => ?_)
  cases d with
  | true => exact ha pins s1 σ H1 D I1 q1
  | false => exact hb pins s1 σ H1 D I1 q1
end

/-! ### targets -/
abbrev TG := V → St → Hp → (St → Hp → Prop) → Prop
abbrev TGs := List V → St → Hp → (St → Hp → Prop) → Prop
def PG (X : Cx) (target : Expr) (t : TG) : Prop :=
  ∀ (pins : List (Addr × Obj)) (s : Shared) (σ : St) (H : Hp) (v : V) (u : Value) (Q : St → Hp → Prop), Inv X pins σ H s → RelV v u → t v σ H Q →
    wpAny (model X.prog X.w) X.A (assign target X.env u) (fun _ s' => ∃ σ' H', Inv X pins σ' H' s' ∧ Q σ' H') X.xe s
section
variable {X : Cx} {pos : Pos}
def gName (i : Nat) : TG := fun v σ H Q => Q (σ.set i (some v)) H
theorem pg_name {i : Nat} {x : Str} (hN : X.N.Nodup) (hi : X.N[i]? = some x) (hx : Loc X.env.scope x) (hf : X.fn x = true ∨ X.env.scope.names.lookup x = some .local := by first | exact .inl rfl | exact .inr rfl | assumption) : PG X (.Name x pos) (gName i) := by
  intro pins s σ H v u Q I r h
  exact wpAny_assign_Name (store_ok I hN hi hx r (fun s' I' => ⟨_, H, I', h⟩) hf)
def gNil : TGs := fun vs σ H Q => vs = [] ∧ Q σ H
def gCons (t : TG) (u : TGs) : TGs := fun vs σ H Q => ∃ v r, vs = v :: r ∧ t v σ H fun σ' H' => u r σ' H' Q
def tAsg (te : TE) (g : TG) : TS := fun D σ H => te σ H fun x H1 => g x σ H1 D.nx
theorem ps_set {i : Nat} {x : Str} {e : Expr} {te : TE} {pos' : Pos} (hN : X.N.Nodup) (hi : X.N[i]? = some x) (hx : Loc X.env.scope x) (he : PE X e te) (hs : swapsWith e (some (.Name x pos')) pos.line X.env = pure false := by rfl) (hf : X.fn x = true ∨ X.env.scope.names.lookup x = some .local := by first | exact .inl rfl | exact .inr rfl | assumption) :
    PS X (.Assign [.Name x pos'] e pos) (tAsg te (gName i)) := by
  intro pins s σ H D I h
  refine wpAny_Assign_Name (thn (he pins s σ H _ I h) fun v s1 ⟨y, H1, I1, r1, q1⟩ => ?_) hs
  exact store_ok I1 hN hi hx r1 (fun s2 I2 => ⟨_, H1, I2, q1⟩) hf
end

/-! ### while -/
section
variable {X : Cx} {pos : Pos}
end

/-! ### what a loop or a comprehension walks -/
structure It where
  go : Nat → Hp → Prop
  yld : Nat → Hp → V → Hp → Prop
  stop : Nat → Hp → Prop
def FpOk (X : Cx) (pins : List (Addr × Obj)) (H : Hp) (b : Addr) : Prop :=
  H b = none ∧ b ≠ X.env.locals ∧ b ∉ X.fs ∧ (b ∈ X.ex ∨ X.s₀.heap.objs.size ≤ b) ∧ (∀ x c, X.env.cells.lookup x = some c → c ≠ b) ∧ ∀ p ∈ X.pn ++ pins, p.1 ≠ b
theorem Inv.fpOk {X : Cx} {pins : List (Addr × Obj)} {σ : St} {H H' : Hp} {s : Shared} {b : Addr} (I : Inv X pins σ H s) (hb : s.heap.objs.size ≤ b) (hn : H' b = none) : FpOk X pins H' b := by
  refine ⟨hn, Nat.ne_of_gt (Nat.lt_of_lt_of_le I.lt hb), I.nofs hb, .inr (Nat.le_trans I.sz hb), fun x c e z => ?_, fun p hp z => ?_⟩
  · obtain ⟨v, q⟩ := I.cell x c e
    exact absurd (Nat.lt_of_lt_of_le q.lt (by rw [z]; exact hb)) (Nat.lt_irrefl _)
  · exact absurd (Nat.lt_of_lt_of_le (Heap.lt_size (I.pin p hp).1) (by rw [z]; exact hb)) (Nat.lt_irrefl _)
structure Turn (P : Program) (w : World) (K : PySem.W.Frag) (tg : Expr) (J : It) (fp : List Addr) (it : Addr) (tn : Nat → Heap → Prop) : Prop where
  mem : it ∈ fp
  obj : ∀ i h, tn i h → ∀ b ∈ fp, ∃ o, h.get? b = some o ∧ ∀ v, o.data ≠ .cell v
  keep : ∀ i h h', tn i h → (∀ b ∈ fp, ∀ o, h.get? b = some o → h'.get? b = some o) → tn i h'
  item : ∀ (X : Cx), X.prog = P → X.w = w → X.K = K → X.calm = true → ∀ (i : Nat) (pins : List (Addr × Obj)) (s : Shared) (σ : St) (H : Hp) (E : Value → Shared → Prop), Inv X pins σ H s → (∀ b ∈ fp, FpOk X pins H b) → tn i s.heap → J.go i H →
    wpAny (model P w) X.A (pyNext (.ref it)) (fun r s1 => ∃ u, r = some u ∧
      wpAny (model P w) X.A (letOwnedTupleGo tg (.ref it) u) (fun _ s2 => ∃ x H', Inv X pins σ H' s2 ∧ RelV x u ∧ J.yld i H x H' ∧ tn (i + 1) s2.heap ∧ ∀ b ∈ fp, H' b = none) E s1) E s
  done : ∀ (X : Cx), X.prog = P → X.w = w → X.K = K → X.calm = true → ∀ (i : Nat) (pins : List (Addr × Obj)) (s : Shared) (σ : St) (H : Hp) (E : Value → Shared → Prop), Inv X pins σ H s → (∀ b ∈ fp, FpOk X pins H b) → tn i s.heap → J.stop i H →
    wpAny (model P w) X.A (pyNext (.ref it)) (fun r s1 => r = none ∧ Inv X pins σ H s1) E s
  self : ∀ (A : Around) (i : Nat) (s : Shared) (Q : Value → Shared → Prop) (E : Value → Shared → Prop), tn i s.heap → Q (.ref it) s → wpAny (model P w) A (pyIter (.ref it)) Q E s
abbrev TI := St → Hp → (It → Hp → Prop) → Prop
def PIE (X : Cx) (pins : List (Addr × Obj)) (σ : St) (tg : Expr) (R : It → Hp → Prop) (itv : Value) (s2 : Shared) : Prop :=
  ∃ (it : Addr) (fp : List Addr) (tn : Nat → Heap → Prop) (J : It) (H' : Hp), itv = .ref it ∧ Inv X pins σ H' s2 ∧ Turn X.prog X.w X.K tg J fp it tn ∧ tn 0 s2.heap ∧ (∀ b ∈ fp, FpOk X pins H' b) ∧ R J H'
def PI (X : Cx) (tg iter : Expr) (wi : TI) : Prop :=
  ∀ (pins : List (Addr × Obj)) (s : Shared) (σ : St) (H : Hp) (R : It → Hp → Prop), Inv X pins σ H s → wi σ H R →
    wpAny (model X.prog X.w) X.A (eval iter X.env) (fun v s1 => wpAny (model X.prog X.w) X.A (pyIter v) (PIE X pins σ tg R) X.xe s1) X.xe s

theorem go_of {M : Model} {A : Around} {E : Value → Shared → Prop} {s : Shared} {tg : Expr} {it : Addr} {u : Value} {o : Obj} {n : String} {vs : Array Value} {Q : Unit → Shared → Prop} (ho : s.heap.get? it = some o) (hc : o.cls = .type n) (hd : o.data = .fields vs)
    (hn : ["enumerate", "zip", "dict_itemiterator", "dict_reverseitemiterator", "odict_iterator", "itertools.zip_longest", "itertools.pairwise"].contains n = false) (hQ : Q () s) : wpAny M A (letOwnedTupleGo tg (.ref it) u) Q E s := by
  unfold letOwnedTupleGo
  cases tg <;> first
    | exact wpAny_pure hQ
    | (cases u <;> first
        | exact wpAny_pure hQ
        | (refine wpAny_bind (wpAny_load ho ?_)
           rw [hc, hd]
           show wpAny M A (if (["enumerate", "zip", "dict_itemiterator", "dict_reverseitemiterator", "odict_iterator", "itertools.zip_longest", "itertools.pairwise"].contains n && vs[0]? == some (rawInt _)) = true then _ else _) Q E s
           rw [if_neg (by intro h; rw [hn, Bool.false_and] at h; cases h)]
           exact wpAny_pure hQ))

def Itl (K : PySem.W.Frag) (a : Addr) : It :=
  ⟨fun i H => ∃ xs x, SqL K H a xs ∧ xs[i]? = some x, fun i H x H' => H' = H ∧ ∀ xs, SqL K H a xs → xs[i]? = some x, fun i H => ∃ xs, SqL K H a xs ∧ xs.length ≤ i⟩
def Itr (lo : Int) (n : Nat) : It := ⟨fun i _ => i < n, fun i H x H' => H' = H ∧ x = .int (lo + i), fun i _ => n ≤ i⟩
theorem turn_list {P : Program} {w : World} {K : PySem.W.Frag} {tg : Expr} (a it : Addr) : Turn P w K tg (Itl K a) [it] it (fun i h => h.IsListIter it a i) where
  mem := by simp
  obj := fun i h st b hb => by
    have e : b = it := by simpa using hb
    subst e
    obtain ⟨o, e, c, d⟩ := st
    exact ⟨o, e, fun v z => by rw [d] at z; cases z⟩
  keep := fun i h h' st k => st.at fun o e => k it (by simp) o e
  item := by
    intro X hP hw hK hc i pins s σ H E I hf st hg
    subst hP hw hK
    obtain ⟨xs, x, hq, hx⟩ := hg
    obtain ⟨its, rv, p, hz⟩ := I.list hq
    obtain ⟨u, hu, ru⟩ := rv.get hx
    obtain ⟨f0, f1, f2, f3, f4, f5⟩ := hf it (by simp)
    refine wpAny_pyNext_list_item st p.isList (x := u) (by simpa using hu) fun h' st' sb => ?_
    have I1 : Inv X pins σ H { s with heap := h' } := I.turned (t' := s.toks) (fun b o hb e => (sb.2 b hb).trans e) f0 f1 f3 f4 f5
    obtain ⟨o, e, c, d⟩ := id st'
    exact ⟨u, rfl, go_of (s := { s with heap := h' }) e c d (by decide) ⟨x, H, I1, ru, ⟨rfl, fun ys hy => by rw [I.list_inj hy hq]; exact hx⟩, st', fun b hb => (hf b hb).1⟩⟩
  done := by
    intro X hP hw hK hc i pins s σ H E I hf st hg
    subst hP hw hK
    obtain ⟨xs, hq, hx⟩ := hg
    obtain ⟨its, rv, p, hz⟩ := I.list hq
    obtain ⟨f0, f1, f2, f3, f4, f5⟩ := hf it (by simp)
    have hl := rv.length
    exact wpAny_pyNext_list_end (I.ok.hd hc) st p.isList (by simp; omega) fun h' eb => ⟨rfl, I.turned (t' := s.toks) (fun b o hb e => eb b o hb e) f0 f1 f3 f4 f5⟩
  self := fun _ _ _ _ _ st h => wpAny_pyIter_listiter st h
theorem turn_range {P : Program} {w : World} {K : PySem.W.Frag} {tg : Expr} (it : Addr) (lo : Int) (n : Nat) : Turn P w K tg (Itr lo n) [it] it (fun i h => IsRangeIter h it (lo + (i : Nat) * 1) ((n : Int) - (i : Nat)) 1) where
  mem := by simp
  obj := fun i h st b hb => by
    have e : b = it := by simpa using hb
    subst e
    exact ⟨_, st, fun v z => by
      have z' : Data.fields _ = Data.cell v := z
      cases z'⟩
  keep := fun i h h' st k => k it (by simp) _ st
  item := by
    intro X hP hw hK hc i pins s σ H E I hf st hg
    subst hP hw hK
    obtain ⟨f0, f1, f2, f3, f4, f5⟩ := hf it (by simp)
    have W := Walks.range (prog := X.prog) (w := X.w) (I.ok.hd hc) it lo 1 n
    refine W.item i s _ _ hg st fun v h' tk hv st' kk => ?_
    obtain ⟨t, rfl⟩ := hv
    have I1 : Inv X pins σ H { s with heap := h', toks := tk } := I.turned (fun b o hb e => kk b o (by simpa using hb) e) f0 f1 f3 f4 f5
    refine ⟨_, rfl, go_of (s := { s with heap := h', toks := tk }) (n := "range_iterator") st' rfl rfl (by decide) ⟨.int (lo + i), H, I1, ⟨t, ?_⟩, ⟨rfl, rfl⟩, st', fun b hb => (hf b hb).1⟩⟩
    rw [Int.mul_one]
  done := by
    intro X hP hw hK hc i pins s σ H E I hf st hg
    subst hP hw hK
    obtain ⟨f0, f1, f2, f3, f4, f5⟩ := hf it (by simp)
    exact wpAny_pyNext_range_end (I.ok.hd hc) st (by have : n ≤ i := hg; omega) fun h' eb => ⟨rfl, I.turned (t' := s.toks) (fun b o hb e => eb b o hb e) f0 f1 f3 f4 f5⟩
  self := fun _ _ _ _ _ st h => wpAny_pyIter_rangeiter st h
end L2

namespace L2
open PySem PySem.Spec PyProof.Rows
section
variable {X : Cx} {tg : Expr}
def iList (K : PySem.W.Frag) (tl : TE) : TI := fun σ H R => tl σ H fun x H1 => ∃ a, x = .ref a ∧ (∃ xs, SqL K H1 a xs) ∧ R (Itl K a) H1
theorem pi_list {l : Expr} {tl : TE} (hl : PE X l tl) : PI X tg l (iList X.K tl) := by
  intro pins s σ H R I h
  refine thn (hl pins s σ H _ I h) fun v s1 ⟨x, H1, I1, r1, q1⟩ => ?_
  obtain ⟨a, e, ⟨xs, hq⟩, q⟩ := q1
  subst e
  cases r1
  obtain ⟨its, rv, p, hz⟩ := I1.list hq
  refine wpAny_pyIter_list p.isList ?_
  refine ⟨s1.heap.objs.size, [s1.heap.objs.size], _, _, H1, rfl, I1.kept (t' := s1.toks) fun b o e => Heap.get?_push_of_some _ e, turn_list a _, ⟨_, Heap.get?_push_size _ rfl, rfl, rfl⟩, fun b hb => ?_, q⟩
  have e : b = s1.heap.objs.size := by simpa using hb
  subst e
  exact I1.fpOk (Nat.le_refl _) (I1.hok.fresh (Nat.le_refl _))
theorem range_it {pins : List (Addr × Obj)} {σ : St} {H : Hp} {s : Shared} {R : It → Hp → Prop} {E : Value → Shared → Prop} {lo hi : Int} {t u v : Tok} {tk : Nat} (I : Inv X pins σ H s) (h1 : -(2 ^ 62) ≤ lo) (h2 : lo < 2 ^ 62) (h3 : -(2 ^ 62) ≤ hi) (h4 : hi < 2 ^ 62)
    (q : R (Itr lo (hi - lo).toNat) H) : wpAny (model X.prog X.w) X.A (pyIter (.ref s.heap.objs.size)) (PIE X pins σ tg R) E { s with heap := s.heap.push { cls := .type "range", data := .fields #[.int lo t, .int hi u, .int 1 v] }, toks := tk } := by
  refine wpAny_pyIter_range (IsRange.new ..) (small_one h1 h2 h3 h4) ?_
  have I1 : Inv X pins σ H { s with heap := s.heap.push { cls := .type "range", data := .fields #[.int lo t, .int hi u, .int 1 v] }, toks := tk } := I.kept fun b o e => Heap.get?_push_of_some _ e
  refine ⟨(s.heap.push { cls := .type "range", data := .fields #[.int lo t, .int hi u, .int 1 v] }).objs.size, [(s.heap.push { cls := .type "range", data := .fields #[.int lo t, .int hi u, .int 1 v] }).objs.size], _, _, H, rfl,
    I1.kept (t' := tk) fun b o e => Heap.get?_push_of_some _ e, turn_range _ lo (hi - lo).toNat, ?_, fun b hb => ?_, q⟩
  · have e1 : lo + ((0 : Nat) : Int) * 1 = lo := by simp
    have e2 : (((hi - lo).toNat : Nat) : Int) - ((0 : Nat) : Int) = Builtin.Range.rangeSize lo hi 1 := by rw [rangeSize_one]; split <;> omega
    show IsRangeIter _ _ (lo + ((0 : Nat) : Int) * 1) ((((hi - lo).toNat : Nat) : Int) - ((0 : Nat) : Int)) 1
    rw [e1, e2]
    exact Heap.get?_push_size _ rfl
  · have e : b = (s.heap.push { cls := .type "range", data := .fields #[.int lo t, .int hi u, .int 1 v] }).objs.size := by simpa using hb
    subst e
    exact I1.fpOk (Nat.le_refl _) (I1.hok.fresh (Nat.le_refl _))
def iRng1 (ta : TA) : TI := fun σ H R => ta σ H fun vs H1 => ∃ j : Int, vs = [.int j] ∧ -(2 ^ 62) ≤ j ∧ j < 2 ^ 62 ∧ R (Itr 0 j.toNat) H1
theorem pi_range1 {a : Expr} {ta : TA} {p pos : Pos} (hg : Gl X "range") (hm : X.mg "range" = none) (ha : PA X [a] ta) (hs : starEach [a] X.env = [(false, eval a X.env)] := by rfl) : PI X tg (.Call (.Name "range" p) [a] [] pos) (iRng1 ta) := by
  intro pins s σ H R I h
  refine Call_ (ld_blt I hg hm boot_range (PyProof.Rows.callWith_type1 (thn (ha pos pins s σ H _ I h) fun us s1 ⟨vs, H1, I1, r1, q1⟩ => ?_) hs rfl))
  obtain ⟨j, e, q1, q2, q⟩ := q1
  subst e
  cases r1 with
  | cons r rr =>
    cases rr
    obtain ⟨t, rfl⟩ := r
    exact call_range_1 (range_it I1 (by omega) (by omega) q1 q2 (by simpa using q))
/-! ### for -/
def tFor (wi : TI) (g : TG) (tb : TS) : TS := fun D σ H => wi σ H fun J H1 => ∃ W : Nat → Nat → St → Hp → Prop, (∃ m, W 0 m σ H1) ∧ ∀ i m σ H, W i m σ H →
  (J.stop i H ∧ D.nx σ H) ∨ (J.go i H ∧ ∃ N : St → Hp → Prop, (∀ σ' H', N σ' H' → ∃ m', m' < m ∧ W (i + 1) m' σ' H') ∧ ∀ x H', J.yld i H x H' → g x σ H' fun σ2 H2 => tb { D with nx := N, ct := N, bk := D.nx } σ2 H2)
def pinsAt (fp : List Addr) (h : Heap) : List (Addr × Obj) := fp.filterMap fun b => (h.get? b).map fun o => (b, o)
theorem mem_pinsAt {fp : List Addr} {h : Heap} {b : Addr} {o : Obj} (hb : b ∈ fp) (e : h.get? b = some o) : (b, o) ∈ pinsAt fp h := List.mem_filterMap.mpr ⟨b, hb, by rw [e]; rfl⟩
theorem of_pinsAt {fp : List Addr} {h : Heap} {p : Addr × Obj} (hp : p ∈ pinsAt fp h) : p.1 ∈ fp ∧ h.get? p.1 = some p.2 := by
  obtain ⟨b, hb, e⟩ := List.mem_filterMap.mp hp
  cases q : h.get? b with
  | none => rw [q] at e; cases e
  | some o =>
    rw [q] at e
    have e' : (b, o) = p := Option.some.inj e
    subst e'
    exact ⟨hb, q⟩
theorem Inv.pinned {pins : List (Addr × Obj)} {σ : St} {H : Hp} {s : Shared} {fp : List Addr} (I : Inv X pins σ H s) (hf : ∀ b ∈ fp, FpOk X pins H b) (ho : ∀ b ∈ fp, ∃ o, s.heap.get? b = some o ∧ ∀ v, o.data ≠ .cell v) : Inv X (pins ++ pinsAt fp s.heap) σ H s :=
  I.pins_of fun p hp => (List.mem_append.mp hp).elim (fun z => I.pin p (List.mem_append_right _ z)) fun z => by
    obtain ⟨hb, e⟩ := of_pinsAt z
    obtain ⟨f0, f1, f2, _⟩ := hf p.1 hb
    obtain ⟨o, e', d⟩ := ho p.1 hb
    rw [e] at e'; cases e'
    exact ⟨e, f0, f1, f2, d⟩
theorem Inv.unpinned {pins pl : List (Addr × Obj)} {σ : St} {H : Hp} {s : Shared} (I : Inv X (pins ++ pl) σ H s) : Inv X pins σ H s := I.pins_of fun p hp => I.pin p (List.mem_append_right _ (List.mem_append_left _ hp))
theorem ps_for {iter : Expr} {body : List Stmt} {wi : TI} {g : TG} {tb : TS} {pos : Pos} (hp : PassesOwn (model X.prog X.w) X.A X.env X.xe) (hc : X.calm = true) (hi : PI X tg iter wi) (hg : PG X tg g) (hb : PSs X body tb)
    (hs : ∀ x, foldedSetIterable iter X.env x = pure x := by intro _; rfl) : PS X (.For tg iter body [] pos) (tFor wi g tb) := by
  intro pins s σ H D I h
  refine wpAny_For (thn (hi pins s σ H _ I h) fun v s1 h1 => thn h1 fun itv s2 h2 => ?_) hs
  obtain ⟨it, fp, tn, J, H2, e, I2, T, st2, f2, W, ⟨m0, w0⟩, turn⟩ := h2
  subst e
  -- what stays true of the iterator's objects through the loop
  have stat : ∀ {H' : Hp}, (∀ b ∈ fp, H' b = none) → ∀ b ∈ fp, FpOk X pins H' b := fun hn b hb => ⟨hn b hb, (f2 b hb).2⟩
  refine codeAny_forLoop_any (fun n s' => ∃ i σ' H', Inv X pins σ' H' s' ∧ tn i s'.heap ∧ (∀ b ∈ fp, H' b = none) ∧ W i n σ' H') ?_ m0 ⟨0, σ, H2, I2, st2, fun b hb => (f2 b hb).1, w0⟩
  rintro n s3 ⟨i, σ3, H3, I3, st3, fr3, w3⟩
  rcases turn i n σ3 H3 w3 with ⟨stop, qn⟩ | ⟨go, N, hN, step⟩
  · refine wpAny_passesOwn hp (thn (T.done X rfl rfl rfl hc i pins s3 σ3 H3 X.xe I3 (stat fr3) st3 stop) fun r s4 ⟨hr, I4⟩ => ?_)
    subst hr
    exact wpAny_execs_nil ⟨σ3, H3, I4, qn⟩
  · refine wpAny_passesOwn hp (thn (T.item X rfl rfl rfl hc i pins s3 σ3 H3 X.xe I3 (stat fr3) st3 go) fun r s4 ⟨u, hr, h4⟩ => ?_)
    subst hr
    refine wpAny_passesOwn hp (thn h4 fun _ s5 ⟨x, H5, I5, r5, y5, st5, fr5⟩ => ?_)
    have I5' := I5.pinned (stat fr5) (T.obj _ _ st5)
    refine wpAny_passesOwn hp (thn (hg _ s5 σ3 H5 x u _ I5' r5 (step x H5 y5)) fun _ s6 ⟨σ6, H6, I6, q6⟩ => ?_)
    refine wpAny_passesOwn hp (thn (hb _ s6 σ6 H6 _ I6 q6) fun f s7 q7 => ?_)
    have again : ∀ {σ7 : St} {H7 : Hp}, Inv X (pins ++ pinsAt fp s5.heap) σ7 H7 s7 → N σ7 H7 → ∃ m, m < n ∧ ∃ i σ' H', Inv X pins σ' H' s7 ∧ tn i s7.heap ∧ (∀ b ∈ fp, H' b = none) ∧ W i m σ' H' := fun {σ7 H7} I7 n7 => by
      obtain ⟨m', hm, w7⟩ := hN σ7 H7 n7
      refine ⟨m', hm, i + 1, σ7, H7, I7.unpinned, T.keep _ _ _ st5 fun b hb o e => (I7.pin (b, o) (List.mem_append_right _ (List.mem_append_right _ (mem_pinsAt hb e)))).1, fun b hb => ?_, w7⟩
      obtain ⟨o, e, d⟩ := T.obj _ _ st5 b hb
      exact (I7.pin (b, o) (List.mem_append_right _ (List.mem_append_right _ (mem_pinsAt hb e)))).2.1
    cases f with
    | next => obtain ⟨σ7, H7, I7, n7⟩ := q7; exact again I7 n7
    | cont => obtain ⟨σ7, H7, I7, n7⟩ := q7; exact again I7 n7
    | brk => obtain ⟨σ7, H7, I7, q7⟩ := q7; exact ⟨σ7, H7, I7.unpinned, q7⟩
    | ret v => obtain ⟨x7, σ7, H7, I7, r7, q7⟩ := q7; exact ⟨x7, σ7, H7, I7.unpinned, r7, q7⟩
end

/-! ### the forms one uses -/
end L2

namespace L2
open PySem PySem.Spec PyProof.Rows

abbrev R2 := V → V → Hp → VK → Prop
def OpR (X : Cx) (f : Value → Value → Sem Value) (r : R2) : Prop :=
  ∀ (pins : List (Addr × Obj)) (s : Shared) (σ : St) (H : Hp) (x y : V) (v u : Value) (Q : VK), Inv X pins σ H s → RelV x v → RelV y u → r x y H Q →
    wpAny (model X.prog X.w) X.A (f v u) (EP X pins σ Q) X.xe s
def CallR (X : Cx) (f : Value) (r : List V → Hp → VK → Prop) : Prop :=
  ∀ (pins : List (Addr × Obj)) (s : Shared) (σ : St) (H : Hp) (xs : List V) (us : List Value) (Q : VK), Inv X pins σ H s → Vals xs us → r xs H Q →
    wpAny (model X.prog X.w) X.A (call f us) (EP X pins σ Q) X.xe s
def TruR (X : Cx) (r : V → Hp → (Bool → Hp → Prop) → Prop) : Prop :=
  ∀ (pins : List (Addr × Obj)) (s : Shared) (σ : St) (H : Hp) (x : V) (v : Value) (Q : Bool → Hp → Prop), Inv X pins σ H s → RelV x v → r x H Q →
    wpAny (model X.prog X.w) X.A (truthy v) (TP X pins σ Q) X.xe s

def tOp (r : R2) (ta tb : TE) : TE := fun σ H Q => ta σ H fun x H1 => tb σ H1 fun y H2 => r x y H2 Q
def rI (C : Int → Int → Prop) (g : Int → Int → V) : R2 := fun x y H Q => ∃ i j, x = .int i ∧ y = .int j ∧ C i j ∧ Q (g i j) H
def rI0 (g : Int → Int → V) : R2 := fun x y H Q => ∃ i j, x = .int i ∧ y = .int j ∧ Q (g i j) H
section
variable {X : Cx} {a b c : Expr} {ta tb tc : TE} {pos : Pos}

theorem binT (ha : PE X a ta) (hb : PE X b tb) {pins : List (Addr × Obj)} {s : Shared} {σ : St} {H : Hp} {R : V → V → Hp → Prop} (I : Inv X pins σ H s)
    (h : ta σ H fun x H1 => tb σ H1 fun y H2 => R x y H2) {Q : Value → Shared → Prop} {f : Value → Value → Sem Value}
    (hf : ∀ v u s2 x y H2, Inv X pins σ H2 s2 → RelV x v → RelV y u → R x y H2 → wpAny (model X.prog X.w) X.A (f v u) Q X.xe s2) :
    wpAny (model X.prog X.w) X.A (eval a X.env) (fun v s₁ => wpAny (model X.prog X.w) X.A (eval b X.env) (fun u s₂ => wpAny (model X.prog X.w) X.A (f v u) Q X.xe s₂) X.xe s₁) X.xe s := by
  refine thn (ha pins s σ H _ I h) fun v s1 ⟨x, H1, I1, r1, q1⟩ => ?_
  refine thn (hb pins s1 σ H1 _ I1 q1) fun u s2 ⟨y, H2, I2, r2, q2⟩ => ?_
  exact hf v u s2 x y H2 I2 r1 r2 q2

theorem pe_op {op : Operator} {r : R2} (ho : OpR X (binaryOp op) r) (ha : PE X a ta) (hb : PE X b tb) : PE X (.BinOp a op b pos) (tOp r ta tb) := by
  intro pins s σ H Q I h
  exact wpAny_BinOp (binT ha hb I h fun v u s2 x y H2 I2 rx ry q => ho pins s2 σ H2 x y v u Q I2 rx ry q)
/-! ### ints -/
theorem opI {f : Value → Value → Sem Value} {C : Int → Int → Prop} {g : Int → Int → Int}
    (rule : ∀ (i j : Int) (t u : Tok) (s : Shared) (Q : Value → Shared → Prop) (E : Value → Shared → Prop), C i j → Q (.int (g i j) s.toks) { s with toks := s.toks + 1 } → wpAny (model X.prog X.w) X.A (f (.int i t) (.int j u)) Q E s) :
    OpR X f (rI C fun i j => .int (g i j)) := by
  intro pins s σ H x y v u Q I rx ry h
  obtain ⟨i, j, rfl, rfl, hc, q⟩ := h
  obtain ⟨t, rfl⟩ := rx
  obtain ⟨t', rfl⟩ := ry
  exact rule i j t t' s _ _ hc ⟨.int (g i j), H, I.tok _, ⟨_, rfl⟩, q⟩
theorem opI0 {f : Value → Value → Sem Value} {g : Int → Int → Int}
    (rule : ∀ (i j : Int) (t u : Tok) (s : Shared) (Q : Value → Shared → Prop) (E : Value → Shared → Prop), Q (.int (g i j) s.toks) { s with toks := s.toks + 1 } → wpAny (model X.prog X.w) X.A (f (.int i t) (.int j u)) Q E s) :
    OpR X f (rI0 fun i j => .int (g i j)) := by
  intro pins s σ H x y v u Q I rx ry h
  obtain ⟨i, j, rfl, rfl, q⟩ := h
  obtain ⟨t, rfl⟩ := rx
  obtain ⟨t', rfl⟩ := ry
  exact rule i j t t' s _ _ ⟨.int (g i j), H, I.tok _, ⟨_, rfl⟩, q⟩
theorem opB0 {f : Value → Value → Sem Value} {g : Int → Int → Bool}
    (rule : ∀ (i j : Int) (t u : Tok) (s : Shared) (Q : Value → Shared → Prop) (E : Value → Shared → Prop), Q (.bool (g i j)) s → wpAny (model X.prog X.w) X.A (f (.int i t) (.int j u)) Q E s) :
    OpR X f (rI0 fun i j => .bl (g i j)) := by
  intro pins s σ H x y v u Q I rx ry h
  obtain ⟨i, j, rfl, rfl, q⟩ := h
  obtain ⟨t, rfl⟩ := rx
  obtain ⟨t', rfl⟩ := ry
  exact rule i j t t' s _ _ ⟨.bl (g i j), H, I, rfl, q⟩

def CDiv (i j : Int) : Prop := 0 < j ∧ j < 1073741824
def CPow (i j : Int) : Prop := 0 ≤ j ∧ j ≤ 1000000 ∧ i.natAbs < 2 ^ 64
def CMul (i j : Int) : Prop := (-(2 ^ 64) < i ∧ i < 2 ^ 64) ∨ (-(2 ^ 64) < j ∧ j < 2 ^ 64)
theorem CMul.ok {i j : Int} (h : CMul i j) : IntMulOk i j := by
  rcases h with ⟨h1, h2⟩ | ⟨h1, h2⟩
  · exact .of_left (intBits_le_64 h1 h2)
  · exact .of_right (intBits_le_64 h1 h2)
theorem op_add : OpR X (binaryOp .Add) (rI0 fun i j => .int (i + j)) := opI0 fun _ _ _ _ _ _ _ q => add_int q
theorem op_fdiv : OpR X (binaryOp .FloorDiv) (rI CDiv fun i j => .int (i / j)) := opI fun i j _ _ _ _ _ hc q => by
  have h1 : (0 : Int) < j := hc.1
  have h2 : j < 1073741824 := hc.2
  exact floordiv_int (by omega) (by rw [Int.fdiv_eq_ediv_of_nonneg i (by omega)]; exact q) (.inl (PyProof.noPylong_small (by omega)))
theorem op_mod : OpR X (binaryOp .Mod) (rI (fun _ j => 0 < j) fun i j => .int (i % j)) := opI fun i j _ _ _ _ _ hc q => by
  have h1 : (0 : Int) < j := hc
  exact mod_int' (by omega) (by rw [Int.fmod_eq_emod_of_nonneg i (by omega)]; exact q)
theorem op_pow : OpR X (binaryOp .Pow) (rI CPow fun i j => .int (i ^ j.toNat)) := opI fun _ _ _ _ _ _ _ hc q => pow_int_small hc.1 hc.2.1 hc.2.2 q
/-! ### bools among ints: n += (a < b) -/
end

/-! ### comparisons -/
def scal : V → V → Bool
  | .non, .non => true | .non, .int _ => true | .int _, .non => true | .non, .bl _ => true | .bl _, .non => true | .non, .str _ => true | .str _, .non => true
  | .int _, .int _ => true | .bl _, .bl _ => true | .str _, .str _ => true | .byt _, .byt _ => true
  | .int _, .str _ => true | .str _, .int _ => true | .bl _, .str _ => true | .str _, .bl _ => true
  | _, _ => false
def rNe : R2 := fun x y H Q => scal x y = true ∧ Q (.bl (!decide (x = y))) H

theorem dec_int {i j : Int} : decide (V.int i = V.int j) = (i == j) := by
  rw [Bool.eq_iff_iff]
  simp
theorem dec_bl {i j : Bool} : decide (V.bl i = V.bl j) = (i == j) := by
  rw [Bool.eq_iff_iff]
  simp
theorem dec_str {i j : Str} : decide (V.str i = V.str j) = (i == j) := by
  rw [Bool.eq_iff_iff]
  simp
theorem dec_byt {i j : Array UInt8} : decide (V.byt i = V.byt j) = (i.toList == j.toList) := by
  rw [Bool.eq_iff_iff]
  cases i
  cases j
  simp

section
variable {X : Cx} {a b c : Expr} {ta tb tc : TE} {pos : Pos}
theorem fin_bl {pins : List (Addr × Obj)} {σ : St} {H : Hp} {s : Shared} {Q : VK} {k k' : Bool} (I : Inv X pins σ H s) (q : Q (.bl k) H) (e : k = k') : EP X pins σ Q (.bool k') s := by
  subst e
  exact ⟨.bl k, H, I, rfl, q⟩
theorem op_ne : OpR X (compareOp .NotEq) rNe := by
  intro pins s σ H x y v u Q I rx ry h
  obtain ⟨hs, q⟩ := h
  cases x with
  | non =>
    cases rx
    cases y with
    | non => cases ry; exact PySem.EqNone.ne_none_none (fin_bl I q (by simp))
    | bl j => cases ry; exact PySem.EqNone.ne_none_bool (fin_bl I q (by simp))
    | int j => obtain ⟨t', rfl⟩ := ry; exact PySem.EqNone.ne_none_int (fin_bl I q (by simp))
    | str j => obtain ⟨t', rfl⟩ := ry; exact PySem.EqNone.ne_none_str (fin_bl I q (by simp))
    | _ => exact absurd (show false = true from hs) Bool.false_ne_true
  | bl i =>
    cases rx
    cases y with
    | non => cases ry; exact PySem.EqNone.ne_bool_none (fin_bl I q (by simp))
    | bl j => cases ry; exact ne_bool (fin_bl I q (congrArg not dec_bl))
    | str j => obtain ⟨t', rfl⟩ := ry; exact PySem.EqMixed.ne_bool_str (fin_bl I q (by simp))
    | _ => exact absurd (show false = true from hs) Bool.false_ne_true
  | int i =>
    obtain ⟨t, rfl⟩ := rx
    cases y with
    | non => cases ry; exact PySem.EqNone.ne_int_none (fin_bl I q (by simp))
    | int j => obtain ⟨t', rfl⟩ := ry; exact ne_int (fin_bl I q (congrArg not dec_int))
    | str j => obtain ⟨t', rfl⟩ := ry; exact PySem.EqMixed.ne_int_str (fin_bl I q (by simp))
    | _ => exact absurd (show false = true from hs) Bool.false_ne_true
  | str i =>
    obtain ⟨t, rfl⟩ := rx
    cases y with
    | non => cases ry; exact PySem.EqNone.ne_str_none (fin_bl I q (by simp))
    | bl j => cases ry; exact PySem.EqMixed.ne_str_bool (fin_bl I q (by simp))
    | int j => obtain ⟨t', rfl⟩ := ry; exact PySem.EqMixed.ne_str_int (fin_bl I q (by simp))
    | str j => obtain ⟨t', rfl⟩ := ry; exact ne_str (fin_bl I q (congrArg not dec_str))
    | _ => exact absurd (show false = true from hs) Bool.false_ne_true
  | byt i =>
    obtain ⟨t, rfl⟩ := rx
    cases y with
    | byt j => obtain ⟨t', rfl⟩ := ry; exact PySem.W.ne_bytes (fin_bl I q (congrArg not dec_byt))
    | _ => exact absurd (show false = true from hs) Bool.false_ne_true
  | _ => cases y <;> exact absurd (show false = true from hs) Bool.false_ne_true

theorem op_lt : OpR X (compareOp .Lt) (rI0 fun i j => .bl (decide (i < j))) := opB0 fun _ _ _ _ _ _ _ q => lt_int q
theorem op_le : OpR X (compareOp .LtE) (rI0 fun i j => .bl (decide (i ≤ j))) := opB0 fun _ _ _ _ _ _ _ q => le_int q
theorem op_gt : OpR X (compareOp .Gt) (rI0 fun i j => .bl (decide (j < i))) := opB0 fun _ _ _ _ _ _ _ q => gt_int q
theorem op_in_str : OpR X (compareOp .In) (fun x y H Q => ∃ i j, x = .str i ∧ y = .str j ∧ Q (.bl (!(Builtin.Str.occurrences j i 0 j.length 1).isEmpty)) H) := by
  intro pins s σ H x y v u Q I rx ry h
  obtain ⟨i, j, rfl, rfl, q⟩ := h
  obtain ⟨t, rfl⟩ := rx
  obtain ⟨t', rfl⟩ := ry
  exact in_str (fin_bl I q rfl)

def isObj : HO → Bool
  | .lst _ => true
  | .ins _ _ _ => true
  | _ => false
theorem obj_there {pins : List (Addr × Obj)} {s : Shared} {σ : St} {H : Hp} {a : Addr} {o : HO} (I : Inv X pins σ H s) (h : H a = some o) (p : isObj o = true) : ∃ ob, s.heap.get? a = some ob ∧ ob.cls ≠ .type "tuple" := by
  cases o with
  | lst xs =>
    obtain ⟨_, its, n, _, e⟩ : xs.length ≤ sizeLine ∧ ∃ (its : List Value) (n : Nat), Vals xs its ∧ s.heap.get? a = some { cls := .type "list", data := .seq its.toArray n } := I.hok a _ h
    exact ⟨_, e, (by show Value.type "list" ≠ .type "tuple"; decide +kernel)⟩
  | ins C dx fs =>
    have x := I.hok a _ h
    obtain ⟨_, _, _, e, _⟩ := x
    exact ⟨_, e, (by show Value.ref C ≠ .type "tuple"; exact fun z => by cases z)⟩
  | _ => exact absurd (show false = true from p) Bool.false_ne_true
theorem OpR.or {f : Value → Value → Sem Value} {r r' : R2} (h : OpR X f r) (h' : OpR X f r') : OpR X f (fun x y H Q => r x y H Q ∨ r' x y H Q) := by
  intro pins s σ H x y v u Q I rx ry q
  rcases q with q | q
  · exact h pins s σ H x y v u Q I rx ry q
  · exact h' pins s σ H x y v u Q I rx ry q

theorem nomark (b : Expr) {op : CmpOp} (h : op ≠ .In := by decide) (h2 : op ≠ .NotIn := by decide) : behindInMarks op b = false := by
  have e1 : (op == CmpOp.In) = false := by cases op <;> first | rfl | exact absurd rfl h
  have e2 : (op == CmpOp.NotIn) = false := by cases op <;> first | rfl | exact absurd rfl h2
  cases b <;> simp [behindInMarks, e1, e2]
theorem pe_cmpR {op : CmpOp} {r : R2} (ho : OpR X (compareOp op) r) (ha : PE X a ta) (hb : PE X b tb) (hm : behindInMarks op b = false) : PE X (.Compare a [op] [b] pos) (tOp r ta tb) := by
  intro pins s σ H Q I h
  exact wpAny_Compare1 (binT ha hb I h fun v u s2 x y H2 I2 rx ry q => ho pins s2 σ H2 x y v u Q I2 rx ry q) hm
def tTest (t : TE) : TT := fun σ H Q => t σ H fun x H' => ∃ k, x = .bl k ∧ Q k H'
theorem pt_cmpR {op : CmpOp} {r : R2} (ho : OpR X (compareOp op) r) (ha : PE X a ta) (hb : PE X b tb) (hm : behindInMarks op b = false) : PT X (.Compare a [op] [b] pos) (tTest (tOp r ta tb)) := by
  intro pins s σ H Q I h
  refine wpAny_isTrue_Compare1 (thn (ha pins s σ H _ I h) fun v s1 ⟨x, H1, I1, r1, q1⟩ => thn (hb pins s1 σ H1 _ I1 q1) fun u s2 ⟨y, H2, I2, r2, q2⟩ =>
    thn (ho pins s2 σ H2 x y v u _ I2 r1 r2 q2) fun c s3 ⟨z, H3, I3, r3, k, e, q3⟩ => ?_) hm
  subst e
  cases r3
  exact wpAny_truthy_bool ⟨H3, I3, q3⟩
def tChain (r r' : R2) (ta tb tc : TE) : TE := fun σ H Q => ta σ H fun x H1 => tb σ H1 fun y H2 => r x y H2 fun z H3 => ∃ k, z = .bl k ∧
  (if k = true then tc σ H3 fun w' H4 => r' y w' H4 Q else Q (.bl false) H3)
theorem pe_chain {op op' : CmpOp} {r r' : R2} (ho : OpR X (compareOp op) r) (ho' : OpR X (compareOp op') r') (ha : PE X a ta) (hb : PE X b tb) (hc : PE X c tc)
    (hm : lastMarks [op, op'] [b, c] = false := by with_unfolding_all rfl) : PE X (.Compare a [op, op'] [b, c] pos) (tChain r r' ta tb tc) := by
  intro pins s σ H Q I h
  refine Compare_chain (thn (ha pins s σ H _ I h) fun v s1 ⟨x, H1, I1, r1, q1⟩ => chain_link (thn (hb pins s1 σ H1 _ I1 q1) fun u s2 ⟨y, H2, I2, r2, q2⟩ =>
    thn (ho pins s2 σ H2 x y v u _ I2 r1 r2 q2) fun d s3 ⟨z, H3, I3, r3, k, e, q3⟩ => ?_)) hm
  subst e
  cases r3
  refine wpAny_truthy_bool ?_
  cases k with
  | false => exact ite_ff ⟨.bl false, H3, I3, rfl, q3⟩
  | true => exact ite_tt (chain_last (thn (hc pins s3 σ H3 _ I3 q3) fun w' s4 ⟨z', H4, I4, r4, q4⟩ => ho' pins s4 σ H4 y z' u w' Q I4 r2 r4 q4))
/-! ### truth -/
def TruV (K : PySem.W.Frag) (x : V) (H : Hp) (k : Bool) : Prop :=
  match x with
  | .non => k = false
  | .bl b => k = b
  | .int i => k = (i != 0)
  | .str y => y.length ≤ sizeLine ∧ k = ((y.length : Int) != 0)
  | .byt y => y.size ≤ sizeLine ∧ k = ((y.size : Int) != 0)
  | .ref p => (∃ xs, SqL K H p xs ∧ k = !xs.isEmpty) ∨ (∃ xs, SqT K H p xs ∧ k = !xs.isEmpty) ∨ ∃ kvs, H p = some (.dK kvs) ∧ k = !kvs.isEmpty
  | _ => False
theorem isEmpty_kv {κ : Type} {kvs : List (κ × V)} {vs : List (κ × Value)} (r : KV kvs vs) : (!vs.isEmpty) = !kvs.isEmpty := by
  cases r <;> rfl
theorem isEmpty_of {xs : List V} {its : List Value} (r : Vals xs its) : (!its.toArray.isEmpty) = !xs.isEmpty := by
  cases r <;> simp
theorem line63 : (sizeLine : Nat) < 2 ^ 63 := by rw [sizeLine_eq]; decide
theorem tru_ok : TruR X (fun x H Q => ∃ k, TruV X.K x H k ∧ Q k H) := by
  intro pins s σ H x v Q I rx h
  obtain ⟨k, e, q⟩ := h
  have hl := line63
  have hs : sizeLine = 16777216 := sizeLine_eq
  cases x with
  | non =>
    cases rx
    have e' : k = false := e
    subst e'
    exact truthy_none ⟨H, I, q⟩
  | bl b =>
    cases rx
    have e' : k = b := e
    subst e'
    exact wpAny_truthy_bool ⟨H, I, q⟩
  | int i =>
    obtain ⟨t, rfl⟩ := rx
    have e' : k = (i != 0) := e
    subst e'
    exact PySem.P.truthy_int ⟨H, I, q⟩
  | str y =>
    obtain ⟨t, rfl⟩ := rx
    obtain ⟨hy, e'⟩ : y.length ≤ sizeLine ∧ k = ((y.length : Int) != 0) := e
    subst e'
    exact PySem.P.truthy_str (by omega) ⟨H, I.tok _, q⟩
  | byt y =>
    obtain ⟨t, rfl⟩ := rx
    obtain ⟨hy, e'⟩ : y.size ≤ sizeLine ∧ k = ((y.size : Int) != 0) := e
    subst e'
    exact PySem.W.truthy_bytes (by omega) ⟨H, I.tok _, q⟩
  | ref p =>
    cases rx
    have e' : (∃ xs, SqL X.K H p xs ∧ k = !xs.isEmpty) ∨ (∃ xs, SqT X.K H p xs ∧ k = !xs.isEmpty) ∨ ∃ kvs, H p = some (.dK kvs) ∧ k = !kvs.isEmpty := e
    rcases e' with ⟨xs, hx, e'⟩ | ⟨xs, hx, e'⟩ | ⟨kvs, hx, e'⟩
    · subst e'
      obtain ⟨its, r, pl, hz⟩ := I.list hx
      have hlen := r.length
      exact wpAny_truthy_list pl.isList (by simp only [List.size_toArray]; omega) ⟨H, I.tok _, by rw [isEmpty_of r]; exact q⟩
    · subst e'
      obtain ⟨its, r, pl, hz⟩ := I.tuple hx
      have hlen := r.length
      exact truthy_tuple pl (by simp only [List.size_toArray]; omega) ⟨H, I.tok _, by rw [isEmpty_of r]; exact q⟩
    · subst e'
      obtain ⟨hz, hS, vs, r, m⟩ : kvs.length ≤ sizeLine ∧ (p == sysModules) = false ∧ ∃ vs, KV kvs vs ∧ s.heap.DictOf (mixKind X.prog X.w) p vs := I.hok p _ hx
      have hlen : kvs.length = vs.length := Paired.length r
      exact wpAny_truthy_dict hS m (by omega) ⟨H, I.tok _, by rw [isEmpty_kv r]; exact q⟩
  | _ => exact (show False from e).elim
theorem pt_truth (ha : PE X a ta) (he : ∀ whole, isTrue a X.env whole = (do let v ← whole; standAt a.pos; holding [v] (truthy v))) :
    PT X a (fun σ H Q => ta σ H fun x H' => ∃ k, TruV X.K x H' k ∧ Q k H') := by
  intro pins s σ H Q I h
  exact isTrue_plain (thn (ha pins s σ H _ I h) fun v s1 ⟨x, H1, I1, r1, q1⟩ => tru_ok pins s1 σ H1 x v Q I1 r1 q1) (he _)

/-! ### strs and bytes -/
theorem op_add_str : OpR X (binaryOp .Add) (fun x y H Q => ∃ i j, x = .str i ∧ y = .str j ∧ i.length + j.length ≤ sizeLine ∧ Q (.str (i ++ j)) H) := by
  intro pins s σ H x y v u Q I rx ry h
  obtain ⟨i, j, rfl, rfl, hz, q⟩ := h
  obtain ⟨t, rfl⟩ := rx
  obtain ⟨t', rfl⟩ := ry
  exact add_str (fun t' tk => ⟨.str (i ++ j), H, I.tok _, ⟨_, rfl⟩, q⟩) hz
/-! ### scalar builtins, by CallR -/
theorem vals1 {x : V} {us : List Value} (r : Vals [x] us) : ∃ u, us = [u] ∧ RelV x u := by
  cases r with
  | cons r1 r2 => cases r2; exact ⟨_, rfl, r1⟩
theorem call_str_int : CallR X (.type "str") (fun xs H Q => ∃ i, xs = [.int i] ∧ i.natAbs.log2 < 1920 ∧ Q (.str (toString i)) H) := by
  intro pins s σ H xs us Q I r h
  obtain ⟨i, rfl, hz, q⟩ := h
  obtain ⟨u, rfl, t, rfl⟩ := vals1 r
  exact PySem.P.str_of_int hz ⟨.str _, H, I.tok _, ⟨_, rfl⟩, q⟩
end
end L2

namespace L2
open PySem PySem.Spec PyProof.Rows

/-! ### an instance, its attributes a map -/
section
variable {prog : Program} {w : World} {A : Around} {E : Value → Shared → Prop} {s : Shared} {K : PySem.W.Frag} {x dx C f : Addr} {mA : Str → Option Value} {name : Str} {v : Value}

end

/-! ### the attributes as a list of pairs -/
section
variable {P : Program} {w : World} {H H' : Hp} {h h' : Heap} {a C dx : Addr} {fs fs' : List (Str × V)}
end

/-! ### what of the text a class must have -/
structure Cls (K : PySem.W.Frag) (C : Addr) : Prop where
  pg : PySem.W.plainGet K C Str.empty = true
  hd : PySem.W.hasDictIn K C = true
  po : PySem.W.plainOver K C = true
  sa : PySem.W.findIn K (.ref C) "__setattr__" = some (some (.builtin "object.__setattr__"))
theorem Cls.get {K : PySem.W.Frag} {C : Addr} (c : Cls K C) (f : Str) : PySem.W.plainGet K C f = true := c.pg
section
variable {X : Cx} {pins : List (Addr × Obj)} {σ : St} {H : Hp} {s : Shared} {a C dx : Addr} {fs : List (Str × V)} {f : Str} {v : V} {A : Around} {E : Value → Shared → Prop}

end

/-! ### readings and rules -/
section
variable {X : Cx} {o e value : Expr} {f : Str} {pos pos' tpos : Pos} {ta tv : TE}
end

/-! ### isinstance -/
section
variable {X : Cx} {pins : List (Addr × Obj)} {σ : St} {H : Hp} {s : Shared} {A : Around} {E : Value → Shared → Prop} {Q : Value → Shared → Prop} {c : Value} {b : Bool}
end
end L2

namespace L2
open PySem PySem.Spec PyProof.Rows

/-! ### room -/
structure Room (k : Nat) (A : Around) : Prop where
  hd : A.handled = none
  dp : A.depth + 3 * k + 5 < recursionLimit
  un : A.units + 16 * k + 200 < cLine
theorem Room.mono {j k : Nat} {A : Around} (r : Room k A) (h : j ≤ k) : Room j A := ⟨r.hd, by have := r.dp; omega, by have := r.un; omega⟩
theorem Room.deeper {k : Nat} {A : Around} (r : Room (k + 1) A) (env : Env) : Room k (A.deeper env) :=
  ⟨r.hd, by have := r.dp; show A.depth + 1 + 3 * k + 5 < _; omega, by have := r.un; show A.units + 3 + 16 * k + 200 < _; omega⟩
theorem Room.in1 {k : Nat} {A : Around} (r : Room (k + 1) A) : Room k A.in1 :=
  ⟨r.hd, by have := r.dp; show A.depth + 3 * k + 5 < _; omega, by have := r.un; show A.units + 1 + 16 * k + 200 < _; omega⟩
theorem Room.depth {k : Nat} {A : Around} (r : Room k A) : A.depth < recursionLimit := by have := r.dp; omega
theorem Room.units {k : Nat} {A : Around} (r : Room k A) : A.units + 64 < cLine := by have := r.un; omega
/-! ### argument lists and displays -/
def tNil : TA := fun _ H Q => Q [] H
def tCons (ta : TE) (tr : TA) : TA := fun σ H Q => ta σ H fun x H1 => tr σ H1 fun xs H2 => Q (x :: xs) H2
section
variable {X : Cx} {e : Expr} {es : List Expr} {te : TE} {t : TA} {pos : Pos}
theorem pa_nil : PA X [] tNil := fun _ _ _ _ H Q I h => Calls.spliced_nil ⟨[], H, I, .nil, h⟩
theorem pa_cons (ha : PE X e te) (hr : PA X es t) (hs : starEach (e :: es) X.env = (false, eval e X.env) :: starEach es X.env := by rfl) : PA X (e :: es) (tCons te t) := by
  intro pos pins s σ H Q I h
  rw [hs]
  show wpAny _ _ (spliced ((false, eval e X.env) :: backTo pos (starEach es X.env))) _ _ s
  refine Calls.spliced_cons (thn (ha pins s σ H _ I h) fun u s1 ⟨x, H1, I1, r1, q1⟩ => ?_)
  exact thn (hr pos pins s1 σ H1 _ I1 q1) fun us s2 ⟨xs, H2, I2, r2, q2⟩ => ⟨x :: xs, H2, I2, .cons r1 r2, q2⟩

def tTup (t : TA) : TE := fun σ H Q => t σ H fun xs H1 => xs.length ≤ sizeLine ∧ ∀ p, H1 p = none → Q (.ref p) (upd H1 p (.tup xs))
def tLst (t : TA) : TE := fun σ H Q => t σ H fun xs H1 => xs.length ≤ sizeLine ∧ ∀ p, H1 p = none → Q (.ref p) (upd H1 p (.lst xs))
theorem pe_tup {x1} (h : PA X es t) : PE X (.Tuple es x1 pos) (tTup t) := by
  intro pins s σ H Q I hq
  refine wpAny_Tuple_spliced (thn (h pos pins s σ H _ I hq) fun us s1 ⟨xs, H1, I1, r, z, q⟩ => ⟨by rw [← r.length]; exact z, ?_⟩)
  have hf : H1 s1.heap.objs.size = none := I1.hok.fresh (Nat.le_refl _)
  refine ⟨.ref s1.heap.objs.size, upd H1 s1.heap.objs.size (.tup xs), I1.laid (t' := s1.toks) (fun b u e => Heap.get?_push_of_some _ e) (Nat.le_refl _) ?_, rfl, q _ hf⟩
  exact ⟨z, us, r, ⟨_, Heap.get?_push_size _ rfl, rfl, _, rfl⟩⟩
theorem pe_lst (h : PA X es t) : PE X (.List es pos) (tLst t) := by
  intro pins s σ H Q I hq
  refine wpAny_List_spliced (thn (h pos pins s σ H _ I hq) fun us s1 ⟨xs, H1, I1, r, z, q⟩ => ⟨by rw [← r.length]; exact z, ?_⟩)
  have hf : H1 s1.heap.objs.size = none := I1.hok.fresh (Nat.le_refl _)
  refine ⟨.ref s1.heap.objs.size, upd H1 s1.heap.objs.size (.lst xs), I1.laid (t' := s1.toks) (fun b u e => Heap.get?_push_of_some _ e) (Nat.le_refl _) ?_, rfl, q _ hf⟩
  exact ⟨z, us, 0, r, Heap.get?_push_size _ rfl⟩
end

/-! ### what a def promises -/
abbrev Sp := List V → Hp → VK → XK → Prop
abbrev CXT := List Env → Hp → Shared → XK → Value → Shared → Prop

structure Env0 (P : Program) (w : World) (K : PySem.W.Frag) (mg : Str → Option Value) (base : Heap) (A : Around) (outer : List Env) (s : Shared) (H : Hp) : Prop where
  frames : A.frames = some outer
  mod : Mod K mg base
  bs : ∀ b o, base.get? b = some o → s.heap.get? b = some o ∧ H b = none
  bsz : base.objs.size ≤ s.heap.objs.size
  funs : s.heap.FunFrames base outer
  frf : ∀ b ∈ frs outer, H b = none
  hok : HOk P w H s.heap
  bare : AllBare s.gens
def CE (outer : List Env) (P : Program) (w : World) (H : Hp) (s : Shared) (Q : VK) (u : Value) (s' : Shared) : Prop :=
  ∃ v H', s'.os = s.os ∧ AllBare s'.gens ∧ Un (frs outer) [] H H' s.heap s'.heap ∧ HOk P w H' s'.heap ∧ RelV v u ∧ Q v H'
def CR (CX : CXT) (outer : List Env) (P : Program) (w : World) (H : Hp) (s : Shared) (Q : VK) (E : XK) (r : Result) (s' : Shared) : Prop :=
  match r with
  | .ok (.ret u) => CE outer P w H s Q u s'
  | .ok _ => False
  | .error e => CX outer H s E e s'
structure FnOk (P : Program) (w : World) (K : PySem.W.Frag) (mg : Str → Option Value) (base : Heap) (CX : CXT) (k : Nat) (f : Addr) (fd : FuncData) (ps : List Str) (sp : Sp) : Prop where
  len : ∀ vs H Q E, sp vs H Q E → vs.length = ps.length
  run : ∀ (A : Around) (outer : List Env) (s : Shared) (H : Hp) (args : Args) (us : List Value) (vs : List V) (Q : VK) (E : XK), Room k A → Env0 P w K mg base A outer s H → BindsTo s fd args (ps.zip us) → Vals vs us → sp vs H Q E →
    codeAny (model P w) A (.call (.ref f) args) (CR CX outer P w H s Q E) s
theorem FnOk.mono {P : Program} {w : World} {K : PySem.W.Frag} {mg : Str → Option Value} {base : Heap} {CX : CXT} {j k : Nat} {f : Addr} {fd : FuncData} {ps : List Str} {sp : Sp} (F : FnOk P w K mg base CX j f fd ps sp) (h : j ≤ k) :
    FnOk P w K mg base CX k f fd ps sp := ⟨F.len, fun A outer s H args us vs Q E hr => F.run A outer s H args us vs Q E (hr.mono h)⟩
theorem FnOk.imp {P : Program} {w : World} {K : PySem.W.Frag} {mg : Str → Option Value} {base : Heap} {CX : CXT} {k : Nat} {f : Addr} {fd : FuncData} {ps : List Str} {sp sp' : Sp} (F : FnOk P w K mg base CX k f fd ps sp)
    (h : ∀ vs H Q E, sp' vs H Q E → sp vs H Q E) : FnOk P w K mg base CX k f fd ps sp' :=
  ⟨fun vs H Q E q => F.len vs H Q E (h _ _ _ _ q), fun A outer s H args us vs Q E hr he hb hv hs => F.run A outer s H args us vs Q E hr he hb hv (h _ _ _ _ hs)⟩

theorem Env0.in1 {P : Program} {w : World} {K : PySem.W.Frag} {mg : Str → Option Value} {base : Heap} {A : Around} {outer : List Env} {s : Shared} {H : Hp} (e : Env0 P w K mg base A outer s H) :
    Env0 P w K mg base A.in1 outer s H := ⟨e.frames, e.mod, e.bs, e.bsz, e.funs, e.frf, e.hok, e.bare⟩

section
variable {X : Cx} {pins : List (Addr × Obj)} {σ : St} {H : Hp} {s s' : Shared}
theorem Inv.env0 (I : Inv X pins σ H s) : Env0 X.prog X.w X.K X.mg X.base X.A X.stack s H :=
  ⟨I.ok.frames, I.ok.mod, I.bs, Nat.le_trans I.ok.bsz I.sz, I.stack, I.stkFree, I.hok, I.bare⟩
theorem Inv.after {Q : VK} {u : Value} (I : Inv X pins σ H s) (h : CE X.stack X.prog X.w H s Q u s') : EP X pins σ Q u s' := by
  obtain ⟨v, H', os, bare, un, hok, r, q⟩ := h
  obtain ⟨hh, g, d, t, os'⟩ := s'
  obtain rfl : os' = s.os := os
  exact ⟨v, H', I.call (h' := hh) (g' := g) (d' := d) (t' := t) (ch := []) un hok bare (fun b z => absurd z (by simp)), r, q⟩
end

/-! ### calls -/
def tCall (sp : Sp) (dvs : List V) (E : XK) (t : TA) : TE := fun σ H Q => t σ H fun vs H1 => sp (vs ++ dvs) H1 Q E
def Binds (K : PySem.W.Frag) (fd : FuncData) (ps : List Str) (ds : List Value) : Prop :=
  ∀ (s : Shared) (us : List Value), K.In s.heap → (us ++ ds).length = ps.length → BindsTo s fd ⟨us, []⟩ (ps.zip (us ++ ds))
theorem Binds.all {K : PySem.W.Frag} {fd : FuncData} {ps : List Str} (h : ∀ us : List Value, us.length = ps.length → bindArgs fd ⟨us, []⟩ = pure (ps.zip us)) : Binds K fd ps [] := fun s us _ hl => by
  rw [List.append_nil] at hl ⊢
  exact .of_eq (h us hl)

def Passes (CX : CXT) (X : Cx) (E : XK) : Prop := ∀ (pins : List (Addr × Obj)) (σ : St) (H : Hp) (s : Shared) (e : Value) (s' : Shared), Inv X pins σ H s → CX X.stack H s E e s' → X.xe e s'

section
variable {X : Cx} {CX : CXT} {k : Nat} {f C : Addr} {fd : FuncData} {ps : List Str} {sp : Sp} {dvs : List V} {ds : List Value} {E : XK} {x m : Str} {p pos apos : Pos} {e o : Expr} {es : List Expr} {ta : TE} {t : TA}

theorem run_fn {pins : List (Addr × Obj)} {σ : St} {H : Hp} {s : Shared} {Q : VK} {us : List Value} {vs : List V} (F : FnOk X.prog X.w X.K X.mg X.base CX k f fd ps sp) (hr : Room k X.A) (hb : Binds X.K fd ps ds) (hd : Vals dvs ds) (hx : Passes CX X E)
    (I : Inv X pins σ H s) (r : Vals vs us) (h : sp (vs ++ dvs) H Q E) : wpAny (model X.prog X.w) X.A (call (.ref f) us) (EP X pins σ Q) X.xe s := by
  have r2 : Vals (vs ++ dvs) (us ++ ds) := r.append hd
  have hl : (us ++ ds).length = ps.length := by rw [← r2.length]; exact F.len _ _ _ _ h
  refine wpAny_call (codeAny_mono (F.run X.A X.stack s H ⟨us, []⟩ (us ++ ds) (vs ++ dvs) Q E hr I.env0 (hb s us I.kIn hl) r2 h) fun r s' hq => ?_)
  cases r with
  | error e => exact hx pins σ H s e s' I hq
  | ok fl =>
    cases fl with
    | ret u => exact I.after hq
    | next => exact False.elim hq
    | brk => exact False.elim hq
    | cont => exact False.elim hq

theorem pe_call (F : FnOk X.prog X.w X.K X.mg X.base CX k f fd ps sp) (hr : Room k X.A) (hg : Gl X x) (hm : X.mg x = some (.ref f)) (hk : PySem.W.keepIn X.K (.ref f) = true) (hb : Binds X.K fd ps ds) (hd : Vals dvs ds) (hx : Passes CX X E)
    (ha : PA X (e :: es) t) (hdb : (x == ("__debug__" : Str)) = false := by decide) (he : starEach (e :: es) X.env = (false, eval e X.env) :: starEach es X.env := by rfl) (hpl : (backTo pos (starEach es X.env)).any (·.1) = false := by rfl) :
    PE X (.Call (.Name x p) (e :: es) [] pos) (tCall sp dvs E t) := by
  intro pins s σ H Q I h
  refine wpAny_Call_Name_kw (ld_glob I hg hm ?_ hdb)
  refine PySem.W.callWith_K (h₀ := X.base) I.ok.mod.kin hk (thn (ha pos pins s σ H _ I h) fun us s1 ⟨vs, H1, I1, r, q⟩ => ⟨I1.kIn, ?_⟩) he hpl
  exact run_fn F hr hb hd hx I1 r q
end

/-! ### keywords -/
section
variable {X : Cx} {CX : CXT} {k : Nat} {f C : Addr} {fd : FuncData} {ps ks : List Str} {sp : Sp} {E : XK} {x m : Str} {p pos apos kpos : Pos} {e o : Expr} {es : List Expr} {kws : List Keyword} {te ta : TE} {t tk : TA} {nm : Option Str}
variable {g : List Value → List Value → List Value} {gV : List V → List V → List V}
end

/-! ### a def's body keeps its promise -/
structure FnScope (N P : List Str) (sc : Scope) : Prop where
  kind : sc.kind = .function
  co : sc.isCoroutine = false
  gen : sc.isGenerator = false
  nd : N.Nodup
  pre : N.take P.length = P
  par : ∀ x ∈ P, sc.names.lookup x = some .local ∨ sc.names.lookup x = some .cell
  nofree : ∀ y ∈ sc.names, y.2 ≠ .free

theorem bindL_out {kindOf : Str → Option NameKind} {x : Str} : ∀ {binds : List (Str × Value)} {m : Str → Option Value}, (∀ v, (x, v) ∉ binds) → bindL kindOf binds m x = m x
  | [], _, _ => rfl
  | (n, v) :: r, m, h => by
    unfold bindL
    rw [bindL_out fun w hw => h w (List.mem_cons_of_mem _ hw)]
    split
    · have : x ≠ n := by rintro rfl; exact h v List.mem_cons_self
      simp [this]
    · rfl
theorem bindC_out {kindOf : Str → Option NameKind} {x : Str} : ∀ {binds : List (Str × Value)} {m : Str → Option Value}, (∀ v, (x, v) ∉ binds) → bindC kindOf binds m x = m x
  | [], _, _ => rfl
  | (n, v) :: r, m, h => by
    unfold bindC
    rw [bindC_out fun w hw => h w (List.mem_cons_of_mem _ hw)]
    split
    · rfl
    · have : x ≠ n := by rintro rfl; exact h v List.mem_cons_self
      simp [this]
theorem bindL_get {kindOf : Str → Option NameKind} {x : Str} {v : Value} : ∀ {P : List Str} {vs : List Value} {i : Nat} {m : Str → Option Value}, P.Nodup → P[i]? = some x → vs[i]? = some v → kindOf x = some .local →
    bindL kindOf (P.zip vs) m x = some v
  | [], _, _, _, _, h, _, _ => by simp at h
  | _ :: _, [], _, _, _, _, h, _ => by simp at h
  | p :: P, w :: vs, 0, m, nd, h1, h2, hk => by
    simp at h1 h2; subst h1; subst h2
    show bindL kindOf ((p, w) :: P.zip vs) m p = _
    unfold bindL
    rw [bindL_out fun v hv => (List.nodup_cons.mp nd).1 (List.of_mem_zip hv).1, if_pos hk]
    simp
  | p :: P, w :: vs, i + 1, m, nd, h1, h2, hk => by
    show bindL kindOf ((p, w) :: P.zip vs) m x = _
    unfold bindL
    exact bindL_get (i := i) (List.nodup_cons.mp nd).2 (by simpa using h1) (by simpa using h2) hk
theorem bindC_get {kindOf : Str → Option NameKind} {x : Str} {v : Value} : ∀ {P : List Str} {vs : List Value} {i : Nat} {m : Str → Option Value}, P.Nodup → P[i]? = some x → vs[i]? = some v → kindOf x ≠ some .local →
    bindC kindOf (P.zip vs) m x = some v
  | [], _, _, _, _, h, _, _ => by simp at h
  | _ :: _, [], _, _, _, _, h, _ => by simp at h
  | p :: P, w :: vs, 0, m, nd, h1, h2, hk => by
    simp at h1 h2; subst h1; subst h2
    show bindC kindOf ((p, w) :: P.zip vs) m p = _
    unfold bindC
    rw [bindC_out fun v hv => (List.nodup_cons.mp nd).1 (List.of_mem_zip hv).1, if_neg hk]
    simp
  | p :: P, w :: vs, i + 1, m, nd, h1, h2, hk => by
    show bindC kindOf ((p, w) :: P.zip vs) m x = _
    unfold bindC
    exact bindC_get (i := i) (List.nodup_cons.mp nd).2 (by simpa using h1) (by simpa using h2) hk

def start (N : List Str) (vs : List V) : St := vs.map some ++ List.replicate (N.length - vs.length) none

def cxOf (CX : CXT) (P : Program) (w : World) (K : PySem.W.Frag) (mg : Str → Option Value) (base : Heap) (N : List Str) (qual : Str) (scope : Scope) (f : Addr) (cd : Value) (A : Around) (outer : List Env) (s : Shared) (H : Hp) (E : XK) : Cx where
  prog := P
  w := w
  K := K
  mg := mg
  base := base
  A := A.deeper (envOfC qual scope s.heap.objs.size f cd)
  N := N
  s₀ := s
  H₀ := H
  env := envOfC qual scope s.heap.objs.size f cd
  outer := outer
  stack := envOfC qual scope s.heap.objs.size f cd :: outer
  ex := []
  calm := true
  fn := fun _ => true
  pn := []
  xe := fun e s' => wpAny (model P w) (A.deeper (envOfC qual scope s.heap.objs.size f cd)) (leaving (envOfC qual scope s.heap.objs.size f cd) e) (fun _ s'' => CX outer H s E e s'') (fun e' s'' => CX outer H s E e' s'') s'

theorem cell_has {sc : Scope} {n : Nat} {x : Str} (h : sc.names.lookup x = some .cell) : ∃ c, (cellsFrom n sc.names []).lookup x = some c := by
  have q := PySem.W.cellsFrom_some sc.names n [] (.inl h)
  exact Option.isSome_iff_exists.mp q

theorem inv_start {CX : CXT} {P : Program} {w : World} {K : PySem.W.Frag} {mg : Str → Option Value} {base : Heap} {N ps : List Str} {qual : Str} {scope : Scope} {f : Addr} {cd : Value} {A : Around} {outer : List Env} {s s1 : Shared} {H : Hp} {E : XK} {us : List Value} {vs : List V}
    (S : FnScope N ps scope) (hd : A.handled = none) (e0 : Env0 P w K mg base A outer s H) (hl : vs.length = ps.length) (r : Vals vs us)
    (x : InCallC s s.heap.objs.size (bindL (envOfC qual scope s.heap.objs.size f cd).kindOf (ps.zip us) fun _ => none) (cellsFrom (s.heap.objs.size + 1) scope.names []) (bindC (envOfC qual scope s.heap.objs.size f cd).kindOf (ps.zip us) fun _ => none) s1) :
    Inv (cxOf CX P w K mg base N qual scope f cd A outer s H E) [] (start N vs) H s1 := by
  have hpl : ps.length ≤ N.length := by have := congrArg List.length S.pre; rw [List.length_take] at this; omega
  obtain ⟨h1, tk, rfl, hk⟩ := x.done
  have noA : ∀ b : Addr, b ∉ (cxOf CX P w K mg base N qual scope f cd A outer s H E).ex := fun b z => absurd (show b ∈ ([] : List Addr) from z) (by simp)
  refine ⟨⟨e0.mod, S.kind, rfl, rfl, Nat.le_refl _, fun y z c h1 h2 => ?_, fun y hy => ?_, fun y c _ h => ?_, fun _ => hd, Around.frames_deeper e0.frames, .inr ⟨rfl, rfl⟩, fun b z => absurd z (noA b), e0.bs, e0.bsz, fun b _ _ => noA b, fun b z => absurd z (noA b), e0.funs, e0.frf⟩,
    rfl, e0.bare, Un.kept hk, ⟨_, x.toInCall.ns, fun i y v h1 h2 h3 => ?_⟩, fun y c h => ⟨_, x.cell y c h⟩, e0.hok.fresh (Nat.le_refl _), fun y c h => ?_, fun p hp => absurd (show p ∈ ([] : List (Addr × Obj)) from hp) (by simp), e0.hok.kept hk, ?_⟩
  · exact name_of_addr x.apart (PySem.mem_of_lookup h1) (PySem.mem_of_lookup h2)
  · have hy : scope.names.lookup y = some .cell ∨ scope.names.lookup y = some .free := hy
    rcases hy with hy | hy
    · exact cell_has hy
    · exact absurd rfl (S.nofree _ (PySem.mem_of_lookup hy))
  · exact Nat.le_of_lt (x.above y c (PySem.mem_of_lookup h))
  · have hi : i < vs.length := by
      unfold start at h2
      by_cases hi : i < vs.length
      · exact hi
      · rw [List.getElem?_append_right (by simpa using hi)] at h2
        rw [List.getElem?_replicate] at h2
        split at h2 <;> cases h2
    have ha : vs[i]? = some v := by
      unfold start at h2
      rw [List.getElem?_append_left (by simpa using hi), List.getElem?_map] at h2
      cases e : vs[i]? with
      | none => rw [e] at h2; cases h2
      | some a => rw [e] at h2; cases h2; rfl
    obtain ⟨u, hu, rv⟩ := r.get ha
    have hp : ps[i]? = some y := by
      rw [← S.pre, List.getElem?_take_of_lt (by omega)]; exact h1
    have ndP : ps.Nodup := by rw [← S.pre]; exact S.nd.sublist (List.take_sublist _ _)
    refine ⟨u, rv, ?_⟩
    rcases S.par y (List.mem_of_getElem? hp) with k | k
    · exact .inl ⟨k, bindL_get ndP hp hu k⟩
    · obtain ⟨c, e⟩ := cell_has (n := s.heap.objs.size + 1) k
      refine .inr ⟨.inl k, c, e, ?_⟩
      have q := x.cell y c e
      rw [bindC_get ndP hp hu (by show scope.names.lookup y ≠ _; rw [k]; decide)] at q
      exact q
  · exact e0.hok.fresh (Nat.le_of_lt (x.above y c (PySem.mem_of_lookup h)))
  · unfold start
    show _ = N.length
    rw [List.length_append, List.length_map, List.length_replicate]
    omega

theorem fn_of {CX : CXT} {P : Program} {w : World} {K : PySem.W.Frag} {mg : Str → Option Value} {base : Heap} {k : Nat} {f : Addr} {name qual : Str} {params : Arguments} {body : List Stmt} {scope : Scope} {dV kV doc pm cdv ct oc : Value} {an od : Option Addr}
    {osl : Array (Option Value)} {N ps : List Str} {sp : Sp} (lk : K.lookup f = some ⟨oc, od, .func (PySem.W.fnOf name qual params body scope dV kV doc pm an cdv ct), osl⟩) (hcd : PySem.W.codeIn K cdv qual = true) (S : FnScope N ps scope)
    (len : ∀ vs H Q E, sp vs H Q E → vs.length = ps.length)
    (hbody : ∀ (A : Around) (outer : List Env) (s : Shared) (H : Hp) (vs : List V) (Q : VK) (E : XK), Room k (A.deeper (envOfC qual scope s.heap.objs.size f cdv)) → sp vs H Q E →
      ∃ t, PSs (cxOf CX P w K mg base N qual scope f cdv A outer s H E) body t ∧ t { nx := fun _ H' => Q .non H', rt := Q } (start N vs) H) :
    FnOk P w K mg base CX (k + 1) f (PySem.W.fnOf name qual params body scope dV kV doc pm an cdv ct) ps sp := by
  refine ⟨len, fun A outer s H args us vs Q E hr e0 hb r hsp => ?_⟩
  have hl := len _ _ _ _ hsp
  have KX : K.In s.heap := e0.mod.kin.keeps fun b o e => (e0.bs b o e).1
  have lim : s.heap.NoLimit := e0.mod.nolimit.keeps fun b o e => (e0.bs b o e).1
  have hkind : ∀ y ∈ ps.zip us, scope.names.lookup y.1 = some .local ∨ (scope.names.lookup y.1 = some .cell ∧ ((cellsFrom (s.heap.objs.size + 1) scope.names []).lookup y.1).isSome = true) := fun ⟨n, v⟩ hy => by
    rcases S.par n (List.of_mem_zip hy).1 with q | q
    · exact .inl q
    · exact .inr ⟨q, PySem.W.cellsFrom_some _ _ _ (.inl q)⟩
  refine codeAny_call_function hr.depth (KX _ _ lk) rfl S.co S.gen rfl (PySem.W.codeRec_of KX hcd) (hb _ _ _ _ ?_)
  refine wpAny_newFunctionEnv_cells S.kind hkind fun env he s1 x => ?_
  subst he
  refine ⟨lim.keeps x.toInCall.keep, codeAny_func ?_⟩
  obtain ⟨t, ht, hq⟩ := hbody A outer s H vs Q E (hr.deeper _) hsp
  have I : Inv (cxOf CX P w K mg base N qual scope f cdv A outer s H E) [] (start N vs) H s1 := inv_start S hr.hd e0 hl r x
  refine wpAny_mono (ht [] s1 (start N vs) H _ I hq) (fun fl s' hs => ?_) fun e s' hs => hs
  have fin : ∀ {σ' : St} {H' : Hp} {v : V} {u : Value}, Inv (cxOf CX P w K mg base N qual scope f cdv A outer s H E) [] σ' H' s' → RelV v u → Q v H' → CE outer P w H s Q u s' :=
    fun {σ' H' v u} J rv q => ⟨v, H', J.os, J.bare, J.base, J.hok, rv, q⟩
  cases fl with
  | ret u =>
    obtain ⟨v, σ', H', J, rv, q⟩ := hs
    exact fin J rv q
  | next =>
    obtain ⟨σ', H', J, q⟩ := hs
    exact fin (v := V.non) (u := Value.none) J rfl q
  | brk =>
    obtain ⟨_, _, _, q⟩ := hs
    exact False.elim q
  | cont =>
    obtain ⟨_, _, _, q⟩ := hs
    exact False.elim q
end L2

namespace L2
open PySem PySem.Spec PyProof.Rows
section
variable {X : Cx} {x : Str} {p pos : Pos} {e : Expr} {es : List Expr} {t : TA} {id T : String} {r : List V → Hp → VK → Prop}

def tCB (r : List V → Hp → VK → Prop) (t : TA) : TE := fun σ H Q => t σ H fun vs H1 => r vs H1 Q
theorem pe_callB (hc : CallR X (.builtin id) r) (hg : Gl X x) (hm : X.mg x = none) (hv : bootBuiltins x = some (.builtin id)) (ha : PA X (e :: es) t) (hn : x ≠ "__name__" := by decide) (hdb : (x == ("__debug__" : Str)) = false := by decide)
    (he : starEach (e :: es) X.env = (false, eval e X.env) :: starEach es X.env := by rfl) (hpl : (backTo pos (starEach es X.env)).any (·.1) = false := by rfl) : PE X (.Call (.Name x p) (e :: es) [] pos) (tCB r t) := by
  intro pins s σ H Q I h
  refine wpAny_Call_Name_kw (ld_blt I hg hm hv ?_ hn hdb)
  exact PyProof.Rows.callWith_builtin1 (thn (ha pos pins s σ H _ I h) fun us s1 ⟨vs, H1, I1, r1, q1⟩ => hc pins s1 σ H1 vs us Q I1 r1 q1) he hpl
theorem pe_callTy (hc : CallR X (.type T) r) (hg : Gl X x) (hm : X.mg x = none) (hv : bootBuiltins x = some (.type T)) (ha : PA X (e :: es) t) (hn : x ≠ "__name__" := by decide) (hdb : (x == ("__debug__" : Str)) = false := by decide)
    (he : starEach (e :: es) X.env = (false, eval e X.env) :: starEach es X.env := by rfl) (hpl : (backTo pos (starEach es X.env)).any (·.1) = false := by rfl) : PE X (.Call (.Name x p) (e :: es) [] pos) (tCB r t) := by
  intro pins s σ H Q I h
  refine wpAny_Call_Name_kw (ld_blt I hg hm hv ?_ hn hdb)
  exact PyProof.Rows.callWith_type1 (thn (ha pos pins s σ H _ I h) fun us s1 ⟨vs, H1, I1, r1, q1⟩ => hc pins s1 σ H1 vs us Q I1 r1 q1) he hpl
end
end L2

namespace HT
open PySem PyProof.Rows

section
open PySem.SeqAt
open PySem.AutoSeq1 (wpAny_loadPart')
open PySem.MeetsSeq PySem.MeetsSeq2 PySem.MeetsSeq3

end

section
variable {prog : Program} {w : World} {A : Around} {E : Value → Shared → Prop} {s : Shared}

/-! ### t[a:b], not the whole -/
def sIx (n d : Nat) : Option Int → Nat
  | none => d
  | some v => if v < 0 then (v + (n : Int)).toNat else min v.toNat n
end
end HT

namespace L2
open PySem PySem.Spec PyProof.Rows

/-! ### the parts of a slice -/
abbrev TO := St → Hp → (Option Int → Hp → Prop) → Prop
def PO (X : Cx) (e : Option Expr) (t : TO) : Prop :=
  ∀ (pins : List (Addr × Obj)) (s : Shared) (σ : St) (H : Hp) (Q : Option Int → Hp → Prop), Inv X pins σ H s → t σ H Q →
    wpAny (model X.prog X.w) X.A (evalPart e X.env) (fun u s' => ∃ o H', Inv X pins σ H' s' ∧ IsPart u o ∧ Q o H') X.xe s
def tNoPart : TO := fun _ H Q => Q none H
def tPart (t : TE) : TO := fun σ H Q => t σ H fun x H1 => ∃ i, x = .int i ∧ Q (some i) H1

section
variable {X : Cx} {e : Expr} {te : TE} {lo hi : Option Expr} {tl th : TO} {pos p2 : Pos}

theorem po_none : PO X none tNoPart := by
  intro pins s σ H Q I h
  rw [evalPart_none]
  exact wpAny_pure ⟨none, H, I, .none, h⟩
theorem po_some (h : PE X e te) : PO X (some e) (tPart te) := by
  intro pins s σ H Q I hw
  rw [evalPart_some]
  refine thn (h pins s σ H _ I hw) fun u s1 ⟨x, H1, I1, r1, q1⟩ => ?_
  obtain ⟨i, rfl, q⟩ := q1
  obtain ⟨t, rfl⟩ := r1
  exact ⟨some i, H1, I1, .int i t, q⟩

def SlR (X : Cx) (r : V → Option Int → Option Int → Hp → VK → Prop) : Prop :=
  ∀ (pins : List (Addr × Obj)) (s : Shared) (σ : St) (H : Hp) (x : V) (v vl vu : Value) (lo hi : Option Int) (sl : Addr) (Q : VK), Inv X pins σ H s → RelV x v → s.heap.IsSliceOf sl vl vu .none → IsPart vl lo → IsPart vu hi → r x lo hi H Q →
    ∃ T id, typeLookup (.type T) "__getitem__" = pure (some (.builtin id)) ∧ s.TypeIs v T ∧ wpAny (model X.prog X.w) X.A (getItem v (.ref sl)) (EP X pins σ Q) X.xe s
theorem SlR.or {r r' : V → Option Int → Option Int → Hp → VK → Prop} (h : SlR X r) (h' : SlR X r') : SlR X (fun x lo hi H Q => r x lo hi H Q ∨ r' x lo hi H Q) := by
  intro pins s σ H x v vl vu lo hi sl Q I rx hs pl pu q
  rcases q with q | q
  · exact h pins s σ H x v vl vu lo hi sl Q I rx hs pl pu q
  · exact h' pins s σ H x v vl vu lo hi sl Q I rx hs pl pu q
def tSl (r : V → Option Int → Option Int → Hp → VK → Prop) (te : TE) (tl th : TO) : TE := fun σ H Q => te σ H fun x H1 => tl σ H1 fun l H2 => th σ H2 fun u H3 => r x l u H3 Q
theorem pe_slice {r : V → Option Int → Option Int → Hp → VK → Prop} (hr : SlR X r) (he : PE X e te) (hl : PO X lo tl) (hu : PO X hi th) : PE X (.Subscript e (.Slice lo hi none p2) pos) (tSl r te tl th) := by
  intro pins s σ H Q I h
  refine Subscript_ (thn (he pins s σ H _ I h) fun v s1 ⟨x, H1, I1, r1, q1⟩ => ?_)
  refine wpAny_Slice (thn (hl pins s1 σ H1 _ I1 q1) fun vl s2 ⟨l, H2, I2, pl, q2⟩ => thn (hu pins s2 σ H2 _ I2 q2) fun vu s3 ⟨u, H3, I3, pu, q3⟩ => ?_)
  rw [evalPart_none]
  refine wpAny_pure ?_
  have I4 : Inv X pins σ H3 { s3 with heap := s3.heap.push { cls := .type "slice", data := .fields #[vl, vu, .none] } } := I3.kept (t' := s3.toks) fun b ob q => Heap.get?_push_of_some _ q
  obtain ⟨T, id, hT, ht, hg⟩ := hr pins { s3 with heap := s3.heap.push { cls := .type "slice", data := .fields #[vl, vu, .none] } } σ H3 x v vl vu l u s3.heap.objs.size Q I4 r1 (Heap.IsSliceOf.new ..) pl pu q3
  show wpAny (model X.prog X.w) X.A (subscriptTail e (.Slice lo hi none p2) v (.ref s3.heap.objs.size)) (EP X pins σ Q) X.xe { s3 with heap := s3.heap.push { cls := .type "slice", data := .fields #[vl, vu, .none] } }
  exact tail_any (ops := [.ref s3.heap.objs.size, v]) ht hT hg (by with_unfolding_all rfl)

def cutV (xs : List V) (lo hi : Option Int) : List V := (xs.drop (HT.sIx xs.length 0 lo)).take (HT.sIx xs.length xs.length hi - HT.sIx xs.length 0 lo)
theorem cutV_length (xs : List V) (lo hi : Option Int) : (cutV xs lo hi).length ≤ xs.length := by
  unfold cutV
  rw [List.length_take, List.length_drop]
  omega
/-! ### t < u, t + u -/
end
end L2

namespace L2
open PySem PySem.Spec PyProof.Rows

/-! ### places -/
def ixN (n : Nat) (i : Int) : Option Nat := if 0 ≤ i then (if i < n then some i.toNat else none) else if -(n : Int) ≤ i then some (i + n).toNat else none
def atI {α : Type} (xs : List α) (i : Int) : Option α := (ixN xs.length i).bind fun j => xs[j]?
theorem ixN_seq {n : Nat} {i : Int} {j : Nat} (h : ixN n i = some j) : seqIndex? i n = some j ∧ j < n ∧ -(n : Int) ≤ i ∧ i < n := by
  unfold ixN at h
  by_cases h0 : 0 ≤ i
  · rw [if_pos h0] at h
    by_cases h1 : i < n
    · rw [if_pos h1] at h
      have e : i.toNat = j := Option.some.inj h
      exact ⟨by rw [seqIndex_of h0 h1, e], by omega, by omega, h1⟩
    · rw [if_neg h1] at h; cases h
  · rw [if_neg h0] at h
    by_cases h1 : -(n : Int) ≤ i
    · rw [if_pos h1] at h
      have e : (i + n).toNat = j := Option.some.inj h
      exact ⟨by rw [seqIndex_neg (by omega) h1, e], by omega, h1, by omega⟩
    · rw [if_neg h1] at h; cases h
theorem atI_get {α : Type} {xs : List α} {i : Int} {v : α} (h : atI xs i = some v) : ∃ j, seqIndex? i xs.length = some j ∧ xs[j]? = some v ∧ j < xs.length ∧ -(xs.length : Int) ≤ i ∧ i < xs.length := by
  unfold atI at h
  cases e : ixN xs.length i with
  | none => rw [e] at h; cases h
  | some j =>
    rw [e] at h
    obtain ⟨h1, h2, h3, h4⟩ := ixN_seq e
    exact ⟨j, h1, h, h2, h3, h4⟩
/-! ### what may be subscripted -/
def PlainIx (b : Expr) : Prop := ∀ o i, subscripted b false o i = operate [o, i] (getItem o i)
def IxR (X : Cx) (r : R2) : Prop :=
  ∀ (value slice : Expr) (pins : List (Addr × Obj)) (s : Shared) (σ : St) (H : Hp) (x y : V) (v u : Value) (Q : VK), Inv X pins σ H s → RelV x v → RelV y u → r x y H Q →
    subscripted slice false v u = operate [v, u] (getItem v u) → wpAny (model X.prog X.w) X.A (subscriptTail value slice v u) (EP X pins σ Q) X.xe s
def MtR (X : Cx) (id : String) (r : V → List V → Hp → VK → Prop) : Prop :=
  ∀ (pins : List (Addr × Obj)) (s : Shared) (σ : St) (H : Hp) (x : V) (xs : List V) (v : Value) (us : List Value) (Q : VK), Inv X pins σ H s → RelV x v → Vals xs us → r x xs H Q →
    wpAny (model X.prog X.w) X.A (call (.builtin id) (v :: us)) (EP X pins σ Q) X.xe s
section
variable {X : Cx} {a b : Expr} {ta tb : TE} {pos : Pos}
theorem IxR.or {r r' : R2} (h : IxR X r) (h' : IxR X r') : IxR X (fun x y H Q => r x y H Q ∨ r' x y H Q) := by
  intro value slice pins s σ H x y v u Q I rx ry q hs
  rcases q with q | q
  · exact h value slice pins s σ H x y v u Q I rx ry q hs
  · exact h' value slice pins s σ H x y v u Q I rx ry q hs
theorem MtR.or {id : String} {r r' : V → List V → Hp → VK → Prop} (h : MtR X id r) (h' : MtR X id r') : MtR X id (fun x xs H Q => r x xs H Q ∨ r' x xs H Q) := by
  intro pins s σ H x xs v us Q I rx rs q
  rcases q with q | q
  · exact h pins s σ H x xs v us Q I rx rs q
  · exact h' pins s σ H x xs v us Q I rx rs q
theorem pe_ix {r : R2} (hr : IxR X r) (ha : PE X a ta) (hb : PE X b tb) (hs : PlainIx b) : PE X (.Subscript a b pos) (tOp r ta tb) := by
  intro pins s σ H Q I h
  exact Subscript_ (binT ha hb I h fun v u s2 x y H2 I2 rx ry q => hr a b pins s2 σ H2 x y v u Q I2 rx ry q (hs _ _))

def rIxL (K : PySem.W.Frag) : R2 := fun x y H Q => ∃ p xs i v, x = .ref p ∧ y = .int i ∧ SqL K H p xs ∧ atI xs i = some v ∧ Q v H
def rIxT (K : PySem.W.Frag) : R2 := fun x y H Q => ∃ p xs i v, x = .ref p ∧ y = .int i ∧ SqT K H p xs ∧ atI xs i = some v ∧ Q v H
def rIxS : R2 := fun x y H Q => ∃ z i c, x = .str z ∧ y = .int i ∧ z.length ≤ sizeLine ∧ atI z.cps.toList i = some c ∧ Q (.str ⟨#[c]⟩) H
theorem ix_list : IxR X (rIxL X.K) := by
  intro value slice pins s σ H x y v u Q I rx ry h hs
  obtain ⟨p, xs, i, z, rfl, rfl, hq, he, q⟩ := h
  cases rx
  obtain ⟨t, rfl⟩ := ry
  obtain ⟨its, r, pl, hz⟩ := I.list hq
  obtain ⟨j, h1, h2, h3, h4, h5⟩ := atI_get he
  obtain ⟨w, ew, rw'⟩ := r.get h2
  have hl := r.length
  have hn := line63
  have fin : EP X pins σ Q w s := ⟨z, H, I, rw', q⟩
  by_cases h0 : 0 ≤ i
  · have hj : i.toNat = j := by
      rw [seqIndex_of h0 h5] at h1
      exact Option.some.inj h1
    exact item_listR pl.isList h0 (by omega) (by rw [hj]; simpa using ew) fin hs
  · have hj : (i + (its.toArray.size : Int)).toNat = j := by
      rw [seqIndex_neg (by omega) h4] at h1
      rw [List.size_toArray, ← hl]
      exact Option.some.inj h1
    exact subscriptTail_builtinR (x := w) pl.isList.typeIs slot_list_getitem.lookup
      (wpAny_getItem_list_neg (Q := fun r s' => r = w ∧ EP X pins σ Q r s') pl.isList (by omega) (by rw [List.size_toArray] <;> omega) (by omega) (by rw [hj]; simpa using ew) ⟨rfl, fin⟩) hs
theorem ix_tup : IxR X (rIxT X.K) := by
  intro value slice pins s σ H x y v u Q I rx ry h hs
  obtain ⟨p, xs, i, z, rfl, rfl, hq, he, q⟩ := h
  cases rx
  obtain ⟨t, rfl⟩ := ry
  obtain ⟨its, r, pl, hz⟩ := I.tuple hq
  obtain ⟨j, h1, h2, h3, h4, h5⟩ := atI_get he
  obtain ⟨w, ew, rw'⟩ := r.get h2
  have hl := r.length
  have hn := line63
  have fin : EP X pins σ Q w s := ⟨z, H, I, rw', q⟩
  exact subscriptTail_builtinR (x := w) pl.typeIs slot_tuple_getitem.lookup
    (getItem_tuple (j := j) (Q := fun r s' => r = w ∧ EP X pins σ Q r s') pl (by omega) (by omega) (by rw [List.size_toArray, ← hl]; exact h1) (by simpa using ew) ⟨rfl, fin⟩) hs
theorem ix_str : IxR X rIxS := by
  intro value slice pins s σ H x y v u Q I rx ry h hs
  obtain ⟨z, i, c, rfl, rfl, hz, he, q⟩ := h
  obtain ⟨t, rfl⟩ := rx
  obtain ⟨t', rfl⟩ := ry
  obtain ⟨j, h1, h2, h3, h4, h5⟩ := atI_get he
  have hl : z.cps.toList.length = z.length := by simp [Str.length]
  rw [hl] at h1 h4 h5
  have hn := line63
  exact tail_any (typeIs_str s z t) slot_str_getitem.lookup (getItem_str (c := c) (by
    have e1 : decide (i < -(2 ^ 63 : Int)) = false := decide_eq_false (by omega)
    have e2 : decide (i ≥ 2 ^ 63) = false := decide_eq_false (by omega)
    rw [e1, e2, Bool.or_false]) (by rw [h1]; simpa using h2) ⟨.str ⟨#[c]⟩, H, I.tok _, ⟨_, rfl⟩, q⟩) hs
def rIx (K : PySem.W.Frag) : R2 := fun x y H Q => rIxL K x y H Q ∨ rIxT K x y H Q ∨ rIxS x y H Q
theorem ix_seq : IxR X (rIx X.K) := ix_list.or (ix_tup.or ix_str)

/-! ### xs[i] = v, any sign -/
theorem Inv.lst {pins : List (Addr × Obj)} {σ : St} {H : Hp} {s : Shared} {p : Addr} {xs : List V} (I : Inv X pins σ H s) (h : H p = some (.lst xs)) :
    ∃ (its : List Value) (n : Nat), Vals xs its ∧ s.heap.get? p = some { cls := .type "list", data := .seq its.toArray n } ∧ xs.length ≤ sizeLine := by
  obtain ⟨z, its, n, r, e⟩ := I.hok p _ h
  exact ⟨its, n, r, e, z⟩
/-! ### slices -/
theorem slice_bounds (lo hi : Option Int) (n : Nat) : (sliceBounds lo hi none n).1 = ((HT.sIx n 0 lo : Nat) : Int) ∧ (sliceBounds lo hi none n).2.1 = ((HT.sIx n n hi : Nat) : Int) ∧ (sliceBounds lo hi none n).2.2 = 1 := by
  refine ⟨?_, ?_, rfl⟩
  · cases lo with
    | none => simp [sliceBounds, HT.sIx]
    | some i =>
      simp only [sliceBounds, HT.sIx, Option.getD_none, show (1 : Int) > 0 by decide, if_true]
      by_cases h : i < 0
      · simp only [h, if_true] <;> omega
      · simp only [h, if_false] <;> omega
  · cases hi with
    | none => simp [sliceBounds, HT.sIx]
    | some i =>
      simp only [sliceBounds, HT.sIx, Option.getD_none, show (1 : Int) > 0 by decide, if_true]
      by_cases h : i < 0
      · simp only [h, if_true] <;> omega
      · simp only [h, if_false] <;> omega
theorem slicePick_cut (its : List Value) (lo hi : Option Int) : slicePick its.toArray lo hi none = ((its.drop (HT.sIx its.length 0 lo)).take (HT.sIx its.length its.length hi - HT.sIx its.length 0 lo)).toArray := by
  obtain ⟨h1, h2, h3⟩ := slice_bounds lo hi its.toArray.size
  unfold slicePick
  rw [h1, h2, h3]
  simp only [sliceRange_one, pick_run, List.size_toArray] <;> rfl
def rSlL (K : PySem.W.Frag) : V → Option Int → Option Int → Hp → VK → Prop := fun x lo hi H Q => ∃ a xs, x = .ref a ∧ SqL K H a xs ∧ ∀ p, H p = none → Q (.ref p) (upd H p (.lst (cutV xs lo hi)))
theorem sl_list : SlR X (rSlL X.K) := by
  intro pins s σ H x v vl vu lo hi sl Q I rx hs pl pu h
  obtain ⟨a, xs, rfl, hx, q⟩ := h
  cases rx
  obtain ⟨its, r, ht, hz⟩ := I.list hx
  have hlen := r.length
  refine ⟨"list", _, slot_list_getitem.lookup, ht.isList.typeIs, ?_⟩
  refine wpAny_getItem_list_slice ht.isList hs pl pu .none (by simp) ?_ (by rw [List.size_toArray] <;> omega)
  rw [slicePick_cut, ← hlen]
  refine ⟨.ref s.heap.objs.size, _, I.laid (t' := s.toks) (o := .lst (cutV xs lo hi)) (fun b ob q => Heap.get?_push_of_some _ q) (Nat.le_refl _) ?_, rfl, q _ (I.hok.fresh (Nat.le_refl _))⟩
  exact ⟨Nat.le_trans (cutV_length xs lo hi) hz, _, 0, (r.drop (HT.sIx xs.length 0 lo)).take (HT.sIx xs.length xs.length hi - HT.sIx xs.length 0 lo), Heap.get?_push_size _ rfl⟩

/-! ### in, not in: flat items -/
def flatV : V → Bool
  | .non => true
  | .bl _ => true
  | .int _ => true
  | .str _ => true
  | _ => false
def eqV : V → V → Bool
  | .non, .non => true
  | .bl a, .bl b => a == b
  | .bl a, .int b => (if a then 1 else 0) == b
  | .int a, .bl b => a == (if b then 1 else 0)
  | .int a, .int b => a == b
  | .str a, .str b => a == b
  | _, _ => false
theorem eqAt_V {A : Around} {s : Shared} {y x : V} {u v : Value} (ry : RelV y u) (rx : RelV x v) (fy : flatV y = true) (fx : flatV x = true) : SeqAt.EqAt A s u v (eqV y x) := by
  cases y with
  | non =>
    cases ry
    cases x with
    | non => cases rx; exact SeqAt.EqAt.same _
    | bl b => cases rx; exact SeqAt.EqAt.none_bool b
    | int b => obtain ⟨t, rfl⟩ := rx; exact SeqAt.EqAt.none_int b t
    | str b => obtain ⟨t, rfl⟩ := rx; exact SeqAt.EqAt.none_str b t
    | _ => exact absurd (show false = true from fx) Bool.false_ne_true
  | bl a =>
    cases ry
    cases x with
    | non => cases rx; exact SeqAt.EqAt.bool_none a
    | bl b => cases rx; exact SeqAt.EqAt.bool_bool a b
    | int b => obtain ⟨t, rfl⟩ := rx; exact SeqAt.EqAt.bool_int a b t
    | str b => obtain ⟨t, rfl⟩ := rx; exact SeqAt.EqAt.bool_str a b t
    | _ => exact absurd (show false = true from fx) Bool.false_ne_true
  | int a =>
    obtain ⟨t', rfl⟩ := ry
    cases x with
    | non => cases rx; exact SeqAt.EqAt.int_none a t'
    | bl b => cases rx; exact SeqAt.EqAt.int_bool a t' b
    | int b => obtain ⟨t, rfl⟩ := rx; exact SeqAt.EqAt.int_int a t' b t
    | str b => obtain ⟨t, rfl⟩ := rx; exact SeqAt.EqAt.int_str a t' b t
    | _ => exact absurd (show false = true from fx) Bool.false_ne_true
  | str a =>
    obtain ⟨t', rfl⟩ := ry
    cases x with
    | non => cases rx; exact SeqAt.EqAt.str_none a t'
    | bl b => cases rx; exact SeqAt.EqAt.str_bool a t' b
    | int b => obtain ⟨t, rfl⟩ := rx; exact SeqAt.EqAt.str_int a t' b t
    | str b => obtain ⟨t, rfl⟩ := rx; exact SeqAt.EqAt.str_str a t' b t
    | _ => exact absurd (show false = true from fx) Bool.false_ne_true
  | _ => exact absurd (show false = true from fy) Bool.false_ne_true
theorem op_notIn_str : OpR X (compareOp .NotIn) (fun x y H Q => ∃ i j, x = .str i ∧ y = .str j ∧ Q (.bl (!(!(Builtin.Str.occurrences j i 0 j.length 1).isEmpty))) H) := by
  intro pins s σ H x y v u Q I rx ry h
  obtain ⟨i, j, rfl, rfl, q⟩ := h
  obtain ⟨t, rfl⟩ := rx
  obtain ⟨t', rfl⟩ := ry
  exact notIn_str ⟨.bl _, H, I, rfl, q⟩

/-! ### len, list(x), tuple(x) of any list or tuple that is read -/
theorem call_len_str : CallR X (.builtin "len") (fun xs H Q => ∃ z, xs = [.str z] ∧ z.length ≤ sizeLine ∧ Q (.int z.length) H) := by
  intro pins s σ H xs us Q I r h
  obtain ⟨z, rfl, hz, q⟩ := h
  obtain ⟨u, rfl, t, rfl⟩ := vals1 r
  have hn := line63
  exact len_str (by omega) ⟨.int z.length, H, I.tok _, ⟨_, rfl⟩, q⟩
theorem CallR.or {f : Value} {r r' : List V → Hp → VK → Prop} (h : CallR X f r) (h' : CallR X f r') : CallR X f (fun xs H Q => r xs H Q ∨ r' xs H Q) := by
  intro pins s σ H xs us Q I rs q
  rcases q with q | q
  · exact h pins s σ H xs us Q I rs q
  · exact h' pins s σ H xs us Q I rs q
/-! ### the call of a builtin's method: o.m(..) -/
def tyV (K : PySem.W.Frag) (T : String) (x : V) (H : Hp) : Prop := match x with
  | .str _ => T = "str"
  | .int _ => T = "int"
  | .ref p => (T = "list" ∧ ∃ xs, SqL K H p xs) ∨ (T = "tuple" ∧ ∃ o, K.lookup p = some o ∧ o.cls = .type "tuple" ∧ o.dict = none) ∨
      (T = "dict" ∧ ((∃ kvs, H p = some (.dK kvs)) ∨ ∃ kvs, H p = some (.dT kvs))) ∨ (T = "set" ∧ ∃ S n, H p = some (.set S n))
  | _ => False
theorem tyV_is {pins : List (Addr × Obj)} {σ : St} {H : Hp} {s : Shared} {T : String} {x : V} {v : Value} (I : Inv X pins σ H s) (r : RelV x v) (ty : tyV X.K T x H) :
    s.TypeIs v T ∧ ∀ a, v = .ref a → ∃ ob, s.heap.get? a = some ob ∧ ob.dict = none := by
  cases x with
  | str z =>
    obtain ⟨t, rfl⟩ := r
    cases (show T = "str" from ty)
    exact ⟨typeIs_str s z t, fun _ e => nomatch e⟩
  | int i =>
    obtain ⟨t, rfl⟩ := r
    cases (show T = "int" from ty)
    exact ⟨typeIs_int s i t, fun _ e => nomatch e⟩
  | ref p =>
    cases r
    rcases ty with ⟨rfl, xs, hq⟩ | ⟨rfl, o, hk, hc, hd⟩ | ⟨rfl, hk⟩ | ⟨rfl, S, n, hk⟩
    · obtain ⟨its, _, pl, _⟩ := I.list hq
      refine ⟨pl.isList.typeIs, fun a e => ?_⟩
      cases e
      obtain ⟨o, n, e, c, hd, _⟩ := pl
      exact ⟨o, e, hd⟩
    · refine ⟨⟨o, I.kIn p o hk, hc⟩, fun a e => ?_⟩
      cases e
      exact ⟨o, I.kIn _ o hk, hd⟩
    · have z : ∃ o, s.heap.get? p = some o ∧ o.ExactDict := by
        rcases hk with ⟨kvs, hk⟩ | ⟨kvs, hk⟩
        · obtain ⟨_, _, _, _, o, _, _, e, ex, _⟩ := I.hok p _ hk
          exact ⟨o, e, ex⟩
        · obtain ⟨_, _, _, _, o, _, _, e, ex, _⟩ := I.hok p _ hk
          exact ⟨o, e, ex⟩
      obtain ⟨o, e, ex⟩ := z
      refine ⟨⟨o, e, ex.1⟩, fun a e2 => ?_⟩
      cases e2
      exact ⟨o, e, ex.2.1⟩
    · obtain ⟨o, _, _, _, e, ex, _⟩ := I.hok p _ hk
      refine ⟨⟨o, e, ex.1⟩, fun a e2 => ?_⟩
      cases e2
      exact ⟨o, e, ex.2.1⟩
  | _ => exact False.elim ty
def tBM (K : PySem.W.Frag) (T : String) (r : V → List V → Hp → VK → Prop) (to : TE) (t : TA) : TE := fun σ H Q => to σ H fun x H1 => tyV K T x H1 ∧ t σ H1 fun xs H2 => r x xs H2 Q
variable {o e : Expr} {es : List Expr} {to : TE} {t : TA} {name : Str} {apos cpos : Pos} {T id : String} {r : V → List V → Hp → VK → Prop}
theorem pe_bm (pa : PlainAttrs T) (slot : Slot T name id) (hty : typeOf (.builtin id) = pure (.type "method_descriptor")) (hm : MtR X id r) (ho : PE X o to) (ha : PA X (e :: es) t)
    (hbase : attributeBase o name X.env (eval o X.env) = eval o X.env := by rfl)
    (hfew : ((backTo cpos (starEach (e :: es) X.env)).all (fun x => !x.1) && (backToKw cpos (keywordEach [] X.env)).all (fun x => x.1.isSome)
      && decide ((e :: es).length + ([] : List Keyword).length + (if ([] : List Keyword).isEmpty then 0 else 1) < 30)) = true := by rfl)
    (hline : (apos.endLine == cpos.line) = true := by rfl) (hs : starEach (e :: es) X.env = (false, eval e X.env) :: starEach es X.env := by rfl) (hplain : (backTo cpos (starEach es X.env)).any (·.1) = false := by rfl) :
    PE X (.Call (.Attribute o name apos) (e :: es) [] cpos) (tBM X.K T r to t) := by
  intro pins s σ H Q I h
  refine wpAny_Call_method_late hbase hfew hline rfl (thn (ho pins s σ H _ I h) fun v s1 ⟨x, H1, I1, r1, ty, q1⟩ => ?_)
  obtain ⟨h1, h2⟩ := tyV_is I1 r1 ty
  refine ⟨T, id, pa, slot, hty, h1, h2, ?_⟩
  have hA := ha cpos pins s1 σ H1 _ I1 q1
  rw [hs] at hA ⊢
  refine Calls.callWith_builtin (by show (false || (backTo cpos (starEach es X.env)).any (·.1)) = false; rw [hplain] <;> rfl) (Calls.evalArgs_plain ?_)
  exact thn hA fun us s2 ⟨vs, H2, I2, r2, q2⟩ => hm pins s2 σ H2 x vs v us Q I2 r1 r2 q2
/- xs.append(e), list.index on a module's tuple .. are MtR facts of 06m -/
end
end L2

namespace L2
open PySem PySem.Spec PyProof.Rows

def MtM (X : Cx) (id : String) (r : V → List V → Hp → VK → Prop) : Prop :=
  ∀ (pins : List (Addr × Obj)) (s : Shared) (σ : St) (H : Hp) (x : V) (xs : List V) (v : Value) (us : List Value) (Q : VK), Inv X pins σ H s → RelV x v → Vals xs us → r x xs H Q →
    wpAny (model X.prog X.w) X.A (call (.builtin id) (v :: us)) (EP X pins σ Q) X.xe s

/-! ### lists of values -/
theorem Vals.one : ∀ {x : V} {us : List Value}, Vals [x] us → ∃ u, us = [u] ∧ RelV x u
  | _, _, .cons r .nil => ⟨_, rfl, r⟩
theorem Vals.two : ∀ {x y : V} {us : List Value}, Vals [x, y] us → ∃ u v, us = [u, v] ∧ RelV x u ∧ RelV y v
  | _, _, _, .cons r (.cons q .nil) => ⟨_, _, rfl, r, q⟩
theorem Vals.zero : ∀ {us : List Value}, Vals [] us → us = []
  | _, .nil => rfl
theorem Vals.reverse {xs : List V} {us : List Value} (h : Vals xs us) : Vals xs.reverse us.reverse := by
  induction h with
  | nil => exact .nil
  | cons r t ih => rw [List.reverse_cons, List.reverse_cons]; exact Vals.append ih (.cons r .nil)
section
variable {X : Cx} {pins : List (Addr × Obj)} {σ : St} {H : Hp} {s : Shared} {l b : Addr} {xs ys zs : List V}

/-! ### the two steps: a tracked list is rewritten, a new list is laid -/
theorem Inv.lset {its its' : List Value} {n : Nat} {f : Array Value → Array Value} {t' : Nat} (I : Inv X pins σ H s) (hH : H l = some (.lst xs))
    (e : s.heap.get? l = some { cls := .type "list", data := .seq its.toArray n }) (hf : f its.toArray = its'.toArray) (hv : Vals ys its') (hz : ys.length ≤ sizeLine) :
    Inv X pins σ (upd H l (.lst ys)) { s with heap := s.heap.update l (Obj.mapSeq f), toks := t' } := by
  have q := PySem.IsL.update e f
  rw [hf] at q
  refine I.write (x := l) (e := l) (by rw [hH]; exact trivial) (.inl rfl) (fun b' u hb hu => (Heap.get?_update_other s.heap (Obj.mapSeq f) (Ne.symm hb)).trans hu) ⟨_, q⟩ ?_
  exact ⟨hz, its', _, hv, q⟩
theorem Inv.lnew {its : List Value} {t' : Nat} (I : Inv X pins σ H s) (hv : Vals ys its) (hz : ys.length ≤ sizeLine) :
    Inv X pins σ (upd H s.heap.objs.size (.lst ys)) { s with heap := s.heap.push { cls := .type "list", data := .seq its.toArray }, toks := t' } :=
  I.laid (fun _ _ q => Heap.get?_push_of_some _ q) (Nat.le_refl _) ⟨hz, its, 0, hv, Heap.get?_push_size _ rfl⟩
theorem Inv.fresh (I : Inv X pins σ H s) : H s.heap.objs.size = none := I.hok.fresh (Nat.le_refl _)
theorem Inv.lstM (I : Inv X pins σ H s) (hH : H l = some (.lst xs)) : xs.length ≤ sizeLine ∧ ∃ (its : List Value) (n : Nat), Vals xs its ∧ xs.length = its.length ∧ s.heap.get? l = some { cls := .type "list", data := .seq its.toArray n } := by
  obtain ⟨z, its, n, r, e⟩ := I.hok l _ hH
  exact ⟨z, its, n, r, r.length, e⟩

end

section
variable {X : Cx}

/-! ### methods -/
def rAppend : V → List V → Hp → VK → Prop := fun x vs H Q => ∃ l xs y, x = .ref l ∧ vs = [y] ∧ H l = some (.lst xs) ∧ xs.length < sizeLine ∧ Q .non (upd H l (.lst (xs ++ [y])))
theorem mt_append : MtM X "list.append" rAppend := by
  intro pins s σ H x vs v us Q I rx rv h
  obtain ⟨l, xs, y, rfl, rfl, hH, hz, q⟩ := h
  cases rx
  obtain ⟨u, rfl, ru⟩ := rv.one
  obtain ⟨z, its, n, r, hl, e⟩ := I.lstM hH
  refine call_meets F.slot_list_append ⟨_, e, rfl⟩ F.entry_list_append (F.args_list_append_2 _ _) (PySem.list_append l its.toArray n u (by rw [List.size_toArray]; omega)) ⟨e, ?_⟩
  refine ⟨.non, _, I.lset (its' := its ++ [u]) hH e (by simp) (r.append (.cons ru .nil)) ?_, rfl, q⟩
  rw [List.length_append, List.length_singleton]
  omega

/-! ### list + list, list += list, list * int -/
/-! ### del xs[i] -/
end

/-! ### xs[a:b] = ys -/
section
variable {prog : Program} {w : World} {A : Around} {E : Value → Shared → Prop} {s : Shared}
end

section
variable {X : Cx}
end
end L2

namespace Att
open PySem PySem.W PySem.Calls PyProof.Rows

/-! ### the script -/
theorem ints_of_wellAll {P : Params} {h : Heap} : ∀ (ns : List Int) (vs : List Value), WellAll P h vs (ns.map WData.int) → IntsAre vs ns := by
  intro ns
  induction ns with
  | nil =>
    intro vs w
    rw [List.map_nil] at w
    cases w
    exact .nil
  | cons n ns ih =>
    intro vs w
    rw [List.map_cons] at w
    cases w with
    | cons a b =>
      cases a
      exact .cons _ _ (ih _ b)

theorem script_of {l : OpenLaw} {n : Nat} (hn : l.most = some n) {P : Params} {h : Heap} {args : List WData} {vals : List Value}
    (hpre : l.row.toRowW.claim.pre args = true) (hwl : WellAll P h vals args) :
    ∃ a vs ns, vals = [Value.ref a] ∧ args = [WData.list (ns.map WData.int)] ∧ h.get? a = some { cls := .type "list", data := .seq vs.toArray } ∧ IntsAre vs ns ∧ ns.length ≤ n := by
  have hsh : WShape.hasAll [] args [.list .int] = true := (pre_splitW hpre).1
  have hc : l.pre.holds [] { args := args } = true := (pre_splitW hpre).2
  obtain ⟨d, r, rfl, h1, h2⟩ := hasAllW_cons hsh
  obtain rfl := hasAllW_nil h2
  obtain ⟨xs, rfl, h3⟩ := hasW_list h1
  obtain ⟨ns, rfl⟩ := items_int h3
  have hlen : ns.length ≤ n := by
    unfold OpenLaw.pre at hc
    have h4 : (WTm.not (.lt (.lit (.int (n : Int))) (.len (.arg 0)))).holds [] { args := [.list (ns.map .int)] } = true := by
      have h4 := (holds_andW hc).1
      rw [hn] at h4
      exact h4
    have h5 := condW_of h4 (w_not (w_lt w_lit (w_len_list (w_arg rfl))))
    rw [List.length_map] at h5
    refine Nat.le_of_not_lt fun q => ?_
    have q' : (n : Int) < ((ns.length : Nat) : Int) := by omega
    first
      | (rw [decide_eq_true q'] at h5; exact absurd h5 (by decide))
      | (simp at h5; omega)
  cases hwl with
  | cons w1 w2 =>
    cases w2
    cases w1 with
    | list ho hall => exact ⟨_, _, ns, rfl, rfl, ho, ints_of_wellAll ns _ hall, hlen⟩

theorem post_true (l : OpenLaw) (args : List WData) : l.row.toRowW.claim.post args (.bool true) args = true :=
  postW_of (r := l.row.toRowW) (X := (true == true))
    (show WShape.has [] (.bool true) .bool = true by first | rfl | decide | simp [WShape.has, WShape.arms, WShape.armsAll])
    (show (WTm.eq .res (.lit (.bool true))).value [] { args := args, res := some (.bool true), after := args } = some (.bool (true == true)) from w_eq_bool (w_res rfl) w_lit) rfl

/-! ### the attachment: holds_open's last premise (the goal 'hc' behind k_head) from a wpAny of the law's body -/
theorem attach_call {l : OpenLaw} {n : Nat} {q : Program} {loose : List Str} {XP : (Str → Option Value) → Heap → Prop} {YP : World → Heap → Prop} {d : DefRec}
    (hn : l.most = some n) (hdf : d.params.defaults = [])
    (call : ∀ (w : World) (s₀ s₁ : Shared) (mg mb : Str → Option Value) (fa : Addr) (o : Obj) (pm cd doc : Value) (a : Addr) (vs : List Value) (ns : List Int),
      Ground q loose [] XP w s₀ mg mb s₁.heap → YP w s₁.heap →
      s₁.heap.get? fa = some o → o.data = .func (docDef d.name d.params d.body d.scope pm cd doc) → s₁.heap.CodeRec cd d.name → mg d.name = some (.ref fa) →
      s₁.heap.get? a = some { cls := .type "list", data := .seq vs.toArray } → IntsAre vs ns → ns.length ≤ n → s₁.gens = #[] →
      codeAny (model l.prog w) callerA (.call (.ref fa) ⟨[.ref a], []⟩) (fun r s' => r = .ok (.ret (.bool true)) ∧ OldK s₁.heap s'.heap ∧ s'.os = s₁.os ∧ AllBare s'.gens) s₁) :
    WalkO q loose XP YP l.row.toRowW d [] (fun f vs => PySem.call f vs) := by
  intro w s₀ s₁ mg mb G Y fa o pm cd doc dV kV ho hd hcd hD hmg hg args vals as hpre hlay hrd hwl hlo
  obtain rfl : dV = .none := Dflts.none hD hdf
  obtain rfl : kV = .none := Dflts.noKw hD
  obtain ⟨a, vs, ns, rfl, rfl, hobj, hints, hlen⟩ := script_of hn hpre hwl
  refine enter_call (codeAny_mono (call w s₀ s₁ mg mb fa o pm cd doc a vs ns G Y ho (fd_plain hd) hcd hmg hobj hints hlen hg) fun r s' hq => ?_)
  obtain ⟨rfl, h2, h3, h4⟩ := hq
  exact ⟨.inl ⟨.bool true, .bool true, [], rfl, fun _ => rfl, .bool true, post_true l _, fun _ => ⟨List.Pairwise.nil, fun _ hm => (nomatch hm)⟩⟩, h2, h3, h4⟩

/-! ### rules over ANY heap (no ledger) from facts about the written part K: the library's own take a ledger (News) for what they write -/
section
variable {prog : Program} {w : World} {A : Around} {E : Value → Shared → Prop} {s : Shared} {K : Frag}

/-! the whole heap as the ledger: makes every rule that writes through a ledger a rule over any heap -/
end
end Att

namespace L2
open PySem PySem.Spec PyProof.Rows

theorem vals_ints : ∀ {vs : List Value} {ns : List Int}, IntsAre vs ns → Vals (ns.map V.int) vs
  | _, _, .nil => .nil
  | _, _, .cons n t h => .cons ⟨t, rfl⟩ (vals_ints h)

def Only (H : Hp) : Prop := ∀ b, H b = none ∨ ∃ o xs, H b = some (.frz o (.lst xs))

theorem law_call {P : Program} {w : World} {K : PySem.W.Frag} {mg mb : Str → Option Value} {CX : CXT} {k : Nat} {fa a : Addr} {fd : FuncData} {x : Str} {sp : Sp} {s₁ : Shared} {vs : List Value} {ns : List Int}
    (KX : K.In s₁.heap) (hns : s₁.heap.Ns mainGlobals mg) (hb : s₁.heap.Ns builtinsNs mb) (hbb : ∀ x : Str, x ≠ "__name__" → mb x = bootBuiltins x) (hlim : s₁.heap.NoLimit) (hg : s₁.gens = #[])
    (ha : s₁.heap.get? a = some { cls := .type "list", data := .seq vs.toArray }) (hi : IntsAre vs ns) (hl : ns.length ≤ sizeLine) (hr : Room k callerA)
    (F : ∀ base : Heap, K.In base → base.Ns mainGlobals mg → FnOk P w K mg base CX k fa fd [x] sp) (hbind : ∀ (s : Shared) (u : Value), BindsTo s fd ⟨[u], []⟩ [(x, u)])
    (hsp : ∀ H : Hp, Only H → SqL K H a (ns.map V.int) → sp [.ref a] H (fun v _ => v = .bl true) fun _ _ _ => False)
    (hCX : ∀ H e s', CX [] H s₁ (fun _ _ _ => False) e s' → False) :
    codeAny (model P w) callerA (.call (.ref fa) ⟨[.ref a], []⟩) (fun r s' => r = .ok (.ret (.bool true)) ∧ OldK s₁.heap s'.heap ∧ s'.os = s₁.os ∧ AllBare s'.gens) s₁ := by
  have rv := vals_ints hi
  have lenV := hi.length
  -- from an abstract heap in which nothing but the script may be tracked
  have core : ∀ H : Hp, Only H → SqL K H a (ns.map V.int) → HOk P w H s₁.heap → (∀ b, H b ≠ none → b = a) → (H a ≠ none → K.lookup a = none) →
      codeAny (model P w) callerA (.call (.ref fa) ⟨[.ref a], []⟩) (fun r s' => r = .ok (.ret (.bool true)) ∧ OldK s₁.heap s'.heap ∧ s'.os = s₁.os ∧ AllBare s'.gens) s₁ := by
    intro H hO hS hok hA hK
    have base_of : ∀ {b : Addr} {o : Obj}, s₁.heap.get? b = some o → H b = none → (hidT s₁.heap H).get? b = some o := fun e n => hidT_get e n
    have noA : ∀ {b : Addr} {o : Obj} {es : Array DictEntry} {ep : Nat}, s₁.heap.get? b = some o → o.data = .dict es ep → H b = none := fun {b o es ep} e d => by
      cases q : H b with
      | none => rfl
      | some u =>
        have e' : b = a := hA b (by rw [q]; simp)
        subst e'
        rw [ha] at e; cases e
        have d' : Data.seq vs.toArray _ = Data.dict es ep := d
        cases d'
    have nsK : ∀ {b : Addr} {m : Str → Option Value}, s₁.heap.Ns b m → (hidT s₁.heap H).Ns b m := fun {b m} ⟨o, es, ep, e, d, r⟩ => ⟨o, es, ep, base_of e (noA e d), d, r⟩
    have hKb : K.In (hidT s₁.heap H) := fun b o e => base_of (KX b o e) (by
      cases q : H b with
      | none => rfl
      | some u =>
        have e' : b = a := hA b (by rw [q]; simp)
        subst e'
        rw [hK (by rw [q]; simp)] at e; cases e)
    have hM : Mod K mg (hidT s₁.heap H) := ⟨hKb, nsK hns, ⟨mb, nsK hb, hbb⟩, let ⟨mc, h1, h2⟩ := hlim; ⟨mc, nsK h1, h2⟩⟩
    have e0 : Env0 P w K mg (hidT s₁.heap H) callerA [] s₁ H := ⟨rfl, hM, fun b o e => of_hidT e, Nat.le_of_eq (hidT_size _ _), trivial, fun b hb => absurd (show b ∈ ([] : List Addr) from hb) (by simp), hok, .of_eq hg⟩
    refine codeAny_mono ((F _ hKb (nsK hns)).run callerA [] s₁ H ⟨[.ref a], []⟩ [.ref a] [.ref a] _ _ hr e0 (hbind s₁ (.ref a)) (.cons rfl .nil) (hsp H hO hS)) fun r s' h => ?_
    cases r with
    | error e => exact (hCX H e s' h).elim
    | ok fl =>
      cases fl with
      | next => exact False.elim h
      | brk => exact False.elim h
      | cont => exact False.elim h
      | ret u =>
        obtain ⟨v, H', os, bare, un, hok', r', q⟩ := h
        have q' : v = .bl true := q
        subst q'
        obtain rfl : u = Value.bool true := r'
        refine ⟨rfl, OldK.of_keep fun b o e => ?_, os, bare⟩
        cases q : H b with
        | none => exact un.keep b o e q (by intro z; exact absurd (show b ∈ ([] : List Addr) from z) (by simp)) (by simp)
        | some u =>
          rcases hO b with z | ⟨ob, xs, z⟩
          · rw [q] at z; cases z
          · have z2 := un.frzs b ob _ z
            obtain ⟨e1, _⟩ := hok b _ z
            obtain ⟨e2, _⟩ := hok' b _ z2
            rw [e] at e1; cases e1
            exact e2
  cases hk : K.lookup a with
  | some o =>
    -- the script is one of the module's own objects
    have e := KX a o hk
    rw [ha] at e
    cases e
    refine core (fun _ => none) (fun _ => .inl rfl) (.inr ⟨_, vs.toArray, _, hk, rfl, rfl, rfl, by rw [List.size_toArray, lenV]; exact hl, by simpa using rv⟩) (fun b u z => by have z' : (none : Option HO) = some u := z; cases z') (fun b z => absurd rfl z) fun z => absurd rfl z
  | none =>
    refine core (fun b => if b = a then some (.frz { cls := .type "list", data := .seq vs.toArray } (.lst (ns.map V.int))) else none) (fun b => ?_) (.inl (.inr ⟨{ cls := .type "list", data := .seq vs.toArray }, if_pos rfl⟩)) (fun b u z => ?_) (fun b z => ?_) fun _ => hk
    · by_cases hb : b = a
      · exact .inr ⟨_, _, if_pos hb⟩
      · exact .inl (if_neg hb)
    · by_cases hb : b = a
      · have z' := (if_pos hb).symm.trans z
        cases z'
        subst hb
        exact ⟨ha, by rw [List.length_map]; exact hl, vs, _, rv, ha⟩
      · have z' := (if_neg hb).symm.trans z
        cases z'
    · by_cases hb : b = a
      · exact hb
      · exact absurd (if_neg hb) z
end L2

namespace L2
open PySem PySem.Spec PyProof.Rows

abbrev KOf {K : PySem.W.Frag} {h : Heap} (_ : K.In h) : PySem.W.Frag := K

theorem walk_of {l : PySem.W.OpenLaw} {n k : Nat} {q : Program} {loose : List Str} {XP : (Str → Option Value) → Heap → Prop} {YP : World → Heap → Prop} {d : DefRec} {K : Params → PySem.W.Frag} {CX : World → CXT} {sp : World → Sp} {x : Str}
    (hn : l.most = some n) (hn2 : n ≤ sizeLine) (hdf : d.params.defaults = []) (hr : Room k callerA)
    (hY : ∀ (w : World) (h : Heap), YP w h → (K w.params).In h)
    (F : ∀ (w : World) (mg : Str → Option Value) (fa : Addr) (h : Heap), (K w.params).In h → h.Ns mainGlobals mg → mg d.name = some (.ref fa) →
      ∃ fd : FuncData, (∀ (s : Shared) (u : Value), BindsTo s fd ⟨[u], []⟩ [(x, u)]) ∧
        ∀ base : Heap, (K w.params).In base → base.Ns mainGlobals mg → FnOk l.prog w (K w.params) mg base (CX w) k fa fd [x] (sp w))
    (hsp : ∀ (w : World) (H : Hp) (a : Addr) (ns : List Int), ns.length ≤ n → Only H → SqL (K w.params) H a (ns.map V.int) → sp w [.ref a] H (fun v _ => v = .bl true) fun _ _ _ => False)
    (hCX : ∀ (w : World) (H : Hp) (s : Shared) (e : Value) (s' : Shared), CX w [] H s (fun _ _ _ => False) e s' → False) :
    PySem.W.WalkO q loose XP YP l.row.toRowW d [] (fun f vs => PySem.call f vs) := by
  refine Att.attach_call hn hdf fun w s₀ s₁ mg mb fa o pm cd doc a vs ns G Y ho hd hcd hmg hobj hints hlen hg => ?_
  have KX := hY w _ Y
  obtain ⟨fd, hb, hF⟩ := F w mg fa _ KX G.T.g hmg
  exact law_call KX G.T.g G.T.b G.T.builtins G.T.nolimit hg hobj hints (Nat.le_trans hlen hn2) hr hF hb (fun H hO hS => hsp w H a ns hlen hO hS) fun H e s' => hCX w H s₁ e s'
end L2

/- THE LAST THEOREM (shape; LID, My.* are yours):
   My.Adr: a structure of the addresses that your layer names (classes, functions); My.Txt K t: a structure (Prop) of the equations over K;
   My.txt_mk : {K} {implicit addresses ..} (e1 : nsIn K mainGlobals "law" = some (some (.ref f))) (e2 : K.lookup f = some ⟨oc, od, .func (fnOf "law" "law" params body scope dV kV doc pm an cdv ct), sl⟩) (e3 : codeIn K cdv "law" = true) .. : ∃ t, My.Txt K t

set_option maxRecDepth 100000 in
set_option maxHeartbeats 0 in
theorem PySem.Challenge.cw_LID_holds : PySem.Challenge.rw_LID.Holds := by
  w_on; o_law; k_head; (case hw => w_witness2)
  k_fill
  refine L2.walk_of (l := PySem.Challenge.rw_LID) (n := 63) (k := 40) (x := "script") (CX := fun w => ..) (sp := fun _ => My.sp_law) rfl (by decide) rfl ⟨rfl, by decide, by decide⟩ (fun w h Y => PySem.W.kIn_of Y) ?F ?S ?C
  case F =>
    intro w mg fa h KX G hmg
    have T : ∃ t, My.Txt (L2.KOf KX) t := by
      dsimp only [L2.KOf]                          -- K must stand as «<heap const> w.params» for k_is
      refine' My.txt_mk ?e1 ?e2 ?e3 ..
      (case e1 => PySem.W.k_is)                    -- in the order: a name -> its address -> its object -> its parts
      (case e2 => PySem.W.k_is)
      ..
    obtain ⟨t, T⟩ := T
    have e0 := hmg.symm.trans (PySem.W.mg_of KX G T.law)
    cases e0                                       -- fa is the law's own address
    exact ⟨_, fun s u => .of_eq rfl, fun base kb nb => My.law_fn T kb nb⟩     -- if «.of_eq rfl» comes too early: refine' ⟨_, ?b, fun base kb nb => My.law_fn T kb nb⟩; exact fun s u => .of_eq rfl
  case S => exact fun w H a ns hl hO hS => ..
  case C => exact ..
(the tactic k_is has no namespace: write k_is) -/

/-! SHORT WORDS over the layer: a def of the text, its body, what a loop and a test want. -/
namespace L2
open PySem PySem.Spec PyProof.Rows

/-! ### the text by places -/
def defArgs (s : Stmt) : Arguments := match s with
  | .FunctionDef _ a _ _ _ _ _ _ _ _ => a
  | _ => { posonlyargs := [], args := [], vararg := none, kwonlyargs := [], kw_defaults := [], kwarg := none, defaults := [] }
def defBody (s : Stmt) : List Stmt := match s with
  | .FunctionDef _ _ b _ _ _ _ _ _ _ => b
  | _ => []
def defScope (s : Stmt) : Scope := match s with
  | .FunctionDef _ _ _ _ _ _ sc _ _ _ => sc
  | _ => { kind := .function, names := [], isGenerator := false, isCoroutine := false }

/-! ### no exception leaves a def -/
abbrev CX0 : CXT := fun _ _ _ _ _ _ => False
/-! ### a def (or method) of the text as it stands behind the top -/
structure Fun (K : PySem.W.Frag) (x qual : Str) (st : Stmt) (f : Addr) (fd : FuncData) : Prop where
  ex : ∃ (oc : Value) (od : Option Addr) (kV doc pm : Value) (an : Option Addr) (cdv ct : Value) (osl : Array (Option Value)),
    fd = PySem.W.fnOf x qual (defArgs st) (defBody st) (defScope st) .none kV doc pm an cdv ct ∧ K.lookup f = some ⟨oc, od, .func fd, osl⟩ ∧ PySem.W.codeIn K cdv qual = true
  kp : PySem.W.keepIn K (.ref f) = true
section
variable {P : Program} {w : World} {K : PySem.W.Frag} {mg : Str → Option Value} {base : Heap}
theorem Fun.ok {x qual : Str} {st : Stmt} {f : Addr} {fd : FuncData} {N ps : List Str} {k : Nat} {sp : Sp} (F : Fun K x qual st f fd) (S : FnScope N ps (defScope st)) (len : ∀ vs H Q E, sp vs H Q E → vs.length = ps.length)
    (hbody : ∀ (cdv : Value) (A : Around) (outer : List Env) (s : Shared) (H : Hp) (vs : List V) (Q : VK) (E : XK), Room k (A.deeper (envOfC qual (defScope st) s.heap.objs.size f cdv)) → sp vs H Q E →
      ∃ t, PSs (cxOf CX0 P w K mg base N qual (defScope st) f cdv A outer s H E).nox (defBody st) t ∧ t { nx := fun _ H' => Q .non H', rt := Q } (start N vs) H) : FnOk P w K mg base CX0 (k + 1) f fd ps sp := by
  obtain ⟨oc, od, kV, doc, pm, an, cdv, ct, osl, rfl, lk, hcd⟩ := F.ex
  refine fn_of lk hcd S len fun A outer s H vs Q E hr hsp => ?_
  obtain ⟨t, h, q⟩ := hbody cdv A outer s H vs Q E hr hsp
  exact ⟨t, h.nox, q⟩
theorem Fun.binds {x qual : Str} {st : Stmt} {f : Addr} {fd : FuncData} {ps : List Str} (F : Fun K x qual st f fd)
    (h : ∀ (kV doc pm : Value) (an : Option Addr) (cdv ct : Value) (us : List Value), us.length = ps.length → bindArgs (PySem.W.fnOf x qual (defArgs st) (defBody st) (defScope st) .none kV doc pm an cdv ct) ⟨us, []⟩ = pure (ps.zip us)) : Binds K fd ps [] := by
  obtain ⟨oc, od, kV, doc, pm, an, cdv, ct, osl, rfl, lk, hcd⟩ := F.ex
  exact .all (h kV doc pm an cdv ct)
theorem fun_mk {x qual : Str} {st : Stmt} {f : Addr} {oc : Value} {od an : Option Addr} {osl : Array (Option Value)} {kV doc pm cdv ct : Value} (l : K.lookup f = some ⟨oc, od, .func (PySem.W.fnOf x qual (defArgs st) (defBody st) (defScope st) .none kV doc pm an cdv ct), osl⟩)
    (c : PySem.W.codeIn K cdv qual = true) (k : PySem.W.keepIn K (.ref f) = true) : Fun K x qual st f (PySem.W.fnOf x qual (defArgs st) (defBody st) (defScope st) .none kV doc pm an cdv ct) := ⟨⟨oc, od, kV, doc, pm, an, cdv, ct, osl, rfl, l, c⟩, k⟩
end
/-! ### expressions in short: the name that stands in the i-th slot -/
section
variable {X : Cx}
end

/-! ### tests -/
/-! ### heaps -/
def Same (H H' : Hp) : Prop := ∀ b o, H b = some o → H' b = some o
theorem Same.refl (H : Hp) : Same H H := fun _ _ h => h
theorem Same.trans {H H1 H2 : Hp} (a : Same H H1) (b : Same H1 H2) : Same H H2 := fun c o h => b c o (a c o h)
theorem Same.free {H H' : Hp} (e : Same H H') {l : Addr} (h : H' l = Option.none) : H l = Option.none := by
  cases q : H l with
  | none => rfl
  | some o =>
    rw [e l o q] at h
    cases h
theorem Same.seq {K : PySem.W.Frag} {H H' : Hp} {a : Addr} {xs : List V} (e : Same H H') (h : SqL K H a xs) : SqL K H' a xs := by
  rcases h with (h | ⟨o, h⟩) | h
  · exact .inl (.inl (e _ _ h))
  · exact .inl (.inr ⟨o, e _ _ h⟩)
  · exact .inr h

end L2
/-! ModelM -/
set_option linter.all false
set_option maxRecDepth 100000
namespace PySem
section
variable {M : Model} {A : Around} {E : Value → Shared → Prop}
variable {nm q : Str} {C N : Addr} {bs bm : List Value} {hdct : Bool} {sn : List Str} {sub : List Value} {ab : Bool} {col : Option Bool} {dd : Option Addr} {k0 k1 k2 k3 k5 : Option Value} {newId : String}
variable {nm' q' : Str} {D N' : Addr} {bs' bm' : List Value} {hdct' : Bool} {sn' : List Str} {sub' : List Value} {ab' : Bool} {col' : Option Bool} {dd' : Option Addr} {k0' k1' k2' k3' k5' : Option Value} {newId' : String}
theorem excMatches_own {h : Heap} {g : Array GenState} {d : Drawn} {t : Nat} {os : OsState} {e : Addr} {oe : Obj} {Q : Bool → Shared → Prop}
    (hC : h.get? C = some (excClassObj nm q C N bs bm hdct sn sub ab col dd k0 k1 k2 k3 k5 newId)) (hD : h.get? D = some (excClassObj nm' q' D N' bs' bm' hdct' sn' sub' ab' col' dd' k0' k1' k2' k3' k5' newId')) (he : h.get? e = some oe) (hcls : oe.cls = .ref C) (hbase : bm'.contains (.type "BaseException") = true)
    (hs : (Value.ref C :: bm).contains (.ref D) = true)
    (hq : Q true ⟨h, g, d, t, os⟩) : wpAny M A (excMatches (.ref e) (.ref D)) Q E ⟨h, g, d, t, os⟩ := by
  have hcB : (Value.ref D :: bm').contains (.type "BaseException") = true := by rw [List.contains_cons, hbase, Bool.or_true]
  have f := tc_notTuple
  unfold excMatches
  repeat (first | (with_reducible refine wpAny_loadPart_at he ?_; rw [hcls]) | with_reducible refine wpAny_loadPart_at hD ?_ | (with_reducible refine wpAny_isSubtype_exc hD ?_; rw [hcB]) | (with_reducible refine wpAny_isSubtype_exc hC ?_; rw [hs]) | wp_step)
  exact hq
end
end PySem
/-! TreeA -/
set_option linter.all false
namespace TL
open PySem L2

inductive T where
  | non | bl (b : Bool) | int (i : Int) | str (x : Str) | lst (xs : List T) | tup (xs : List T) | cell (c : Nat) | exc (c : String)

abbrev TSt := List (Option T)
abbrev Sto := List (List T)
abbrev Rho := List Addr

open Classical in
noncomputable def mask (H : Hp) (Z : Addr → Prop) (ρ : Rho) : Hp := fun a => if Z a ∨ a ∈ ρ then none else H a
theorem mask_some {H : Hp} {Z : Addr → Prop} {ρ : Rho} {a : Addr} {o : HO} : mask H Z ρ a = some o ↔ ¬ Z a ∧ a ∉ ρ ∧ H a = some o := by
  unfold mask
  constructor
  · intro h
    split at h
    · cases h
    · rename_i q
      exact ⟨fun z => q (.inl z), fun z => q (.inr z), h⟩
  · rintro ⟨h1, h2, h3⟩
    rw [if_neg (by
      rintro (z | z)
      · exact h1 z
      · exact h2 z)]
    exact h3
theorem mask_of {H : Hp} {Z : Addr → Prop} {ρ : Rho} {a : Addr} {o : HO} (h1 : ¬ Z a) (h2 : a ∉ ρ) (h3 : H a = some o) : mask H Z ρ a = some o := mask_some.mpr ⟨h1, h2, h3⟩
theorem mask_sub {H : Hp} {Z : Addr → Prop} {ρ : Rho} : Same (mask H Z ρ) H := fun a o h => (mask_some.mp h).2.2

def exO (a C : Addr) : HO := .ext fun h => ∃ ob, h.get? a = some ob ∧ ob.cls = .ref C
mutual
def RT (K : PySem.W.Frag) (M : Hp) (ρ : Rho) : T → V → Prop
  | .non, v => v = .non
  | .bl b, v => v = .bl b
  | .int i, v => v = .int i
  | .str x, v => v = .str x
  | .lst ts, v => ∃ a vs, v = .ref a ∧ SqL K M a vs ∧ RTs K M ρ ts vs
  | .tup ts, v => ∃ a vs, v = .ref a ∧ SqT K M a vs ∧ RTs K M ρ ts vs
  | .cell c, v => ∃ a, v = .ref a ∧ ρ[c]? = some a
  | .exc c, v => ∃ a C, v = .ref a ∧ PySem.W.nsIn K mainGlobals (Str.ofString c) = some (some (.ref C)) ∧ M a = some (exO a C)
def RTs (K : PySem.W.Frag) (M : Hp) (ρ : Rho) : List T → List V → Prop
  | [], vs => vs = []
  | t :: ts, vs => ∃ v r, vs = v :: r ∧ RT K M ρ t v ∧ RTs K M ρ ts r
end

theorem Same.tseq {K : PySem.W.Frag} {H H' : Hp} {a : Addr} {xs : List V} (e : Same H H') (h : SqT K H a xs) : SqT K H' a xs := by
  rcases h with (h | ⟨o, h⟩) | h
  · exact .inl (.inl (e _ _ h))
  · exact .inl (.inr ⟨o, e _ _ h⟩)
  · exact .inr h

theorem get_pre {ρ e : Rho} {c : Nat} {a : Addr} (h : ρ[c]? = some a) : (ρ ++ e)[c]? = some a := by
  rw [List.getElem?_append_left (List.getElem?_eq_some_iff.mp h).1]; exact h

section
variable {K : PySem.W.Frag} {M M' : Hp} {ρ ρ' : Rho}
mutual
theorem RT.mono (s : Same M M') (p : ∀ (c : Nat) (a : Addr), ρ[c]? = some a → ρ'[c]? = some a) : ∀ {t : T} {v : V}, RT K M ρ t v → RT K M' ρ' t v
  | .non, _, h => by unfold RT at *; exact h
  | .bl _, _, h => by unfold RT at *; exact h
  | .int _, _, h => by unfold RT at *; exact h
  | .str _, _, h => by unfold RT at *; exact h
  | .lst ts, v, h => by
    unfold RT at *
    obtain ⟨a, vs, e, q, r⟩ := h
    exact ⟨a, vs, e, s.seq q, RTs.mono s p r⟩
  | .tup ts, v, h => by
    unfold RT at *
    obtain ⟨a, vs, e, q, r⟩ := h
    exact ⟨a, vs, e, Same.tseq s q, RTs.mono s p r⟩
  | .cell c, v, h => by
    unfold RT at *
    obtain ⟨a, e, q⟩ := h
    exact ⟨a, e, p c a q⟩
  | .exc c, v, h => by
    unfold RT at *
    obtain ⟨a, C, e, q, r⟩ := h
    exact ⟨a, C, e, q, s _ _ r⟩
theorem RTs.mono (s : Same M M') (p : ∀ (c : Nat) (a : Addr), ρ[c]? = some a → ρ'[c]? = some a) : ∀ {ts : List T} {vs : List V}, RTs K M ρ ts vs → RTs K M' ρ' ts vs
  | [], _, h => by unfold RTs at *; exact h
  | t :: ts, vs, h => by
    unfold RTs at *
    obtain ⟨v, r, e, h1, h2⟩ := h
    exact ⟨v, r, e, RT.mono s p h1, RTs.mono s p h2⟩
end
theorem RTs.nil : RTs K M ρ [] [] := by unfold RTs; rfl
theorem RTs.cons {t : T} {ts : List T} {v : V} {vs : List V} (h : RT K M ρ t v) (hs : RTs K M ρ ts vs) : RTs K M ρ (t :: ts) (v :: vs) := by
  unfold RTs; exact ⟨v, vs, rfl, h, hs⟩
theorem RTs.nil_inv {vs : List V} (h : RTs K M ρ [] vs) : vs = [] := by unfold RTs at h; exact h
theorem RTs.cons_inv {t : T} {ts : List T} {vs : List V} (h : RTs K M ρ (t :: ts) vs) : ∃ v r, vs = v :: r ∧ RT K M ρ t v ∧ RTs K M ρ ts r := by unfold RTs at h; exact h
theorem RTs.length : ∀ {ts : List T} {vs : List V}, RTs K M ρ ts vs → vs.length = ts.length
  | [], _, h => by rw [h.nil_inv]; rfl
  | t :: ts, vs, h => by
    obtain ⟨v, r, rfl, _, h2⟩ := h.cons_inv
    simp [h2.length]
theorem RTs.get : ∀ {ts : List T} {vs : List V} {i : Nat} {t : T}, RTs K M ρ ts vs → ts[i]? = some t → ∃ v, vs[i]? = some v ∧ RT K M ρ t v
  | [], _, _, _, _, e => by simp at e
  | x :: ts, vs, 0, t, h, e => by
    obtain ⟨v, r, rfl, h1, h2⟩ := h.cons_inv
    simp at e; subst e
    exact ⟨v, rfl, h1⟩
  | x :: ts, vs, i + 1, t, h, e => by
    obtain ⟨v, r, rfl, h1, h2⟩ := h.cons_inv
    obtain ⟨u, q1, q2⟩ := RTs.get (i := i) h2 (by simpa using e)
    exact ⟨u, by simpa using q1, q2⟩
theorem RTs.append : ∀ {ts us : List T} {vs ws : List V}, RTs K M ρ ts vs → RTs K M ρ us ws → RTs K M ρ (ts ++ us) (vs ++ ws)
  | [], _, _, _, h, h' => by rw [h.nil_inv]; exact h'
  | t :: ts, _, _, _, h, h' => by
    obtain ⟨v, r, rfl, h1, h2⟩ := h.cons_inv
    exact .cons h1 (h2.append h')
theorem RTs.take : ∀ (n : Nat) {ts : List T} {vs : List V}, RTs K M ρ ts vs → RTs K M ρ (ts.take n) (vs.take n)
  | 0, _, _, _ => by simpa using RTs.nil
  | n + 1, [], _, h => by rw [h.nil_inv]; simpa using RTs.nil
  | n + 1, t :: ts, _, h => by
    obtain ⟨v, r, rfl, h1, h2⟩ := h.cons_inv
    exact .cons h1 (h2.take n)
theorem RTs.drop : ∀ (n : Nat) {ts : List T} {vs : List V}, RTs K M ρ ts vs → RTs K M ρ (ts.drop n) (vs.drop n)
  | 0, _, _, h => h
  | n + 1, [], _, h => by rw [h.nil_inv]; simpa using RTs.nil
  | n + 1, t :: ts, _, h => by
    obtain ⟨v, r, rfl, h1, h2⟩ := h.cons_inv
    exact h2.drop n
theorem RTs.set {t : T} {v : V} (h0 : RT K M ρ t v) : ∀ (n : Nat) {ts : List T} {vs : List V}, RTs K M ρ ts vs → RTs K M ρ (ts.set n t) (vs.set n v)
  | _, [], _, h => by rw [h.nil_inv]; simpa using RTs.nil
  | 0, x :: ts, _, h => by
    obtain ⟨u, r, rfl, h1, h2⟩ := h.cons_inv
    exact .cons h0 h2
  | n + 1, x :: ts, _, h => by
    obtain ⟨u, r, rfl, h1, h2⟩ := h.cons_inv
    exact .cons h1 (h2.set h0 n)
theorem RTs.reverse : ∀ {ts : List T} {vs : List V}, RTs K M ρ ts vs → RTs K M ρ ts.reverse vs.reverse
  | [], _, h => by rw [h.nil_inv]; exact RTs.nil
  | t :: ts, _, h => by
    obtain ⟨v, r, rfl, h1, h2⟩ := h.cons_inv
    rw [List.reverse_cons, List.reverse_cons]
    exact h2.reverse.append (.cons h1 .nil)
end

structure Rel (K : PySem.W.Frag) (H₀ : Hp) (Z : Addr → Prop) (ρ : Rho) (τ : TSt) (C : Sto) (σ : St) (H : Hp) : Prop where
  old : Same H₀ H
  frs : ∀ a ∈ ρ, H₀ a = none ∧ ¬ Z a
  nd : ρ.Nodup
  zd : ∀ a, Z a → H a ≠ none
  loc : ∀ (i : Nat) (t : T), τ[i]? = some (some t) → ∃ v, σ[i]? = some (some v) ∧ RT K (mask H Z ρ) ρ t v
  cel : ∀ (c : Nat) (a : Addr), ρ[c]? = some a → ∃ ts vs, C[c]? = some ts ∧ H a = some (.lst vs) ∧ RTs K (mask H Z ρ) ρ ts vs
  len : ρ.length = C.length
  lnt : τ.length = σ.length

structure Step (H H' : Hp) (ρ ρ' : Rho) : Prop where
  same : Same H H'
  pre : ∃ e, ρ' = ρ ++ e ∧ ∀ a ∈ e, H a = none
theorem Step.refl {H : Hp} {ρ : Rho} : Step H H ρ ρ := ⟨.refl H, [], by simp, by simp⟩
theorem Step.trans {H H1 H2 : Hp} {ρ ρ1 ρ2 : Rho} (a : Step H H1 ρ ρ1) (b : Step H1 H2 ρ1 ρ2) : Step H H2 ρ ρ2 := by
  obtain ⟨e, he, h1⟩ := a.pre
  obtain ⟨f, hf, h2⟩ := b.pre
  refine ⟨a.same.trans b.same, e ++ f, by rw [hf, he, List.append_assoc], fun x hx => ?_⟩
  rcases List.mem_append.mp hx with hx | hx
  · exact h1 x hx
  · exact a.same.free (h2 x hx)
theorem Step.idx {H H' : Hp} {ρ ρ' : Rho} (s : Step H H' ρ ρ') : ∀ (c : Nat) (a : Addr), ρ[c]? = some a → ρ'[c]? = some a := fun c a h => by
  obtain ⟨e, he, _⟩ := s.pre
  rw [he]; exact get_pre h
theorem Step.msk {H H' : Hp} {ρ ρ' : Rho} (s : Step H H' ρ ρ') (Z : Addr → Prop) : Same (mask H Z ρ) (mask H' Z ρ') := fun a o h => by
  obtain ⟨h1, h2, h3⟩ := mask_some.mp h
  refine mask_of h1 (fun z => ?_) (s.same a o h3)
  obtain ⟨e, he, hn⟩ := s.pre
  rw [he] at z
  rcases List.mem_append.mp z with z | z
  · exact h2 z
  · rw [hn a z] at h3; cases h3
theorem RT.step {K : PySem.W.Frag} {H H' : Hp} {ρ ρ' : Rho} {Z : Addr → Prop} {t : T} {v : V} (h : RT K (mask H Z ρ) ρ t v) (s : Step H H' ρ ρ') : RT K (mask H' Z ρ') ρ' t v := h.mono (s.msk Z) s.idx
theorem RTs.step {K : PySem.W.Frag} {H H' : Hp} {ρ ρ' : Rho} {Z : Addr → Prop} {t : List T} {v : List V} (h : RTs K (mask H Z ρ) ρ t v) (s : Step H H' ρ ρ') : RTs K (mask H' Z ρ') ρ' t v := h.mono (s.msk Z) s.idx

structure SStep (Z : Addr → Prop) (H H' : Hp) (ρ ρ' : Rho) : Prop where
  same : Same (mask H Z ρ) (mask H' Z ρ')
  pre : ∃ e, ρ' = ρ ++ e
theorem SStep.refl {Z : Addr → Prop} {H : Hp} {ρ : Rho} : SStep Z H H ρ ρ := ⟨.refl _, [], by simp⟩
theorem SStep.trans {Z : Addr → Prop} {H H1 H2 : Hp} {ρ ρ1 ρ2 : Rho} (a : SStep Z H H1 ρ ρ1) (b : SStep Z H1 H2 ρ1 ρ2) : SStep Z H H2 ρ ρ2 := by
  obtain ⟨e, he⟩ := a.pre
  obtain ⟨f, hf⟩ := b.pre
  exact ⟨a.same.trans b.same, e ++ f, by rw [hf, he, List.append_assoc]⟩
theorem Step.ss {Z : Addr → Prop} {H H' : Hp} {ρ ρ' : Rho} (s : Step H H' ρ ρ') : SStep Z H H' ρ ρ' := ⟨s.msk Z, let ⟨e, he, _⟩ := s.pre; ⟨e, he⟩⟩
theorem SStep.idx {Z : Addr → Prop} {H H' : Hp} {ρ ρ' : Rho} (s : SStep Z H H' ρ ρ') : ∀ (c : Nat) (a : Addr), ρ[c]? = some a → ρ'[c]? = some a := fun c a h => by
  obtain ⟨e, he⟩ := s.pre
  rw [he]; exact get_pre h
section
variable {K : PySem.W.Frag} {H₀ H H' : Hp} {Z : Addr → Prop} {ρ ρ' : Rho} {τ : TSt} {C : Sto} {σ : St}
theorem Rel.alloc (R : Rel K H₀ Z ρ τ C σ H) {p : Addr} {o : HO} (hp : H p = none) : Rel K H₀ Z ρ τ C σ (upd H p o) ∧ Step H (upd H p o) ρ ρ := by
  have sm : Same H (upd H p o) := fun b u h => by rw [upd_ne (fun z => by rw [z, hp] at h; cases h)]; exact h
  have st : Step H (upd H p o) ρ ρ := ⟨sm, [], by simp, by simp⟩
  refine ⟨⟨R.old.trans sm, R.frs, R.nd, fun a z q => R.zd a z (sm.free q), fun i t e => ?_, fun c a e => ?_, R.len, R.lnt⟩, st⟩
  · obtain ⟨v, h1, h2⟩ := R.loc i t e
    exact ⟨v, h1, h2.step st⟩
  · obtain ⟨ts, vs, h1, h2, h3⟩ := R.cel c a e
    exact ⟨ts, vs, h1, sm _ _ h2, h3.step st⟩
theorem Rel.fresh_not (R : Rel K H₀ Z ρ τ C σ H) {p : Addr} (hp : H p = none) : ¬ Z p ∧ p ∉ ρ ∧ H₀ p = none := by
  refine ⟨fun z => R.zd p z hp, fun z => ?_, R.old.free hp⟩
  obtain ⟨c, hc⟩ := List.mem_iff_getElem?.mp z
  obtain ⟨_, _, _, h, _⟩ := R.cel c p hc
  rw [hp] at h; cases h
theorem Rel.alloc_lst (R : Rel K H₀ Z ρ τ C σ H) {p : Addr} {ts : List T} {vs : List V} (hp : H p = none) (h : RTs K (mask H Z ρ) ρ ts vs) :
    RT K (mask (upd H p (.lst vs)) Z ρ) ρ (.lst ts) (.ref p) := by
  obtain ⟨h1, h2, _⟩ := R.fresh_not hp
  unfold RT
  exact ⟨p, vs, rfl, .of (mask_of h1 h2 upd_same), h.step (R.alloc hp).2⟩
theorem Rel.write (R : Rel K H₀ Z ρ τ C σ H) {c : Nat} {a : Addr} {ts : List T} {vs : List V} (hc : ρ[c]? = some a) (h : RTs K (mask H Z ρ) ρ ts vs) :
    Rel K H₀ Z ρ τ (C.set c ts) σ (upd H a (.lst vs)) ∧ SStep Z H (upd H a (.lst vs)) ρ ρ := by
  have am : a ∈ ρ := List.mem_of_getElem? hc
  have em : mask (upd H a (.lst vs)) Z ρ = mask H Z ρ := by
    funext b
    unfold mask
    split
    · rfl
    · rename_i q
      rw [upd_ne (by rintro rfl; exact q (.inr am))]
  refine ⟨⟨fun b o q => ?_, R.frs, R.nd, fun b z q => ?_, fun i t e => ?_, fun d b e => ?_, by simp [R.len], R.lnt⟩, ⟨by rw [em]; exact .refl _, [], by simp⟩⟩
  · rw [upd_ne (by rintro rfl; rw [(R.frs b am).1] at q; cases q)]
    exact R.old b o q
  · by_cases hb : b = a
    · subst hb; rw [upd_same] at q; cases q
    · rw [upd_ne hb] at q; exact R.zd b z q
  · rw [em]; exact R.loc i t e
  · rw [em]
    by_cases hd : d = c
    · subst hd
      rw [hc] at e; cases e
      have hl : d < C.length := by rw [← R.len]; exact (List.getElem?_eq_some_iff.mp hc).1
      exact ⟨ts, vs, by rw [List.getElem?_set_self hl], upd_same, h⟩
    · obtain ⟨us, ws, h1, h2, h3⟩ := R.cel d b e
      refine ⟨us, ws, by rw [List.getElem?_set_ne (Ne.symm hd)]; exact h1, ?_, h3⟩
      rw [upd_ne]
      · exact h2
      · rintro rfl
        obtain ⟨l1, e1⟩ := List.getElem?_eq_some_iff.mp e
        obtain ⟨l2, e2⟩ := List.getElem?_eq_some_iff.mp hc
        exact hd ((List.getElem_inj R.nd).mp (e1.trans e2.symm))
theorem Rel.set (R : Rel K H₀ Z ρ τ C σ H) {i : Nat} {t : T} {v : V} (h : RT K (mask H Z ρ) ρ t v) : Rel K H₀ Z ρ (τ.set i (some t)) C (σ.set i (some v)) H := by
  refine ⟨R.old, R.frs, R.nd, R.zd, fun j u e => ?_, R.cel, R.len, by simp [R.lnt]⟩
  by_cases hj : j = i
  · subst hj
    have hτ : j < τ.length := by
      have := (List.getElem?_eq_some_iff.mp e).1
      simpa using this
    rw [List.getElem?_set_self hτ] at e
    cases e
    exact ⟨v, by rw [List.getElem?_set_self (by rw [← R.lnt]; exact hτ)], h⟩
  · rw [List.getElem?_set_ne (Ne.symm hj)] at e
    obtain ⟨w, h1, h2⟩ := R.loc j u e
    exact ⟨w, by rw [List.getElem?_set_ne (Ne.symm hj)]; exact h1, h2⟩
theorem Rel.weak (R : Rel K H₀ Z ρ τ C σ H) {τ' : TSt} (hl : τ'.length = τ.length) (h : ∀ (i : Nat) t, τ'[i]? = some (some t) → τ[i]? = some (some t)) : Rel K H₀ Z ρ τ' C σ H :=
  ⟨R.old, R.frs, R.nd, R.zd, fun i t e => R.loc i t (h i t e), R.cel, R.len, hl.trans R.lnt⟩
end
end TL
/-! TreeB -/
set_option linter.all false
namespace TL
open PySem L2

def lim : Nat := 100000
abbrev FE := TSt → Sto → Option (T × Sto)
abbrev FN := TSt → Sto → Option (List T × Sto)
abbrev FB := TSt → Sto → Option (Bool × Sto)
def trE (K : PySem.W.Frag) (f : FE) : TE := fun σ H Q => ∃ H₀ Z ρ τ C t C', Rel K H₀ Z ρ τ C σ H ∧ f τ C = some (t, C') ∧
  ∀ v H' ρ', Rel K H₀ Z ρ' τ C' σ H' → RT K (mask H' Z ρ') ρ' t v → Step H H' ρ ρ' → Q v H'
def trA (K : PySem.W.Frag) (f : FN) : TA := fun σ H Q => ∃ H₀ Z ρ τ C ts C', Rel K H₀ Z ρ τ C σ H ∧ f τ C = some (ts, C') ∧
  ∀ vs H' ρ', Rel K H₀ Z ρ' τ C' σ H' → RTs K (mask H' Z ρ') ρ' ts vs → Step H H' ρ ρ' → Q vs H'
def trN (K : PySem.W.Frag) (f : FN) : TE := fun σ H Q => ∃ H₀ Z ρ τ C ts C', Rel K H₀ Z ρ τ C σ H ∧ f τ C = some (ts, C') ∧
  ∀ p H' ρ' vs, Rel K H₀ Z ρ' τ C' σ H' → H' p = none → RTs K (mask H' Z ρ') ρ' ts vs → Step H H' ρ ρ' → Q (.ref p) (upd H' p (.lst vs))
def trT (K : PySem.W.Frag) (f : FB) : TT := fun σ H Q => ∃ H₀ Z ρ τ C b C', Rel K H₀ Z ρ τ C σ H ∧ f τ C = some (b, C') ∧
  ∀ H' ρ', Rel K H₀ Z ρ' τ C' σ H' → Step H H' ρ ρ' → Q b H'
def trV (K : PySem.W.Frag) (σ : St) (ts : List T) (vs : List V) (g : Sto → Option (T × Sto)) (H : Hp) (Q : VK) : Prop := ∃ H₀ Z ρ τ C t C', Rel K H₀ Z ρ τ C σ H ∧ RTs K (mask H Z ρ) ρ ts vs ∧ g C = some (t, C') ∧
  ∀ v H' ρ', Rel K H₀ Z ρ' τ C' σ H' → RT K (mask H' Z ρ') ρ' t v → Step H H' ρ ρ' → Q v H'
def trW (K : PySem.W.Frag) (σ : St) (ts : List T) (vs : List V) (g : Sto → Option (List T)) (H : Hp) (Q : VK) : Prop := ∃ H₀ Z ρ τ C us, Rel K H₀ Z ρ τ C σ H ∧ RTs K (mask H Z ρ) ρ ts vs ∧ g C = some us ∧
  ∀ p H' ρ' ws, Rel K H₀ Z ρ' τ C σ H' → H' p = none → RTs K (mask H' Z ρ') ρ' us ws → Step H H' ρ ρ' → Q (.ref p) (upd H' p (.lst ws))

def fVar (i : Nat) : FE := fun τ C => match τ[i]? with
  | some (some t) => some (t, C)
  | _ => none
def fC (t : T) : FE := fun _ C => some (t, C)
def fBin (fa fb : FE) (g : T → T → Sto → Option (T × Sto)) : FE := fun τ C => (fa τ C).bind fun p => (fb τ p.2).bind fun q => g p.1 q.1 q.2
def fUn (fa : FE) (g : T → Sto → Option (T × Sto)) : FE := fun τ C => (fa τ C).bind fun p => g p.1 p.2
def fBinN (fa fb : FE) (g : T → T → Sto → Option (List T)) : FN := fun τ C => (fa τ C).bind fun p => (fb τ p.2).bind fun q => (g p.1 q.1 q.2).map fun us => (us, q.2)
def fNil : FN := fun _ C => some ([], C)
def fCons (fa : FE) (fr : FN) : FN := fun τ C => (fa τ C).bind fun p => (fr τ p.2).map fun q => (p.1 :: q.1, q.2)
def fArg (fa : FN) (g : List T → Sto → Option (T × Sto)) : FE := fun τ C => (fa τ C).bind fun p => g p.1 p.2
def fArgN (fa : FN) (g : List T → Sto → Option (List T)) : FN := fun τ C => (fa τ C).bind fun p => (g p.1 p.2).map fun us => (us, p.2)
def fTree (f : FN) : FE := fun τ C => (f τ C).map fun p => (.lst p.1, p.2)
def fCell (f : FN) : FE := fun τ C => (f τ C).map fun p => (.cell p.2.length, p.2 ++ [p.1])

section
variable {K : PySem.W.Frag} {σ : St} {H : Hp} {Q : VK}
theorem i_var {i : Nat} (h : trE K (fVar i) σ H Q) : tVar i σ H Q := by
  obtain ⟨H₀, Z, ρ, τ, C, t, C', R, e, k⟩ := h
  unfold fVar at e
  split at e
  · rename_i u hu
    cases e
    obtain ⟨v, h1, h2⟩ := R.loc i t hu
    exact ⟨v, h1, k v H ρ R h2 .refl⟩
  · cases e
theorem i_C {t : T} {v : V} (ht : ∀ M ρ, RT K M ρ t v) (h : trE K (fC t) σ H Q) : tC v σ H Q := by
  obtain ⟨H₀, Z, ρ, τ, C, t, C', R, e, k⟩ := h
  cases e
  exact k v H ρ R (ht _ _) .refl
theorem i_bin {fa fb : FE} {g : T → T → Sto → Option (T × Sto)} (h : trE K (fBin fa fb g) σ H Q) :
    trE K fa σ H fun x H1 => trE K fb σ H1 fun y H2 => ∃ t1 t2, trV K σ [t1, t2] [x, y] (g t1 t2) H2 Q := by
  obtain ⟨H₀, Z, ρ, τ, C, t, C', R, e, k⟩ := h
  unfold fBin at e
  obtain ⟨⟨t1, C1⟩, e1, e⟩ := Option.bind_eq_some_iff.mp e
  obtain ⟨⟨t2, C2⟩, e2, e⟩ := Option.bind_eq_some_iff.mp e
  refine ⟨H₀, Z, ρ, τ, C, t1, C1, R, e1, fun x H1 ρ1 R1 h1 s1 => ?_⟩
  refine ⟨H₀, Z, ρ1, τ, C1, t2, C2, R1, e2, fun y H2 ρ2 R2 h2 s2 => ?_⟩
  exact ⟨t1, t2, H₀, Z, ρ2, τ, C2, t, C', R2, .cons (h1.step s2) (.cons h2 .nil), e, fun v H3 ρ3 R3 h3 s3 => k v H3 ρ3 R3 h3 ((s1.trans s2).trans s3)⟩
theorem i_un {fa : FE} {g : T → Sto → Option (T × Sto)} (h : trE K (fUn fa g) σ H Q) :
    trE K fa σ H fun x H1 => ∃ t1, trV K σ [t1] [x] (g t1) H1 Q := by
  obtain ⟨H₀, Z, ρ, τ, C, t, C', R, e, k⟩ := h
  unfold fUn at e
  obtain ⟨⟨t1, C1⟩, e1, e⟩ := Option.bind_eq_some_iff.mp e
  refine ⟨H₀, Z, ρ, τ, C, t1, C1, R, e1, fun x H1 ρ1 R1 h1 s1 => ?_⟩
  exact ⟨t1, H₀, Z, ρ1, τ, C1, t, C', R1, .cons h1 .nil, e, fun v H3 ρ3 R3 h3 s3 => k v H3 ρ3 R3 h3 (s1.trans s3)⟩
theorem i_binN {fa fb : FE} {g : T → T → Sto → Option (List T)} (h : trN K (fBinN fa fb g) σ H Q) :
    trE K fa σ H fun x H1 => trE K fb σ H1 fun y H2 => ∃ t1 t2, trW K σ [t1, t2] [x, y] (g t1 t2) H2 Q := by
  obtain ⟨H₀, Z, ρ, τ, C, ts, C', R, e, k⟩ := h
  unfold fBinN at e
  obtain ⟨⟨t1, C1⟩, e1, e⟩ := Option.bind_eq_some_iff.mp e
  obtain ⟨⟨t2, C2⟩, e2, e⟩ := Option.bind_eq_some_iff.mp e
  obtain ⟨us, e3, e⟩ := Option.map_eq_some_iff.mp e
  cases e
  refine ⟨H₀, Z, ρ, τ, C, t1, C1, R, e1, fun x H1 ρ1 R1 h1 s1 => ?_⟩
  refine ⟨H₀, Z, ρ1, τ, C1, t2, _, R1, e2, fun y H2 ρ2 R2 h2 s2 => ?_⟩
  exact ⟨t1, t2, H₀, Z, ρ2, τ, _, _, R2, .cons (h1.step s2) (.cons h2 .nil), e3, fun p H3 ρ3 ws R3 n3 h3 s3 => k p H3 ρ3 ws R3 n3 h3 ((s1.trans s2).trans s3)⟩
theorem i_nil {Q : List V → Hp → Prop} (h : trA K fNil σ H Q) : tNil σ H Q := by
  obtain ⟨H₀, Z, ρ, τ, C, ts, C', R, e, k⟩ := h
  cases e
  exact k [] H ρ R .nil .refl
theorem i_cons {fa : FE} {fr : FN} {Q : List V → Hp → Prop} (h : trA K (fCons fa fr) σ H Q) : tCons (trE K fa) (trA K fr) σ H Q := by
  obtain ⟨H₀, Z, ρ, τ, C, ts, C', R, e, k⟩ := h
  unfold fCons at e
  obtain ⟨⟨t1, C1⟩, e1, e⟩ := Option.bind_eq_some_iff.mp e
  obtain ⟨⟨t2, C2⟩, e2, e⟩ := Option.map_eq_some_iff.mp e
  cases e
  refine ⟨H₀, Z, ρ, τ, C, t1, C1, R, e1, fun x H1 ρ1 R1 h1 s1 => ?_⟩
  exact ⟨H₀, Z, ρ1, τ, C1, t2, _, R1, e2, fun vs H2 ρ2 R2 h2 s2 => k (x :: vs) H2 ρ2 R2 (.cons (h1.step s2) h2) (s1.trans s2)⟩
theorem i_arg {fa : FN} {g : List T → Sto → Option (T × Sto)} (h : trE K (fArg fa g) σ H Q) :
    trA K fa σ H fun vs H1 => ∃ ts, trV K σ ts vs (g ts) H1 Q := by
  obtain ⟨H₀, Z, ρ, τ, C, t, C', R, e, k⟩ := h
  unfold fArg at e
  obtain ⟨⟨ts, C1⟩, e1, e⟩ := Option.bind_eq_some_iff.mp e
  refine ⟨H₀, Z, ρ, τ, C, ts, C1, R, e1, fun x H1 ρ1 R1 h1 s1 => ?_⟩
  exact ⟨ts, H₀, Z, ρ1, τ, C1, t, C', R1, h1, e, fun v H3 ρ3 R3 h3 s3 => k v H3 ρ3 R3 h3 (s1.trans s3)⟩
theorem i_argN {fa : FN} {g : List T → Sto → Option (List T)} (h : trN K (fArgN fa g) σ H Q) :
    trA K fa σ H fun vs H1 => ∃ ts, trW K σ ts vs (g ts) H1 Q := by
  obtain ⟨H₀, Z, ρ, τ, C, ts, C', R, e, k⟩ := h
  unfold fArgN at e
  obtain ⟨⟨us, C1⟩, e1, e⟩ := Option.bind_eq_some_iff.mp e
  obtain ⟨ws, e2, e⟩ := Option.map_eq_some_iff.mp e
  cases e
  refine ⟨H₀, Z, ρ, τ, C, us, _, R, e1, fun x H1 ρ1 R1 h1 s1 => ?_⟩
  exact ⟨us, H₀, Z, ρ1, τ, _, _, R1, h1, e2, fun p H3 ρ3 ws R3 n3 h3 s3 => k p H3 ρ3 ws R3 n3 h3 (s1.trans s3)⟩
theorem i_tree {f : FN} (h : trE K (fTree f) σ H Q) : trN K f σ H Q := by
  obtain ⟨H₀, Z, ρ, τ, C, t, C', R, e, k⟩ := h
  unfold fTree at e
  obtain ⟨⟨us, C1⟩, e1, e⟩ := Option.map_eq_some_iff.mp e
  cases e
  exact ⟨H₀, Z, ρ, τ, C, us, _, R, e1, fun p H1 ρ1 vs R1 n1 h1 s1 => k _ _ ρ1 (R1.alloc n1).1 (R1.alloc_lst n1 h1) (s1.trans (R1.alloc n1).2)⟩
/-! ### values -/
def liT (C : Sto) : T → Option (List T)
  | .lst ts => some ts
  | .cell c => C[c]?
  | _ => none
def sqT (C : Sto) : T → Option (List T)
  | .lst ts => some ts
  | .cell c => C[c]?
  | .tup ts => some ts
  | _ => none
theorem SqL.msk {M : Hp} {Z : Addr → Prop} {ρ : Rho} {a : Addr} {vs : List V} (h : SqL K (mask M Z ρ) a vs) : SqL K M a vs := mask_sub.seq h
theorem SqT.msk {M : Hp} {Z : Addr → Prop} {ρ : Rho} {a : Addr} {vs : List V} (h : SqT K (mask M Z ρ) a vs) : SqT K M a vs := Same.tseq mask_sub h
theorem Rel.li {H₀ : Hp} {Z : Addr → Prop} {ρ : Rho} {τ : TSt} {C : Sto} (R : Rel K H₀ Z ρ τ C σ H) {t : T} {v : V} {ts : List T} (h : RT K (mask H Z ρ) ρ t v) (e : liT C t = some ts) :
    ∃ a vs, v = .ref a ∧ SqL K H a vs ∧ RTs K (mask H Z ρ) ρ ts vs := by
  cases t with
  | lst us =>
    cases e
    unfold RT at h
    obtain ⟨a, vs, e, q, r⟩ := h
    exact ⟨a, vs, e, SqL.msk q, r⟩
  | cell c =>
    unfold RT at h
    obtain ⟨a, e1, q⟩ := h
    obtain ⟨us, ws, h1, h2, h3⟩ := R.cel c a q
    have e' : C[c]? = some ts := e
    rw [h1] at e'; cases e'
    exact ⟨a, ws, e1, .of h2, h3⟩
  | _ => cases e
theorem Rel.sq {H₀ : Hp} {Z : Addr → Prop} {ρ : Rho} {τ : TSt} {C : Sto} (R : Rel K H₀ Z ρ τ C σ H) {t : T} {v : V} {ts : List T} (h : RT K (mask H Z ρ) ρ t v) (e : sqT C t = some ts) :
    ∃ a vs, v = .ref a ∧ (SqL K H a vs ∨ SqT K H a vs) ∧ RTs K (mask H Z ρ) ρ ts vs := by
  cases t with
  | lst us =>
    obtain ⟨a, vs, h1, h2, h3⟩ := R.li h (show liT C (.lst us) = some ts from e)
    exact ⟨a, vs, h1, .inl h2, h3⟩
  | cell c =>
    obtain ⟨a, vs, h1, h2, h3⟩ := R.li h (show liT C (.cell c) = some ts from e)
    exact ⟨a, vs, h1, .inl h2, h3⟩
  | tup us =>
    cases e
    unfold RT at h
    obtain ⟨a, vs, e, q, r⟩ := h
    exact ⟨a, vs, e, .inr (SqT.msk q), r⟩
  | _ => cases e
theorem RT.int_inv {M : Hp} {ρ : Rho} {i : Int} {v : V} (h : RT K M ρ (.int i) v) : v = .int i := by unfold RT at h; exact h
theorem RT.bl_inv {M : Hp} {ρ : Rho} {b : Bool} {v : V} (h : RT K M ρ (.bl b) v) : v = .bl b := by unfold RT at h; exact h
theorem RT.non_inv {M : Hp} {ρ : Rho} {v : V} (h : RT K M ρ .non v) : v = .non := by unfold RT at h; exact h
theorem RT.int {M : Hp} {ρ : Rho} {i : Int} : RT K M ρ (.int i) (.int i) := by unfold RT; rfl
theorem RT.bl {M : Hp} {ρ : Rho} {i : Bool} : RT K M ρ (.bl i) (.bl i) := by unfold RT; rfl
theorem RT.non {M : Hp} {ρ : Rho} : RT K M ρ .non .non := by unfold RT; rfl
theorem RT.str {M : Hp} {ρ : Rho} {x : Str} : RT K M ρ (.str x) (.str x) := by unfold RT; rfl

/-! ### int operations -/
def gI (f : Int → Int → T) : T → T → Sto → Option (T × Sto)
  | .int i, .int j, C => some (f i j, C)
  | _, _, _ => none
def gIc (c : Int → Int → Bool) (f : Int → Int → T) : T → T → Sto → Option (T × Sto)
  | .int i, .int j, C => if c i j = true then some (f i j, C) else none
  | _, _, _ => none
theorem o_I {x y : V} {f : Int → Int → T} {g : Int → Int → V} (hfg : ∀ i j M ρ, RT K M ρ (f i j) (g i j)) (h : ∃ t1 t2, trV K σ [t1, t2] [x, y] (gI f t1 t2) H Q) :
    ∃ i j, x = .int i ∧ y = .int j ∧ Q (g i j) H := by
  obtain ⟨t1, t2, H₀, Z, ρ, τ, C, t, C', R, r, e, k⟩ := h
  obtain ⟨_, _, z, r1, r⟩ := r.cons_inv
  cases z
  obtain ⟨_, _, z, r2, r⟩ := r.cons_inv
  cases z
  unfold gI at e
  split at e
  · cases e
    exact ⟨_, _, r1.int_inv, r2.int_inv, k _ H ρ R (hfg _ _ _ _) .refl⟩
  · cases e
theorem o_Ic {x y : V} {c : Int → Int → Bool} {f : Int → Int → T} {g : Int → Int → V} (hfg : ∀ i j M ρ, RT K M ρ (f i j) (g i j)) (h : ∃ t1 t2, trV K σ [t1, t2] [x, y] (gIc c f t1 t2) H Q) :
    ∃ i j, x = .int i ∧ y = .int j ∧ c i j = true ∧ Q (g i j) H := by
  obtain ⟨t1, t2, H₀, Z, ρ, τ, C, t, C', R, r, e, k⟩ := h
  obtain ⟨_, _, z, r1, r⟩ := r.cons_inv
  cases z
  obtain ⟨_, _, z, r2, r⟩ := r.cons_inv
  cases z
  unfold gIc at e
  split at e
  · split at e
    · rename_i hc
      cases e
      exact ⟨_, _, r1.int_inv, r2.int_inv, hc, k _ H ρ R (hfg _ _ _ _) .refl⟩
    · cases e
  · cases e
end
end TL
/-! TreeC -/
set_option linter.all false
namespace TL
open PySem L2

inductive Fl where
  | nx | bk | ct | rt (t : T) | ex (c : String)
abbrev FS := TSt → Sto → Option (Fl × TSt × Sto)
abbrev XW := String → St → Hp → Prop
def EndF (K : PySem.W.Frag) (W : XW) (D : Ends) (Z : Addr → Prop) (ρ : Rho) (fl : Fl) (σ : St) (H : Hp) : Prop := match fl with
  | .nx => D.nx σ H
  | .bk => D.bk σ H
  | .ct => D.ct σ H
  | .rt t => ∀ v, RT K (mask H Z ρ) ρ t v → D.rt v H
  | .ex c => W c σ H
def trS (K : PySem.W.Frag) (W : XW) (F : FS) : TS := fun D σ H => ∃ H₀ Z ρ τ C fl τ' C', Rel K H₀ Z ρ τ C σ H ∧ F τ C = some (fl, τ', C') ∧
  ∀ σ' H' ρ', Rel K H₀ Z ρ' τ' C' σ' H' → SStep Z H H' ρ ρ' → EndF K W D Z ρ' fl σ' H'
abbrev FG := T → Sto → TSt → Option TSt
def trG (K : PySem.W.Frag) (g : FG) : TG := fun v σ H Q => ∃ H₀ Z ρ τ C t τ', Rel K H₀ Z ρ τ C σ H ∧ RT K (mask H Z ρ) ρ t v ∧ g t C τ = some τ' ∧
  ∀ σ', Rel K H₀ Z ρ τ' C σ' H → Q σ' H

def fNext : FS := fun τ C => some (.nx, τ, C)
def fSeq (F G : FS) : FS := fun τ C => (F τ C).bind fun r => match r with
  | (.nx, τ1, C1) => G τ1 C1
  | r => some r
def fIf (c : FB) (F G : FS) : FS := fun τ C => (c τ C).bind fun p => if p.1 = true then F τ p.2 else G τ p.2
def fRet (f : FE) : FS := fun τ C => (f τ C).map fun p => (.rt p.1, τ, p.2)
def fRetN : FS := fun τ C => some (.rt .non, τ, C)
def fDrop (f : FE) : FS := fun τ C => (f τ C).map fun p => (.nx, τ, p.2)
def fAsg (f : FE) (g : FG) : FS := fun τ C => (f τ C).bind fun p => (g p.1 p.2 τ).map fun τ' => (.nx, τ', p.2)
def gN (i : Nat) : FG := fun t _ τ => some (τ.set i (some t))
def setAll : List Nat → List T → TSt → TSt
  | i :: is, t :: ts, τ => setAll is ts (τ.set i (some t))
  | _, _, τ => τ
def gU (is : List Nat) : FG := fun t C τ => (sqT C t).bind fun ts => if ts.length = is.length then some (setAll is ts τ) else none

section
variable {K : PySem.W.Frag} {W : XW} {σ : St} {H : Hp} {D : Ends}
theorem s_next (h : trS K W fNext D σ H) : tNext D σ H := by
  obtain ⟨H₀, Z, ρ, τ, C, fl, τ', C', R, e, k⟩ := h
  cases e
  exact k σ H ρ R .refl
theorem s_seq {F G : FS} (h : trS K W (fSeq F G) D σ H) : tSeq (trS K W F) (trS K W G) D σ H := by
  obtain ⟨H₀, Z, ρ, τ, C, fl, τ', C', R, e, k⟩ := h
  unfold fSeq at e
  obtain ⟨⟨f1, τ1, C1⟩, e1, e⟩ := Option.bind_eq_some_iff.mp e
  refine ⟨H₀, Z, ρ, τ, C, f1, τ1, C1, R, e1, fun σ1 H1 ρ1 R1 s1 => ?_⟩
  cases f1 with
  | nx => exact ⟨H₀, Z, ρ1, τ1, C1, fl, τ', C', R1, e, fun σ2 H2 ρ2 R2 s2 => k σ2 H2 ρ2 R2 (s1.trans s2)⟩
  | bk => cases e; exact k σ1 H1 ρ1 R1 s1
  | ct => cases e; exact k σ1 H1 ρ1 R1 s1
  | rt t => cases e; exact k σ1 H1 ρ1 R1 s1
  | ex c => cases e; exact k σ1 H1 ρ1 R1 s1
theorem s_if {c : FB} {F G : FS} (h : trS K W (fIf c F G) D σ H) : tIfS (trT K c) (trS K W F) (trS K W G) D σ H := by
  obtain ⟨H₀, Z, ρ, τ, C, fl, τ', C', R, e, k⟩ := h
  unfold fIf at e
  obtain ⟨⟨b, C1⟩, e1, e⟩ := Option.bind_eq_some_iff.mp e
  refine ⟨H₀, Z, ρ, τ, C, b, C1, R, e1, fun H1 ρ1 R1 s1 => ?_⟩
  cases b with
  | true =>
    rw [if_pos rfl] at e ⊢
    exact ⟨H₀, Z, ρ1, τ, C1, fl, τ', C', R1, e, fun σ2 H2 ρ2 R2 s2 => k σ2 H2 ρ2 R2 (s1.ss.trans s2)⟩
  | false =>
    rw [if_neg (by simp)] at e ⊢
    exact ⟨H₀, Z, ρ1, τ, C1, fl, τ', C', R1, e, fun σ2 H2 ρ2 R2 s2 => k σ2 H2 ρ2 R2 (s1.ss.trans s2)⟩
theorem s_ret {f : FE} (h : trS K W (fRet f) D σ H) : tRet (trE K f) D σ H := by
  obtain ⟨H₀, Z, ρ, τ, C, fl, τ', C', R, e, k⟩ := h
  unfold fRet at e
  obtain ⟨⟨t, C1⟩, e1, e⟩ := Option.map_eq_some_iff.mp e
  cases e
  exact ⟨H₀, Z, ρ, τ, C, t, _, R, e1, fun v H1 ρ1 R1 h1 s1 => k σ H1 ρ1 R1 s1.ss v h1⟩
theorem s_drop {f : FE} (h : trS K W (fDrop f) D σ H) : tDrop (trE K f) D σ H := by
  obtain ⟨H₀, Z, ρ, τ, C, fl, τ', C', R, e, k⟩ := h
  unfold fDrop at e
  obtain ⟨⟨t, C1⟩, e1, e⟩ := Option.map_eq_some_iff.mp e
  cases e
  exact ⟨H₀, Z, ρ, τ, C, t, _, R, e1, fun v H1 ρ1 R1 h1 s1 => k σ H1 ρ1 R1 s1.ss⟩
theorem s_asg {f : FE} {g : FG} (h : trS K W (fAsg f g) D σ H) : tAsg (trE K f) (trG K g) D σ H := by
  obtain ⟨H₀, Z, ρ, τ, C, fl, τ', C', R, e, k⟩ := h
  unfold fAsg at e
  obtain ⟨⟨t, C1⟩, e1, e⟩ := Option.bind_eq_some_iff.mp e
  obtain ⟨τ1, e2, e⟩ := Option.map_eq_some_iff.mp e
  cases e
  refine ⟨H₀, Z, ρ, τ, C, t, _, R, e1, fun v H1 ρ1 R1 h1 s1 => ?_⟩
  exact ⟨H₀, Z, ρ1, τ, _, t, _, R1, h1, e2, fun σ' R' => k σ' H1 ρ1 R' s1.ss⟩
theorem g_name {i : Nat} {v : V} {Q : St → Hp → Prop} (h : trG K (gN i) v σ H Q) : gName i v σ H Q := by
  obtain ⟨H₀, Z, ρ, τ, C, t, τ', R, r, e, k⟩ := h
  cases e
  exact k _ (R.set r)
theorem Rel.setAll {H₀ : Hp} {Z : Addr → Prop} {ρ : Rho} {C : Sto} : ∀ {is : List Nat} {ts : List T} {vs : List V} {τ : TSt} {σ : St}, Rel K H₀ Z ρ τ C σ H → RTs K (mask H Z ρ) ρ ts vs → ts.length = is.length → ∀ {Q : St → Hp → Prop},
    (∀ σ', Rel K H₀ Z ρ (TL.setAll is ts τ) C σ' H → Q σ' H) → (is.foldr (fun i g => gCons (gName i) g) gNil) vs σ H Q
  | [], [], vs, τ, σ, R, r, _, Q, k => ⟨r.nil_inv, k σ R⟩
  | i :: is, t :: ts, vs, τ, σ, R, r, hl, Q, k => by
    obtain ⟨v, r', rfl, h1, h2⟩ := r.cons_inv
    exact ⟨v, r', rfl, Rel.setAll (is := is) (ts := ts) (R.set h1) h2 (by simpa using hl) k⟩
  | [], t :: ts, _, _, _, _, _, hl, _, _ => by simp at hl
  | i :: is, [], _, _, _, _, _, hl, _, _ => by simp at hl

/-! ### for -/
open Classical in
noncomputable def forGo (P : Sto → Prop) (g : FG) (F : FS) : List T → FS
  | [], τ, C => some (.nx, τ, C)
  | t :: ts, τ, C => (g t C τ).bind fun τ1 => (F τ1 C).bind fun r => match r with
    | (.nx, τ2, C2) => if P C2 then forGo P g F ts τ2 C2 else none
    | (.ct, τ2, C2) => if P C2 then forGo P g F ts τ2 C2 else none
    | (.bk, τ2, C2) => some (.nx, τ2, C2)
    | (.rt v, τ2, C2) => some (.rt v, τ2, C2)
    | (.ex c, τ2, C2) => some (.ex c, τ2, C2)
def stays (t : T) (ts : List T) (C : Sto) : Prop := match t with
  | .cell c => C[c]? = some ts
  | _ => True
noncomputable def fFor (f : FE) (g : FG) (F : FS) : FS := fun τ C => (f τ C).bind fun p => (liT p.2 p.1).bind fun ts => forGo (stays p.1 ts) g F ts τ p.2
theorem Rel.same {H₀ : Hp} {Z : Addr → Prop} {ρ : Rho} {τ : TSt} {C : Sto} {H' : Hp} (R : Rel K H₀ Z ρ τ C σ H) (s : Same H H') : Rel K H₀ Z ρ τ C σ H' ∧ Step H H' ρ ρ := by
  have st : Step H H' ρ ρ := ⟨s, [], by simp, by simp⟩
  refine ⟨⟨R.old.trans s, R.frs, R.nd, fun a z q => R.zd a z (s.free q), fun i t e => ?_, fun c a e => ?_, R.len, R.lnt⟩, st⟩
  · obtain ⟨v, h1, h2⟩ := R.loc i t e
    exact ⟨v, h1, h2.step st⟩
  · obtain ⟨ts, vs, h1, h2, h3⟩ := R.cel c a e
    exact ⟨ts, vs, h1, s _ _ h2, h3.step st⟩
structure Wlk (K : PySem.W.Frag) (J : It) (Z : Addr → Prop) (H1 : Hp) (ρ1 : Rho) (ts : List T) (P : Sto → Prop) : Prop where
  go : ∀ (i : Nat) (t : T) (H₀ : Hp) (Z' : Addr → Prop) (ρ' : Rho) (τ : TSt) (C : Sto) (σ : St) (H : Hp), ts[i]? = some t → Rel K H₀ Z' ρ' τ C σ H → Same (mask H1 Z ρ1) (mask H Z' ρ') →
    (∀ (c : Nat) (a : Addr), ρ1[c]? = some a → ρ'[c]? = some a) → (P C ∨ Same H1 H) → J.go i H ∧ ∀ x H', J.yld i H x H' → Same H H' ∧ RT K (mask H' Z' ρ') ρ' t x
  stop : ∀ (H₀ : Hp) (Z' : Addr → Prop) (ρ' : Rho) (τ : TSt) (C : Sto) (σ : St) (H : Hp), Rel K H₀ Z' ρ' τ C σ H → Same (mask H1 Z ρ1) (mask H Z' ρ') →
    (∀ (c : Nat) (a : Addr), ρ1[c]? = some a → ρ'[c]? = some a) → (P C ∨ Same H1 H) → J.stop ts.length H
theorem for_any {J : It} {H₀ : Hp} {Z : Addr → Prop} {ρ : Rho} {τ τ' : TSt} {C C' : Sto} {P : Sto → Prop} {g : FG} {F : FS} {ts : List T} {fl : Fl} {H1 : Hp} {σ1 : St}
    (R : Rel K H₀ Z ρ τ C σ1 H1) (hP : P C) (e : forGo P g F ts τ C = some (fl, τ', C')) (w : Wlk K J Z H1 ρ ts P)
    (k : ∀ σ' H' ρ', Rel K H₀ Z ρ' τ' C' σ' H' → SStep Z H1 H' ρ ρ' → EndF K W D Z ρ' fl σ' H') :
    ∃ V : Nat → Nat → St → Hp → Prop, (∃ m, V 0 m σ1 H1) ∧ ∀ i m σ H, V i m σ H →
      (J.stop i H ∧ D.nx σ H) ∨ (J.go i H ∧ ∃ N : St → Hp → Prop, (∀ σ' H', N σ' H' → ∃ m', m' < m ∧ V (i + 1) m' σ' H') ∧ ∀ x H', J.yld i H x H' → trG K g x σ H' fun σ2 H2 => trS K W F { D with nx := N, ct := N, bk := D.nx } σ2 H2) := by
  refine ⟨fun i m σ H => ∃ ρ' τ1 C1 rest, m = rest.length ∧ ts.drop i = rest ∧ i ≤ ts.length ∧ Rel K H₀ Z ρ' τ1 C1 σ H ∧ SStep Z H1 H ρ ρ' ∧ P C1 ∧ forGo P g F rest τ1 C1 = some (fl, τ', C'),
    ⟨ts.length, ρ, τ, C, ts, rfl, rfl, Nat.zero_le _, R, .refl, hP, e⟩, ?_⟩
  rintro i m σ H ⟨ρ', τ1, C1, rest, rfl, hd, hi, R1, s1, hP1, e1⟩
  cases rest with
  | nil =>
    have hi' : i = ts.length := by
      have : ts.length ≤ i := by simpa using hd
      omega
    subst hi'
    cases e1
    exact .inl ⟨w.stop _ _ _ _ _ _ _ R1 s1.same s1.idx (.inl hP1), k σ H ρ' R1 s1⟩
  | cons t rest =>
    have ht : ts[i]? = some t := by
      have := congrArg (fun l => l[0]?) hd
      simpa using this
    have hlt : i < ts.length := (List.getElem?_eq_some_iff.mp ht).1
    have hd' : ts.drop (i + 1) = rest := by
      have := congrArg List.tail hd
      simpa using this
    obtain ⟨g1, g2⟩ := w.go i t _ _ ρ' τ1 C1 σ H ht R1 s1.same s1.idx (.inl hP1)
    unfold forGo at e1
    obtain ⟨τ2, eg, e1⟩ := Option.bind_eq_some_iff.mp e1
    obtain ⟨⟨f3, τ3, C3⟩, eF, e1⟩ := Option.bind_eq_some_iff.mp e1
    refine .inr ⟨g1, fun σ' H' => ∃ ρ3 τ3 C3, Rel K H₀ Z ρ3 τ3 C3 σ' H' ∧ SStep Z H1 H' ρ ρ3 ∧ P C3 ∧ forGo P g F rest τ3 C3 = some (fl, τ', C'), ?_, ?_⟩
    · rintro σ' H' ⟨ρ3, τ3, C3, R3, s3, hP3, e3⟩
      exact ⟨rest.length, by simp, ρ3, τ3, C3, rest, rfl, hd', hlt, R3, s3, hP3, e3⟩
    · intro x H' y
      obtain ⟨sm, rx⟩ := g2 x H' y
      obtain ⟨R1', st'⟩ := R1.same sm
      refine ⟨H₀, Z, ρ', τ1, C1, t, τ2, R1', rx, eg, fun σ2 R2 => ?_⟩
      refine ⟨H₀, Z, ρ', τ2, C1, f3, τ3, C3, R2, eF, fun σ3 H3 ρ3 R3 s3 => ?_⟩
      have s3' := (s1.trans st'.ss).trans s3
      cases f3 with
      | nx =>
        dsimp only at e1
        split at e1
        · rename_i hP3
          exact ⟨ρ3, τ3, C3, R3, s3', hP3, e1⟩
        · cases e1
      | ct =>
        dsimp only at e1
        split at e1
        · rename_i hP3
          exact ⟨ρ3, τ3, C3, R3, s3', hP3, e1⟩
        · cases e1
      | bk =>
        cases e1
        exact k σ3 H3 ρ3 R3 s3'
      | rt v =>
        cases e1
        exact k σ3 H3 ρ3 R3 s3'
      | ex c =>
        cases e1
        exact k σ3 H3 ρ3 R3 s3'
theorem stays_of {t : T} {ts : List T} {C : Sto} (e : liT C t = some ts) : stays t ts C := by
  cases t with
  | cell c => exact e
  | _ => trivial
theorem wlk_list {Z : Addr → Prop} {H1 : Hp} {ρ1 : Rho} {H₀ : Hp} {τ : TSt} {C : Sto} {σ : St} {t : T} {ts : List T} {a : Addr} (R1 : Rel K H₀ Z ρ1 τ C σ H1) (h1 : RT K (mask H1 Z ρ1) ρ1 t (.ref a)) (e2 : liT C t = some ts) :
    Wlk K (Itl K a) Z H1 ρ1 ts (stays t ts) := by
  have there : ∀ {H₀ : Hp} {Z' : Addr → Prop} {ρ' : Rho} {τ' : TSt} {C' : Sto} {σ : St} {H : Hp}, Rel K H₀ Z' ρ' τ' C' σ H → Same (mask H1 Z ρ1) (mask H Z' ρ') → (∀ (c : Nat) (a : Addr), ρ1[c]? = some a → ρ'[c]? = some a) → (stays t ts C' ∨ Same H1 H) →
      ∃ ws, SqL K H a ws ∧ RTs K (mask H Z' ρ') ρ' ts ws := by
    intro H₀ Z' ρ' τ' C' σ H R' sm ix st'
    rcases st' with st' | st'
    · have h2 := h1.mono sm ix
      have e3 : liT C' t = some ts := by
        cases t with
        | cell c => exact st'
        | lst us => exact e2
        | _ => cases e2
      obtain ⟨a', ws, ev', q', r'⟩ := R'.li h2 e3
      cases ev'
      exact ⟨ws, q', r'⟩
    · obtain ⟨a', ws, ev', q', r'⟩ := R1.li h1 e2
      cases ev'
      exact ⟨ws, st'.seq q', r'.mono sm ix⟩
  refine ⟨fun i t' H₀ Z' ρ' τ' C' σ H ht R' sm ix st' => ?_, fun H₀ Z' ρ' τ' C' σ H R' sm ix st' => ?_⟩
  · obtain ⟨ws, q', r'⟩ := there R' sm ix st'
    obtain ⟨x, hx, rx⟩ := r'.get ht
    refine ⟨⟨ws, x, q', hx⟩, fun y H' ⟨hy, z⟩ => ?_⟩
    subst hy
    have := z ws q'
    rw [hx] at this; cases this
    exact ⟨.refl _, rx⟩
  · obtain ⟨ws, q', r'⟩ := there R' sm ix st'
    exact ⟨ws, q', by rw [r'.length]; exact Nat.le_refl _⟩
def rngT (lo : Int) (n : Nat) : List T := (List.range n).map fun (i : Nat) => T.int (lo + (i : Int))
theorem wlk_range {Z : Addr → Prop} {H1 : Hp} {ρ1 : Rho} {lo : Int} {n : Nat} : Wlk K (Itr lo n) Z H1 ρ1 (rngT lo n) (fun _ => True) := by
  refine ⟨fun i t' H₀ Z' ρ' τ' C' σ H ht R' sm ix st' => ?_, fun H₀ Z' ρ' τ' C' σ H R' sm ix st' => ?_⟩
  · unfold rngT at ht
    have hi : i < n := by
      have := (List.getElem?_eq_some_iff.mp ht).1
      simpa using this
    rw [List.getElem?_map, List.getElem?_range hi] at ht
    cases ht
    refine ⟨hi, fun x H' ⟨h1, h2⟩ => ?_⟩
    subst h1
    rw [h2]; exact ⟨.refl _, .int⟩
  · show n ≤ _
    simp [rngT]
theorem s_for {f : FE} {g : FG} {F : FS} (h : trS K W (fFor f g F) D σ H) : tFor (iList K (trE K f)) (trG K g) (trS K W F) D σ H := by
  obtain ⟨H₀, Z, ρ, τ, C, fl, τ', C', R, e, k⟩ := h
  unfold fFor at e
  obtain ⟨⟨t, C1⟩, e1, e⟩ := Option.bind_eq_some_iff.mp e
  obtain ⟨ts, e2, e⟩ := Option.bind_eq_some_iff.mp e
  refine ⟨H₀, Z, ρ, τ, C, t, C1, R, e1, fun v H1 ρ1 R1 h1 s1 => ?_⟩
  obtain ⟨a, vs, ev, q, r⟩ := R1.li h1 e2
  subst ev
  exact ⟨a, rfl, ⟨vs, q⟩, for_any R1 (stays_of e2) e (wlk_list R1 h1 e2) fun σ' H' ρ' R' s' => k σ' H' ρ' R' (s1.ss.trans s')⟩
noncomputable def fForR (lo : Int) (n : Nat) (g : FG) (F : FS) : FS := forGo (fun _ => True) g F (rngT lo n)
noncomputable def fForR1 (f : FE) (g : FG) (F : FS) : FS := fun τ C => (f τ C).bind fun p => match p.1 with
  | .int j => if -(2 ^ 62) ≤ j ∧ j < 2 ^ 62 then fForR 0 j.toNat g F τ p.2 else none
  | _ => none
noncomputable def fForR2 (f1 f2 : FE) (g : FG) (F : FS) : FS := fun τ C => (f1 τ C).bind fun p => (f2 τ p.2).bind fun q => match p.1, q.1 with
  | .int i, .int j => if -(2 ^ 62) ≤ i ∧ i < 2 ^ 62 ∧ -(2 ^ 62) ≤ j ∧ j < 2 ^ 62 then fForR i (j - i).toNat g F τ q.2 else none
  | _, _ => none
/-! ### while -/
end
end TL
/-! TreeD -/
set_option linter.all false
namespace TL
open PySem L2

section
variable {K : PySem.W.Frag} {σ : St} {H : Hp} {Q : VK}

/-! ### reading lists -/
theorem atI_rt {M : Hp} {ρ : Rho} {ts : List T} {vs : List V} {i : Int} {t : T} (h : RTs K M ρ ts vs) (e : atI ts i = some t) : ∃ v, atI vs i = some v ∧ RT K M ρ t v := by
  unfold atI at e ⊢
  rw [h.length]
  cases q : ixN ts.length i with
  | none => rw [q] at e; cases e
  | some j =>
    rw [q] at e
    exact h.get e
def gIx (t1 t2 : T) (C : Sto) : Option (T × Sto) := match t2 with
  | .int i => (sqT C t1).bind fun ts => (atI ts i).map fun t => (t, C)
  | _ => none
theorem o_ix {x y : V} (h : ∃ t1 t2, trV K σ [t1, t2] [x, y] (gIx t1 t2) H Q) : rIx K x y H Q := by
  obtain ⟨t1, t2, H₀, Z, ρ, τ, C, t, C', R, r, e, k⟩ := h
  obtain ⟨_, _, z, r1, r⟩ := r.cons_inv
  cases z
  obtain ⟨_, _, z, r2, r⟩ := r.cons_inv
  cases z
  unfold gIx at e
  split at e
  · obtain ⟨ts, e1, e⟩ := Option.bind_eq_some_iff.mp e
    obtain ⟨u, e2, e⟩ := Option.map_eq_some_iff.mp e
    cases e
    obtain ⟨a, vs, ev, q, rr⟩ := R.sq r1 e1
    obtain ⟨v, h1, h2⟩ := atI_rt rr e2
    have fin := k v H ρ R h2 .refl
    rcases q with q | q
    · exact .inl ⟨a, vs, _, v, ev, r2.int_inv, q, h1, fin⟩
    · exact .inr (.inl ⟨a, vs, _, v, ev, r2.int_inv, q, h1, fin⟩)
  · cases e

/-! ### slices -/
abbrev FO := TSt → Sto → Option (Option Int × Sto)
def fNoPart : FO := fun _ C => some (none, C)
def fPart (f : FE) : FO := fun τ C => (f τ C).bind fun p => match p.1 with
  | .int i => some (some i, p.2)
  | _ => none
def trO (K : PySem.W.Frag) (f : FO) : TO := fun σ H Q => ∃ H₀ Z ρ τ C o C', Rel K H₀ Z ρ τ C σ H ∧ f τ C = some (o, C') ∧
  ∀ H' ρ', Rel K H₀ Z ρ' τ C' σ H' → Step H H' ρ ρ' → Q o H'
theorem i_noPart {Q : Option Int → Hp → Prop} (h : trO K fNoPart σ H Q) : tNoPart σ H Q := by
  obtain ⟨H₀, Z, ρ, τ, C, o, C', R, e, k⟩ := h
  cases e
  exact k H ρ R .refl
theorem i_part {f : FE} {Q : Option Int → Hp → Prop} (h : trO K (fPart f) σ H Q) : tPart (trE K f) σ H Q := by
  obtain ⟨H₀, Z, ρ, τ, C, o, C', R, e, k⟩ := h
  unfold fPart at e
  obtain ⟨⟨t, C1⟩, e1, e⟩ := Option.bind_eq_some_iff.mp e
  dsimp only at e
  split at e
  · cases e
    exact ⟨H₀, Z, ρ, τ, C, _, _, R, e1, fun v H1 ρ1 R1 h1 s1 => ⟨_, h1.int_inv, k H1 ρ1 R1 s1⟩⟩
  · cases e
def cutT (xs : List T) (lo hi : Option Int) : List T := (xs.drop (HT.sIx xs.length 0 lo)).take (HT.sIx xs.length xs.length hi - HT.sIx xs.length 0 lo)
theorem RTs.cut {M : Hp} {ρ : Rho} {ts : List T} {vs : List V} (h : RTs K M ρ ts vs) (lo hi : Option Int) : RTs K M ρ (cutT ts lo hi) (cutV vs lo hi) := by
  unfold cutT cutV
  rw [h.length]
  exact (h.drop _).take _
def fSl (f : FE) (lo hi : FO) : FN := fun τ C => (f τ C).bind fun p => (lo τ p.2).bind fun q => (hi τ q.2).bind fun r => (liT r.2 p.1).map fun ts => (cutT ts q.1 r.1, r.2)
theorem i_sl {f : FE} {lo hi : FO} (h : trN K (fSl f lo hi) σ H Q) : tSl (rSlL K) (trE K f) (trO K lo) (trO K hi) σ H Q := by
  obtain ⟨H₀, Z, ρ, τ, C, ts, C', R, e, k⟩ := h
  unfold fSl at e
  obtain ⟨⟨t, C1⟩, e1, e⟩ := Option.bind_eq_some_iff.mp e
  obtain ⟨⟨l, C2⟩, e2, e⟩ := Option.bind_eq_some_iff.mp e
  obtain ⟨⟨u, C3⟩, e3, e⟩ := Option.bind_eq_some_iff.mp e
  obtain ⟨us, e4, e⟩ := Option.map_eq_some_iff.mp e
  cases e
  refine ⟨H₀, Z, ρ, τ, C, t, C1, R, e1, fun v H1 ρ1 R1 h1 s1 => ?_⟩
  refine ⟨H₀, Z, ρ1, τ, C1, l, C2, R1, e2, fun H2 ρ2 R2 s2 => ?_⟩
  refine ⟨H₀, Z, ρ2, τ, C2, u, _, R2, e3, fun H3 ρ3 R3 s3 => ?_⟩
  obtain ⟨a, vs, ev, q, r⟩ := R3.li ((h1.step s2).step s3) e4
  exact ⟨a, vs, ev, q, fun p hp => k p H3 ρ3 _ R3 hp (r.cut l u) ((s1.trans s2).trans s3)⟩

/-! ### new lists of lists -/
def rCatL (K : PySem.W.Frag) : R2 := fun x y H Q => ∃ l b xs zs, x = .ref l ∧ y = .ref b ∧ SqL K H l xs ∧ SqL K H b zs ∧ xs.length + zs.length ≤ lim ∧ ∀ p, H p = none → Q (.ref p) (upd H p (.lst (xs ++ zs)))
def gCat (t1 t2 : T) (C : Sto) : Option (List T) := (liT C t1).bind fun ts => (liT C t2).bind fun us => if ts.length + us.length ≤ lim then some (ts ++ us) else none
theorem o_cat {x y : V} (h : ∃ t1 t2, trW K σ [t1, t2] [x, y] (gCat t1 t2) H Q) : rCatL K x y H Q := by
  obtain ⟨t1, t2, H₀, Z, ρ, τ, C, us, R, r, e, k⟩ := h
  obtain ⟨_, _, z, r1, r⟩ := r.cons_inv
  cases z
  obtain ⟨_, _, z, r2, r⟩ := r.cons_inv
  cases z
  unfold gCat at e
  obtain ⟨ts, e1, e⟩ := Option.bind_eq_some_iff.mp e
  obtain ⟨ws, e2, e⟩ := Option.bind_eq_some_iff.mp e
  split at e
  · rename_i hl
    cases e
    obtain ⟨a, vs, ea, qa, ra⟩ := R.li r1 e1
    obtain ⟨b, zs, eb, qb, rb⟩ := R.li r2 e2
    exact ⟨a, b, vs, zs, ea, eb, qa, qb, by rw [ra.length, rb.length]; exact hl, fun p hp => k p H ρ _ R hp (ra.append rb) .refl⟩
  · cases e
def fDisp (fa : FN) : FN := fArgN fa fun ts _ => if ts.length ≤ lim then some ts else none
theorem i_disp {fa : FN} (hz : lim ≤ sizeLine) (h : trN K (fDisp fa) σ H Q) : tLst (trA K fa) σ H Q := by
  obtain ⟨H₀, Z, ρ, τ, C, ts, C', R, e, k⟩ := i_argN h
  refine ⟨H₀, Z, ρ, τ, C, ts, C', R, e, fun vs H1 ρ1 R1 h1 s1 => ?_⟩
  obtain ⟨us, H₀', Z', ρ', τ', C1, ws, R', r, e, k⟩ := k vs H1 ρ1 R1 h1 s1
  split at e
  · rename_i hl
    cases e
    exact ⟨by rw [r.length]; exact Nat.le_trans hl hz, fun p hp => k p H1 ρ' _ R' hp r .refl⟩
  · cases e
def gList (ts : List T) (C : Sto) : Option (List T) := match ts with
  | [t] => sqT C t
  | _ => none
def gLen (ts : List T) (C : Sto) : Option (T × Sto) := match ts with
  | [t] => (sqT C t).map fun us => (.int us.length, C)
  | _ => none
def ints? : List T → Option (List Int)
  | [] => some []
  | .int i :: ts => (ints? ts).map (i :: ·)
  | _ :: _ => none
def bls? : List T → Option (List Bool)
  | [] => some []
  | .bl i :: ts => (bls? ts).map (i :: ·)
  | _ :: _ => none
theorem bls?_inv {M : Hp} {ρ : Rho} : ∀ {ts : List T} {vs : List V} {ns : List Bool}, RTs K M ρ ts vs → bls? ts = some ns → vs = ns.map V.bl
  | [], _, _, r, e => by cases e; rw [r.nil_inv]; rfl
  | .bl i :: ts, _, _, r, e => by
    obtain ⟨v, vs, rfl, r1, r⟩ := r.cons_inv
    obtain ⟨ns, e1, rfl⟩ := Option.map_eq_some_iff.mp e
    rw [List.map_cons, r1.bl_inv, bls?_inv r e1]
  | .non :: _, _, _, _, e => by cases e
  | .int _ :: _, _, _, _, e => by cases e
  | .str _ :: _, _, _, _, e => by cases e
  | .lst _ :: _, _, _, _, e => by cases e
  | .tup _ :: _, _, _, _, e => by cases e
  | .cell _ :: _, _, _, _, e => by cases e
theorem bls?_map (ns : List Bool) : bls? (ns.map T.bl) = some ns := by
  induction ns with
  | nil => rfl
  | cons n ns ih => simp [bls?, ih]
def gInts (c : List Int → Bool) (f : List Int → Int) (ts : List T) (C : Sto) : Option (T × Sto) := match ts with
  | [t] => (liT C t).bind fun us => (ints? us).bind fun ns => if c ns = true then some (.int (f ns), C) else none
  | _ => none
def gBls (f : List Bool → Bool) (ts : List T) (C : Sto) : Option (T × Sto) := match ts with
  | [t] => (liT C t).bind fun us => (bls? us).map fun ns => (.bl (f ns), C)
  | _ => none
def rBls (K : PySem.W.Frag) (f : List Bool → Bool) : List V → Hp → VK → Prop := fun xs H Q => ∃ p ns, xs = [.ref p] ∧ SqL K H p (ns.map V.bl) ∧ Q (.bl (f ns)) H
theorem o_bls {f : List Bool → Bool} {xs : List V} (h : ∃ ts, trV K σ ts xs (gBls f ts) H Q) : rBls K f xs H Q := by
  obtain ⟨ts, H₀, Z, ρ, τ, C, t, C', R, r, e, k⟩ := h
  unfold gBls at e
  split at e
  · obtain ⟨v, _, rfl, r1, r⟩ := r.cons_inv
    rw [r.nil_inv]
    obtain ⟨us, e1, e⟩ := Option.bind_eq_some_iff.mp e
    obtain ⟨ns, e2, e⟩ := Option.map_eq_some_iff.mp e
    cases e
    obtain ⟨a, vs, ea, qa, ra⟩ := R.li r1 e1
    have := bls?_inv ra e2
    subst this
    exact ⟨a, ns, by rw [ea], qa, k _ H ρ R .bl .refl⟩
  · cases e
def gI2 (f : Int → Int → Int) (ts : List T) (C : Sto) : Option (T × Sto) := match ts with
  | [.int i, .int j] => some (.int (f i j), C)
  | _ => none
/-! ### tests, and, or, not -/
def truT (C : Sto) : T → Option Bool
  | .non => some false
  | .bl b => some b
  | .int i => some (i != 0)
  | .lst ts => some (!ts.isEmpty)
  | .tup ts => some (!ts.isEmpty)
  | .cell c => (C[c]?).map fun ts => !ts.isEmpty
  | .str _ => none
  | .exc _ => none
def fTru (f : FE) : FB := fun τ C => (f τ C).bind fun p => (truT p.2 p.1).map fun b => (b, p.2)
theorem isEmpty_rt {M : Hp} {ρ : Rho} {ts : List T} {vs : List V} (h : RTs K M ρ ts vs) : vs.isEmpty = ts.isEmpty := by
  cases ts with
  | nil => rw [h.nil_inv]; rfl
  | cons t ts => obtain ⟨v, r, rfl, _⟩ := h.cons_inv; rfl
theorem i_tru {f : FE} {Q : Bool → Hp → Prop} (h : trT K (fTru f) σ H Q) : trE K f σ H fun x H1 => ∃ k, TruV K x H1 k ∧ Q k H1 := by
  obtain ⟨H₀, Z, ρ, τ, C, b, C', R, e, k⟩ := h
  unfold fTru at e
  obtain ⟨⟨t, C1⟩, e1, e⟩ := Option.bind_eq_some_iff.mp e
  obtain ⟨b', e2, e⟩ := Option.map_eq_some_iff.mp e
  cases e
  refine ⟨H₀, Z, ρ, τ, C, t, _, R, e1, fun v H1 ρ1 R1 h1 s1 => ⟨b, ?_, k H1 ρ1 R1 s1⟩⟩
  dsimp only at e2 R1
  cases t with
  | non => rw [h1.non_inv]; cases e2; rfl
  | bl c => rw [h1.bl_inv]; cases e2; rfl
  | int i => rw [h1.int_inv]; cases e2; rfl
  | str x => cases e2
  | exc x => cases e2
  | lst ts =>
    obtain ⟨a, vs, ea, qa, ra⟩ := R1.li h1 rfl
    rw [ea]; cases e2
    exact .inl ⟨vs, qa, by rw [isEmpty_rt ra]⟩
  | tup ts =>
    unfold RT at h1
    obtain ⟨a, vs, ea, qa, ra⟩ := h1
    rw [ea]; cases e2
    exact .inr (.inl ⟨vs, SqT.msk qa, by rw [isEmpty_rt ra]⟩)
  | cell c =>
    obtain ⟨ts, e3, e2⟩ := Option.map_eq_some_iff.mp e2
    obtain ⟨a, vs, ea, qa, ra⟩ := R1.li h1 e3
    rw [ea]; cases e2
    exact .inl ⟨vs, qa, by rw [isEmpty_rt ra]⟩
def fTst (f : FE) : FB := fun τ C => (f τ C).bind fun p => match p.1 with
  | .bl b => some (b, p.2)
  | _ => none
theorem i_tst {f : FE} {te : TE} {Q : Bool → Hp → Prop} (hi : ∀ σ H Q, trE K f σ H Q → te σ H Q) (h : trT K (fTst f) σ H Q) : tTest te σ H Q := by
  obtain ⟨H₀, Z, ρ, τ, C, b, C', R, e, k⟩ := h
  unfold fTst at e
  obtain ⟨⟨t, C1⟩, e1, e⟩ := Option.bind_eq_some_iff.mp e
  dsimp only at e
  split at e
  · cases e
    exact hi _ _ _ ⟨H₀, Z, ρ, τ, C, _, _, R, e1, fun v H1 ρ1 R1 h1 s1 => ⟨_, h1.bl_inv, k H1 ρ1 R1 s1⟩⟩
  · cases e
def fAndT (c d : FB) : FB := fun τ C => (c τ C).bind fun p => if p.1 = true then d τ p.2 else some (false, p.2)
def fOrT (c d : FB) : FB := fun τ C => (c τ C).bind fun p => if p.1 = true then some (true, p.2) else d τ p.2
def fNotT (c : FB) : FB := fun τ C => (c τ C).map fun p => (!p.1, p.2)
theorem i_andT {c d : FB} {Q : Bool → Hp → Prop} (h : trT K (fAndT c d) σ H Q) : tAnd (trT K c) (trT K d) σ H Q := by
  obtain ⟨H₀, Z, ρ, τ, C, b, C', R, e, k⟩ := h
  unfold fAndT at e
  obtain ⟨⟨b1, C1⟩, e1, e⟩ := Option.bind_eq_some_iff.mp e
  refine ⟨H₀, Z, ρ, τ, C, b1, C1, R, e1, fun H1 ρ1 R1 s1 => ?_⟩
  cases b1 with
  | true =>
    rw [if_pos rfl] at e ⊢
    exact ⟨H₀, Z, ρ1, τ, C1, b, C', R1, e, fun H2 ρ2 R2 s2 => k H2 ρ2 R2 (s1.trans s2)⟩
  | false =>
    rw [if_neg (by simp)] at e ⊢
    cases e
    exact k H1 ρ1 R1 s1
theorem i_orT {c d : FB} {Q : Bool → Hp → Prop} (h : trT K (fOrT c d) σ H Q) : tOr (trT K c) (trT K d) σ H Q := by
  obtain ⟨H₀, Z, ρ, τ, C, b, C', R, e, k⟩ := h
  unfold fOrT at e
  obtain ⟨⟨b1, C1⟩, e1, e⟩ := Option.bind_eq_some_iff.mp e
  refine ⟨H₀, Z, ρ, τ, C, b1, C1, R, e1, fun H1 ρ1 R1 s1 => ?_⟩
  cases b1 with
  | false =>
    rw [if_neg (by simp)] at e ⊢
    exact ⟨H₀, Z, ρ1, τ, C1, b, C', R1, e, fun H2 ρ2 R2 s2 => k H2 ρ2 R2 (s1.trans s2)⟩
  | true =>
    rw [if_pos rfl] at e ⊢
    cases e
    exact k H1 ρ1 R1 s1
theorem i_notT {c : FB} {Q : Bool → Hp → Prop} (h : trT K (fNotT c) σ H Q) : tNot (trT K c) σ H Q := by
  obtain ⟨H₀, Z, ρ, τ, C, b, C', R, e, k⟩ := h
  unfold fNotT at e
  obtain ⟨⟨b1, C1⟩, e1, e⟩ := Option.map_eq_some_iff.mp e
  cases e
  exact ⟨H₀, Z, ρ, τ, C, b1, _, R, e1, fun H1 ρ1 R1 s1 => k H1 ρ1 R1 s1⟩
def fAndV (fa fb : FE) : FE := fun τ C => (fa τ C).bind fun p => match p.1 with
  | .bl true => fb τ p.2
  | .bl false => some (.bl false, p.2)
  | _ => none
def fOrV (fa fb : FE) : FE := fun τ C => (fa τ C).bind fun p => match p.1 with
  | .bl false => fb τ p.2
  | .bl true => some (.bl true, p.2)
  | _ => none
def fNotV (fa : FE) : FE := fun τ C => (fa τ C).bind fun p => match p.1 with
  | .bl b => some (.bl (!b), p.2)
  | _ => none
theorem i_andV {fa fb : FE} (h : trE K (fAndV fa fb) σ H Q) : tAndV (trE K fa) (trE K fb) σ H Q := by
  obtain ⟨H₀, Z, ρ, τ, C, t, C', R, e, k⟩ := h
  unfold fAndV at e
  obtain ⟨⟨t1, C1⟩, e1, e⟩ := Option.bind_eq_some_iff.mp e
  refine ⟨H₀, Z, ρ, τ, C, t1, C1, R, e1, fun v H1 ρ1 R1 h1 s1 => ?_⟩
  dsimp only at e
  split at e
  · refine ⟨true, h1.bl_inv, ?_⟩
    rw [if_pos rfl]
    exact ⟨H₀, Z, ρ1, τ, C1, t, C', R1, e, fun v H2 ρ2 R2 h2 s2 => k v H2 ρ2 R2 h2 (s1.trans s2)⟩
  · refine ⟨false, h1.bl_inv, ?_⟩
    rw [if_neg (by simp)]
    cases e
    exact k _ H1 ρ1 R1 .bl s1
  · cases e
def fIte (c : FB) (fa fb : FE) : FE := fun τ C => (c τ C).bind fun p => if p.1 = true then fa τ p.2 else fb τ p.2
def fChain (fa fb fc : FE) (p q : Int → Int → Bool) : FE := fun τ C => (fa τ C).bind fun x => (fb τ x.2).bind fun y => match x.1, y.1 with
  | .int i, .int j => if p i j = true then (fc τ y.2).bind fun z => match z.1 with
      | .int l => some (.bl (q j l), z.2)
      | _ => none
    else some (.bl false, y.2)
  | _, _ => none
theorem i_chain {fa fb fc : FE} {p q : Int → Int → Bool} (h : trE K (fChain fa fb fc p q) σ H Q) :
    tChain (fun x y H Q => ∃ i j, x = .int i ∧ y = .int j ∧ Q (.bl (p i j)) H) (fun x y H Q => ∃ i j, x = .int i ∧ y = .int j ∧ Q (.bl (q i j)) H) (trE K fa) (trE K fb) (trE K fc) σ H Q := by
  obtain ⟨H₀, Z, ρ, τ, C, t, C', R, e, k⟩ := h
  unfold fChain at e
  obtain ⟨⟨t1, C1⟩, e1, e⟩ := Option.bind_eq_some_iff.mp e
  obtain ⟨⟨t2, C2⟩, e2, e⟩ := Option.bind_eq_some_iff.mp e
  refine ⟨H₀, Z, ρ, τ, C, t1, C1, R, e1, fun x H1 ρ1 R1 h1 s1 => ?_⟩
  refine ⟨H₀, Z, ρ1, τ, C1, t2, C2, R1, e2, fun y H2 ρ2 R2 h2 s2 => ?_⟩
  dsimp only at e
  split at e
  · refine ⟨_, _, h1.int_inv, h2.int_inv, _, rfl, ?_⟩
    split at e
    · rename_i hp
      rw [if_pos hp]
      obtain ⟨⟨t3, C3⟩, e3, e⟩ := Option.bind_eq_some_iff.mp e
      refine ⟨H₀, Z, ρ2, τ, C2, t3, C3, R2, e3, fun z H3 ρ3 R3 h3 s3 => ?_⟩
      dsimp only at e
      split at e
      · cases e
        exact ⟨_, _, h2.int_inv, h3.int_inv, k _ H3 ρ3 R3 .bl ((s1.trans s2).trans s3)⟩
      · cases e
    · rename_i hp
      rw [if_neg hp]
      cases e
      exact k _ H2 ρ2 R2 .bl (s1.trans s2)
  · cases e

/-! ### lists that are changed -/
def fSetI (fe fo fi : FE) : FS := fun τ C => (fe τ C).bind fun p => (fo τ p.2).bind fun q => (fi τ q.2).bind fun r => match q.1, r.1 with
  | .cell c, .int i => (r.2[c]?).bind fun ts => (ixN ts.length i).map fun j => (.nx, τ, r.2.set c (ts.set j p.1))
  | _, _ => none
def fMut (fo : FE) (fa : FN) (g : List T → List T → Option (List T)) : FS := fun τ C => (fo τ C).bind fun p => (fa τ p.2).bind fun q => match p.1 with
  | .cell c => (q.2[c]?).bind fun ts => (g ts q.1).map fun us => (.nx, τ, q.2.set c us)
  | _ => none
end
end TL
/-! TreeE -/
set_option linter.all false
namespace TL
open PySem L2

/-! ### trees without cells -/
mutual
def CF : T → Bool
  | .cell _ => false
  | .lst ts => CFs ts
  | .tup ts => CFs ts
  | _ => true
def CFs : List T → Bool
  | [] => true
  | t :: ts => CF t && CFs ts
end
theorem CFs_iff {ts : List T} : CFs ts = true ↔ ∀ t ∈ ts, CF t = true := by
  induction ts with
  | nil => simp [CFs]
  | cons t ts ih => simp [CFs, ih]
section
variable {K : PySem.W.Frag} {σ : St} {H : Hp} {Q : VK}
mutual
theorem RT.cf {M : Hp} {ρ ρ' : Rho} : ∀ {t : T} {v : V}, CF t = true → RT K M ρ t v → RT K M ρ' t v
  | .non, _, _, h => by unfold RT at *; exact h
  | .bl _, _, _, h => by unfold RT at *; exact h
  | .int _, _, _, h => by unfold RT at *; exact h
  | .str _, _, _, h => by unfold RT at *; exact h
  | .exc _, _, _, h => by unfold RT at *; exact h
  | .lst ts, v, c, h => by
    unfold RT at *
    obtain ⟨a, vs, e, q, r⟩ := h
    exact ⟨a, vs, e, q, RTs.cf (by unfold CF at c; exact c) r⟩
  | .tup ts, v, c, h => by
    unfold RT at *
    obtain ⟨a, vs, e, q, r⟩ := h
    exact ⟨a, vs, e, q, RTs.cf (by unfold CF at c; exact c) r⟩
  | .cell c, _, h, _ => by unfold CF at h; cases h
theorem RTs.cf {M : Hp} {ρ ρ' : Rho} : ∀ {ts : List T} {vs : List V}, CFs ts = true → RTs K M ρ ts vs → RTs K M ρ' ts vs
  | [], _, _, h => by unfold RTs at *; exact h
  | t :: ts, vs, c, h => by
    unfold CFs at c
    rw [Bool.and_eq_true] at c
    unfold RTs at *
    obtain ⟨v, r, e, h1, h2⟩ := h
    exact ⟨v, r, e, RT.cf c.1 h1, RTs.cf c.2 h2⟩
end
def mapO (f : T → Option T) : List T → Option (List T)
  | [] => some []
  | t :: ts => (f t).bind fun u => (mapO f ts).map (u :: ·)
def dr : Nat → Sto → T → Option T
  | 0, _, t => if CF t = true then some t else none
  | n + 1, C, .cell c => (C[c]?).bind fun ts => (mapO (dr n C) ts).map T.lst
  | n + 1, C, .lst ts => if CFs ts = true then some (.lst ts) else (mapO (dr n C) ts).map T.lst
  | n + 1, C, .tup ts => if CFs ts = true then some (.tup ts) else (mapO (dr n C) ts).map T.tup
  | _ + 1, _, t => if CF t = true then some t else none
theorem mask_less {Z : Addr → Prop} {ρ : Rho} : Same (mask H Z ρ) (mask H Z []) := fun a o h => by
  obtain ⟨h1, h2, h3⟩ := mask_some.mp h
  exact mask_of h1 (by simp) h3
theorem RTs.mapO {M M' : Hp} {ρ ρ' : Rho} {f : T → Option T} (hf : ∀ t v t', RT K M ρ t v → f t = some t' → RT K M' ρ' t' v) : ∀ {ts : List T} {vs : List V} {us : List T}, RTs K M ρ ts vs → TL.mapO f ts = some us → RTs K M' ρ' us vs
  | [], _, _, h, e => by cases e; rw [h.nil_inv]; exact .nil
  | t :: ts, _, us, h, e => by
    obtain ⟨v, r, rfl, h1, h2⟩ := h.cons_inv
    unfold TL.mapO at e
    obtain ⟨u, e1, e⟩ := Option.bind_eq_some_iff.mp e
    obtain ⟨us, e2, rfl⟩ := Option.map_eq_some_iff.mp e
    exact .cons (hf t v u h1 e1) (RTs.mapO hf h2 e2)
theorem Rel.dr {H₀ : Hp} {Z : Addr → Prop} {ρ : Rho} {τ : TSt} {C : Sto} (R : Rel K H₀ Z ρ τ C σ H) : ∀ (n : Nat) (t : T) (v : V) (t' : T), RT K (mask H Z ρ) ρ t v → TL.dr n C t = some t' → RT K (mask H Z []) [] t' v := by
  intro n
  induction n with
  | zero =>
    intro t v t' h e
    unfold TL.dr at e
    split at e
    · rename_i hc
      cases e
      exact (h.cf hc).mono mask_less (fun c a z => z)
    · cases e
  | succ n ih =>
    intro t v t' h e
    by_cases hc : ∃ c, t = .cell c
    · obtain ⟨c, rfl⟩ := hc
      unfold TL.dr at e
      obtain ⟨ts, e1, e⟩ := Option.bind_eq_some_iff.mp e
      obtain ⟨us, e2, rfl⟩ := Option.map_eq_some_iff.mp e
      unfold RT at h
      obtain ⟨a, ea, qa⟩ := h
      obtain ⟨ts', vs, c1, c2, c3⟩ := R.cel c a qa
      rw [e1] at c1; cases c1
      unfold RT
      exact ⟨a, vs, ea, .of (mask_of (R.frs a (List.mem_of_getElem? qa)).2 (by simp) c2), c3.mapO ih e2⟩
    · have fin : CF t = true → t = t' → RT K (mask H Z []) [] t' v := fun hc z => by
        subst z
        exact (h.cf hc).mono mask_less (fun c a z => z)
      have e'' : ∀ {p : Bool} {u : T}, (if p = true then some u else none) = some t' → p = true ∧ u = t' := fun {p u} z => by
        cases p with
        | true => exact ⟨rfl, Option.some.inj z⟩
        | false => cases z
      cases t with
      | cell c => exact absurd ⟨c, rfl⟩ hc
      | lst ts =>
        unfold TL.dr at e
        split at e
        · rename_i hc
          exact fin (by unfold CF; exact hc) (Option.some.inj e)
        · obtain ⟨us, e2, rfl⟩ := Option.map_eq_some_iff.mp e
          unfold RT at h
          obtain ⟨a, vs, ea, qa, ra⟩ := h
          unfold RT
          exact ⟨a, vs, ea, mask_less.seq qa, ra.mapO ih e2⟩
      | tup ts =>
        unfold TL.dr at e
        split at e
        · rename_i hc
          exact fin (by unfold CF; exact hc) (Option.some.inj e)
        · obtain ⟨us, e2, rfl⟩ := Option.map_eq_some_iff.mp e
          unfold RT at h
          obtain ⟨a, vs, ea, qa, ra⟩ := h
          unfold RT
          exact ⟨a, vs, ea, Same.tseq mask_less qa, ra.mapO ih e2⟩
      | non => exact fin (e'' e).1 (e'' e).2
      | bl _ => exact fin (e'' e).1 (e'' e).2
      | int _ => exact fin (e'' e).1 (e'' e).2
      | str _ => exact fin (e'' e).1 (e'' e).2
      | exc _ => exact fin (e'' e).1 (e'' e).2

/-! ### == -/
def eqF : T → T → Option Bool
  | .bl a, .bl b => some (a == b)
  | .int a, .int b => some (a == b)
  | .str a, .str b => some (a == b)
  | _, _ => none
def eqL (e : T → T → Option Bool) : List T → List T → Option Bool
  | [], [] => some true
  | x :: xs, y :: ys => (e x y).bind fun a => (eqL e xs ys).map fun b => a && b
  | _, _ => none
def eqT : Nat → T → T → Option Bool
  | n + 1, .lst xs, .lst ys => if xs.length = ys.length then eqL (eqT n) xs ys else some false
  | _, a, b => eqF a b
def rEqT (K : PySem.W.Frag) (neg : Bool) : R2 := fun x y H Q => ∃ t1 t2 b, RT K H [] t1 x ∧ RT K H [] t2 y ∧ eqT 5 t1 t2 = some b ∧ Q (.bl (if neg then !b else b)) H
def gEq (neg : Bool) (t1 t2 : T) (C : Sto) : Option (T × Sto) := (dr 3 C t1).bind fun u1 => (dr 3 C t2).bind fun u2 => (eqT 5 u1 u2).map fun b => (.bl (if neg then !b else b), C)
theorem o_eq {neg : Bool} {x y : V} (h : ∃ t1 t2, trV K σ [t1, t2] [x, y] (gEq neg t1 t2) H Q) : rEqT K neg x y H Q := by
  obtain ⟨t1, t2, H₀, Z, ρ, τ, C, t, C', R, r, e, k⟩ := h
  obtain ⟨_, _, z, r1, r⟩ := r.cons_inv
  cases z
  obtain ⟨_, _, z, r2, r⟩ := r.cons_inv
  cases z
  unfold gEq at e
  obtain ⟨u1, e1, e⟩ := Option.bind_eq_some_iff.mp e
  obtain ⟨u2, e2, e⟩ := Option.bind_eq_some_iff.mp e
  obtain ⟨b, e3, e⟩ := Option.map_eq_some_iff.mp e
  cases e
  exact ⟨u1, u2, b, (R.dr _ _ _ _ r1 e1).mono mask_sub (fun c a z => z), (R.dr _ _ _ _ r2 e2).mono mask_sub (fun c a z => z), e3, k _ H ρ R .bl .refl⟩
/-! ### in -/
def inL (e : T → Option Bool) : List T → Option Bool
  | [] => some false
  | x :: xs => (e x).bind fun a => (inL e xs).map fun b => a || b
def gIn (neg : Bool) (t1 t2 : T) (C : Sto) : Option (T × Sto) := (dr 3 C t1).bind fun u1 => (liT C t2).bind fun ts => (mapO (dr 3 C) ts).bind fun us => (inL (fun u => eqT 5 u u1) us).map fun b => (.bl (if neg then !b else b), C)
/-! ### calls of defs -/
def spT (K : PySem.W.Frag) (n : Nat) (F : List T → Option T) : Sp := fun vs H Q _ => ∃ Z ts t, ts.length = n ∧ (∀ a, Z a → H a ≠ none) ∧ RTs K (mask H Z []) [] ts vs ∧ F ts = some t ∧
  ∀ v H', Same H H' → RT K (mask H' Z []) [] t v → Q v H'
theorem spT_len {n : Nat} {F : List T → Option T} : ∀ vs H Q E, spT K n F vs H Q E → vs.length = n := fun vs H Q E ⟨Z, ts, t, h, _, r, _⟩ => by rw [r.length, h]
def sca : T → Bool
  | .non => true
  | .bl _ => true
  | .int _ => true
  | .str _ => true
  | _ => false
theorem RT.sca {M M' : Hp} {ρ ρ' : Rho} {t : T} {v : V} (hs : TL.sca t = true) (h : RT K M ρ t v) : RT K M' ρ' t v := by
  cases t with
  | non => unfold RT at *; exact h
  | bl _ => unfold RT at *; exact h
  | int _ => unfold RT at *; exact h
  | str _ => unfold RT at *; exact h
  | _ => cases hs
theorem RTs.sca {M M' : Hp} {ρ ρ' : Rho} : ∀ {ts : List T} {vs : List V}, ts.all TL.sca = true → RTs K M ρ ts vs → RTs K M' ρ' ts vs
  | [], _, _, h => by rw [h.nil_inv]; exact .nil
  | t :: ts, _, hs, h => by
    obtain ⟨v, r, rfl, h1, h2⟩ := h.cons_inv
    rw [List.all_cons, Bool.and_eq_true] at hs
    exact .cons (h1.sca hs.1) (h2.sca hs.2)
def gCall (n : Nat) (F : List T → Option T) (ts : List T) (C : Sto) : Option (T × Sto) := if ts.length = n then
    if CFs ts = true then (F ts).map fun t => (t, C)
    else (mapO (dr 3 C) ts).bind fun us => (F us).bind fun t => if sca t = true then some (t, C) else none
  else none
theorem mask_in {Z : Addr → Prop} {ρ : Rho} : mask H (fun a => Z a ∨ a ∈ ρ) [] = mask H Z ρ := by
  funext a
  unfold mask
  by_cases h : Z a ∨ a ∈ ρ
  · rw [if_pos (.inl h), if_pos h]
  · rw [if_neg (by rintro (z | z); · exact h z
                   · cases z), if_neg h]
theorem mapO_len {f : T → Option T} : ∀ {ts us : List T}, mapO f ts = some us → us.length = ts.length
  | [], _, e => by cases e; rfl
  | t :: ts, us, e => by
    unfold mapO at e
    obtain ⟨u, e1, e⟩ := Option.bind_eq_some_iff.mp e
    obtain ⟨us, e2, rfl⟩ := Option.map_eq_some_iff.mp e
    simp [mapO_len e2]
theorem Rel.cel_some {H₀ : Hp} {Z : Addr → Prop} {ρ : Rho} {τ : TSt} {C : Sto} (R : Rel K H₀ Z ρ τ C σ H) {a : Addr} (ha : a ∈ ρ) : H a ≠ none := fun z => by
  obtain ⟨c, hc⟩ := List.mem_iff_getElem?.mp ha
  obtain ⟨_, _, _, h, _⟩ := R.cel c a hc
  rw [z] at h; cases h
theorem o_call {n : Nat} {F : List T → Option T} {vs : List V} {E : XK} (h : ∃ ts, trV K σ ts vs (gCall n F ts) H Q) : spT K n F vs H Q E := by
  obtain ⟨ts, H₀, Z, ρ, τ, C, t, C', R, r, e, k⟩ := h
  unfold gCall at e
  split at e
  · rename_i hn
    split at e
    · rename_i hc
      obtain ⟨u, e1, e⟩ := Option.map_eq_some_iff.mp e
      cases e
      refine ⟨fun a => Z a ∨ a ∈ ρ, ts, _, hn, fun a z => ?_, by rw [mask_in]; exact r.cf hc, e1, fun v H' sm rv => ?_⟩
      · rcases z with z | z
        · exact R.zd a z
        · exact R.cel_some z
      · obtain ⟨R', st⟩ := R.same sm
        rw [mask_in] at rv
        exact k v H' ρ R' (rv.mono (.refl _) (fun c a z => by cases z)) st
    · obtain ⟨us, e1, e⟩ := Option.bind_eq_some_iff.mp e
      obtain ⟨u, e2, e⟩ := Option.bind_eq_some_iff.mp e
      split at e
      · rename_i hs
        cases e
        refine ⟨Z, us, _, (mapO_len e1).trans hn, R.zd, r.mapO (fun t v t' h e => R.dr _ _ _ _ h e) e1, e2, fun v H' sm rv => ?_⟩
        obtain ⟨R', st⟩ := R.same sm
        exact k v H' ρ R' (rv.sca hs) st
      · cases e
  · cases e
/-! ### a def's body -/
def st0 (m : Nat) (ts : List T) : TSt := ts.map some ++ List.replicate (m - ts.length) none
theorem Rel.start {Z : Addr → Prop} {ts : List T} {vs : List V} {m : Nat} (hz : ∀ a, Z a → H a ≠ none) (h : RTs K (mask H Z []) [] ts vs) :
    Rel K H Z [] (st0 m ts) [] (vs.map some ++ List.replicate (m - vs.length) none) H := by
  refine ⟨.refl _, (fun a ha => nomatch ha), List.nodup_nil, hz, fun i t e => ?_, (fun c a e => nomatch e), rfl, by simp [st0, h.length]⟩
  unfold st0 at e
  have hi : i < ts.length := by
    by_cases hi : i < ts.length
    · exact hi
    · rw [List.getElem?_append_right (by simpa using hi), List.getElem?_replicate] at e
      split at e <;> cases e
  rw [List.getElem?_append_left (by simpa using hi), List.getElem?_map] at e
  cases q : ts[i]? with
  | none => rw [q] at e; cases e
  | some u =>
    rw [q] at e; cases e
    obtain ⟨v, h1, h2⟩ := h.get q
    refine ⟨v, ?_, h2⟩
    rw [List.getElem?_append_left (by simpa [h.length] using hi), List.getElem?_map, h1]
    rfl
def EndT (t : T) : Fl × TSt × Sto → Prop
  | (.rt r, _, C) => dr 3 C r = some t
  | (.nx, _, _) => t = .non
  | _ => False
theorem body_T {n m : Nat} {G : List T → Option T} {F : FS} {vs : List V} {E : XK} (hG : ∀ ts t, ts.length = n → G ts = some t → ∃ r, F (st0 m ts) [] = some r ∧ EndT t r) (h : spT K n G vs H Q E) :
    trS K W F { nx := fun _ H' => Q .non H', rt := Q } (vs.map some ++ List.replicate (m - vs.length) none) H := by
  obtain ⟨Z, ts, t, hn, hz, r, e, k⟩ := h
  obtain ⟨⟨fl, τ', C'⟩, e1, e2⟩ := hG ts t hn e
  refine ⟨H, Z, [], st0 m ts, [], fl, τ', C', Rel.start hz r, e1, fun σ' H' ρ' R' _ => ?_⟩
  cases fl with
  | nx =>
    have : t = .non := e2
    subst this
    exact k .non H' R'.old .non
  | bk => exact False.elim e2
  | ct => exact False.elim e2
  | rt u => exact fun v hv => k v H' R'.old (R'.dr _ _ _ _ hv e2)
  | ex c => exact False.elim e2
/-! ### comprehensions -/
def tComp (wi : TI) (sc : St → St) (g : TG) (tc : TT) (te : TE) : TE := fun σ H Q => wi σ H fun J H1 => ∀ D, H1 D = none → ∃ W : Nat → Nat → St → Hp → Prop, (∃ m, W 0 m (sc σ) (upd H1 D (.lst []))) ∧ ∀ i m σc H, W i m σc H →
  (J.stop i H ∧ Q (.ref D) H) ∨ (J.go i H ∧ ∀ x H', J.yld i H x H' → g x σc H' fun σ2 H2 => tc σ2 H2 fun b H3 =>
    if b = true then te σ2 H3 fun y H4 => ∃ ys m', H4 D = some (.lst ys) ∧ ys.length < lim ∧ m' < m ∧ W (i + 1) m' σ2 (upd H4 D (.lst (ys ++ [y]))) else ∃ m', m' < m ∧ W (i + 1) m' σ2 H3)
def compGo (g : FG) (tc : FB) (fe : FE) (τ : TSt) : List T → Sto → Option (List T × Sto)
  | [], C => some ([], C)
  | t :: ts, C => (g t C τ).bind fun τ1 => (tc τ1 C).bind fun b => if b.1 = true then (fe τ1 b.2).bind fun y => (compGo g tc fe τ ts y.2).map fun r => (y.1 :: r.1, r.2) else compGo g tc fe τ ts b.2
def scT (k : Nat) (is : List Nat) (τ : TSt) : TSt := List.replicate k none ++ is.map fun i => (τ[i]?).getD none
def scV (k : Nat) (is : List Nat) (σ : St) : St := List.replicate k none ++ is.map fun i => (σ[i]?).getD none
def Own (k : Nat) (g : FG) : Prop := ∀ t C τ τ1, g t C τ = some τ1 → τ1.length = τ.length ∧ ∀ j, k ≤ j → τ1[j]? = τ[j]?
theorem Rel.writeZ {H₀ : Hp} {Z : Addr → Prop} {ρ : Rho} {τ : TSt} {C : Sto} {D : Addr} {o : HO} (R : Rel K H₀ Z ρ τ C σ H) (hz : Z D) (h0 : H₀ D = none) : Rel K H₀ Z ρ τ C σ (upd H D o) ∧ mask (upd H D o) Z ρ = mask H Z ρ := by
  have em : mask (upd H D o) Z ρ = mask H Z ρ := by
    funext b
    unfold mask
    split
    · rfl
    · rename_i q
      rw [upd_ne (by rintro rfl; exact q (.inl hz))]
  refine ⟨⟨fun b u q => ?_, R.frs, R.nd, fun b z q => ?_, fun i t e => ?_, fun d b e => ?_, R.len, R.lnt⟩, em⟩
  · rw [upd_ne (by rintro rfl; rw [h0] at q; cases q)]
    exact R.old b u q
  · by_cases hb : b = D
    · subst hb; rw [upd_same] at q; cases q
    · rw [upd_ne hb] at q; exact R.zd b z q
  · rw [em]; exact R.loc i t e
  · rw [em]
    obtain ⟨us, ws, h1, h2, h3⟩ := R.cel d b e
    refine ⟨us, ws, h1, ?_, h3⟩
    rw [upd_ne]
    · exact h2
    · rintro rfl
      exact (R.frs b (List.mem_of_getElem? e)).2 hz
theorem scT_weak {k : Nat} {is : List Nat} {τ τ1 : TSt} (hl : τ1.length = (scT k is τ).length) (h : ∀ j, k ≤ j → τ1[j]? = (scT k is τ)[j]?) : ∀ (i : Nat) t, (scT k is τ)[i]? = some (some t) → τ1[i]? = some (some t) := fun i t e => by
  by_cases hi : i < k
  · unfold scT at e
    rw [List.getElem?_append_left (by simpa using hi), List.getElem?_replicate, if_pos hi] at e
    cases e
  · rw [h i (by omega)]; exact e
theorem comp_any {J : It} {H₀ : Hp} {Z : Addr → Prop} {ρ : Rho} {τ : TSt} {C C' : Sto} {P : Sto → Prop} {g : FG} {tc : FB} {fe : FE} {k : Nat} {is : List Nat} {ts ys : List T} {H1 : Hp} {D : Addr}
    (R : Rel K H₀ Z ρ τ C σ H1) (hg : Own k g) (w : Wlk K J Z H1 ρ ts P) (hl : ts.length < lim) (e : compGo g tc fe (scT k is τ) ts C = some (ys, C')) (hD : H1 D = none)
    (q : ∀ p H' ρ' vs, Rel K H₀ Z ρ' τ C' σ H' → H' p = none → RTs K (mask H' Z ρ') ρ' ys vs → Step H1 H' ρ ρ' → Q (.ref p) (upd H' p (.lst vs))) :
    ∃ W : Nat → Nat → St → Hp → Prop, (∃ m, W 0 m (scV k is σ) (upd H1 D (.lst []))) ∧ ∀ i m σc H, W i m σc H →
      (J.stop i H ∧ Q (.ref D) H) ∨ (J.go i H ∧ ∀ x H', J.yld i H x H' → trG K g x σc H' fun σ2 H2 => trT K tc σ2 H2 fun b H3 =>
        if b = true then trE K fe σ2 H3 fun y H4 => ∃ ys m', H4 D = some (.lst ys) ∧ ys.length < lim ∧ m' < m ∧ W (i + 1) m' σ2 (upd H4 D (.lst (ys ++ [y]))) else ∃ m', m' < m ∧ W (i + 1) m' σ2 H3) := by
  obtain ⟨nz, nr, n0⟩ := R.fresh_not hD
  have hZD : ∀ a, Z a → a ≠ D := fun a z h => by subst h; exact nz z
  refine ⟨fun i m σc H => ∃ ρ' C1 done rest vs, m = rest.length ∧ ts.drop i = rest ∧ i ≤ ts.length ∧ done.length ≤ i ∧ Rel K H₀ (fun a => Z a ∨ a = D) ρ' (scT k is τ) C1 σc H ∧ H D = some (.lst vs) ∧
    RTs K (mask H (fun a => Z a ∨ a = D) ρ') ρ' done vs ∧ Same H1 H ∧ (∃ f, ρ' = ρ ++ f ∧ ∀ a ∈ f, H1 a = none) ∧ ∃ yr, compGo g tc fe (scT k is τ) rest C1 = some (yr, C') ∧ ys = done ++ yr, ?_, ?_⟩
  · refine ⟨ts.length, ρ, C, [], ts, [], rfl, rfl, Nat.zero_le _, Nat.le_refl _, ?_, upd_same, .nil, ?_, ⟨[], by simp, by simp⟩, ys, e, rfl⟩
    · have sm : Same (mask H1 Z ρ) (mask (upd H1 D (.lst [])) (fun a => Z a ∨ a = D) ρ) := fun a o z => by
        obtain ⟨h1, h2, h3⟩ := mask_some.mp z
        have ne : a ≠ D := fun z => by rw [z, hD] at h3; cases h3
        exact mask_of (by rintro (z | z); · exact h1 z
                          · exact ne z) h2 (by rw [upd_ne ne]; exact h3)
      refine ⟨fun b o z => ?_, fun a ha => ⟨(R.frs a ha).1, ?_⟩, R.nd, fun a z h => ?_, fun i t z => ?_, fun c a z => ?_, R.len, by simp [scT, scV]⟩
      · rw [upd_ne (by rintro rfl; rw [n0] at z; cases z)]
        exact R.old b o z
      · rintro (z | z)
        · exact (R.frs a ha).2 z
        · subst z; exact nr ha
      · by_cases ha : a = D
        · subst ha; rw [upd_same] at h; cases h
        · rw [upd_ne ha] at h
          rcases z with z | z
          · exact R.zd a z h
          · exact ha z
      · unfold scT at z
        by_cases hi : i < k
        · rw [List.getElem?_append_left (by simpa using hi), List.getElem?_replicate, if_pos hi] at z
          cases z
        · rw [List.getElem?_append_right (by simpa using Nat.le_of_not_lt hi), List.getElem?_map] at z
          obtain ⟨j, hj, z⟩ := Option.map_eq_some_iff.mp z
          have hτ : τ[j]? = some (some t) := by
            cases q : τ[j]? with
            | none => rw [q] at z; cases z
            | some u => rw [q] at z; exact congrArg some z
          obtain ⟨v, h1, h2⟩ := R.loc j t hτ
          refine ⟨v, ?_, h2.mono sm (fun c a z => z)⟩
          unfold scV
          rw [List.getElem?_append_right (by simpa using Nat.le_of_not_lt hi), List.getElem?_map]
          simp only [List.length_replicate] at hj ⊢
          rw [hj]
          simp [h1]
      · obtain ⟨us, vs, h1, h2, h3⟩ := R.cel c a z
        refine ⟨us, vs, h1, ?_, h3.mono sm (fun c a z => z)⟩
        rw [upd_ne (by rintro rfl; rw [hD] at h2; cases h2)]
        exact h2
    · intro b o z
      rw [upd_ne (by rintro rfl; rw [hD] at z; cases z)]
      exact z
  · rintro i m σc H ⟨ρ', C1, done, rest, vs, rfl, hd, hi, hdl, R1, hDv, rd, sm1, ⟨f, hf, hfn⟩, yr, e1, hys⟩
    have ix : ∀ (c : Nat) (a : Addr), ρ[c]? = some a → ρ'[c]? = some a := fun c a h => by rw [hf]; exact get_pre h
    have smm : Same (mask H1 Z ρ) (mask H (fun a => Z a ∨ a = D) ρ') := fun a o z => by
      obtain ⟨h1, h2, h3⟩ := mask_some.mp z
      have ne : a ≠ D := fun z => by rw [z, hD] at h3; cases h3
      refine mask_of (by rintro (z | z); · exact h1 z
                         · exact ne z) (fun z => ?_) (sm1 a o h3)
      rw [hf] at z
      rcases List.mem_append.mp z with z | z
      · exact h2 z
      · rw [hfn a z] at h3; cases h3
    cases rest with
    | nil =>
      have hi' : i = ts.length := by
        have : ts.length ≤ i := by simpa using hd
        omega
      subst hi'
      cases e1
      refine .inl ⟨w.stop _ _ _ _ _ _ _ R1 smm ix (.inr sm1), ?_⟩
      -- the heap without the list
      have hm : mask (fun b => if b = D then none else H b) Z ρ' = mask H (fun a => Z a ∨ a = D) ρ' := by
        funext a
        unfold mask
        by_cases ha : a = D
        · subst ha
          rw [if_pos (show (Z a ∨ a = a) ∨ a ∈ ρ' from .inl (.inr rfl))]
          split
          · rfl
          · exact if_pos rfl
        · by_cases hz : Z a ∨ a ∈ ρ'
          · rw [if_pos hz, if_pos (by rcases hz with z | z; · exact .inl (.inl z)
                                      · exact .inr z)]
          · rw [if_neg hz, if_neg (by rintro ((z | z) | z); · exact hz (.inl z)
                                      · exact ha z
                                      · exact hz (.inr z))]
            exact if_neg ha
      have hu : upd (fun b => if b = D then none else H b) D (.lst vs) = H := by
        funext b
        unfold upd
        by_cases hb : b = D
        · subst hb; rw [if_pos rfl, hDv]
        · rw [if_neg hb]; exact if_neg hb
      have hs : Same H1 (fun b => if b = D then none else H b) := fun b o z => by
        show (if b = D then none else H b) = some o
        rw [if_neg (by rintro rfl; rw [hD] at z; cases z)]
        exact sm1 b o z
      have st : Step H1 (fun b => if b = D then none else H b) ρ ρ' := ⟨hs, f, hf, hfn⟩
      have R2 : Rel K H₀ Z ρ' τ C' σ (fun b => if b = D then none else H b) := by
        refine ⟨R.old.trans hs, fun a ha => ⟨(R1.frs a ha).1, fun z => (R1.frs a ha).2 (.inl z)⟩, R1.nd, fun a z h => R.zd a z (hs.free h), fun j t z => ?_, fun c a z => ?_, R1.len, R.lnt⟩
        · obtain ⟨v, h1, h2⟩ := R.loc j t z
          exact ⟨v, h1, h2.step st⟩
        · obtain ⟨us, ws, h1, h2, h3⟩ := R1.cel c a z
          refine ⟨us, ws, h1, ?_, by rw [hm]; exact h3⟩
          show (if a = D then none else H a) = _
          rw [if_neg (fun z' => (R1.frs a (List.mem_of_getElem? z)).2 (.inr z'))]
          exact h2
      have fin := q D (fun b => if b = D then none else H b) ρ' vs R2 (if_pos rfl) (by rw [hm, hys, List.append_nil]; exact rd) st
      rw [hu] at fin
      exact fin
    | cons t rest =>
      have ht : ts[i]? = some t := by
        have := congrArg (fun l => l[0]?) hd
        simpa using this
      have hlt : i < ts.length := (List.getElem?_eq_some_iff.mp ht).1
      have hd' : ts.drop (i + 1) = rest := by
        have := congrArg List.tail hd
        simpa using this
      obtain ⟨g1, g2⟩ := w.go i t _ _ ρ' _ C1 σc H ht R1 smm ix (.inr sm1)
      refine .inr ⟨g1, fun x H' hy => ?_⟩
      obtain ⟨smy, rx⟩ := g2 x H' hy
      obtain ⟨R1', st'⟩ := R1.same smy
      unfold compGo at e1
      obtain ⟨τ1, eg, e1⟩ := Option.bind_eq_some_iff.mp e1
      obtain ⟨⟨b, C2⟩, et, e1⟩ := Option.bind_eq_some_iff.mp e1
      obtain ⟨o1, o2⟩ := hg _ _ _ _ eg
      refine ⟨_, _, ρ', _, C1, t, τ1, R1', rx, eg, fun σ2 R2 => ?_⟩
      refine ⟨_, _, ρ', τ1, C1, b, C2, R2, et, fun H3 ρ3 R3 s3 => ?_⟩
      have s13 := st'.trans s3
      obtain ⟨f3, hf3, hfn3⟩ := s13.pre
      have pre3 : ∃ f, ρ3 = ρ ++ f ∧ ∀ a ∈ f, H1 a = none := ⟨f ++ f3, by rw [hf3, hf, List.append_assoc], fun a ha => by
        rcases List.mem_append.mp ha with ha | ha
        · exact hfn a ha
        · exact sm1.free (hfn3 a ha)⟩
      cases b with
      | false =>
        rw [if_neg (by simp)] at e1
        dsimp only
        rw [if_neg (by simp)]
        exact ⟨rest.length, by simp, ρ3, C2, done, rest, vs, rfl, hd', hlt, Nat.le_succ_of_le hdl, R3.weak (by rw [o1]) (scT_weak o1 o2), s13.same _ _ hDv, rd.step s13, sm1.trans s13.same, pre3, yr, e1, hys⟩
      | true =>
        rw [if_pos rfl] at e1
        dsimp only
        rw [if_pos rfl]
        obtain ⟨⟨ty, C3⟩, ee, e1⟩ := Option.bind_eq_some_iff.mp e1
        obtain ⟨⟨yr', C4⟩, e3, e2⟩ := Option.map_eq_some_iff.mp e1
        cases e2
        refine ⟨_, _, ρ3, τ1, C2, ty, C3, R3, ee, fun y H4 ρ4 R4 hy4 s4 => ?_⟩
        have s14 := s13.trans s4
        obtain ⟨f4, hf4, hfn4⟩ := s14.pre
        have pre4 : ∃ f, ρ4 = ρ ++ f ∧ ∀ a ∈ f, H1 a = none := ⟨f ++ f4, by rw [hf4, hf, List.append_assoc], fun a ha => by
          rcases List.mem_append.mp ha with ha | ha
          · exact hfn a ha
          · exact sm1.free (hfn4 a ha)⟩
        have rd4 := rd.step s14
        obtain ⟨R5, em⟩ := R4.writeZ (D := D) (o := .lst (vs ++ [y])) (.inr rfl) n0
        refine ⟨vs, rest.length, s14.same _ _ hDv, by rw [rd.length]; omega, by simp, ρ4, C3, done ++ [ty], rest, vs ++ [y], rfl, hd', hlt, by simp; omega, R5.weak (by rw [o1]) (scT_weak o1 o2), upd_same, ?_, ?_, pre4, yr', e3, by rw [hys]; simp⟩
        · rw [em]
          exact rd4.append (.cons hy4 .nil)
        · intro b o z
          rw [upd_ne (by rintro rfl; rw [hD] at z; cases z)]
          exact (sm1.trans s14.same) b o z
def fComp (f : FE) (k : Nat) (is : List Nat) (g : FG) (tc : FB) (fe : FE) : FN := fun τ C => (f τ C).bind fun p => (liT p.2 p.1).bind fun ts => if ts.length < lim then compGo g tc fe (scT k is τ) ts p.2 else none
def fCompR1 (f : FE) (k : Nat) (is : List Nat) (g : FG) (tc : FB) (fe : FE) : FN := fun τ C => (f τ C).bind fun p => match p.1 with
  | .int j => if j < 50000 ∧ -(2 ^ 62) ≤ j then compGo g tc fe (scT k is τ) (rngT 0 j.toNat) p.2 else none
  | _ => none
theorem i_compR1 {f : FE} {k : Nat} {is : List Nat} {g : FG} {tc : FB} {fe : FE} (hg : Own k g) (h : trN K (fCompR1 f k is g tc fe) σ H Q) : tComp (iRng1 (trA K (fCons f fNil))) (scV k is) (trG K g) (trT K tc) (trE K fe) σ H Q := by
  obtain ⟨H₀, Z, ρ, τ, C, ys, C', R, e, q⟩ := h
  unfold fCompR1 at e
  obtain ⟨⟨t, C1⟩, e1, e⟩ := Option.bind_eq_some_iff.mp e
  dsimp only at e
  split at e
  · split at e
    · rename_i hj
      refine ⟨H₀, Z, ρ, τ, C, _, C1, R, by simp [fCons, fNil, e1]; rfl, fun vs H1 ρ1 R1 h1 s1 => ?_⟩
      obtain ⟨v, r, rfl, q1, q2⟩ := h1.cons_inv
      rw [q2.nil_inv]
      refine ⟨_, by rw [q1.int_inv], hj.2, by omega, fun D hD => comp_any (P := fun _ => True) R1 hg wlk_range (by simp [rngT, lim]; omega) e hD fun p H' ρ' vs R' hp rv s' => q p H' ρ' vs R' hp rv (s1.trans s')⟩
    · cases e
  · cases e
theorem own_gN {k i : Nat} (h : i < k) : Own k (gN i) := fun t C τ τ1 e => by
  cases e
  refine ⟨by simp, fun j hj => ?_⟩
  rw [List.getElem?_set_ne (by omega)]
end
end TL
/-! TreeF -/
set_option linter.all false
namespace TL
open PySem L2
section
variable {K : PySem.W.Frag} {σ : St} {H : Hp}
theorem trE_mono {f : FE} {Q Q' : VK} (h : trE K f σ H Q) (hq : ∀ v H', Q v H' → Q' v H') : trE K f σ H Q' := by
  obtain ⟨H₀, Z, ρ, τ, C, t, C', R, e, k⟩ := h
  exact ⟨H₀, Z, ρ, τ, C, t, C', R, e, fun v H' ρ' a b c => hq _ _ (k v H' ρ' a b c)⟩
theorem trA_mono {f : FN} {Q Q' : List V → Hp → Prop} (h : trA K f σ H Q) (hq : ∀ v H', Q v H' → Q' v H') : trA K f σ H Q' := by
  obtain ⟨H₀, Z, ρ, τ, C, t, C', R, e, k⟩ := h
  exact ⟨H₀, Z, ρ, τ, C, t, C', R, e, fun v H' ρ' a b c => hq _ _ (k v H' ρ' a b c)⟩
theorem i_op {fa fb : FE} {g : T → T → Sto → Option (T × Sto)} {r : R2} {Q : VK} (ho : ∀ σ H Q x y, (∃ t1 t2, trV K σ [t1, t2] [x, y] (g t1 t2) H Q) → r x y H Q) (h : trE K (fBin fa fb g) σ H Q) : tOp r (trE K fa) (trE K fb) σ H Q :=
  trE_mono (i_bin h) fun _ _ q => trE_mono q fun _ _ q => ho _ _ _ _ _ q
theorem i_opN {fa fb : FE} {g : T → T → Sto → Option (List T)} {r : R2} {Q : VK} (ho : ∀ σ H Q x y, (∃ t1 t2, trW K σ [t1, t2] [x, y] (g t1 t2) H Q) → r x y H Q) (h : trN K (fBinN fa fb g) σ H Q) : tOp r (trE K fa) (trE K fb) σ H Q :=
  trE_mono (i_binN h) fun _ _ q => trE_mono q fun _ _ q => ho _ _ _ _ _ q
theorem i_cb {fa : FN} {g : List T → Sto → Option (T × Sto)} {r : List V → Hp → VK → Prop} {Q : VK} (ho : ∀ σ H Q xs, (∃ ts, trV K σ ts xs (g ts) H Q) → r xs H Q) (h : trE K (fArg fa g) σ H Q) : tCB r (trA K fa) σ H Q :=
  trA_mono (i_arg h) fun _ _ q => ho _ _ _ _ q
theorem i_call {fa : FN} {n : Nat} {F : List T → Option T} {E : XK} {Q : VK} (h : trE K (fArg fa (gCall n F)) σ H Q) : tCall (spT K n F) [] E (trA K fa) σ H Q :=
  trA_mono (i_arg h) fun vs _ q => by rw [List.append_nil]; exact o_call q
def gDm (ts : List T) (C : Sto) : Option (T × Sto) := match ts with
  | [.int i, .int j] => if 0 < j ∧ j < 1073741824 then some (.tup [.int (i / j), .int (i % j)], C) else none
  | _ => none
def gInt1 (ts : List T) (C : Sto) : Option (T × Sto) := match ts with
  | [.int i] => some (.int i, C)
  | [.bl k] => some (.int (if k then 1 else 0), C)
  | _ => none
def gNeg (t : T) (C : Sto) : Option (T × Sto) := match t with
  | .int i => some (.int (-i), C)
  | _ => none
def gIsB (t1 t2 : T) (C : Sto) : Option (T × Sto) := match t1, t2 with
  | .bl a, .bl b => some (.bl (a == b), C)
  | _, _ => none
def fRep (fa : FN) (fb : FE) : FN := fun τ C => (fa τ C).bind fun p => (fb τ p.2).bind fun q => match q.1 with
  | .int k => if -(2 ^ 63) ≤ k ∧ k < 2 ^ 63 ∧ p.1.length * k.toNat ≤ lim then some ((List.replicate k.toNat p.1).flatten, q.2) else none
  | _ => none
end
end TL
/-! TreeG -/
set_option linter.all false
namespace TL
open PySem L2

/-! ### the words of the bodies -/
def mulOkB (i j : Int) : Bool := !(decide (Builtin.Int.intBits i > shortFactorBits) && decide (Builtin.Int.intBits j > shortFactorBits) && Builtin.Int.intTooBig (Builtin.Int.intBits i + Builtin.Int.intBits j))
def insAt {α : Type} (xs : List α) (i : Int) (y : α) : List α := xs.take (if i < 0 then (i + (xs.length : Int)).toNat else min i.toNat xs.length) ++ y :: xs.drop (if i < 0 then (i + (xs.length : Int)).toNat else min i.toNat xs.length)
def gtApp (xs vs : List T) : Option (List T) := match vs with
  | [y] => if xs.length < lim then some (xs ++ [y]) else none
  | _ => none
def gtIns (xs vs : List T) : Option (List T) := match vs with
  | [.int i, y] => if xs.length < lim ∧ -(2 ^ 63) ≤ i ∧ i < 2 ^ 63 then some (insAt xs i y) else none
  | _ => none
def maxL : List Int → Int
  | [] => 0
  | n :: ns => ns.foldl (fun a b => if b > a then b else a) n
abbrev fAdd (a b : FE) : FE := fBin a b (gI fun i j => .int (i + j))
abbrev fMul (a b : FE) : FE := fBin a b (gIc mulOkB fun i j => .int (i * j))
abbrev fMod (a b : FE) : FE := fBin a b (gIc (fun _ j => decide (0 < j)) fun i j => .int (i % j))
abbrev fFdv (a b : FE) : FE := fBin a b (gIc (fun _ j => decide (0 < j ∧ j < 1073741824)) fun i j => .int (i / j))
abbrev fPow (a b : FE) : FE := fBin a b (gIc (fun i j => decide (0 ≤ j ∧ j ≤ 1000000 ∧ i.natAbs < 2 ^ 64)) fun i j => .int (i ^ j.toNat))
abbrev fLt (a b : FE) : FE := fBin a b (gI fun i j => .bl (decide (i < j)))
abbrev fGt (a b : FE) : FE := fBin a b (gI fun i j => .bl (decide (j < i)))
abbrev fEq (a b : FE) : FE := fBin a b (gEq false)
abbrev fNe (a b : FE) : FE := fBin a b (gEq true)
abbrev fLeLe (a b c : FE) : FE := fChain a b c (fun i j => decide (i ≤ j)) (fun i j => decide (i ≤ j))
abbrev fIx (a b : FE) : FE := fBin a b gIx
abbrev fCat (a b : FE) : FN := fBinN a b gCat
abbrev fAll (a : FN) : FE := fArg a (gBls fun bs => bs.all id)
abbrev fCall (n : Nat) (F : List T → Option T) (a : FN) : FE := fArg a (gCall n F)
def isiT (c : String) : T → Option Bool
  | .non => some (c == "NoneType")
  | .bl _ => some (c == "bool" || c == "int")
  | .int _ => some (c == "int")
  | .str _ => some (c == "str")
  | .lst _ => some (c == "list")
  | .cell _ => some (c == "list")
  | .tup _ => some (c == "tuple")
  | .exc _ => none
def fIsi (c : String) (a : FE) : FE := fUn a fun t C => (isiT c t).map fun b => (.bl b, C)
def fTrueT : FB := fun _ C => some (true, C)

def runT (B : FS) (m : Nat) (ts : List T) : Option T := match B (st0 m ts) [] with
  | some (.rt r, _, C) => dr 3 C r
  | some (.nx, _, _) => some .non
  | _ => none
theorem runT_ok {B : FS} {m n : Nat} : ∀ ts t, ts.length = n → runT B m ts = some t → ∃ r, B (st0 m ts) [] = some r ∧ EndT t r := fun ts t _ e => by
  unfold runT at e
  split at e
  · rename_i h; exact ⟨_, h, e⟩
  · rename_i h; cases e; exact ⟨_, h, rfl⟩
  · cases e
end TL
/-! ModelA -/
set_option linter.all false
set_option maxRecDepth 100000
namespace L2
open PySem PySem.Spec PyProof.Rows
theorem PE.imp {X : Cx} {e : Expr} {t t' : TE} (h : PE X e t) (hi : ∀ σ H Q, t' σ H Q → t σ H Q) : PE X e t' := fun pins s σ H Q I q => h pins s σ H Q I (hi σ H Q q)
theorem PT.imp {X : Cx} {e : Expr} {t t' : TT} (h : PT X e t) (hi : ∀ σ H Q, t' σ H Q → t σ H Q) : PT X e t' := fun pins s σ H Q I q => h pins s σ H Q I (hi σ H Q q)
theorem PW.imp {X : Cx} {e : Expr} {t t' : TT} (h : PW X e t) (hi : ∀ σ H Q, t' σ H Q → t σ H Q) : PW X e t' := fun wh pins s σ H Q I q => h wh pins s σ H Q I (hi σ H Q q)
theorem PA.imp {X : Cx} {e : List Expr} {t t' : TA} (h : PA X e t) (hi : ∀ σ H Q, t' σ H Q → t σ H Q) : PA X e t' := fun pos pins s σ H Q I q => h pos pins s σ H Q I (hi σ H Q q)
theorem PS.imp {X : Cx} {e : Stmt} {t t' : TS} (h : PS X e t) (hi : ∀ D σ H, t' D σ H → t D σ H) : PS X e t' := fun pins s σ H D I q => h pins s σ H D I (hi D σ H q)
theorem PSs.imp {X : Cx} {e : List Stmt} {t t' : TS} (h : PSs X e t) (hi : ∀ D σ H, t' D σ H → t D σ H) : PSs X e t' := fun pins s σ H D I q => h pins s σ H D I (hi D σ H q)
theorem PG.imp {X : Cx} {e : Expr} {t t' : TG} (h : PG X e t) (hi : ∀ v σ H Q, t' v σ H Q → t v σ H Q) : PG X e t' := fun pins s σ H v u Q I r q => h pins s σ H v u Q I r (hi v σ H Q q)

theorem PO.imp {X : Cx} {e : Option Expr} {t t' : TO} (h : PO X e t) (hi : ∀ σ H Q, t' σ H Q → t σ H Q) : PO X e t' := fun pins s σ H Q I q => h pins s σ H Q I (hi σ H Q q)
end L2
namespace TL
open PySem PySem.Spec PyProof.Rows L2

theorem lim_line : lim ≤ sizeLine := by unfold lim; rw [sizeLine_eq]; decide

/-! ### lists by values: + and * of lists that are read -/
section
variable {X : Cx}
theorem op_catL : OpR X (binaryOp .Add) (rCatL X.K) := by
  intro pins s σ H x y v u Q I rx ry h
  obtain ⟨l, b, xs, zs, rfl, rfl, hH, hB, hz, q⟩ := h
  cases rx
  cases ry
  obtain ⟨its, r, p, hl⟩ := I.list hH
  obtain ⟨its2, r2, p2, hl2⟩ := I.list hB
  obtain ⟨⟨cls, dd, data, sl⟩, ho, hc, n, hd⟩ := id p.isList
  obtain ⟨⟨cls2, dd2, data2, sl2⟩, ho2, hc2, n2, hd2⟩ := id p2.isList
  simp only at hc hd hc2 hd2
  subst hc hd hc2 hd2
  have e1 := r.length
  have e2 := r2.length
  have hlim := lim_line
  have ea : its.toArray ++ its2.toArray = (its ++ its2).toArray := by simp
  refine concat_meets ⟨_, ho, rfl⟩ ⟨_, ho2, rfl⟩ noFill_list_add seq_list_add PySem.F.slot_list_add PySem.F.entry_list_add (PySem.F.args_list_add_2 _ _)
    (list_addW l b its.toArray its2.toArray n n2 dd dd2 sl sl2 (by rw [List.size_toArray, List.size_toArray]; omega)) ⟨ho, ho2, ?_⟩
  rw [ea]
  exact ⟨.ref _, _, I.lnew (t' := s.toks) (r.append r2) (by rw [List.length_append]; omega), rfl, q _ I.fresh⟩

/-! ### methods that change a list -/
theorem Vals.insAt {xs : List V} {us : List Value} {y : V} {u : Value} (h : Vals xs us) (r : RelV y u) (i : Int) : Vals (TL.insAt xs i y) (PySem.W.kl_ins us i u) := by
  unfold TL.insAt PySem.W.kl_ins
  rw [h.length]
  exact (L2.Vals.take _ h).append (.cons r (L2.Vals.drop _ h))
/-! ### sum, max, min, all, any -/
theorem boolsAre_of {bs : List Bool} : ∀ {us : List Value}, Vals (bs.map V.bl) us → us = bs.map Value.bool := by
  induction bs with
  | nil => intro us r; rw [List.map_nil] at r; cases r; rfl
  | cons n ns ih =>
    intro us r
    rw [List.map_cons] at r
    cases r with
    | cons r1 r2 =>
      cases r1
      rw [ih r2]; rfl
theorem range_allB (bs : List Bool) : ((List.range bs.length).all fun i => (bs[i]?).getD true) = bs.all id := by
  rw [Bool.eq_iff_iff, List.all_eq_true, List.all_eq_true]
  constructor
  · intro h b hb
    obtain ⟨i, hi, rfl⟩ := List.getElem_of_mem hb
    have := h i (List.mem_range.mpr hi)
    simpa [List.getElem?_eq_getElem hi] using this
  · intro h i hi
    have hi' := List.mem_range.mp hi
    simpa [List.getElem?_eq_getElem hi'] using h _ (List.getElem_mem hi')
theorem kept_it {s : Shared} {h' : Heap} {o : Obj} (hk : ∀ b x, b ∉ [s.heap.objs.size] → (s.heap.push o).get? b = some x → h'.get? b = some x) : ∀ b x, s.heap.get? b = some x → h'.get? b = some x :=
  fun b x e => hk b x (fun hm => by rw [List.mem_singleton.mp hm] at e; exact Nat.lt_irrefl _ (Heap.lt_size e)) (Heap.get?_push_of_some _ e)
theorem call_allL (hc : X.calm = true) : CallR X (.builtin "all") (rBls X.K (fun bs => bs.all id)) := by
  intro pins s σ H xs us Q I r h
  obtain ⟨p, bs, rfl, hq, q⟩ := h
  obtain ⟨u, rfl, ru⟩ := vals1 r
  cases ru
  obtain ⟨its, rv, pl, hz⟩ := I.list hq
  have hb := boolsAre_of rv
  subst hb
  have hlt : p < s.heap.objs.size := pl.lt
  refine call_all_walk (wpAny_pyIter_list pl.isList ?_)
  refine ⟨s.heap.objs.size, [s.heap.objs.size, p], [s.heap.objs.size], (bs.map Value.bool).toArray.size, _, _, fun i => (bs[i]?).getD true, rfl, Walks.list (A := X.A.in1) (I.ok.hd hc) _ p (Nat.ne_of_lt hlt) (bs.map Value.bool).toArray,
    ⟨⟨_, Heap.get?_push_size _ rfl, rfl, rfl⟩, pl.isList.push _⟩, fun i v s' Q' E' hP hQ => ?_, fun h' tk hk => ?_⟩
  · simp only [List.getElem?_toArray, List.getElem?_map] at hP
    cases e : bs[i]? with
    | none => rw [e] at hP; cases hP
    | some b =>
      rw [e] at hP; cases hP
      simp only [e, Option.getD_some] at hQ
      exact wpAny_truthy_bool hQ
  · have e : ((List.range (bs.map Value.bool).toArray.size).all fun i => (bs[i]?).getD true) = bs.all id := by
      rw [List.size_toArray, List.length_map]; exact range_allB bs
    rw [e]
    exact ⟨.bl _, H, I.kept (kept_it hk), rfl, q⟩
end

/-! ### == and in, deep -/
section
variable {X : Cx} {pins : List (Addr × Obj)} {σ : L2.St} {H : Hp} {s : Shared}
theorem eqF_at {A : Around} {t1 t2 : T} {x y : V} {u v : Value} {b : Bool} (h1 : RT X.K H [] t1 x) (h2 : RT X.K H [] t2 y) (r1 : RelV x u) (r2 : RelV y v) (e : eqF t1 t2 = some b) : SeqAt.EqAt A s u v b := by
  unfold eqF at e
  split at e <;> first
    | (cases e; done)
    | (cases e
       unfold RT at h1 h2
       subst h1 h2
       have q := eqAt_V (A := A) (s := s) r1 r2 rfl rfl
       exact q)
theorem eqF_same {t1 t2 : T} {x : V} {b : Bool} (h1 : RT X.K H [] t1 x) (h2 : RT X.K H [] t2 x) (e : eqF t1 t2 = some b) : b = true := by
  unfold eqF at e
  split at e <;> first
    | (cases e; done)
    | (cases e
       unfold RT at h1 h2
       rw [h1] at h2
       first | rfl | (cases h2; simp) | (exact nomatch h2))
theorem eqL_same {e : T → T → Option Bool} {vs : List V} (he : ∀ t1 t2 x b, RT X.K H [] t1 x → RT X.K H [] t2 x → e t1 t2 = some b → b = true) : ∀ {ts us : List T} {vs : List V} {b : Bool}, RTs X.K H [] ts vs → RTs X.K H [] us vs → eqL e ts us = some b → b = true
  | [], [], _, b, _, _, q => by cases q; rfl
  | t :: ts, u :: us, vs, b, h1, h2, q => by
    obtain ⟨v, r, rfl, a1, a2⟩ := h1.cons_inv
    obtain ⟨v', r', z, b1, b2⟩ := h2.cons_inv
    cases z
    unfold eqL at q
    obtain ⟨c, q1, q⟩ := Option.bind_eq_some_iff.mp q
    obtain ⟨d, q2, q⟩ := Option.map_eq_some_iff.mp q
    rw [he _ _ _ _ a1 b1 q1, eqL_same (vs := vs) he a2 b2 q2] at q
    exact q.symm
  | [], _ :: _, _, _, _, _, q => by cases q
  | _ :: _, [], _, _, _, _, q => by cases q
theorem eqT_same (I : Inv X pins σ H s) : ∀ (n : Nat) (t1 t2 : T) (x : V) (b : Bool), RT X.K H [] t1 x → RT X.K H [] t2 x → eqT n t1 t2 = some b → b = true := by
  intro n
  induction n with
  | zero => intro t1 t2 x b h1 h2 e; exact eqF_same h1 h2 (by unfold eqT at e; exact e)
  | succ n ih =>
    intro t1 t2 x b h1 h2 e
    by_cases hl : ∃ xs ys, t1 = .lst xs ∧ t2 = .lst ys
    · obtain ⟨xs, ys, rfl, rfl⟩ := hl
      unfold RT at h1 h2
      obtain ⟨a, vs, e1, q1, r1⟩ := h1
      obtain ⟨a', vs', e2, q2, r2⟩ := h2
      rw [e1] at e2; cases e2
      have := I.list_inj q1 q2
      subst this
      unfold eqT at e
      rw [if_pos (by rw [← r1.length, ← r2.length])] at e
      exact eqL_same (vs := vs) ih r1 r2 e
    · have e' : eqF t1 t2 = some b := by
        unfold eqT at e
        split at e
        · exact absurd ⟨_, _, rfl, rfl⟩ hl
        · exact e
      exact eqF_same h1 h2 e'
theorem eqL_at {e : T → T → Option Bool} {A : Around} (he : ∀ t1 t2 x y u v b, RT X.K H [] t1 x → RT X.K H [] t2 y → RelV x u → RelV y v → e t1 t2 = some b → SeqAt.EqAt A s u v b) :
    ∀ {ts us : List T} {vs ws : List V} {is js : List Value} {b : Bool}, RTs X.K H [] ts vs → RTs X.K H [] us ws → Vals vs is → Vals ws js → eqL e ts us = some b →
      ∃ f : Nat → Bool, (∀ j u v, is[j]? = some u → js[j]? = some v → SeqAt.EqAt A s u v (f j)) ∧ (List.range is.length).all f = b
  | [], [], _, _, _, _, b, h1, h2, v1, v2, q => by
    cases q
    rw [h1.nil_inv] at v1
    cases v1
    exact ⟨fun _ => true, fun j u v z => by simp at z, rfl⟩
  | t :: ts, u :: us, vs, ws, is, js, b, h1, h2, v1, v2, q => by
    obtain ⟨v, r, rfl, a1, a2⟩ := h1.cons_inv
    obtain ⟨v', r', rfl, b1, b2⟩ := h2.cons_inv
    unfold eqL at q
    obtain ⟨c, q1, q⟩ := Option.bind_eq_some_iff.mp q
    obtain ⟨d, q2, q⟩ := Option.map_eq_some_iff.mp q
    cases v1 with
    | cons x1 y1 =>
      cases v2 with
      | cons x2 y2 =>
        obtain ⟨f, f1, f2⟩ := eqL_at he a2 b2 y1 y2 q2
        refine ⟨fun j => match j with | 0 => c | j + 1 => f j, fun j u v z1 z2 => ?_, ?_⟩
        · cases j with
          | zero =>
            simp at z1 z2
            subst z1 z2
            exact he _ _ _ _ _ _ _ a1 b1 x1 x2 q1
          | succ j => exact f1 j u v (by simpa using z1) (by simpa using z2)
        · rw [List.length_cons, List.range_succ_eq_map, List.all_cons, List.all_map, ← q, ← f2]
          rfl
  | [], _ :: _, _, _, _, _, _, _, _, _, _, q => by cases q
  | _ :: _, [], _, _, _, _, _, _, _, _, _, q => by cases q
theorem eqT_at (I : Inv X pins σ H s) : ∀ (n : Nat) (A : Around) (t1 t2 : T) (x y : V) (u v : Value) (b : Bool), A.units + n < cLine → RT X.K H [] t1 x → RT X.K H [] t2 y → RelV x u → RelV y v → eqT n t1 t2 = some b → SeqAt.EqAt A s u v b := by
  intro n
  induction n with
  | zero => intro A t1 t2 x y u v b hu h1 h2 r1 r2 e; exact eqF_at h1 h2 r1 r2 (by unfold eqT at e; exact e)
  | succ n ih =>
    intro A t1 t2 x y u v b hu h1 h2 r1 r2 e
    by_cases hl : ∃ xs ys, t1 = .lst xs ∧ t2 = .lst ys
    · obtain ⟨xs, ys, rfl, rfl⟩ := hl
      have sm : x = y → b = true := fun z => by subst z; exact eqT_same I _ _ _ _ _ h1 h2 e
      unfold RT at h1 h2
      obtain ⟨a, vs, e1, q1, k1⟩ := h1
      obtain ⟨c, ws, e2, q2, k2⟩ := h2
      subst e1 e2
      cases r1
      cases r2
      by_cases hac : a = c
      · subst hac
        rw [sm rfl]
        exact SeqAt.EqAt.same _
      · obtain ⟨is, v1, p1, z1⟩ := I.list q1
        obtain ⟨js, v2, p2, z2⟩ := I.list q2
        have l1 := v1.length
        have l2 := v2.length
        unfold eqT at e
        split at e
        · rename_i hlen
          obtain ⟨f, f1, f2⟩ := eqL_at (A := A.in1) (fun t1 t2 x y u v b a1 a2 a3 a4 a5 => ih A.in1 t1 t2 x y u v b (by show A.units + 1 + n < cLine; omega) a1 a2 a3 a4 a5) k1 k2 v1 v2 e
          have q := SeqAt.EqAt.of_refs hac (SeqAt.RcAt.lists (A := A) (s := s) (e := f) p1.isList p2.isList (by rw [List.size_toArray, List.size_toArray, ← l1, ← l2, k1.length, k2.length]; exact hlen) (by omega) fun j h1 h2 =>
            f1 j _ _ (by simp) (by simp))
          rw [List.size_toArray, f2] at q
          exact q
        · rename_i hlen
          cases e
          refine SeqAt.EqAt.of_refs hac (SeqAt.RcAt.lists_lengths p1.isList p2.isList ?_ (by omega))
          rw [List.size_toArray, List.size_toArray, ← l1, ← l2, k1.length, k2.length]
          simpa using hlen
    · have e' : eqF t1 t2 = some b := by
        unfold eqT at e
        split at e
        · exact absurd ⟨_, _, rfl, rfl⟩ hl
        · exact e
      exact eqF_at h1 h2 r1 r2 e'
end
end TL
/-! ModelB -/
set_option linter.all false
set_option maxRecDepth 100000
namespace TL
open PySem PySem.Spec PyProof.Rows L2

/-! ### closures of comprehensions -/
def closL (cells : List (Str × Addr)) : List (Str × NameKind) → List (Str × Addr) → Option (List (Str × Addr))
  | [], acc => some acc
  | (n, k) :: r, acc => if (k == NameKind.free) = true then (match cells.lookup n with
      | some c => closL cells r ((n, c) :: acc)
      | none => none) else closL cells r acc
theorem closL_of {env : Env} : ∀ (ns : List (Str × NameKind)) (acc cl : List (Str × Addr)), closL env.cells ns acc = some cl →
    (forIn ns acc fun (x : Str × NameKind) (cs : List (Str × Addr)) => if (x.2 == NameKind.free) = true then do let c ← cellOf env x.1; pure (ForInStep.yield ((x.1, c) :: cs)) else pure (ForInStep.yield cs) : Sem (List (Str × Addr))) = pure cl
  | [], acc, cl, e => by cases e; rfl
  | (n, k) :: r, acc, cl, e => by
    unfold closL at e
    rw [List.forIn_cons]
    split at e
    · rename_i hk
      split at e
      · rename_i c hc
        have := closL_of r _ cl e
        simp only [hk, if_true]
        unfold cellOf
        rw [hc]
        exact this
      · cases e
    · rename_i hk
      have := closL_of r _ cl e
      simp only [hk, if_false]
      exact this
theorem clos_of {env : Env} {scope : Scope} {cl : List (Str × Addr)} (e : closL env.cells scope.names [] = some cl) : closureFor scope env = pure cl := by
  have h := closL_of scope.names [] cl e
  unfold closureFor
  first
    | exact h
    | (simp only [bind_pure] at *; exact h)
    | (show (forIn scope.names [] _ >>= fun r => pure r) = pure cl; rw [bind_pure]; exact h)
theorem closL_sub {cells : List (Str × Addr)} : ∀ (ns : List (Str × NameKind)) (acc cl : List (Str × Addr)), closL cells ns acc = some cl → (∀ x c, acc.lookup x = some c → cells.lookup x = some c) →
    (∀ x c, cl.lookup x = some c → cells.lookup x = some c)
  | [], acc, cl, e, h => by cases e; exact h
  | (n, k) :: r, acc, cl, e, h => by
    unfold closL at e
    split at e
    · split at e
      · rename_i c hc
        refine closL_sub r _ cl e fun x d hx => ?_
        rw [List.lookup_cons] at hx
        split at hx
        · rename_i q
          cases hx
          rw [eq_of_beq q]; exact hc
        · exact h x d hx
      · cases e
    · exact closL_sub r _ cl e h
theorem closL_has {cells : List (Str × Addr)} : ∀ (ns : List (Str × NameKind)) (acc cl : List (Str × Addr)), closL cells ns acc = some cl → ∀ x, ((x, NameKind.free) ∈ ns ∨ ∃ c, acc.lookup x = some c) → ∃ c, cl.lookup x = some c
  | [], acc, cl, e, x, h => by
    cases e
    rcases h with h | h
    · cases h
    · exact h
  | (n, k) :: r, acc, cl, e, x, h => by
    unfold closL at e
    split at e
    · split at e
      · rename_i c hc
        refine closL_has r _ cl e x ?_
        rcases h with h | h
        · rcases List.mem_cons.mp h with h | h
          · cases h
            exact .inr ⟨c, by simp [List.lookup_cons]⟩
          · exact .inl h
        · obtain ⟨d, hd⟩ := h
          by_cases hx : (x == n) = true
          · exact .inr ⟨c, by rw [List.lookup_cons, hx]⟩
          · refine .inr ⟨d, ?_⟩
            rw [List.lookup_cons]
            simp only [hx]
            exact hd
      · cases e
    · rename_i hk
      refine closL_has r _ cl e x ?_
      rcases h with h | h
      · rcases List.mem_cons.mp h with h | h
        · cases h; exact absurd rfl hk
        · exact .inl h
      · exact .inr h

abbrev compCx (X : Cx) (N : List Str) (scope : Scope) (cl : List (Str × Addr)) (C : Addr) (s3 : Shared) (H3 : Hp) (fp : List Addr) : Cx :=
  { X with N := N, s₀ := s3, H₀ := H3, env := compEnvC scope cl C X.env, outer := X.stack, stack := X.stack, ex := fp, fn := fun _ => false, pn := [], xe := fun _ _ => False }

theorem relabel_lookup {env : Env} : ∀ {names : List (Str × NameKind)} {x : Str}, (∀ y ∈ names, y.2 ≠ .cell) →
    ((names.map fun (n, k) => if (k == NameKind.free && env.scope.kind == .function && env.kindOf n == some .cell) = true then (n, NameKind.cell) else (n, k)).lookup x = some .cell ∨
     (names.map fun (n, k) => if (k == NameKind.free && env.scope.kind == .function && env.kindOf n == some .cell) = true then (n, NameKind.cell) else (n, k)).lookup x = some .free) → (x, NameKind.free) ∈ names
  | [], x, _, h => by rcases h with h | h <;> simp at h
  | (n, k) :: r, x, hc, h => by
    have ih := @relabel_lookup env r x (fun y hy => hc y (List.mem_cons_of_mem _ hy))
    have hk : k ≠ .cell := hc (n, k) List.mem_cons_self
    rw [List.map_cons] at h
    by_cases hx : (x == n) = true
    · have hx' : x = n := eq_of_beq hx
      subst hx'
      by_cases hcnd : (k == NameKind.free && env.scope.kind == .function && env.kindOf x == some .cell) = true
      · have : k = .free := by
          rw [Bool.and_eq_true, Bool.and_eq_true] at hcnd
          exact eq_of_beq hcnd.1.1
        subst this
        exact List.mem_cons_self
      · simp only [if_neg hcnd, List.lookup_cons, hx] at h
        rcases h with h | h
        · cases h; exact absurd rfl hk
        · cases h; exact List.mem_cons_self
    · refine List.mem_cons_of_mem _ (ih ?_)
      by_cases hcnd : (k == NameKind.free && env.scope.kind == .function && env.kindOf n == some .cell) = true
      · simp only [if_pos hcnd, List.lookup_cons, hx] at h
        exact h
      · simp only [if_neg hcnd, List.lookup_cons, hx] at h
        exact h

structure CompOk (X : Cx) (own fr : List Str) (is : List Nat) (scope : Scope) (cl : List (Str × Addr)) : Prop where
  clos : closL X.env.cells scope.names [] = some cl
  cell : ∀ y ∈ scope.names, y.2 ≠ .cell
  kind : scope.kind = .function
  names : ∀ y ∈ scope.names, y.2 = .local → scope.names.lookup y.1 = some .local
  pick : is.map (fun i => X.N[i]?) = fr.map some
  kx : fr.all (fun x => X.env.kindOf x == some .cell || X.env.kindOf x == some .free) = true
  ky : fr.all (fun x => (relabel scope X.env).names.lookup x == some .cell || (relabel scope X.env).names.lookup x == some .free) = true

section
variable {X : Cx} {own fr : List Str} {is : List Nat} {scope : Scope} {cl : List (Str × Addr)}
theorem kind_or {x : Option NameKind} (h : (x == some .cell || x == some .free) = true) : x = some .cell ∨ x = some .free := by
  rw [Bool.or_eq_true] at h
  rcases h with h | h
  · exact .inl (eq_of_beq h)
  · exact .inr (eq_of_beq h)

theorem comp_inv {pins : List (Addr × Obj)} {σ : L2.St} {H : Hp} {s : Shared} {h₁ : Heap} {fp : List Addr} {tk : Nat} (k : CompOk X own fr is scope cl) (I : Inv X pins σ H s) (hf : ∀ b ∈ fp, FpOk X pins H b ∧ b < s.heap.objs.size)
    (hn : h₁.Ns s.heap.objs.size (fun x => ([] : List (Str × Value)).reverse.lookup x)) (hs : Heap.SameBut s.heap.objs.size (s.heap.push { cls := .type "dict", data := .dict #[] }) h₁) :
    Inv (compCx X (own ++ fr) scope cl s.heap.objs.size s H fp) [] (scV own.length is σ) H { s with heap := h₁, toks := tk } := by
  have hk : ∀ b o, s.heap.get? b = some o → h₁.get? b = some o := fun b o e => (hs.2 b (Nat.ne_of_lt (Heap.lt_size e))).trans (Heap.get?_push_of_some _ e)
  have sub := closL_sub _ _ _ k.clos (fun x c z => by simp at z)
  have cellX : ∀ x c, cl.lookup x = some c → ∃ v, s.heap.IsCell c v := fun x c e => I.cell x c (sub x c e)
  have cellH : ∀ {c v}, s.heap.IsCell c v → h₁.IsCell c v := fun ⟨o, ho, hd⟩ => ⟨o, hk _ o ho, hd⟩
  have cne : ∀ x c, cl.lookup x = some c → c ≠ s.heap.objs.size := fun x c e z => by
    obtain ⟨v, o, ho, _⟩ := cellX x c e
    exact absurd (z ▸ Heap.lt_size ho) (Nat.lt_irrefl _)
  refine ⟨⟨I.ok.mod, k.kind, I.ok.glob, I.ok.blt, Nat.le_refl _, fun x y c h1 h2 => I.ok.inj x y c (sub x c h1) (sub y c h2), fun x hx => ?_, fun x c h => (by cases h), I.ok.hd, I.ok.frames, .inl rfl, fun b hb => ⟨Nat.ne_of_lt (hf b hb).2, fun x c e => (hf b hb).1.2.2.2.2.1 x c (sub x c e)⟩,
      fun b o e => I.bs b o e, Nat.le_trans I.ok.bsz I.sz, fun b o e hb => ?_, fun b hb z => ?_, I.stack, I.stkFree⟩,
    rfl, I.bare, Un.kept hk, ⟨_, hn, fun i x v h1 h2 h3 => ?_⟩, fun x c e => ?_, I.hok.fresh (Nat.le_refl _), fun x c e => I.freeC x c (sub x c e), fun p hp => absurd hp (by simp), I.hok.kept hk, ?_⟩
  · have hx' : (relabel scope X.env).names.lookup x = some .cell ∨ (relabel scope X.env).names.lookup x = some .free := hx
    exact closL_has _ _ _ k.clos x (.inl (relabel_lookup k.cell hx'))
  · rcases (hf b hb).1.2.2.2.1 with z | z
    · exact I.ok.noex b o e z
    · exact absurd (Nat.lt_of_lt_of_le (Heap.lt_size e) (Nat.le_trans I.ok.bsz z)) (Nat.lt_irrefl _)
  · rcases List.mem_cons.mp (I.stkSub b z) with q | q
    · exact (hf b hb).1.2.1 q
    · exact (hf b hb).1.2.2.1 q
  · -- a name from around
    have hi : ¬ i < own.length := fun hi => by
      unfold scV at h2
      rw [List.getElem?_append_left (by simpa using hi), List.getElem?_replicate, if_pos hi] at h2
      cases h2
    have hi' := Nat.le_of_not_lt hi
    unfold scV at h2
    rw [List.getElem?_append_right (by simpa using hi'), List.getElem?_map] at h2
    simp only [List.length_replicate] at h2
    obtain ⟨j, hj, z⟩ := Option.map_eq_some_iff.mp h2
    have hσ : σ[j]? = some (some v) := by
      cases q : σ[j]? with
      | none => rw [q] at z; cases z
      | some u => rw [q] at z; exact congrArg some z
    have h1' : fr[i - own.length]? = some x := by
      have : (own ++ fr)[i]? = some x := h1
      rw [List.getElem?_append_right hi'] at this
      exact this
    have hN : X.N[j]? = some x := by
      have := congrArg (fun l => l[i - own.length]?) k.pick
      simp only [List.getElem?_map, hj, h1', Option.map_some] at this
      exact Option.some.inj this
    have hxm : x ∈ fr := List.mem_of_getElem? h1'
    have kx := kind_or (List.all_eq_true.mp k.kx x hxm)
    have ky := kind_or (List.all_eq_true.mp k.ky x hxm)
    obtain ⟨m, _, hl⟩ := I.loc
    obtain ⟨u, r, l⟩ := hl j x v hN hσ (by rcases kx with z | z; · exact .inr (.inl z)
                                           · exact .inr (.inr z))
    refine ⟨u, r, .inr ⟨ky, ?_⟩⟩
    rcases l with ⟨z, _⟩ | ⟨_, c, e, q⟩
    · rcases kx with w | w <;> (rw [w] at z; cases z)
    · obtain ⟨d, hd⟩ := closL_has _ _ _ k.clos x (.inl (relabel_lookup k.cell ky))
      have := sub x d hd
      rw [e] at this; cases this
      exact ⟨c, hd, cellH q⟩
  · obtain ⟨v, q⟩ := cellX x c e
    exact ⟨v, cellH q⟩
  · unfold scV
    show _ = (own ++ fr).length
    have := congrArg List.length k.pick
    simp only [List.length_map] at this
    simp [this]

theorem comp_back {pins : List (Addr × Obj)} {σ σc : L2.St} {H H' : Hp} {s s' : Shared} {h' : Heap} {fp : List Addr} (I : Inv X pins σ H s) (hf : ∀ b ∈ fp, FpOk X pins H b)
    (J : Inv (compCx X (own ++ fr) scope cl s.heap.objs.size s H fp) [] σc H' s') (hs : Heap.SameBut s.heap.objs.size s'.heap h') : Inv X pins σ H' { s' with heap := h' } := by
  have u : Un (frs X.stack) fp H H' s.heap s'.heap := J.base
  have ne : ∀ b o, s.heap.get? b = some o → b ≠ s.heap.objs.size := fun b o e => Nat.ne_of_lt (Heap.lt_size e)
  have u' : Un (frs X.stack) fp H H' s.heap h' := ⟨fun b o e n h1 h2 => (hs.2 b (ne b o e)).trans (u.keep b o e n h1 h2), fun b o e n h1 h2 => by
      obtain ⟨sl, q⟩ := u.slot b o e n h1 h2
      exact ⟨sl, (hs.2 b (ne b o e)).trans q⟩, u.free, fun b o e h2 => by
      obtain ⟨o', q⟩ := u.there b o e h2
      exact ⟨o', (hs.2 b (ne b o e)).trans q⟩, u.tups, u.frzs, u.tbls⟩
  have hfree : H' s.heap.objs.size = none := J.free
  have hok : HOk X.prog X.w H' h' := fun b ob e => by
    refine (J.hok b ob e).stay (fun c w' hc q => (hs.2 c ?_).trans q) (fun _ q => q) fun _ _ q => q
    rintro rfl
    rcases hc with rfl | hc
    · rw [hfree] at e; cases e
    · rw [hfree] at hc; cases hc
  exact I.call' (s' := { s' with heap := h' }) J.os u' hok J.bare fun b hb => ⟨(hf b hb).2.2.2.1, (hf b hb).2.1, (hf b hb).2.2.2.2.1, (hf b hb).2.2.2.2.2⟩

theorem compLoop_tests {prog : Program} {w : World} {A : Around} {R : Result → Shared → Prop} {s : Shared} {elt target iter : Expr} {ifs : List Expr} {scope : Scope} {pos : Pos} {it acc : Value} {env : Env} (I : Nat → Shared → Prop)
    (turn : ∀ n s, I n s → wpAny (model prog w) A (pyNext it) (fun r s₁ => match r with
      | none => R (.ok .next) s₁
      | some v => wpAny (model prog w) A (letOwnedTupleGo target it v) (fun _ s₁ => wpAny (model prog w) A (assign target env v) (fun _ s₂ =>
          wpAny (model prog w) A (forIn ifs true fun c r => if r = true then do let ok ← isTrue c env (eval c env); pure (ForInStep.yield ok) else pure (ForInStep.yield r)) (fun ok s₃ =>
            if ok = true then wpAny (model prog w) A (eval elt env) (fun x s₄ =>
              wpAny (model prog w) A (call (.builtin "list.append") [acc, x]) (fun _ s₅ => ∃ m, m < n ∧ I m s₅) (fun _ _ => False) s₄) (fun _ _ => False) s₃
            else ∃ m, m < n ∧ I m s₃) (fun _ _ => False) s₂) (fun _ _ => False) s₁) (fun _ _ => False) s₁) (fun _ _ => False) s)
    (n : Nat) (h : I n s) :
    codeAny (model prog w) A (.compLoop (.ListComp elt [⟨target, iter, ifs, 0⟩] scope pos) 0 it acc env) R s := by
  refine codeAny_loop rfl I (fun n s hI => ?_) n h
  show wpAny _ A ((compTurn (.ListComp elt [⟨target, iter, ifs, 0⟩] scope pos) 0 it acc env).onRaise (fun x => do noteFrame x env; theTreesLotGoes x)) _ _ s
  refine wpAny_noted ?_
  rw [compTurn_list]
  refine wpAny_bind (wpAny_standAt (wpAny_bind (wpAny_mono (turn n s hI) (fun r s₁ h₁ => ?_) fun _ _ h' => h'.elim)))
  cases r with
  | none => exact wpAny_pure h₁
  | some v =>
    refine wpAny_bind (wpAny_mono h₁ (fun _ s₁ h₁ => ?_) fun _ _ h' => h'.elim)
    refine wpAny_bind (wpAny_mono h₁ (fun _ s₂ h₂ => wpAny_bind (wpAny_mono h₂ (fun ok s₃ h₃ => ?_) fun _ _ h' => h'.elim)) fun _ _ h' => h'.elim)
    cases ok with
    | false => exact wpAny_pure ⟨rfl, h₃⟩
    | true =>
      exact wpAny_bind (wpAny_bind (wpAny_mono h₃ (fun x s₄ h₄ => wpAny_bind (wpAny_mono h₄ (fun _ s₅ h₅ => wpAny_pure (wpAny_pure ⟨rfl, h₅⟩)) fun _ _ h' => h'.elim)) fun _ _ h' => h'.elim))

def PTs (X : Cx) (ifs : List Expr) (t : TT) : Prop :=
  ∀ (pins : List (Addr × Obj)) (s : Shared) (σ : L2.St) (H : Hp) (Q : Bool → Hp → Prop), Inv X pins σ H s → t σ H Q →
    wpAny (model X.prog X.w) X.A (forIn ifs true fun c r => if r = true then do let ok ← isTrue c X.env (eval c X.env); pure (ForInStep.yield ok) else pure (ForInStep.yield r)) (TP X pins σ Q) X.xe s
theorem pts_nil : PTs X [] (fun _ H Q => Q true H) := fun _ _ _ H _ I h => wpAny_tests_nil ⟨H, I, h⟩
theorem comp_block {tg iter elt : Expr} {ifs : List Expr} {pos : Pos} {g : TG} {tc : TT} {te : TE} {pins : List (Addr × Obj)} {σ : L2.St} {H2 : Hp} {s2 : Shared} {it : Addr} {fp : List Addr} {tn : Nat → Heap → Prop} {J : It} {Q : VK}
    {RR : Value → Addr → Result → Shared → Prop} {E : Value → Shared → Prop}
    (hc : X.calm = true) (k : CompOk X own fr is scope cl)
    (hg : ∀ C s3 H3 fp, PG (compCx X (own ++ fr) scope cl C s3 H3 fp) tg g) (ht : ∀ C s3 H3 fp, PTs (compCx X (own ++ fr) scope cl C s3 H3 fp) ifs tc) (he : ∀ C s3 H3 fp, PE (compCx X (own ++ fr) scope cl C s3 H3 fp) elt te)
    (I2 : Inv X pins σ H2 s2) (T : Turn X.prog X.w X.K tg J fp it tn) (st2 : tn 0 s2.heap) (f2 : ∀ b ∈ fp, FpOk X pins H2 b)
    (q : ∀ D, H2 D = none → ∃ W : Nat → Nat → L2.St → Hp → Prop, (∃ m, W 0 m (scV own.length is σ) (upd H2 D (.lst []))) ∧ ∀ i m σc H, W i m σc H →
      (J.stop i H ∧ Q (.ref D) H) ∨ (J.go i H ∧ ∀ x H', J.yld i H x H' → g x σc H' fun σ2 H2 => tc σ2 H2 fun b H3 =>
        if b = true then te σ2 H3 fun y H4 => ∃ ys m', H4 D = some (.lst ys) ∧ ys.length < lim ∧ m' < m ∧ W (i + 1) m' σ2 (upd H4 D (.lst (ys ++ [y]))) else ∃ m', m' < m ∧ W (i + 1) m' σ2 H3))
    (hRR : ∀ D C H' s', (∃ m, s'.heap.Ns C m) → (∀ h', Heap.SameBut C s'.heap h' → Inv X pins σ H' { s' with heap := h' }) → H' C = none → s2.heap.objs.size ≤ C → Q (.ref D) H' → RR (.ref D) C (.ok .next) s') :
    wpAny (model X.prog X.w) X.A (newList []) (fun acc s₃ => wpAny (model X.prog X.w) X.A (newFunctionEnv scope X.env.globals cl [] X.env.qual none .none (some X.env)) (fun cenv s₄ =>
      codeAny (model X.prog X.w) X.A (.compStart (.ListComp elt [⟨tg, iter, ifs, 0⟩] scope pos) 0 (.ref it) acc { cenv with scope := relabel scope X.env }) (RR acc cenv.locals) s₄) E s₃) E s2 := by
  refine wpAny_newObj_type (wpAny_newFunctionEnv k.cell (by intro y hy; simp at hy) (fun h₁ hns₁ hsb₁ => ?_) k.kind)
  have I3 : Inv X pins σ (upd H2 s2.heap.objs.size (.lst [])) { s2 with heap := s2.heap.push { cls := .type "list", data := .seq ([] : List Value).toArray } } := I2.lnew (t' := s2.toks) (its := []) .nil (Nat.zero_le _)
  have hD : H2 s2.heap.objs.size = none := I2.fresh
  obtain ⟨W, ⟨m0, w0⟩, turn⟩ := q _ hD
  have hlt : ∀ b ∈ fp, b < s2.heap.objs.size := fun b hb => by
    obtain ⟨o, e, _⟩ := T.obj _ _ st2 b hb
    exact Heap.lt_size e
  have f3 : ∀ b ∈ fp, FpOk X pins (upd H2 s2.heap.objs.size (.lst [])) b ∧ b < (s2.heap.push { cls := .type "list", data := .seq ([] : List Value).toArray }).objs.size := fun b hb =>
    ⟨⟨by rw [upd_ne (Nat.ne_of_lt (hlt b hb))]; exact (f2 b hb).1, (f2 b hb).2⟩, by rw [Heap.size_push]; exact Nat.lt_succ_of_lt (hlt b hb)⟩
  have J0 := comp_inv (tk := s2.toks + ([] : List (Str × Value)).length) k I3 f3 hns₁ hsb₁
  have kept : ∀ b o, s2.heap.get? b = some o → h₁.get? b = some o := fun b o e => (hsb₁.2 b (by
      show b ≠ (s2.heap.push _).objs.size
      rw [Heap.size_push]
      exact Nat.ne_of_lt (Nat.lt_succ_of_lt (Heap.lt_size e)))).trans (Heap.get?_push_of_some _ (Heap.get?_push_of_some _ e))
  have st4 : tn 0 h₁ := T.keep _ _ _ st2 fun b _ o e => kept b o e
  have stat : ∀ {H' : Hp}, (∀ b ∈ fp, H' b = none) → ∀ b ∈ fp, FpOk (compCx X (own ++ fr) scope cl (s2.heap.push { cls := .type "list", data := .seq ([] : List Value).toArray }).objs.size { s2 with heap := s2.heap.push { cls := .type "list", data := .seq ([] : List Value).toArray } } (upd H2 s2.heap.objs.size (.lst [])) fp) [] H' b := fun hn b hb =>
    ⟨hn b hb, Nat.ne_of_lt (f3 b hb).2, fun z => J0.ok.exfs b hb z, .inl hb, fun x c e => (J0.ok.exf b hb).2 x c e, fun p hp => absurd hp (by simp)⟩
  have loop : codeAny (model X.prog X.w) X.A (.compLoop (.ListComp elt [⟨tg, iter, ifs, 0⟩] scope pos) 0 (.ref it) (.ref s2.heap.objs.size) (compEnvC scope cl (s2.heap.push { cls := .type "list", data := .seq ([] : List Value).toArray }).objs.size X.env))
      (RR (.ref s2.heap.objs.size) (s2.heap.push { cls := .type "list", data := .seq ([] : List Value).toArray }).objs.size) { s2 with heap := h₁, toks := s2.toks + ([] : List (Str × Value)).length } := by
    refine compLoop_tests (fun n s' => ∃ i σ' H', Inv (compCx X (own ++ fr) scope cl (s2.heap.push { cls := .type "list", data := .seq ([] : List Value).toArray }).objs.size { s2 with heap := s2.heap.push { cls := .type "list", data := .seq ([] : List Value).toArray } } (upd H2 s2.heap.objs.size (.lst [])) fp) [] σ' H' s' ∧ tn i s'.heap ∧ (∀ b ∈ fp, H' b = none) ∧ W i n σ' H') ?_ m0
      ⟨0, _, _, J0, st4, fun b hb => (f3 b hb).1.1, w0⟩
    rintro n s3 ⟨i, σ3, H3, I3', st3, fr3, w3⟩
    rcases turn i n σ3 H3 w3 with ⟨stop, qn⟩ | ⟨go, step⟩
    · refine thn (T.done (compCx X (own ++ fr) scope cl _ _ _ fp) rfl rfl rfl hc i [] s3 σ3 H3 (fun _ _ => False) I3' (stat fr3) st3 stop) fun r s4 ⟨hr, I4⟩ => ?_
      subst hr
      obtain ⟨m, hm, _⟩ := I4.loc
      refine hRR _ _ H3 s4 ⟨m, hm⟩ (fun h' hs' => ?_) I4.free ?_ qn
      · have := comp_back I3 (fun b hb => (f3 b hb).1) I4 hs'
        exact this
      · show s2.heap.objs.size ≤ (s2.heap.push _).objs.size
        rw [Heap.size_push]
        exact Nat.le_succ _
    · refine thn (T.item (compCx X (own ++ fr) scope cl _ _ _ fp) rfl rfl rfl hc i [] s3 σ3 H3 (fun _ _ => False) I3' (stat fr3) st3 go) fun r s4 ⟨u, hr, h4⟩ => ?_
      subst hr
      refine thn h4 fun _ s5 ⟨x, H5, I5, r5, y5, st5, fr5⟩ => ?_
      have I5' := I5.pinned (stat fr5) (T.obj _ _ st5)
      refine thn (hg _ _ _ _ _ s5 σ3 H5 x u _ I5' r5 (step x H5 y5)) fun _ s6 ⟨σ6, H6, I6, q6⟩ => ?_
      refine thn (ht _ _ _ _ _ s6 σ6 H6 _ I6 q6) fun ok s7 ⟨H7, I7, q7⟩ => ?_
      have back : ∀ {σ7 : L2.St} {H7 : Hp} {s7 : Shared} {m' : Nat}, Inv (compCx X (own ++ fr) scope cl (s2.heap.push { cls := .type "list", data := .seq ([] : List Value).toArray }).objs.size { s2 with heap := s2.heap.push { cls := .type "list", data := .seq ([] : List Value).toArray } } (upd H2 s2.heap.objs.size (.lst [])) fp) ([] ++ pinsAt fp s5.heap) σ7 H7 s7 → m' < n → W (i + 1) m' σ7 H7 →
          ∃ m, m < n ∧ ∃ i σ' H', Inv (compCx X (own ++ fr) scope cl (s2.heap.push { cls := .type "list", data := .seq ([] : List Value).toArray }).objs.size { s2 with heap := s2.heap.push { cls := .type "list", data := .seq ([] : List Value).toArray } } (upd H2 s2.heap.objs.size (.lst [])) fp) [] σ' H' s7 ∧ tn i s7.heap ∧ (∀ b ∈ fp, H' b = none) ∧ W i m σ' H' := fun {σ7 H7 s7 m'} I7 hm w7 => by
        refine ⟨m', hm, i + 1, σ7, H7, I7.unpinned, T.keep _ _ _ st5 fun b hb o e => (I7.pin (b, o) (List.mem_append_right _ (List.mem_append_right _ (mem_pinsAt hb e)))).1, fun b hb => ?_, w7⟩
        obtain ⟨o, e, d⟩ := T.obj _ _ st5 b hb
        exact (I7.pin (b, o) (List.mem_append_right _ (List.mem_append_right _ (mem_pinsAt hb e)))).2.1
      cases ok with
      | false =>
        try dsimp only at q7
        try dsimp only
        rw [if_neg (by simp)] at q7 ⊢
        obtain ⟨m', hm, w7⟩ := q7
        exact back I7 hm w7
      | true =>
        try dsimp only at q7
        try dsimp only
        rw [if_pos rfl] at q7 ⊢
        refine thn (he _ _ _ _ _ s7 σ6 H7 _ I7 q7) fun y s8 ⟨v, H8, I8, r8, ys, m', e8, l8, hm, w8⟩ => ?_
        refine thn (mt_append _ s8 σ6 H8 (.ref s2.heap.objs.size) [v] (.ref s2.heap.objs.size) [y] (fun _ H9 => W (i + 1) m' σ6 H9) I8 rfl (.cons r8 .nil) ⟨_, ys, v, rfl, rfl, e8, Nat.lt_of_lt_of_le l8 lim_line, w8⟩) fun _ s9 ⟨_, H9, I9, _, w9⟩ => ?_
        exact back I9 hm w9
  exact codeAny_compStart_list loop (T.self X.A 0 _ _ _ st4 loop)

theorem pe_comp {tg iter elt : Expr} {ifs : List Expr} {pos : Pos} {wi : TI} {g : TG} {tc : TT} {te : TE} (hc : X.calm = true) (k : CompOk X own fr is scope cl) (hi : PI X tg iter wi)
    (hg : ∀ C s3 H3 fp, PG (compCx X (own ++ fr) scope cl C s3 H3 fp) tg g) (ht : ∀ C s3 H3 fp, PTs (compCx X (own ++ fr) scope cl C s3 H3 fp) ifs tc) (he : ∀ C s3 H3 fp, PE (compCx X (own ++ fr) scope cl C s3 H3 fp) elt te)
    (hs : ∀ x, foldedSetIterable iter X.env x = pure x := by intro _; rfl) : PE X (.ListComp elt [⟨tg, iter, ifs, 0⟩] scope pos) (tComp wi (scV own.length is) g tc te) := by
  intro pins s σ H Q I h
  rw [eval_ListComp]
  refine wpAny_comprehension_free (use := none) rfl hs (clos_of k.clos) k.kind k.names (thn (hi pins s σ H _ I h) fun v s1 h1 => thn h1 fun itv s2 h2 => ?_)
  obtain ⟨it, fp, tn, J, H2, e, I2, T, st2, f2, q⟩ := h2
  subst e
  refine comp_block (RR := fun acc C => compPost (model X.prog X.w) X.A X.xe none (EP X pins σ Q) acc C) hc k hg ht he I2 T st2 f2 q ?_
  intro D C H' s' hm hI _ _ qD
  obtain ⟨m, hm⟩ := hm
  exact ⟨m, hm, fun h' hs' => ⟨.ref D, H', hI h' hs', rfl, qD⟩⟩
end
end TL
/-! ModelC -/
set_option linter.all false
set_option maxRecDepth 100000
namespace TL
open PySem PySem.Spec PyProof.Rows L2

section
variable {X : Cx}
/-! ### ==, !=, in, not in -/
theorem op_eqT (hu : X.A.units + 20 < cLine) : OpR X (compareOp .Eq) (rEqT X.K false) := by
  intro pins s σ H x y u v Q I rx ry h
  obtain ⟨t1, t2, b, h1, h2, e, q⟩ := h
  have q' : Q (.bl b) H := q
  have fin : EP X pins σ Q (.bool b) s := ⟨.bl b, H, I, rfl, q'⟩
  by_cases hl : ∃ xs ys, t1 = .lst xs ∧ t2 = .lst ys
  · obtain ⟨xs, ys, rfl, rfl⟩ := hl
    unfold RT at h1 h2
    obtain ⟨a, vs, e1, q1, k1⟩ := h1
    obtain ⟨c, ws, e2, q2, k2⟩ := h2
    subst e1 e2
    cases rx
    cases ry
    obtain ⟨is, v1, p1, z1⟩ := I.list q1
    obtain ⟨js, v2, p2, z2⟩ := I.list q2
    have l1 := v1.length
    have l2 := v2.length
    unfold eqT at e
    split at e
    · rename_i hlen
      obtain ⟨f, f1, f2⟩ := eqL_at (A := X.A.in1) (fun t1 t2 x y u v b a1 a2 a3 a4 a5 => eqT_at I _ X.A.in1 t1 t2 x y u v b (by show X.A.units + 1 + 4 < cLine; omega) a1 a2 a3 a4 a5) k1 k2 v1 v2 e
      refine SeqAt.eq_listAt (e := f) p1.isList p2.isList (by rw [List.size_toArray, List.size_toArray, ← l1, ← l2, k1.length, k2.length]; exact hlen) (by omega) (fun j h1 h2 =>
        f1 j _ _ (by simp) (by simp)) ?_
      rw [List.size_toArray, f2]
      exact fin
    · rename_i hlen
      cases e
      refine SeqAt.eq_list_lengthsAt p1.isList p2.isList ?_ (by omega) fin
      rw [List.size_toArray, List.size_toArray, ← l1, ← l2, k1.length, k2.length]
      simpa using hlen
  · have e' : eqF t1 t2 = some b := by
      unfold eqT at e
      split at e
      · exact absurd ⟨_, _, rfl, rfl⟩ hl
      · exact e
    unfold eqF at e'
    split at e'
    · cases e'; unfold RT at h1 h2; subst h1 h2; cases rx; cases ry; exact SeqAt.RcAt.bool_bool _ _ _ _ _ _ fin
    · cases e'; unfold RT at h1 h2; subst h1 h2; obtain ⟨t, rfl⟩ := rx; obtain ⟨t', rfl⟩ := ry; exact SeqAt.RcAt.int_int _ _ _ _ _ _ _ _ fin
    · cases e'; unfold RT at h1 h2; subst h1 h2; obtain ⟨t, rfl⟩ := rx; obtain ⟨t', rfl⟩ := ry; exact SeqAt.RcAt.str_str _ _ _ _ _ _ _ _ fin
    · cases e'
theorem op_neT (hu : X.A.units + 20 < cLine) : OpR X (compareOp .NotEq) (rEqT X.K true) := by
  intro pins s σ H x y u v Q I rx ry h
  obtain ⟨t1, t2, b, h1, h2, e, q⟩ := h
  have q' : Q (.bl (!b)) H := q
  have fin : EP X pins σ Q (.bool (!b)) s := ⟨.bl (!b), H, I, rfl, q'⟩
  by_cases hl : ∃ xs ys, t1 = .lst xs ∧ t2 = .lst ys
  · obtain ⟨xs, ys, rfl, rfl⟩ := hl
    unfold RT at h1 h2
    obtain ⟨a, vs, e1, q1, k1⟩ := h1
    obtain ⟨c, ws, e2, q2, k2⟩ := h2
    subst e1 e2
    cases rx
    cases ry
    obtain ⟨is, v1, p1, z1⟩ := I.list q1
    obtain ⟨js, v2, p2, z2⟩ := I.list q2
    have l1 := v1.length
    have l2 := v2.length
    unfold eqT at e
    split at e
    · rename_i hlen
      obtain ⟨f, f1, f2⟩ := eqL_at (A := X.A.in1) (fun t1 t2 x y u v b a1 a2 a3 a4 a5 => eqT_at I _ X.A.in1 t1 t2 x y u v b (by show X.A.units + 1 + 4 < cLine; omega) a1 a2 a3 a4 a5) k1 k2 v1 v2 e
      refine SeqAt.RcNeAt.lists (e := f) p1.isList p2.isList (by rw [List.size_toArray, List.size_toArray, ← l1, ← l2, k1.length, k2.length]; exact hlen) (by omega) (fun j h1 h2 =>
        f1 j _ _ (by simp) (by simp)) _ _ _ _ ?_
      rw [List.size_toArray, f2]
      exact fin
    · rename_i hlen
      cases e
      refine SeqAt.RcNeAt.lists_lengths p1.isList p2.isList ?_ (by omega) _ _ _ _ fin
      rw [List.size_toArray, List.size_toArray, ← l1, ← l2, k1.length, k2.length]
      simpa using hlen
  · have e' : eqF t1 t2 = some b := by
      unfold eqT at e
      split at e
      · exact absurd ⟨_, _, rfl, rfl⟩ hl
      · exact e
    unfold eqF at e'
    split at e'
    · cases e'; unfold RT at h1 h2; subst h1 h2; exact op_ne pins s σ H _ _ u v Q I rx ry ⟨rfl, by rw [dec_bl]; exact q'⟩
    · cases e'; unfold RT at h1 h2; subst h1 h2; exact op_ne pins s σ H _ _ u v Q I rx ry ⟨rfl, by rw [dec_int]; exact q'⟩
    · cases e'; unfold RT at h1 h2; subst h1 h2; exact op_ne pins s σ H _ _ u v Q I rx ry ⟨rfl, by rw [dec_str]; exact q'⟩
    · cases e'

/-! ### a, b = a list -/
/-! ### x is True, x is False -/
end
end TL
/-! TreeH -/
set_option linter.all false
namespace TL
open PySem L2
def zipT (ts us : List T) : List T := (ts.zip us).map fun p => .tup [p.1, p.2]
section
variable {K : PySem.W.Frag} {σ : L2.St} {H : Hp} {Q : VK}
def fCompZ (f1 f2 : FE) (k : Nat) (is : List Nat) (g : FG) (tc : FB) (fe : FE) : FN := fun τ C => (f1 τ C).bind fun p => (f2 τ p.2).bind fun q => (liT q.2 p.1).bind fun ts => (liT q.2 q.1).bind fun us =>
  if (zipT ts us).length < lim then compGo g tc fe (scT k is τ) (zipT ts us) q.2 else none
def fRev (f : FE) : FN := fun τ C => (f τ C).bind fun p => (liT p.2 p.1).map fun ts => (ts.reverse, p.2)
end
end TL
/-! TreeI -/
set_option linter.all false
namespace TL
open PySem L2
def maxD (d : Int) (ns : List Int) : Int := if ns.isEmpty then d else maxL ns
def gMaxD (t1 t2 : T) (C : Sto) : Option (T × Sto) := match t2 with
  | .int d => (liT C t1).bind fun us => (ints? us).map fun ns => (.int (maxD d ns), C)
  | _ => none
end TL
/-! TreeJ -/
set_option linter.all false
namespace TL
open PySem L2
def gIndex (t1 t2 : T) (C : Sto) : Option (T × Sto) := match t2 with
  | .int k => (liT C t1).bind fun us => (ints? us).bind fun ns => if k ∈ ns then some (.int (ns.idxOf k), C) else none
  | _ => none
noncomputable def fForRv (f : FE) (g : FG) (F : FS) : FS := fun τ C => (f τ C).bind fun p => (liT p.2 p.1).bind fun ts => forGo (stays p.1 ts) g F ts.reverse τ p.2
end TL
/-! TreeK -/
set_option linter.all false
namespace TL
open PySem L2
def frz1 (C : Sto) : Option T → Option (Option T)
  | none => some none
  | some t => (dr 3 C t).map some
def frz (C : Sto) : TSt → Option TSt
  | [] => some []
  | o :: τ => (frz1 C o).bind fun o' => (frz C τ).map (o' :: ·)
def fFrz (F : FS) : FS := fun τ C => (F τ C).bind fun r => match r with
  | (.nx, τ1, C1) => (frz C1 τ1).map fun τ2 => (.nx, τ2, [])
  | r => some r
def trS0 (K : PySem.W.Frag) (W : XW) (F : FS) : TS := fun D σ H => ∃ H₀ Z ρ τ C fl τ' C', Rel K H₀ Z ρ τ C σ H ∧ F τ C = some (fl, τ', C') ∧
  ∀ σ' H' ρ', Rel K H₀ Z ρ' τ' C' σ' H' → EndF K W D Z ρ' fl σ' H'
section
variable {K : PySem.W.Frag} {σ : St} {H : Hp} {D : Ends} {F G : FS} {Q : VK}
theorem trS0.to (h : trS0 K W F D σ H) : trS K W F D σ H := by
  obtain ⟨H₀, Z, ρ, τ, C, fl, τ', C', R, e, k⟩ := h
  exact ⟨H₀, Z, ρ, τ, C, fl, τ', C', R, e, fun σ' H' ρ' R' _ => k σ' H' ρ' R'⟩
theorem frz_len {C : Sto} : ∀ {τ τ' : TSt}, frz C τ = some τ' → τ'.length = τ.length
  | [], _, e => by cases e; rfl
  | o :: τ, _, e => by
    obtain ⟨o', _, e⟩ := Option.bind_eq_some_iff.mp e
    obtain ⟨τ2, e2, e⟩ := Option.map_eq_some_iff.mp e
    cases e
    simp [frz_len e2]
theorem frz_get {C : Sto} : ∀ {τ τ' : TSt} {i : Nat} {t' : T}, frz C τ = some τ' → τ'[i]? = some (some t') → ∃ t, τ[i]? = some (some t) ∧ dr 3 C t = some t'
  | [], _, _, _, e, h => by cases e; simp at h
  | o :: τ, _, i, t', e, h => by
    obtain ⟨o', e1, e⟩ := Option.bind_eq_some_iff.mp e
    obtain ⟨τ2, e2, e⟩ := Option.map_eq_some_iff.mp e
    cases e
    cases i with
    | zero =>
      simp at h
      subst h
      cases o with
      | none => cases e1
      | some t =>
        obtain ⟨u, e3, e4⟩ := Option.map_eq_some_iff.mp e1
        cases e4
        exact ⟨t, rfl, e3⟩
    | succ i =>
      obtain ⟨t, h1, h2⟩ := frz_get (i := i) e2 (by simpa using h)
      exact ⟨t, by simpa using h1, h2⟩
theorem Rel.frz {H₀ : Hp} {Z : Addr → Prop} {ρ : Rho} {τ τ' : TSt} {C : Sto} (R : Rel K H₀ Z ρ τ C σ H) (e : TL.frz C τ = some τ') : Rel K H₀ Z [] τ' [] σ H := by
  refine ⟨R.old, by simp, .nil, R.zd, fun i t' h => ?_, fun c a h => by simp at h, rfl, by rw [frz_len e]; exact R.lnt⟩
  obtain ⟨t, h1, h2⟩ := frz_get e h
  obtain ⟨v, h3, h4⟩ := R.loc i t h1
  exact ⟨v, h3, R.dr _ _ _ _ h4 h2⟩
end
end TL
/-! ModelX -/
set_option linter.all false
namespace TL
open PySem PySem.Spec PyProof.Rows L2

section
variable {P : Program} {w : World} {H H' : Hp} {h h' : Heap} {a : Addr} {o : HO}
theorem obj_there (x : ObjOk P w H h a o) : ∃ ob, h.get? a = some ob := by
  cases o with
  | lst xs => obtain ⟨_, _, _, _, e⟩ := x; exact ⟨_, e⟩
  | tup xs => obtain ⟨_, _, _, ob, e, _⟩ := x; exact ⟨_, e⟩
  | dK kvs => obtain ⟨_, _, _, _, o, _, _, e, _⟩ := x; exact ⟨_, e⟩
  | dT kvs => obtain ⟨_, _, _, _, o, _, _, e, _⟩ := x; exact ⟨_, e⟩
  | set S n => obtain ⟨o, _, _, _, e, _⟩ := x; exact ⟨_, e⟩
  | ins C dx fs => obtain ⟨_, _, _, e, _⟩ := x; exact ⟨_, e⟩
  | own y => obtain ⟨_, e⟩ := x; exact ⟨_, e⟩
  | xd fs => obtain ⟨_, ⟨_, _, _, e, _⟩, _⟩ := x; exact ⟨_, e⟩
  | rng lo hi => obtain ⟨_, _, _, e⟩ := x; exact ⟨_, e⟩
  | frz ob u => obtain ⟨e, _⟩ := x; exact ⟨_, e⟩
  | tbl ps => exact ⟨_, (show h.get? a = some _ from x)⟩
  | met f y => exact ⟨_, (show h.get? a = some _ from x)⟩
  | ext φ => obtain ⟨_, ⟨_, e⟩, _⟩ := x; exact ⟨_, e⟩
theorem hok_trk (x : HOk P w H h) (k : ∀ b u ob, H b = some u → h.get? b = some ob → h'.get? b = some ob) : HOk P w H h' := fun a o e =>
  (x a o e).stay (fun b u hb q => by
    rcases hb with rfl | hb
    · exact k _ _ _ e q
    · exact k _ _ _ hb q) (fun _ q => q) fun _ _ q => q
end

def Named (K : PySem.W.Frag) (c : String) (C : Addr) : Prop := PySem.W.nsIn K mainGlobals (Str.ofString c) = some (some (.ref C))

structure Aloft (P : Program) (w : World) (K : PySem.W.Frag) (l : List Env) (H : Hp) (s : Shared) (c : String) (H' : Hp) (C : Addr) (B : Heap) (s' : Shared) : Prop where
  nm : Named K c C
  os : s'.os = s.os
  bare : AllBare s'.gens
  un : Un (frs l) [] H H' s.heap s'.heap
  hok : HOk P w H' s'.heap
  keepB : ∀ b o, s.heap.get? b = some o → H b = none → b ∉ frs l → B.get? b = some o
  trkB : ∀ b u o, H' b = some u → s'.heap.get? b = some o → B.get? b = some o
  thereB : ∀ b o, s.heap.get? b = some o → b ∉ frs l → ∃ o', B.get? b = some o'
def Flies (B : Heap) (l : List Env) (a C : Addr) (s' : Shared) : Prop := ∃ t, Heap.FlyingW B l a (.ref C) (.ref t) s'.heap
def Made (B : Heap) (l : List Env) (a C : Addr) (s' : Shared) : Prop := ∃ h vs, B.StaysIn h ∧ h.FunFrames B l ∧ Heap.MadeExcOf h s'.heap a (.ref C) vs
def wish (X : Cx) : XW := fun c σ H' => ∀ pins H s a C B s', Inv X pins σ H s → Aloft X.prog X.w X.K X.stack H s c H' C B s' → (Made B X.stack a C s' ∨ Flies B X.stack a C s') → X.xe (.ref a) s'
def CX1 (P : Program) (w : World) (K : PySem.W.Frag) : CXT := fun l H s E e s' => ∃ c a C B H', e = .ref a ∧ Aloft P w K l H s c H' C B s' ∧ Flies B l a C s' ∧ E (.type c) none H'

section
variable {X : Cx} {pins : List (Addr × Obj)} {σ : L2.St} {H H' : Hp} {s s' : Shared} {c : String} {C a : Addr} {B : Heap}
theorem Aloft.out {h' : Heap} {t : Addr} (I : Inv X pins σ H s) (hex : X.ex = []) (A : Aloft X.prog X.w X.K X.stack H s c H' C B s') (F : Heap.FlyingW B X.outer a (.ref C) (.ref t) h') (sm : s'.heap.UpToSlots h') :
    Aloft X.prog X.w X.K X.outer X.H₀ X.s₀ c H' C B { s' with heap := h' } := by
  have nx : ∀ b : Addr, b ∉ X.ex := fun b => by rw [hex]; simp
  have old : ∀ b o, X.s₀.heap.get? b = some o → b ∉ X.fs → b ∉ frs X.stack := fun b o e n z => by
    rcases List.mem_cons.mp (I.stkSub b z) with q | q
    · have := Nat.lt_of_lt_of_le (Heap.lt_size e) I.ok.above
      rw [q] at this
      exact Nat.lt_irrefl _ this
    · exact n q
  have stay : ∀ b u o, H' b = some u → s'.heap.get? b = some o → h'.get? b = some o := fun b u o e q => F.1 b o (A.trkB b u o e q)
  have keepB : ∀ b o, X.s₀.heap.get? b = some o → X.H₀ b = none → b ∉ X.fs → B.get? b = some o := fun b o e n nf =>
    A.keepB b o (I.base.keep b o e n nf (nx b)) (I.base.free b o e n (nx b)) (old b o e nf)
  have thereB : ∀ b o, X.s₀.heap.get? b = some o → b ∉ X.fs → ∃ o', B.get? b = some o' := fun b o e nf => by
    obtain ⟨o1, e1⟩ := I.base.there b o e (nx b)
    exact A.thereB b o1 e1 (old b o e nf)
  have frm : ∀ b ∈ X.fs, ∃ o, X.s₀.heap.get? b = some o ∧ ∀ vs, o.data ≠ .fields vs := fun b hb => (I.ok.funs.mem hb).2
  have slot : ∀ b o, X.s₀.heap.get? b = some o → X.H₀ b = none → b ∈ X.fs → ∃ sl, h'.get? b = some { o with slots := sl } := fun b o e n hb => by
    obtain ⟨sl1, e1⟩ := I.base.slot b o e n hb (nx b)
    obtain ⟨sl2, e2⟩ := A.un.any e1 (I.base.free b o e n (nx b)) (by simp)
    obtain ⟨o', e', nd⟩ := frm b hb
    rw [e] at e'; cases e'
    obtain ⟨sl3, e3⟩ := sm b _ e2 nd
    exact ⟨sl3, e3⟩
  refine ⟨A.nm, A.os.trans I.os, A.bare, ⟨fun b o e n nf _ => F.1 b o (keepB b o e n nf), fun b o e n hb _ => slot b o e n hb, fun b o e n _ => A.un.free b _ (I.base.any e n (nx b)).choose_spec (I.base.free b o e n (nx b)) (by simp), fun b o e _ => ?_, fun b xs e => A.un.tups b xs (I.base.tups b xs e), fun b o u e => A.un.frzs b o u (I.base.frzs b o u e), fun b ps e => ?_⟩, hok_trk A.hok stay, keepB, fun b u o e q => ?_, thereB⟩
  · by_cases hb : b ∈ X.fs
    · obtain ⟨sl, e'⟩ := slot b o e (I.ok.frf b hb) hb
      exact ⟨_, e'⟩
    · obtain ⟨o', e'⟩ := thereB b o e hb
      exact ⟨o', F.1 b o' e'⟩
  · obtain ⟨m1, e1⟩ := I.base.tbls b ps e
    obtain ⟨m2, e2⟩ := A.un.tbls b _ e1
    exact ⟨m1 ++ m2, by rw [e2, Array.append_assoc]⟩
  · obtain ⟨ob, eo⟩ := obj_there (A.hok b u e)
    have := stay b u ob e eo
    rw [show ({ s' with heap := h' } : Shared).heap.get? b = h'.get? b from rfl] at q
    have q2 := q.symm.trans this
    cases q2
    exact A.trkB b u _ e eo
end
section
variable {P : Program} {w : World} {K : PySem.W.Frag} {mg : Str → Option Value} {base : Heap} {N : List Str} {qual : Str} {scope : Scope} {f : Addr} {cd : Value} {A : Around} {outer : List Env} {s : Shared} {H : Hp} {E : XK}
theorem wish_fn {c : String} {σ : L2.St} {H' : Hp} (h : E (.type c) none H') : wish (cxOf (CX1 P w K) P w K mg base N qual scope f cd A outer s H E) c σ H' := by
  intro pins H1 s1 a C B s' I al fl
  have hfr := I.ok.frames
  rcases fl with ⟨h0, vs, st, ff, me⟩ | ⟨t, F⟩
  · refine wpAny_leaves_madeW (A := A.deeper (envOfC qual scope s.heap.objs.size f cd)) hfr rfl st ff me fun h' t F _ _ sm => ?_
    exact ⟨c, a, C, B, H', rfl, al.out I rfl F sm, ⟨t, F⟩, h⟩
  · refine wpAny_leaves_onW (A := A.deeper (envOfC qual scope s.heap.objs.size f cd)) hfr rfl F fun h' F' sm => ?_
    exact ⟨c, a, C, B, H', rfl, al.out I rfl F' sm, ⟨t, F'⟩, h⟩
end
end TL
/-! ModelD -/
set_option linter.all false
set_option maxRecDepth 100000
namespace TL
open PySem PySem.Spec PyProof.Rows L2

abbrev QE (X : Cx) (e : Expr) (f : FE) : Prop := PE X e (trE X.K f)
abbrev QN (X : Cx) (e : Expr) (f : FN) : Prop := PE X e (trN X.K f)
abbrev QA (X : Cx) (e : List Expr) (f : FN) : Prop := PA X e (trA X.K f)
abbrev QT (X : Cx) (e : Expr) (f : FB) : Prop := PT X e (trT X.K f)
abbrev QW (X : Cx) (e : Expr) (f : FB) : Prop := PW X e (trT X.K f)
abbrev QO (X : Cx) (e : Option Expr) (f : FO) : Prop := PO X e (trO X.K f)
abbrev QS (X : Cx) (e : Stmt) (f : FS) : Prop := PS X e (trS X.K (wish X) f)
abbrev QSs (X : Cx) (e : List Stmt) (f : FS) : Prop := PSs X e (trS X.K (wish X) f)
abbrev QG (X : Cx) (e : Expr) (g : FG) : Prop := PG X e (trG X.K g)
abbrev QTs (X : Cx) (e : List Expr) (f : FB) : Prop := PTs X e (trT X.K f)
theorem PTs.imp {X : Cx} {e : List Expr} {t t' : TT} (h : PTs X e t) (hi : ∀ σ H Q, t' σ H Q → t σ H Q) : PTs X e t' := fun pins s σ H Q I q => h pins s σ H Q I (hi σ H Q q)

theorem mulOk_of {i j : Int} (h : mulOkB i j = true) : IntMulOk i j := by
  unfold mulOkB at h
  unfold IntMulOk
  intro z
  rw [z] at h
  cases h
section
variable {X : Cx} {a b c e : Expr} {es : List Expr} {fa fb fc f : FE} {fr fn : FN} {ga gb : FB} {pos p p2 : Pos} {j : Nat}

theorem q_var (i : Nat) {x : Str} (hN : X.N[i]? = some x := by rfl) (hv : Vis X.env.scope x := by first | exact Or.inl rfl | exact Or.inr (Or.inl rfl) | exact Or.inr (Or.inr rfl)) (hd : (x == ("__debug__" : Str)) = false := by decide)
    (hcd : (x == ("__classdict__" : Str)) = false := by decide) : QE X (.Name x pos) (fVar i) := (pe_var hN hv hd hcd).imp fun _ _ _ => i_var
theorem q_int {i : Int} {k} : QE X (.Constant (.int i) k pos) (fC (.int i)) := pe_int.imp fun _ _ _ => i_C fun _ _ => .int
theorem q_bl {i : Bool} {k} : QE X (.Constant (.bool i) k pos) (fC (.bl i)) := pe_bl.imp fun _ _ _ => i_C fun _ _ => .bl
theorem q_non {k} : QE X (.Constant .none k pos) (fC .non) := pe_non.imp fun _ _ _ => i_C fun _ _ => .non
theorem q_str {i : Str} {k} : QE X (.Constant (.str i) k pos) (fC (.str i)) := pe_str.imp fun _ _ _ => i_C fun _ _ => .str

/-! ### ints -/
theorem q_add (ha : QE X a fa) (hb : QE X b fb) : QE X (.BinOp a .Add b pos) (fBin fa fb (gI fun i j => .int (i + j))) := (pe_op op_add ha hb).imp fun _ _ _ => i_op fun _ _ _ _ _ => o_I fun _ _ _ _ => .int
theorem op_mulG : OpR X (binaryOp .Mult) (rI IntMulOk fun i j => .int (i * j)) := opI fun _ _ _ _ _ _ _ hc q => mul_int q hc
theorem q_mul (ha : QE X a fa) (hb : QE X b fb) : QE X (.BinOp a .Mult b pos) (fBin fa fb (gIc mulOkB fun i j => .int (i * j))) := (pe_op op_mulG ha hb).imp fun _ _ _ => i_op fun _ _ _ _ _ h => by
  obtain ⟨i, j, h1, h2, h3, q⟩ := o_Ic (g := fun i j => .int (i * j)) (fun _ _ _ _ => .int) h
  exact ⟨i, j, h1, h2, mulOk_of h3, q⟩
theorem q_mod (ha : QE X a fa) (hb : QE X b fb) : QE X (.BinOp a .Mod b pos) (fBin fa fb (gIc (fun _ j => decide (0 < j)) fun i j => .int (i % j))) := (pe_op op_mod ha hb).imp fun _ _ _ => i_op fun _ _ _ _ _ h => by
  obtain ⟨i, j, h1, h2, h3, q⟩ := o_Ic (g := fun i j => .int (i % j)) (fun _ _ _ _ => .int) h
  exact ⟨i, j, h1, h2, of_decide_eq_true h3, q⟩
theorem q_fdiv (ha : QE X a fa) (hb : QE X b fb) : QE X (.BinOp a .FloorDiv b pos) (fBin fa fb (gIc (fun _ j => decide (0 < j ∧ j < 1073741824)) fun i j => .int (i / j))) := (pe_op op_fdiv ha hb).imp fun _ _ _ => i_op fun _ _ _ _ _ h => by
  obtain ⟨i, j, h1, h2, h3, q⟩ := o_Ic (g := fun i j => .int (i / j)) (fun _ _ _ _ => .int) h
  have h4 : 0 < j ∧ j < 1073741824 := of_decide_eq_true h3
  exact ⟨i, j, h1, h2, h4, q⟩
theorem q_pow (ha : QE X a fa) (hb : QE X b fb) : QE X (.BinOp a .Pow b pos) (fBin fa fb (gIc (fun i j => decide (0 ≤ j ∧ j ≤ 1000000 ∧ i.natAbs < 2 ^ 64)) fun i j => .int (i ^ j.toNat))) := (pe_op op_pow ha hb).imp fun _ _ _ => i_op fun _ _ _ _ _ h => by
  obtain ⟨i, j, h1, h2, h3, q⟩ := o_Ic (g := fun i j => .int (i ^ j.toNat)) (fun _ _ _ _ => .int) h
  have h4 : 0 ≤ j ∧ j ≤ 1000000 ∧ i.natAbs < 2 ^ 64 := of_decide_eq_true h3
  exact ⟨i, j, h1, h2, h4, q⟩
/-! ### comparisons -/
theorem q_cmp {op : CmpOp} {r : R2} {g : T → T → Sto → Option (T × Sto)} (ho : OpR X (compareOp op) r) (hg : ∀ σ H Q x y, (∃ t1 t2, trV X.K σ [t1, t2] [x, y] (g t1 t2) H Q) → r x y H Q) (ha : QE X a fa) (hb : QE X b fb) (hm : behindInMarks op b = false) :
    QE X (.Compare a [op] [b] pos) (fBin fa fb g) := (pe_cmpR ho ha hb hm).imp fun _ _ _ => i_op hg
theorem t_cmp {op : CmpOp} {r : R2} {g : T → T → Sto → Option (T × Sto)} (ho : OpR X (compareOp op) r) (hg : ∀ σ H Q x y, (∃ t1 t2, trV X.K σ [t1, t2] [x, y] (g t1 t2) H Q) → r x y H Q) (ha : QE X a fa) (hb : QE X b fb) (hm : behindInMarks op b = false) :
    QT X (.Compare a [op] [b] pos) (fTst (fBin fa fb g)) := (pt_cmpR ho ha hb hm).imp fun _ _ _ => i_tst fun _ _ _ => i_op hg
abbrev gLt := gI fun i j => .bl (decide (i < j))
abbrev gGt := gI fun i j => .bl (decide (j < i))
theorem q_lt (ha : QE X a fa) (hb : QE X b fb) : QE X (.Compare a [.Lt] [b] pos) (fBin fa fb gLt) := q_cmp op_lt (fun _ _ _ _ _ => o_I fun _ _ _ _ => .bl) ha hb (nomark _)
theorem q_gt (ha : QE X a fa) (hb : QE X b fb) : QE X (.Compare a [.Gt] [b] pos) (fBin fa fb gGt) := q_cmp op_gt (fun _ _ _ _ _ => o_I fun _ _ _ _ => .bl) ha hb (nomark _)
theorem t_eq (hu : X.A.units + 20 < cLine) (ha : QE X a fa) (hb : QE X b fb) : QT X (.Compare a [.Eq] [b] pos) (fTst (fBin fa fb (gEq false))) := t_cmp (op_eqT hu) (fun _ _ _ _ _ => o_eq) ha hb (nomark _)
theorem t_ne (hu : X.A.units + 20 < cLine) (ha : QE X a fa) (hb : QE X b fb) : QT X (.Compare a [.NotEq] [b] pos) (fTst (fBin fa fb (gEq true))) := t_cmp (op_neT hu) (fun _ _ _ _ _ => o_eq) ha hb (nomark _)
theorem q_chain_le_le (ha : QE X a fa) (hb : QE X b fb) (hc : QE X c fc) (hm : lastMarks [.LtE, .LtE] [b, c] = false := by with_unfolding_all rfl) : QE X (.Compare a [.LtE, .LtE] [b, c] pos) (fChain fa fb fc (fun i j => decide (i ≤ j)) (fun i j => decide (i ≤ j))) :=
  (pe_chain op_le op_le ha hb hc hm).imp fun _ _ _ => i_chain

/-! ### and, or, not, if -/
theorem q_one {op} (ha : QE X a fa) : QE X (.BoolOp op [a] pos) fa := pe_one ha
theorem q_and (ha : QE X a fa) (hb : QE X (.BoolOp .And (b :: es) pos) fb) : QE X (.BoolOp .And (a :: b :: es) pos) (fAndV fa fb) := (pe_and ha hb).imp fun _ _ _ => i_andV
theorem t_and1 (ha : QT X a ga) : QW X (.BoolOp .And [a] pos) ga := pw_and1 ha
theorem t_or1 (ha : QT X a ga) : QW X (.BoolOp .Or [a] pos) ga := pw_or1 ha
theorem t_and (ha : QT X a ga) (hb : QW X (.BoolOp .And (b :: es) pos) gb) : QW X (.BoolOp .And (a :: b :: es) pos) (fAndT ga gb) := (pw_and ha hb).imp fun _ _ _ => i_andT
theorem t_or (ha : QT X a ga) (hb : QW X (.BoolOp .Or (b :: es) pos) gb) : QW X (.BoolOp .Or (a :: b :: es) pos) (fOrT ga gb) := (pw_or ha hb).imp fun _ _ _ => i_orT
theorem t_w (h : QW X a ga) : QT X a ga := h.pt
theorem t_not (ha : QT X a ga) : QT X (.UnaryOp .Not a pos) (fNotT ga) := (pt_not ha).imp fun _ _ _ => i_notT
theorem t_tru (ha : QE X a fa) (he : ∀ whole, isTrue a X.env whole = (do let v ← whole; standAt a.pos; holding [v] (truthy v)) := by intro _; rfl) : QT X a (fTru fa) := (pt_truth ha he).imp fun _ _ _ => i_tru
/-! ### lists -/
theorem q_ix (ha : QE X a fa) (hb : QE X b fb) (hs : PlainIx b := by exact fun _ _ => rfl) : QE X (.Subscript a b pos) (fBin fa fb gIx) := (pe_ix ix_seq ha hb hs).imp fun _ _ _ => i_op fun _ _ _ _ _ => o_ix
theorem q_nopart : QO X none fNoPart := po_none.imp fun _ _ _ => i_noPart
theorem q_part (ha : QE X a fa) : QO X (some a) (fPart fa) := (po_some ha).imp fun _ _ _ => i_part
theorem n_slice {lo hi : Option Expr} {fl fh : FO} (ha : QE X a fa) (hl : QO X lo fl) (hh : QO X hi fh) : QN X (.Subscript a (.Slice lo hi none p2) pos) (fSl fa fl fh) := (pe_slice sl_list ha hl hh).imp fun _ _ _ => i_sl
theorem q_anil : QA X [] fNil := pa_nil.imp fun _ _ _ => i_nil
theorem q_acons (ha : QE X e f) (hr : QA X es fr) (hs : starEach (e :: es) X.env = (false, eval e X.env) :: starEach es X.env := by rfl) : QA X (e :: es) (fCons f fr) := (pa_cons ha hr hs).imp fun _ _ _ => i_cons
theorem n_disp (h : QA X es fr) : QN X (.List es pos) (fDisp fr) := (pe_lst h).imp fun _ _ _ => i_disp lim_line
theorem n_cat (ha : QE X a fa) (hb : QE X b fb) : QN X (.BinOp a .Add b pos) (fBinN fa fb gCat) := (pe_op op_catL ha hb).imp fun _ _ _ => i_opN fun _ _ _ _ _ => o_cat
theorem q_tree (h : QN X a fn) : QE X a (fTree fn) := PE.imp h fun _ _ _ => i_tree
/-! ### Python's own functions -/
section
variable {x : Str} {id : String}
theorem q_bi {r : List V → Hp → VK → Prop} {g : List T → Sto → Option (T × Sto)} (hc : CallR X (.builtin id) r) (ho : ∀ σ H Q xs, (∃ ts, trV X.K σ ts xs (g ts) H Q) → r xs H Q) (hv : bootBuiltins x = some (.builtin id)) (hm : X.mg x = none) (hg : Gl X x) (ha : QA X (e :: es) fr) (hn : x ≠ "__name__" := by decide) (hdb : (x == ("__debug__" : Str)) = false := by decide)
    (he : starEach (e :: es) X.env = (false, eval e X.env) :: starEach es X.env := by rfl) (hpl : (backTo pos (starEach es X.env)).any (·.1) = false := by rfl) : QE X (.Call (.Name x p) (e :: es) [] pos) (fArg fr g) :=
  (pe_callB hc hg hm hv ha hn hdb he hpl).imp fun _ _ _ => i_cb ho
end
theorem q_all (hm : X.mg "all" = none) (hc : X.calm = true) (ha : QA X (e :: es) fr) (hg : Gl X "all" := by rfl) (he : starEach (e :: es) X.env = (false, eval e X.env) :: starEach es X.env := by rfl) (hpl : (backTo pos (starEach es X.env)).any (·.1) = false := by rfl) :
    QE X (.Call (.Name "all" p) (e :: es) [] pos) (fAll fr) := q_bi (call_allL hc) (fun _ _ _ _ => o_bls) boot_all hm hg ha (by decide) (by decide) he hpl
/-! ### defs -/
structure DefT (P : Program) (w : World) (K : PySem.W.Frag) (mg : Str → Option Value) (base : Heap) (k : Nat) (x : Str) (n : Nat) (F : List T → Option T) : Prop where
  ex : ∃ f fd ps, FnOk P w K mg base CX0 k f fd ps (spT K n F) ∧ mg x = some (.ref f) ∧ PySem.W.keepIn K (.ref f) = true ∧ Binds K fd ps []
theorem q_call {k n : Nat} {x : Str} {F : List T → Option T} (D : DefT X.prog X.w X.K X.mg X.base k x n F) (hr : Room k X.A) (ha : QA X (e :: es) fr) (hg : Gl X x := by rfl) (hdb : (x == ("__debug__" : Str)) = false := by decide)
    (he : starEach (e :: es) X.env = (false, eval e X.env) :: starEach es X.env := by rfl) (hpl : (backTo pos (starEach es X.env)).any (·.1) = false := by rfl) : QE X (.Call (.Name x p) (e :: es) [] pos) (fCall n F fr) := by
  obtain ⟨f, fd, ps, G, hm, hk, hb⟩ := D.ex
  exact (pe_call (E := fun _ _ _ => False) G hr hg hm hk hb .nil (fun _ _ _ _ _ _ _ h => h.elim) ha hdb he hpl).imp fun _ _ _ => i_call
theorem hu20 {k : Nat} {A : Around} (hr : Room k A) : A.units + 20 < cLine := by have := hr.un; omega

/-! ### targets -/
theorem g_nm {x : Str} (hN : X.N.Nodup) (i : Nat) (hi : X.N[i]? = some x := by rfl) (hx : Loc X.env.scope x := by first | exact Or.inl rfl | exact Or.inr rfl) (hf : X.fn x = true ∨ X.env.scope.names.lookup x = some .local := by first | exact .inl rfl | exact .inr rfl) : QG X (.Name x pos) (gN i) :=
  (pg_name hN hi hx hf).imp fun _ _ _ _ => g_name
/-! ### comprehensions -/
theorem cok (own fr : List Str) (is : List Nat) {scope : Scope} {cl : List (Str × Addr)} (h1 : closL X.env.cells scope.names [] = some cl := by with_unfolding_all rfl) (h2 : ∀ y ∈ scope.names, y.2 ≠ .cell := by decide +kernel) (h3 : scope.kind = .function := by rfl)
    (h4 : ∀ y ∈ scope.names, y.2 = .local → scope.names.lookup y.1 = some .local := by decide +kernel) (h5 : is.map (fun i => X.N[i]?) = fr.map some := by rfl)
    (h6 : fr.all (fun x => X.env.kindOf x == some .cell || X.env.kindOf x == some .free) = true := by rfl) (h7 : fr.all (fun x => (relabel scope X.env).names.lookup x == some .cell || (relabel scope X.env).names.lookup x == some .free) = true := by rfl) : CompOk X own fr is scope cl :=
  ⟨h1, h2, h3, h4, h5, h6, h7⟩
theorem qts_nil : QTs X [] fTrueT := pts_nil.imp fun σ H Q h => by
  obtain ⟨H₀, Z, ρ, τ, C, b, C', R, e, k⟩ := h
  cases e
  exact k H ρ R .refl
section
variable {own frs : List Str} {is : List Nat} {scope : Scope} {cl : List (Str × Addr)} {tg iter elt : Expr} {ifs : List Expr} {fi fe : FE} {g : FG} {gt : FB} {spos pos' : Pos} {x : Str}
theorem n_compR1 (hm : X.mg "range" = none) (hc : X.calm = true) (k : CompOk X own frs is scope cl) (hi : QE X iter fi) (ho : Own own.length g) (hg : ∀ C s3 H3 fp, QG (compCx X (own ++ frs) scope cl C s3 H3 fp) tg g) (ht : ∀ C s3 H3 fp, QTs (compCx X (own ++ frs) scope cl C s3 H3 fp) ifs gt)
    (he : ∀ C s3 H3 fp, QE (compCx X (own ++ frs) scope cl C s3 H3 fp) elt fe) (hgl : Gl X "range" := by rfl) (hs : ∀ x, foldedSetIterable (.Call (.Name "range" p) [iter] [] p2) X.env x = pure x := by intro _; rfl) (hst : starEach [iter] X.env = [(false, eval iter X.env)] := by rfl) :
    QN X (.ListComp elt [⟨tg, .Call (.Name "range" p) [iter] [] p2, ifs, 0⟩] scope pos) (fCompR1 fi own.length is g gt fe) :=
  (pe_comp hc k (pi_range1 hgl hm (q_acons hi q_anil (by rw [hst]; rfl)) hst) hg ht he hs).imp fun _ _ _ => i_compR1 ho
end

/-! ### statements -/
section
variable {st : Stmt} {sts sts' : List Stmt} {F G : FS} {tg iter : Expr} {g : FG}
theorem qss_nil : QSs X [] fNext := pss_nil.imp fun _ _ _ => s_next
theorem qss_one (h : QS X st F) : QSs X [st] F := pss_one h
theorem qss_cons (h : QS X st F) (h2 : QSs X sts G) : QSs X (st :: sts) (fSeq F G) := (pss_cons h h2).imp fun _ _ _ => s_seq
theorem qs_ret (h : QE X a fa) : QS X (.Return (some a) pos) (fRet fa) := (ps_ret h).imp fun _ _ _ => s_ret
theorem qs_expr (h : QE X a fa) (hs : swapsWith a none pos.line X.env = pure false := by rfl) : QS X (.Expr a pos) (fDrop fa) := (ps_expr h hs).imp fun _ _ _ => s_drop
theorem qs_if (hc : QT X c ga) (ha : QSs X sts F) (hb : QSs X sts' G) : QS X (.If c sts sts' pos) (fIf ga F G) := (ps_if hc ha hb).imp fun _ _ _ => s_if
theorem qs_set {x : Str} {pos' : Pos} (hN : X.N.Nodup) (i : Nat) (h : QE X a fa) (hi : X.N[i]? = some x := by rfl) (hx : Loc X.env.scope x := by first | exact Or.inl rfl | exact Or.inr rfl) (hs : swapsWith a (some (.Name x pos')) pos.line X.env = pure false := by rfl)
    (hf : X.fn x = true ∨ X.env.scope.names.lookup x = some .local := by first | exact .inl rfl | exact .inr rfl) : QS X (.Assign [.Name x pos'] a pos) (fAsg fa (gN i)) := (ps_set hN hi hx h hs hf).imp fun _ _ _ h => trE_mono (s_asg h) fun _ _ q => g_name q
theorem qs_for (hc : X.calm = true) (hi : QE X iter fa) (hg : QG X tg g) (hb : QSs X sts F) (hp : PassesOwn (model X.prog X.w) X.A X.env X.xe := by first | exact PassesOwn.never | exact PassesOwn.leaving | exact PassesOwn.looking) (hs : ∀ x, foldedSetIterable iter X.env x = pure x := by intro _; rfl) : QS X (.For tg iter sts [] pos) (fFor fa g F) :=
  (ps_for hp hc (pi_list hi) hg hb hs).imp fun _ _ _ => s_for
end
end
end TL
/-! ModelE -/
set_option linter.all false
set_option maxRecDepth 100000
namespace TL
open PySem PySem.Spec PyProof.Rows L2

section
variable {X : Cx} {pins : List (Addr × Obj)} {σ : L2.St} {H : Hp} {s : Shared}
end

section
variable {X : Cx} {a b e : Expr} {es : List Expr} {fa fb : FE} {fr : FN} {pos p p2 : Pos}
section
variable {own frs : List Str} {is : List Nat} {scope : Scope} {cl : List (Str × Addr)} {ts : List Expr} {tk : Nat} {tpos : Pos} {elt : Expr} {ifs : List Expr} {fe : FE} {g : FG} {gt : FB}
end

/-! ### isinstance -/
def IsiV (K : PySem.W.Frag) (H : Hp) (x : V) (c : String) (b : Bool) : Prop := match x with
  | .non => PySem.W.kitOne K (.type "NoneType") (.type c) = some b
  | .bl _ => PySem.W.kitOne K (.type "bool") (.type c) = some b
  | .int _ => PySem.W.kitOne K (.type "int") (.type c) = some b
  | .str _ => PySem.W.kitOne K (.type "str") (.type c) = some b
  | .ref a => ((∃ xs, SqL K H a xs) ∧ PySem.W.kitOne K (.type "list") (.type c) = some b) ∨ ((∃ xs, SqT K H a xs) ∧ PySem.W.kitOne K (.type "tuple") (.type c) = some b)
  | _ => False
theorem call_isi : CallR X (.builtin "isinstance") (fun xs H Q => ∃ x c b, xs = [x, .ty c] ∧ IsiV X.K H x c b ∧ Q (.bl b) H) := by
  intro pins s σ H xs us Q I r h
  obtain ⟨x, c, b, rfl, hi, q⟩ := h
  obtain ⟨u, u2, rfl, ru, ru2⟩ := r.two
  cases ru2
  have fin : ∀ tk, EP X pins σ Q (.bool b) { s with toks := tk } := fun tk => ⟨.bl b, H, I.tok tk, rfl, q⟩
  cases x with
  | non => cases ru; exact PySem.W.kia_one PySem.W.kitx_none I.kIn True.intro hi (fun z => nomatch z) fin
  | bl y => cases ru; exact PySem.W.kia_one PySem.W.kitx_bool I.kIn True.intro hi (fun z => nomatch z) fin
  | int i => obtain ⟨t, q⟩ := ru; cases q; exact PySem.W.kia_one PySem.W.kitx_int I.kIn True.intro hi (fun z => nomatch z) fin
  | str y => obtain ⟨t, q⟩ := ru; cases q; exact PySem.W.kia_one PySem.W.kitx_str I.kIn True.intro hi (fun z => nomatch z) fin
  | ref a =>
    cases ru
    rcases hi with ⟨⟨xs, hq⟩, hi⟩ | ⟨⟨xs, hq⟩, hi⟩
    · obtain ⟨its, _, ⟨o, n, e, c, _⟩, _⟩ := I.list hq
      exact PySem.W.kia_one PySem.W.kitx_list I.kIn ⟨o, e, c⟩ hi (fun z => nomatch z) fin
    · obtain ⟨its, _, ⟨o, e, c, _⟩, _⟩ := I.tuple hq
      exact PySem.W.kia_one PySem.W.kitx_tuple I.kIn ⟨o, e, c⟩ hi (fun z => nomatch z) fin
  | _ => exact False.elim hi
def IsiOk (c : String) : Prop := ∀ (K : PySem.W.Frag), PySem.W.kitOne K (.type "NoneType") (.type c) = some (c == "NoneType") ∧ PySem.W.kitOne K (.type "bool") (.type c) = some (c == "bool" || c == "int") ∧ PySem.W.kitOne K (.type "int") (.type c) = some (c == "int") ∧
  PySem.W.kitOne K (.type "str") (.type c) = some (c == "str") ∧ PySem.W.kitOne K (.type "list") (.type c) = some (c == "list") ∧ PySem.W.kitOne K (.type "tuple") (.type c) = some (c == "tuple")
theorem isi_int : IsiOk "int" := fun K => ⟨rfl, rfl, rfl, rfl, rfl, rfl⟩
theorem isi_bool : IsiOk "bool" := fun K => ⟨rfl, rfl, rfl, rfl, rfl, rfl⟩
theorem i_isi {K : PySem.W.Frag} {c : String} {σ : L2.St} {H : Hp} {Q : VK} (hc : IsiOk c) (h : trE K (fIsi c fa) σ H Q) : trE K fa σ H fun x H1 => ∃ b, IsiV K H1 x c b ∧ Q (.bl b) H1 := by
  obtain ⟨h1, h2, h3, h4, h5, h6⟩ := hc K
  refine trE_mono (i_un h) fun x H1 q => ?_
  obtain ⟨t0, H₀, Z, ρ, τ, C, t, C', R, r, e, k⟩ := q
  obtain ⟨_, _, z, r1, r⟩ := r.cons_inv
  cases z
  obtain ⟨b, e1, e⟩ := Option.map_eq_some_iff.mp e
  cases e
  refine ⟨b, ?_, k _ H1 ρ R .bl .refl⟩
  cases t0 with
  | non => rw [r1.non_inv]; exact h1.trans e1
  | bl y => rw [r1.bl_inv]; exact h2.trans e1
  | int i => rw [r1.int_inv]; exact h3.trans e1
  | str y =>
    unfold RT at r1
    rw [r1]; exact h4.trans e1
  | exc y => cases e1
  | lst ts =>
    obtain ⟨a, vs, ea, qa, ra⟩ := R.li r1 rfl
    rw [ea]; exact .inl ⟨⟨vs, qa⟩, h5.trans e1⟩
  | tup ts =>
    unfold RT at r1
    obtain ⟨a, vs, ea, qa, ra⟩ := r1
    rw [ea]; exact .inr ⟨⟨vs, SqT.msk qa⟩, h6.trans e1⟩
  | cell c =>
    unfold RT at r1
    obtain ⟨a, ea, qa⟩ := r1
    obtain ⟨ts, vs, c1, c2, c3⟩ := R.cel c a qa
    rw [ea]; exact .inl ⟨⟨vs, .of c2⟩, h5.trans e1⟩
theorem q_isi {x : Str} {c : String} (hc : IsiOk c) (hm : X.mg "isinstance" = none) (hmc : X.mg x = none) (hv : bootBuiltins x = some (.type c)) (ha : QE X a fa) (hg : Gl X "isinstance" := by rfl) (hgx : Gl X x := by rfl) (hn : x ≠ "__name__" := by decide) (hd : (x == ("__debug__" : Str)) = false := by decide)
    (h1 : starEach [a, .Name x p2] X.env = (false, eval a X.env) :: starEach [.Name x p2] X.env := by rfl) (h2 : (backTo pos (starEach [.Name x p2] X.env)).any (·.1) = false := by rfl) :
    QE X (.Call (.Name "isinstance" p) [a, .Name x p2] [] pos) (fIsi c fa) :=
  (pe_callB call_isi hg hm boot_isinstance (pa_cons ha (pa_cons (pe_bltn (v := .ty c) hgx hmc hv rfl hn hd) pa_nil rfl) h1) (by decide) (by decide) h1 h2).imp fun σ H Q h => trE_mono (i_isi hc h) fun x H1 q => by
    obtain ⟨b, h1, h2⟩ := q
    exact ⟨x, c, b, rfl, h1, h2⟩
theorem q_isi_int (hm : X.mg "isinstance" = none) (hmc : X.mg "int" = none) (ha : QE X a fa) (hg : Gl X "isinstance" := by rfl) (hgx : Gl X "int" := by rfl) (h1 : starEach [a, .Name "int" p2] X.env = (false, eval a X.env) :: starEach [.Name "int" p2] X.env := by rfl) (h2 : (backTo pos (starEach [.Name "int" p2] X.env)).any (·.1) = false := by rfl) :
    QE X (.Call (.Name "isinstance" p) [a, .Name "int" p2] [] pos) (fIsi "int" fa) := q_isi isi_int hm hmc boot_int ha hg hgx (by decide) (by decide) h1 h2
theorem q_isi_bool (hm : X.mg "isinstance" = none) (hmc : X.mg "bool" = none) (ha : QE X a fa) (hg : Gl X "isinstance" := by rfl) (hgx : Gl X "bool" := by rfl) (h1 : starEach [a, .Name "bool" p2] X.env = (false, eval a X.env) :: starEach [.Name "bool" p2] X.env := by rfl) (h2 : (backTo pos (starEach [.Name "bool" p2] X.env)).any (·.1) = false := by rfl) :
    QE X (.Call (.Name "isinstance" p) [a, .Name "bool" p2] [] pos) (fIsi "bool" fa) := q_isi isi_bool hm hmc boot_bool ha hg hgx (by decide) (by decide) h1 h2
end
end TL
/-! ModelF -/
set_option linter.all false
set_option maxRecDepth 100000
namespace TL
open PySem PySem.W PySem.Calls PyProof.Rows L2

theorem bitsW {n : Int} (h : (WData.int n).layable = true) : Builtin.Int.intBits n ≤ 2 ^ 20 := by
  obtain ⟨_, _, h3⟩ := layableW_iff.mp h
  unfold WData.weight at h3
  unfold Builtin.Int.intBits
  exact h3
theorem script_bits {ns : List Int} (h : WData.layableAll [WData.list (ns.map WData.int)] = true) : ∀ n ∈ ns, Builtin.Int.intBits n ≤ 2 ^ 20 := fun n hn =>
  bitsW (layableW_item (layableW_arg h _ List.mem_cons_self) _ (List.mem_map.mpr ⟨n, hn, rfl⟩))

theorem walk_tree {l : PySem.W.OpenLaw} {k : Nat} {q : Program} {loose : List Str} {XP : (Str → Option Value) → Heap → Prop} {YP : World → Heap → Prop} {d : DefRec} {K : Params → PySem.W.Frag} {x : Str} {R : List T → Option T}
    (hn : l.most = some 63) (hdf : d.params.defaults = []) (hr : Room k callerA)
    (hY : ∀ (w : World) (h : Heap), YP w h → (K w.params).In h)
    (hR : ∀ ns : List Int, ns.length ≤ 63 → (∀ n ∈ ns, Builtin.Int.intBits n ≤ 2 ^ 20) → R [.lst (ns.map T.int)] = some (.bl true))
    (F : ∀ (w : World) (mg : Str → Option Value) (fa : Addr) (h : Heap), (K w.params).In h → h.Ns mainGlobals mg → mg d.name = some (.ref fa) →
      ∃ fd : FuncData, (∀ (s : Shared) (u : Value), BindsTo s fd ⟨[u], []⟩ [(x, u)]) ∧
        ∀ base : Heap, (K w.params).In base → base.Ns mainGlobals mg → FnOk l.prog w (K w.params) mg base CX0 k fa fd [x] (spT (K w.params) 1 R)) :
    PySem.W.WalkO q loose XP YP l.row.toRowW d [] (fun f vs => PySem.call f vs) := by
  intro w s₀ s₁ mg mb G Y fa o pm cd doc dV kV ho hd hcd hD hmg hg args vals as hpre hlay hrd hwl hlo
  obtain rfl : dV = .none := Dflts.none hD hdf
  obtain rfl : kV = .none := Dflts.noKw hD
  obtain ⟨a, vs, ns, rfl, rfl, hobj, hints, hlen⟩ := Att.script_of hn hpre hwl
  have KX := hY w _ Y
  obtain ⟨fd, hb, hF⟩ := F w mg fa _ KX G.T.g hmg
  have hsp : ∀ H : Hp, Only H → SqL (K w.params) H a (ns.map V.int) → spT (K w.params) 1 R [.ref a] H (fun v _ => v = .bl true) fun _ _ _ => False := fun H _ hS => by
    refine ⟨fun _ => False, [.lst (ns.map T.int)], .bl true, rfl, fun _ z => z.elim, .cons ?_ .nil, hR ns hlen (script_bits hlay), fun v H' _ r => r.bl_inv⟩
    unfold RT
    have sm : Same H (mask H (fun _ => False) []) := fun b o e => mask_of (fun z => z) (by simp) e
    refine ⟨a, _, rfl, sm.seq hS, ?_⟩
    clear hS hobj hints hlen hlay hpre hrd hwl
    induction ns with
    | nil => exact .nil
    | cons n ns ih => exact .cons .int ih
  refine enter_call (codeAny_mono (law_call KX G.T.g G.T.b G.T.builtins G.T.nolimit hg hobj hints (Nat.le_trans hlen (by decide)) hr hF hb hsp (fun H e s' z => z)) fun r s' hq => ?_)
  obtain ⟨rfl, h2, h3, h4⟩ := hq
  exact ⟨.inl ⟨.bool true, .bool true, [], rfl, fun _ => rfl, .bool true, Att.post_true l _, fun _ => ⟨List.Pairwise.nil, fun _ hm => (nomatch hm)⟩⟩, h2, h3, h4⟩
end TL
/-! ModelG -/
set_option linter.all false
set_option maxRecDepth 100000
namespace TL
open PySem PySem.Spec PyProof.Rows L2

/-! ### max(xs, default=d), min(xs, default=d) -/
section
variable {P : Program} {w : World} {A : Around} {R : Result → Shared → Prop} {it bs : Addr} {fp wr : List Addr} {n : Nat} {Pr : Nat → Value → Prop} {St : Nat → Heap → Prop} {kws : List (Str × Value)} {bt : Nat → Nat → Bool}
end

section
variable {X : Cx} {pins : List (Addr × Obj)} {σ : L2.St} {H : Hp} {s : Shared} {Q : VK}
end
section
variable {X : Cx} {p pos kp : Pos} {e de : Expr} {ta tb : TE} {fa fb : FE}
end
end TL
/-! ModelH -/
set_option linter.all false
set_option maxRecDepth 100000
namespace TL
open PySem PySem.Spec PyProof.Rows L2

/-! ### zip walked by one name: the tuples are held -/
section
variable {P : Program} {w : World} {A : Around} {E : Value → Shared → Prop} {s : Shared} {z TI TO i1 i2 l1 l2 : Addr} {k1 k2 : Nat} {xs ys : Array Value} {x y a b f0 f1 : Value}
end
section
variable {X : Cx} {a b e : Expr} {fa fb : FE} {pos p p2 : Pos}
variable {own frs : List Str} {is : List Nat} {scope : Scope} {cl : List (Str × Addr)} {x : Str} {tpos : Pos} {elt : Expr} {ifs : List Expr} {fe : FE} {g : FG} {gt : FB}
end

/-! ### xs[::-1] -/
section
variable {X : Cx} {a e : Expr} {te : TE} {fa : FE} {pos p2 p3 p4 : Pos}
end
end TL
/-! ModelI -/
set_option linter.all false
set_option maxRecDepth 100000
namespace TL
open PySem PySem.Spec PyProof.Rows L2
/-! ### xs.index(k) -/
section
variable {X : Cx} {a b : Expr} {fa fb : FE}
end

/-! ### for x in reversed(xs) -/
section
variable {X : Cx} {a e tg : Expr} {fa : FE} {pos p p2 : Pos} {sts : List Stmt} {F : FS} {g : FG}
end
end TL
/-! ModelJ -/
set_option linter.all false
set_option maxRecDepth 100000
namespace TL
open PySem PySem.Spec PyProof.Rows L2
section
variable {X : Cx} {st : Stmt} {sts : List Stmt} {F G : FS}
end
end TL
/-! TreeL -/
set_option linter.all false
set_option maxRecDepth 100000
namespace TL
open PySem L2
abbrev XF := TSt → Sto → Option (String × Sto)
def fX (x : XF) (F : FS) : FS := fun τ C => match x τ C with
  | some (c, C') => some (.ex c, τ, C')
  | none => F τ C
def fRaise (c : String) (fa : FN) : FS := fun τ C => (fa τ C).bind fun p => if p.1.length ≤ 10 then some (.ex c, τ, p.2) else none
def gX (n : Nat) (G : List T → Option String) (ts : List T) (C : Sto) : Option String := if ts.length = n then (if CFs ts = true then G ts else (mapO (dr 3 C) ts).bind G) else none
def xCall (n : Nat) (G : List T → Option String) (fa : FN) : XF := fun τ C => (fa τ C).bind fun p => (gX n G p.1 p.2).map fun c => (c, p.2)
def runX (B : FS) (m : Nat) (ts : List T) : Option String := match B (st0 m ts) [] with
  | some (.ex c, _, _) => some c
  | _ => none
def fTry (tab : String → List String) (d : String) (i : Nat) (F G : FS) : FS := fun τ C => (F τ C).bind fun r => match r with
  | (.ex c, τ1, C1) => if (tab c).contains d = true then (G (τ1.set i (some (.exc c))) C1).bind fun q => (match q with
      | (.ex _, _, _) => none
      | (fl, τ2, C2) => some (fl, τ2.set i none, C2)) else none
  | r => some r
def isxT (tab : String → List String) (ds : List String) : T → Option Bool
  | .non => some false
  | .exc c => if tab c = [] then none else some (ds.any fun d => (tab c).contains d)
  | _ => none
def fIsx (tab : String → List String) (ds : List String) (a : FE) : FE := fUn a fun t C => (isxT tab ds t).map fun b => (.bl b, C)
section
variable {K : PySem.W.Frag} {σ : L2.St} {H : Hp} {Q : VK}
end
end TL
/-! ModelY -/
set_option linter.all false
set_option maxRecDepth 100000
namespace TL
open PySem PySem.Spec PyProof.Rows L2

def trX (K : PySem.W.Frag) (W : XW) (x : XF) (σ : L2.St) (H : Hp) : Prop := ∃ H₀ Z ρ τ C c C', Rel K H₀ Z ρ τ C σ H ∧ x τ C = some (c, C') ∧
  ∀ H' ρ', Rel K H₀ Z ρ' τ C' σ H' → Step H H' ρ ρ' → W c σ H'
abbrev XE (X : Cx) (e : Expr) (x : XF) : Prop := PE X e fun σ H _ => trX X.K (wish X) x σ H
abbrev XS (X : Cx) (st : Stmt) (x : XF) : Prop := PS X st fun _ σ H => trX X.K (wish X) x σ H
def spR (K : PySem.W.Frag) (n : Nat) (G : List T → Option String) (vs : List V) (H : Hp) (E : XK) : Prop := ∃ Z ts c, ts.length = n ∧ (∀ a, Z a → H a ≠ none) ∧ RTs K (mask H Z []) [] ts vs ∧ G ts = some c ∧ ∀ H', Same H H' → E (.type c) none H'
def spX (sp : Sp) (K : PySem.W.Frag) (n : Nat) (G : List T → Option String) : Sp := fun vs H Q E => sp vs H Q E ∨ spR K n G vs H E

section
variable {K : PySem.W.Frag} {W : XW} {σ : L2.St} {H : Hp} {x : XF}
theorem spX_len {sp : Sp} {n m : Nat} {G : List T → Option String} (h : ∀ vs H Q E, sp vs H Q E → vs.length = n) : ∀ vs H Q E, spX sp K n G vs H Q E → vs.length = n := fun vs H Q E z => by
  rcases z with z | ⟨Z, ts, c, hn, _, r, _⟩
  · exact h vs H Q E z
  · rw [r.length, hn]
theorem i_fX {F : FS} {D : Ends} (h : trS K W (fX x F) D σ H) : trX K W x σ H ∨ trS K W F D σ H := by
  obtain ⟨H₀, Z, ρ, τ, C, fl, τ', C', R, e, k⟩ := h
  unfold fX at e
  split at e
  · rename_i c C1 hx
    cases e
    exact .inl ⟨H₀, Z, ρ, τ, C, c, _, R, hx, fun H' ρ' R' s' => k σ H' ρ' R' s'.ss⟩
  · exact .inr ⟨H₀, Z, ρ, τ, C, fl, τ', C', R, e, k⟩
theorem i_xCall {fa : FN} {n : Nat} {G : List T → Option String} (h : trX K W (xCall n G fa) σ H) : trA K fa σ H fun vs H1 => spR K n G vs H1 fun v _ H' => ∃ c, v = .type c ∧ W c σ H' := by
  obtain ⟨H₀, Z, ρ, τ, C, c, C', R, e, k⟩ := h
  obtain ⟨⟨ts, C1⟩, e1, e⟩ := Option.bind_eq_some_iff.mp e
  obtain ⟨c', e2, e⟩ := Option.map_eq_some_iff.mp e
  cases e
  refine ⟨H₀, Z, ρ, τ, C, ts, _, R, e1, fun vs H1 ρ1 R1 r s1 => ?_⟩
  dsimp only at e2 R1 r
  unfold gX at e2
  split at e2
  · rename_i hn
    split at e2
    · rename_i hc
      refine ⟨fun a => Z a ∨ a ∈ ρ1, ts, _, hn, fun a z => ?_, by rw [mask_in]; exact r.cf hc, e2, fun H' sm => ⟨_, rfl, ?_⟩⟩
      · rcases z with z | z
        · exact R1.zd a z
        · exact R1.cel_some z
      · obtain ⟨R', st⟩ := R1.same sm
        exact k H' ρ1 R' (s1.trans st)
    · obtain ⟨us, e3, e2⟩ := Option.bind_eq_some_iff.mp e2
      refine ⟨Z, us, _, (mapO_len e3).trans hn, R1.zd, r.mapO (fun t v t' h e => R1.dr _ _ _ _ h e) e3, e2, fun H' sm => ⟨_, rfl, ?_⟩⟩
      obtain ⟨R', st⟩ := R1.same sm
      exact k H' ρ1 R' (s1.trans st)
  · cases e2
theorem body_R {n m : Nat} {B : FS} {vs : List V} {E : XK} {D : Ends} (hW : ∀ c σ H', E (.type c) none H' → W c σ H') (h : spR K n (runX B m) vs H E) :
    trS K W B D (vs.map some ++ List.replicate (m - vs.length) none) H := by
  obtain ⟨Z, ts, c, hn, hz, r, e, k⟩ := h
  unfold runX at e
  split at e
  · rename_i hB
    cases e
    exact ⟨H, Z, [], st0 m ts, [], _, _, _, Rel.start hz r, hB, fun σ' H' ρ' R' _ => hW _ _ _ (k H' R'.old)⟩
  · cases e
end

section
variable {X : Cx} {pins : List (Addr × Obj)} {σ : L2.St} {H : Hp} {s : Shared} {k : Nat} {f : Addr} {fd : FuncData} {ps : List Str} {sp : Sp} {e a b : Expr} {es : List Expr} {pos p : Pos} {x : XF} {fa fb : FE} {fr : FN} {st : Stmt} {F : FS}
theorem run_fnX {Q : VK} {us : List Value} {vs : List V} (F : FnOk X.prog X.w X.K X.mg X.base (CX1 X.prog X.w X.K) k f fd ps sp) (hr : Room k X.A) (hb : Binds X.K fd ps [])
    (I : Inv X pins σ H s) (r : Vals vs us) (h : sp vs H Q fun v _ H' => ∃ c, v = .type c ∧ wish X c σ H') : wpAny (model X.prog X.w) X.A (call (.ref f) us) (EP X pins σ Q) X.xe s := by
  have hl : (us ++ []).length = ps.length := by rw [List.append_nil, ← r.length]; exact F.len _ _ _ _ h
  have hb' := hb s us I.kIn hl
  rw [List.append_nil] at hb' hl
  refine wpAny_call (codeAny_mono (F.run X.A X.stack s H ⟨us, []⟩ us vs Q _ hr I.env0 hb' r h) fun r s' hq => ?_)
  cases r with
  | error e =>
    obtain ⟨c, a, C, B, H', rfl, al, fl, c', hc, hw⟩ := hq
    cases hc
    exact hw pins H s a C B s' I al (.inr fl)
  | ok fl =>
    cases fl with
    | ret u => exact I.after hq
    | next => exact False.elim hq
    | brk => exact False.elim hq
    | cont => exact False.elim hq
def tCallX (sp : Sp) (W : XW) (t : TA) : TE := fun σ H Q => t σ H fun vs H1 => sp vs H1 Q fun v _ H' => ∃ c, v = .type c ∧ W c σ H'
theorem pe_callX {x : Str} {t : TA} (F : FnOk X.prog X.w X.K X.mg X.base (CX1 X.prog X.w X.K) k f fd ps sp) (hr : Room k X.A) (hg : Gl X x) (hm : X.mg x = some (.ref f)) (hk : PySem.W.keepIn X.K (.ref f) = true) (hb : Binds X.K fd ps [])
    (ha : PA X (e :: es) t) (hdb : (x == ("__debug__" : Str)) = false := by decide) (he : starEach (e :: es) X.env = (false, eval e X.env) :: starEach es X.env := by rfl) (hpl : (backTo pos (starEach es X.env)).any (·.1) = false := by rfl) :
    PE X (.Call (.Name x p) (e :: es) [] pos) (tCallX sp (wish X) t) := by
  intro pins s σ H Q I h
  refine wpAny_Call_Name_kw (ld_glob I hg hm ?_ hdb)
  refine PySem.W.callWith_K (h₀ := X.base) I.ok.mod.kin hk (thn (ha pos pins s σ H _ I h) fun us s1 ⟨vs, H1, I1, r, q⟩ => ⟨I1.kIn, ?_⟩) he hpl
  exact run_fnX F hr hb I1 r q
structure DefX (P : Program) (w : World) (K : PySem.W.Frag) (mg : Str → Option Value) (base : Heap) (k : Nat) (x : Str) (n : Nat) (sp : Sp) (G : List T → Option String) : Prop where
  ex : ∃ f fd ps, FnOk P w K mg base (CX1 P w K) k f fd ps (spX sp K n G) ∧ mg x = some (.ref f) ∧ PySem.W.keepIn K (.ref f) = true ∧ Binds K fd ps []
theorem x_call {n : Nat} {x : Str} {G : List T → Option String} (D : DefX X.prog X.w X.K X.mg X.base k x n sp G) (hr : Room k X.A) (ha : QA X (e :: es) fr) (hg : Gl X x := by rfl) (hdb : (x == ("__debug__" : Str)) = false := by decide)
    (he : starEach (e :: es) X.env = (false, eval e X.env) :: starEach es X.env := by rfl) (hpl : (backTo pos (starEach es X.env)).any (·.1) = false := by rfl) : XE X (.Call (.Name x p) (e :: es) [] pos) (xCall n G fr) := by
  obtain ⟨f, fd, ps, F, hm, hk, hb⟩ := D.ex
  exact (pe_callX F hr hg hm hk hb ha hdb he hpl).imp fun σ H Q h => trA_mono (i_xCall h) fun vs H1 q => .inr q
theorem q_callX {n : Nat} {x : Str} {R : List T → Option T} {G : List T → Option String} (D : DefX X.prog X.w X.K X.mg X.base k x n (spT X.K n R) G) (hr : Room k X.A) (ha : QA X (e :: es) fr) (hg : Gl X x := by rfl) (hdb : (x == ("__debug__" : Str)) = false := by decide)
    (he : starEach (e :: es) X.env = (false, eval e X.env) :: starEach es X.env := by rfl) (hpl : (backTo pos (starEach es X.env)).any (·.1) = false := by rfl) : QE X (.Call (.Name x p) (e :: es) [] pos) (fCall n R fr) := by
  obtain ⟨f, fd, ps, F, hm, hk, hb⟩ := D.ex
  refine (pe_callX F hr hg hm hk hb ha hdb he hpl).imp fun σ H Q h => ?_
  refine trA_mono (i_call (E := fun v _ H' => ∃ c, v = .type c ∧ wish X c σ H') h) fun vs H1 q => .inl ?_
  rw [List.append_nil] at q; exact q
theorem qs_x (hx : XS X st x) (h : QS X st F) : QS X st (fX x F) := fun pins s σ H D I q => by
  rcases i_fX q with q | q
  · exact hx pins s σ H D I q
  · exact h pins s σ H D I q
theorem xs_expr (h : XE X a x) (hs : swapsWith a none pos.line X.env = pure false := by rfl) : XS X (.Expr a pos) x := ps_expr h hs
end
end TL
/-! ModelZ -/
set_option linter.all false
set_option maxRecDepth 100000
namespace TL
open PySem PySem.Spec PyProof.Rows L2

abbrev mroVE : List Value := [.type "ValueError", .type "Exception", .type "BaseException", .type "object"]
structure ExAt (h : Heap) (C : Addr) (nid : String) (up : List Value) : Prop where
  ex : ∃ N nm q bs hdct sn sub ab col dd k0 k1 k2 k3 k5 mN, h.get? C = some (excClassObj nm q C N bs up hdct sn sub ab col dd k0 k1 k2 k3 k5 nid) ∧ h.Ns N mN ∧ mN "__init__" = none ∧ OwnTail h mroVE up
theorem exAt_of {K : PySem.W.Frag} {h : Heap} {C : Addr} {nid : String} (X : K.In h) (q : PySem.W.excIn K C mroVE nid = true) : ∃ up, ExAt h C nid up ∧ (∀ v b, PySem.W.mroIn K C v = some b → (Value.ref C :: up).contains v = b) ∧ (PySem.W.clsIn K C).isSome = true := by
  unfold PySem.W.excIn at q
  split at q
  · rename_i dd cd sl ho
    split at q
    · rename_i C' bm k0 k1 k2 k3 n k5 hmr hs
      simp only [Bool.and_eq_true, beq_iff_eq, Bool.not_eq_true'] at q
      obtain ⟨⟨⟨⟨⟨rfl, rfl⟩, hdel⟩, ht⟩, hok⟩, hni⟩ := q
      have hcl : PySem.W.clsIn K C' = some cd := by unfold PySem.W.clsIn; rw [ho]
      refine ⟨bm, ?_, fun v b e => ?_, by rw [hcl]; rfl⟩
      · obtain ⟨nm, bs, mro, ns, qn, hd, sn, sub, ab, col, del⟩ := cd
        dsimp only at hmr hdel hok hni
        subst hmr hdel
        have hsl : sl = #[k0, k1, k2, k3, some (.builtin n), k5] := by
          obtain ⟨l⟩ := sl
          simp only at hs
          rw [hs]
        subst hsl
        exact ⟨ns, nm, qn, bs, hd, sn, sub, ab, col, dd, k0, k1, k2, k3, k5, _, X _ _ ho, .of_isNs (PySem.W.isNs_of_in X hok), PySem.W.nsMap_none_of_in X hok hni, PySem.W.tail_of_in X ht⟩
      · unfold PySem.W.mroIn at e
        rw [hcl, Option.bind_some, hmr] at e
        simpa using e
    · cases q
  · cases q
structure ExC (K : PySem.W.Frag) (mg : Str → Option Value) (c : String) (C : Addr) : Prop where
  nm : Named K c C
  mg : mg (Str.ofString c) = some (.ref C)
  ok : PySem.W.excIn K C mroVE "ValueError.__new__" = true

section
variable {X : Cx} {pins : List (Addr × Obj)} {σ : L2.St} {H : Hp} {s : Shared} {c : String} {C : Addr} {e₀ : Expr} {rest : List Expr} {np cpos pos : Pos} {fa : FN}
theorem aloft_made {h' : Heap} {a : Addr} {vs : List Value} (I : Inv X pins σ H s) (hn : Named X.K c C) (hm : Heap.MadeExcOf s.heap h' a (.ref C) vs) :
    ∃ B, Aloft X.prog X.w X.K X.stack H s c H C B { s with heap := h' } ∧ Made B X.stack a C { s with heap := h' } := by
  refine ⟨PySem.W.hideAll s.heap (frs X.stack), ⟨hn, rfl, I.bare, Un.kept hm.keeps, I.hok.kept hm.keeps, fun b o e _ n => PySem.W.hideAll_get _ e n, fun b u o e q => ?_, fun b o e n => ⟨o, PySem.W.hideAll_get _ e n⟩⟩, s.heap, vs, fun b o q => PySem.W.of_hideAll _ q, ?_, hm⟩
  · obtain ⟨ob, eo⟩ := obj_there (I.hok b u e)
    have q2 := (hm.keeps b ob eo).symm.trans q
    cases q2
    exact PySem.W.hideAll_get _ eo fun z => by
      rw [I.stkFree b z] at e; cases e
  · exact PySem.W.funFrames_hide I.stack fun env he a' ha => List.mem_filterMap.mpr ⟨env, he, ha⟩
theorem qs_raise (D : ExC X.K X.mg c C) (hc : X.calm = true) (ha : QA X (e₀ :: rest) fa) (hg : Gl X (Str.ofString c) := by rfl) (hd : (Str.ofString c == ("__debug__" : Str)) = false := by decide)
    (he : starEach (e₀ :: rest) X.env = (false, eval e₀ X.env) :: starEach rest X.env := by rfl) (hpl : (backTo cpos (starEach rest X.env)).any (·.1) = false := by rfl) :
    QS X (.Raise (some (.Call (.Name (Str.ofString c) np) (e₀ :: rest) [] cpos)) none pos) (fRaise c fa) := by
  intro pins s σ H Dn I h
  obtain ⟨up, hup, _, _⟩ := exAt_of I.ok.mod.kin D.ok
  obtain ⟨N, nm, q, bs, hdct, sn, sub, ab, col, dd, k0, k1, k2, k3, k5, mN, hC, hN, hni, T⟩ := hup.ex
  refine wpAny_Raise_call_subT (C := C) (nm := nm) (q := q) (N := N) (bs := bs) (bm := up) (hdct := hdct) (sn := sn) (sub := sub) (ab := ab) (col := col) (dd := dd) (k0 := k0) (k1 := k1) (k2 := k2) (k3 := k3) (k5 := k5)
    PySem.F.excBase_ValueError (mN := mN) (T.hasType PySem.F.excBase_ValueError.hasBase) (I.ok.hd hc) (by rw [he]; show (false || (backTo cpos (starEach rest X.env)).any (·.1)) = false; rw [hpl]; rfl) hni (ld_glob I hg D.mg ⟨rfl, ?_⟩ hd)
  have h2 : trA X.K fa σ H fun vs H1 => vs.length ≤ 10 ∧ wish X c σ H1 := by
    obtain ⟨H₀, Z, ρ, τ, C0, fl, τ', C', R, e, k⟩ := h
    unfold fRaise at e
    obtain ⟨⟨ts, C1⟩, e1, e⟩ := Option.bind_eq_some_iff.mp e
    split at e
    · rename_i hl
      cases e
      exact ⟨H₀, Z, ρ, _, C0, ts, _, R, e1, fun vs H1 ρ1 R1 r s1 => ⟨by rw [r.length]; exact hl, k σ H1 ρ1 R1 s1.ss⟩⟩
    · cases e
  have ha' := ha cpos pins s σ H _ I h2
  rw [he] at ha' ⊢
  refine Calls.evalArgs_plain (thn ha' fun us s2 ⟨vs, H2, I2, r, hl, hw⟩ => ⟨rfl, ?_, ?_, ?_, ?_, fun h' e hm => ?_⟩)
  · show us.length ≤ _
    rw [← r.length]
    exact Nat.le_trans hl (by decide)
  · exact I2.bk _ _ hC
  · exact hN.keeps I2.bk
  · exact T.keeps I2.bk
  · obtain ⟨B, al, md⟩ := aloft_made I2 D.nm hm
    exact hw pins H2 s2 e C B _ I2 al (.inl md)
end

/-! ### a def that may raise -/
section
variable {P : Program} {w : World} {K : PySem.W.Frag} {mg : Str → Option Value} {base : Heap}
abbrev cx1 (P : Program) (w : World) (K : PySem.W.Frag) (mg : Str → Option Value) (base : Heap) (N : List Str) (qual : Str) (scope : Scope) (f : Addr) (cd : Value) (A : Around) (outer : List Env) (s : Shared) (H : Hp) (E : XK) : Cx := cxOf (CX1 P w K) P w K mg base N qual scope f cd A outer s H E
theorem okX {x qual : Str} {st : Stmt} {f : Addr} {fd : FuncData} {N ps : List Str} {k n : Nat} {sp : Sp} {B : FS} (F : Fun K x qual st f fd) (S : FnScope N ps (defScope st)) (hn : ps.length = n) (len : ∀ vs H Q E, sp vs H Q E → vs.length = n)
    (hB : ∀ (W : XW) vs H Q E, sp vs H Q E → trS K W B { nx := fun _ H' => Q .non H', rt := Q } (start N vs) H)
    (hbody : ∀ (cdv : Value) (A : Around) (outer : List Env) (s : Shared) (H : Hp) (E : XK), Room k (A.deeper (envOfC qual (defScope st) s.heap.objs.size f cdv)) →
      QSs (cx1 P w K mg base N qual (defScope st) f cdv A outer s H E) (defBody st) B) : FnOk P w K mg base (CX1 P w K) (k + 1) f fd ps (spX sp K n (runX B N.length)) := by
  obtain ⟨oc, od, kV, doc, pm, an, cdv, ct, osl, rfl, lk, hcd⟩ := F.ex
  refine fn_of lk hcd S (fun vs H Q E h => (spX_len (m := 0) len vs H Q E h).trans hn.symm) fun A outer s H vs Q E hr hsp => ⟨_, hbody cdv A outer s H E hr, ?_⟩
  rcases hsp with h | h
  · exact hB _ vs H Q E h
  · exact body_R (fun c σ H' z => wish_fn z) h
end
end TL
/-! ModelN -/
set_option linter.all false
set_option maxRecDepth 100000
namespace PySem
theorem looks_made {M : Model} {A : Around} {E : Value → Shared → Prop} {s : Shared} {B h : Heap} {env : Env} {outer : List Env} {L e : Addr} {cls : Value} {args : List Value} {Q : Unit → Shared → Prop}
    (hfr : A.frames = some (env :: outer)) (hf : env.frame = some L) (hkb : B.StaysIn h) (hl : h.FunFrames B (env :: outer)) (hx : Heap.MadeExcOf h s.heap e cls args)
    (hQ : ∀ h' t, Heap.HeldW B (env :: outer) e cls (.ref t) L h' → s.heap.UpToSlots h' → Q () { s with heap := h' }) : wpAny M A (noteFrame (.ref e) env) Q E s := by
  obtain ⟨t, he, htn, ht⟩ := hx.there
  have fresh : ∀ b, h.get? b = none → B.get? b = none := fun b hb => by
    cases hq : B.get? b with
    | none => rfl
    | some o' => have := hkb b o' hq; rw [hb] at this; cases this
  unfold noteFrame
  simp only [hf]
  refine wpAny_bind (wpAny_field (x := .none) he rfl rfl ?_)
  rw [if_neg (show ¬ ((Value.none != Value.none) = true) from by simp)]
  exact wpAny_entryW (a0 := .ref t) hfr (hl.of_keeps fun b o hb _ => ⟨o, hx.keeps b o hb, rfl⟩) hf he (fun b o hb => hx.keeps b o (hkb b o hb)) (fresh e hx.new) rfl (by simp) rfl fun h' ⟨k1, k2, k3, k4⟩ => hQ h' t ⟨k1, fresh e hx.new, k2, k3⟩ k4
end PySem
namespace TL
open PySem PySem.Spec PyProof.Rows L2
section
variable {X : Cx} {pins : List (Addr × Obj)} {σ : L2.St} {H H' : Hp} {s s' : Shared} {c : String} {C a : Addr} {B : Heap}
theorem Aloft.stay {h' : Heap} (I : Inv X pins σ H s) (A : Aloft X.prog X.w X.K X.stack H s c H' C B s') (st : B.StaysIn h') (sm : s'.heap.UpToSlots h') :
    Aloft X.prog X.w X.K X.stack H s c H' C B { s' with heap := h' } := by
  have stay : ∀ b u o, H' b = some u → s'.heap.get? b = some o → h'.get? b = some o := fun b u o e q => st b o (A.trkB b u o e q)
  have frm : ∀ b ∈ frs X.stack, ∃ o, s.heap.get? b = some o ∧ ∀ vs, o.data ≠ .fields vs := fun b hb => (I.stack.mem hb).2
  have slot : ∀ b o, s.heap.get? b = some o → H b = none → b ∈ frs X.stack → ∃ sl, h'.get? b = some { o with slots := sl } := fun b o e n hb => by
    obtain ⟨sl2, e2⟩ := A.un.any e n (by simp)
    obtain ⟨o', e', nd⟩ := frm b hb
    rw [e] at e'; cases e'
    obtain ⟨sl3, e3⟩ := sm b _ e2 nd
    exact ⟨sl3, e3⟩
  refine ⟨A.nm, A.os, A.bare, ⟨fun b o e n nf _ => st b o (A.keepB b o e n nf), fun b o e n hb _ => slot b o e n hb, A.un.free, fun b o e _ => ?_, A.un.tups, A.un.frzs, A.un.tbls⟩, hok_trk A.hok stay, A.keepB, fun b u o e q => ?_, A.thereB⟩
  · by_cases hb : b ∈ frs X.stack
    · obtain ⟨sl, e'⟩ := slot b o e (I.stkFree b hb) hb
      exact ⟨_, e'⟩
    · obtain ⟨o', e'⟩ := A.thereB b o e hb
      exact ⟨o', st b o' e'⟩
  · obtain ⟨ob, eo⟩ := obj_there (A.hok b u e)
    have q2 := (stay b u ob e eo).symm.trans q
    cases q2
    exact A.trkB b u _ e eo
theorem Aloft.inv (I : Inv X pins σ H s) (A : Aloft X.prog X.w X.K X.stack H s c H' C B s') : Inv X pins σ H' s' := I.call' A.os A.un A.hok A.bare (fun b z => absurd z (by simp))
theorem Aloft.held {t : Addr} (I : Inv X pins σ H s) (A : Aloft X.prog X.w X.K X.stack H s c H' C B s') (F : Heap.FlyingW B X.stack a (.ref C) (.ref t) s'.heap) : H' a = none ∧ Inv X pins σ (upd H' a (exO a C)) s' := by
  obtain ⟨oe, vs, he, hcl, hdt, _⟩ := F.first
  have hn : H' a = none := by
    cases q : H' a with
    | none => rfl
    | some u =>
      have := A.trkB a u oe q he
      rw [F.2.1] at this; cases this
  have new : ∀ o, s.heap.get? a ≠ some o := fun o e => by
    by_cases hb : a ∈ frs X.stack
    · obtain ⟨o', e', nd⟩ := (I.stack.mem hb).2
      obtain ⟨sl, e2⟩ := A.un.any e' (I.stkFree a hb) (by simp)
      rw [he] at e2
      have := Option.some.inj e2
      exact nd vs (by rw [this] at hdt; exact hdt)
    · obtain ⟨o', e'⟩ := A.thereB a o e hb
      rw [F.2.1] at e'; cases e'
  refine ⟨hn, I.call' A.os ⟨A.un.keep, A.un.slot, fun b o e n hx => ?_, A.un.there, fun b xs e => ?_, fun b o u e => ?_, fun b ps e => ?_⟩ ?_ A.bare (fun b z => absurd z (by simp))⟩
  · rw [upd_ne (fun z => new o (by rw [← z]; exact e))]
    exact A.un.free b o e n hx
  · have := A.un.tups b xs e
    rw [upd_ne (ne_of_none this hn)]; exact this
  · have := A.un.frzs b o u e
    rw [upd_ne (ne_of_none this hn)]; exact this
  · obtain ⟨m, this⟩ := A.un.tbls b ps e
    exact ⟨m, by rw [upd_ne (ne_of_none this hn)]; exact this⟩
  · intro b u e
    by_cases hb : b = a
    · subst hb
      rw [upd_same] at e; cases e
      refine ⟨⟨oe, he, hcl⟩, ⟨oe, he⟩, fun h1 h2 ⟨ob, e1, e2⟩ k => ⟨ob, k ob e1, e2⟩⟩
    · rw [upd_ne hb] at e
      exact (A.hok b u e).stay (fun _ _ _ q => q) (fun d q => by rw [upd_ne (ne_of_none q hn)]; exact q) fun d xs q => by rw [upd_ne (ne_of_none q hn)]; exact q
abbrev Cx.at (X : Cx) (A : Around) (calm : Bool) (pn : List (Addr × Obj)) (xe : Value → Shared → Prop) : Cx := { X with A := A, calm := calm, pn := pn, xe := xe }
theorem inv_at {A : Around} {calm : Bool} {pn pins' : List (Addr × Obj)} {xe : Value → Shared → Prop} (I : Inv X pins σ H s) (hA : A.frames = some X.stack) (hh : calm = true → A.handled = none) (hp : ∀ p ∈ pn ++ pins', p ∈ X.pn ++ pins) :
    Inv (Cx.at X A calm pn xe) pins' σ H s :=
  ⟨⟨I.ok.mod, I.ok.kind, I.ok.glob, I.ok.blt, I.ok.above, I.ok.inj, I.ok.has, I.ok.cab, hh, hA, I.ok.stk, I.ok.exf, I.ok.bs, I.ok.bsz, I.ok.noex, I.ok.exfs, I.ok.funs, I.ok.frf⟩,
    I.os, I.bare, I.base, I.loc, I.cell, I.free, I.freeC, fun p z => I.pin p (hp p z), I.hok, I.len⟩
theorem inv_back {A : Around} {calm : Bool} {pn pins' : List (Addr × Obj)} {xe : Value → Shared → Prop} (I : Inv (Cx.at X A calm pn xe) pins' σ H s) (ok : X.Ok) (hp : ∀ p ∈ X.pn ++ pins, p ∈ pn ++ pins') : Inv X pins σ H s :=
  ⟨ok, I.os, I.bare, I.base, I.loc, I.cell, I.free, I.freeC, fun p z => I.pin p (hp p z), I.hok, I.len⟩
theorem unset_ok {M : Model} {A : Around} {E : Value → Shared → Prop} {i : Nat} {x : Str} {pos : Pos} {Q : Unit → Shared → Prop} (I : Inv X pins σ H s) (hN : X.N.Nodup) (hi : X.N[i]? = some x) (hk : X.env.kindOf x = some .local)
    (h : ∀ s', Inv X pins (σ.set i none) H s' → Q () s') : wpAny M A (do bindName X.env x .none; unbindBehindTheSuite X.env x pos) Q E s := by
  have hcls : (X.env.scope.kind == .class || (X.env.scope.kind == .module && X.env.locals != X.env.globals)) = false := by rw [I.ok.kind]; rfl
  refine wpAny_bind (wpAny_bindName (store_ok I hN hi (.inl hk) (v := .non) rfl (fun s1 I1 => ?_) (.inr hk)))
  unfold unbindBehindTheSuite
  refine wpAny_onRaise ?_
  obtain ⟨m, hn, hl⟩ := id I1.loc
  have hiσ : i < σ.length := by rw [I.len]; exact (List.getElem?_eq_some_iff.mp hi).1
  have hv : m x = some .none := by
    obtain ⟨u, r, q⟩ := hl i x .non hi (by rw [List.getElem?_set_self hiσ]) (.inl hk)
    cases r
    rcases q with ⟨_, q⟩ | ⟨k, _⟩
    · exact q
    · rw [hk] at k; rcases k with k | k <;> cases k
  refine wpAny_unbindName_local hk hn hv hcls fun h' u hn' hs => h _ ?_
  have cne := I1.cne
  have tracked : HOk X.prog X.w H h' := fun b ob e => by
    refine (I1.hok b ob e).stay (fun c w' hc q => (hs.2 c ?_).trans q) (fun _ q => q) fun _ _ q => q
    rintro rfl
    rcases hc with rfl | hc
    · rw [I1.free] at e; cases e
    · rw [I1.free] at hc; cases hc
  refine ⟨I1.ok, I1.os, I1.bare, ⟨fun b o e n hb hx => ?_, fun b o e n hb hx => ?_, I1.base.free, fun b o e hx => ?_, I1.base.tups, I1.base.frzs, I1.base.tbls⟩, ⟨_, hn', fun j y v' e1 e2 e3 => ?_⟩, fun y c e => ?_, I1.free, I1.freeC, fun p hp => ?_, tracked, by simpa using I.len⟩
  · exact (hs.2 b (Nat.ne_of_lt (Nat.lt_of_lt_of_le (Heap.lt_size e) I.ok.above))).trans (I1.base.keep b o e n hb hx)
  · obtain ⟨sl, e1⟩ := I1.base.slot b o e n hb hx
    exact ⟨sl, (hs.2 b (Nat.ne_of_lt (Nat.lt_of_lt_of_le (Heap.lt_size e) I.ok.above))).trans e1⟩
  · obtain ⟨o', e1⟩ := I1.base.there b o e hx
    exact ⟨o', (hs.2 b (Nat.ne_of_lt (Nat.lt_of_lt_of_le (Heap.lt_size e) I.ok.above))).trans e1⟩
  · by_cases hj : j = i
    · subst hj
      rw [List.getElem?_set_self hiσ] at e2
      cases e2
    · rw [List.getElem?_set_ne (Ne.symm hj)] at e2
      obtain ⟨u', r', q⟩ := hl j y v' e1 (by rw [List.getElem?_set_ne (Ne.symm hj)]; exact e2) e3
      refine ⟨u', r', ?_⟩
      rcases q with ⟨k, e⟩ | ⟨k, c, e, z⟩
      · refine .inl ⟨k, ?_⟩
        have : y ≠ x := fun e => hj (nodup_ix hN e1 (e ▸ hi))
        simp [this, e]
      · exact .inr ⟨k, c, e, z.sameBut hs (cne y c e)⟩
  · obtain ⟨w', z⟩ := I1.cell y c e
    exact ⟨w', z.sameBut hs (cne y c e)⟩
  · obtain ⟨e, n, ne, nf, d⟩ := I1.pin p hp
    exact ⟨(hs.2 p.1 ne).trans e, n, ne, nf, d⟩
end
theorem Rel.unset {K : PySem.W.Frag} {H₀ H : Hp} {Z : Addr → Prop} {ρ : Rho} {τ : TSt} {C : Sto} {σ : L2.St} (R : Rel K H₀ Z ρ τ C σ H) (i : Nat) : Rel K H₀ Z ρ (τ.set i none) C (σ.set i none) H := by
  refine ⟨R.old, R.frs, R.nd, R.zd, fun j u e => ?_, R.cel, R.len, by simp [R.lnt]⟩
  by_cases hj : j = i
  · subst hj
    have hτ : j < τ.length := by
      have := (List.getElem?_eq_some_iff.mp e).1
      simpa using this
    rw [List.getElem?_set_self hτ] at e
    cases e
  · rw [List.getElem?_set_ne (Ne.symm hj)] at e
    obtain ⟨w, h1, h2⟩ := R.loc j u e
    exact ⟨w, by rw [List.getElem?_set_ne (Ne.symm hj)]; exact h1, h2⟩
end TL
/-! ModelO -/
set_option linter.all false
set_option maxRecDepth 100000
namespace TL
open PySem PySem.Spec PyProof.Rows L2
structure Tab (K : PySem.W.Frag) (mg : Str → Option Value) (tab : String → List String) (rs ds : List String) : Prop where
  dom : ∀ c, tab c ≠ [] → c ∈ rs
  own : ∀ d ∈ ds, ∃ D, ExC K mg d D ∧ PySem.W.typeIn K (.ref D) = some (.type "type")
  cls : ∀ c C, c ∈ rs → Named K c C → PySem.W.excIn K C mroVE "ValueError.__new__" = true ∧ PySem.W.findIn K (.ref C) "__getattribute__" = some (some (.builtin "BaseException.__getattribute__")) ∧ PySem.W.findIn K (.ref C) "__getattr__" = some none ∧ PySem.W.mroIn K C (.type "BaseException") = some true ∧ PySem.W.findIn K (.ref C) "__class__" = some (some (.builtin "object.__class__")) ∧ PySem.W.mroIn K C (.type "object") = some true
  ve : ∀ c C, c ∈ rs → Named K c C → PySem.W.subIn K (.ref C) (.type "ValueError") = some ((tab c).contains "ValueError")
  sub : ∀ c C d D, c ∈ rs → d ∈ ds → Named K c C → Named K d D → PySem.W.mroIn K C (.ref D) = some ((tab c).contains d)

section
variable {X : Cx} {tab : String → List String} {rs ds : List String} {d : String} {i : Nat} {n : Str} {F G : FS} {body suite : List Stmt} {b₀ : Stmt} {np hpos pos : Pos}
theorem qs_try (T : Tab X.K X.mg tab rs ds) (hd : d ∈ ds) (hN : X.N.Nodup) (i : Nat) (hc : X.calm = true) (hb : ∀ pn E, QSs (Cx.at X X.A X.calm pn E) body F) (hs : ∀ A, QSs (Cx.at X A false X.pn fun _ _ => False) (b₀ :: suite) G)
    (hi : X.N[i]? = some n := by rfl) (hk : X.env.kindOf n = some .local := by rfl) (hg : Gl X (Str.ofString d) := by rfl) (hdb : (Str.ofString d == ("__debug__" : Str)) = false := by decide)
    (hst : X.stack = X.env :: X.outer := by rfl) (hf : X.env.frame = some X.env.locals := by rfl) :
    QS X (.Try body [.ExceptHandler (some (.Name (Str.ofString d) np)) (some n) (b₀ :: suite) hpos] [] [] pos) (fTry tab d i F G) := by
  intro pins s σ H Dn I h
  obtain ⟨H₀, Z, ρ, τ, C, fl, τ', C', R, e, k⟩ := h
  unfold fTry at e
  obtain ⟨⟨f1, τ1, C1⟩, eF, e⟩ := Option.bind_eq_some_iff.mp e
  refine wpAny_Try_except ?_
  refine wpAny_mono (hb (X.pn ++ pins) (fun e s₁ => wpAny (model X.prog X.w) X.A (noteFrame e X.env) (fun _ s₂ => wpAny (model X.prog X.w) X.A (setFlight e none) (fun _ s₃ => wpAny (model X.prog X.w) X.A (handleBy e X.env [.ExceptHandler (some (.Name (Str.ofString d) np)) (some n) (b₀ :: suite) hpos]) (SP X pins Dn) X.xe s₃) X.xe s₂) X.xe s₁)
    [] s σ H Dn (inv_at I I.ok.frames I.ok.hd fun p z => by simpa using z) ⟨H₀, Z, ρ, τ, C, f1, τ1, C1, R, eF, fun σ1 H1 ρ1 R1 s1 => ?_⟩) (fun fl1 s1 h1 => ?_) fun e s1 h1 => h1
  · cases f1 with
    | nx => cases e; exact k σ1 H1 ρ1 R1 s1
    | bk => cases e; exact k σ1 H1 ρ1 R1 s1
    | ct => cases e; exact k σ1 H1 ρ1 R1 s1
    | rt t => cases e; exact k σ1 H1 ρ1 R1 s1
    | ex c =>
      dsimp only at e
      split at e
      · rename_i hsub
        obtain ⟨⟨f2, τ2, C2⟩, eG, e⟩ := Option.bind_eq_some_iff.mp e
        intro pins2 H2 s2 a Cl B s3 I2 al way
        have I2X : Inv X pins σ1 H2 s2 := inv_back I2 I.ok fun p z => List.mem_append_left _ z
        have al' : Aloft X.prog X.w X.K X.stack H2 s2 c H1 Cl B s3 := al
        -- the exception is looked at: it flies over this frame, all else as it was
        have land : ∀ h5 t, Heap.FlyingW B X.stack a (.ref Cl) (.ref t) h5 → s3.heap.UpToSlots h5 →
            wpAny (model X.prog X.w) X.A (handleBy (.ref a) X.env [.ExceptHandler (some (.Name (Str.ofString d) np)) (some n) (b₀ :: suite) hpos]) (SP X pins Dn) X.xe { s3 with heap := h5 } := by
          intro h5 t F5 sm5
          have al5 := al'.stay I2X F5.1 sm5
          have I5 := al5.inv I2X
          have I5' : Inv (Cx.at X (X.A.mark (some (.ref a))) false X.pn fun _ _ => False) pins σ1 H1 { s3 with heap := h5 } := inv_at I5 (by rw [← I.ok.frames]; rfl) (fun z => by cases z) fun p z => z
          obtain ⟨D, ED, _⟩ := T.own d hd
          have hrs := T.dom c fun z => by rw [z] at hsub; cases hsub
          obtain ⟨up, hup, hmro, _⟩ := exAt_of I5.kIn (T.cls c Cl hrs al.nm).1
          obtain ⟨upD, hupD, _, _⟩ := exAt_of I5.kIn ED.ok
          obtain ⟨N, nm, q, bs, hdct, sn, sub, ab, col, dd, k0, k1, k2, k3, k5, mN, hC, hNs, hni, TL⟩ := hup.ex
          obtain ⟨N', nm', q', bs', hdct', sn', sub', ab', col', dd', k0', k1', k2', k3', k5', mN', hD, hNs', hni', TL'⟩ := hupD.ex
          obtain ⟨oe, vs, he, hcl, hdt, _⟩ := F5.first
          refine wpAny_handleBy_cons (codeAny_handlers_test (ld_glob (X := Cx.at X (X.A.mark (some (.ref a))) false X.pn fun _ _ => False) I5' hg ED.mg ?_ hdb)) (by intro q; cases q)
          refine excMatches_own hC hD he hcl (TL'.hasType PySem.F.excBase_ValueError.hasBase) (hmro _ _ ((T.sub c Cl d D hrs hd al.nm ED.nm).trans (by rw [hsub]))) ?_
          refine codeAny_handlers_suite_as ?_
          refine lands_againW F5 fun h6 F6 sm6 => ?_
          have al6 := al'.stay I2X F6.1 (sm5.trans sm6)
          obtain ⟨hn, I6⟩ := al6.held I2X F6
          refine store_ok I6 hN hi (.inl hk) (v := .ref a) rfl (fun s7 I7x => ?_) (.inr hk)
          have I7 : Inv (Cx.at X (X.A.mark (some (.ref a))) false X.pn fun _ _ => False) pins (σ1.set i (some (.ref a))) (upd H1 a (exO a Cl)) s7 := inv_at I7x (by rw [← I.ok.frames]; rfl) (fun z => by cases z) fun p z => z
          obtain ⟨R6, st6⟩ := R1.alloc (p := a) (o := exO a Cl) hn
          obtain ⟨nz, nr, _⟩ := R1.fresh_not hn
          have rt6 : RT X.K (mask (upd H1 a (exO a Cl)) Z ρ1) ρ1 (.exc c) (.ref a) := by
            unfold RT
            exact ⟨a, Cl, rfl, al.nm, mask_of nz nr upd_same⟩
          have R7 := R6.set (i := i) rt6
          refine wpAny_mono (hs (X.A.mark (some (.ref a))) pins s7 _ _ { nx := fun σ H => Dn.nx (σ.set i none) H, rt := Dn.rt, bk := fun σ H => Dn.bk (σ.set i none) H, ct := fun σ H => Dn.ct (σ.set i none) H } I7
            ⟨H₀, Z, ρ1, _, C1, f2, τ2, C2, R7, eG, fun σ8 H8 ρ8 R8 s8 => ?_⟩) (fun f s8 h8 => ?_) fun _ _ z => z.elim
          · cases f2 with
            | nx => cases e; exact k (σ8.set i none) H8 ρ8 (R8.unset i) (s1.trans (st6.ss.trans s8))
            | bk => cases e; exact k (σ8.set i none) H8 ρ8 (R8.unset i) (s1.trans (st6.ss.trans s8))
            | ct => cases e; exact k (σ8.set i none) H8 ρ8 (R8.unset i) (s1.trans (st6.ss.trans s8))
            | rt t => cases e; exact k (σ8.set i none) H8 ρ8 (R8.unset i) (s1.trans (st6.ss.trans s8))
            | ex c => cases e
          · have back : ∀ {σ8 H8}, Inv (Cx.at X (X.A.mark (some (.ref a))) false X.pn fun _ _ => False) pins σ8 H8 s8 → Inv X pins σ8 H8 s8 := fun z => inv_back z I.ok fun p z => z
            cases f with
            | next =>
              obtain ⟨σ8, H8, I8, q8⟩ := h8
              exact unset_ok (back I8) hN hi hk fun s9 I9 => ⟨_, H8, I9, q8⟩
            | brk =>
              obtain ⟨σ8, H8, I8, q8⟩ := h8
              exact unset_ok (back I8) hN hi hk fun s9 I9 => ⟨_, H8, I9, q8⟩
            | cont =>
              obtain ⟨σ8, H8, I8, q8⟩ := h8
              exact unset_ok (back I8) hN hi hk fun s9 I9 => ⟨_, H8, I9, q8⟩
            | ret u =>
              obtain ⟨v8, σ8, H8, I8, r8, q8⟩ := h8
              exact unset_ok (back I8) hN hi hk fun s9 I9 => ⟨v8, _, H8, I9, r8, q8⟩
        have hfr : X.A.frames = some (X.env :: X.outer) := by rw [I.ok.frames, hst]
        show wpAny (model X.prog X.w) X.A (noteFrame (.ref a) X.env) _ X.xe s3
        have way' : Made B X.stack a Cl s3 ∨ Flies B X.stack a Cl s3 := way
        rw [hst] at way' land
        rcases way' with ⟨h0, vs, st, ff, me⟩ | ⟨t, F⟩
        · refine looks_made hfr hf st ff me fun h4 t F4 sm4 => wpAny_landsW F4 fun h5 F5 sm5 => land h5 t F5 (sm4.trans sm5)
        · refine wpAny_looks_onW hfr hf F fun h4 F4 sm4 => wpAny_landsW F4 fun h5 F5 sm5 => land h5 t F5 (sm4.trans sm5)
      · cases e
  · have back : ∀ {σ8 H8 xe}, Inv (Cx.at X X.A X.calm (X.pn ++ pins) xe) [] σ8 H8 s1 → Inv X pins σ8 H8 s1 := fun z => inv_back z I.ok fun p z => by simpa using z
    cases fl1 with
    | next =>
      obtain ⟨σ8, H8, I8, q8⟩ := h1
      exact wpAny_execs_nil ⟨σ8, H8, back I8, q8⟩
    | brk =>
      obtain ⟨σ8, H8, I8, q8⟩ := h1
      exact ⟨σ8, H8, back I8, q8⟩
    | cont =>
      obtain ⟨σ8, H8, I8, q8⟩ := h1
      exact ⟨σ8, H8, back I8, q8⟩
    | ret u =>
      obtain ⟨v8, σ8, H8, I8, r8, q8⟩ := h1
      exact ⟨v8, σ8, H8, back I8, r8, q8⟩
end
end TL
/-! ModelP -/
set_option linter.all false
set_option maxRecDepth 100000
namespace PySem.W
open PySem PySem.Spec PySem.Calls PyProof.Rows Builtin Builtin.ObjectAttr Builtin.Getset_descriptor
def TyAt (x C : Addr) (h : Heap) : Prop := ∃ ob, h.get? x = some ob ∧ ob.cls = .ref C
theorem TyAt.type {M : Model} {h : Heap} {x C : Addr} (I : TyAt x C h) : Looks M h (typeOf (.ref x)) (.ref C) := by
  obtain ⟨ob, e, hc⟩ := I
  exact hc ▸ (Looks.ld e).andThen .now
section
variable {prog : Program} {w : World} {A : Around} {E : Value → Shared → Prop} {s : Shared} {K : Frag} {x C D : Addr} {name : Str} {R : Result → Shared → Prop}
theorem ty_get {tp : Value} (X : K.In s.heap) (I : TyAt x C s.heap) (hm : mroIn K C (.type "object") = some true)
    (h : R (.ok (.ret (.ref C))) s) : codeAny (model prog w) A (.call (.builtin "getset_descriptor.__get__") ⟨[.builtin "object.__class__", .ref x, tp], []⟩) R s := by
  obtain ⟨hh, g, dr, t, os⟩ := s
  have L0 := I.type (M := model prog w)
  have L1 := looks_mroIn (M := model prog w) X hm
  refine codeAny_call_builtin KF.slot_gs.plain KF.entry_gs (KF.slot_gs.check _ _ _ _ _ _ _ _ KF.type_class (KF.args_gs _ _ _) ?_)
  unfold Builtin.«getset_descriptor.__get__» descrGet
  rw [dga_obj]
  refine wpAny_bind (wpAny_pure ?_)
  unfold descrGetter descrCheckInstance descrNameAndClass isInstance
  simp only [KF.owner_class]
  repeat lk
  refine ⟨Code.quiet_builtin _ (by decide +kernel), codeAny_builtin KF.entry_class ?_⟩
  unfold Builtin.«object.__class__» shownTypeOf
  repeat lk
  exact h
end
section
variable {prog : Program} {w : World} {A : Around} {E : Value → Shared → Prop} {K : Frag} {x C : Addr} {R : Result → Shared → Prop} {h : Heap} {g : Array GenState} {d : Drawn} {t : Nat} {os : OsState}
theorem exc_check {M : Model} {nameV : Value} {Q : Unit → Shared → Prop} (X : K.In h) (I : TyAt x C h) (hb : mroIn K C (.type "BaseException") = some true) (hq : Q () ⟨h, g, d, t, os⟩) :
    wpAny M A (checkBuiltinCall "BaseException.__getattribute__" ⟨[.ref x, nameV], []⟩) Q E ⟨h, g, d, t, os⟩ := by
  have hk : builtinKind "BaseException.__getattribute__" = some .slot := by decide +kernel
  have hsplit : splitId "BaseException.__getattribute__" = some ("BaseException", "__getattribute__") := by decide +kernel
  have ha := F.args_bexc_ga (.ref x) nameV
  have L0 := I.type (M := M)
  have L1 : Looks M h (isSubtype (.ref C) (.type "BaseException")) true := looks_mroIn X hb
  obtain ⟨o, hx, hc⟩ := I
  simp only [checkBuiltinCall, hk, hsplit]
  refine wpAny_bind ?_
  · unfold isInstance
    repeat (first | with_reducible refine L0.at ?_ | with_reducible refine L1.at ?_ | (with_reducible refine wpAny_loadPart_at hx ?_; rw [hc]) | wp_step)
    exact hq
theorem exc_entry {tk : Tok} {Q : Fin → Shared → Prop} (X : K.In h) (I : TyAt x C h) (ha : findIn K (.ref C) "__class__" = some (some (.builtin "object.__class__"))) (hm : mroIn K C (.type "object") = some true) (hq : Q (.done (.ret (.ref C))) ⟨h, g, d, t, os⟩) :
    wpAny (model prog w) A (Builtin.«object.__getattribute__» ⟨[.ref x, .str "__class__" tk], []⟩) Q E ⟨h, g, d, t, os⟩ := by
  have hT5 : (⟨h, g, d, t, os⟩ : Shared).TypeIs (.builtin "object.__class__") "getset_descriptor" := F.typeOf_object_class
  have f5 := F.typeOf_object_class
  have f6 := F.slot_gs_get.lookup
  have f7 := F.slot_gs_set.lookup
  have L1 := looks_findIn (M := model prog w) X ha
  have I' := I
  obtain ⟨o, hx, hc⟩ := I
  repeat (any_goals (first | assumption | with_reducible refine L1.at ?_ | (with_reducible refine wpAny_loadPart_at hx ?_; rw [hc]) | wp_step))
  refine ty_get X I' hm ?_
  repeat (any_goals (first | assumption | wp_step))
theorem exc_by {tk : Tok} {Q : Value → Shared → Prop} (X : K.In h) (I : TyAt x C h) (hga : findIn K (.ref C) "__getattribute__" = some (some (.builtin "BaseException.__getattribute__"))) (hgg : findIn K (.ref C) "__getattr__" = some none) (hb : mroIn K C (.type "BaseException") = some true)
    (ha : findIn K (.ref C) "__class__" = some (some (.builtin "object.__class__"))) (hm : mroIn K C (.type "object") = some true) (hq : Q (.ref C) ⟨h, g, d, t, os⟩) :
    wpAny (model prog w) A (getAttrBy (.ref x) (.str "__class__" tk) false) Q E ⟨h, g, d, t, os⟩ := by
  have f3 := F.excAttr_ValueError.ga.bind (.ref x)
  have hx2 : (Value.builtin "BaseException.__getattribute__" == Value.builtin "object.__getattribute__") = false := by decide +kernel
  have hx1 : (onTheHeap (Value.ref C) && Value.builtin "BaseException.__getattribute__" == Value.builtin "object.__getattribute__") = false := by rw [hx2]; rfl
  have L1 := looks_findIn (M := model prog w) X hga
  have L2 := looks_findIn (M := model prog w) X hgg
  have I' := I
  obtain ⟨o, hx, hc⟩ := I
  repeat (any_goals (first | assumption | with_reducible refine L1.at ?_ | with_reducible refine L2.at ?_ | (with_reducible refine wpAny_loadPart_at hx ?_; rw [hc]) | wp_step))
  refine codeAny_call_builtin F.excAttr_ValueError.ga.plain F.entry_bexc_ga (exc_check X I' hb (exc_entry X I' ha hm ?_))
  repeat (any_goals (first | assumption | wp_step))
theorem exc_class {Q : Option Value → Shared → Prop} (X : K.In h) (I : TyAt x C h) (hga : findIn K (.ref C) "__getattribute__" = some (some (.builtin "BaseException.__getattribute__"))) (hgg : findIn K (.ref C) "__getattr__" = some none) (hb : mroIn K C (.type "BaseException") = some true)
    (ha : findIn K (.ref C) "__class__" = some (some (.builtin "object.__class__"))) (hm : mroIn K C (.type "object") = some true) (hq : Q (some (.ref C)) ⟨h, g, d, t + 1, os⟩) : wpAny (model prog w) A (getAttr? (.ref x) "__class__") Q E ⟨h, g, d, t, os⟩ := by
  unfold getAttr? getAttrBy?
  repeat (any_goals (first | assumption | with_reducible apply exc_by X I hga hgg hb ha hm | wp_step))
end
theorem kitx_exc {K : Frag} {x D : Addr} (hga : findIn K (.ref D) "__getattribute__" = some (some (.builtin "BaseException.__getattribute__"))) (hgg : findIn K (.ref D) "__getattr__" = some none) (hb : mroIn K D (.type "BaseException") = some true)
    (ha : findIn K (.ref D) "__class__" = some (some (.builtin "object.__class__"))) (hm : mroIn K D (.type "object") = some true) (hcl : (clsIn K D).isSome = true) :
    KitX K (.ref x) (.ref D) (TyAt x D) where
  ty := fun _ _ _ I => I.type
  it := fun _ _ X _ => by
    obtain ⟨cdD, hcD⟩ := Option.isSome_iff_exists.mp hcl
    unfold clsIn at hcD
    split at hcD
    · rename_i c' d' cd' sl' ho
      intro A' Q' E' s' k q
      unfold isType loadHead
      exact wpAny_bind (wpAny_loadPart (k _ _ (X _ _ ho)) (wpAny_pure q))
    · cases hcD
  ne := fun h tp dd its n sl X htp => by
    obtain ⟨cdD, hcD⟩ := Option.isSome_iff_exists.mp hcl
    refine Bool.eq_false_iff.mpr fun q => ?_
    have e : D = tp := Value.ref.inj (beq_iff_eq.mp q)
    subst e
    unfold clsIn at hcD
    split at hcD
    · rename_i c' d' cd' sl' ho
      have z := (X _ _ ho).symm.trans htp
      cases z
    · cases hcD
  ca := fun {_ _ _ _ _ s} X I k => by
    obtain ⟨h, g, d, t, os⟩ := s
    exact exc_class X I hga hgg hb ha hm k
end PySem.W
/-! ModelQ -/
set_option linter.all false
set_option maxRecDepth 100000
namespace TL
open PySem PySem.Spec PyProof.Rows L2
def KitV (K : PySem.W.Frag) (H : Hp) (x : V) (t : Value) : Prop := (x = .non ∧ t = .type "NoneType") ∨ ∃ a C, x = .ref a ∧ t = .ref C ∧ H a = some (exO a C) ∧ PySem.W.findIn K (.ref C) "__getattribute__" = some (some (.builtin "BaseException.__getattribute__")) ∧ PySem.W.findIn K (.ref C) "__getattr__" = some none ∧
  PySem.W.mroIn K C (.type "BaseException") = some true ∧ PySem.W.findIn K (.ref C) "__class__" = some (some (.builtin "object.__class__")) ∧ PySem.W.mroIn K C (.type "object") = some true ∧ (PySem.W.clsIn K C).isSome = true
def AskV (K : PySem.W.Frag) (H : Hp) (t : Value) (y : V) (b : Bool) : Prop := (∃ D, y = .ref D ∧ PySem.W.kitOne K t (.ref D) = some b) ∨ (∃ c, y = .ty c ∧ PySem.W.kitOne K t (.type c) = some b) ∨
  ∃ (p : Addr) (Ds : List Addr), y = .ref p ∧ H p = some (.tup (Ds.map V.ref)) ∧ PySem.W.kitAny K t (Ds.map Value.ref) = some b
theorem vals_ref : ∀ {Ds : List Addr} {us : List Value}, Vals (Ds.map V.ref) us → us = Ds.map Value.ref
  | [], us, h => by cases h; rfl
  | D :: Ds, us, h => by
    cases h with
    | cons r t => cases r; rw [vals_ref t]; rfl
section
variable {X : Cx}
theorem call_isx : CallR X (.builtin "isinstance") (fun xs H Q => ∃ x y t b, xs = [x, y] ∧ KitV X.K H x t ∧ AskV X.K H t y b ∧ Q (.bl b) H) := by
  intro pins s σ H xs us Q I r h
  obtain ⟨x, y, t, b, rfl, hx, hy, q⟩ := h
  obtain ⟨u, u2, rfl, ru, ru2⟩ := r.two
  have fin : ∀ tk, EP X pins σ Q (.bool b) { s with toks := tk } := fun tk => ⟨.bl b, H, I.tok tk, rfl, q⟩
  have go : ∀ {P : Heap → Prop}, PySem.W.KitX X.K u t P → P s.heap → u ≠ .builtin "__main__.__loader__#opaque" → wpAny (model X.prog X.w) X.A (call (.builtin "isinstance") [u, u2]) (EP X pins σ Q) X.xe s := by
    intro P Z p hu
    rcases hy with ⟨D, rfl, e⟩ | ⟨c, rfl, e⟩ | ⟨tp, Ds, rfl, hp, e⟩
    · cases ru2; exact PySem.W.kia_one Z I.kIn p e hu fin
    · cases ru2; exact PySem.W.kia_one Z I.kIn p e hu fin
    · cases ru2
      obtain ⟨_, its, rv, o, ho, hcl, n, hdt⟩ := I.hok tp _ hp
      rw [vals_ref rv] at hdt
      obtain ⟨oc, od, odt, osl⟩ := o
      dsimp only at hcl hdt
      subst hcl hdt
      exact PySem.W.kia_tup Z I.kIn p ho e hu fin
  rcases hx with ⟨rfl, rfl⟩ | ⟨a, C, rfl, rfl, ha, g1, g2, g3, g4, g5, g6⟩
  · cases ru; exact go PySem.W.kitx_none True.intro fun z => nomatch z
  · cases ru
    obtain ⟨hφ, _⟩ := I.hok a _ ha
    exact go (PySem.W.kitx_exc g1 g2 g3 g4 g5 g6) hφ fun z => nomatch z

def NmdL (K : PySem.W.Frag) (mg : Str → Option Value) : List String → List Addr → Prop
  | [], Ds => Ds = []
  | d :: ds, Ds => ∃ D r, Ds = D :: r ∧ (ExC K mg d D ∧ PySem.W.typeIn K (.ref D) = some (.type "type")) ∧ NmdL K mg ds r
theorem nmdL_of {K : PySem.W.Frag} {mg : Str → Option Value} {tab : String → List String} {rs ds0 : List String} (T : Tab K mg tab rs ds0) : ∀ {ds : List String}, (∀ d ∈ ds, d ∈ ds0) → ∃ Ds, NmdL K mg ds Ds
  | [], _ => ⟨[], rfl⟩
  | d :: ds, h => by
    obtain ⟨D, hD⟩ := T.own d (h d List.mem_cons_self)
    obtain ⟨Ds, hr⟩ := nmdL_of T fun e he => h e (List.mem_cons_of_mem _ he)
    exact ⟨D :: Ds, D, Ds, rfl, hD, hr⟩
theorem nmdL_len {K : PySem.W.Frag} {mg : Str → Option Value} : ∀ {ds : List String} {Ds : List Addr}, NmdL K mg ds Ds → Ds.length = ds.length
  | [], _, h => by rw [h]; rfl
  | d :: ds, _, ⟨D, r, e, _, h⟩ => by rw [e, List.length_cons, List.length_cons, nmdL_len h]
theorem sub_none (D : Addr) (K : PySem.W.Frag) : PySem.W.subIn K (.type "NoneType") (.ref D) = some false := by
  have e : PySem.fastBuiltinMro "NoneType" = some [.type "NoneType", .type "object"] := by kernel_rfl
  show (PySem.fastBuiltinMro "NoneType").map _ = _
  rw [e]; rfl
theorem isCls {K : PySem.W.Frag} {mg : Str → Option Value} {d : String} {D : Addr} {h : Heap} (X : K.In h) (E : ExC K mg d D ∧ PySem.W.typeIn K (.ref D) = some (.type "type")) : ((PySem.W.clsIn K D).isSome && PySem.W.typeIn K (.ref D) == some (.type "type")) = true := by
  obtain ⟨_, _, _, hc⟩ := exAt_of X E.1.ok
  rw [hc, E.2]; rfl
theorem kit_none {K : PySem.W.Frag} {mg : Str → Option Value} {d : String} {D : Addr} {h : Heap} (X : K.In h) (E : ExC K mg d D ∧ PySem.W.typeIn K (.ref D) = some (.type "type")) : PySem.W.kitOne K (.type "NoneType") (.ref D) = some false := by
  unfold PySem.W.kitOne PySem.W.kitCls
  rw [if_neg (by simp)]
  dsimp only
  rw [if_pos (isCls X E)]
  exact sub_none D K
theorem kit_exc {K : PySem.W.Frag} {mg : Str → Option Value} {tab : String → List String} {rs ds0 : List String} (T : Tab K mg tab rs ds0) {c d : String} {C D : Addr} {h : Heap} (X : K.In h) (hc : c ∈ rs) (hd : d ∈ ds0) (nc : Named K c C) (E : ExC K mg d D ∧ PySem.W.typeIn K (.ref D) = some (.type "type")) :
    PySem.W.kitOne K (.ref C) (.ref D) = some ((tab c).contains d) := by
  have s := T.sub c C d D hc hd nc E.1.nm
  unfold PySem.W.kitOne PySem.W.kitCls
  by_cases e : (Value.ref C == Value.ref D) = true
  · rw [if_pos e]
    obtain ⟨up, _, hm, _⟩ := exAt_of X (T.cls c C hc nc).1
    have := hm _ _ s
    rw [List.contains_cons, BEq.comm, e] at this
    rw [← this]; rfl
  · rw [if_neg e]
    dsimp only
    rw [if_pos (isCls X E)]
    exact s
theorem kitAny_of {K : PySem.W.Frag} {mg : Str → Option Value} {t : Value} {f : String → Bool} : ∀ {ds : List String} {Ds : List Addr}, NmdL K mg ds Ds → (∀ d D, d ∈ ds → (ExC K mg d D ∧ PySem.W.typeIn K (.ref D) = some (.type "type")) → PySem.W.kitOne K t (.ref D) = some (f d)) → PySem.W.kitAny K t (Ds.map Value.ref) = some (ds.any f)
  | [], _, h, _ => by rw [h]; rfl
  | d :: ds, _, ⟨D, r, e, hD, h⟩, k => by
    rw [e, List.map_cons]
    unfold PySem.W.kitAny
    rw [k d D List.mem_cons_self hD]
    cases q : f d with
    | true => simp [q]
    | false =>
      dsimp only
      rw [kitAny_of h fun d' D' hd => k d' D' (List.mem_cons_of_mem _ hd)]
      simp [q]
theorem i_isx {K : PySem.W.Frag} {mg : Str → Option Value} {tab : String → List String} {rs ds0 ds : List String} (T : Tab K mg tab rs ds0) {fa : FE} {σ : L2.St} {H : Hp} {Q : VK} (h : trE K (fIsx tab ds fa) σ H Q) :
    trE K fa σ H fun x H1 => ∃ t b, (∀ H2, Same H1 H2 → KitV K H2 x t ∧ Q (.bl b) H2) ∧ ((t = .type "NoneType" ∧ b = false) ∨ ∃ c C, c ∈ rs ∧ Named K c C ∧ t = .ref C ∧ b = ds.any fun d => (tab c).contains d) := by
  refine trE_mono (i_un h) fun x H1 q => ?_
  obtain ⟨t0, H₀, Z, ρ, τ, C, t, C', R, r, e, k⟩ := q
  obtain ⟨_, _, z, r1, r⟩ := r.cons_inv
  cases z
  obtain ⟨b, e1, e⟩ := Option.map_eq_some_iff.mp e
  cases e
  have kk : ∀ H2, Same H1 H2 → Q (.bl b) H2 := fun H2 sm => by
    obtain ⟨R', st⟩ := R.same sm
    exact k _ H2 ρ R' .bl st
  cases t0 with
  | non =>
    cases e1
    exact ⟨_, _, fun H2 sm => ⟨.inl ⟨r1.non_inv, rfl⟩, kk H2 sm⟩, .inl ⟨rfl, rfl⟩⟩
  | exc c =>
    have e2 : (if tab c = [] then none else some (ds.any fun d => (tab c).contains d)) = some b := e1
    clear e1
    split at e2
    · cases e2
    · rename_i hne
      cases e2
      unfold RT at r1
      obtain ⟨a, Cl, ea, hn, hm⟩ := r1
      have hc := T.dom c hne
      obtain ⟨g1, g2, g3, g4, g5, g6⟩ := T.cls c Cl hc hn
      have hcl : (PySem.W.clsIn K Cl).isSome = true := by
        unfold PySem.W.mroIn at g6
        obtain ⟨cd, hcd, _⟩ := Option.bind_eq_some_iff.mp g6
        rw [hcd]; rfl
      exact ⟨.ref Cl, _, fun H2 sm => ⟨.inr ⟨a, Cl, ea, rfl, sm _ _ (mask_some.mp hm).2.2, g2, g3, g4, g5, g6, hcl⟩, kk H2 sm⟩, .inr ⟨c, Cl, hc, hn, rfl, rfl⟩⟩
  | _ => cases e1
structure Nms (X : Cx) (es : List Expr) (ds : List String) : Prop where
  pa : ∀ Ds, NmdL X.K X.mg ds Ds → PA X es fun σ H Q => Q (Ds.map V.ref) H
theorem nms_nil : Nms X [] [] := ⟨fun Ds h => by rw [h]; exact pa_nil⟩
theorem nms_cons {d : String} {p : Pos} {es : List Expr} {ds : List String} (h : Nms X es ds) (hg : Gl X (Str.ofString d) := by rfl) (hdb : (Str.ofString d == ("__debug__" : Str)) = false := by decide)
    (hs : starEach (.Name (Str.ofString d) p :: es) X.env = (false, eval (.Name (Str.ofString d) p) X.env) :: starEach es X.env := by rfl) : Nms X (.Name (Str.ofString d) p :: es) (d :: ds) := ⟨fun Ds ⟨D, r, e, hD, hr⟩ => by
    rw [e]
    exact (pa_cons (pe_glob (v := .ref D) hg hD.1.mg rfl hdb) (h.pa r hr) hs).imp fun _ _ _ q => q⟩
variable {tab : String → List String} {rs ds0 : List String} {a : Expr} {fa : FE} {p pos tpos p2 : Pos} {d : String} {ds : List String} {es : List Expr}
theorem q_isx1 (T : Tab X.K X.mg tab rs ds0) (hm : X.mg "isinstance" = none) (ha : QE X a fa) (hd : d ∈ ds0 := by decide) (hg : Gl X "isinstance" := by rfl) (hgd : Gl X (Str.ofString d) := by rfl) (hdb : (Str.ofString d == ("__debug__" : Str)) = false := by decide)
    (h1 : starEach [a, .Name (Str.ofString d) p2] X.env = (false, eval a X.env) :: starEach [.Name (Str.ofString d) p2] X.env := by rfl) (h2 : (backTo pos (starEach [.Name (Str.ofString d) p2] X.env)).any (·.1) = false := by rfl) :
    QE X (.Call (.Name "isinstance" p) [a, .Name (Str.ofString d) p2] [] pos) (fIsx tab [d] fa) := by
  obtain ⟨D, hD⟩ := T.own d hd
  intro pins s σ H Q I h
  refine (pe_callB call_isx hg hm boot_isinstance (pa_cons ha (pa_cons (pe_glob (v := .ref D) hgd hD.1.mg rfl hdb) pa_nil rfl) h1) (by decide) (by decide) h1 h2) pins s σ H Q I ?_
  refine trE_mono (i_isx T h) fun x H1 q => ?_
  obtain ⟨t, b, hk, hb⟩ := q
  refine ⟨x, .ref D, t, b, rfl, (hk H1 (.refl _)).1, .inl ⟨D, rfl, ?_⟩, (hk H1 (.refl _)).2⟩
  rcases hb with ⟨rfl, rfl⟩ | ⟨c, C, hc, hn, rfl, rfl⟩
  · exact kit_none I.kIn hD
  · rw [kit_exc T I.kIn hc hd hn hD]; simp
theorem q_isxT (T : Tab X.K X.mg tab rs ds0) (hm : X.mg "isinstance" = none) (ha : QE X a fa) (hN : Nms X es ds) {x1} (hd : ∀ d ∈ ds, d ∈ ds0 := by decide) (hl : ds.length ≤ 10 := by decide) (hg : Gl X "isinstance" := by rfl)
    (h1 : starEach [a, .Tuple es x1 p2] X.env = (false, eval a X.env) :: starEach [.Tuple es x1 p2] X.env := by rfl) (h2 : (backTo pos (starEach [.Tuple es x1 p2] X.env)).any (·.1) = false := by rfl) (h3 : starEach [.Tuple es x1 p2] X.env = [(false, eval (.Tuple es x1 p2) X.env)] := by rfl) :
    QE X (.Call (.Name "isinstance" p) [a, .Tuple es x1 p2] [] pos) (fIsx tab ds fa) := by
  obtain ⟨Ds, hDs⟩ := nmdL_of T hd
  intro pins s σ H Q I h
  refine (pe_callB call_isx hg hm boot_isinstance (pa_cons ha (pa_cons (pe_tup (hN.pa Ds hDs)) pa_nil h3) h1) (by decide) (by decide) h1 h2) pins s σ H Q I ?_
  refine trE_mono (i_isx T h) fun x H1 q => ?_
  obtain ⟨t, b, hk, hb⟩ := q
  refine ⟨by rw [List.length_map, nmdL_len hDs]; exact Nat.le_trans hl (by decide), fun pp hp => ?_⟩
  have sm : Same H1 (upd H1 pp (.tup (Ds.map V.ref))) := fun b u h => by rw [upd_ne (fun z => by rw [z, hp] at h; cases h)]; exact h
  refine ⟨x, .ref pp, t, b, rfl, (hk _ sm).1, .inr (.inr ⟨pp, Ds, rfl, upd_same, ?_⟩), (hk _ sm).2⟩
  rcases hb with ⟨rfl, rfl⟩ | ⟨c, C, hc, hn, rfl, rfl⟩
  · rw [kitAny_of (f := fun _ => false) hDs fun d D hdd hD => kit_none I.kIn hD]; simp
  · exact kitAny_of hDs fun d D hdd hD => kit_exc T I.kIn hc (hd d hdd) hn hD
theorem q_isxV (T : Tab X.K X.mg tab rs ds0) (hm : X.mg "isinstance" = none) (hmv : X.mg "ValueError" = none) (ha : QE X a fa) (hg : Gl X "isinstance" := by rfl) (hgd : Gl X "ValueError" := by rfl)
    (h1 : starEach [a, .Name "ValueError" p2] X.env = (false, eval a X.env) :: starEach [.Name "ValueError" p2] X.env := by rfl) (h2 : (backTo pos (starEach [.Name "ValueError" p2] X.env)).any (·.1) = false := by rfl) :
    QE X (.Call (.Name "isinstance" p) [a, .Name "ValueError" p2] [] pos) (fIsx tab ["ValueError"] fa) := by
  intro pins s σ H Q I h
  refine (pe_callB call_isx hg hm boot_isinstance (pa_cons ha (pa_cons (pe_bltn (v := .ty "ValueError") hgd hmv PyProof.Rows.Boot.«ValueError» rfl (by decide) (by decide)) pa_nil rfl) h1) (by decide) (by decide) h1 h2) pins s σ H Q I ?_
  refine trE_mono (i_isx T h) fun x H1 q => ?_
  obtain ⟨t, b, hk, hb⟩ := q
  refine ⟨x, .ty "ValueError", t, b, rfl, (hk H1 (.refl _)).1, .inr (.inl ⟨"ValueError", rfl, ?_⟩), (hk H1 (.refl _)).2⟩
  have hmeta : PySem.W.kitMeta "ValueError" = true := by kernel_rfl
  rcases hb with ⟨rfl, rfl⟩ | ⟨c, C, hc, hn, rfl, rfl⟩
  · kernel_rfl
  · unfold PySem.W.kitOne PySem.W.kitCls
    rw [if_neg (by simp)]
    dsimp only
    rw [if_pos hmeta, T.ve c C hc hn]
    simp
end
end TL
/-! ModelR -/
set_option linter.all false
set_option maxRecDepth 100000
namespace TL
open PySem PySem.Spec PyProof.Rows L2
section
variable {X : Cx} {a e : Expr} {es : List Expr} {fa : FE} {x : XF} {pos : Pos}
theorem qs_raiseE {c : String} {e₀ : Expr} {rest : List Expr} {np cpos : Pos} {fr : FN} (D : ∃ C, ExC X.K X.mg c C) (hc : X.calm = true) (ha : QA X (e₀ :: rest) fr) (hg : Gl X (Str.ofString c) := by rfl) (hd : (Str.ofString c == ("__debug__" : Str)) = false := by decide)
    (he : starEach (e₀ :: rest) X.env = (false, eval e₀ X.env) :: starEach rest X.env := by rfl) (hpl : (backTo cpos (starEach rest X.env)).any (·.1) = false := by rfl) :
    QS X (.Raise (some (.Call (.Name (Str.ofString c) np) (e₀ :: rest) [] cpos)) none pos) (fRaise c fr) := by
  obtain ⟨C, hC⟩ := D
  exact qs_raise hC hc ha hg hd he hpl
end
section
variable {X : Cx} {e : Expr} {es : List Expr} {fr : FN} {p pos : Pos}
end
theorem named_eq {K : PySem.W.Frag} {c : String} {C D : Addr} (h : Named K c C) (h' : Named K c D) : C = D := by
  unfold Named at h h'
  rw [h] at h'
  cases h'; rfl
theorem Tab.of {K : PySem.W.Frag} {mg : Str → Option Value} {tab : String → List String} {rl dl : List (String × Addr)} (hr : ∀ p ∈ rl, Named K p.1 p.2) (dom : ∀ c, tab c ≠ [] → c ∈ rl.map (·.1))
    (own : ∀ p ∈ dl, ExC K mg p.1 p.2 ∧ PySem.W.typeIn K (.ref p.2) = some (.type "type"))
    (cls : ∀ p ∈ rl, PySem.W.excIn K p.2 mroVE "ValueError.__new__" = true ∧ PySem.W.findIn K (.ref p.2) "__getattribute__" = some (some (.builtin "BaseException.__getattribute__")) ∧ PySem.W.findIn K (.ref p.2) "__getattr__" = some none ∧ PySem.W.mroIn K p.2 (.type "BaseException") = some true ∧ PySem.W.findIn K (.ref p.2) "__class__" = some (some (.builtin "object.__class__")) ∧ PySem.W.mroIn K p.2 (.type "object") = some true)
    (ve : ∀ p ∈ rl, PySem.W.subIn K (.ref p.2) (.type "ValueError") = some ((tab p.1).contains "ValueError"))
    (sub : ∀ p ∈ rl, ∀ q ∈ dl, PySem.W.mroIn K p.2 (.ref q.2) = some ((tab p.1).contains q.1)) : Tab K mg tab (rl.map (·.1)) (dl.map (·.1)) := by
  refine ⟨dom, fun d hd => ?_, fun c C hc hn => ?_, fun c C hc hn => ?_, fun c C d D hc hd hn hn' => ?_⟩
  · obtain ⟨p, hp, rfl⟩ := List.mem_map.mp hd
    exact ⟨p.2, own p hp⟩
  · obtain ⟨p, hp, rfl⟩ := List.mem_map.mp hc
    rw [named_eq hn (hr p hp)]
    exact cls p hp
  · obtain ⟨p, hp, rfl⟩ := List.mem_map.mp hc
    rw [named_eq hn (hr p hp)]
    exact ve p hp
  · obtain ⟨p, hp, rfl⟩ := List.mem_map.mp hc
    obtain ⟨q, hq, rfl⟩ := List.mem_map.mp hd
    rw [named_eq hn (hr p hp), named_eq hn' (own q hq).1.nm]
    exact sub p hp q hq
theorem all1 {α : Type} {P : α → Prop} {a : α} {as : List α} (h : P a) (hs : ∀ x ∈ as, P x) : ∀ x ∈ a :: as, P x := List.forall_mem_cons.mpr ⟨h, hs⟩
theorem all0 {α : Type} {P : α → Prop} : ∀ x ∈ ([] : List α), P x := fun _ z => nomatch z
end TL
/-! ModelS -/
set_option linter.all false
set_option maxRecDepth 100000
namespace TL
open PySem PySem.Spec PyProof.Rows L2
section
variable {X : Cx} {a b e de : Expr} {fa fb : FE} {x : XF} {p pos kp : Pos}
end
end TL
/-! TreeM -/
set_option linter.all false
namespace TL
open PySem L2
def fAugI (fo fi fe : FE) : FS := fun τ C => (fo τ C).bind fun q => (fi τ q.2).bind fun r => match q.1, r.1 with
  | .cell c, .int i => (r.2[c]?).bind fun ts => (atI ts i).bind fun old => match old with
    | .int x => (fe τ r.2).bind fun p => match p.1 with
      | .int y => (p.2[c]?).bind fun us => (ixN us.length i).map fun j => (.nx, τ, p.2.set c (us.set j (.int (x + y))))
      | _ => none
    | _ => none
  | _, _ => none
def gIs0 (t1 t2 : T) (C : Sto) : Option (T × Sto) := match t2 with
  | .non => match t1 with
    | .non => some (.bl true, C)
    | _ => some (.bl false, C)
  | _ => none
def fTupD (fa : FN) : FE := fArg fa fun ts C => if ts.length ≤ lim then some (.tup ts, C) else none
def gDmB (ts : List T) (C : Sto) : Option (T × Sto) := match ts with
  | [.int i, .int j] => if 0 < j ∧ j < 2 ^ 250 then some (.tup [.int (i / j), .int (i % j)], C) else none
  | _ => none
section
variable {K : PySem.W.Frag} {W : XW} {σ : St} {H : Hp}
end
end TL
/-! ModelT -/
set_option linter.all false
set_option maxRecDepth 100000
namespace TL
open PySem PySem.Spec PyProof.Rows L2
section
variable {X : Cx} {a b c e : Expr} {es : List Expr} {fa fb fc : FE} {fr : FN} {p pos : Pos}
end
end TL
/-! TreeN -/
set_option linter.all false
namespace TL
open PySem L2
end TL
/-! ModelU -/
set_option linter.all false
set_option maxRecDepth 100000
namespace TL
open PySem PySem.Spec PyProof.Rows L2
section
variable {X : Cx} {e : Expr} {es : List Expr} {fr : FN} {p pos : Pos}
theorem vals_ints : ∀ {vs : List Value} {ns : List Int}, IntsAre vs ns → Vals (ns.map V.int) vs
  | _, _, .nil => .nil
  | _, _, .cons n t h => .cons ⟨t, rfl⟩ (vals_ints h)
end
end TL
/-! TreeO -/
set_option linter.all false
namespace TL
open PySem L2
end TL
/-! ModelV -/
set_option linter.all false
set_option maxRecDepth 100000
namespace TL
open PySem PySem.Spec PyProof.Rows L2
section
variable {X : Cx} {a b : Expr} {fa fb : FE} {p pos : Pos}
end
end TL
/-! TreeS -/
set_option linter.all false
namespace TL
open PySem L2
def mN (F : List T → Option (Option (List T))) (ts : List T) : Option (List T) := match F ts with
  | some (some us) => some us
  | _ => none
end TL
/-! ModelW -/
set_option linter.all false
set_option maxRecDepth 100000
namespace TL
open PySem PySem.Spec PyProof.Rows L2
section
variable {K : PySem.W.Frag} {σ : L2.St} {H : Hp}
end
section
variable {X : Cx} {a b e : Expr} {es : List Expr} {fa fb : FE} {fr : FN} {p pos : Pos}
end
end TL
/-! ModelK -/
set_option linter.all false
set_option maxRecDepth 100000
namespace TL
open PySem PySem.Spec PyProof.Rows L2

/-! ### comprehensions whose own name is captured by an inner one -/
section
variable {X : Cx} {own fr : List Str} {is : List Nat} {scope : Scope} {cl : List (Str × Addr)} {x : Str}
end

section
variable {X : Cx} {p p2 pos : Pos} {own frs : List Str} {is : List Nat} {scope : Scope} {cl : List (Str × Addr)} {tg iter elt : Expr} {ifs : List Expr} {fi fe : FE} {g : FG} {gt : FB} {cx : Str}
end
end TL
/-! TreeT -/
set_option linter.all false
namespace TL
open PySem L2
/-! ### texts -/
def inS (y x : Str) : Bool := !(Builtin.Str.occurrences y x 0 y.length 1).isEmpty
def gInS (t1 t2 : T) (C : Sto) : Option (T × Sto) := match t1, t2 with
  | .str x, .str y => some (.bl (inS y x), C)
  | _, _ => none
def gNinS (t1 t2 : T) (C : Sto) : Option (T × Sto) := match t1, t2 with
  | .str x, .str y => some (.bl (!(inS y x)), C)
  | _, _ => none
def gAddS (t1 t2 : T) (C : Sto) : Option (T × Sto) := match t1, t2 with
  | .str x, .str y => if x.length + y.length ≤ lim then some (.str (x ++ y), C) else none
  | _, _ => none
def gIxS (t1 t2 : T) (C : Sto) : Option (T × Sto) := match t1, t2 with
  | .str z, .int i => if z.length ≤ lim then (atI z.cps.toList i).map fun c => (.str ⟨#[c]⟩, C) else none
  | _, _ => none
abbrev mulS (x : Str) (n : Int) : Str := Txt.mul x n
def gMulS (t1 t2 : T) (C : Sto) : Option (T × Sto) := match t1, t2 with
  | .str x, .int n => if (0 ≤ n ∧ n ≤ 100) ∧ x.length ≤ 100 then some (.str (mulS x n), C) else none
  | _, _ => none
def gLenS (ts : List T) (C : Sto) : Option (T × Sto) := match ts with
  | [.str x] => if x.length ≤ lim then some (.int x.length, C) else none
  | _ => none
def gStrI (ts : List T) (C : Sto) : Option (T × Sto) := match ts with
  | [.int i] => if i.natAbs.log2 < 1920 then some (.str (toString i), C) else none
  | _ => none
def gIntS (ts : List T) (C : Sto) : Option (T × Sto) := match ts with
  | [.str x] => if x.length ≤ 640 then (intText? x).map fun n => (.int n, C) else none
  | _ => none
def gStaS (t1 t2 : T) (C : Sto) : Option (T × Sto) := match t1, t2 with
  | .str x, .str y => some (.bl (Txt.startswith x y), C)
  | _, _ => none
def gFndS (t1 t2 : T) (C : Sto) : Option (T × Sto) := match t1, t2 with
  | .str x, .str y => match Builtin.Str.occurrences x y 0 x.length 1 with
    | i :: _ => some (.int (i : Nat), C)
    | [] => none
  | _, _ => none
def strs? : List T → Option (List Str)
  | [] => some []
  | .str x :: ts => (strs? ts).map (x :: ·)
  | _ => none
def gJoiS (t1 t2 : T) (C : Sto) : Option (T × Sto) := match t1 with
  | .str x => (liT C t2).bind fun us => (strs? us).bind fun xs => if JoinOk x xs = true then some (.str (Txt.join x xs), C) else none
  | _ => none
def fSlS (fa : FE) (fl fh : FO) : FE := fun τ C => (fa τ C).bind fun p => (fl τ p.2).bind fun q => (fh τ q.2).bind fun r => match p.1 with
  | .str z => if z.length ≤ lim then some (.str (Txt.slice z q.1 r.1), r.2) else none
  | _ => none
def sigs (z : Str) : List T := z.cps.toList.map fun c => T.str ⟨#[c]⟩
noncomputable def fForS (f : FE) (g : FG) (F : FS) : FS := fun τ C => (f τ C).bind fun p => match p.1 with
  | .str z => forGo (fun _ => True) g F (sigs z) τ p.2
  | _ => none
def fCompS (f : FE) (k : Nat) (is : List Nat) (g : FG) (tc : FB) (fe : FE) : FN := fun τ C => (f τ C).bind fun p => match p.1 with
  | .str z => if (sigs z).length < lim then compGo g tc fe (scT k is τ) (sigs z) p.2 else none
  | _ => none
abbrev fLenS (fa : FN) : FE := fArg fa gLenS
abbrev fStrI (fa : FN) : FE := fArg fa gStrI
abbrev fIntS (fa : FN) : FE := fArg fa gIntS
section
variable {K : PySem.W.Frag} {W : XW} {σ : St} {H : Hp} {Q : VK} {x y : V}
theorem RT.str_inv {M : Hp} {ρ : Rho} {z : Str} {v : V} (h : RT K M ρ (.str z) v) : v = .str z := by unfold RT at h; exact h
theorem o_inS (h : ∃ t1 t2, trV K σ [t1, t2] [x, y] (gInS t1 t2) H Q) : ∃ i j, x = .str i ∧ y = .str j ∧ Q (.bl (!(Builtin.Str.occurrences j i 0 j.length 1).isEmpty)) H := by
  obtain ⟨t1, t2, H₀, Z, ρ, τ, C, t, C', R, r, e, k⟩ := h
  obtain ⟨_, _, z, r1, r⟩ := r.cons_inv
  cases z
  obtain ⟨_, _, z, r2, r⟩ := r.cons_inv
  cases z
  unfold gInS at e
  split at e
  · cases e; exact ⟨_, _, r1.str_inv, r2.str_inv, k _ H ρ R .bl .refl⟩
  · cases e
theorem o_ninS (h : ∃ t1 t2, trV K σ [t1, t2] [x, y] (gNinS t1 t2) H Q) : ∃ i j, x = .str i ∧ y = .str j ∧ Q (.bl (!(!(Builtin.Str.occurrences j i 0 j.length 1).isEmpty))) H := by
  obtain ⟨t1, t2, H₀, Z, ρ, τ, C, t, C', R, r, e, k⟩ := h
  obtain ⟨_, _, z, r1, r⟩ := r.cons_inv
  cases z
  obtain ⟨_, _, z, r2, r⟩ := r.cons_inv
  cases z
  unfold gNinS at e
  split at e
  · cases e; exact ⟨_, _, r1.str_inv, r2.str_inv, k _ H ρ R .bl .refl⟩
  · cases e
theorem o_addS (hz : lim ≤ sizeLine) (h : ∃ t1 t2, trV K σ [t1, t2] [x, y] (gAddS t1 t2) H Q) : ∃ i j, x = .str i ∧ y = .str j ∧ i.length + j.length ≤ sizeLine ∧ Q (.str (i ++ j)) H := by
  obtain ⟨t1, t2, H₀, Z, ρ, τ, C, t, C', R, r, e, k⟩ := h
  obtain ⟨_, _, z, r1, r⟩ := r.cons_inv
  cases z
  obtain ⟨_, _, z, r2, r⟩ := r.cons_inv
  cases z
  unfold gAddS at e
  split at e
  · split at e
    · rename_i hl
      cases e; exact ⟨_, _, r1.str_inv, r2.str_inv, Nat.le_trans hl hz, k _ H ρ R .str .refl⟩
    · cases e
  · cases e
theorem o_ixS (hz : lim ≤ sizeLine) (h : ∃ t1 t2, trV K σ [t1, t2] [x, y] (gIxS t1 t2) H Q) : rIxS x y H Q := by
  obtain ⟨t1, t2, H₀, Z, ρ, τ, C, t, C', R, r, e, k⟩ := h
  obtain ⟨_, _, z, r1, r⟩ := r.cons_inv
  cases z
  obtain ⟨_, _, z, r2, r⟩ := r.cons_inv
  cases z
  unfold gIxS at e
  split at e
  · split at e
    · rename_i hl
      obtain ⟨c, e1, e⟩ := Option.map_eq_some_iff.mp e
      cases e; exact ⟨_, _, c, r1.str_inv, r2.int_inv, Nat.le_trans hl hz, e1, k _ H ρ R .str .refl⟩
    · cases e
  · cases e
theorem o_mulS (h : ∃ t1 t2, trV K σ [t1, t2] [x, y] (gMulS t1 t2) H Q) : ∃ i n, x = .str i ∧ y = .int n ∧ ((0 ≤ n ∧ n ≤ 100) ∧ i.length ≤ 100) ∧ Q (.str (mulS i n)) H := by
  obtain ⟨t1, t2, H₀, Z, ρ, τ, C, t, C', R, r, e, k⟩ := h
  obtain ⟨_, _, z, r1, r⟩ := r.cons_inv
  cases z
  obtain ⟨_, _, z, r2, r⟩ := r.cons_inv
  cases z
  unfold gMulS at e
  split at e
  · split at e
    · rename_i hl
      cases e; exact ⟨_, _, r1.str_inv, r2.int_inv, hl, k _ H ρ R .str .refl⟩
    · cases e
  · cases e
theorem o_lenS {xs : List V} (hz : lim ≤ sizeLine) (h : ∃ ts, trV K σ ts xs (gLenS ts) H Q) : ∃ z, xs = [.str z] ∧ z.length ≤ sizeLine ∧ Q (.int z.length) H := by
  obtain ⟨ts, H₀, Z, ρ, τ, C, t, C', R, r, e, k⟩ := h
  unfold gLenS at e
  split at e
  · obtain ⟨v, _, rfl, r1, r⟩ := r.cons_inv
    rw [r.nil_inv, r1.str_inv]
    split at e
    · rename_i hl
      cases e
      exact ⟨_, rfl, Nat.le_trans hl hz, k _ H ρ R .int .refl⟩
    · cases e
  · cases e
theorem o_strI {xs : List V} (h : ∃ ts, trV K σ ts xs (gStrI ts) H Q) : ∃ i, xs = [.int i] ∧ i.natAbs.log2 < 1920 ∧ Q (.str (toString i)) H := by
  obtain ⟨ts, H₀, Z, ρ, τ, C, t, C', R, r, e, k⟩ := h
  unfold gStrI at e
  split at e
  · obtain ⟨v, _, rfl, r1, r⟩ := r.cons_inv
    rw [r.nil_inv, r1.int_inv]
    split at e
    · rename_i hl
      cases e
      exact ⟨_, rfl, hl, k _ H ρ R .str .refl⟩
    · cases e
  · cases e
theorem o_intS {xs : List V} (h : ∃ ts, trV K σ ts xs (gIntS ts) H Q) : ∃ z n, xs = [.str z] ∧ z.length ≤ 640 ∧ intText? z = some n ∧ Q (.int n) H := by
  obtain ⟨ts, H₀, Z, ρ, τ, C, t, C', R, r, e, k⟩ := h
  unfold gIntS at e
  split at e
  · obtain ⟨v, _, rfl, r1, r⟩ := r.cons_inv
    rw [r.nil_inv, r1.str_inv]
    split at e
    · rename_i hl
      obtain ⟨n, e1, e⟩ := Option.map_eq_some_iff.mp e
      cases e
      exact ⟨_, n, rfl, hl, e1, k _ H ρ R .int .refl⟩
    · cases e
  · cases e
theorem i_mtS {fa fb : FE} {g : T → T → Sto → Option (T × Sto)} {r : V → List V → Hp → VK → Prop} (hs : ∀ t1 t2 C p, g t1 t2 C = some p → ∃ z, t1 = .str z) (ho : ∀ σ H Q x y, (∃ t1 t2, trV K σ [t1, t2] [x, y] (g t1 t2) H Q) → r x [y] H Q)
    (h : trE K (fBin fa fb g) σ H Q) : tBM K "str" r (trE K fa) (tCons (trE K fb) tNil) σ H Q := by
  obtain ⟨H₀, Z, ρ, τ, C, t, C', R, e, k⟩ := h
  unfold fBin at e
  obtain ⟨⟨t1, C1⟩, e1, e⟩ := Option.bind_eq_some_iff.mp e
  obtain ⟨⟨t2, C2⟩, e2, e⟩ := Option.bind_eq_some_iff.mp e
  obtain ⟨z, rfl⟩ := hs _ _ _ _ e
  refine ⟨H₀, Z, ρ, τ, C, _, C1, R, e1, fun v H1 ρ1 R1 h1 s1 => ?_⟩
  refine ⟨by rw [h1.str_inv]; rfl, H₀, Z, ρ1, τ, C1, _, _, R1, e2, fun y H2 ρ2 R2 h2 s2 => ?_⟩
  exact ho _ _ _ _ _ ⟨_, _, H₀, Z, ρ2, τ, C2, t, C', R2, .cons (h1.step s2) (.cons h2 .nil), e, fun v H3 ρ3 R3 h3 s3 => k v H3 ρ3 R3 h3 ((s1.trans s2).trans s3)⟩
theorem o_staS (h : ∃ t1 t2, trV K σ [t1, t2] [x, y] (gStaS t1 t2) H Q) : ∃ i j, x = .str i ∧ [y] = [.str j] ∧ Q (.bl (Txt.startswith i j)) H := by
  obtain ⟨t1, t2, H₀, Z, ρ, τ, C, t, C', R, r, e, k⟩ := h
  obtain ⟨_, _, z, r1, r⟩ := r.cons_inv
  cases z
  obtain ⟨_, _, z, r2, r⟩ := r.cons_inv
  cases z
  unfold gStaS at e
  split at e
  · cases e; exact ⟨_, _, r1.str_inv, by rw [r2.str_inv], k _ H ρ R .bl .refl⟩
  · cases e
theorem o_fndS (h : ∃ t1 t2, trV K σ [t1, t2] [x, y] (gFndS t1 t2) H Q) : ∃ i j n r, x = .str i ∧ [y] = [.str j] ∧ Builtin.Str.occurrences i j 0 i.length 1 = n :: r ∧ Q (.int (n : Nat)) H := by
  obtain ⟨t1, t2, H₀, Z, ρ, τ, C, t, C', R, r, e, k⟩ := h
  obtain ⟨_, _, z, r1, r⟩ := r.cons_inv
  cases z
  obtain ⟨_, _, z, r2, r⟩ := r.cons_inv
  cases z
  unfold gFndS at e
  split at e
  · split at e
    · rename_i q
      cases e; exact ⟨_, _, _, _, r1.str_inv, by rw [r2.str_inv], q, k _ H ρ R .int .refl⟩
    · cases e
  · cases e
set_option maxHeartbeats 1000000 in
theorem strs?_inv {M : Hp} {ρ : Rho} : ∀ {us : List T} {vs : List V} {xs : List Str}, RTs K M ρ us vs → strs? us = some xs → vs = xs.map V.str
  | [], vs, xs, h, e => by cases e; rw [h.nil_inv]; rfl
  | t :: us, vs, xs, h, e => by
    obtain ⟨v, r, rfl, h1, h2⟩ := h.cons_inv
    cases t with
    | str z =>
      have e : (strs? us).map (z :: ·) = some xs := e
      obtain ⟨ys, e1, e⟩ := Option.map_eq_some_iff.mp e
      cases e
      rw [h1.str_inv, strs?_inv h2 e1]; rfl
    | _ => exact absurd e (by simp [strs?])
theorem o_joiS (h : ∃ t1 t2, trV K σ [t1, t2] [x, y] (gJoiS t1 t2) H Q) : ∃ i a zs, x = .str i ∧ [y] = [.ref a] ∧ SqL K H a (zs.map V.str) ∧ JoinOk i zs = true ∧ Q (.str (Txt.join i zs)) H := by
  obtain ⟨t1, t2, H₀, Z, ρ, τ, C, t, C', R, r, e, k⟩ := h
  obtain ⟨_, _, z, r1, r⟩ := r.cons_inv
  cases z
  obtain ⟨_, _, z, r2, r⟩ := r.cons_inv
  cases z
  unfold gJoiS at e
  split at e
  · obtain ⟨us, e1, e⟩ := Option.bind_eq_some_iff.mp e
    obtain ⟨xs, e2, e⟩ := Option.bind_eq_some_iff.mp e
    split at e
    · rename_i hj
      cases e
      obtain ⟨a, vs, ea, qa, ra⟩ := R.li r2 e1
      have := strs?_inv ra e2
      subst this
      exact ⟨_, a, xs, r1.str_inv, by rw [ea], qa, hj, k _ H ρ R .str .refl⟩
    · cases e
  · cases e
end
end TL
/-! TreeU -/
set_option linter.all false
namespace TL
open PySem L2
def rSlS : V → Option Int → Option Int → Hp → VK → Prop := fun x lo hi H Q => ∃ z, x = .str z ∧ z.length ≤ sizeLine ∧ Q (.str (Txt.slice z lo hi)) H
def Its (z : Str) : It := ⟨fun i _ => i < z.cps.size, fun i H x H' => H' = H ∧ ∃ c, z.cps[i]? = some c ∧ x = .str ⟨#[c]⟩, fun i _ => i = z.cps.size⟩
def iStr (tl : TE) : TI := fun σ H R => tl σ H fun x H1 => ∃ z, x = .str z ∧ R (Its z) H1
section
variable {K : PySem.W.Frag} {W : XW} {σ : St} {H : Hp} {Q : VK} {D : Ends}
theorem i_slS {f : FE} {lo hi : FO} (hz : lim ≤ sizeLine) (h : trE K (fSlS f lo hi) σ H Q) : tSl rSlS (trE K f) (trO K lo) (trO K hi) σ H Q := by
  obtain ⟨H₀, Z, ρ, τ, C, ts, C', R, e, k⟩ := h
  unfold fSlS at e
  obtain ⟨⟨t, C1⟩, e1, e⟩ := Option.bind_eq_some_iff.mp e
  obtain ⟨⟨l, C2⟩, e2, e⟩ := Option.bind_eq_some_iff.mp e
  obtain ⟨⟨u, C3⟩, e3, e⟩ := Option.bind_eq_some_iff.mp e
  dsimp only at e
  split at e
  · split at e
    · rename_i hl
      cases e
      refine ⟨H₀, Z, ρ, τ, C, _, C1, R, e1, fun v H1 ρ1 R1 h1 s1 => ?_⟩
      refine ⟨H₀, Z, ρ1, τ, C1, l, C2, R1, e2, fun H2 ρ2 R2 s2 => ?_⟩
      refine ⟨H₀, Z, ρ2, τ, C2, u, _, R2, e3, fun H3 ρ3 R3 s3 => ?_⟩
      exact ⟨_, h1.str_inv, Nat.le_trans hl hz, k _ H3 ρ3 R3 .str ((s1.trans s2).trans s3)⟩
    · cases e
  · cases e
theorem wlk_str {Z : Addr → Prop} {H1 : Hp} {ρ1 : Rho} {z : Str} : Wlk K (Its z) Z H1 ρ1 (sigs z) (fun _ => True) := by
  refine ⟨fun i t' H₀ Z' ρ' τ' C' σ H ht R' sm ix st' => ?_, fun H₀ Z' ρ' τ' C' σ H R' sm ix st' => ?_⟩
  · unfold sigs at ht
    rw [List.getElem?_map] at ht
    obtain ⟨c, hc, e⟩ := Option.map_eq_some_iff.mp ht
    subst e
    rw [Array.getElem?_toList] at hc
    refine ⟨(Array.getElem?_eq_some_iff.mp hc).1, fun x H' ⟨h1, c', h2, h3⟩ => ?_⟩
    subst h1
    rw [hc] at h2; cases h2
    rw [h3]; exact ⟨.refl _, .str⟩
  · show _ = z.cps.size
    simp [sigs]
theorem s_forS {f : FE} {g : FG} {F : FS} (h : trS K W (fForS f g F) D σ H) : tFor (iStr (trE K f)) (trG K g) (trS K W F) D σ H := by
  obtain ⟨H₀, Z, ρ, τ, C, fl, τ', C', R, e, k⟩ := h
  unfold fForS at e
  obtain ⟨⟨t, C1⟩, e1, e⟩ := Option.bind_eq_some_iff.mp e
  dsimp only at e
  split at e
  · refine ⟨H₀, Z, ρ, τ, C, _, C1, R, e1, fun v H1 ρ1 R1 h1 s1 => ?_⟩
    exact ⟨_, h1.str_inv, for_any (P := fun _ => True) R1 trivial e wlk_str fun σ' H' ρ' R' s' => k σ' H' ρ' R' (s1.ss.trans s')⟩
  · cases e
theorem i_compS {f : FE} {k : Nat} {is : List Nat} {g : FG} {tc : FB} {fe : FE} (hg : Own k g) (h : trN K (fCompS f k is g tc fe) σ H Q) : tComp (iStr (trE K f)) (scV k is) (trG K g) (trT K tc) (trE K fe) σ H Q := by
  obtain ⟨H₀, Z, ρ, τ, C, ys, C', R, e, q⟩ := h
  unfold fCompS at e
  obtain ⟨⟨t, C1⟩, e1, e⟩ := Option.bind_eq_some_iff.mp e
  dsimp only at e
  split at e
  · split at e
    · rename_i hl
      refine ⟨H₀, Z, ρ, τ, C, _, C1, R, e1, fun v H1 ρ1 R1 h1 s1 => ?_⟩
      exact ⟨_, h1.str_inv, fun D hD => comp_any (P := fun _ => True) R1 hg wlk_str hl e hD fun p H' ρ' vs R' hp rv s' => q p H' ρ' vs R' hp rv (s1.trans s')⟩
    · cases e
  · cases e
end
end TL
/-! ModelL -/
set_option linter.all false
set_option maxRecDepth 100000
namespace TL
open PySem PySem.Spec PyProof.Rows L2
section
variable {X : Cx} {a b c e o : Expr} {es : List Expr} {fa fb fc : FE} {fr : FN} {p p2 pos : Pos}
theorem q_globS {x : Str} {z : Str} (hm : ∃ t, X.mg x = some (.str z t)) (hg : Gl X x := by rfl) (hd : (x == ("__debug__" : Str)) = false := by decide) : QE X (.Name x pos) (fC (.str z)) := by
  obtain ⟨t, hm⟩ := hm
  exact (pe_glob hg hm (v := .str z) ⟨t, rfl⟩ hd).imp fun _ _ _ => i_C fun _ _ => .str
theorem q_globI {x : Str} {i : Int} (hm : ∃ t, X.mg x = some (.int i t)) (hg : Gl X x := by rfl) (hd : (x == ("__debug__" : Str)) = false := by decide) : QE X (.Name x pos) (fC (.int i)) := by
  obtain ⟨t, hm⟩ := hm
  exact (pe_glob hg hm (v := .int i) ⟨t, rfl⟩ hd).imp fun _ _ _ => i_C fun _ _ => .int
theorem q_inS (ha : QE X a fa) (hb : QE X b fb) (hm : behindInMarks .In b = false := by rfl) : QE X (.Compare a [.In] [b] pos) (fBin fa fb gInS) := q_cmp op_in_str (fun _ _ _ _ _ => o_inS) ha hb hm
theorem t_ninS (ha : QE X a fa) (hb : QE X b fb) (hm : behindInMarks .NotIn b = false := by rfl) : QT X (.Compare a [.NotIn] [b] pos) (fTst (fBin fa fb gNinS)) := t_cmp op_notIn_str (fun _ _ _ _ _ => o_ninS) ha hb hm
theorem q_addS (ha : QE X a fa) (hb : QE X b fb) : QE X (.BinOp a .Add b pos) (fBin fa fb gAddS) := (pe_op op_add_str ha hb).imp fun _ _ _ => i_op fun _ _ _ _ _ => o_addS lim_line
theorem q_ixS (ha : QE X a fa) (hb : QE X b fb) (hs : PlainIx b := by exact fun _ _ => rfl) : QE X (.Subscript a b pos) (fBin fa fb gIxS) := (pe_ix ix_str ha hb hs).imp fun _ _ _ => i_op fun _ _ _ _ _ => o_ixS lim_line
theorem op_mulS : OpR X (binaryOp .Mult) (fun x y H Q => ∃ i n, x = .str i ∧ y = .int n ∧ ((0 ≤ n ∧ n ≤ 100) ∧ i.length ≤ 100) ∧ Q (.str (mulS i n)) H) := by
  intro pins s σ H x y u w Q I rx ry h
  obtain ⟨i, n, rfl, rfl, ⟨⟨h1, h2⟩, h3⟩, q⟩ := h
  obtain ⟨t, rfl⟩ := rx
  obtain ⟨t', rfl⟩ := ry
  exact SB.mul (PyProof.Rows.mulOk_of 100 100 h3 h2 (by omega) (by decide) (by decide)) fun t' k => ⟨.str _, H, I.tok _, ⟨_, rfl⟩, q⟩
theorem q_mulS (ha : QE X a fa) (hb : QE X b fb) : QE X (.BinOp a .Mult b pos) (fBin fa fb gMulS) := (pe_op op_mulS ha hb).imp fun _ _ _ => i_op fun _ _ _ _ _ => o_mulS
theorem q_lenS (hm : X.mg "len" = none) (ha : QA X (e :: es) fr) (hg : Gl X "len" := by rfl) (he : starEach (e :: es) X.env = (false, eval e X.env) :: starEach es X.env := by rfl) (hpl : (backTo pos (starEach es X.env)).any (·.1) = false := by rfl) :
    QE X (.Call (.Name "len" p) (e :: es) [] pos) (fLenS fr) := q_bi call_len_str (fun _ _ _ _ => o_lenS lim_line) boot_len hm hg ha (by decide) (by decide) he hpl
theorem sl_str : SlR X rSlS := by
  intro pins s σ H x v vl vu lo hi sl Q I rx hs pl pu h
  obtain ⟨z, rfl, hz, q⟩ := h
  obtain ⟨t, rfl⟩ := rx
  refine ⟨"str", _, PySem.F.slot_str_getitem.lookup, typeIs_str _ _ _, ?_⟩
  obtain ⟨ob, h1, h2, h3⟩ := hs
  cases pl with
  | none => cases pu with
    | none => exact wpAny_getItem_str_slice (l := none) (u := none) (st := none) ⟨ob, h1, h2, h3⟩ rfl (post_val_or_str ⟨Nat.le_trans (Txt.slice_le z _ _) hz, fun t' k => ⟨.str _, H, I.tok _, ⟨_, rfl⟩, q⟩⟩)
    | int j tj => exact wpAny_getItem_str_slice (l := none) (u := some (j, tj)) (st := none) ⟨ob, h1, h2, h3⟩ rfl (post_val_or_str ⟨Nat.le_trans (Txt.slice_le z _ _) hz, fun t' k => ⟨.str _, H, I.tok _, ⟨_, rfl⟩, q⟩⟩)
  | int i ti => cases pu with
    | none => exact wpAny_getItem_str_slice (l := some (i, ti)) (u := none) (st := none) ⟨ob, h1, h2, h3⟩ rfl (post_val_or_str ⟨Nat.le_trans (Txt.slice_le z _ _) hz, fun t' k => ⟨.str _, H, I.tok _, ⟨_, rfl⟩, q⟩⟩)
    | int j tj => exact wpAny_getItem_str_slice (l := some (i, ti)) (u := some (j, tj)) (st := none) ⟨ob, h1, h2, h3⟩ rfl (post_val_or_str ⟨Nat.le_trans (Txt.slice_le z _ _) hz, fun t' k => ⟨.str _, H, I.tok _, ⟨_, rfl⟩, q⟩⟩)
theorem q_slS {lo hi : Option Expr} {fl fh : FO} (ha : QE X a fa) (hl : QO X lo fl) (hh : QO X hi fh) : QE X (.Subscript a (.Slice lo hi none p2) pos) (fSlS fa fl fh) := (pe_slice sl_str ha hl hh).imp fun _ _ _ => i_slS lim_line
theorem call_intS : CallR X (.type "int") (fun xs H Q => ∃ z n, xs = [.str z] ∧ z.length ≤ 640 ∧ intText? z = some n ∧ Q (.int n) H) := by
  intro pins s σ H xs us Q I r h
  obtain ⟨z, n, rfl, h1, h2, q⟩ := h
  obtain ⟨u, rfl, t, rfl⟩ := vals1 r
  exact PySem.W.KIN.call_text h2 h1 ⟨.int n, H, I.tok _, ⟨_, rfl⟩, q⟩
theorem q_ty {r : List V → Hp → VK → Prop} {g : List T → Sto → Option (T × Sto)} {ty : String} {x : Str} (hc : CallR X (.type ty) r) (ho : ∀ σ H Q xs, (∃ ts, trV X.K σ ts xs (g ts) H Q) → r xs H Q) (hv : bootBuiltins x = some (.type ty)) (hm : X.mg x = none) (hg : Gl X x) (ha : QA X (e :: es) fr) (hn : x ≠ "__name__" := by decide) (hdb : (x == ("__debug__" : Str)) = false := by decide)
    (he : starEach (e :: es) X.env = (false, eval e X.env) :: starEach es X.env := by rfl) (hpl : (backTo pos (starEach es X.env)).any (·.1) = false := by rfl) : QE X (.Call (.Name x p) (e :: es) [] pos) (fArg fr g) :=
  (pe_callTy hc hg hm hv ha hn hdb he hpl).imp fun _ _ _ => i_cb ho
theorem q_intS (hm : X.mg "int" = none) (ha : QA X (e :: es) fr) (hg : Gl X "int" := by rfl) (he : starEach (e :: es) X.env = (false, eval e X.env) :: starEach es X.env := by rfl) (hpl : (backTo pos (starEach es X.env)).any (·.1) = false := by rfl) :
    QE X (.Call (.Name "int" p) (e :: es) [] pos) (fIntS fr) := q_ty call_intS (fun _ _ _ _ => o_intS) boot_int hm hg ha (by decide) (by decide) he hpl
theorem q_strI (hm : X.mg "str" = none) (ha : QA X (e :: es) fr) (hg : Gl X "str" := by rfl) (he : starEach (e :: es) X.env = (false, eval e X.env) :: starEach es X.env := by rfl) (hpl : (backTo pos (starEach es X.env)).any (·.1) = false := by rfl) :
    QE X (.Call (.Name "str" p) (e :: es) [] pos) (fStrI fr) := q_ty call_str_int (fun _ _ _ _ => o_strI) boot_str hm hg ha (by decide) (by decide) he hpl
theorem mt_sta : MtR X "str.startswith" (fun x vs H Q => ∃ i j, x = .str i ∧ vs = [.str j] ∧ Q (.bl (Txt.startswith i j)) H) := by
  intro pins s σ H x xs v us Q I rx rs h
  obtain ⟨i, j, rfl, rfl, q⟩ := h
  obtain ⟨t, rfl⟩ := rx
  obtain ⟨u, rfl, t', rfl⟩ := vals1 rs
  exact SC.startswith ⟨.bl _, H, I, rfl, q⟩
theorem mt_fnd : MtR X "str.index" (fun x vs H Q => ∃ i j n r, x = .str i ∧ vs = [.str j] ∧ Builtin.Str.occurrences i j 0 i.length 1 = n :: r ∧ Q (.int (n : Nat)) H) := by
  intro pins s σ H x xs v us Q I rx rs h
  obtain ⟨i, j, n, r, rfl, rfl, ho, q⟩ := h
  obtain ⟨t, rfl⟩ := rx
  obtain ⟨u, rfl, t', rfl⟩ := vals1 rs
  exact SC.index ho ⟨.int _, H, I.tok _, ⟨_, rfl⟩, q⟩
theorem vals_strs : ∀ {zs : List Str} {us : List Value}, Vals (zs.map V.str) us → ∃ l : List (Str × Tok), us = strValues l ∧ l.map (·.1) = zs
  | [], us, r => by cases r; exact ⟨[], rfl, rfl⟩
  | z :: zs, us, r => by
    cases r with
    | cons r1 r2 =>
      obtain ⟨t, rfl⟩ := r1
      obtain ⟨l, rfl, rfl⟩ := vals_strs r2
      exact ⟨(z, t) :: l, rfl, rfl⟩
theorem mt_joi : MtR X "str.join" (fun x vs H Q => ∃ i a zs, x = .str i ∧ vs = [.ref a] ∧ SqL X.K H a (zs.map V.str) ∧ JoinOk i zs = true ∧ Q (.str (Txt.join i zs)) H) := by
  intro pins s σ H x xs v us Q I rx rs h
  obtain ⟨i, a, zs, rfl, rfl, hq, hj, q⟩ := h
  obtain ⟨t, rfl⟩ := rx
  obtain ⟨u, rfl, rx⟩ := vals1 rs
  cases rx
  obtain ⟨its, r', pl, hz⟩ := I.list hq
  obtain ⟨l, rfl, hl⟩ := vals_strs r'
  exact SC.join pl.isList hl hj fun t' k => ⟨.str _, H, I.tok _, ⟨_, rfl⟩, q⟩
theorem sh_gStaS (t1 t2 : T) (C : Sto) (p : T × Sto) (e : gStaS t1 t2 C = some p) : ∃ z, t1 = .str z := by
  unfold gStaS at e
  split at e
  · exact ⟨_, rfl⟩
  · cases e
theorem sh_gFndS (t1 t2 : T) (C : Sto) (p : T × Sto) (e : gFndS t1 t2 C = some p) : ∃ z, t1 = .str z := by
  unfold gFndS at e
  split at e
  · exact ⟨_, rfl⟩
  · cases e
theorem sh_gJoiS (t1 t2 : T) (C : Sto) (p : T × Sto) (e : gJoiS t1 t2 C = some p) : ∃ z, t1 = .str z := by
  unfold gJoiS at e
  split at e
  · exact ⟨_, rfl⟩
  · cases e
section
variable {apos cpos : Pos}
theorem q_staS (ho : QE X a fa) (hb : QE X b fb) (hbase : attributeBase a "startswith" X.env (eval a X.env) = eval a X.env := by rfl)
    (hfew : ((backTo cpos (starEach [b] X.env)).all (fun x => !x.1) && (backToKw cpos (keywordEach [] X.env)).all (fun x => x.1.isSome)
      && decide (([b] : List Expr).length + ([] : List Keyword).length + (if ([] : List Keyword).isEmpty then 0 else 1) < 30)) = true := by rfl)
    (hline : (apos.endLine == cpos.line) = true := by rfl) (hst : starEach [b] X.env = (false, eval b X.env) :: starEach [] X.env := by rfl) (hplain : (backTo cpos (starEach [] X.env)).any (·.1) = false := by rfl) :
    QE X (.Call (.Attribute a "startswith" apos) [b] [] cpos) (fBin fa fb gStaS) :=
  (pe_bm PySem.F.plainAttrs_str PySem.F.slot_str_startswith PySem.F.type_str_startswith mt_sta ho (pa_cons hb pa_nil hst) hbase hfew hline hst hplain).imp fun _ _ _ => i_mtS sh_gStaS fun _ _ _ _ _ => o_staS
theorem q_fndS (ho : QE X a fa) (hb : QE X b fb) (hbase : attributeBase a "index" X.env (eval a X.env) = eval a X.env := by rfl)
    (hfew : ((backTo cpos (starEach [b] X.env)).all (fun x => !x.1) && (backToKw cpos (keywordEach [] X.env)).all (fun x => x.1.isSome)
      && decide (([b] : List Expr).length + ([] : List Keyword).length + (if ([] : List Keyword).isEmpty then 0 else 1) < 30)) = true := by rfl)
    (hline : (apos.endLine == cpos.line) = true := by rfl) (hst : starEach [b] X.env = (false, eval b X.env) :: starEach [] X.env := by rfl) (hplain : (backTo cpos (starEach [] X.env)).any (·.1) = false := by rfl) :
    QE X (.Call (.Attribute a "index" apos) [b] [] cpos) (fBin fa fb gFndS) :=
  (pe_bm PySem.F.plainAttrs_str PySem.F.slot_str_index PySem.F.type_str_index mt_fnd ho (pa_cons hb pa_nil hst) hbase hfew hline hst hplain).imp fun _ _ _ => i_mtS sh_gFndS fun _ _ _ _ _ => o_fndS
theorem q_joiS (ho : QE X a fa) (hb : QE X b fb) (hbase : attributeBase a "join" X.env (eval a X.env) = eval a X.env := by rfl)
    (hfew : ((backTo cpos (starEach [b] X.env)).all (fun x => !x.1) && (backToKw cpos (keywordEach [] X.env)).all (fun x => x.1.isSome)
      && decide (([b] : List Expr).length + ([] : List Keyword).length + (if ([] : List Keyword).isEmpty then 0 else 1) < 30)) = true := by rfl)
    (hline : (apos.endLine == cpos.line) = true := by rfl) (hst : starEach [b] X.env = (false, eval b X.env) :: starEach [] X.env := by rfl) (hplain : (backTo cpos (starEach [] X.env)).any (·.1) = false := by rfl) :
    QE X (.Call (.Attribute a "join" apos) [b] [] cpos) (fBin fa fb gJoiS) :=
  (pe_bm PySem.F.plainAttrs_str PySem.F.slot_str_join PySem.F.type_str_join mt_joi ho (pa_cons hb pa_nil hst) hbase hfew hline hst hplain).imp fun _ _ _ => i_mtS sh_gJoiS fun _ _ _ _ _ => o_joiS
end
/-! ### a text's signs -/
theorem turn_str {P : Program} {w : World} {K : PySem.W.Frag} {tg : Expr} {n : String} {it : Addr} {z : Str} {t : Tok}
    (hn : ["enumerate", "zip", "dict_itemiterator", "dict_reverseitemiterator", "odict_iterator", "itertools.zip_longest", "itertools.pairwise"].contains n = false)
    (hW : ∀ A : Around, A.handled = none → Walks P w A it [it] [it] z.cps.size (SignAt z) (fun i h => h.IsStrIter it n z t i))
    (hS : ∀ (A : Around) (i : Nat) (s : Shared) (Q : Value → Shared → Prop) (E : Value → Shared → Prop), s.heap.IsStrIter it n z t i → Q (.ref it) s → wpAny (model P w) A (pyIter (.ref it)) Q E s) :
    Turn P w K tg (Its z) [it] it (fun i h => h.IsStrIter it n z t i) where
  mem := by simp
  obj := fun i h st b hb => by
    have e : b = it := by simpa using hb
    subst e
    obtain ⟨o, e, c, d⟩ := st
    exact ⟨o, e, fun v z => by rw [d] at z; cases z⟩
  keep := fun i h h' st k => by
    obtain ⟨o, e, r⟩ := st
    exact ⟨o, k it (by simp) o e, r⟩
  item := by
    intro X hP hw hK hc i pins s σ H E I hf st hg
    subst hP hw hK
    obtain ⟨f0, f1, f2, f3, f4, f5⟩ := hf it (by simp)
    refine (hW X.A (I.ok.hd hc)).item i s _ _ hg st fun v h' tk hv st' kk => ?_
    obtain ⟨c, t1, hx, rfl⟩ := hv
    have I1 : Inv X pins σ H { s with heap := h', toks := tk } := I.turned (fun b o hb e => kk b o (by simpa using hb) e) f0 f1 f3 f4 f5
    obtain ⟨o, e, cl, d⟩ := id st'
    exact ⟨_, rfl, go_of (s := { s with heap := h', toks := tk }) e cl d hn ⟨.str ⟨#[c]⟩, H, I1, ⟨t1, rfl⟩, ⟨rfl, c, hx, rfl⟩, st', fun b hb => (hf b hb).1⟩⟩
  done := by
    intro X hP hw hK hc i pins s σ H E I hf st hg
    subst hP hw hK
    have hg' : i = z.cps.size := hg
    subst hg'
    obtain ⟨f0, f1, f2, f3, f4, f5⟩ := hf it (by simp)
    exact (hW X.A (I.ok.hd hc)).done s _ _ st fun h' tk kk => ⟨rfl, I.turned (fun b o hb e => kk b o (by simpa using hb) e) f0 f1 f3 f4 f5⟩
  self := fun A i s Q E st h => hS A i s Q E st h
theorem pi_str {tg l : Expr} {tl : TE} (hl : PE X l tl) : PI X tg l (iStr tl) := by
  intro pins s σ H R I h
  refine thn (hl pins s σ H _ I h) fun v s1 ⟨x, H1, I1, r1, q1⟩ => ?_
  obtain ⟨z, e, q⟩ := q1
  subst e
  obtain ⟨t, rfl⟩ := r1
  cases ha : z.cps.all (· < 128)
  · refine wpAny_pyIter_wide ha ⟨s1.heap.objs.size, [s1.heap.objs.size], _, _, H1, rfl, I1.kept (t' := s1.toks) fun b o e => Heap.get?_push_of_some _ e, turn_str (n := "str_iterator") (z := z) (t := t) (by decide) (fun A hA => Walks.strWide hA _ z t) (fun A i s Q E st h => wpAny_pyIter_striter_wide st h), ⟨_, Heap.get?_push_size _ rfl, rfl, rfl⟩, fun b hb => ?_, q⟩
    have e : b = s1.heap.objs.size := by simpa using hb
    subst e
    exact I1.fpOk (Nat.le_refl _) (I1.hok.fresh (Nat.le_refl _))
  · refine wpAny_pyIter_ascii ha ⟨s1.heap.objs.size, [s1.heap.objs.size], _, _, H1, rfl, I1.kept (t' := s1.toks) fun b o e => Heap.get?_push_of_some _ e, turn_str (n := "str_ascii_iterator") (z := z) (t := t) (by decide) (fun A hA => Walks.strAscii hA _ z t) (fun A i s Q E st h => wpAny_pyIter_striter_ascii st h), ⟨_, Heap.get?_push_size _ rfl, rfl, rfl⟩, fun b hb => ?_, q⟩
    have e : b = s1.heap.objs.size := by simpa using hb
    subst e
    exact I1.fpOk (Nat.le_refl _) (I1.hok.fresh (Nat.le_refl _))
theorem qs_forS {tg iter : Expr} {sts : List Stmt} {g : FG} {F : FS} (hc : X.calm = true) (hi : QE X iter fa) (hg : QG X tg g) (hb : QSs X sts F) (hp : PassesOwn (model X.prog X.w) X.A X.env X.xe := by first | exact PassesOwn.never | exact PassesOwn.leaving | exact PassesOwn.looking) (hs : ∀ x, foldedSetIterable iter X.env x = pure x := by intro _; rfl) : QS X (.For tg iter sts [] pos) (fForS fa g F) :=
  (ps_for hp hc (pi_str hi) hg hb hs).imp fun _ _ _ => s_forS
section
variable {own frs : List Str} {is : List Nat} {scope : Scope} {cl : List (Str × Addr)} {tg iter elt : Expr} {ifs : List Expr} {fi fe : FE} {g : FG} {gt : FB}
theorem n_compS (hc : X.calm = true) (k : CompOk X own frs is scope cl) (hi : QE X iter fi) (ho : Own own.length g) (hg : ∀ C s3 H3 fp, QG (compCx X (own ++ frs) scope cl C s3 H3 fp) tg g) (ht : ∀ C s3 H3 fp, QTs (compCx X (own ++ frs) scope cl C s3 H3 fp) ifs gt)
    (he : ∀ C s3 H3 fp, QE (compCx X (own ++ frs) scope cl C s3 H3 fp) elt fe) (hs : ∀ x, foldedSetIterable iter X.env x = pure x := by intro _; rfl) : QN X (.ListComp elt [⟨tg, iter, ifs, 0⟩] scope pos) (fCompS fi own.length is g gt fe) :=
  (pe_comp hc k (pi_str hi) hg ht he hs).imp fun _ _ _ => i_compS ho
end
end
end TL
/-! BLib -/
set_option linter.all false
set_option maxRecDepth 100000
namespace Lib
open PySem L2 TL
/-! mix1(_law_number, _law_k): 0 _law_number, 1 _law_k -/
noncomputable def B_mix1 : FS :=
  (fRet (fMod (fMul (fAdd (fAdd (fMul (fVar 0) (fVar 0)) (fMul (fVar 1) (fVar 0))) (fMul (fMul (fC (.int 7)) (fVar 1)) (fVar 1))) (fC (.int 1103515245))) (fC (.int 2147483629))))
noncomputable def R_mix1 : List T → Option T := runT B_mix1 2
/-! cell_at(_law_script, _law_k): 0 _law_script, 1 _law_k -/
/-! is_work(many, number): 0 many, 1 number -/
/-! is_way(many, needs, some): 0 many, 1 needs, 2 some -/
/-! mix2(_law_number, _law_k): 0 _law_number, 1 _law_k, 2 _law_mixed -/
/-! whole(_law_found): 0 _law_found -/
/-! needed_works(many, needs): 0 many, 1 needs, 2 needed, 3 first, 4 second -/
/-! least_ready(needed, told): 0 needed, 1 told, 2 work -/
/-! order_of(many, needs): 0 many, 1 needs, 2 needed, 3 order -/
/-! done_moments(begins, hours): 0 begins, 1 hours -/
/-! earliest(hours, needs): 0 hours, 1 needs, 2 order, 3 needed, 4 begins, 5 work -/
/-! length(hours, needs): 0 hours, 1 needs -/
/-! ranks2(_law_script, _law_many): 0 _law_script, 1 _law_many, 2 _law_left, 3 _law_ranks_here, 4 _law_k, 5 _law_digit -/
/-! needs2(_law_script, _law_ranks_here): 0 _law_script, 1 _law_ranks_here, 2 _law_needs_here, 3 _law_many, 4 _law_other, 5 _law_left, 6 _law_one, 7 _law_bit, 8 _law_cell -/
/-! hours2(_law_script, _law_many): 0 _law_script, 1 _law_many, 2 _law_cell, 3 _law_unit, 4 _law_hours_here, 5 _law_k, 6 _law_at -/
/-! holding_up(candidates, done, moment): 0 candidates, 1 done, 2 moment -/
/-! longest(hours, needs): 0 hours, 1 needs, 2 begins, 3 needed, 4 done, 5 way -/
/-! done_at(row): 0 row -/
/-! row_fits(work, row, end): 0 work, 1 row, 2 end -/
/-! keeps(works, needs, end, plan): 0 works, 1 needs, 2 end, 3 plan -/
/-! needed_worksX(many, needs): 0 many, 1 needs, 2 needed, 3 first, 4 second -/
/-! least_readyX(needed, told): 0 needed, 1 told, 2 work -/
/-! order_ofX(many, needs): 0 many, 1 needs, 2 needed, 3 order -/
/-! earliestX(hours, needs): 0 hours, 1 needs, 2 order, 3 needed, 4 begins, 5 work -/
/-! lengthX(hours, needs): 0 hours, 1 needs -/
/-! latestX(hours, needs, end): 0 hours, 1 needs, 2 end, 3 order, 4 needed, 5 limits, 6 begins, 7 work, 8 first -/
/-! spareX(hours, needs, end): 0 hours, 1 needs, 2 end, 3 late_begins, 4 early_begins -/
/-! longestX(hours, needs): 0 hours, 1 needs, 2 begins, 3 needed, 4 done, 5 way -/
/-! needs2N(_law_script, _law_ranks_here): 0 _law_script, 1 _law_ranks_here, 2 _law_needs_here, 3 _law_many, 4 _law_other, 5 _law_left, 6 _law_one, 7 _law_bit, 8 _law_cell -/
/-! through(many, rows): 0 many, 1 rows, 2 amounts, 3 row, 4 work -/
/-! is_part(many, needs, row): 0 many, 1 needs, 2 row -/
/-! is_stream(many, needs, rows): 0 many, 1 needs, 2 rows -/
/-! work_worth(work, amount): 0 work, 1 amount -/
/-! worth(works, rows, end): 0 works, 1 rows, 2 end, 3 amounts, 4 gained -/
/-! price_of(works, plan): 0 works, 1 plan -/
/-! keepsX(works, needs, end, plan): 0 works, 1 needs, 2 end, 3 plan -/
/-! is_streamX(many, needs, rows): 0 many, 1 needs, 2 rows -/
/-! mixedL(_law_cell, _law_k): 0 _law_cell, 1 _law_k, 2 _law_number -/
/-! numbersL(_law_cells): 0 _law_cells, 1 _law_numbers_here, 2 _law_k, 3 _law_at -/
/-! namesL(_law_cell, _law_many): 0 _law_cell, 1 _law_many, 2 _law_points, 3 _law_k -/
/-! lot_free(_law_cells, _law_many, _law_unit): 0 _law_cells, 1 _law_many, 2 _law_unit, 3 _law_base, 4 _law_works, 5 _law_k, 6 _law_left, 7 _law_least, 8 _law_more, 9 _law_order, 10 _law_needs, 11 _law_a -/
/-! workL(_law_one, _law_two, _law_three, _law_mode, _law_unit): 0 _law_one, 1 _law_two, 2 _law_three, 3 _law_mode, 4 _law_unit, 5 _law_least, 6 _law_more, 7 _law_price -/
/-! lot(_law_cells, _law_most, _law_unit): 0 _law_cells, 1 _law_most, 2 _law_unit, 3 _law_numbers_here, 4 _law_first, 5 _law_few, 6 _law_many, 7 _law_cell, 8 _law_works, 9 _law_names_here, 10 _law_needs, 11 _law_k, 12 _law_b, 13 _law_back, 14 _law_a -/
/-! least_hours(works): 0 works -/
/-! free_hours(work): 0 work -/
/-! least_end(works, needs): 0 works, 1 needs -/
/-! free_end(works, needs): 0 works, 1 needs -/
/-! lengthL(_law_hours, _law_needs): 0 _law_hours, 1 _law_needs, 2 _law_begins, 3 _law_k, 4 _law_a, 5 _law_b -/
/-! endsL(_law_works, _law_needs): 0 _law_works, 1 _law_needs, 2 _law_least -/
/-! bentL(_law_needs, _law_many, _law_script): 0 _law_needs, 1 _law_many, 2 _law_script, 3 _law_number, 4 _law_far, 5 _law_one, 6 _law_ahead, 7 _law_k, 8 _law_bad, 9 _law_pair, 10 _law_at -/
/-! least_endX(works, needs): 0 works, 1 needs -/
/-! free_endX(works, needs): 0 works, 1 needs -/
/-! plan_atX(works, needs, end): 0 works, 1 needs, 2 end, 3 moments -/
/-! stream_atX(works, needs, end): 0 works, 1 needs, 2 end -/
/-! too_longX(works, needs, end): 0 works, 1 needs, 2 end -/
/-! cornersX(works, needs): 0 works, 1 needs, 2 last, 3 end, 4 price, 5 found, 6 net, 7 sooner -/
/-! price_atX(works, needs, end): 0 works, 1 needs, 2 end -/
/-! step_atX(works, needs, end): 0 works, 1 needs, 2 end -/
end Lib
/-! BK61 -/
set_option linter.all false
set_option maxRecDepth 100000
namespace K61
open PySem L2 TL Lib
def xtab (c : String) : List String := if c = "NoText" then ["NoText", "BookError", "ValueError"] else []
theorem xtab_dom (c : String) (h : xtab c ≠ []) : c ∈ ["NoText"] := by
  unfold xtab at h
  repeat (split at h; · subst c; decide)
  exact absurd rfl h
/-! l_text(_law_cell): 0 _law_cell, 1 _law_text_here, 2 _law_choice, 3 _law_at, 4 _law_sign -/
noncomputable def B_l_text : FS :=
  (fSeq (fAsg (fStrI (fCons (fMod (fFdv (fVar 0) (fC (.int 3))) (fIx (fTree (fDisp (fCons (fPow (fC (.int 10)) (fC (.int 2))) (fCons (fPow (fC (.int 10)) (fC (.int 30))) (fCons (fPow (fC (.int 10)) (fC (.int 31))) fNil))))) (fMod (fVar 0) (fC (.int 3))))) fNil)) (gN 1))
    (fSeq (fAsg (fMod (fCall 2 R_mix1 (fCons (fVar 0) (fCons (fC (.int 1)) fNil))) (fC (.int 9))) (gN 2))
    (fSeq (fAsg (fMod (fCall 2 R_mix1 (fCons (fVar 0) (fCons (fC (.int 2)) fNil))) (fLenS (fCons (fVar 1) fNil))) (gN 3))
    (fSeq (fAsg (fBin (fC (.str "0123456789-+ _.x")) (fMod (fCall 2 R_mix1 (fCons (fVar 0) (fCons (fC (.int 3)) fNil))) (fC (.int 16))) gIxS) (gN 4))
    (fSeq (fIf (fTst (fEq (fVar 2) (fC (.int 0)))) (fRet (fBin (fSlS (fVar 1) fNoPart (fPart (fVar 3))) (fSlS (fVar 1) (fPart (fAdd (fVar 3) (fC (.int 1)))) fNoPart) gAddS)) fNext)
    (fSeq (fIf (fTst (fEq (fVar 2) (fC (.int 1)))) (fRet (fBin (fBin (fSlS (fVar 1) fNoPart (fPart (fVar 3))) (fBin (fVar 1) (fVar 3) gIxS) gAddS) (fSlS (fVar 1) (fPart (fVar 3)) fNoPart) gAddS)) fNext)
    (fSeq (fIf (fTst (fEq (fVar 2) (fC (.int 2)))) (fRet (fBin (fBin (fSlS (fVar 1) fNoPart (fPart (fVar 3))) (fVar 4) gAddS) (fSlS (fVar 1) (fPart (fVar 3)) fNoPart) gAddS)) fNext)
    (fSeq (fIf (fTst (fEq (fVar 2) (fC (.int 3)))) (fRet (fBin (fBin (fSlS (fVar 1) fNoPart (fPart (fVar 3))) (fVar 4) gAddS) (fSlS (fVar 1) (fPart (fAdd (fVar 3) (fC (.int 1)))) fNoPart) gAddS)) fNext)
    (fSeq (fIf (fTst (fEq (fVar 2) (fC (.int 4)))) (fRet (fBin (fVar 1) (fVar 4) gAddS)) fNext)
    (fSeq (fIf (fTst (fEq (fVar 2) (fC (.int 5)))) (fRet (fBin (fC (.str "0")) (fAdd (fC (.int 1)) (fMod (fVar 0) (fC (.int 3)))) gMulS)) fNext)
    (fRet (fVar 1))))))))))))
noncomputable def R_l_text : List T → Option T := runT B_l_text 5
/-! l_word(_law_cell): 0 _law_cell, 1 _law_letters, 2 _law_word_here, 3 _law_at -/
noncomputable def B_l_word : FS :=
  (fSeq (fAsg (fC (.str "abcdefghijklmnopqrstuvwxyz")) (gN 1))
    (fSeq (fAsg (fBin (fC (.str "")) (fTree (fCompR1 (fMod (fCall 2 R_mix1 (fCons (fVar 0) (fCons (fC (.int 5)) fNil))) (fC (.int 10))) 1 [1, 0] (gN 0) fTrueT (fBin (fVar 1) (fMod (fCall 2 R_mix1 (fCons (fAdd (fVar 2) (fMul (fVar 0) (fVar 0))) (fCons (fC (.int 4)) fNil))) (fC (.int 26))) gIxS))) gJoiS) (gN 2))
    (fSeq (fIf (fTst (fEq (fMod (fCall 2 R_mix1 (fCons (fVar 0) (fCons (fC (.int 6)) fNil))) (fC (.int 3))) (fC (.int 0)))) (fSeq (fAsg (fMod (fCall 2 R_mix1 (fCons (fVar 0) (fCons (fC (.int 7)) fNil))) (fAdd (fLenS (fCons (fVar 2) fNil)) (fC (.int 1)))) (gN 3))
    (fAsg (fBin (fBin (fSlS (fVar 2) fNoPart (fPart (fVar 3))) (fBin (fC (.str "AZ09 -_")) (fMod (fCall 2 R_mix1 (fCons (fVar 0) (fCons (fC (.int 8)) fNil))) (fC (.int 7))) gIxS) gAddS) (fSlS (fVar 2) (fPart (fAdd (fVar 3) (fC (.int 1)))) fNoPart) gAddS) (gN 2))) fNext)
    (fRet (fVar 2)))))
noncomputable def R_l_word : List T → Option T := runT B_l_word 4
/-! is_made_of(signs, most, text): 0 signs, 1 most, 2 text -/
noncomputable def B_is_made_of : FS :=
  (fRet (fAndV (fLeLe (fC (.int 1)) (fLenS (fCons (fVar 2) fNil)) (fVar 1)) (fAll (fCons (fTree (fCompS (fVar 2) 1 [0] (gN 0) fTrueT (fBin (fVar 0) (fVar 1) gInS))) fNil))))
noncomputable def R_is_made_of : List T → Option T := runT B_is_made_of 3
/-! is_name(text): 0 text -/
noncomputable def B_is_name : FS :=
  (fRet (fCall 3 R_is_made_of (fCons (fC (.str "abcdefghijklmnopqrstuvwxyz")) (fCons (fC (.int 8)) (fCons (fVar 0) fNil)))))
noncomputable def R_is_name : List T → Option T := runT B_is_name 1
/-! l_all_in(_law_text_here, _law_signs): 0 _law_text_here, 1 _law_signs, 2 _law_sign -/
noncomputable def L_l_all_in_1 : FS :=
  (fIf (fTst (fBin (fVar 2) (fVar 1) gNinS)) (fRet (fC (.bl false))) fNext)
noncomputable def B_l_all_in : FS :=
  (fSeq (fForS (fVar 0) (gN 2)
      L_l_all_in_1)
    (fRet (fC (.bl true))))
noncomputable def R_l_all_in : List T → Option T := runT B_l_all_in 3
/-! is_count(text): 0 text -/
noncomputable def B_is_count : FS :=
  (fSeq (fIf (fAndT (fTru (fBin (fVar 0) (fC (.str "0")) gStaS)) (fTst (fNe (fVar 0) (fC (.str "0"))))) (fRet (fC (.bl false))) fNext)
    (fRet (fCall 3 R_is_made_of (fCons (fC (.str "0123456789")) (fCons (fC (.int 30)) (fCons (fVar 0) fNil))))))
noncomputable def R_is_count : List T → Option T := runT B_is_count 1
/-! read_countX(text): 0 text -/
noncomputable def B_read_countX : FS :=
  (fSeq (fIf (fNotT (fTru (fCall 1 R_is_count (fCons (fVar 0) fNil)))) (fRaise "NoText" (fCons (fC (.str "that is no text of a number")) fNil)) fNext)
    (fRet (fIntS (fCons (fVar 0) fNil))))
noncomputable def R_read_countX : List T → Option T := runT B_read_countX 1
noncomputable def RX_read_countX : List T → Option String := runX B_read_countX 1
/-! l_refused(_law_text_here): 0 _law_text_here, 1 _law_caught, 2 e -/
noncomputable def B_l_refused : FS :=
  (fSeq (fAsg (fC .non) (gN 1))
    (fSeq (fTry xtab "BookError" 2 (fX (xCall 1 RX_read_countX (fCons (fVar 0) fNil)) (fDrop (fCall 1 R_read_countX (fCons (fVar 0) fNil)))) (fAsg (fVar 2) (gN 1)))
    (fSeq (fIf (fOrT (fTru (fIsx xtab ["NoOrder", "NoRoom"] (fVar 1))) (fTru (fIsx xtab ["NoRow", "NoName"] (fVar 1)))) (fRet (fC (.bl false))) fNext)
    (fRet (fAndV (fIsx xtab ["NoText"] (fVar 1)) (fIsx xtab ["ValueError"] (fVar 1)))))))
noncomputable def R_l_refused : List T → Option T := runT B_l_refused 3
/-! law(_law_script): 0 _law_script, 1 _law_cell, 2 _law_text_here, 3 _law_right, 4 _law_found, 5 _law_due, 6 _law_sign, 7 _law_word_here -/
noncomputable def L_law_1 : FS :=
  (fAsg (fAdd (fMul (fC (.int 10)) (fVar 5)) (fBin (fC (.str "0123456789")) (fVar 6) gFndS)) (gN 5))
noncomputable def L_law_2 : FS :=
  (fSeq (fAsg (fCall 1 R_l_text (fCons (fVar 1) fNil)) (gN 2))
    (fSeq (fAsg (fAndV (fCall 2 R_l_all_in (fCons (fVar 2) (fCons (fC (.str "0123456789")) fNil))) (fAndV (fGt (fLenS (fCons (fVar 2) fNil)) (fC (.int 0))) (fLt (fLenS (fCons (fVar 2) fNil)) (fC (.int 31))))) (gN 3))
    (fSeq (fIf (fAndT (fTru (fVar 3)) (fOrT (fTst (fEq (fVar 2) (fC (.str "0")))) (fTst (fNe (fBin (fVar 2) (fC (.int 0)) gIxS) (fC (.str "0")))))) (fSeq (fAsg (fCall 1 R_read_countX (fCons (fVar 2) fNil)) (gN 4))
    (fSeq (fAsg (fC (.int 0)) (gN 5))
    (fSeq (fForS (fVar 2) (gN 6)
      L_law_1)
    (fIf (fOrT (fNotT (fTru (fIsi "int" (fVar 4)))) (fOrT (fTru (fIsi "bool" (fVar 4))) (fTst (fNe (fVar 4) (fVar 5))))) (fRet (fC (.bl false))) fNext)))) (fIf (fNotT (fTru (fCall 1 R_l_refused (fCons (fVar 2) fNil)))) (fRet (fC (.bl false))) fNext))
    (fSeq (fAsg (fCall 1 R_l_word (fCons (fVar 1) fNil)) (gN 7))
    (fSeq (fAsg (fCall 1 R_is_name (fCons (fVar 7) fNil)) (gN 4))
    (fSeq (fAsg (fAndV (fGt (fLenS (fCons (fVar 7) fNil)) (fC (.int 0))) (fAndV (fLt (fLenS (fCons (fVar 7) fNil)) (fC (.int 9))) (fCall 2 R_l_all_in (fCons (fVar 7) (fCons (fC (.str "abcdefghijklmnopqrstuvwxyz")) fNil))))) (gN 5))
    (fIf (fOrT (fNotT (fTru (fIsi "bool" (fVar 4)))) (fTst (fNe (fVar 4) (fVar 5)))) (fRet (fC (.bl false))) fNext)))))))
noncomputable def B_law : FS :=
  (fSeq (fFor (fTree (fCat (fTree (fDisp (fCons (fC (.int 4)) fNil))) (fTree (fSl (fVar 0) fNoPart (fPart (fC (.int 63))))))) (gN 1)
      L_law_2)
    (fRet (fC (.bl true))))
noncomputable def R_law : List T → Option T := runT B_law 8
end K61
/-! TreeP -/
set_option linter.all false
namespace TL
open PySem L2

/-! ## the pure side: what the bodies make -/
section
variable {τ : TSt} {C : Sto} {a b c f fe fo fi : FE} {fa fr fn : FN} {fb ga gb : FB} {F G : FS}

def wpE (f : FE) (τ : TSt) (C : Sto) (Q : T → Sto → Prop) : Prop := ∃ t C', f τ C = some (t, C') ∧ Q t C'
def wpA (f : FN) (τ : TSt) (C : Sto) (Q : List T → Sto → Prop) : Prop := ∃ t C', f τ C = some (t, C') ∧ Q t C'
def wpB (f : FB) (τ : TSt) (C : Sto) (Q : Bool → Sto → Prop) : Prop := ∃ t C', f τ C = some (t, C') ∧ Q t C'
def wpS (F : FS) (τ : TSt) (C : Sto) (Q : Fl → TSt → Sto → Prop) : Prop := ∃ l t C', F τ C = some (l, t, C') ∧ Q l t C'
def wpO (o : Option (T × Sto)) (Q : T → Sto → Prop) : Prop := ∃ t C', o = some (t, C') ∧ Q t C'
def wpL (o : Option (List T)) (Q : List T → Prop) : Prop := ∃ t, o = some t ∧ Q t
def wpC (o : Option (List T × Sto)) (Q : List T → Sto → Prop) : Prop := ∃ t C', o = some (t, C') ∧ Q t C'
def wpG (g : FG) (t : T) (C : Sto) (τ : TSt) (Q : TSt → Prop) : Prop := ∃ τ', g t C τ = some τ' ∧ Q τ'
def wpR (o : Option T) (Q : T → Prop) : Prop := ∃ t, o = some t ∧ Q t

variable {Q : T → Sto → Prop} {QL : List T → Sto → Prop} {QB : Bool → Sto → Prop} {QS : Fl → TSt → Sto → Prop} {QG : TSt → Prop} {Ql : List T → Prop}

theorem wpE_var {i : Nat} : wpE (fVar i) τ C Q ↔ ∃ t, τ[i]? = some (some t) ∧ Q t C := by
  unfold wpE fVar
  constructor
  · rintro ⟨t, C', e, q⟩
    split at e
    · rename_i t' h; cases e; exact ⟨_, h, q⟩
    · cases e
  · rintro ⟨t, e, q⟩
    exact ⟨t, C, by rw [e], q⟩
theorem wpE_C {t : T} : wpE (fC t) τ C Q ↔ Q t C := by
  unfold wpE fC
  constructor
  · rintro ⟨_, _, e, q⟩; cases e; exact q
  · exact fun q => ⟨_, _, rfl, q⟩
theorem wpE_bin {g : T → T → Sto → Option (T × Sto)} : wpE (fBin a b g) τ C Q ↔ wpE a τ C fun x C1 => wpE b τ C1 fun y C2 => wpO (g x y C2) Q := by
  unfold wpE fBin wpO
  constructor
  · rintro ⟨t, C', e, q⟩
    obtain ⟨⟨x, C1⟩, e1, e⟩ := Option.bind_eq_some_iff.mp e
    obtain ⟨⟨y, C2⟩, e2, e⟩ := Option.bind_eq_some_iff.mp e
    exact ⟨x, C1, e1, y, C2, e2, t, C', e, q⟩
  · rintro ⟨x, C1, e1, y, C2, e2, t, C', e, q⟩
    exact ⟨t, C', by simp [e1, e2, e], q⟩
theorem wpE_un {g : T → Sto → Option (T × Sto)} : wpE (fUn a g) τ C Q ↔ wpE a τ C fun x C1 => wpO (g x C1) Q := by
  unfold wpE fUn wpO
  constructor
  · rintro ⟨t, C', e, q⟩
    obtain ⟨⟨x, C1⟩, e1, e⟩ := Option.bind_eq_some_iff.mp e
    exact ⟨x, C1, e1, t, C', e, q⟩
  · rintro ⟨x, C1, e1, t, C', e, q⟩
    exact ⟨t, C', by simp [e1, e], q⟩
theorem wpA_binN {g : T → T → Sto → Option (List T)} : wpA (fBinN a b g) τ C QL ↔ wpE a τ C fun x C1 => wpE b τ C1 fun y C2 => wpL (g x y C2) fun us => QL us C2 := by
  unfold wpA wpE fBinN wpL
  constructor
  · rintro ⟨t, C', e, q⟩
    obtain ⟨⟨x, C1⟩, e1, e⟩ := Option.bind_eq_some_iff.mp e
    obtain ⟨⟨y, C2⟩, e2, e⟩ := Option.bind_eq_some_iff.mp e
    obtain ⟨us, e3, e⟩ := Option.map_eq_some_iff.mp e
    cases e
    exact ⟨x, C1, e1, y, _, e2, _, e3, q⟩
  · rintro ⟨x, C1, e1, y, C2, e2, t, e, q⟩
    exact ⟨t, C2, by simp [e1, e2, e], q⟩
theorem wpA_nil : wpA fNil τ C QL ↔ QL [] C := by
  unfold wpA fNil
  constructor
  · rintro ⟨_, _, e, q⟩; cases e; exact q
  · exact fun q => ⟨_, _, rfl, q⟩
theorem wpA_cons : wpA (fCons a fr) τ C QL ↔ wpE a τ C fun x C1 => wpA fr τ C1 fun xs C2 => QL (x :: xs) C2 := by
  unfold wpA wpE fCons
  constructor
  · rintro ⟨t, C', e, q⟩
    obtain ⟨⟨x, C1⟩, e1, e⟩ := Option.bind_eq_some_iff.mp e
    obtain ⟨⟨y, C2⟩, e2, e⟩ := Option.map_eq_some_iff.mp e
    cases e
    exact ⟨x, C1, e1, y, _, e2, q⟩
  · rintro ⟨x, C1, e1, y, C2, e2, q⟩
    exact ⟨_, C2, by simp [e1, e2], q⟩
theorem wpE_arg {g : List T → Sto → Option (T × Sto)} : wpE (fArg fa g) τ C Q ↔ wpA fa τ C fun xs C1 => wpO (g xs C1) Q := by
  unfold wpE wpA fArg wpO
  constructor
  · rintro ⟨t, C', e, q⟩
    obtain ⟨⟨x, C1⟩, e1, e⟩ := Option.bind_eq_some_iff.mp e
    exact ⟨x, C1, e1, t, C', e, q⟩
  · rintro ⟨x, C1, e1, t, C', e, q⟩
    exact ⟨t, C', by simp [e1, e], q⟩
theorem wpA_argN {g : List T → Sto → Option (List T)} : wpA (fArgN fa g) τ C QL ↔ wpA fa τ C fun xs C1 => wpL (g xs C1) fun us => QL us C1 := by
  unfold wpA fArgN wpL
  constructor
  · rintro ⟨t, C', e, q⟩
    obtain ⟨⟨x, C1⟩, e1, e⟩ := Option.bind_eq_some_iff.mp e
    obtain ⟨us, e3, e⟩ := Option.map_eq_some_iff.mp e
    cases e
    exact ⟨x, _, e1, _, e3, q⟩
  · rintro ⟨x, C1, e1, t, e, q⟩
    exact ⟨t, C1, by simp [e1, e], q⟩
theorem wpA_disp : wpA (fDisp fa) τ C QL ↔ wpA fa τ C fun xs C1 => xs.length ≤ lim ∧ QL xs C1 := by
  unfold fDisp
  rw [wpA_argN]
  unfold wpA wpL
  constructor
  · rintro ⟨x, C1, e, t, e2, q⟩
    split at e2
    · cases e2; exact ⟨_, _, e, ‹_›, q⟩
    · cases e2
  · rintro ⟨x, C1, e, h, q⟩
    exact ⟨x, C1, e, x, by rw [if_pos h], q⟩
theorem wpE_tree : wpE (fTree fn) τ C Q ↔ wpA fn τ C fun us C1 => Q (.lst us) C1 := by
  unfold wpE wpA fTree
  constructor
  · rintro ⟨t, C', e, q⟩
    obtain ⟨⟨x, C1⟩, e1, e⟩ := Option.map_eq_some_iff.mp e
    cases e
    exact ⟨x, _, e1, q⟩
  · rintro ⟨x, C1, e1, q⟩
    exact ⟨_, C1, by simp [e1], q⟩
theorem wpE_cell : wpE (fCell fn) τ C Q ↔ wpA fn τ C fun us C1 => Q (.cell C1.length) (C1 ++ [us]) := by
  unfold wpE wpA fCell
  constructor
  · rintro ⟨t, C', e, q⟩
    obtain ⟨⟨x, C1⟩, e1, e⟩ := Option.map_eq_some_iff.mp e
    cases e
    exact ⟨x, _, e1, q⟩
  · rintro ⟨x, C1, e1, q⟩
    exact ⟨_, _, by simp [e1], q⟩
/-! operations -/
theorem wpO_I {g : Int → Int → T} {i j : Int} : wpO (gI g (.int i) (.int j) C) Q ↔ Q (g i j) C := by
  unfold wpO gI
  constructor
  · rintro ⟨_, _, e, q⟩; cases e; exact q
  · exact fun q => ⟨_, _, rfl, q⟩
theorem wpO_if {p : Prop} [Decidable p] {o : Option (T × Sto)} : wpO (if p then o else none) Q ↔ p ∧ wpO o Q := by
  by_cases h : p <;> simp [h, wpO]
theorem wpO_some {t : T} : wpO (some (t, C)) Q ↔ Q t C := by
  unfold wpO
  constructor
  · rintro ⟨_, _, e, q⟩; cases e; exact q
  · exact fun q => ⟨_, _, rfl, q⟩
theorem wpO_Ic {k : Int → Int → Bool} {g : Int → Int → T} {i j : Int} : wpO (gIc k g (.int i) (.int j) C) Q ↔ k i j = true ∧ Q (g i j) C := by
  show wpO (if k i j = true then some (g i j, C) else none) Q ↔ _
  rw [wpO_if, wpO_some]
theorem wpO_ix {t : T} {i : Int} : wpO (gIx t (.int i) C) Q ↔ ∃ ts, sqT C t = some ts ∧ ∃ x, atI ts i = some x ∧ Q x C := by
  unfold wpO gIx
  constructor
  · rintro ⟨t, C', e, q⟩
    obtain ⟨ts, e1, e⟩ := Option.bind_eq_some_iff.mp e
    obtain ⟨x, e2, e⟩ := Option.map_eq_some_iff.mp e
    cases e
    exact ⟨ts, e1, _, e2, q⟩
  · rintro ⟨ts, e1, x, e2, q⟩
    exact ⟨_, C, by simp [e1, e2], q⟩
theorem wpO_len {t : T} : wpO (gLen [t] C) Q ↔ ∃ ts, sqT C t = some ts ∧ Q (.int ts.length) C := by
  unfold wpO gLen
  constructor
  · rintro ⟨t, C', e, q⟩
    obtain ⟨ts, e1, e⟩ := Option.map_eq_some_iff.mp e
    cases e
    exact ⟨ts, e1, q⟩
  · rintro ⟨ts, e1, q⟩
    exact ⟨_, C, by simp [e1], q⟩
theorem wpL_list {t : T} : wpL (gList [t] C) Ql ↔ ∃ ts, sqT C t = some ts ∧ Ql ts := Iff.rfl
theorem wpL_cat {t u : T} : wpL (gCat t u C) Ql ↔ ∃ ts, liT C t = some ts ∧ ∃ us, liT C u = some us ∧ ts.length + us.length ≤ lim ∧ Ql (ts ++ us) := by
  unfold wpL gCat
  constructor
  · rintro ⟨t, e, q⟩
    obtain ⟨ts, e1, e⟩ := Option.bind_eq_some_iff.mp e
    obtain ⟨us, e2, e⟩ := Option.bind_eq_some_iff.mp e
    split at e
    · cases e; exact ⟨ts, e1, us, e2, ‹_›, q⟩
    · cases e
  · rintro ⟨ts, e1, us, e2, h, q⟩
    exact ⟨_, by simp [e1, e2, h], q⟩
theorem wpO_ints {k : List Int → Bool} {g : List Int → Int} {t : T} : wpO (gInts k g [t] C) Q ↔ ∃ us, liT C t = some us ∧ ∃ ns, ints? us = some ns ∧ k ns = true ∧ Q (.int (g ns)) C := by
  unfold wpO gInts
  constructor
  · rintro ⟨t, C', e, q⟩
    obtain ⟨ts, e1, e⟩ := Option.bind_eq_some_iff.mp e
    obtain ⟨ns, e2, e⟩ := Option.bind_eq_some_iff.mp e
    split at e
    · cases e; exact ⟨ts, e1, ns, e2, ‹_›, q⟩
    · cases e
  · rintro ⟨ts, e1, us, e2, h, q⟩
    exact ⟨_, _, by simp [e1, e2, h], q⟩
theorem wpO_bls {g : List Bool → Bool} {t : T} : wpO (gBls g [t] C) Q ↔ ∃ us, liT C t = some us ∧ ∃ ns, bls? us = some ns ∧ Q (.bl (g ns)) C := by
  unfold wpO gBls
  constructor
  · rintro ⟨t, C', e, q⟩
    obtain ⟨ts, e1, e⟩ := Option.bind_eq_some_iff.mp e
    obtain ⟨ns, e2, e⟩ := Option.map_eq_some_iff.mp e
    cases e; exact ⟨ts, e1, ns, e2, q⟩
  · rintro ⟨ts, e1, us, e2, q⟩
    exact ⟨_, _, by simp [e1, e2], q⟩
theorem wpO_I2 {g : Int → Int → Int} {i j : Int} : wpO (gI2 g [.int i, .int j] C) Q ↔ Q (.int (g i j)) C := wpO_some
theorem wpO_min2 {i j : Int} : wpO (gI2 (fun i j => if j < i then j else i) [.int i, .int j] C) Q ↔ Q (.int (min i j)) C := by
  rw [wpO_I2, show (if j < i then j else i) = min i j by omega]
theorem wpO_max2 {i j : Int} : wpO (gI2 (fun i j => if j > i then j else i) [.int i, .int j] C) Q ↔ Q (.int (max i j)) C := by
  rw [wpO_I2, show (if j > i then j else i) = max i j by omega]
theorem wpO_dm {i j : Int} : wpO (gDm [.int i, .int j] C) Q ↔ (0 < j ∧ j < 1073741824) ∧ Q (.tup [.int (i / j), .int (i % j)]) C := by
  show wpO (if _ then some _ else none) Q ↔ _
  rw [wpO_if, wpO_some]
theorem wpO_int1 {i : Int} : wpO (gInt1 [.int i] C) Q ↔ Q (.int i) C := wpO_some
theorem wpO_int1b {i : Bool} : wpO (gInt1 [.bl i] C) Q ↔ Q (.int (if i then 1 else 0)) C := wpO_some
theorem wpO_neg {i : Int} : wpO (gNeg (.int i) C) Q ↔ Q (.int (-i)) C := wpO_some
theorem wpO_isB {x y : Bool} : wpO (gIsB (.bl x) (.bl y) C) Q ↔ Q (.bl (x == y)) C := wpO_some
theorem wpE_isi {k : String} : wpE (fIsi k a) τ C Q ↔ wpE a τ C fun t C1 => ∃ x, isiT k t = some x ∧ Q (.bl x) C1 := by
  unfold fIsi
  rw [wpE_un]
  unfold wpE wpO
  constructor
  · rintro ⟨t, C', e, t2, C2, e2, q⟩
    obtain ⟨x, e3, e2⟩ := Option.map_eq_some_iff.mp e2
    cases e2
    exact ⟨t, _, e, x, e3, q⟩
  · rintro ⟨t, C', e, x, e2, q⟩
    exact ⟨t, C', e, _, _, by simp [e2], q⟩
theorem wpO_eq {n : Bool} {t u : T} : wpO (gEq n t u C) Q ↔ ∃ x, dr 3 C t = some x ∧ ∃ y, dr 3 C u = some y ∧ ∃ k, eqT 5 x y = some k ∧ Q (.bl (if n then !k else k)) C := by
  unfold wpO gEq
  constructor
  · rintro ⟨t, C', e, q⟩
    obtain ⟨x, e1, e⟩ := Option.bind_eq_some_iff.mp e
    obtain ⟨y, e2, e⟩ := Option.bind_eq_some_iff.mp e
    obtain ⟨k, e3, e⟩ := Option.map_eq_some_iff.mp e
    cases e
    exact ⟨x, e1, y, e2, k, e3, q⟩
  · rintro ⟨x, e1, y, e2, k, e3, q⟩
    exact ⟨_, _, by simp [e1, e2, e3], q⟩
theorem wpO_in {n : Bool} {t u : T} : wpO (gIn n t u C) Q ↔ ∃ x, dr 3 C t = some x ∧ ∃ ts, liT C u = some ts ∧ ∃ us, mapO (dr 3 C) ts = some us ∧ ∃ k, inL (fun w => eqT 5 w x) us = some k ∧ Q (.bl (if n then !k else k)) C := by
  unfold wpO gIn
  constructor
  · rintro ⟨t, C', e, q⟩
    obtain ⟨x, e1, e⟩ := Option.bind_eq_some_iff.mp e
    obtain ⟨y, e2, e⟩ := Option.bind_eq_some_iff.mp e
    obtain ⟨z, e4, e⟩ := Option.bind_eq_some_iff.mp e
    obtain ⟨k, e3, e⟩ := Option.map_eq_some_iff.mp e
    cases e
    exact ⟨x, e1, y, e2, z, e4, k, e3, q⟩
  · rintro ⟨x, e1, y, e2, z, e4, k, e3, q⟩
    exact ⟨_, _, by simp [e1, e2, e3, e4], q⟩
theorem wpO_call {n : Nat} {R : List T → Option T} {ts : List T} (hl : ts.length = n) (hc : CFs ts = true) : wpO (gCall n R ts C) Q ↔ wpR (R ts) fun t => Q t C := by
  unfold wpO gCall wpR
  rw [if_pos hl, if_pos hc]
  constructor
  · rintro ⟨t, C', e, q⟩
    obtain ⟨x, e1, e⟩ := Option.map_eq_some_iff.mp e
    cases e; exact ⟨_, e1, q⟩
  · rintro ⟨t, e, q⟩
    exact ⟨_, _, by simp [e], q⟩
theorem wpO_callE {n : Nat} {R : List T → Option T} {ts : List T} {t : T} (e : R ts = some t) (hl : ts.length = n) (hc : CFs ts = true) : wpO (gCall n R ts C) Q ↔ Q t C := by
  rw [wpO_call hl hc, e]
  unfold wpR
  constructor
  · rintro ⟨_, e, q⟩; cases e; exact q
  · exact fun q => ⟨_, rfl, q⟩
/-! tests -/
theorem wpB_tst : wpB (fTst a) τ C QB ↔ wpE a τ C fun t C1 => ∃ x, t = .bl x ∧ QB x C1 := by
  unfold wpB wpE fTst
  constructor
  · rintro ⟨t, C', e, q⟩
    obtain ⟨⟨x, C1⟩, e1, e⟩ := Option.bind_eq_some_iff.mp e
    dsimp only at e
    split at e
    · cases e; exact ⟨_, _, e1, _, rfl, q⟩
    · cases e
  · rintro ⟨x, C1, e1, y, rfl, q⟩
    exact ⟨y, C1, by simp [e1], q⟩
theorem wpB_tru : wpB (fTru a) τ C QB ↔ wpE a τ C fun t C1 => ∃ x, truT C1 t = some x ∧ QB x C1 := by
  unfold wpB wpE fTru
  constructor
  · rintro ⟨t, C', e, q⟩
    obtain ⟨⟨x, C1⟩, e1, e⟩ := Option.bind_eq_some_iff.mp e
    obtain ⟨y, e2, e⟩ := Option.map_eq_some_iff.mp e
    cases e
    exact ⟨_, _, e1, _, e2, q⟩
  · rintro ⟨x, C1, e1, y, e2, q⟩
    exact ⟨y, C1, by simp [e1, e2], q⟩
theorem wpB_true : wpB fTrueT τ C QB ↔ QB true C := by
  unfold wpB fTrueT
  constructor
  · rintro ⟨_, _, e, q⟩; cases e; exact q
  · exact fun q => ⟨_, _, rfl, q⟩
theorem wpB_and : wpB (fAndT ga gb) τ C QB ↔ wpB ga τ C fun x C1 => if x = true then wpB gb τ C1 QB else QB false C1 := by
  unfold wpB fAndT
  constructor
  · rintro ⟨t, C', e, q⟩
    obtain ⟨⟨x, C1⟩, e1, e⟩ := Option.bind_eq_some_iff.mp e
    refine ⟨x, C1, e1, ?_⟩
    dsimp only at e
    split at e
    · rw [if_pos ‹_›]; exact ⟨t, C', e, q⟩
    · cases e; rw [if_neg ‹_›]; exact q
  · rintro ⟨x, C1, e1, q⟩
    split at q
    · obtain ⟨t, C', e, q⟩ := q
      exact ⟨t, C', by simp_all, q⟩
    · exact ⟨false, C1, by simp_all, q⟩
theorem wpB_or : wpB (fOrT ga gb) τ C QB ↔ wpB ga τ C fun x C1 => if x = true then QB true C1 else wpB gb τ C1 QB := by
  unfold wpB fOrT
  constructor
  · rintro ⟨t, C', e, q⟩
    obtain ⟨⟨x, C1⟩, e1, e⟩ := Option.bind_eq_some_iff.mp e
    refine ⟨x, C1, e1, ?_⟩
    dsimp only at e
    split at e
    · cases e; rw [if_pos ‹_›]; exact q
    · rw [if_neg ‹_›]; exact ⟨t, C', e, q⟩
  · rintro ⟨x, C1, e1, q⟩
    split at q
    · exact ⟨true, C1, by simp_all, q⟩
    · obtain ⟨t, C', e, q⟩ := q
      exact ⟨t, C', by simp_all, q⟩
theorem wpB_not : wpB (fNotT ga) τ C QB ↔ wpB ga τ C fun x C1 => QB (!x) C1 := by
  unfold wpB fNotT
  constructor
  · rintro ⟨t, C', e, q⟩
    obtain ⟨⟨x, C1⟩, e1, e⟩ := Option.map_eq_some_iff.mp e
    cases e
    exact ⟨x, _, e1, q⟩
  · rintro ⟨x, C1, e1, q⟩
    exact ⟨_, C1, by simp [e1], q⟩
theorem wpE_and : wpE (fAndV a b) τ C Q ↔ wpE a τ C fun t C1 => ∃ x, t = .bl x ∧ if x = true then wpE b τ C1 Q else Q (.bl false) C1 := by
  unfold wpE fAndV
  constructor
  · rintro ⟨t, C', e, q⟩
    obtain ⟨⟨x, C1⟩, e1, e⟩ := Option.bind_eq_some_iff.mp e
    refine ⟨x, C1, e1, ?_⟩
    dsimp only at e
    split at e
    · exact ⟨true, rfl, by rw [if_pos rfl]; exact ⟨t, C', e, q⟩⟩
    · cases e; exact ⟨false, rfl, by rw [if_neg (by simp)]; exact q⟩
    · cases e
  · rintro ⟨x, C1, e1, y, rfl, q⟩
    split at q
    · obtain ⟨t, C', e, q⟩ := q
      exact ⟨t, C', by simp_all, q⟩
    · exact ⟨.bl false, C1, by simp_all, q⟩
theorem wpE_or : wpE (fOrV a b) τ C Q ↔ wpE a τ C fun t C1 => ∃ x, t = .bl x ∧ if x = true then Q (.bl true) C1 else wpE b τ C1 Q := by
  unfold wpE fOrV
  constructor
  · rintro ⟨t, C', e, q⟩
    obtain ⟨⟨x, C1⟩, e1, e⟩ := Option.bind_eq_some_iff.mp e
    refine ⟨x, C1, e1, ?_⟩
    dsimp only at e
    split at e
    · exact ⟨false, rfl, by rw [if_neg (by simp)]; exact ⟨t, C', e, q⟩⟩
    · cases e; exact ⟨true, rfl, by rw [if_pos rfl]; exact q⟩
    · cases e
  · rintro ⟨x, C1, e1, y, rfl, q⟩
    split at q
    · exact ⟨.bl true, C1, by simp_all, q⟩
    · obtain ⟨t, C', e, q⟩ := q
      exact ⟨t, C', by simp_all, q⟩
theorem wpE_not : wpE (fNotV a) τ C Q ↔ wpE a τ C fun t C1 => ∃ x, t = .bl x ∧ Q (.bl (!x)) C1 := by
  unfold wpE fNotV
  constructor
  · rintro ⟨t, C', e, q⟩
    obtain ⟨⟨x, C1⟩, e1, e⟩ := Option.bind_eq_some_iff.mp e
    dsimp only at e
    split at e
    · cases e; exact ⟨_, _, e1, _, rfl, q⟩
    · cases e
  · rintro ⟨x, C1, e1, y, rfl, q⟩
    exact ⟨_, C1, by simp [e1], q⟩
theorem wpE_ite : wpE (fIte ga a b) τ C Q ↔ wpB ga τ C fun x C1 => if x = true then wpE a τ C1 Q else wpE b τ C1 Q := by
  unfold wpB wpE fIte
  constructor
  · rintro ⟨t, C', e, q⟩
    obtain ⟨⟨x, C1⟩, e1, e⟩ := Option.bind_eq_some_iff.mp e
    refine ⟨x, C1, e1, ?_⟩
    dsimp only at e
    split at e
    · rw [if_pos ‹_›]; exact ⟨t, C', e, q⟩
    · rw [if_neg ‹_›]; exact ⟨t, C', e, q⟩
  · rintro ⟨x, C1, e1, q⟩
    split at q
    · obtain ⟨t, C', e, q⟩ := q
      exact ⟨t, C', by simp_all, q⟩
    · obtain ⟨t, C', e, q⟩ := q
      exact ⟨t, C', by simp_all, q⟩
theorem wpE_chain {p q : Int → Int → Bool} : wpE (fChain a b c p q) τ C Q ↔ wpE a τ C fun x C1 => wpE b τ C1 fun y C2 => ∃ i j, x = .int i ∧ y = .int j ∧ if p i j = true then wpE c τ C2 (fun z C3 => ∃ l, z = .int l ∧ Q (.bl (q j l)) C3) else Q (.bl false) C2 := by
  unfold wpE fChain
  constructor
  · rintro ⟨t, C', e, q⟩
    obtain ⟨⟨x, C1⟩, e1, e⟩ := Option.bind_eq_some_iff.mp e
    obtain ⟨⟨y, C2⟩, e2, e⟩ := Option.bind_eq_some_iff.mp e
    refine ⟨x, C1, e1, y, C2, e2, ?_⟩
    dsimp only at e
    split at e
    · refine ⟨_, _, rfl, rfl, ?_⟩
      split at e
      · rw [if_pos ‹_›]
        obtain ⟨⟨z, C3⟩, e3, e⟩ := Option.bind_eq_some_iff.mp e
        dsimp only at e
        split at e
        · cases e; exact ⟨_, _, e3, _, rfl, q⟩
        · cases e
      · rw [if_neg ‹_›]; cases e; exact q
    · cases e
  · rintro ⟨x, C1, e1, y, C2, e2, i, j, rfl, rfl, h⟩
    split at h
    · obtain ⟨z, C3, e3, l, rfl, q⟩ := h
      exact ⟨_, C3, by simp_all, q⟩
    · exact ⟨_, C2, by simp_all, h⟩
/-! statements -/
theorem wpS_next : wpS fNext τ C QS ↔ QS .nx τ C := by
  unfold wpS fNext
  constructor
  · rintro ⟨_, _, _, e, q⟩; cases e; exact q
  · exact fun q => ⟨_, _, _, rfl, q⟩
theorem wpS_retN : wpS fRetN τ C QS ↔ QS (.rt .non) τ C := by
  unfold wpS fRetN
  constructor
  · rintro ⟨_, _, _, e, q⟩; cases e; exact q
  · exact fun q => ⟨_, _, _, rfl, q⟩
def sq (G : FS) (Q : Fl → TSt → Sto → Prop) (l : Fl) (τ : TSt) (C : Sto) : Prop := match l with
  | .nx => wpS G τ C Q
  | l => Q l τ C
theorem wpS_seq : wpS (fSeq F G) τ C QS ↔ wpS F τ C (sq G QS) := by
  unfold wpS fSeq
  constructor
  · rintro ⟨l, t, C', e, q⟩
    obtain ⟨⟨l1, t1, C1⟩, e1, e⟩ := Option.bind_eq_some_iff.mp e
    refine ⟨l1, t1, C1, e1, ?_⟩
    cases l1 <;> first | (cases e; exact q) | exact ⟨l, t, C', e, q⟩
  · rintro ⟨l1, t1, C1, e1, h⟩
    cases l1 with
    | nx => obtain ⟨l, t, C', e, q⟩ := h; exact ⟨l, t, C', by rw [e1]; exact e, q⟩
    | _ => exact ⟨_, t1, C1, by rw [e1]; rfl, h⟩
theorem sq_nx : sq G QS .nx τ C ↔ wpS G τ C QS := Iff.rfl
theorem sq_rt {t : T} : sq G QS (.rt t) τ C ↔ QS (.rt t) τ C := Iff.rfl
theorem sq_ex {c : String} : sq G QS (.ex c) τ C ↔ QS (.ex c) τ C := Iff.rfl
theorem sq_bk : sq G QS .bk τ C ↔ QS .bk τ C := Iff.rfl
theorem sq_ct : sq G QS .ct τ C ↔ QS .ct τ C := Iff.rfl
theorem wpS_if : wpS (fIf ga F G) τ C QS ↔ wpB ga τ C fun x C1 => if x = true then wpS F τ C1 QS else wpS G τ C1 QS := by
  unfold wpB wpS fIf
  constructor
  · rintro ⟨l, t, C', e, q⟩
    obtain ⟨⟨x, C1⟩, e1, e⟩ := Option.bind_eq_some_iff.mp e
    refine ⟨x, C1, e1, ?_⟩
    dsimp only at e
    split at e
    · rw [if_pos ‹_›]; exact ⟨l, t, C', e, q⟩
    · rw [if_neg ‹_›]; exact ⟨l, t, C', e, q⟩
  · rintro ⟨x, C1, e1, q⟩
    split at q
    · obtain ⟨l, t, C', e, q⟩ := q
      exact ⟨l, t, C', by simp_all, q⟩
    · obtain ⟨l, t, C', e, q⟩ := q
      exact ⟨l, t, C', by simp_all, q⟩
theorem wpS_ret : wpS (fRet a) τ C QS ↔ wpE a τ C fun t C1 => QS (.rt t) τ C1 := by
  unfold wpE wpS fRet
  constructor
  · rintro ⟨l, t, C', e, q⟩
    obtain ⟨⟨x, C1⟩, e1, e⟩ := Option.map_eq_some_iff.mp e
    cases e
    exact ⟨x, _, e1, q⟩
  · rintro ⟨x, C1, e1, q⟩
    exact ⟨_, _, C1, by simp [e1], q⟩
theorem wpS_drop : wpS (fDrop a) τ C QS ↔ wpE a τ C fun t C1 => QS .nx τ C1 := by
  unfold wpE wpS fDrop
  constructor
  · rintro ⟨l, t, C', e, q⟩
    obtain ⟨⟨x, C1⟩, e1, e⟩ := Option.map_eq_some_iff.mp e
    cases e
    exact ⟨x, _, e1, q⟩
  · rintro ⟨x, C1, e1, q⟩
    exact ⟨_, _, C1, by simp [e1], q⟩
theorem wpS_asg {g : FG} : wpS (fAsg a g) τ C QS ↔ wpE a τ C fun t C1 => wpG g t C1 τ fun τ1 => QS .nx τ1 C1 := by
  unfold wpE wpS wpG fAsg
  constructor
  · rintro ⟨l, t, C', e, q⟩
    obtain ⟨⟨x, C1⟩, e1, e⟩ := Option.bind_eq_some_iff.mp e
    obtain ⟨τ1, e2, e⟩ := Option.map_eq_some_iff.mp e
    cases e
    exact ⟨x, _, e1, _, e2, q⟩
  · rintro ⟨x, C1, e1, τ1, e2, q⟩
    exact ⟨_, _, C1, by simp [e1, e2], q⟩
theorem wpG_n {i : Nat} {t : T} : wpG (gN i) t C τ QG ↔ QG (τ.set i (some t)) := by
  unfold wpG gN
  constructor
  · rintro ⟨_, e, q⟩; cases e; exact q
  · exact fun q => ⟨_, rfl, q⟩
theorem wpG_u {is : List Nat} {t : T} : wpG (gU is) t C τ QG ↔ ∃ ts, sqT C t = some ts ∧ ts.length = is.length ∧ QG (setAll is ts τ) := by
  unfold wpG gU
  constructor
  · rintro ⟨_, e, q⟩
    obtain ⟨ts, e1, e⟩ := Option.bind_eq_some_iff.mp e
    split at e
    · cases e; exact ⟨ts, e1, ‹_›, q⟩
    · cases e
  · rintro ⟨ts, e1, h, q⟩
    exact ⟨_, by simp [e1, h], q⟩
theorem wpS_setI : wpS (fSetI fe fo fi) τ C QS ↔ wpE fe τ C fun x C1 => wpE fo τ C1 fun y C2 => wpE fi τ C2 fun z C3 => ∃ k i, y = .cell k ∧ z = .int i ∧ ∃ ts, C3[k]? = some ts ∧ ∃ j, ixN ts.length i = some j ∧ QS .nx τ (C3.set k (ts.set j x)) := by
  unfold wpE wpS fSetI
  constructor
  · rintro ⟨l, t, C', e, q⟩
    obtain ⟨⟨x, C1⟩, e1, e⟩ := Option.bind_eq_some_iff.mp e
    obtain ⟨⟨y, C2⟩, e2, e⟩ := Option.bind_eq_some_iff.mp e
    obtain ⟨⟨z, C3⟩, e3, e⟩ := Option.bind_eq_some_iff.mp e
    refine ⟨x, C1, e1, y, C2, e2, z, C3, e3, ?_⟩
    dsimp only at e
    split at e
    · obtain ⟨ts, e4, e⟩ := Option.bind_eq_some_iff.mp e
      obtain ⟨j, e5, e⟩ := Option.map_eq_some_iff.mp e
      cases e
      exact ⟨_, _, rfl, rfl, ts, e4, j, e5, q⟩
    · cases e
  · rintro ⟨x, C1, e1, y, C2, e2, z, C3, e3, k, i, rfl, rfl, ts, e4, j, e5, q⟩
    exact ⟨_, _, _, by simp [e1, e2, e3, e4, e5], q⟩
theorem wpS_mut {g : List T → List T → Option (List T)} : wpS (fMut a fa g) τ C QS ↔ wpE a τ C fun x C1 => wpA fa τ C1 fun xs C2 => ∃ k, x = .cell k ∧ ∃ ts, C2[k]? = some ts ∧ wpL (g ts xs) fun us => QS .nx τ (C2.set k us) := by
  unfold wpE wpA wpS fMut wpL
  constructor
  · rintro ⟨l, t, C', e, q⟩
    obtain ⟨⟨x, C1⟩, e1, e⟩ := Option.bind_eq_some_iff.mp e
    obtain ⟨⟨y, C2⟩, e2, e⟩ := Option.bind_eq_some_iff.mp e
    refine ⟨x, C1, e1, y, C2, e2, ?_⟩
    dsimp only at e
    split at e
    · obtain ⟨ts, e4, e⟩ := Option.bind_eq_some_iff.mp e
      obtain ⟨j, e5, e⟩ := Option.map_eq_some_iff.mp e
      cases e
      exact ⟨_, rfl, ts, e4, j, e5, q⟩
    · cases e
  · rintro ⟨x, C1, e1, y, C2, e2, k, rfl, ts, e4, j, e5, q⟩
    exact ⟨_, _, _, by simp [e1, e2, e4, e5], q⟩
theorem wpL_app {ts : List T} {y : T} : wpL (gtApp ts [y]) Ql ↔ ts.length < lim ∧ Ql (ts ++ [y]) := by
  unfold wpL gtApp
  by_cases h : ts.length < lim <;> simp [h]
theorem wpL_ins {ts : List T} {y : T} {i : Int} : wpL (gtIns ts [.int i, y]) Ql ↔ (ts.length < lim ∧ -(2 ^ 63) ≤ i ∧ i < 2 ^ 63) ∧ Ql (insAt ts i y) := by
  unfold wpL gtIns
  by_cases h : ts.length < lim ∧ -(2 ^ 63) ≤ i ∧ i < 2 ^ 63
  · simp only [if_pos h, Option.some.injEq, exists_eq_left', and_iff_right h]
  · simp only [if_neg h, reduceCtorEq, false_and, exists_false]
    exact ⟨False.elim, fun (z : _ ∧ _) => h z.1⟩
/-! loops -/
theorem wpS_go {P : Sto → Prop} {g : FG} (I : Nat → TSt → Sto → Prop) {ts : List T} (h0 : I 0 τ C)
    (hs : ∀ i t τ C, ts[i]? = some t → I i τ C → wpG g t C τ fun τ1 => wpS F τ1 C fun l τ2 C2 => match l with
      | .nx => P C2 ∧ I (i + 1) τ2 C2
      | .ct => P C2 ∧ I (i + 1) τ2 C2
      | .bk => QS .nx τ2 C2
      | .rt v => QS (.rt v) τ2 C2
      | .ex v => QS (.ex v) τ2 C2)
    (hq : ∀ τ C, I ts.length τ C → QS .nx τ C) : wpS (forGo P g F ts) τ C QS := by
  induction ts generalizing τ C I with
  | nil => exact ⟨.nx, τ, C, by simp [forGo], hq _ _ h0⟩
  | cons t ts ih =>
    obtain ⟨τ1, e1, l, τ2, C2, e2, h2⟩ := hs 0 t τ C rfl h0
    have go : P C2 ∧ I 1 τ2 C2 → wpS (forGo P g F ts) τ2 C2 QS := fun h => ih (fun i => I (i + 1)) h.2 (fun i t τ C e h => hs (i + 1) t τ C e h) (fun τ C h => hq τ C h)
    cases l with
    | nx =>
      obtain ⟨l, t', C', e, q⟩ := go h2
      exact ⟨l, t', C', by simp [forGo, e1, e2, h2.1, e], q⟩
    | ct =>
      obtain ⟨l, t', C', e, q⟩ := go h2
      exact ⟨l, t', C', by simp [forGo, e1, e2, h2.1, e], q⟩
    | bk => exact ⟨.nx, τ2, C2, by simp [forGo, e1, e2], h2⟩
    | rt v => exact ⟨.rt v, τ2, C2, by simp [forGo, e1, e2], h2⟩
    | ex v => exact ⟨.ex v, τ2, C2, by simp [forGo, e1, e2], h2⟩
theorem wpS_for {g : FG} : wpS (fFor a g F) τ C QS ↔ wpE a τ C fun t C1 => ∃ ts, liT C1 t = some ts ∧ wpS (forGo (stays t ts) g F ts) τ C1 QS := by
  unfold wpE wpS fFor
  constructor
  · rintro ⟨l, t, C', e, q⟩
    obtain ⟨⟨x, C1⟩, e1, e⟩ := Option.bind_eq_some_iff.mp e
    obtain ⟨ts, e2, e⟩ := Option.bind_eq_some_iff.mp e
    exact ⟨x, C1, e1, ts, e2, l, t, C', e, q⟩
  · rintro ⟨x, C1, e1, ts, e2, l, t, C', e, q⟩
    exact ⟨l, t, C', by simp [e1, e2, e], q⟩
theorem wpS_forR1 {g : FG} : wpS (fForR1 a g F) τ C QS ↔ wpE a τ C fun t C1 => ∃ j, t = .int j ∧ (-(2 ^ 62) ≤ j ∧ j < 2 ^ 62) ∧ wpS (forGo (fun _ => True) g F (rngT 0 j.toNat)) τ C1 QS := by
  unfold wpE wpS fForR1
  constructor
  · rintro ⟨l, t, C', e, q⟩
    obtain ⟨⟨x, C1⟩, e1, e⟩ := Option.bind_eq_some_iff.mp e
    dsimp only at e
    split at e
    · split at e
      · exact ⟨_, C1, e1, _, rfl, ‹_›, l, t, C', e, q⟩
      · cases e
    · cases e
  · rintro ⟨x, C1, e1, j, rfl, h, l, t, C', e, q⟩
    exact ⟨l, t, C', by rw [e1]; exact (if_pos h).trans e, q⟩
theorem wpS_forR2 {g : FG} : wpS (fForR2 a b g F) τ C QS ↔ wpE a τ C fun t C1 => wpE b τ C1 fun u C2 => ∃ i j, t = .int i ∧ u = .int j ∧ (-(2 ^ 62) ≤ i ∧ i < 2 ^ 62 ∧ -(2 ^ 62) ≤ j ∧ j < 2 ^ 62) ∧ wpS (forGo (fun _ => True) g F (rngT i (j - i).toNat)) τ C2 QS := by
  unfold wpE wpS fForR2
  constructor
  · rintro ⟨l, t, C', e, q⟩
    obtain ⟨⟨x, C1⟩, e1, e⟩ := Option.bind_eq_some_iff.mp e
    obtain ⟨⟨y, C2⟩, e2, e⟩ := Option.bind_eq_some_iff.mp e
    dsimp only at e
    split at e
    · split at e
      · exact ⟨_, C1, e1, _, C2, e2, _, _, rfl, rfl, ‹_›, l, t, C', e, q⟩
      · cases e
    · cases e
  · rintro ⟨x, C1, e1, y, C2, e2, i, j, rfl, rfl, h, l, t, C', e, q⟩
    exact ⟨l, t, C', by rw [e1]; show ((b τ C1).bind _) = _; rw [e2]; exact (if_pos h).trans e, q⟩
theorem wpS_goX {α : Type} {P : Sto → Prop} {g : FG} {en : α → T} {xs : List α} (I : Nat → TSt → Sto → Prop) (h0 : I 0 τ C)
    (hs : ∀ i x τ C, xs[i]? = some x → I i τ C → wpG g (en x) C τ fun τ1 => wpS F τ1 C fun l τ2 C2 => match l with
      | .nx => P C2 ∧ I (i + 1) τ2 C2
      | .ct => P C2 ∧ I (i + 1) τ2 C2
      | .bk => QS .nx τ2 C2
      | .rt v => QS (.rt v) τ2 C2
      | .ex v => QS (.ex v) τ2 C2)
    (hq : ∀ τ C, I xs.length τ C → QS .nx τ C) : wpS (forGo P g F (xs.map en)) τ C QS := by
  refine wpS_go I h0 (fun i t τ C e h => ?_) (fun τ C h => hq τ C (by simpa using h))
  rw [List.getElem?_map] at e
  obtain ⟨x, ex, rfl⟩ := Option.map_eq_some_iff.mp e
  exact hs i x τ C ex h
/-! comprehensions -/
theorem wpA_comp {k : Nat} {is : List Nat} {g : FG} : wpA (fComp a k is g fb fe) τ C QL ↔ wpE a τ C fun t C1 => ∃ ts, liT C1 t = some ts ∧ ts.length < lim ∧ wpC (compGo g fb fe (scT k is τ) ts C1) QL := by
  unfold wpE wpA fComp wpC
  constructor
  · rintro ⟨t, C', e, q⟩
    obtain ⟨⟨x, C1⟩, e1, e⟩ := Option.bind_eq_some_iff.mp e
    obtain ⟨ts, e2, e⟩ := Option.bind_eq_some_iff.mp e
    split at e
    · exact ⟨x, C1, e1, ts, e2, ‹_›, t, C', e, q⟩
    · cases e
  · rintro ⟨x, C1, e1, ts, e2, h, t, C', e, q⟩
    exact ⟨t, C', by simp [e1, e2, h, e], q⟩
theorem wpA_compR1 {k : Nat} {is : List Nat} {g : FG} : wpA (fCompR1 a k is g fb fe) τ C QL ↔ wpE a τ C fun t C1 => ∃ j, t = .int j ∧ (j < 50000 ∧ -(2 ^ 62) ≤ j) ∧ wpC (compGo g fb fe (scT k is τ) (rngT 0 j.toNat) C1) QL := by
  unfold wpE wpA fCompR1 wpC
  constructor
  · rintro ⟨t, C', e, q⟩
    obtain ⟨⟨x, C1⟩, e1, e⟩ := Option.bind_eq_some_iff.mp e
    dsimp only at e
    split at e
    · split at e
      · exact ⟨_, C1, e1, _, rfl, ‹_›, t, C', e, q⟩
      · cases e
    · cases e
  · rintro ⟨x, C1, e1, j, rfl, h, t, C', e, q⟩
    exact ⟨t, C', by rw [e1]; exact (if_pos h).trans e, q⟩
theorem wpA_compZ {k : Nat} {is : List Nat} {g : FG} : wpA (fCompZ a b k is g fb fe) τ C QL ↔ wpE a τ C fun t C1 => wpE b τ C1 fun u C2 => ∃ ts, liT C2 t = some ts ∧ ∃ us, liT C2 u = some us ∧ (zipT ts us).length < lim ∧ wpC (compGo g fb fe (scT k is τ) (zipT ts us) C2) QL := by
  unfold wpE wpA fCompZ wpC
  constructor
  · rintro ⟨t, C', e, q⟩
    obtain ⟨⟨x, C1⟩, e1, e⟩ := Option.bind_eq_some_iff.mp e
    obtain ⟨⟨y, C2⟩, e2, e⟩ := Option.bind_eq_some_iff.mp e
    obtain ⟨ts, e3, e⟩ := Option.bind_eq_some_iff.mp e
    obtain ⟨us, e4, e⟩ := Option.bind_eq_some_iff.mp e
    split at e
    · exact ⟨x, C1, e1, y, C2, e2, ts, e3, us, e4, ‹_›, t, C', e, q⟩
    · cases e
  · rintro ⟨x, C1, e1, y, C2, e2, ts, e3, us, e4, h, t, C', e, q⟩
    exact ⟨t, C', by simp [e1, e2, e3, e4, h, e], q⟩
theorem wpC_map {α : Type} {g : FG} {en : α → T} {xs : List α} (p : α → Bool) (u : α → T)
    (h : ∀ x ∈ xs, wpG g (en x) C τ fun τ1 => wpB fb τ1 C fun y C1 => C1 = C ∧ y = p x ∧ (p x = true → wpE fe τ1 C fun t C2 => C2 = C ∧ t = u x))
    (hq : QL ((xs.filter p).map u) C) : wpC (compGo g fb fe τ (xs.map en) C) QL := by
  refine ⟨_, C, ?_, hq⟩
  clear hq
  induction xs with
  | nil => rfl
  | cons x xs ih =>
    obtain ⟨τ1, e1, y, C1, e2, rfl, rfl, h3⟩ := h x List.mem_cons_self
    have ih := ih fun y hy => h y (List.mem_cons_of_mem _ hy)
    rw [List.map_cons]
    unfold compGo
    rw [e1, Option.bind_some, e2, Option.bind_some]
    by_cases hp : p x = true
    · obtain ⟨t, C2, e3, rfl, rfl⟩ := h3 hp
      rw [if_pos hp, e3, Option.bind_some, ih, List.filter_cons_of_pos hp]
      rfl
    · rw [if_neg hp, ih, List.filter_cons_of_neg hp]
theorem wpC_mapA {α : Type} {g : FG} {en : α → T} {xs : List α} (u : α → T)
    (h : ∀ x ∈ xs, wpG g (en x) C τ fun τ1 => wpE fe τ1 C fun t C2 => C2 = C ∧ t = u x)
    (hq : QL (xs.map u) C) : wpC (compGo g fTrueT fe τ (xs.map en) C) QL :=
  wpC_map (fun _ => true) u (fun x hx => let ⟨τ1, e, q⟩ := h x hx; ⟨τ1, e, true, C, rfl, rfl, rfl, fun _ => q⟩) (by rw [List.filter_eq_self.mpr (fun _ _ => rfl)]; exact hq)
theorem rngT_map {lo : Int} {n : Nat} : rngT lo n = (List.range n).map fun (i : Nat) => T.int (lo + (i : Int)) := rfl
/-! a def's value -/
theorem runT_wp {B : FS} {m : Nat} {ts : List T} {t : T} (h : wpS B (st0 m ts) [] fun l τ C => match l with
    | .rt r => dr 3 C r = some t
    | .nx => t = .non
    | _ => False) : runT B m ts = some t := by
  obtain ⟨l, τ, C, e, q⟩ := h
  unfold runT
  rw [e]
  cases l with
  | nx => cases q; rfl
  | rt r => exact q
  | _ => exact q.elim
theorem wpR_some {t : T} {q : T → Prop} : wpR (some t) q ↔ q t := by
  unfold wpR
  constructor
  · rintro ⟨_, e, q⟩; cases e; exact q
  · exact fun q => ⟨_, rfl, q⟩
theorem wpL_some {t : List T} : wpL (some t) Ql ↔ Ql t := by
  unfold wpL
  constructor
  · rintro ⟨_, e, q⟩; cases e; exact q
  · exact fun q => ⟨_, rfl, q⟩
end
theorem ex_some {α : Type} {o : Option α} {y : α} {p : α → Prop} (e : o = some y) : (∃ x, o = some x ∧ p x) ↔ p y := by
  constructor
  · rintro ⟨x, e', h⟩
    rw [e] at e'
    cases e'
    exact h
  · exact fun h => ⟨y, e, h⟩
/-! how big numbers get -/
def Bt (k : Nat) (n : Int) : Prop := n.natAbs < 2 ^ k
theorem Bt.of_bits {n : Int} {k : Nat} (h : Builtin.Int.intBits n ≤ k) : Bt k n := by
  unfold Builtin.Int.intBits at h
  unfold Bt
  by_cases z : n = 0
  · subst z; exact Nat.two_pow_pos k
  · have : (n == 0) = false := by simpa using z
    rw [this] at h
    exact (Nat.log2_lt (by omega)).mp (by simp at h; omega)
theorem Bt.bits {n : Int} {k : Nat} (h : Bt k n) : Builtin.Int.intBits n ≤ k := by
  unfold Builtin.Int.intBits
  unfold Bt at h
  by_cases z : n = 0
  · subst z; exact Nat.zero_le _
  · have : (n == 0) = false := by simpa using z
    rw [this]
    have := (Nat.log2_lt (by omega)).mpr h
    simp
    omega
theorem Bt.mono {n : Int} {k m : Nat} (h : Bt k n) (hm : k ≤ m) : Bt m n := Nat.lt_of_lt_of_le h (Nat.pow_le_pow_right (by decide) hm)
theorem Bt.mul {x y : Int} {k m : Nat} (h : Bt k x) (h' : Bt m y) : Bt (k + m) (x * y) := by
  unfold Bt at *
  rw [Int.natAbs_mul, Nat.pow_add]
  exact Nat.mul_lt_mul'' h h'
theorem Bt.add {x y : Int} {k : Nat} (h : Bt k x) (h' : Bt k y) : Bt (k + 1) (x + y) := by
  unfold Bt at *
  rw [Nat.pow_succ]
  omega
theorem Bt.sub {x y : Int} {k : Nat} (h : Bt k x) (h' : Bt k y) : Bt (k + 1) (x - y) := by
  unfold Bt at *
  rw [Nat.pow_succ]
  omega
theorem Bt.of_lt {x : Int} {k : Nat} (h1 : 0 ≤ x) (h2 : x < 2 ^ k) : Bt k x := by
  unfold Bt
  have : ((x.natAbs : Nat) : Int) < ((2 ^ k : Nat) : Int) := by
    rw [Int.natAbs_of_nonneg h1]; simpa using h2
  exact Int.ofNat_lt.mp this
theorem mulOkP {i j : Int} {m n : Nat} (h1 : Bt m i) (h2 : Bt n j) (h : m + n ≤ 134217728) : mulOkB i j = true := by
  have h1 := h1.bits
  have h2 := h2.bits
  have h' : Builtin.Int.intTooBig (Builtin.Int.intBits i + Builtin.Int.intBits j) = false := by
    unfold Builtin.Int.intTooBig bitsLine
    exact decide_eq_false (by omega)
  unfold mulOkB
  rw [h']
  simp
theorem mulOk_l {i j : Int} (h1 : Bt 64 i) : mulOkB i j = true := by
  have := h1.bits
  unfold mulOkB shortFactorBits
  rw [show decide (Builtin.Int.intBits i > 64) = false from decide_eq_false (by omega)]
  simp
theorem mulOk_r {i j : Int} (h1 : Bt 64 j) : mulOkB i j = true := by
  have := h1.bits
  unfold mulOkB shortFactorBits
  rw [show decide (Builtin.Int.intBits j > 64) = false from decide_eq_false (by omega)]
  simp
theorem Bt.mod {x m : Int} {k : Nat} (h1 : 0 < m) (h2 : m ≤ 2 ^ k) : Bt k (x % m) :=
  .of_lt (Int.emod_nonneg _ (by omega)) (Int.lt_of_lt_of_le (Int.emod_lt_of_pos _ h1) h2)

end TL
/-! TreeQ -/
set_option linter.all false
namespace TL
open PySem L2

theorem atI_of {α : Type} {xs : List α} {i : Int} (h0 : 0 ≤ i) : atI xs i = xs[i.toNat]? := by
  unfold atI ixN
  rw [if_pos h0]
  by_cases h : i < xs.length
  · rw [if_pos h]; rfl
  · rw [if_neg h, List.getElem?_eq_none (by omega)]; rfl
theorem CFs_nil : CFs [] = true := by unfold CFs; rfl
theorem CFs_cons {t : T} {ts : List T} : CFs (t :: ts) = (CF t && CFs ts) := by rw [CFs]
theorem CF_int {i : Int} : CF (.int i) = true := by unfold CF; rfl
theorem CF_bl {i : Bool} : CF (.bl i) = true := by unfold CF; rfl
theorem CF_lst {ts : List T} : CF (.lst ts) = CFs ts := by rw [CF]
theorem CF_tup {ts : List T} : CF (.tup ts) = CFs ts := by rw [CF]
theorem CF_non : CF .non = true := by unfold CF; rfl
theorem CF_str {s : Str} : CF (.str s) = true := by unfold CF; rfl
theorem CF_cell {c : Nat} : CF (.cell c) = false := by unfold CF; rfl
theorem CFs_map {α : Type} {f : α → T} {xs : List α} (h : ∀ x ∈ xs, CF (f x) = true) : CFs (xs.map f) = true := CFs_iff.mpr fun t ht => by
  obtain ⟨x, hx, rfl⟩ := List.mem_map.mp ht
  exact h x hx
theorem CFs_ints {ns : List Int} : CFs (ns.map T.int) = true := CFs_map fun _ _ => CF_int
theorem dr_cf {t : T} {n : Nat} {C : Sto} (h : CF t = true) : dr n C t = some t := by
  cases n with
  | zero => unfold dr; rw [if_pos h]
  | succ n =>
    cases t with
    | cell c => rw [CF_cell] at h; cases h
    | lst ts => unfold dr; rw [CF_lst] at h; rw [if_pos h]
    | tup ts => unfold dr; rw [CF_tup] at h; rw [if_pos h]
    | _ => unfold dr; rw [if_pos h]
theorem mapO_of {f : T → Option T} {ts : List T} (h : ∀ t ∈ ts, f t = some t) : mapO f ts = some ts := by
  induction ts with
  | nil => rfl
  | cons t ts ih => unfold mapO; rw [h t List.mem_cons_self, Option.bind_some, ih fun u hu => h u (List.mem_cons_of_mem _ hu)]; rfl
theorem mapO_cf {ts : List T} {n : Nat} {C : Sto} (h : CFs ts = true) : mapO (dr n C) ts = some ts := mapO_of fun t ht => dr_cf (CFs_iff.mp h t ht)
/-! == of like things -/
theorem eqT_int {n : Nat} {i j : Int} : eqT n (.int i) (.int j) = some (i == j) := by cases n <;> rfl
theorem eqT_bl {n : Nat} {i j : Bool} : eqT n (.bl i) (.bl j) = some (i == j) := by cases n <;> rfl
theorem bls?_of {α : Type} {xs : List α} {f : α → Bool} : bls? (xs.map fun x => T.bl (f x)) = some (xs.map f) := by
  rw [show (xs.map fun x => T.bl (f x)) = (xs.map f).map T.bl by simp]; exact bls?_map _
end TL
/-! TreeR -/
set_option linter.all false
namespace TL
open PySem L2
section
variable {τ : TSt} {C : Sto} {a b c f fe fo fi : FE} {fa fr fn : FN} {fb ga gb : FB} {F G : FS} {lo hi : FO}
variable {Q : T → Sto → Prop} {QL : List T → Sto → Prop} {QB : Bool → Sto → Prop} {QS : Fl → TSt → Sto → Prop} {QG : TSt → Prop} {Ql : List T → Prop} {QO : Option Int → Sto → Prop}
def wpP (f : FO) (τ : TSt) (C : Sto) (Q : Option Int → Sto → Prop) : Prop := ∃ o C', f τ C = some (o, C') ∧ Q o C'
theorem wpP_no : wpP fNoPart τ C QO ↔ QO none C := by
  unfold wpP fNoPart
  constructor
  · rintro ⟨_, _, e, q⟩; cases e; exact q
  · exact fun q => ⟨_, _, rfl, q⟩
theorem wpP_part : wpP (fPart a) τ C QO ↔ wpE a τ C fun t C1 => ∃ i, t = .int i ∧ QO (some i) C1 := by
  unfold wpP wpE fPart
  constructor
  · rintro ⟨t, C', e, q⟩
    obtain ⟨⟨x, C1⟩, e1, e⟩ := Option.bind_eq_some_iff.mp e
    dsimp only at e
    split at e
    · cases e; exact ⟨_, _, e1, _, rfl, q⟩
    · cases e
  · rintro ⟨x, C1, e1, y, rfl, q⟩
    exact ⟨some y, C1, by simp [e1], q⟩
theorem wpA_sl : wpA (fSl a lo hi) τ C QL ↔ wpE a τ C fun t C1 => wpP lo τ C1 fun l C2 => wpP hi τ C2 fun h C3 => ∃ ts, liT C3 t = some ts ∧ QL (cutT ts l h) C3 := by
  unfold wpA wpE wpP fSl
  constructor
  · rintro ⟨t, C', e, q⟩
    obtain ⟨⟨x, C1⟩, e1, e⟩ := Option.bind_eq_some_iff.mp e
    obtain ⟨⟨y, C2⟩, e2, e⟩ := Option.bind_eq_some_iff.mp e
    obtain ⟨⟨z, C3⟩, e3, e⟩ := Option.bind_eq_some_iff.mp e
    obtain ⟨ts, e4, e⟩ := Option.map_eq_some_iff.mp e
    cases e
    exact ⟨x, C1, e1, y, C2, e2, z, _, e3, ts, e4, q⟩
  · rintro ⟨x, C1, e1, y, C2, e2, z, C3, e3, ts, e4, q⟩
    exact ⟨_, C3, by simp [e1, e2, e3, e4], q⟩
theorem wpA_rev : wpA (fRev a) τ C QL ↔ wpE a τ C fun t C1 => ∃ ts, liT C1 t = some ts ∧ QL ts.reverse C1 := by
  unfold wpA wpE fRev
  constructor
  · rintro ⟨t, C', e, q⟩
    obtain ⟨⟨x, C1⟩, e1, e⟩ := Option.bind_eq_some_iff.mp e
    obtain ⟨ts, e4, e⟩ := Option.map_eq_some_iff.mp e
    cases e
    exact ⟨x, _, e1, ts, e4, q⟩
  · rintro ⟨x, C1, e1, ts, e4, q⟩
    exact ⟨_, C1, by simp [e1, e4], q⟩
theorem wpA_rep : wpA (fRep fa b) τ C QL ↔ wpA fa τ C fun us C1 => wpE b τ C1 fun t C2 => ∃ k, t = .int k ∧ (-(2 ^ 63) ≤ k ∧ k < 2 ^ 63 ∧ us.length * k.toNat ≤ lim) ∧ QL (List.replicate k.toNat us).flatten C2 := by
  unfold wpA wpE fRep
  constructor
  · rintro ⟨t, C', e, q⟩
    obtain ⟨⟨x, C1⟩, e1, e⟩ := Option.bind_eq_some_iff.mp e
    obtain ⟨⟨y, C2⟩, e2, e⟩ := Option.bind_eq_some_iff.mp e
    dsimp only at e
    split at e
    · split at e
      · cases e; exact ⟨_, _, e1, _, _, e2, _, rfl, ‹_›, q⟩
      · cases e
    · cases e
  · rintro ⟨x, C1, e1, y, C2, e2, k, rfl, h, q⟩
    exact ⟨_, C2, by rw [e1, Option.bind_some, e2, Option.bind_some]; exact if_pos h, q⟩
/-! slices of encoded lists -/
def cutG {α : Type} (xs : List α) (lo hi : Option Int) : List α := (xs.drop (HT.sIx xs.length 0 lo)).take (HT.sIx xs.length xs.length hi - HT.sIx xs.length 0 lo)
theorem cutT_map {α : Type} {f : α → T} {xs : List α} {l h : Option Int} : cutT (xs.map f) l h = (cutG xs l h).map f := by
  unfold cutT cutG
  simp [List.map_drop, List.map_take]
theorem cutG_mem {α : Type} {xs : List α} {l h : Option Int} {x : α} (m : x ∈ cutG xs l h) : x ∈ xs := List.mem_of_mem_drop (List.mem_of_mem_take m)
theorem cutG_len {α : Type} {xs : List α} {l h : Option Int} : (cutG xs l h).length ≤ xs.length := by
  unfold cutG
  simp; omega
/-! pairs, triples of ints as trees -/
def pT (p : Int × Int) : T := .lst [.int p.1, .int p.2]
def w3 (p : Int × Int × Int) : T := .lst [.int p.1, .int p.2.1, .int p.2.2]
def iT (ns : List Int) : T := .lst (ns.map T.int)
theorem pT_cf {p : Int × Int} : CF (pT p) = true := by simp [pT, CF_lst, CFs_cons, CFs_nil, CF_int]
theorem w3_cf {p : Int × Int × Int} : CF (w3 p) = true := by simp [w3, CF_lst, CFs_cons, CFs_nil, CF_int]
theorem CFs_pT {ps : List (Int × Int)} : CFs (ps.map pT) = true := CFs_map fun _ _ => pT_cf
theorem CFs_w3 {ps : List (Int × Int × Int)} : CFs (ps.map w3) = true := CFs_map fun _ _ => w3_cf
theorem eqL_enc {α : Type} [DecidableEq α] {e : T → T → Option Bool} {f : α → T} (h : ∀ x y, e (f x) (f y) = some (decide (x = y))) : ∀ {xs ys : List α}, xs.length = ys.length → eqL e (xs.map f) (ys.map f) = some (decide (xs = ys))
  | [], [], _ => rfl
  | x :: xs, y :: ys, hl => by
    rw [List.map_cons, List.map_cons]
    unfold eqL
    rw [h, Option.bind_some, eqL_enc h (by simpa using hl)]
    simp only [Option.map_some, List.cons.injEq, Bool.decide_and]
theorem eqT_enc {α : Type} [DecidableEq α] {n : Nat} {f : α → T} (h : ∀ x y, eqT n (f x) (f y) = some (decide (x = y))) {xs ys : List α} : eqT (n + 1) (.lst (xs.map f)) (.lst (ys.map f)) = some (decide (xs = ys)) := by
  unfold eqT
  by_cases hl : xs.length = ys.length
  · rw [if_pos (by simpa using hl), eqL_enc h hl]
  · rw [if_neg (by simpa using hl), decide_eq_false (fun z => hl (by rw [z]))]
theorem eqT_intd {n : Nat} {i j : Int} : eqT n (.int i) (.int j) = some (decide (i = j)) := by rw [eqT_int]; congr 1
theorem eqT_bld {n : Nat} {i j : Bool} : eqT n (.bl i) (.bl j) = some (decide (i = j)) := by rw [eqT_bl]; cases i <;> cases j <;> rfl
theorem eqT_pT {n : Nat} {p q : Int × Int} : eqT (n + 1) (pT p) (pT q) = some (decide (p = q)) := by
  have := eqT_enc (n := n) (f := T.int) (fun x y => eqT_intd) (xs := [p.1, p.2]) (ys := [q.1, q.2])
  obtain ⟨a, b⟩ := p
  obtain ⟨c, d⟩ := q
  simp only [List.map_cons, List.map_nil] at this
  unfold pT
  rw [this]
  simp
theorem eqT_w3 {n : Nat} {p q : Int × Int × Int} : eqT (n + 1) (w3 p) (w3 q) = some (decide (p = q)) := by
  have := eqT_enc (n := n) (f := T.int) (fun x y => eqT_intd) (xs := [p.1, p.2.1, p.2.2]) (ys := [q.1, q.2.1, q.2.2])
  obtain ⟨a, b, e⟩ := p
  obtain ⟨c, d, f⟩ := q
  simp only [List.map_cons, List.map_nil] at this
  unfold w3
  rw [this]
  simp
theorem eqT_iT {n : Nat} {p q : List Int} : eqT (n + 1) (iT p) (iT q) = some (decide (p = q)) := eqT_enc fun x y => eqT_intd
theorem inL_enc {α : Type} [DecidableEq α] {e : T → T → Option Bool} {f : α → T} (h : ∀ x y, e (f x) (f y) = some (decide (x = y))) {y : α} : ∀ {xs : List α}, inL (fun u => e u (f y)) (xs.map f) = some (decide (y ∈ xs))
  | [] => rfl
  | x :: xs => by
    rw [List.map_cons]
    unfold inL
    rw [h, Option.bind_some, inL_enc h]
    simp only [Option.map_some, Option.some.injEq, List.mem_cons, Bool.decide_or]
    congr 1
    by_cases z : x = y
    · simp [z]
    · simp [z, show ¬ y = x from fun q => z q.symm]
theorem wpO_inE {α : Type} [DecidableEq α] {n : Bool} {f : α → T} {y : α} {xs : List α} [Decidable (y ∈ xs)] {t u : T} (h : ∀ x y, eqT 5 (f x) (f y) = some (decide (x = y))) (hc : ∀ x, CF (f x) = true) (ht : dr 3 C t = some (f y)) (hu : liT C u = some (xs.map f)) :
    wpO (gIn n t u C) Q ↔ Q (.bl (if n then !decide (y ∈ xs) else decide (y ∈ xs))) C := by
  rw [wpO_in, ex_some ht, ex_some hu, ex_some (mapO_cf (CFs_map fun x _ => hc x)), ex_some ((inL_enc h).trans (congrArg some (decide_eq_decide.mpr Iff.rfl)))]
theorem wpO_eqE {α : Type} [DecidableEq α] {n : Bool} {f : α → T} {x y : α} {t u : T} (h : ∀ x y, eqT 5 (f x) (f y) = some (decide (x = y))) (ht : dr 3 C t = some (f x)) (hu : dr 3 C u = some (f y)) :
    wpO (gEq n t u C) Q ↔ Q (.bl (if n then !decide (x = y) else decide (x = y))) C := by
  rw [wpO_eq, ex_some ht, ex_some hu, ex_some (h x y)]
theorem wpO_eqI {i j : Int} : wpO (gEq false (.int i) (.int j) C) Q ↔ Q (.bl (decide (i = j))) C := wpO_eqE (f := T.int) (fun _ _ => eqT_intd) (dr_cf CF_int) (dr_cf CF_int)
theorem wpO_neI {i j : Int} : wpO (gEq true (.int i) (.int j) C) Q ↔ Q (.bl (!decide (i = j))) C := wpO_eqE (f := T.int) (fun _ _ => eqT_intd) (dr_cf CF_int) (dr_cf CF_int)
theorem wpO_eqB {i j : Bool} : wpO (gEq false (.bl i) (.bl j) C) Q ↔ Q (.bl (decide (i = j))) C := wpO_eqE (f := T.bl) (fun _ _ => eqT_bld) (dr_cf CF_bl) (dr_cf CF_bl)
theorem wpO_neB {i j : Bool} : wpO (gEq true (.bl i) (.bl j) C) Q ↔ Q (.bl (!decide (i = j))) C := wpO_eqE (f := T.bl) (fun _ _ => eqT_bld) (dr_cf CF_bl) (dr_cf CF_bl)
theorem wpO_inI {n : Bool} {i : Int} {u : T} {ns : List Int} (h : liT C u = some (ns.map T.int)) : wpO (gIn n (.int i) u C) Q ↔ Q (.bl (if n then !decide (i ∈ ns) else decide (i ∈ ns))) C := wpO_inE (f := T.int) (fun _ _ => eqT_intd) (fun _ => CF_int) (dr_cf CF_int) h
theorem wpO_inP {n : Bool} {i j : Int} {u : T} {ns : List (Int × Int)} (h : liT C u = some (ns.map pT)) : wpO (gIn n (.lst [.int i, .int j]) u C) Q ↔ Q (.bl (if n then !decide ((i, j) ∈ ns) else decide ((i, j) ∈ ns))) C :=
  wpO_inE (f := pT) (y := (i, j)) (fun _ _ => eqT_pT) (fun _ => pT_cf) (show dr 3 C (.lst [.int i, .int j]) = some (pT (i, j)) from dr_cf (pT_cf (p := (i, j)))) h
theorem wpO_inIl {n : Bool} {i : Int} {ns : List Int} : wpO (gIn n (.int i) (.lst (ns.map T.int)) C) Q ↔ Q (.bl (if n then !decide (i ∈ ns) else decide (i ∈ ns))) C := wpO_inI rfl
theorem wpO_inPl {n : Bool} {i j : Int} {ns : List (Int × Int)} : wpO (gIn n (.lst [.int i, .int j]) (.lst (ns.map pT)) C) Q ↔ Q (.bl (if n then !decide ((i, j) ∈ ns) else decide ((i, j) ∈ ns))) C := wpO_inP rfl
theorem ifB_f {x y : Bool} : (if false = true then x else y) = y := rfl
theorem ifB_t {x y : Bool} : (if true = true then x else y) = x := rfl
instance {k : Nat} {n : Int} : Decidable (Bt k n) := by unfold Bt; infer_instance
theorem Bt.zero {k : Nat} : Bt k 0 := Nat.two_pow_pos k
theorem Bt.sml {k : Nat} {n : Int} (h0 : 0 ≤ n) (h : n < 1024) (hk : 10 ≤ k) : Bt k n := (Bt.of_lt (k := 10) h0 h).mono hk
theorem wpO_maxD {t : T} {d : Int} : wpO (gMaxD t (.int d) C) Q ↔ ∃ us, liT C t = some us ∧ ∃ ns, ints? us = some ns ∧ Q (.int (maxD d ns)) C := by
  unfold wpO gMaxD
  constructor
  · rintro ⟨t, C', e, q⟩
    obtain ⟨us, e1, e⟩ := Option.bind_eq_some_iff.mp e
    obtain ⟨ns, e2, e⟩ := Option.map_eq_some_iff.mp e
    cases e
    exact ⟨us, e1, ns, e2, q⟩
  · rintro ⟨us, e1, ns, e2, q⟩
    exact ⟨_, C, by simp [e1, e2], q⟩
theorem liT_lst {ts : List T} : liT C (.lst ts) = some ts := rfl
theorem liT_cell {c : Nat} : liT C (.cell c) = C[c]? := rfl
theorem sqT_lst {ts : List T} : sqT C (.lst ts) = some ts := rfl
theorem sqT_cell {c : Nat} : sqT C (.cell c) = C[c]? := rfl
theorem sqT_tup {ts : List T} : sqT C (.tup ts) = some ts := rfl
theorem sqT_pT {p : Int × Int} : sqT C (pT p) = some [.int p.1, .int p.2] := rfl
theorem sqT_w3 {p : Int × Int × Int} : sqT C (w3 p) = some [.int p.1, .int p.2.1, .int p.2.2] := rfl
theorem sqT_iT {p : List Int} : sqT C (iT p) = some (p.map T.int) := rfl
theorem liT_iT {p : List Int} : liT C (iT p) = some (p.map T.int) := rfl
theorem liT_pT {p : Int × Int} : liT C (pT p) = some [.int p.1, .int p.2] := rfl
theorem liT_w3 {p : Int × Int × Int} : liT C (w3 p) = some [.int p.1, .int p.2.1, .int p.2.2] := rfl
theorem wpO_index {t : T} {k : Int} : wpO (gIndex t (.int k) C) Q ↔ ∃ us, liT C t = some us ∧ ∃ ns, ints? us = some ns ∧ k ∈ ns ∧ Q (.int (ns.idxOf k : Nat)) C := by
  unfold wpO gIndex
  constructor
  · rintro ⟨t, C', e, q⟩
    obtain ⟨us, e1, e⟩ := Option.bind_eq_some_iff.mp e
    obtain ⟨ns, e2, e⟩ := Option.bind_eq_some_iff.mp e
    split at e
    · cases e; exact ⟨us, e1, ns, e2, ‹_›, q⟩
    · cases e
  · rintro ⟨us, e1, ns, e2, h, q⟩
    exact ⟨_, C, by simp [e1, e2, h], q⟩
theorem wpS_forRv {g : FG} : wpS (fForRv a g F) τ C QS ↔ wpE a τ C fun t C1 => ∃ ts, liT C1 t = some ts ∧ wpS (forGo (stays t ts) g F ts.reverse) τ C1 QS := by
  unfold wpE wpS fForRv
  constructor
  · rintro ⟨l, t, C', e, q⟩
    obtain ⟨⟨x, C1⟩, e1, e⟩ := Option.bind_eq_some_iff.mp e
    obtain ⟨ts, e2, e⟩ := Option.bind_eq_some_iff.mp e
    exact ⟨x, C1, e1, ts, e2, l, t, C', e, q⟩
  · rintro ⟨x, C1, e1, ts, e2, l, t, C', e, q⟩
    exact ⟨l, t, C', by simp [e1, e2, e], q⟩
def frzQ (Q : Fl → TSt → Sto → Prop) (l : Fl) (τ : TSt) (C : Sto) : Prop := match l with
  | .nx => ∃ τ2, frz C τ = some τ2 ∧ Q .nx τ2 []
  | l => Q l τ C
theorem wpS_frz : wpS (fFrz F) τ C QS ↔ wpS F τ C (frzQ QS) := by
  unfold wpS fFrz
  constructor
  · rintro ⟨l, t, C', e, q⟩
    obtain ⟨⟨l1, t1, C1⟩, e1, e⟩ := Option.bind_eq_some_iff.mp e
    refine ⟨l1, t1, C1, e1, ?_⟩
    cases l1 with
    | nx =>
      obtain ⟨u, e2, e⟩ := Option.map_eq_some_iff.mp e
      cases e; exact ⟨_, e2, q⟩
    | _ => cases e; exact q
  · rintro ⟨l1, t1, C1, e1, h⟩
    cases l1 with
    | nx =>
      obtain ⟨τ2, e2, q⟩ := h
      exact ⟨_, _, _, by simp [e1, e2], q⟩
    | _ => exact ⟨_, t1, C1, by rw [e1]; rfl, h⟩
theorem frzQ_nx : frzQ QS .nx τ C ↔ ∃ τ2, frz C τ = some τ2 ∧ QS .nx τ2 [] := Iff.rfl
theorem frzQ_rt {t : T} : frzQ QS (.rt t) τ C ↔ QS (.rt t) τ C := Iff.rfl
theorem tru_bl {b : Bool} : truT C (.bl b) = some b := rfl
end
theorem runT_wpE {B : FS} {m : Nat} {ts : List T} {P : T → Prop} (h : wpS B (st0 m ts) [] fun l τ C => match l with
    | .rt r => ∃ t, dr 3 C r = some t ∧ P t
    | .nx => P .non
    | _ => False) : ∃ t, runT B m ts = some t ∧ P t := by
  obtain ⟨l, τ, C, e, q⟩ := h
  unfold runT
  rw [e]
  cases l with
  | nx => exact ⟨_, rfl, q⟩
  | rt r => exact q
  | _ => exact q.elim
theorem insAt_lenT {α : Type} {xs : List α} {i : Int} {y : α} : (insAt xs i y).length = xs.length + 1 := by
  unfold insAt
  rw [List.length_append, List.length_cons, List.length_take, List.length_drop]
  omega
theorem insAt_permT {α : Type} {xs : List α} {i : Int} {y : α} : (insAt xs i y).Perm (y :: xs) := by
  unfold insAt
  refine List.perm_middle.trans ?_
  rw [List.take_append_drop]
theorem emod_b {x m : Int} (h : 0 < m) : 0 ≤ x % m ∧ x % m < m := ⟨Int.emod_nonneg _ (by omega), Int.emod_lt_of_pos _ h⟩
theorem mulOk_s {x y : Int} (h0 : 0 ≤ x) (h : x < 1024) : mulOkB x y = true := mulOk_l (Bt.sml h0 h (by decide))
theorem mulOk_t {x y : Int} (h0 : 0 ≤ y) (h : y < 1024) : mulOkB x y = true := mulOk_r (Bt.sml h0 h (by decide))
theorem decT {p : Prop} [Decidable p] (h : p) : decide p = true := decide_eq_true h
theorem dr_i {n : Nat} {C : Sto} {vs : List Int} : dr n C (.lst (vs.map T.int)) = some (.lst (vs.map T.int)) := dr_cf (by rw [CF_lst]; exact CFs_ints)
theorem dr_p {n : Nat} {C : Sto} {vs : List (Int × Int)} : dr n C (.lst (vs.map pT)) = some (.lst (vs.map pT)) := dr_cf (by rw [CF_lst]; exact CFs_pT)
theorem dr_w {n : Nat} {C : Sto} {vs : List (Int × Int × Int)} : dr n C (.lst (vs.map w3)) = some (.lst (vs.map w3)) := dr_cf (by rw [CF_lst]; exact CFs_w3)
theorem wpO_eqIl {n : Bool} {xs ys : List Int} {C : Sto} {Q : T → Sto → Prop} : wpO (gEq n (.lst (xs.map T.int)) (.lst (ys.map T.int)) C) Q ↔ Q (.bl (if n then !decide (xs = ys) else decide (xs = ys))) C := wpO_eqE (f := iT) (fun _ _ => eqT_iT) dr_i dr_i
theorem wpO_eqPl {n : Bool} {xs ys : List (Int × Int)} {C : Sto} {Q : T → Sto → Prop} : wpO (gEq n (.lst (xs.map pT)) (.lst (ys.map pT)) C) Q ↔ Q (.bl (if n then !decide (xs = ys) else decide (xs = ys))) C := wpO_eqE (f := fun xs : List (Int × Int) => T.lst (xs.map pT)) (fun _ _ => eqT_enc fun _ _ => eqT_pT) dr_p dr_p
theorem wpO_eqWl {n : Bool} {xs ys : List (Int × Int × Int)} {C : Sto} {Q : T → Sto → Prop} : wpO (gEq n (.lst (xs.map w3)) (.lst (ys.map w3)) C) Q ↔ Q (.bl (if n then !decide (xs = ys) else decide (xs = ys))) C := wpO_eqE (f := fun xs : List (Int × Int × Int) => T.lst (xs.map w3)) (fun _ _ => eqT_enc fun _ _ => eqT_w3) dr_w dr_w
end TL
section
open PySem L2 TL
local macro_rules
  | `(tactic| simp_arith [$xs,*]) => do
    let xs : Lean.TSyntaxArray [`Lean.Parser.Tactic.simpStar, `Lean.Parser.Tactic.simpErase, `Lean.Parser.Tactic.simpLemma] := xs
    `(tactic| simp (maxSteps := 2000000) (disch := first | assumption | decide) only [↓wpS_frz, ↓frzQ_nx, ↓frzQ_rt, ↓wpO_index, ↓wpS_forRv, ↓sqT_pT, ↓sqT_w3, ↓sqT_iT, ↓liT_iT, ↓liT_pT, ↓liT_w3, ↓wpO_maxD, if_true, if_false, Bool.false_eq_true, ↓wpO_eqIl, ↓wpO_eqPl, ↓wpO_eqWl, ↓wpO_inIl, ↓wpO_inPl, ifB_f, ifB_t, ↓wpP_no, ↓wpP_part, ↓wpA_sl, ↓wpA_rev, ↓wpA_rep, ↓wpO_eqI, ↓wpO_neI, ↓wpO_eqB, ↓wpO_neB, ↓wpE_var, ↓wpE_C, ↓wpE_bin, ↓wpE_un, ↓wpA_binN, ↓wpA_nil, ↓wpA_cons, ↓wpE_arg, ↓wpA_argN, ↓wpA_disp, ↓wpE_tree, ↓wpE_cell, ↓wpO_I, ↓wpO_some, ↓wpO_Ic, ↓wpO_ix, ↓wpO_len, ↓wpL_list, ↓wpL_cat, ↓wpO_ints, ↓wpO_bls, ↓wpO_min2, ↓wpO_max2, ↓wpO_dm, ↓wpO_int1, ↓wpO_int1b, ↓wpO_neg, ↓wpO_isB, ↓wpE_isi, ↓wpB_tst, ↓wpB_tru, ↓wpB_true, ↓wpB_and, ↓wpB_or, ↓wpB_not, ↓wpE_and, ↓wpE_or, ↓wpE_not, ↓wpE_ite, ↓wpE_chain, ↓wpS_next, ↓wpS_retN, ↓wpS_seq, ↓sq_nx, ↓sq_rt, ↓sq_bk, ↓sq_ct, ↓sq_ex, ↓wpS_if, ↓wpS_ret, ↓wpS_drop, ↓wpS_asg, ↓wpG_n, ↓wpG_u, ↓wpS_setI, ↓wpS_mut, ↓wpL_app, ↓wpL_ins, ↓wpS_for, ↓wpS_forR1, ↓wpS_forR2, ↓wpA_comp, ↓wpA_compR1, ↓wpA_compZ, ↓wpR_some, ↓wpL_some, List.getElem?_cons_zero, List.getElem?_cons_succ, List.set_cons_zero, List.set_cons_succ, List.length_cons, List.length_nil, List.nil_append, List.cons_append, Option.some.injEq, T.int.injEq, T.bl.injEq, T.lst.injEq, T.cell.injEq, T.tup.injEq, exists_eq_left, exists_eq_left', exists_and_left, setAll, sqT_lst, sqT_cell, sqT_tup, liT_lst, liT_cell, and_true, true_and, Nat.reduceAdd, $xs,*])
/-! SpecA -/
set_option linter.all false
set_option maxRecDepth 100000
namespace Lib
open PySem L2 TL
abbrev Bg (n : Int) : Prop := Bt 1100000 n
theorem Bg.of {n : Int} {k : Nat} (h : Bt k n) (hk : k ≤ 1100000) : Bg n := h.mono hk
def mix1 (a k : Int) : Int := (a * a + k * a + 7 * k * k) * 1103515245 % 2147483629
theorem mix1_eq {a k : Int} (h : Bg a) (hk : Bt 60 k) : R_mix1 [.int a, .int k] = some (.int (mix1 a k)) := by
  apply runT_wp
  unfold B_mix1
  (simp only [st0, List.map_cons, List.map_nil, List.length_cons, List.length_nil, Nat.reduceAdd, Nat.reduceSub, List.replicate, List.append_nil, List.cons_append, List.nil_append])
  simp_arith [if_true]
  have h7 : Bt 4 7 := .of_lt (by decide) (by decide)
  exact ⟨mulOkP h h (by decide), mulOk_l (hk.mono (by decide)), mulOk_l (h7.mono (by decide)), mulOk_r (hk.mono (by decide)), mulOk_r (.of_lt (by decide) (by decide)), rfl, rfl⟩
theorem wpO_mix1 {a k : Int} {C : Sto} {Q : T → Sto → Prop} (h : Bg a) (hk : Bt 60 k) : wpO (gCall 2 R_mix1 [.int a, .int k] C) Q ↔ Q (.int (mix1 a k)) C := wpO_callE (mix1_eq h hk) rfl (by (simp only [CFs_cons, CFs_nil, CF_int, CF_bl, CF_lst, CF_tup, CF_non, CF_str, CFs_ints, Bool.and_true, Bool.and_self]))
end Lib
/-! SpecB -/
set_option linter.all false
set_option maxRecDepth 100000
namespace TL
open PySem L2
section
variable {τ : TSt} {C : Sto} {c : FB} {F : FS} {Q : Fl → TSt → Sto → Prop}
end
end TL
namespace Lib
open PySem L2 TL
end Lib
/-! SpecX -/
set_option linter.all false
set_option maxRecDepth 100000
namespace TL
open PySem L2
section
variable {τ : TSt} {C : Sto} {fa : FN} {x : XF} {F : FS} {Q : Fl → TSt → Sto → Prop} {c : String}
theorem wpS_raise : wpS (fRaise c fa) τ C Q ↔ wpA fa τ C fun ts C1 => ts.length ≤ 10 ∧ Q (.ex c) τ C1 := by
  unfold wpS wpA fRaise
  constructor
  · rintro ⟨l, t, C', e, q⟩
    obtain ⟨⟨ts, C1⟩, e1, e⟩ := Option.bind_eq_some_iff.mp e
    split at e
    · rename_i h
      cases e
      exact ⟨ts, _, e1, h, q⟩
    · cases e
  · rintro ⟨ts, C1, e1, h, q⟩
    exact ⟨_, _, _, by rw [e1]; exact if_pos h, q⟩
theorem wpS_fXs {C' : Sto} (h : x τ C = some (c, C')) : wpS (fX x F) τ C Q ↔ Q (.ex c) τ C' := by
  unfold wpS fX
  rw [h]
  constructor
  · rintro ⟨l, t, C', e, q⟩; cases e; exact q
  · exact fun q => ⟨_, _, _, rfl, q⟩
theorem xCall_of {n : Nat} {G : List T → Option String} {ts : List T} {C' : Sto} (h : fa τ C = some (ts, C')) (hl : ts.length = n) (hc : CFs ts = true) : xCall n G fa τ C = (G ts).map fun c => (c, C') := by
  unfold xCall gX
  rw [h, Option.bind_some]
  dsimp only
  rw [if_pos hl, if_pos hc]
theorem runX_wp {B : FS} {m : Nat} {ts : List T} (h : wpS B (st0 m ts) [] fun l _ _ => l = .ex c) : runX B m ts = some c := by
  obtain ⟨l, t, C', e, q⟩ := h
  subst q
  unfold runX
  rw [e]
theorem wpS_try {tab : String → List String} {dn : String} {i : Nat} {G : FS} (h : wpS F τ C fun l τ1 C1 => match l with
      | .ex c => (tab c).contains dn = true ∧ wpS G (τ1.set i (some (.exc c))) C1 fun l2 τ2 C2 => (match l2 with
          | .ex _ => False
          | l2 => Q l2 (τ2.set i none) C2)
      | l => Q l τ1 C1) : wpS (fTry tab dn i F G) τ C Q := by
  obtain ⟨l, τ1, C1, e, q⟩ := h
  unfold wpS fTry
  cases l with
  | ex c =>
    obtain ⟨hc, l2, τ2, C2, e2, q2⟩ := q
    cases l2 with
    | ex _ => exact q2.elim
    | nx => exact ⟨.nx, _, _, by rw [e, Option.bind_some]; dsimp only; rw [if_pos hc, e2]; rfl, q2⟩
    | bk => exact ⟨.bk, _, _, by rw [e, Option.bind_some]; dsimp only; rw [if_pos hc, e2]; rfl, q2⟩
    | ct => exact ⟨.ct, _, _, by rw [e, Option.bind_some]; dsimp only; rw [if_pos hc, e2]; rfl, q2⟩
    | rt v => exact ⟨.rt v, _, _, by rw [e, Option.bind_some]; dsimp only; rw [if_pos hc, e2]; rfl, q2⟩
  | nx => exact ⟨.nx, τ1, C1, by rw [e]; rfl, q⟩
  | bk => exact ⟨.bk, τ1, C1, by rw [e]; rfl, q⟩
  | ct => exact ⟨.ct, τ1, C1, by rw [e]; rfl, q⟩
  | rt v => exact ⟨.rt v, τ1, C1, by rw [e]; rfl, q⟩
theorem wpE_isx {tab : String → List String} {ds : List String} {a : FE} {Q : T → Sto → Prop} : wpE (fIsx tab ds a) τ C Q ↔ wpE a τ C fun t C1 => ∃ b, isxT tab ds t = some b ∧ Q (.bl b) C1 := by
  unfold fIsx
  rw [wpE_un]
  unfold wpO wpE
  constructor
  · rintro ⟨t, C1, e, u, C2, e2, q⟩
    obtain ⟨b, e3, e4⟩ := Option.map_eq_some_iff.mp e2
    cases e4
    exact ⟨t, _, e, b, e3, q⟩
  · rintro ⟨t, C1, e, b, e3, q⟩
    exact ⟨t, C1, e, _, _, by rw [e3]; rfl, q⟩
end
end TL
/-! SpecC -/
set_option linter.all false
set_option maxRecDepth 100000
namespace Lib
open PySem L2 TL
structure Rk (m : Nat) (rs : List Int) : Prop where
  len : rs.length = m
  nd : rs.Nodup
  rng : ∀ x ∈ rs, 0 ≤ x ∧ x < m
theorem Rk.ins {m : Nat} {rs : List Int} {q : Int} (h : Rk m rs) : Rk (m + 1) (insAt rs q m) := by
  have p := insAt_permT (xs := rs) (i := q) (y := (m : Int))
  refine ⟨by rw [insAt_lenT, h.len], p.nodup_iff.mpr (List.nodup_cons.mpr ⟨fun z => ?_, h.nd⟩), fun x hx => ?_⟩
  · have := h.rng _ z; omega
  · rcases List.mem_cons.mp (p.mem_iff.mp hx) with rfl | hx
    · omega
    · have := h.rng _ hx; omega
end Lib
/-! SpecD -/
set_option linter.all false
set_option maxRecDepth 100000
namespace Lib
open PySem L2 TL
def Mx (S : Int → Prop) (d : Int) : Prop := 0 ≤ d ∧ (∀ x, S x → x ≤ d) ∧ (d = 0 ∨ S d)
theorem Mx.add {S S' : Int → Prop} {d y : Int} (h : Mx S d) (hs : ∀ x, S' x ↔ S x ∨ x = y) : Mx S' (max d y) := by
  obtain ⟨a1, a2, a3⟩ := h
  refine ⟨by omega, fun x hx => ?_, ?_⟩
  · rcases (hs x).mp hx with hx | rfl
    · have := a2 x hx; omega
    · omega
  · by_cases hd : y ≤ d
    · rw [Int.max_eq_left hd]
      rcases a3 with a3 | a3
      · exact .inl a3
      · exact .inr ((hs d).mpr (.inl a3))
    · rw [Int.max_eq_right (by omega)]
      exact .inr ((hs y).mpr (.inr rfl))
theorem Mx.same {S S' : Int → Prop} {d : Int} (h : Mx S d) (hs : ∀ x, S' x ↔ S x) : Mx S' d := ⟨h.1, fun x hx => h.2.1 x ((hs x).mp hx), h.2.2.imp id (hs d).mpr⟩
theorem Mx.nil {S : Int → Prop} (h : ∀ x, ¬ S x) : Mx S 0 := ⟨Int.le_refl _, fun x hx => (h x hx).elim, .inl rfl⟩
end Lib
/-! SpecE -/
set_option linter.all false
set_option maxRecDepth 100000
namespace Lib
open PySem L2 TL
def Chn (ps : List (Int × Int)) (ws : List Int) : Prop := ∀ (j : Nat) (x y : Int), ws[j]? = some x → ws[j + 1]? = some y → (x, y) ∈ ps
theorem Chn.cons {ps : List (Int × Int)} {ws : List Int} {a w : Int} (h : Chn ps (w :: ws)) (ha : (a, w) ∈ ps) : Chn ps (a :: w :: ws) := by
  intro j x y ex ey
  cases j with
  | zero =>
    simp at ex ey
    subst ex ey
    exact ha
  | succ j => exact h j x y (by simpa using ex) (by simpa using ey)
end Lib
/-! SpecF -/
set_option linter.all false
set_option maxRecDepth 100000
set_option maxHeartbeats 4000000
namespace Lib
open PySem L2 TL
end Lib
/-! SpecG -/
set_option linter.all false
set_option maxRecDepth 100000
namespace TL
open PySem L2
section
variable {τ : TSt} {C : Sto} {fo fi fe : FE} {fa : FN} {Q : T → Sto → Prop} {QS : Fl → TSt → Sto → Prop}
theorem wpS_augI : wpS (fAugI fo fi fe) τ C QS ↔ wpE fo τ C fun y C1 => wpE fi τ C1 fun z C2 => ∃ k i, y = .cell k ∧ z = .int i ∧ ∃ ts, C2[k]? = some ts ∧ ∃ x, atI ts i = some (.int x) ∧ wpE fe τ C2 fun w C3 => ∃ v, w = .int v ∧ ∃ us, C3[k]? = some us ∧ ∃ j, ixN us.length i = some j ∧ QS .nx τ (C3.set k (us.set j (.int (x + v)))) := by
  unfold wpE wpS fAugI
  constructor
  · rintro ⟨l, t, C', e, q⟩
    obtain ⟨⟨t1, C1⟩, e1, e⟩ := Option.bind_eq_some_iff.mp e
    obtain ⟨⟨t2, C2⟩, e2, e⟩ := Option.bind_eq_some_iff.mp e
    dsimp only at e
    split at e
    · obtain ⟨ts, e3, e⟩ := Option.bind_eq_some_iff.mp e
      obtain ⟨old, e4, e⟩ := Option.bind_eq_some_iff.mp e
      split at e
      · obtain ⟨⟨t3, C3⟩, e5, e⟩ := Option.bind_eq_some_iff.mp e
        dsimp only at e
        split at e
        · obtain ⟨us, e6, e⟩ := Option.bind_eq_some_iff.mp e
          obtain ⟨j, e7, e⟩ := Option.map_eq_some_iff.mp e
          cases e
          exact ⟨_, _, e1, _, _, e2, _, _, rfl, rfl, ts, e3, _, e4, _, _, e5, _, rfl, us, e6, j, e7, q⟩
        · cases e
      · cases e
    · cases e
  · rintro ⟨_, _, e1, _, _, e2, k, i, rfl, rfl, ts, e3, x, e4, _, _, e5, v, rfl, us, e6, j, e7, q⟩
    exact ⟨_, _, _, by rw [e1, Option.bind_some, e2, Option.bind_some]; dsimp only; rw [e3, Option.bind_some, e4, Option.bind_some]; dsimp only; rw [e5, Option.bind_some]; dsimp only; rw [e6, Option.bind_some, e7]; rfl, q⟩
theorem wpO_is0n : wpO (gIs0 .non .non C) Q ↔ Q (.bl true) C := by
  unfold wpO gIs0
  constructor
  · rintro ⟨_, _, e, q⟩; cases e; exact q
  · exact fun q => ⟨_, _, rfl, q⟩
theorem wpO_is0x {c : String} : wpO (gIs0 (.exc c) .non C) Q ↔ Q (.bl false) C := by
  unfold wpO gIs0
  constructor
  · rintro ⟨_, _, e, q⟩; cases e; exact q
  · exact fun q => ⟨_, _, rfl, q⟩
theorem wpE_tupD : wpE (fTupD fa) τ C Q ↔ wpA fa τ C fun ts C1 => ts.length ≤ lim ∧ Q (.tup ts) C1 := by
  unfold wpE wpA fTupD fArg
  constructor
  · rintro ⟨t, C', e, q⟩
    obtain ⟨⟨ts, C1⟩, e1, e⟩ := Option.bind_eq_some_iff.mp e
    dsimp only at e
    split at e
    · cases e; exact ⟨ts, _, e1, ‹_›, q⟩
    · cases e
  · rintro ⟨ts, C1, e1, h, q⟩
    exact ⟨_, _, by rw [e1]; exact if_pos h, q⟩
theorem wpO_dmB {i j : Int} : wpO (gDmB [.int i, .int j] C) Q ↔ (0 < j ∧ j < 2 ^ 250) ∧ Q (.tup [.int (i / j), .int (i % j)]) C := by
  unfold wpO gDmB
  constructor
  · rintro ⟨t, C', e, q⟩
    dsimp only at e
    split at e
    · cases e; exact ⟨‹_›, q⟩
    · cases e
  · rintro ⟨h, q⟩
    exact ⟨_, _, if_pos h, q⟩
end
end TL
namespace Lib
open PySem L2 TL
end Lib
/-! SpecY -/
set_option linter.all false
set_option maxRecDepth 100000
namespace Lib
open PySem L2 TL
end Lib
/-! SpecS -/
set_option linter.all false
set_option maxRecDepth 100000
namespace TL
open PySem L2
section
variable {τ : TSt} {C : Sto} {a b f fe : FE} {lo hi : FO} {fb : FB} {F : FS} {x y z : Str} {i : Int}
variable {Q : T → Sto → Prop} {QL : List T → Sto → Prop} {QS : Fl → TSt → Sto → Prop}
theorem wpO_inS : wpO (gInS (.str x) (.str y) C) Q ↔ Q (.bl (inS y x)) C := wpO_some
theorem wpO_ninS : wpO (gNinS (.str x) (.str y) C) Q ↔ Q (.bl (!(inS y x))) C := wpO_some
theorem wpO_ifS {c : Prop} [Decidable c] {t : T} : wpO (if c then some (t, C) else none) Q ↔ c ∧ Q t C := by
  by_cases h : c
  · rw [if_pos h]; exact ⟨fun q => ⟨h, wpO_some.mp q⟩, fun q => wpO_some.mpr q.2⟩
  · rw [if_neg h]; exact ⟨fun ⟨_, _, e, _⟩ => (nomatch e), fun q => absurd q.1 h⟩
theorem wpO_addS : wpO (gAddS (.str x) (.str y) C) Q ↔ x.length + y.length ≤ lim ∧ Q (.str (x ++ y)) C := wpO_ifS
theorem wpO_mulS : wpO (gMulS (.str x) (.int i) C) Q ↔ ((0 ≤ i ∧ i ≤ 100) ∧ x.length ≤ 100) ∧ Q (.str (Txt.mul x i)) C := wpO_ifS
theorem wpO_lenS : wpO (gLenS [.str x] C) Q ↔ x.length ≤ lim ∧ Q (.int x.length) C := wpO_ifS
theorem wpO_strI : wpO (gStrI [.int i] C) Q ↔ i.natAbs.log2 < 1920 ∧ Q (.str (toString i)) C := wpO_ifS
theorem wpO_staS : wpO (gStaS (.str x) (.str y) C) Q ↔ Q (.bl (Txt.startswith x y)) C := wpO_some
theorem wpO_ixS : wpO (gIxS (.str z) (.int i) C) Q ↔ z.length ≤ lim ∧ ∃ c, atI z.cps.toList i = some c ∧ Q (.str ⟨#[c]⟩) C := by
  show wpO (if z.length ≤ lim then (atI z.cps.toList i).map (fun c => (T.str ⟨#[c]⟩, C)) else none) Q ↔ _
  unfold wpO
  constructor
  · rintro ⟨t, C', e, q⟩
    split at e
    · obtain ⟨c, e1, e⟩ := Option.map_eq_some_iff.mp e
      cases e
      exact ⟨‹_›, c, e1, q⟩
    · cases e
  · rintro ⟨h, c, e, q⟩
    exact ⟨_, _, by rw [if_pos h, e]; rfl, q⟩
theorem wpO_intS : wpO (gIntS [.str z] C) Q ↔ z.length ≤ 640 ∧ ∃ n, intText? z = some n ∧ Q (.int n) C := by
  show wpO (if z.length ≤ 640 then (intText? z).map (fun n => (T.int n, C)) else none) Q ↔ _
  unfold wpO
  constructor
  · rintro ⟨t, C', e, q⟩
    split at e
    · obtain ⟨c, e1, e⟩ := Option.map_eq_some_iff.mp e
      cases e
      exact ⟨‹_›, c, e1, q⟩
    · cases e
  · rintro ⟨h, c, e, q⟩
    exact ⟨_, _, by rw [if_pos h, e]; rfl, q⟩
theorem wpO_fndS {n : Nat} {r : List Nat} (e : Builtin.Str.occurrences x y 0 x.length 1 = n :: r) : wpO (gFndS (.str x) (.str y) C) Q ↔ Q (.int (n : Nat)) C := by
  have : gFndS (.str x) (.str y) C = some (.int (n : Nat), C) := by
    show (match Builtin.Str.occurrences x y 0 x.length 1 with
      | i :: _ => some (T.int (i : Nat), C)
      | [] => none) = _
    rw [e]
  rw [this]; exact wpO_some
theorem wpO_eqS : wpO (gEq false (.str x) (.str y) C) Q ↔ Q (.bl (x == y)) C := by
  rw [wpO_eq, ex_some (dr_cf CF_str), ex_some (dr_cf CF_str), ex_some (show eqT 5 (.str x) (.str y) = some (x == y) from rfl)]; rfl
theorem wpO_neS : wpO (gEq true (.str x) (.str y) C) Q ↔ Q (.bl (!(x == y))) C := by
  rw [wpO_eq, ex_some (dr_cf CF_str), ex_some (dr_cf CF_str), ex_some (show eqT 5 (.str x) (.str y) = some (x == y) from rfl)]; rfl
theorem strs?_map : ∀ {xs : List Str}, strs? (xs.map T.str) = some xs
  | [] => rfl
  | x :: xs => by
    show (strs? (xs.map T.str)).map (x :: ·) = _
    rw [strs?_map]; rfl
theorem wpO_joiS {xs : List Str} : wpO (gJoiS (.str x) (.lst (xs.map T.str)) C) Q ↔ JoinOk x xs = true ∧ Q (.str (Txt.join x xs)) C := by
  have : gJoiS (.str x) (.lst (xs.map T.str)) C = if JoinOk x xs = true then some (.str (Txt.join x xs), C) else none := by
    show ((strs? (xs.map T.str)).bind fun ys => if JoinOk x ys = true then some (T.str (Txt.join x ys), C) else none) = _
    rw [strs?_map]; rfl
  rw [this]; exact wpO_ifS
theorem wpE_slS : wpE (fSlS a lo hi) τ C Q ↔ wpE a τ C fun t C1 => wpP lo τ C1 fun l C2 => wpP hi τ C2 fun h C3 => ∃ z, t = .str z ∧ z.length ≤ lim ∧ Q (.str (Txt.slice z l h)) C3 := by
  unfold wpE wpP fSlS
  constructor
  · rintro ⟨t, C', e, q⟩
    obtain ⟨⟨x, C1⟩, e1, e⟩ := Option.bind_eq_some_iff.mp e
    obtain ⟨⟨y, C2⟩, e2, e⟩ := Option.bind_eq_some_iff.mp e
    obtain ⟨⟨z, C3⟩, e3, e⟩ := Option.bind_eq_some_iff.mp e
    dsimp only at e
    split at e
    · split at e
      · cases e
        exact ⟨_, C1, e1, y, C2, e2, z, _, e3, _, rfl, ‹_›, q⟩
      · cases e
    · cases e
  · rintro ⟨x, C1, e1, y, C2, e2, z, C3, e3, w, rfl, hw, q⟩
    exact ⟨_, C3, by simp [e1, e2, e3, hw], q⟩
theorem wpS_forS {g : FG} : wpS (fForS a g F) τ C QS ↔ wpE a τ C fun t C1 => ∃ z, t = .str z ∧ wpS (forGo (fun _ => True) g F (sigs z)) τ C1 QS := by
  unfold wpE wpS fForS
  constructor
  · rintro ⟨l, t, C', e, q⟩
    obtain ⟨⟨x, C1⟩, e1, e⟩ := Option.bind_eq_some_iff.mp e
    dsimp only at e
    split at e
    · exact ⟨_, C1, e1, _, rfl, l, t, C', e, q⟩
    · cases e
  · rintro ⟨x, C1, e1, j, rfl, l, t, C', e, q⟩
    exact ⟨l, t, C', by rw [e1]; exact e, q⟩
theorem wpA_compS {k : Nat} {is : List Nat} {g : FG} : wpA (fCompS a k is g fb fe) τ C QL ↔ wpE a τ C fun t C1 => ∃ z, t = .str z ∧ (sigs z).length < lim ∧ wpC (compGo g fb fe (scT k is τ) (sigs z) C1) QL := by
  unfold wpE wpA fCompS wpC
  constructor
  · rintro ⟨t, C', e, q⟩
    obtain ⟨⟨x, C1⟩, e1, e⟩ := Option.bind_eq_some_iff.mp e
    dsimp only at e
    split at e
    · split at e
      · exact ⟨_, C1, e1, _, rfl, ‹_›, t, C', e, q⟩
      · cases e
    · cases e
  · rintro ⟨x, C1, e1, j, rfl, h, t, C', e, q⟩
    exact ⟨t, C', by rw [e1]; exact (if_pos h).trans e, q⟩
end
end TL
/-! MK61a -/
set_option linter.all false
set_option maxRecDepth 100000
set_option maxHeartbeats 2000000
namespace K61
open PySem L2 TL Lib
abbrev fig : Str := "0123456789"
abbrev abc : Str := "abcdefghijklmnopqrstuvwxyz"
def allS (g x : Str) : Bool := x.cps.toList.all fun c => inS g ⟨#[c]⟩
def isMade (g : Str) (m : Int) (x : Str) : Bool := decide (1 ≤ (x.length : Int) ∧ (x.length : Int) ≤ m) && allS g x
theorem sigs_map {z : Str} : sigs z = z.cps.toList.map fun c => T.str ⟨#[c]⟩ := rfl
theorem lenL {z : Str} : z.cps.toList.length = z.length := Array.length_toList
theorem lenG {z : Str} : (sigs z).length = z.length := by rw [sigs_map, List.length_map, lenL]
theorem made_eq {g x : Str} {m : Int} (h : x.length ≤ 1000) : R_is_made_of [.str g, .int m, .str x] = some (.bl (isMade g m x)) := by
  apply runT_wp
  unfold B_is_made_of isMade
  (simp only [st0, List.map_cons, List.map_nil, List.length_cons, List.length_nil, Nat.reduceAdd, Nat.reduceSub, List.replicate, List.append_nil, List.cons_append, List.nil_append])
  simp_arith [↓wpS_augI, ↓wpO_is0n, ↓wpO_is0x, ↓wpE_tupD, ↓wpO_dmB, ↓wpO_lenS, ↓wpA_compS, T.str.injEq]
  refine ⟨by unfold lim; omega, ?_⟩
  by_cases h1 : 1 ≤ (x.length : Int)
  · rw [if_pos (decT h1)]
    by_cases h2 : (x.length : Int) ≤ m
    · rw [if_pos (decT h2)]
      refine ⟨by rw [lenG]; unfold lim; omega, ?_⟩
      rw [sigs_map]
      refine wpC_mapA (fun c => T.bl (inS g ⟨#[c]⟩)) (fun c _ => ?_) ?_
      · simp only [scT, List.replicate, List.map_cons, List.map_nil, List.nil_append, List.cons_append, List.append_nil, List.getElem?_cons_zero, List.getElem?_cons_succ, Option.getD_some]
        simp_arith [↓wpS_augI, ↓wpO_is0n, ↓wpO_is0x, ↓wpE_tupD, ↓wpO_dmB, ↓wpO_inS]
      rw [bls?_of]
      refine ⟨_, rfl, ?_⟩
      rw [dr_cf CF_bl, decide_eq_true ⟨h1, h2⟩, Bool.true_and, List.all_map]
      rfl
    · rw [if_neg (by simpa using h2), dr_cf CF_bl, decide_eq_false (fun z => h2 z.2), Bool.false_and]
  · rw [if_neg (by simpa using h1), dr_cf CF_bl, decide_eq_false (fun z => h1 z.1), Bool.false_and]
theorem cfS {x : Str} : CFs [T.str x] = true := by (simp only [CFs_cons, CFs_nil, CF_int, CF_bl, CF_lst, CF_tup, CF_non, CF_str, CFs_ints, Bool.and_true, Bool.and_self])
theorem cfS2 {x y : Str} : CFs [T.str x, T.str y] = true := by (simp only [CFs_cons, CFs_nil, CF_int, CF_bl, CF_lst, CF_tup, CF_non, CF_str, CFs_ints, Bool.and_true, Bool.and_self])
theorem name_eq {x : Str} (h : x.length ≤ 1000) : R_is_name [.str x] = some (.bl (isMade abc 8 x)) := by
  have w1 : ∀ {C Q}, wpO (gCall 3 R_is_made_of [.str abc, .int 8, .str x] C) Q ↔ Q (.bl (isMade abc 8 x)) C := wpO_callE (made_eq h) rfl (by (simp only [CFs_cons, CFs_nil, CF_int, CF_bl, CF_lst, CF_tup, CF_non, CF_str, CFs_ints, Bool.and_true, Bool.and_self]))
  apply runT_wp
  unfold B_is_name
  (simp only [st0, List.map_cons, List.map_nil, List.length_cons, List.length_nil, Nat.reduceAdd, Nat.reduceSub, List.replicate, List.append_nil, List.cons_append, List.nil_append])
  simp_arith [↓wpS_augI, ↓wpO_is0n, ↓wpO_is0x, ↓wpE_tupD, ↓wpO_dmB, ↓w1]
  exact dr_cf CF_bl
theorem allin_eq {g x : Str} : R_l_all_in [.str x, .str g] = some (.bl (allS g x)) := by
  apply runT_wp
  unfold B_l_all_in allS
  (simp only [st0, List.map_cons, List.map_nil, List.length_cons, List.length_nil, Nat.reduceAdd, Nat.reduceSub, List.replicate, List.append_nil, List.cons_append, List.nil_append])
  simp_arith [↓wpS_augI, ↓wpO_is0n, ↓wpO_is0x, ↓wpE_tupD, ↓wpO_dmB, ↓wpS_forS, T.str.injEq]
  rw [sigs_map]
  refine wpS_goX (fun i τ C => (∃ a, τ = [some (.str x), some (.str g), a]) ∧ C = [] ∧ ∀ j c, j < i → x.cps.toList[j]? = some c → inS g ⟨#[c]⟩ = true) ⟨⟨_, rfl⟩, rfl, fun j c hj => by omega⟩ ?_ ?_
  · rintro i c τ C hc ⟨⟨a, rfl⟩, rfl, hi⟩
    unfold L_l_all_in_1
    simp_arith [↓wpS_augI, ↓wpO_is0n, ↓wpO_is0x, ↓wpE_tupD, ↓wpO_dmB, ↓wpO_ninS]
    cases e : inS g ⟨#[c]⟩ with
    | true =>
      rw [if_neg (by simp)]
      refine ⟨⟨_, rfl⟩, fun j c' hj hj' => ?_⟩
      by_cases hji : j = i
      · subst hji; rw [hc] at hj'; cases hj'; exact e
      · exact hi j c' (by omega) hj'
    | false =>
      rw [if_pos (by simp)]
      rw [dr_cf CF_bl]
      have : (x.cps.toList.all fun c => inS g ⟨#[c]⟩) = false := by
        rw [List.all_eq_false]
        exact ⟨c, List.mem_of_getElem? hc, by rw [e]; simp⟩
      rw [this]
  · rintro τ C ⟨⟨a, rfl⟩, rfl, hi⟩
    simp_arith [↓wpS_augI, ↓wpO_is0n, ↓wpO_is0x, ↓wpE_tupD, ↓wpO_dmB]
    rw [dr_cf CF_bl]
    have : (x.cps.toList.all fun c => inS g ⟨#[c]⟩) = true := by
      rw [List.all_eq_true]
      intro c hc
      obtain ⟨j, hj⟩ := List.mem_iff_getElem?.mp hc
      exact hi j c (List.getElem?_eq_some_iff.mp hj).1 hj
    rw [this]
def isCount (x : Str) : Bool := if (Txt.startswith x "0" && !(x == ("0" : Str))) = true then false else isMade fig 30 x
theorem count_eq {x : Str} (h : x.length ≤ 1000) : R_is_count [.str x] = some (.bl (isCount x)) := by
  have w1 : ∀ {C Q}, wpO (gCall 3 R_is_made_of [.str fig, .int 30, .str x] C) Q ↔ Q (.bl (isMade fig 30 x)) C := wpO_callE (made_eq h) rfl (by (simp only [CFs_cons, CFs_nil, CF_int, CF_bl, CF_lst, CF_tup, CF_non, CF_str, CFs_ints, Bool.and_true, Bool.and_self]))
  apply runT_wp
  unfold B_is_count isCount
  (simp only [st0, List.map_cons, List.map_nil, List.length_cons, List.length_nil, Nat.reduceAdd, Nat.reduceSub, List.replicate, List.append_nil, List.cons_append, List.nil_append])
  simp_arith [↓wpS_augI, ↓wpO_is0n, ↓wpO_is0x, ↓wpE_tupD, ↓wpO_dmB, ↓wpO_staS, tru_bl, ↓wpO_neS, ↓w1]
  cases h1 : Txt.startswith x "0" with
  | true =>
    rw [if_pos rfl, Bool.true_and]
    cases h2 : !(x == ("0" : Str)) with
    | true => rw [if_pos rfl, if_pos rfl]; exact dr_cf CF_bl
    | false => rw [if_neg (by simp), if_neg (by simp)]; exact dr_cf CF_bl
  | false =>
    rw [if_neg (by simp), Bool.false_and, if_neg (by simp)]
    exact dr_cf CF_bl
theorem readX_eq {x : Str} {n : Int} (h : x.length ≤ 640) (hc : isCount x = true) (hn : intText? x = some n) : R_read_countX [.str x] = some (.int n) := by
  have w1 : ∀ {C Q}, wpO (gCall 1 R_is_count [.str x] C) Q ↔ Q (.bl (isCount x)) C := wpO_callE (count_eq (by omega)) rfl cfS
  apply runT_wp
  unfold B_read_countX
  (simp only [st0, List.map_cons, List.map_nil, List.length_cons, List.length_nil, Nat.reduceAdd, Nat.reduceSub, List.replicate, List.append_nil, List.cons_append, List.nil_append])
  simp_arith [↓wpS_augI, ↓wpO_is0n, ↓wpO_is0x, ↓wpE_tupD, ↓wpO_dmB, ↓w1, tru_bl, hc, ↓wpO_intS]
  rw [if_neg (by simp)]
  exact ⟨h, n, hn, dr_cf CF_int⟩
theorem readX_no {x : Str} (h : x.length ≤ 640) (hc : isCount x = false) : RX_read_countX [.str x] = some "NoText" := by
  have w1 : ∀ {C Q}, wpO (gCall 1 R_is_count [.str x] C) Q ↔ Q (.bl (isCount x)) C := wpO_callE (count_eq (by omega)) rfl cfS
  apply runX_wp
  unfold B_read_countX
  (simp only [st0, List.map_cons, List.map_nil, List.length_cons, List.length_nil, Nat.reduceAdd, Nat.reduceSub, List.replicate, List.append_nil, List.cons_append, List.nil_append])
  simp_arith [↓wpS_augI, ↓wpO_is0n, ↓wpO_is0x, ↓wpE_tupD, ↓wpO_dmB, ↓w1, tru_bl, hc, ↓wpS_raise, List.length_cons, List.length_nil]
  rw [if_pos (by decide)]
  decide
theorem refused_ok {x : Str} (h : RX_read_countX [.str x] = some "NoText") : R_l_refused [.str x] = some (.bl true) := by
  apply runT_wp
  unfold B_l_refused
  (simp only [st0, List.map_cons, List.map_nil, List.length_cons, List.length_nil, Nat.reduceAdd, Nat.reduceSub, List.replicate, List.append_nil, List.cons_append, List.nil_append])
  rw [wpS_seq]
  simp_arith [↓wpS_augI, ↓wpO_is0n, ↓wpO_is0x, ↓wpE_tupD, ↓wpO_dmB]
  refine wpS_try ?_
  rw [wpS_fXs (c := "NoText") (C' := []) (by rw [xCall_of (n := 1) (ts := [.str x]) rfl rfl cfS, h]; rfl)]
  refine ⟨by decide, ?_⟩
  simp_arith [↓wpS_augI, ↓wpO_is0n, ↓wpO_is0x, ↓wpE_tupD, ↓wpO_dmB, ↓wpE_isx, List.set]
  have t1 : ∀ ds, isxT xtab ds (.exc "NoText") = some (ds.any fun d => ["NoText", "BookError", "ValueError"].contains d) := fun ds => rfl
  simp only [t1]
  refine ⟨false, by decide, false, tru_bl, ?_⟩
  rw [if_neg (by simp)]
  refine ⟨false, by decide, false, tru_bl, ?_⟩
  rw [if_neg (by simp)]
  refine ⟨true, by decide, ?_⟩
  rw [if_pos rfl]
  exact ⟨true, by decide, dr_cf CF_bl⟩
theorem wpS_sqP {F G : FS} {τ : TSt} {C : Sto} {Q : Fl → TSt → Sto → Prop} (P : TSt → Sto → Prop) (h1 : wpS F τ C fun l τ1 C1 => l = .nx ∧ P τ1 C1) (h2 : ∀ τ1 C1, P τ1 C1 → wpS G τ1 C1 Q) : wpS (fSeq F G) τ C Q := by
  obtain ⟨l, τ1, C1, e, rfl, p⟩ := h1
  obtain ⟨l2, τ2, C2, e2, q⟩ := h2 τ1 C1 p
  refine ⟨l2, τ2, C2, ?_, q⟩
  unfold fSeq
  rw [e]; exact e2
theorem one_len {c : Nat} : (⟨#[c]⟩ : Str).length = 1 := rfl
theorem log2_b {v : Int} (h0 : 0 ≤ v) (h : v < 10 ^ 31) : v.natAbs.log2 < 1920 := by
  by_cases hz : v.natAbs = 0
  · rw [hz]; decide
  · have : v.natAbs < 2 ^ 104 := by
      have e : (10 : Int) ^ 31 < 2 ^ 104 := by decide
      have e2 : ((v.natAbs : Nat) : Int) = v := Int.natAbs_of_nonneg h0
      have : ((v.natAbs : Nat) : Int) < ((2 ^ 104 : Nat) : Int) := by rw [e2]; exact Int.lt_trans h (by simpa using e)
      exact Int.ofNat_lt.mp this
    have := (Nat.log2_lt hz).mpr this
    omega
theorem str_len {v : Int} (h0 : 0 ≤ v) (h : v < 10 ^ 31) : 1 ≤ (Str.ofString (toString v)).length ∧ (Str.ofString (toString v)).length ≤ 31 := by
  refine ⟨?_, PyProof.Rows.toString_length_le h0 (by decide) h⟩
  obtain ⟨m, rfl⟩ := Int.eq_ofNat_of_zero_le h0
  rw [← lenL, PySem.W.KIN.signs_num, List.length_map]
  exact toDigits_len_ge 10 m
theorem text_ok {c : Int} (hc : Bg c) : ∃ t, R_l_text [.int c] = some t ∧ ∃ x : Str, t = .str x ∧ x.length ≤ 200 := by
  apply runT_wpE
  unfold B_l_text
  (simp only [st0, List.map_cons, List.map_nil, List.length_cons, List.length_nil, Nat.reduceAdd, Nat.reduceSub, List.replicate, List.append_nil, List.cons_append, List.nil_append])
  have h3 := emod_b (x := c) (m := 3) (by decide)
  obtain ⟨m, hm, hm1, hm2⟩ : ∃ m : Int, atI [T.int (10 ^ Int.toNat 2), T.int (10 ^ Int.toNat 30), T.int (10 ^ Int.toNat 31)] (c % 3) = some (.int m) ∧ 0 < m ∧ m ≤ 10 ^ 31 := by
    rcases (by omega : c % 3 = 0 ∨ c % 3 = 1 ∨ c % 3 = 2) with h | h | h <;> rw [h]
    · exact ⟨10 ^ 2, rfl, by decide, by decide⟩
    · exact ⟨10 ^ 30, rfl, by decide, by decide⟩
    · exact ⟨10 ^ 31, rfl, by decide, by decide⟩
  have hn := emod_b (x := c / 3) hm1
  have hv : c / 3 % m < 10 ^ 31 := Int.lt_of_lt_of_le hn.2 hm2
  refine wpS_sqP (fun τ C => (∃ x : Str, τ = [some (.int c), some (.str x), none, none, none] ∧ 1 ≤ x.length ∧ x.length ≤ 31) ∧ C = []) (by
    simp_arith [↓wpS_augI, ↓wpO_is0n, ↓wpO_is0x, ↓wpE_tupD, ↓wpO_dmB, ↓wpO_strI, ↓ex_some hm]
    exact ⟨by decide, by decide, by decide, by decide, by decide, by decide, decT hm1, log2_b hn.1 hv, _, rfl, str_len hn.1 hv⟩) ?_
  rintro _ _ ⟨⟨x, rfl, hx1, hx2⟩, rfl⟩
  refine wpS_sqP (fun τ C => (∃ k : Int, τ = [some (.int c), some (.str x), some (.int k), none, none]) ∧ C = []) (by
    simp_arith [↓wpS_augI, ↓wpO_is0n, ↓wpO_is0x, ↓wpE_tupD, ↓wpO_dmB, ↓wpO_mix1]
    exact ⟨by decide, _, rfl⟩) ?_
  rintro _ _ ⟨⟨k, rfl⟩, rfl⟩
  refine wpS_sqP (fun τ C => (∃ a : Int, τ = [some (.int c), some (.str x), some (.int k), some (.int a), none] ∧ 0 ≤ a ∧ a < x.length) ∧ C = []) (by
    simp_arith [↓wpS_augI, ↓wpO_is0n, ↓wpO_is0x, ↓wpE_tupD, ↓wpO_dmB, ↓wpO_mix1, ↓wpO_lenS]
    exact ⟨by unfold lim; omega, decT (by omega), _, rfl, emod_b (by omega)⟩) ?_
  rintro _ _ ⟨⟨a, rfl, ha1, ha2⟩, rfl⟩
  refine wpS_sqP (fun τ C => (∃ s : Str, τ = [some (.int c), some (.str x), some (.int k), some (.int a), some (.str s)] ∧ s.length = 1) ∧ C = []) (by
    have hq := emod_b (x := mix1 c 3) (m := 16) (by decide)
    simp_arith [↓wpS_augI, ↓wpO_is0n, ↓wpO_is0x, ↓wpE_tupD, ↓wpO_dmB, ↓wpO_mix1, ↓wpO_ixS]
    refine ⟨by decide, by decide, ?_⟩
    obtain ⟨n, hn⟩ : ∃ n : Nat, mix1 c 3 % 16 = n := ⟨(mix1 c 3 % 16).toNat, by omega⟩
    rw [atI_of hq.1]
    have hlt : (mix1 c 3 % 16).toNat < (Str.ofString "0123456789-+ _.x").cps.toList.length := by
      have : (Str.ofString "0123456789-+ _.x").cps.toList.length = 16 := by decide
      omega
    exact ⟨_, List.getElem?_eq_getElem hlt, _, rfl, one_len⟩) ?_
  rintro _ _ ⟨⟨s, rfl, hs⟩, rfl⟩
  have hix : ∃ q, atI x.cps.toList a = some q := by
    rw [atI_of ha1]
    exact ⟨_, List.getElem?_eq_getElem (by rw [lenL]; omega)⟩
  obtain ⟨q, hq⟩ := hix
  have s1 := Txt.slice_le x none (some a)
  have s2 := Txt.slice_le x (some (a + 1)) none
  have s3 := Txt.slice_le x (some a) none
  simp_arith [↓wpS_augI, ↓wpO_is0n, ↓wpO_is0x, ↓wpE_tupD, ↓wpO_dmB, ↓wpO_addS, ↓wpE_slS, ↓wpO_mulS, ↓wpO_ixS, T.str.injEq, ↓ex_some hq]
  generalize Txt.slice x none (some a) = y1 at s1
  generalize Txt.slice x (some (a + 1)) none = y2 at s2
  generalize Txt.slice x (some a) none = y3 at s3
  simp only [Str.length_append, one_len, lim]
  split
  · exact ⟨by omega, by omega, by omega, _, dr_cf CF_str, _, rfl, by rw [Str.length_append]; omega⟩
  split
  · exact ⟨by omega, by omega, by omega, by omega, by omega, _, dr_cf CF_str, _, rfl, by rw [Str.length_append, Str.length_append, one_len]; omega⟩
  split
  · exact ⟨by omega, by omega, by omega, by omega, _, dr_cf CF_str, _, rfl, by rw [Str.length_append, Str.length_append]; omega⟩
  split
  · exact ⟨by omega, by omega, by omega, by omega, _, dr_cf CF_str, _, rfl, by rw [Str.length_append, Str.length_append]; omega⟩
  split
  · exact ⟨by omega, _, dr_cf CF_str, _, rfl, by rw [Str.length_append]; omega⟩
  split
  · refine ⟨by decide, ⟨⟨by omega, by omega⟩, by decide⟩, _, dr_cf CF_str, _, rfl, ?_⟩
    have e := PyProof.Rows.len_mul_k1 (x := "0") (n := 1 + c % 3) rfl
    rw [if_neg (by omega)] at e
    omega
  · exact ⟨_, dr_cf CF_str, _, rfl, by omega⟩
theorem word_ok {c : Int} (hc : Bg c) (hc2 : ∀ k : Int, 0 ≤ k → k < 10 → Bg (c + k * k)) : ∃ t, R_l_word [.int c] = some t ∧ ∃ x : Str, t = .str x ∧ x.length ≤ 200 := by
  apply runT_wpE
  unfold B_l_word
  (simp only [st0, List.map_cons, List.map_nil, List.length_cons, List.length_nil, Nat.reduceAdd, Nat.reduceSub, List.replicate, List.append_nil, List.cons_append, List.nil_append])
  have hr := emod_b (x := mix1 c 5) (m := 10) (by decide)
  generalize hre : mix1 c 5 % 10 = r at hr
  have hch : ∀ k : Int, 0 ≤ k → k < 10 → ∃ q : Nat, atI abc.cps.toList (mix1 (c + k * k) 4 % 26) = some q := by
    intro k _ _
    have hq := emod_b (x := mix1 (c + k * k) 4) (m := 26) (by decide)
    rw [atI_of hq.1]
    have : abc.cps.toList.length = 26 := by decide
    exact ⟨_, List.getElem?_eq_getElem (by omega)⟩
  refine wpS_sqP (fun τ C => τ = [some (.int c), some (.str abc), none, none] ∧ C = []) (by simp_arith [↓wpS_augI, ↓wpO_is0n, ↓wpO_is0x, ↓wpE_tupD, ↓wpO_dmB]) ?_
  rintro _ _ ⟨rfl, rfl⟩
  refine wpS_sqP (fun τ C => (∃ x : Str, τ = [some (.int c), some (.str abc), some (.str x), none] ∧ x.length ≤ 9) ∧ C = []) (by
    simp_arith [↓wpS_augI, ↓wpO_is0n, ↓wpO_is0x, ↓wpE_tupD, ↓wpO_dmB, ↓wpO_mix1, hre]
    refine ⟨by decide, ⟨by omega, by omega⟩, ?_⟩
    rw [rngT_map]
    refine wpC_mapA (fun (k : Nat) => T.str ⟨#[(atI abc.cps.toList (mix1 (c + (0 + (k : Int)) * (0 + (k : Int))) 4 % 26)).getD 0]⟩) (fun k hk => ?_) ?_
    · have hk : (k : Int) < 10 := by have := List.mem_range.mp hk; omega
      have hb := hc2 (0 + (k : Int)) (by omega) (by omega)
      obtain ⟨q, hq⟩ := hch (0 + (k : Int)) (by omega) (by omega)
      simp only [scT, List.replicate, List.map_cons, List.map_nil, List.nil_append, List.cons_append, List.append_nil, List.getElem?_cons_zero, List.getElem?_cons_succ, Option.getD_some]
      simp_arith [↓wpS_augI, ↓wpO_is0n, ↓wpO_is0x, ↓wpE_tupD, ↓wpO_dmB, ↓wpO_mix1, ↓wpO_ixS, ↓ex_some hq, hq, Option.getD_some]
      exact ⟨by (first | (apply mulOk_s <;> omega) | (apply mulOk_t <;> omega) | (apply mulOk_l; assumption) | (apply mulOk_r; assumption)), by decide, by decide⟩
    · rw [show ((List.range r.toNat).map fun (k : Nat) => T.str ⟨#[(atI abc.cps.toList (mix1 (c + (0 + (k : Int)) * (0 + (k : Int))) 4 % 26)).getD 0]⟩) = ((List.range r.toNat).map fun (k : Nat) => (⟨#[(atI abc.cps.toList (mix1 (c + (0 + (k : Int)) * (0 + (k : Int))) 4 % 26)).getD 0]⟩ : Str)).map T.str by simp [List.map_map, Function.comp_def]]
      generalize hzs : ((List.range r.toNat).map fun (k : Nat) => (⟨#[(atI abc.cps.toList (mix1 (c + (0 + (k : Int)) * (0 + (k : Int))) 4 % 26)).getD 0]⟩ : Str)) = zs
      have hzl : zs.length = r.toNat := by rw [← hzs]; simp
      have hz1 : ∀ z ∈ zs, z.length = 1 := by
        rw [← hzs]; intro z hz
        obtain ⟨k, _, rfl⟩ := List.mem_map.mp hz
        rfl
      have hsum : (zs.map (·.length)).sum = zs.length := by
        clear hzs hzl
        induction zs with
        | nil => rfl
        | cons z zs ih =>
          rw [List.map_cons, List.sum_cons, ih (fun w hw => hz1 w (List.mem_cons_of_mem _ hw)), hz1 z List.mem_cons_self, List.length_cons]; omega
      rw [wpO_joiS]
      refine ⟨PyProof.Rows.joinOk_of (by rw [hsum, show (Str.ofString "").length = 0 from rfl]; omega), ⟨_, rfl, ?_⟩, rfl⟩
      have := StrLaws.join_length_le "" zs
      rw [hsum, show (Str.ofString "").length = 0 from rfl] at this
      have e2 : (Txt.join "" zs).length ≤ (Str.join "" zs).length := by
        show (Builtin.Str.glued "" zs).length ≤ _
        rw [StrLaws.glued_eq_join]
        exact Nat.le_refl _
      omega) ?_
  rintro _ _ ⟨⟨x, rfl, hx⟩, rfl⟩
  have hq := emod_b (x := mix1 c 8) (m := 7) (by decide)
  have hs : ∃ q : Nat, atI (Str.ofString "AZ09 -_").cps.toList (mix1 c 8 % 7) = some q := by
    rw [atI_of hq.1]
    have : (Str.ofString "AZ09 -_").cps.toList.length = 7 := by decide
    exact ⟨_, List.getElem?_eq_getElem (by omega)⟩
  obtain ⟨q, hq'⟩ := hs
  simp_arith [↓wpS_augI, ↓wpO_is0n, ↓wpO_is0x, ↓wpE_tupD, ↓wpO_dmB, ↓wpO_mix1, ↓wpO_lenS, ↓wpO_addS, ↓wpE_slS, ↓wpO_ixS, T.str.injEq, ↓ex_some hq']
  have s1 := Txt.slice_le x none (some (mix1 c 7 % ((x.length : Int) + 1)))
  have s2 := Txt.slice_le x (some (mix1 c 7 % ((x.length : Int) + 1) + 1)) none
  generalize Txt.slice x none (some (mix1 c 7 % ((x.length : Int) + 1))) = y1 at s1
  generalize Txt.slice x (some (mix1 c 7 % ((x.length : Int) + 1) + 1)) none = y2 at s2
  simp only [Str.length_append, one_len, lim]
  refine ⟨by decide, ?_⟩
  split
  · exact ⟨by omega, decT (by omega), by omega, by decide, by decide, by omega, by omega, by omega, _, dr_cf CF_str, _, rfl, by rw [Str.length_append, Str.length_append, one_len]; omega⟩
  · exact ⟨_, dr_cf CF_str, _, rfl, by omega⟩
end K61
/-! MK61 -/
set_option linter.all false
set_option maxRecDepth 100000
set_option maxHeartbeats 2000000
namespace K61
open PySem L2 TL Lib PySem.NumText
theorem inS_mem {g : Str} {c : Nat} : inS g ⟨#[c]⟩ = decide (c ∈ g.cps.toList) := StrLaws.found_one g c
theorem fig_list : fig.cps.toList = [48, 49, 50, 51, 52, 53, 54, 55, 56, 57] := by decide
theorem dig_of {c : Nat} (h : inS fig ⟨#[c]⟩ = true) : 48 ≤ c ∧ c ≤ 57 := by
  rw [inS_mem, fig_list] at h
  have := of_decide_eq_true h
  simp only [List.mem_cons, List.not_mem_nil, or_false] at this
  omega
theorem occ_of {c : Nat} (h1 : 48 ≤ c) (h2 : c ≤ 57) : ∃ r, Builtin.Str.occurrences fig ⟨#[c]⟩ 0 fig.length 1 = (c - 48) :: r := by
  rcases (by omega : c = 48 ∨ c = 49 ∨ c = 50 ∨ c = 51 ∨ c = 52 ∨ c = 53 ∨ c = 54 ∨ c = 55 ∨ c = 56 ∨ c = 57) with rfl | rfl | rfl | rfl | rfl | rfl | rfl | rfl | rfl | rfl <;> exact ⟨[], by decide +kernel⟩
theorem allS_dig {x : Str} (h : allS fig x = true) : AllDigits x.cps.toList := by
  unfold allS at h
  rw [List.all_eq_true] at h
  exact fun c hc => dig_of (h c hc)
theorem zero_str : ("0" : Str) = ⟨#[48]⟩ := by decide
theorem starts0 {x : Str} : Txt.startswith x "0" = decide (x.cps.toList[0]? = some 48) := by
  rw [zero_str]
  show (decide (0 + (⟨#[48]⟩ : Str).length ≤ x.length) && Builtin.Str.subAt x ⟨#[48]⟩ 0) = _
  have e := StrLaws.subAt_one x 48 0
  by_cases h : x.cps.toList[0]? = some 48
  · rw [decide_eq_true h]
    obtain ⟨h1, h2⟩ := e.mpr h
    rw [decide_eq_true h1, h2]; rfl
  · rw [decide_eq_false h]
    by_cases h1 : 0 + (⟨#[48]⟩ : Str).length ≤ x.length
    · rw [decide_eq_true h1, Bool.true_and]
      cases h2 : Builtin.Str.subAt x ⟨#[48]⟩ 0 with
      | true => exact absurd (e.mp ⟨h1, h2⟩) h
      | false => rfl
    · rw [decide_eq_false h1]; rfl
theorem eq0 {x : Str} : (x == ("0" : Str)) = decide (x = "0") := by
  by_cases h : x = "0"
  · rw [decide_eq_true h]; simpa using h
  · rw [decide_eq_false h]; simpa using h
theorem cnt_yes {x : Str} (ha : allS fig x = true) (h1 : 1 ≤ x.length) (h2 : x.length ≤ 30) (h3 : x = "0" ∨ x.cps.toList[0]? ≠ some 48) : isCount x = true := by
  unfold isCount
  have hm : isMade fig 30 x = true := by
    unfold isMade
    rw [ha, Bool.and_true]
    exact decT ⟨by omega, by omega⟩
  rw [hm, starts0, eq0]
  rcases h3 with h3 | h3
  · rw [decide_eq_true h3]; simp
  · rw [decide_eq_false h3]; simp
theorem cnt_no {x : Str} (h : ¬ (allS fig x = true ∧ 1 ≤ x.length ∧ x.length ≤ 30 ∧ (x = "0" ∨ x.cps.toList[0]? ≠ some 48))) : isCount x = false := by
  unfold isCount
  split
  · rfl
  · rename_i hs
    rw [starts0, eq0] at hs
    cases hm : isMade fig 30 x with
    | false => rfl
    | true =>
      unfold isMade at hm
      rw [Bool.and_eq_true] at hm
      obtain ⟨hm1, hm2⟩ := hm
      have hm1 := of_decide_eq_true hm1
      refine absurd ⟨hm2, by omega, by omega, ?_⟩ h
      by_cases h0 : x = "0"
      · exact .inl h0
      · refine .inr fun hz => hs ?_
        rw [decide_eq_true hz, decide_eq_false h0]; rfl
theorem due_ok {x : Str} (hd : AllDigits x.cps.toList) {i : Nat} {c : Nat} (hc : x.cps.toList[i]? = some c) : digitsVal (x.cps.toList.take (i + 1)) = digitsVal (x.cps.toList.take i) * 10 + (c - 48) := by
  have e : x.cps.toList.take (i + 1) = x.cps.toList.take i ++ [c] := by rw [List.take_add_one, hc]; rfl
  rw [e, digitsVal_snoc]
theorem wpS_ifF {ga : FB} {F G : FS} {τ : TSt} {C : Sto} {Q : Fl → TSt → Sto → Prop} (h1 : wpB ga τ C fun x C1 => x = false ∧ C1 = C) (h2 : wpS G τ C Q) : wpS (fIf ga F G) τ C Q := by
  obtain ⟨x, C1, e, rfl, rfl⟩ := h1
  exact wpS_if.mpr ⟨_, _, e, h2⟩
theorem wpS_ifT {ga : FB} {F G : FS} {τ : TSt} {C : Sto} {Q : Fl → TSt → Sto → Prop} (h1 : wpB ga τ C fun x C1 => x = true ∧ C1 = C) (h2 : wpS F τ C Q) : wpS (fIf ga F G) τ C Q := by
  obtain ⟨x, C1, e, rfl, rfl⟩ := h1
  exact wpS_if.mpr ⟨_, _, e, h2⟩
theorem wpS_nx {τ : TSt} {C : Sto} {Q : Fl → TSt → Sto → Prop} (h : Q .nx τ C) : wpS fNext τ C Q := ⟨_, _, _, rfl, h⟩
def rt (x : Str) : Bool := allS fig x && (decide ((0 : Int) < x.length) && decide ((x.length : Int) < 31))
theorem rt_iff {x : Str} : rt x = true ↔ allS fig x = true ∧ 1 ≤ x.length ∧ x.length ≤ 30 := by
  unfold rt
  rw [Bool.and_eq_true, Bool.and_eq_true, decide_eq_true_iff, decide_eq_true_iff]
  constructor
  · rintro ⟨h1, h2, h3⟩; exact ⟨h1, by omega, by omega⟩
  · rintro ⟨h1, h2, h3⟩; exact ⟨h1, by omega, by omega⟩
theorem one_eq {c : Nat} : ((⟨#[c]⟩ : Str) == ("0" : Str)) = decide (c = 48) := by
  rw [eq0, zero_str]
  by_cases h : c = 48
  · subst h; rw [decide_eq_true rfl, decide_eq_true rfl]
  · rw [decide_eq_false h, decide_eq_false]
    intro z
    injection z with z
    exact h (by simpa using z)
theorem test_ok {s a d e f g : Option T} {x : Str} (hx : x.length ≤ 200) {v : Bool} (hv : v = decide (allS fig x = true ∧ 1 ≤ x.length ∧ x.length ≤ 30 ∧ (x = "0" ∨ x.cps.toList[0]? ≠ some 48))) :
    wpB (fAndT (fTru (fVar 3)) (fOrT (fTst (fEq (fVar 2) (fC (.str "0")))) (fTst (fNe (fBin (fVar 2) (fC (.int 0)) gIxS) (fC (.str "0")))))) [s, a, some (.str x), some (.bl (rt x)), d, e, f, g] [] fun y C1 => y = v ∧ C1 = [] := by
  simp_arith [↓wpS_augI, ↓wpO_is0n, ↓wpO_is0x, ↓wpE_tupD, ↓wpO_dmB, tru_bl, ↓wpO_eqS, ↓wpO_neS, ↓wpO_ixS]
  by_cases hr : rt x = true
  · rw [if_pos hr]
    have hr' := rt_iff.mp hr
    rw [eq0]
    by_cases h0 : x = "0"
    · rw [if_pos (decT h0), hv]
      exact (decT ⟨hr'.1, hr'.2.1, hr'.2.2, .inl h0⟩).symm
    · rw [if_neg (by simpa using h0)]
      have hlt : 0 < x.cps.toList.length := by rw [lenL]; omega
      refine ⟨by unfold lim; omega, x.cps.toList[0], ?_, ?_⟩
      · rw [atI_of (by decide)]; exact List.getElem?_eq_getElem hlt
      · rw [hv, one_eq]
        by_cases hc : x.cps.toList[0] = 48
        · rw [decide_eq_true hc, decide_eq_false]
          · rfl
          · rintro ⟨_, _, _, z | z⟩
            · exact h0 z
            · exact z (by rw [List.getElem?_eq_getElem hlt, hc])
        · rw [decide_eq_false hc]
          exact (decT ⟨hr'.1, hr'.2.1, hr'.2.2, .inr (by rw [List.getElem?_eq_getElem hlt]; simpa using hc)⟩).symm
  · rw [if_neg hr, hv]
    exact (decide_eq_false fun z => hr (rt_iff.mpr ⟨z.1, z.2.1, z.2.2.1⟩)).symm
theorem turn_ok {s b c d e f g : Option T} {n : Int} (hn : Bt (2 ^ 20) n) {Q : Fl → TSt → Sto → Prop} (k : ∀ b c d e f g, Q .nx [s, some (.int n), b, c, d, e, f, g] []) : wpS L_law_2 [s, some (.int n), b, c, d, e, f, g] [] Q := by
  have hbg : Bg n := hn.mono (by decide)
  obtain ⟨_, et, x, rfl, hx⟩ := text_ok hbg
  obtain ⟨_, ew, w, rfl, hw⟩ := word_ok hbg fun k h0 h1 => (hn.add (.mono (.of_lt (k := 10) (Int.mul_nonneg h0 h0) (by
    have : k * k ≤ 9 * 9 := Int.mul_le_mul (by omega) (by omega) h0 (by decide)
    omega)) (by decide))).mono (by decide)
  have wt : ∀ {C Q}, wpO (gCall 1 R_l_text [.int n] C) Q ↔ Q (.str x) C := wpO_callE et rfl (by (simp only [CFs_cons, CFs_nil, CF_int, CF_bl, CF_lst, CF_tup, CF_non, CF_str, CFs_ints, Bool.and_true, Bool.and_self]))
  have ww : ∀ {C Q}, wpO (gCall 1 R_l_word [.int n] C) Q ↔ Q (.str w) C := wpO_callE ew rfl (by (simp only [CFs_cons, CFs_nil, CF_int, CF_bl, CF_lst, CF_tup, CF_non, CF_str, CFs_ints, Bool.and_true, Bool.and_self]))
  have wa : ∀ {y g : Str} {C Q}, wpO (gCall 2 R_l_all_in [.str y, .str g] C) Q ↔ Q (.bl (allS g y)) C := wpO_callE allin_eq rfl cfS2
  have wn : ∀ {C Q}, wpO (gCall 1 R_is_name [.str w] C) Q ↔ Q (.bl (isMade abc 8 w)) C := wpO_callE (name_eq (by omega)) rfl cfS
  unfold L_law_2
  refine wpS_sqP (fun τ C => τ = [s, some (.int n), some (.str x), c, d, e, f, g] ∧ C = []) (by simp_arith [↓wpS_augI, ↓wpO_is0n, ↓wpO_is0x, ↓wpE_tupD, ↓wpO_dmB, ↓wt]) ?_
  rintro _ _ ⟨rfl, rfl⟩
  refine wpS_sqP (fun τ C => τ = [s, some (.int n), some (.str x), some (.bl (rt x)), d, e, f, g] ∧ C = []) (by
    simp_arith [↓wpS_augI, ↓wpO_is0n, ↓wpO_is0x, ↓wpE_tupD, ↓wpO_dmB, ↓wa, ↓wpO_lenS]
    unfold rt
    cases allS fig x with
    | false => rw [if_neg (by simp)]; rfl
    | true =>
      rw [if_pos rfl]
      refine ⟨by unfold lim; omega, ?_⟩
      by_cases h : (0 : Int) < x.length
      · rw [if_pos (decT h), decide_eq_true h]; exact ⟨by unfold lim; omega, rfl⟩
      · rw [if_neg (by simpa using h), decide_eq_false h]; rfl) ?_
  rintro _ _ ⟨rfl, rfl⟩
  refine wpS_sqP (fun τ C => (∃ d e f, τ = [s, some (.int n), some (.str x), some (.bl (rt x)), d, e, f, g]) ∧ C = []) ?_ ?_
  · by_cases hcond : allS fig x = true ∧ 1 ≤ x.length ∧ x.length ≤ 30 ∧ (x = "0" ∨ x.cps.toList[0]? ≠ some 48)
    · refine wpS_ifT (test_ok hx (decT hcond).symm) ?_
      obtain ⟨h1, h2, h3, h4⟩ := hcond
      have hd := allS_dig h1
      have hcl : x.cps.toList ≠ [] := by
        intro z
        have := lenL (z := x)
        rw [z] at this
        simp at this; omega
      have er := readX_eq (by omega) (cnt_yes h1 h2 h3 h4) (intText_digits hd hcl (by omega))
      have wr : ∀ {C Q}, wpO (gCall 1 R_read_countX [.str x] C) Q ↔ Q (.int (digitsVal x.cps.toList : Nat)) C := wpO_callE er rfl cfS
      refine wpS_sqP (fun τ C => τ = [s, some (.int n), some (.str x), some (.bl (rt x)), some (.int (digitsVal x.cps.toList : Nat)), e, f, g] ∧ C = []) (by simp_arith [↓wpS_augI, ↓wpO_is0n, ↓wpO_is0x, ↓wpE_tupD, ↓wpO_dmB, ↓wr]) ?_
      rintro _ _ ⟨rfl, rfl⟩
      refine wpS_sqP (fun τ C => τ = [s, some (.int n), some (.str x), some (.bl (rt x)), some (.int (digitsVal x.cps.toList : Nat)), some (.int 0), f, g] ∧ C = []) (by simp_arith [↓wpS_augI, ↓wpO_is0n, ↓wpO_is0x, ↓wpE_tupD, ↓wpO_dmB]) ?_
      rintro _ _ ⟨rfl, rfl⟩
      refine wpS_sqP (fun τ C => (∃ f, τ = [s, some (.int n), some (.str x), some (.bl (rt x)), some (.int (digitsVal x.cps.toList : Nat)), some (.int (digitsVal x.cps.toList : Nat)), f, g]) ∧ C = []) (by
        simp_arith [↓wpS_augI, ↓wpO_is0n, ↓wpO_is0x, ↓wpE_tupD, ↓wpO_dmB, ↓wpS_forS, T.str.injEq]
        rw [sigs_map]
        refine wpS_goX (fun i τ C => (∃ f, τ = [s, some (.int n), some (.str x), some (.bl (rt x)), some (.int (digitsVal x.cps.toList : Nat)), some (.int (digitsVal (x.cps.toList.take i) : Nat)), f, g]) ∧ C = []) ⟨⟨_, rfl⟩, rfl⟩ ?_ ?_
        · rintro i c τ C hc ⟨⟨f, rfl⟩, rfl⟩
          have hcd := hd c (List.mem_of_getElem? hc)
          obtain ⟨r, ho⟩ := occ_of hcd.1 hcd.2
          have h10 : Bt 60 10 := .sml (by decide) (by decide) (by decide)
          unfold L_law_1
          simp_arith [↓wpS_augI, ↓wpO_is0n, ↓wpO_is0x, ↓wpE_tupD, ↓wpO_dmB, ↓wpO_fndS ho]
          refine ⟨mulOk_s (by decide) (by decide), some (T.str ⟨#[c]⟩), ?_⟩
          rw [due_ok hd hc, show (10 * ((digitsVal (x.cps.toList.take i) : Nat) : Int) + ((c - 48 : Nat) : Int)) = ((digitsVal (x.cps.toList.take i) * 10 + (c - 48) : Nat) : Int) by omega]
        · rintro τ C ⟨⟨f, rfl⟩, rfl⟩
          rw [List.take_length]
          exact ⟨rfl, ⟨_, rfl⟩, rfl⟩) ?_
      rintro _ _ ⟨⟨f, rfl⟩, rfl⟩
      refine wpS_ifF ?_ (wpS_nx ⟨rfl, ⟨_, _, _, rfl⟩, rfl⟩)
      simp_arith [↓wpS_augI, ↓wpO_is0n, ↓wpO_is0x, ↓wpE_tupD, ↓wpO_dmB, isiT, tru_bl]
      rw [if_neg (by decide), if_neg (by decide)]
      decide
    · have wr : ∀ {C Q}, wpO (gCall 1 R_l_refused [.str x] C) Q ↔ Q (.bl true) C := wpO_callE (refused_ok (readX_no (by omega) (cnt_no hcond))) rfl cfS
      refine wpS_ifF (test_ok hx (decide_eq_false hcond).symm) ?_
      refine wpS_ifF (by simp_arith [↓wpS_augI, ↓wpO_is0n, ↓wpO_is0x, ↓wpE_tupD, ↓wpO_dmB, ↓wr, tru_bl]; rfl) (wpS_nx ⟨rfl, ⟨_, _, _, rfl⟩, rfl⟩)
  rintro _ _ ⟨⟨d, e, f, rfl⟩, rfl⟩
  refine wpS_sqP (fun τ C => τ = [s, some (.int n), some (.str x), some (.bl (rt x)), d, e, f, some (.str w)] ∧ C = []) (by simp_arith [↓wpS_augI, ↓wpO_is0n, ↓wpO_is0x, ↓wpE_tupD, ↓wpO_dmB, ↓ww]) ?_
  rintro _ _ ⟨rfl, rfl⟩
  refine wpS_sqP (fun τ C => τ = [s, some (.int n), some (.str x), some (.bl (rt x)), some (.bl (isMade abc 8 w)), e, f, some (.str w)] ∧ C = []) (by simp_arith [↓wpS_augI, ↓wpO_is0n, ↓wpO_is0x, ↓wpE_tupD, ↓wpO_dmB, ↓wn]) ?_
  rintro _ _ ⟨rfl, rfl⟩
  refine wpS_sqP (fun τ C => τ = [s, some (.int n), some (.str x), some (.bl (rt x)), some (.bl (isMade abc 8 w)), some (.bl (isMade abc 8 w)), f, some (.str w)] ∧ C = []) (by
    simp_arith [↓wpS_augI, ↓wpO_is0n, ↓wpO_is0x, ↓wpE_tupD, ↓wpO_dmB, ↓wa, ↓wpO_lenS]
    refine ⟨by unfold lim; omega, ?_⟩
    unfold isMade
    by_cases h : (0 : Int) < w.length
    · rw [if_pos (decT h)]
      refine ⟨by unfold lim; omega, ?_⟩
      by_cases h2 : (w.length : Int) < 9
      · rw [if_pos (decT h2), decide_eq_true ⟨by omega, by omega⟩]; rfl
      · rw [if_neg (by simpa using h2), decide_eq_false (by omega)]; rfl
    · rw [if_neg (by simpa using h), decide_eq_false (by omega)]; rfl) ?_
  rintro _ _ ⟨rfl, rfl⟩
  refine wpS_ifF ?_ (wpS_nx (k _ _ _ _ _ _))
  simp_arith [↓wpS_augI, ↓wpO_is0n, ↓wpO_is0x, ↓wpE_tupD, ↓wpO_dmB, isiT, tru_bl]
  rw [if_neg (by decide)]
  decide
theorem law_true : ∀ ns : List Int, ns.length ≤ 63 → (∀ n ∈ ns, Builtin.Int.intBits n ≤ 2 ^ 20) → R_law [.lst (ns.map T.int)] = some (.bl true) := by
  intro ns hl hb
  have hB : ∀ n ∈ ns, Bt (2 ^ 20) n := fun n h => .of_bits (hb n h)
  apply runT_wp
  unfold B_law
  (simp only [st0, List.map_cons, List.map_nil, List.length_cons, List.length_nil, Nat.reduceAdd, Nat.reduceSub, List.replicate, List.append_nil, List.cons_append, List.nil_append])
  simp_arith [↓wpS_augI, ↓wpO_is0n, ↓wpO_is0x, ↓wpE_tupD, ↓wpO_dmB, List.length_map]
  rw [cutT_map]
  refine ⟨by decide, by rw [List.length_map]; have := cutG_len (xs := ns) (l := none) (h := some 63); unfold lim; omega, ?_⟩
  rw [show (T.int 4 :: List.map T.int (cutG ns none (some 63))) = (4 :: cutG ns none (some 63)).map T.int from rfl]
  refine wpS_goX (fun _ τ C => (∃ a b c d e f g, τ = [some (T.lst (ns.map T.int)), a, b, c, d, e, f, g]) ∧ C = []) ⟨⟨_, _, _, _, _, _, _, rfl⟩, rfl⟩ ?_ ?_
  · rintro i x τ C hx ⟨⟨a, b, c, d, e, f, g, rfl⟩, rfl⟩
    have hbx : Bt (2 ^ 20) x := by
      rcases List.mem_cons.mp (List.mem_of_getElem? hx) with rfl | hm
      · exact .sml (by decide) (by decide) (by decide)
      · exact hB x (cutG_mem hm)
    rw [wpG_n]
    simp only [List.set_cons_succ, List.set_cons_zero]
    exact turn_ok hbx fun b c d e f g => ⟨trivial, ⟨_, _, _, _, _, _, _, rfl⟩, rfl⟩
  · rintro τ C ⟨⟨a, b, c, d, e, f, g, rfl⟩, rfl⟩
    simp_arith [↓wpS_augI, ↓wpO_is0n, ↓wpO_is0x, ↓wpE_tupD, ↓wpO_dmB]
    exact dr_cf CF_bl
end K61
end
/-! WK61 -/
set_option linter.all false
set_option maxRecDepth 100000
namespace K61
open PySem L2 TL Lib
def top (i : Nat) : Stmt := PySem.Challenge.pw_hastebook_k61_numbers_and_names.main.body.getD i (.Pass ⟨0, 0, 0, 0⟩)
section
variable {P : Program} {w : World} {K : PySem.W.Frag} {mg : Str → Option Value} {base : Heap} {f : Addr} {fd : FuncData}
abbrev s_mix1 : Stmt := top 17
theorem sc_mix1 : FnScope ["_law_number", "_law_k"] ["_law_number", "_law_k"] (defScope s_mix1) := ⟨rfl, rfl, rfl, by decide +kernel, rfl, by decide +kernel, by decide +kernel⟩
set_option maxHeartbeats 0 in
theorem ok_mix1 (F : Fun K "_law_mix" "_law_mix" s_mix1 f fd)  :
    FnOk P w K mg base CX0 1 f fd ["_law_number", "_law_k"] (spT K 2 R_mix1) := by
  have nd := sc_mix1.nd
  refine F.ok sc_mix1 spT_len (fun cdv A outer s H vs Q E hr h => ⟨trS K (wish (Cx.nox (cxOf CX0 P w K mg base ["_law_number", "_law_k"] "_law_mix" (defScope s_mix1) f cdv A outer s H E))) B_mix1, ?_, body_T (m := 2) runT_ok h⟩)
  exact (qss_one (qs_ret (q_mod (q_mul (q_add (q_add (q_mul (q_var 0) (q_var 0)) (q_mul (q_var 1) (q_var 0))) (q_mul (q_mul q_int (q_var 1)) (q_var 1))) q_int) q_int)))
abbrev s_l_text : Stmt := top 18
theorem sc_l_text : FnScope ["_law_cell", "_law_text_here", "_law_choice", "_law_at", "_law_sign"] ["_law_cell"] (defScope s_l_text) := ⟨rfl, rfl, rfl, by decide +kernel, rfl, by decide +kernel, by decide +kernel⟩
set_option maxHeartbeats 0 in
theorem ok_l_text (F : Fun K "_law_text" "_law_text" s_l_text f fd) (D_mix1 : DefT P w K mg base 1 "_law_mix" 2 R_mix1) (m_str : mg "str" = none) (m_len : mg "len" = none) :
    FnOk P w K mg base CX0 2 f fd ["_law_cell"] (spT K 1 R_l_text) := by
  have nd := sc_l_text.nd
  refine F.ok sc_l_text spT_len (fun cdv A outer s H vs Q E hr h => ⟨trS K (wish (Cx.nox (cxOf CX0 P w K mg base ["_law_cell", "_law_text_here", "_law_choice", "_law_at", "_law_sign"] "_law_text" (defScope s_l_text) f cdv A outer s H E))) B_l_text, ?_, body_T (m := 5) runT_ok h⟩)
  exact (qss_cons (qs_set nd 1 (q_strI m_str (q_acons (q_mod (q_fdiv (q_var 0) q_int) (q_ix (q_tree (n_disp (q_acons (q_pow q_int q_int) (q_acons (q_pow q_int q_int) (q_acons (q_pow q_int q_int) q_anil))))) (q_mod (q_var 0) q_int))) q_anil)))
    (qss_cons (qs_set nd 2 (q_mod (q_call D_mix1 (hr.mono (by decide)) (q_acons (q_var 0) (q_acons q_int q_anil))) q_int))
    (qss_cons (qs_set nd 3 (q_mod (q_call D_mix1 (hr.mono (by decide)) (q_acons (q_var 0) (q_acons q_int q_anil))) (q_lenS m_len (q_acons (q_var 1) q_anil))))
    (qss_cons (qs_set nd 4 (q_ixS q_str (q_mod (q_call D_mix1 (hr.mono (by decide)) (q_acons (q_var 0) (q_acons q_int q_anil))) q_int)))
    (qss_cons (qs_if (t_eq (hu20 hr) (q_var 2) q_int) (qss_one (qs_ret (q_addS (q_slS (q_var 1) q_nopart (q_part (q_var 3))) (q_slS (q_var 1) (q_part (q_add (q_var 3) q_int)) q_nopart)))) qss_nil)
    (qss_cons (qs_if (t_eq (hu20 hr) (q_var 2) q_int) (qss_one (qs_ret (q_addS (q_addS (q_slS (q_var 1) q_nopart (q_part (q_var 3))) (q_ixS (q_var 1) (q_var 3))) (q_slS (q_var 1) (q_part (q_var 3)) q_nopart)))) qss_nil)
    (qss_cons (qs_if (t_eq (hu20 hr) (q_var 2) q_int) (qss_one (qs_ret (q_addS (q_addS (q_slS (q_var 1) q_nopart (q_part (q_var 3))) (q_var 4)) (q_slS (q_var 1) (q_part (q_var 3)) q_nopart)))) qss_nil)
    (qss_cons (qs_if (t_eq (hu20 hr) (q_var 2) q_int) (qss_one (qs_ret (q_addS (q_addS (q_slS (q_var 1) q_nopart (q_part (q_var 3))) (q_var 4)) (q_slS (q_var 1) (q_part (q_add (q_var 3) q_int)) q_nopart)))) qss_nil)
    (qss_cons (qs_if (t_eq (hu20 hr) (q_var 2) q_int) (qss_one (qs_ret (q_addS (q_var 1) (q_var 4)))) qss_nil)
    (qss_cons (qs_if (t_eq (hu20 hr) (q_var 2) q_int) (qss_one (qs_ret (q_mulS q_str (q_add q_int (q_mod (q_var 0) q_int))))) qss_nil)
    (qss_one (qs_ret (q_var 1)))))))))))))
abbrev s_l_word : Stmt := top 19
theorem sc_l_word : FnScope ["_law_cell", "_law_letters", "_law_word_here", "_law_at"] ["_law_cell"] (defScope s_l_word) := ⟨rfl, rfl, rfl, by decide +kernel, rfl, by decide +kernel, by decide +kernel⟩
set_option maxHeartbeats 0 in
theorem ok_l_word (F : Fun K "_law_word" "_law_word" s_l_word f fd) (D_mix1 : DefT P w K mg base 1 "_law_mix" 2 R_mix1) (m_range : mg "range" = none) (m_len : mg "len" = none) :
    FnOk P w K mg base CX0 2 f fd ["_law_cell"] (spT K 1 R_l_word) := by
  have nd := sc_l_word.nd
  refine F.ok sc_l_word spT_len (fun cdv A outer s H vs Q E hr h => ⟨trS K (wish (Cx.nox (cxOf CX0 P w K mg base ["_law_cell", "_law_letters", "_law_word_here", "_law_at"] "_law_word" (defScope s_l_word) f cdv A outer s H E))) B_l_word, ?_, body_T (m := 4) runT_ok h⟩)
  exact (qss_cons (qs_set nd 1 q_str)
    (qss_cons (qs_set nd 2 (q_joiS q_str (q_tree (n_compR1 m_range rfl (cok ["_law_k"] ["_law_letters", "_law_cell"] [1, 0]) (q_mod (q_call D_mix1 (hr.mono (by decide)) (q_acons (q_var 0) (q_acons q_int q_anil))) q_int) (own_gN (by decide)) (fun _ _ _ _ => (g_nm (show List.Nodup (["_law_k", "_law_letters", "_law_cell"] : List Str) by decide) 0)) (fun _ _ _ _ => qts_nil) (fun _ _ _ _ => (q_ixS (q_var 1) (q_mod (q_call D_mix1 (hr.mono (by decide)) (q_acons (q_add (q_var 2) (q_mul (q_var 0) (q_var 0))) (q_acons q_int q_anil))) q_int)))))))
    (qss_cons (qs_if (t_eq (hu20 hr) (q_mod (q_call D_mix1 (hr.mono (by decide)) (q_acons (q_var 0) (q_acons q_int q_anil))) q_int) q_int) (qss_cons (qs_set nd 3 (q_mod (q_call D_mix1 (hr.mono (by decide)) (q_acons (q_var 0) (q_acons q_int q_anil))) (q_add (q_lenS m_len (q_acons (q_var 2) q_anil)) q_int)))
    (qss_one (qs_set nd 2 (q_addS (q_addS (q_slS (q_var 2) q_nopart (q_part (q_var 3))) (q_ixS q_str (q_mod (q_call D_mix1 (hr.mono (by decide)) (q_acons (q_var 0) (q_acons q_int q_anil))) q_int))) (q_slS (q_var 2) (q_part (q_add (q_var 3) q_int)) q_nopart))))) qss_nil)
    (qss_one (qs_ret (q_var 2))))))
abbrev s_is_made_of : Stmt := top 15
theorem sc_is_made_of : FnScope ["signs", "most", "text"] ["signs", "most", "text"] (defScope s_is_made_of) := ⟨rfl, rfl, rfl, by decide +kernel, rfl, by decide +kernel, by decide +kernel⟩
set_option maxHeartbeats 0 in
theorem ok_is_made_of (F : Fun K "is_made_of" "is_made_of" s_is_made_of f fd) (m_all : mg "all" = none) (m_len : mg "len" = none) :
    FnOk P w K mg base CX0 1 f fd ["signs", "most", "text"] (spT K 3 R_is_made_of) := by
  have nd := sc_is_made_of.nd
  refine F.ok sc_is_made_of spT_len (fun cdv A outer s H vs Q E hr h => ⟨trS K (wish (Cx.nox (cxOf CX0 P w K mg base ["signs", "most", "text"] "is_made_of" (defScope s_is_made_of) f cdv A outer s H E))) B_is_made_of, ?_, body_T (m := 3) runT_ok h⟩)
  exact (qss_one (qs_ret (q_and (q_chain_le_le q_int (q_lenS m_len (q_acons (q_var 2) q_anil)) (q_var 1)) (q_one (q_all m_all rfl (q_acons (q_tree (n_compS rfl (cok ["sign"] ["signs"] [0]) (q_var 2) (own_gN (by decide)) (fun _ _ _ _ => (g_nm (show List.Nodup (["sign", "signs"] : List Str) by decide) 0)) (fun _ _ _ _ => qts_nil) (fun _ _ _ _ => (q_inS (q_var 0) (q_var 1))))) q_anil))))))
abbrev s_is_name : Stmt := top 13
theorem sc_is_name : FnScope ["text"] ["text"] (defScope s_is_name) := ⟨rfl, rfl, rfl, by decide +kernel, rfl, by decide +kernel, by decide +kernel⟩
set_option maxHeartbeats 0 in
theorem ok_is_name (F : Fun K "is_name" "is_name" s_is_name f fd) (D_is_made_of : DefT P w K mg base 1 "is_made_of" 3 R_is_made_of) (G_SMALL_LETTERS : ∃ t, mg "SMALL_LETTERS" = some (.str "abcdefghijklmnopqrstuvwxyz" t)) (G_MOST_LETTERS : ∃ t, mg "MOST_LETTERS" = some (.int 8 t)) :
    FnOk P w K mg base CX0 2 f fd ["text"] (spT K 1 R_is_name) := by
  have nd := sc_is_name.nd
  refine F.ok sc_is_name spT_len (fun cdv A outer s H vs Q E hr h => ⟨trS K (wish (Cx.nox (cxOf CX0 P w K mg base ["text"] "is_name" (defScope s_is_name) f cdv A outer s H E))) B_is_name, ?_, body_T (m := 1) runT_ok h⟩)
  exact (qss_one (qs_ret (q_call D_is_made_of (hr.mono (by decide)) (q_acons (q_globS G_SMALL_LETTERS) (q_acons (q_globI G_MOST_LETTERS) (q_acons (q_var 0) q_anil))))))
abbrev s_l_all_in : Stmt := top 21
theorem sc_l_all_in : FnScope ["_law_text_here", "_law_signs", "_law_sign"] ["_law_text_here", "_law_signs"] (defScope s_l_all_in) := ⟨rfl, rfl, rfl, by decide +kernel, rfl, by decide +kernel, by decide +kernel⟩
set_option maxHeartbeats 0 in
theorem ok_l_all_in (F : Fun K "_law_all_in" "_law_all_in" s_l_all_in f fd)  :
    FnOk P w K mg base CX0 1 f fd ["_law_text_here", "_law_signs"] (spT K 2 R_l_all_in) := by
  have nd := sc_l_all_in.nd
  refine F.ok sc_l_all_in spT_len (fun cdv A outer s H vs Q E hr h => ⟨trS K (wish (Cx.nox (cxOf CX0 P w K mg base ["_law_text_here", "_law_signs", "_law_sign"] "_law_all_in" (defScope s_l_all_in) f cdv A outer s H E))) B_l_all_in, ?_, body_T (m := 3) runT_ok h⟩)
  exact (qss_cons (qs_forS rfl (q_var 0) (g_nm nd 2) (qss_one (qs_if (t_ninS (q_var 2) (q_var 1)) (qss_one (qs_ret q_bl)) qss_nil)))
    (qss_one (qs_ret q_bl)))
abbrev s_is_count : Stmt := top 14
theorem sc_is_count : FnScope ["text"] ["text"] (defScope s_is_count) := ⟨rfl, rfl, rfl, by decide +kernel, rfl, by decide +kernel, by decide +kernel⟩
set_option maxHeartbeats 0 in
theorem ok_is_count (F : Fun K "is_count" "is_count" s_is_count f fd) (D_is_made_of : DefT P w K mg base 1 "is_made_of" 3 R_is_made_of) (G_FIGURES : ∃ t, mg "FIGURES" = some (.str "0123456789" t)) (G_MOST_FIGURES : ∃ t, mg "MOST_FIGURES" = some (.int 30 t)) :
    FnOk P w K mg base CX0 2 f fd ["text"] (spT K 1 R_is_count) := by
  have nd := sc_is_count.nd
  refine F.ok sc_is_count spT_len (fun cdv A outer s H vs Q E hr h => ⟨trS K (wish (Cx.nox (cxOf CX0 P w K mg base ["text"] "is_count" (defScope s_is_count) f cdv A outer s H E))) B_is_count, ?_, body_T (m := 1) runT_ok h⟩)
  exact (qss_cons (qs_if (t_w (t_and (t_tru (q_staS (q_var 0) q_str)) (t_and1 (t_ne (hu20 hr) (q_var 0) q_str)))) (qss_one (qs_ret q_bl)) qss_nil)
    (qss_one (qs_ret (q_call D_is_made_of (hr.mono (by decide)) (q_acons (q_globS G_FIGURES) (q_acons (q_globI G_MOST_FIGURES) (q_acons (q_var 0) q_anil)))))))
abbrev s_read_countX : Stmt := top 12
theorem sc_read_countX : FnScope ["text"] ["text"] (defScope s_read_countX) := ⟨rfl, rfl, rfl, by decide +kernel, rfl, by decide +kernel, by decide +kernel⟩
set_option maxHeartbeats 0 in
theorem ok_read_countX (F : Fun K "read_count" "read_count" s_read_countX f fd) (D_is_count : DefT P w K mg base 2 "is_count" 1 R_is_count) (m_int : mg "int" = none) (E_NoText : ∃ C, ExC K mg "NoText" C) :
    FnOk P w K mg base (CX1 P w K) 3 f fd ["text"] (spX (spT K 1 R_read_countX) K 1 RX_read_countX) := by
  have nd := sc_read_countX.nd
  refine okX (B := B_read_countX) F sc_read_countX rfl spT_len (fun W vs H Q E h => body_T (m := 1) runT_ok h) (fun cdv A outer s H E hr => ?_)
  exact (qss_cons (qs_if (t_not (t_tru (q_call D_is_count (hr.mono (by decide)) (q_acons (q_var 0) q_anil)))) (qss_one (qs_raiseE (c := "NoText") E_NoText rfl (q_acons q_str q_anil))) qss_nil)
    (qss_one (qs_ret (q_intS m_int (q_acons (q_var 0) q_anil)))))
abbrev s_l_refused : Stmt := top 20
theorem sc_l_refused : FnScope ["_law_text_here", "_law_caught", "e"] ["_law_text_here"] (defScope s_l_refused) := ⟨rfl, rfl, rfl, by decide +kernel, rfl, by decide +kernel, by decide +kernel⟩
set_option maxHeartbeats 0 in
theorem ok_l_refused (F : Fun K "_law_refused" "_law_refused" s_l_refused f fd) (D_read_countX : DefX P w K mg base 3 "read_count" 1 (spT K 1 R_read_countX) RX_read_countX) (m_isinstance : mg "isinstance" = none) (m_ValueError : mg "ValueError" = none) (TT : Tab K mg xtab ["NoText"] ["BookError", "NoText", "NoOrder", "NoRoom", "NoRow", "NoName"]) :
    FnOk P w K mg base CX0 4 f fd ["_law_text_here"] (spT K 1 R_l_refused) := by
  have nd := sc_l_refused.nd
  refine F.ok sc_l_refused spT_len (fun cdv A outer s H vs Q E hr h => ⟨trS K (wish (Cx.nox (cxOf CX0 P w K mg base ["_law_text_here", "_law_caught", "e"] "_law_refused" (defScope s_l_refused) f cdv A outer s H E))) B_l_refused, ?_, body_T (m := 3) runT_ok h⟩)
  exact (qss_cons (qs_set nd 1 q_non)
    (qss_cons (qs_try (d := "BookError") TT (by decide) nd 2 rfl (fun _ _ => (qss_one (qs_x (xs_expr (x_call D_read_countX (hr.mono (by decide)) (q_acons (q_var 0) q_anil))) (qs_expr (q_callX D_read_countX (hr.mono (by decide)) (q_acons (q_var 0) q_anil)))))) (fun _ => (qss_one (qs_set nd 1 (q_var 2)))))
    (qss_cons (qs_if (t_w (t_or (t_tru (q_isxT TT m_isinstance (q_var 1) (nms_cons (d := "NoOrder") (nms_cons (d := "NoRoom") nms_nil)))) (t_or1 (t_tru (q_isxT TT m_isinstance (q_var 1) (nms_cons (d := "NoRow") (nms_cons (d := "NoName") nms_nil))))))) (qss_one (qs_ret q_bl)) qss_nil)
    (qss_one (qs_ret (q_and (q_isx1 (d := "NoText") TT m_isinstance (q_var 1)) (q_one (q_isxV TT m_isinstance m_ValueError (q_var 1)))))))))
abbrev s_law : Stmt := top 22
theorem sc_law : FnScope ["_law_script", "_law_cell", "_law_text_here", "_law_right", "_law_found", "_law_due", "_law_sign", "_law_word_here"] ["_law_script"] (defScope s_law) := ⟨rfl, rfl, rfl, by decide +kernel, rfl, by decide +kernel, by decide +kernel⟩
set_option maxHeartbeats 0 in
theorem ok_law (F : Fun K "law" "law" s_law f fd) (D_l_text : DefT P w K mg base 2 "_law_text" 1 R_l_text) (D_l_word : DefT P w K mg base 2 "_law_word" 1 R_l_word) (D_is_name : DefT P w K mg base 2 "is_name" 1 R_is_name) (D_l_all_in : DefT P w K mg base 1 "_law_all_in" 2 R_l_all_in) (D_read_countX : DefX P w K mg base 3 "read_count" 1 (spT K 1 R_read_countX) RX_read_countX) (D_l_refused : DefT P w K mg base 4 "_law_refused" 1 R_l_refused) (m_len : mg "len" = none) (m_isinstance : mg "isinstance" = none) (m_bool : mg "bool" = none) (m_int : mg "int" = none) :
    FnOk P w K mg base CX0 5 f fd ["_law_script"] (spT K 1 R_law) := by
  have nd := sc_law.nd
  refine F.ok sc_law spT_len (fun cdv A outer s H vs Q E hr h => ⟨trS K (wish (Cx.nox (cxOf CX0 P w K mg base ["_law_script", "_law_cell", "_law_text_here", "_law_right", "_law_found", "_law_due", "_law_sign", "_law_word_here"] "law" (defScope s_law) f cdv A outer s H E))) B_law, ?_, body_T (m := 8) runT_ok h⟩)
  exact (qss_cons (qs_for rfl (q_tree (n_cat (q_tree (n_disp (q_acons q_int q_anil))) (q_tree (n_slice (q_var 0) q_nopart (q_part q_int))))) (g_nm nd 1) (qss_cons (qs_set nd 2 (q_call D_l_text (hr.mono (by decide)) (q_acons (q_var 1) q_anil)))
    (qss_cons (qs_set nd 3 (q_and (q_call D_l_all_in (hr.mono (by decide)) (q_acons (q_var 2) (q_acons q_str q_anil))) (q_and (q_gt (q_lenS m_len (q_acons (q_var 2) q_anil)) q_int) (q_one (q_lt (q_lenS m_len (q_acons (q_var 2) q_anil)) q_int)))))
    (qss_cons (qs_if (t_w (t_and (t_tru (q_var 3)) (t_and1 (t_w (t_or (t_eq (hu20 hr) (q_var 2) q_str) (t_or1 (t_ne (hu20 hr) (q_ixS (q_var 2) q_int) q_str))))))) (qss_cons (qs_set nd 4 (q_callX D_read_countX (hr.mono (by decide)) (q_acons (q_var 2) q_anil)))
    (qss_cons (qs_set nd 5 q_int)
    (qss_cons (qs_forS rfl (q_var 2) (g_nm nd 6) (qss_one (qs_set nd 5 (q_add (q_mul q_int (q_var 5)) (q_fndS q_str (q_var 6))))))
    (qss_one (qs_if (t_w (t_or (t_not (t_tru (q_isi_int m_isinstance m_int (q_var 4)))) (t_or (t_tru (q_isi_bool m_isinstance m_bool (q_var 4))) (t_or1 (t_ne (hu20 hr) (q_var 4) (q_var 5)))))) (qss_one (qs_ret q_bl)) qss_nil))))) (qss_one (qs_if (t_not (t_tru (q_call D_l_refused (hr.mono (by decide)) (q_acons (q_var 2) q_anil)))) (qss_one (qs_ret q_bl)) qss_nil)))
    (qss_cons (qs_set nd 7 (q_call D_l_word (hr.mono (by decide)) (q_acons (q_var 1) q_anil)))
    (qss_cons (qs_set nd 4 (q_call D_is_name (hr.mono (by decide)) (q_acons (q_var 7) q_anil)))
    (qss_cons (qs_set nd 5 (q_and (q_gt (q_lenS m_len (q_acons (q_var 7) q_anil)) q_int) (q_and (q_lt (q_lenS m_len (q_acons (q_var 7) q_anil)) q_int) (q_one (q_call D_l_all_in (hr.mono (by decide)) (q_acons (q_var 7) (q_acons q_str q_anil)))))))
    (qss_one (qs_if (t_w (t_or (t_not (t_tru (q_isi_bool m_isinstance m_bool (q_var 4)))) (t_or1 (t_ne (hu20 hr) (q_var 4) (q_var 5))))) (qss_one (qs_ret q_bl)) qss_nil)))))))))
    (qss_one (qs_ret q_bl)))
end
theorem all_mk {l : PySem.W.OpenLaw} {w : World} {K : PySem.W.Frag} {h : Heap} {mg : Str → Option Value} {fa : Addr} (X : K.In h) (G : h.Ns mainGlobals mg) (hfa : mg "law" = some (.ref fa))
    {f1 : Addr} {od1 an1 : Option Addr} {sl1 : Array (Option Value)} {oc1 kV1 dc1 pm1 cd1 ct1 : Value}
    (a1 : PySem.W.nsIn K mainGlobals "_law_mix" = some (some (.ref f1))) (l1 : K.lookup f1 = some ⟨oc1, od1, .func (PySem.W.fnOf "_law_mix" "_law_mix" (defArgs s_mix1) (defBody s_mix1) (defScope s_mix1) .none kV1 dc1 pm1 an1 cd1 ct1), sl1⟩) (c1 : PySem.W.codeIn K cd1 "_law_mix" = true) (k1 : PySem.W.keepIn K (.ref f1) = true)
    {f2 : Addr} {od2 an2 : Option Addr} {sl2 : Array (Option Value)} {oc2 kV2 dc2 pm2 cd2 ct2 : Value}
    (a2 : PySem.W.nsIn K mainGlobals "_law_text" = some (some (.ref f2))) (l2 : K.lookup f2 = some ⟨oc2, od2, .func (PySem.W.fnOf "_law_text" "_law_text" (defArgs s_l_text) (defBody s_l_text) (defScope s_l_text) .none kV2 dc2 pm2 an2 cd2 ct2), sl2⟩) (c2 : PySem.W.codeIn K cd2 "_law_text" = true) (k2 : PySem.W.keepIn K (.ref f2) = true)
    {f3 : Addr} {od3 an3 : Option Addr} {sl3 : Array (Option Value)} {oc3 kV3 dc3 pm3 cd3 ct3 : Value}
    (a3 : PySem.W.nsIn K mainGlobals "_law_word" = some (some (.ref f3))) (l3 : K.lookup f3 = some ⟨oc3, od3, .func (PySem.W.fnOf "_law_word" "_law_word" (defArgs s_l_word) (defBody s_l_word) (defScope s_l_word) .none kV3 dc3 pm3 an3 cd3 ct3), sl3⟩) (c3 : PySem.W.codeIn K cd3 "_law_word" = true) (k3 : PySem.W.keepIn K (.ref f3) = true)
    {f4 : Addr} {od4 an4 : Option Addr} {sl4 : Array (Option Value)} {oc4 kV4 dc4 pm4 cd4 ct4 : Value}
    (a4 : PySem.W.nsIn K mainGlobals "is_made_of" = some (some (.ref f4))) (l4 : K.lookup f4 = some ⟨oc4, od4, .func (PySem.W.fnOf "is_made_of" "is_made_of" (defArgs s_is_made_of) (defBody s_is_made_of) (defScope s_is_made_of) .none kV4 dc4 pm4 an4 cd4 ct4), sl4⟩) (c4 : PySem.W.codeIn K cd4 "is_made_of" = true) (k4 : PySem.W.keepIn K (.ref f4) = true)
    {f5 : Addr} {od5 an5 : Option Addr} {sl5 : Array (Option Value)} {oc5 kV5 dc5 pm5 cd5 ct5 : Value}
    (a5 : PySem.W.nsIn K mainGlobals "is_name" = some (some (.ref f5))) (l5 : K.lookup f5 = some ⟨oc5, od5, .func (PySem.W.fnOf "is_name" "is_name" (defArgs s_is_name) (defBody s_is_name) (defScope s_is_name) .none kV5 dc5 pm5 an5 cd5 ct5), sl5⟩) (c5 : PySem.W.codeIn K cd5 "is_name" = true) (k5 : PySem.W.keepIn K (.ref f5) = true)
    {f6 : Addr} {od6 an6 : Option Addr} {sl6 : Array (Option Value)} {oc6 kV6 dc6 pm6 cd6 ct6 : Value}
    (a6 : PySem.W.nsIn K mainGlobals "_law_all_in" = some (some (.ref f6))) (l6 : K.lookup f6 = some ⟨oc6, od6, .func (PySem.W.fnOf "_law_all_in" "_law_all_in" (defArgs s_l_all_in) (defBody s_l_all_in) (defScope s_l_all_in) .none kV6 dc6 pm6 an6 cd6 ct6), sl6⟩) (c6 : PySem.W.codeIn K cd6 "_law_all_in" = true) (k6 : PySem.W.keepIn K (.ref f6) = true)
    {f7 : Addr} {od7 an7 : Option Addr} {sl7 : Array (Option Value)} {oc7 kV7 dc7 pm7 cd7 ct7 : Value}
    (a7 : PySem.W.nsIn K mainGlobals "is_count" = some (some (.ref f7))) (l7 : K.lookup f7 = some ⟨oc7, od7, .func (PySem.W.fnOf "is_count" "is_count" (defArgs s_is_count) (defBody s_is_count) (defScope s_is_count) .none kV7 dc7 pm7 an7 cd7 ct7), sl7⟩) (c7 : PySem.W.codeIn K cd7 "is_count" = true) (k7 : PySem.W.keepIn K (.ref f7) = true)
    {f8 : Addr} {od8 an8 : Option Addr} {sl8 : Array (Option Value)} {oc8 kV8 dc8 pm8 cd8 ct8 : Value}
    (a8 : PySem.W.nsIn K mainGlobals "read_count" = some (some (.ref f8))) (l8 : K.lookup f8 = some ⟨oc8, od8, .func (PySem.W.fnOf "read_count" "read_count" (defArgs s_read_countX) (defBody s_read_countX) (defScope s_read_countX) .none kV8 dc8 pm8 an8 cd8 ct8), sl8⟩) (c8 : PySem.W.codeIn K cd8 "read_count" = true) (k8 : PySem.W.keepIn K (.ref f8) = true)
    {f9 : Addr} {od9 an9 : Option Addr} {sl9 : Array (Option Value)} {oc9 kV9 dc9 pm9 cd9 ct9 : Value}
    (a9 : PySem.W.nsIn K mainGlobals "_law_refused" = some (some (.ref f9))) (l9 : K.lookup f9 = some ⟨oc9, od9, .func (PySem.W.fnOf "_law_refused" "_law_refused" (defArgs s_l_refused) (defBody s_l_refused) (defScope s_l_refused) .none kV9 dc9 pm9 an9 cd9 ct9), sl9⟩) (c9 : PySem.W.codeIn K cd9 "_law_refused" = true) (k9 : PySem.W.keepIn K (.ref f9) = true)
    {f10 : Addr} {od10 an10 : Option Addr} {sl10 : Array (Option Value)} {oc10 kV10 dc10 pm10 cd10 ct10 : Value}
    (a10 : PySem.W.nsIn K mainGlobals "law" = some (some (.ref f10))) (l10 : K.lookup f10 = some ⟨oc10, od10, .func (PySem.W.fnOf "law" "law" (defArgs s_law) (defBody s_law) (defScope s_law) .none kV10 dc10 pm10 an10 cd10 ct10), sl10⟩) (c10 : PySem.W.codeIn K cd10 "law" = true) (k10 : PySem.W.keepIn K (.ref f10) = true)
    (z_str : PySem.W.nsIn K mainGlobals "str" = some none)
    (z_len : PySem.W.nsIn K mainGlobals "len" = some none)
    (z_range : PySem.W.nsIn K mainGlobals "range" = some none)
    (z_all : PySem.W.nsIn K mainGlobals "all" = some none)
    (z_int : PySem.W.nsIn K mainGlobals "int" = some none)
    (z_isinstance : PySem.W.nsIn K mainGlobals "isinstance" = some none)
    (z_ValueError : PySem.W.nsIn K mainGlobals "ValueError" = some none)
    (z_bool : PySem.W.nsIn K mainGlobals "bool" = some none)
    {u_SMALL_LETTERS : Tok} (y_SMALL_LETTERS : PySem.W.nsIn K mainGlobals "SMALL_LETTERS" = some (some (.str "abcdefghijklmnopqrstuvwxyz" u_SMALL_LETTERS)))
    {u_MOST_LETTERS : Tok} (y_MOST_LETTERS : PySem.W.nsIn K mainGlobals "MOST_LETTERS" = some (some (.int 8 u_MOST_LETTERS)))
    {u_FIGURES : Tok} (y_FIGURES : PySem.W.nsIn K mainGlobals "FIGURES" = some (some (.str "0123456789" u_FIGURES)))
    {u_MOST_FIGURES : Tok} (y_MOST_FIGURES : PySem.W.nsIn K mainGlobals "MOST_FIGURES" = some (some (.int 30 u_MOST_FIGURES)))
    {C_BookError : Addr} (e_BookError : PySem.W.nsIn K mainGlobals "BookError" = some (some (.ref C_BookError))) (x_BookError : PySem.W.excIn K C_BookError mroVE "ValueError.__new__" = true)
    {C_NoText : Addr} (e_NoText : PySem.W.nsIn K mainGlobals "NoText" = some (some (.ref C_NoText))) (x_NoText : PySem.W.excIn K C_NoText mroVE "ValueError.__new__" = true)
    {C_NoOrder : Addr} (e_NoOrder : PySem.W.nsIn K mainGlobals "NoOrder" = some (some (.ref C_NoOrder))) (x_NoOrder : PySem.W.excIn K C_NoOrder mroVE "ValueError.__new__" = true)
    {C_NoRoom : Addr} (e_NoRoom : PySem.W.nsIn K mainGlobals "NoRoom" = some (some (.ref C_NoRoom))) (x_NoRoom : PySem.W.excIn K C_NoRoom mroVE "ValueError.__new__" = true)
    {C_NoRow : Addr} (e_NoRow : PySem.W.nsIn K mainGlobals "NoRow" = some (some (.ref C_NoRow))) (x_NoRow : PySem.W.excIn K C_NoRow mroVE "ValueError.__new__" = true)
    {C_NoName : Addr} (e_NoName : PySem.W.nsIn K mainGlobals "NoName" = some (some (.ref C_NoName))) (x_NoName : PySem.W.excIn K C_NoName mroVE "ValueError.__new__" = true)
    (t_BookError : PySem.W.typeIn K (.ref C_BookError) = some (.type "type"))
    (t_NoText : PySem.W.typeIn K (.ref C_NoText) = some (.type "type"))
    (t_NoOrder : PySem.W.typeIn K (.ref C_NoOrder) = some (.type "type"))
    (t_NoRoom : PySem.W.typeIn K (.ref C_NoRoom) = some (.type "type"))
    (t_NoRow : PySem.W.typeIn K (.ref C_NoRow) = some (.type "type"))
    (t_NoName : PySem.W.typeIn K (.ref C_NoName) = some (.type "type"))
    (g_NoText : PySem.W.findIn K (.ref C_NoText) "__getattribute__" = some (some (.builtin "BaseException.__getattribute__"))) (r_NoText : PySem.W.findIn K (.ref C_NoText) "__getattr__" = some none) (b_NoText : PySem.W.mroIn K C_NoText (.type "BaseException") = some true) (h_NoText : PySem.W.findIn K (.ref C_NoText) "__class__" = some (some (.builtin "object.__class__"))) (o_NoText : PySem.W.mroIn K C_NoText (.type "object") = some true) (v_NoText : PySem.W.subIn K (.ref C_NoText) (.type "ValueError") = some true)
    (p_NoText_BookError : PySem.W.mroIn K C_NoText (.ref C_BookError) = some true)
    (p_NoText_NoText : PySem.W.mroIn K C_NoText (.ref C_NoText) = some true)
    (p_NoText_NoOrder : PySem.W.mroIn K C_NoText (.ref C_NoOrder) = some false)
    (p_NoText_NoRoom : PySem.W.mroIn K C_NoText (.ref C_NoRoom) = some false)
    (p_NoText_NoRow : PySem.W.mroIn K C_NoText (.ref C_NoRow) = some false)
    (p_NoText_NoName : PySem.W.mroIn K C_NoText (.ref C_NoName) = some false) :
    ∃ fd : FuncData, (∀ (s : Shared) (v : Value), BindsTo s fd ⟨[v], []⟩ [("_law_script", v)]) ∧ ∀ base : Heap, K.In base → base.Ns mainGlobals mg → FnOk l.prog w K mg base CX0 5 fa fd ["_law_script"] (spT K 1 R_law) := by
  have e := hfa.symm.trans (PySem.W.mg_of X G a10)
  cases e
  have F1 := fun_mk (st := s_mix1) l1 c1 k1
  have b1 := F1.binds (ps := ["_law_number", "_law_k"]) fun _ _ _ _ _ _ us hl => match us, hl with | [_, _], _ => rfl
  have F2 := fun_mk (st := s_l_text) l2 c2 k2
  have b2 := F2.binds (ps := ["_law_cell"]) fun _ _ _ _ _ _ us hl => match us, hl with | [_], _ => rfl
  have F3 := fun_mk (st := s_l_word) l3 c3 k3
  have b3 := F3.binds (ps := ["_law_cell"]) fun _ _ _ _ _ _ us hl => match us, hl with | [_], _ => rfl
  have F4 := fun_mk (st := s_is_made_of) l4 c4 k4
  have b4 := F4.binds (ps := ["signs", "most", "text"]) fun _ _ _ _ _ _ us hl => match us, hl with | [_, _, _], _ => rfl
  have F5 := fun_mk (st := s_is_name) l5 c5 k5
  have b5 := F5.binds (ps := ["text"]) fun _ _ _ _ _ _ us hl => match us, hl with | [_], _ => rfl
  have F6 := fun_mk (st := s_l_all_in) l6 c6 k6
  have b6 := F6.binds (ps := ["_law_text_here", "_law_signs"]) fun _ _ _ _ _ _ us hl => match us, hl with | [_, _], _ => rfl
  have F7 := fun_mk (st := s_is_count) l7 c7 k7
  have b7 := F7.binds (ps := ["text"]) fun _ _ _ _ _ _ us hl => match us, hl with | [_], _ => rfl
  have F8 := fun_mk (st := s_read_countX) l8 c8 k8
  have b8 := F8.binds (ps := ["text"]) fun _ _ _ _ _ _ us hl => match us, hl with | [_], _ => rfl
  have F9 := fun_mk (st := s_l_refused) l9 c9 k9
  have b9 := F9.binds (ps := ["_law_text_here"]) fun _ _ _ _ _ _ us hl => match us, hl with | [_], _ => rfl
  have F10 := fun_mk (st := s_law) l10 c10 k10
  have b10 := F10.binds (ps := ["_law_script"]) fun _ _ _ _ _ _ us hl => match us, hl with | [_], _ => rfl
  have m_str := PySem.W.mg_none_of X G z_str
  have m_len := PySem.W.mg_none_of X G z_len
  have m_range := PySem.W.mg_none_of X G z_range
  have m_all := PySem.W.mg_none_of X G z_all
  have m_int := PySem.W.mg_none_of X G z_int
  have m_isinstance := PySem.W.mg_none_of X G z_isinstance
  have m_ValueError := PySem.W.mg_none_of X G z_ValueError
  have m_bool := PySem.W.mg_none_of X G z_bool
  have G_SMALL_LETTERS : ∃ t, mg "SMALL_LETTERS" = some (.str "abcdefghijklmnopqrstuvwxyz" t) := ⟨_, PySem.W.mg_of X G y_SMALL_LETTERS⟩
  have G_MOST_LETTERS : ∃ t, mg "MOST_LETTERS" = some (.int 8 t) := ⟨_, PySem.W.mg_of X G y_MOST_LETTERS⟩
  have G_FIGURES : ∃ t, mg "FIGURES" = some (.str "0123456789" t) := ⟨_, PySem.W.mg_of X G y_FIGURES⟩
  have G_MOST_FIGURES : ∃ t, mg "MOST_FIGURES" = some (.int 30 t) := ⟨_, PySem.W.mg_of X G y_MOST_FIGURES⟩
  have E_BookError : ∃ C, ExC K mg "BookError" C := ⟨C_BookError, e_BookError, PySem.W.mg_of X G e_BookError, x_BookError⟩
  have E_NoText : ∃ C, ExC K mg "NoText" C := ⟨C_NoText, e_NoText, PySem.W.mg_of X G e_NoText, x_NoText⟩
  have E_NoOrder : ∃ C, ExC K mg "NoOrder" C := ⟨C_NoOrder, e_NoOrder, PySem.W.mg_of X G e_NoOrder, x_NoOrder⟩
  have E_NoRoom : ∃ C, ExC K mg "NoRoom" C := ⟨C_NoRoom, e_NoRoom, PySem.W.mg_of X G e_NoRoom, x_NoRoom⟩
  have E_NoRow : ∃ C, ExC K mg "NoRow" C := ⟨C_NoRow, e_NoRow, PySem.W.mg_of X G e_NoRow, x_NoRow⟩
  have E_NoName : ∃ C, ExC K mg "NoName" C := ⟨C_NoName, e_NoName, PySem.W.mg_of X G e_NoName, x_NoName⟩
  have TT : Tab K mg xtab ["NoText"] ["BookError", "NoText", "NoOrder", "NoRoom", "NoRow", "NoName"] := Tab.of (rl := [("NoText", C_NoText)]) (dl := [("BookError", C_BookError), ("NoText", C_NoText), ("NoOrder", C_NoOrder), ("NoRoom", C_NoRoom), ("NoRow", C_NoRow), ("NoName", C_NoName)]) (all1 e_NoText all0) xtab_dom (all1 ⟨⟨e_BookError, PySem.W.mg_of X G e_BookError, x_BookError⟩, t_BookError⟩ (all1 ⟨⟨e_NoText, PySem.W.mg_of X G e_NoText, x_NoText⟩, t_NoText⟩ (all1 ⟨⟨e_NoOrder, PySem.W.mg_of X G e_NoOrder, x_NoOrder⟩, t_NoOrder⟩ (all1 ⟨⟨e_NoRoom, PySem.W.mg_of X G e_NoRoom, x_NoRoom⟩, t_NoRoom⟩ (all1 ⟨⟨e_NoRow, PySem.W.mg_of X G e_NoRow, x_NoRow⟩, t_NoRow⟩ (all1 ⟨⟨e_NoName, PySem.W.mg_of X G e_NoName, x_NoName⟩, t_NoName⟩ all0)))))) (all1 ⟨x_NoText, g_NoText, r_NoText, b_NoText, h_NoText, o_NoText⟩ all0) (all1 v_NoText all0) (all1 (all1 p_NoText_BookError (all1 p_NoText_NoText (all1 p_NoText_NoOrder (all1 p_NoText_NoRoom (all1 p_NoText_NoRow (all1 p_NoText_NoName all0)))))) all0)
  refine ⟨PySem.W.fnOf "law" "law" (defArgs s_law) (defBody s_law) (defScope s_law) .none kV10 dc10 pm10 an10 cd10 ct10, fun s v => .of_eq rfl, fun base _ _ => ?_⟩
  have D_mix1 : DefT l.prog w K mg base 1 "_law_mix" 2 R_mix1 := ⟨f1, _, ["_law_number", "_law_k"], ok_mix1 F1 , PySem.W.mg_of X G a1, k1, b1⟩
  have D_l_text : DefT l.prog w K mg base 2 "_law_text" 1 R_l_text := ⟨f2, _, ["_law_cell"], ok_l_text F2 D_mix1 m_str m_len, PySem.W.mg_of X G a2, k2, b2⟩
  have D_l_word : DefT l.prog w K mg base 2 "_law_word" 1 R_l_word := ⟨f3, _, ["_law_cell"], ok_l_word F3 D_mix1 m_range m_len, PySem.W.mg_of X G a3, k3, b3⟩
  have D_is_made_of : DefT l.prog w K mg base 1 "is_made_of" 3 R_is_made_of := ⟨f4, _, ["signs", "most", "text"], ok_is_made_of F4 m_all m_len, PySem.W.mg_of X G a4, k4, b4⟩
  have D_is_name : DefT l.prog w K mg base 2 "is_name" 1 R_is_name := ⟨f5, _, ["text"], ok_is_name F5 D_is_made_of G_SMALL_LETTERS G_MOST_LETTERS, PySem.W.mg_of X G a5, k5, b5⟩
  have D_l_all_in : DefT l.prog w K mg base 1 "_law_all_in" 2 R_l_all_in := ⟨f6, _, ["_law_text_here", "_law_signs"], ok_l_all_in F6 , PySem.W.mg_of X G a6, k6, b6⟩
  have D_is_count : DefT l.prog w K mg base 2 "is_count" 1 R_is_count := ⟨f7, _, ["text"], ok_is_count F7 D_is_made_of G_FIGURES G_MOST_FIGURES, PySem.W.mg_of X G a7, k7, b7⟩
  have D_read_countX : DefX l.prog w K mg base 3 "read_count" 1 (spT K 1 R_read_countX) RX_read_countX := ⟨f8, _, ["text"], ok_read_countX F8 D_is_count m_int E_NoText, PySem.W.mg_of X G a8, k8, b8⟩
  have D_l_refused : DefT l.prog w K mg base 4 "_law_refused" 1 R_l_refused := ⟨f9, _, ["_law_text_here"], ok_l_refused F9 D_read_countX m_isinstance m_ValueError TT, PySem.W.mg_of X G a9, k9, b9⟩
  exact ok_law F10 D_l_text D_l_word D_is_name D_l_all_in D_read_countX D_l_refused m_len m_isinstance m_bool m_int
end K61
open PySem PySem.W PyProof.Rows
set_option maxRecDepth 100000 in
set_option maxHeartbeats 0 in
theorem PySem.Challenge.cw_hastebook_k61_numbers_and_names_holds : PySem.Challenge.rw_hastebook_k61_numbers_and_names.Holds := by
  w_on; o_law; k_head; (case hw => w_witness2)
  k_fill
  refine TL.walk_tree (l := PySem.Challenge.rw_hastebook_k61_numbers_and_names) (x := "_law_script") (R := K61.R_law) (k := 5) rfl rfl ⟨rfl, by decide, by decide⟩ (fun w h Y => PySem.W.kIn_of Y) K61.law_true ?F
  case F =>
    intro w mg fa h KX G hmg
    refine' K61.all_mk KX G hmg ?a1 ?l1 ?c1 ?k1 ?a2 ?l2 ?c2 ?k2 ?a3 ?l3 ?c3 ?k3 ?a4 ?l4 ?c4 ?k4 ?a5 ?l5 ?c5 ?k5 ?a6 ?l6 ?c6 ?k6 ?a7 ?l7 ?c7 ?k7 ?a8 ?l8 ?c8 ?k8 ?a9 ?l9 ?c9 ?k9 ?a10 ?l10 ?c10 ?k10 ?z_str ?z_len ?z_range ?z_all ?z_int ?z_isinstance ?z_ValueError ?z_bool ?y_SMALL_LETTERS ?y_MOST_LETTERS ?y_FIGURES ?y_MOST_FIGURES ?e_BookError ?x_BookError ?e_NoText ?x_NoText ?e_NoOrder ?x_NoOrder ?e_NoRoom ?x_NoRoom ?e_NoRow ?x_NoRow ?e_NoName ?x_NoName ?t_BookError ?t_NoText ?t_NoOrder ?t_NoRoom ?t_NoRow ?t_NoName ?g_NoText ?r_NoText ?b_NoText ?h_NoText ?o_NoText ?v_NoText ?p_NoText_BookError ?p_NoText_NoText ?p_NoText_NoOrder ?p_NoText_NoRoom ?p_NoText_NoRow ?p_NoText_NoName
    (case a1 => k_is); (case l1 => k_is); (case c1 => k_is); (case k1 => k_is)
    (case a2 => k_is); (case l2 => k_is); (case c2 => k_is); (case k2 => k_is)
    (case a3 => k_is); (case l3 => k_is); (case c3 => k_is); (case k3 => k_is)
    (case a4 => k_is); (case l4 => k_is); (case c4 => k_is); (case k4 => k_is)
    (case a5 => k_is); (case l5 => k_is); (case c5 => k_is); (case k5 => k_is)
    (case a6 => k_is); (case l6 => k_is); (case c6 => k_is); (case k6 => k_is)
    (case a7 => k_is); (case l7 => k_is); (case c7 => k_is); (case k7 => k_is)
    (case a8 => k_is); (case l8 => k_is); (case c8 => k_is); (case k8 => k_is)
    (case a9 => k_is); (case l9 => k_is); (case c9 => k_is); (case k9 => k_is)
    (case a10 => k_is); (case l10 => k_is); (case c10 => k_is); (case k10 => k_is)
    (case z_str => k_is)
    (case z_len => k_is)
    (case z_range => k_is)
    (case z_all => k_is)
    (case z_int => k_is)
    (case z_isinstance => k_is)
    (case z_ValueError => k_is)
    (case z_bool => k_is)
    (case y_SMALL_LETTERS => k_is)
    (case y_MOST_LETTERS => k_is)
    (case y_FIGURES => k_is)
    (case y_MOST_FIGURES => k_is)
    (case e_BookError => k_is); (case x_BookError => k_exc)
    (case e_NoText => k_is); (case x_NoText => k_exc)
    (case e_NoOrder => k_is); (case x_NoOrder => k_exc)
    (case e_NoRoom => k_is); (case x_NoRoom => k_exc)
    (case e_NoRow => k_is); (case x_NoRow => k_exc)
    (case e_NoName => k_is); (case x_NoName => k_exc)
    (case t_BookError => k_is)
    (case t_NoText => k_is)
    (case t_NoOrder => k_is)
    (case t_NoRoom => k_is)
    (case t_NoRow => k_is)
    (case t_NoName => k_is)
    (case g_NoText => k_is); (case r_NoText => k_is); (case b_NoText => k_is); (case h_NoText => k_is); (case o_NoText => k_is); (case v_NoText => k_is)
    (case p_NoText_BookError => k_is)
    (case p_NoText_NoText => k_is)
    (case p_NoText_NoOrder => k_is)
    (case p_NoText_NoRoom => k_is)
    (case p_NoText_NoRow => k_is)
    (case p_NoText_NoName => k_is)

