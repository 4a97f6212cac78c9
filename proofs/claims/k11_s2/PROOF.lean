import PyProof.Rows.All
import Wide.All
import OpenK.AllK
import Wide.FinOn
import PyProof.EqAt
import PyProof.EqKinds
import PyProof.TupleCall
import KE.BitLaws
import KE.KSortTupG
import PySem.Challenge.RW_lostseat_k11_whole_together
set_option Elab.async false
set_option linter.all false
set_option maxRecDepth 100000
/-! THE HAND LAYER, for ints, bools, texts, own classes, lists, tuples, dicts, comprehensions, walks over dicts, enumerate, zip, reversed, texts, calls, loops. Paste it whole ahead of your own text; what your proof does not reach may be deleted. -/
namespace L2
open PySem PySem.Spec PyProof.Rows

abbrev Key := Sum Int Str
def keyIs : Key → Value → Bool
  | .inl k, v => Value.isInt k v
  | .inr x, v => Value.isStrOf x v
def keyH (w : World) : Key → Int
  | .inl k => hashInt k
  | .inr x => hashStr w x
theorem keyIs_shape : ∀ {k : Key} {v : Value}, keyIs k v = true → (∃ i t, k = Sum.inl i ∧ v = Value.int i t) ∨ (∃ x t, k = Sum.inr x ∧ v = Value.str x t)
  | .inl i, v, h => by
    obtain ⟨t, e⟩ := Value.isInt_shape (k := i) (v := v) h
    exact .inl ⟨i, t, rfl, e⟩
  | .inr x, v, h => by
    obtain ⟨t, e⟩ := Value.isStrOf_shape (x := x) (v := v) h
    exact .inr ⟨x, t, rfl, e⟩
theorem key_ll (a b : Int) : decide ((Sum.inl a : Key) = Sum.inl b) = (a == b) := by
  by_cases e : a = b
  · subst e; simp
  · have h : ¬ (Sum.inl a : Key) = Sum.inl b := fun q => e (Sum.inl.inj q)
    rw [decide_eq_false h]
    exact (beq_eq_false_iff_ne.mpr e).symm
theorem key_rr (a b : Str) : decide ((Sum.inr a : Key) = Sum.inr b) = decide (a = b) := by
  by_cases e : a = b
  · subst e; simp
  · have h : ¬ (Sum.inr a : Key) = Sum.inr b := fun q => e (Sum.inr.inj q)
    rw [decide_eq_false h, decide_eq_false e]
theorem key_lr (a : Int) (b : Str) : decide ((Sum.inl a : Key) = Sum.inr b) = false := decide_eq_false (fun q => nomatch q)
theorem key_rl (a : Str) (b : Int) : decide ((Sum.inr a : Key) = Sum.inl b) = false := decide_eq_false (fun q => nomatch q)

def mixKind (prog : Program) (w : World) : PySem.KeyKind prog w Key where
  is := keyIs
  hash := keyH w
  inj := fun v a b ha hb => by
    rcases keyIs_shape ha with ⟨i, t, rfl, rfl⟩ | ⟨x, t, rfl, rfl⟩
    · rcases keyIs_shape hb with ⟨j, u, rfl, e⟩ | ⟨y, u, rfl, e⟩
      · injection e with e1 _; rw [e1]
      · exact nomatch e
    · rcases keyIs_shape hb with ⟨j, u, rfl, e⟩ | ⟨y, u, rfl, e⟩
      · exact nomatch e
      · injection e with e1 _; rw [e1]
  byValue := fun k v h => by
    rcases keyIs_shape h with ⟨i, t, rfl, rfl⟩ | ⟨x, t, rfl, rfl⟩ <;> rfl
  pyHash := fun hv h => by
    rcases keyIs_shape hv with ⟨i, t, rfl, rfl⟩ | ⟨x, t, rfl, rfl⟩
    · exact wpAny_pyHash_int h
    · exact wpAny_pyHash_str h
  eqBool := fun hu hv h => by
    rcases keyIs_shape hu with ⟨i, t, rfl, rfl⟩ | ⟨x, t, rfl, rfl⟩
    · rcases keyIs_shape hv with ⟨j, u, rfl, rfl⟩ | ⟨y, u, rfl, rfl⟩
      · rw [key_ll] at h; exact wpAny_eqBool_int h
      · rw [key_lr] at h; exact SeqAt.EqAt.int_str i t y u _ _ _ _ h
    · rcases keyIs_shape hv with ⟨j, u, rfl, rfl⟩ | ⟨y, u, rfl, rfl⟩
      · rw [key_rl] at h; exact SeqAt.EqAt.str_int x t j u _ _ _ _ h
      · rw [key_rr] at h; exact wpAny_eqBool_str h
  «strs» := fun k x t v h => by
    rcases keyIs_shape h with ⟨i, u, rfl, e⟩ | ⟨y, u, rfl, e⟩
    · exact nomatch e
    · injection e with e1 _
      subst e1
      cases v <;> rfl

end L2

namespace L2
open PySem PySem.Spec PyProof.Rows

inductive V where
  | non | bl (b : Bool) | int (i : Int) | str (x : Str) | byt (b : Array UInt8) | flt (b : UInt64) | ref (a : Addr) | ty (n : String)
  deriving DecidableEq

def RelV : V → Value → Prop
  | .non, u => u = Value.none
  | .bl b, u => u = Value.bool b
  | .int i, u => ∃ t, u = Value.int i t
  | .str x, u => ∃ t, u = Value.str x t
  | .byt b, u => ∃ t, u = Value.bytes b t
  | .flt b, u => ∃ t, u = Value.float b t
  | .ref a, u => u = Value.ref a
  | .ty n, u => u = Value.type n

abbrev Vals : List V → List Value → Prop := Paired RelV
theorem Vals.length {xs : List V} {us : List Value} (r : Vals xs us) : xs.length = us.length := Paired.length r
theorem Vals.get : ∀ {xs : List V} {us : List Value} {i : Nat} {x : V}, Vals xs us → xs[i]? = some x → ∃ u, us[i]? = some u ∧ RelV x u
  | _, _, _, _, .nil, e => by simp at e
  | _, _, 0, _, .cons r _, e => by simp at e; subst e; exact ⟨_, rfl, r⟩
  | _, _, i + 1, x, .cons _ t, e => by
    obtain ⟨u, h1, h2⟩ := Vals.get (i := i) (x := x) t (by simpa using e)
    exact ⟨u, by simpa using h1, h2⟩
theorem Vals.set {x : V} {u : Value} (r : RelV x u) : ∀ {xs : List V} {us : List Value} (i : Nat), Vals xs us → Vals (xs.set i x) (us.set i u)
  | _, _, _, .nil => .nil
  | _, _, 0, .cons _ t => .cons r t
  | _, _, i + 1, .cons q t => .cons q (Vals.set r i t)
theorem Vals.append : ∀ {xs ys : List V} {us ws : List Value}, Vals xs us → Vals ys ws → Vals (xs ++ ys) (us ++ ws)
  | _, _, _, _, .nil, s => s
  | _, _, _, _, .cons r t, s => .cons r (Vals.append t s)
theorem Vals.take : ∀ {xs : List V} {us : List Value} (n : Nat), Vals xs us → Vals (xs.take n) (us.take n)
  | _, _, 0, _ => .nil
  | _, _, _ + 1, .nil => .nil
  | _, _, n + 1, .cons r t => .cons r (Vals.take n t)
theorem Vals.drop : ∀ {xs : List V} {us : List Value} (n : Nat), Vals xs us → Vals (xs.drop n) (us.drop n)
  | _, _, 0, r => r
  | _, _, _ + 1, .nil => .nil
  | _, _, n + 1, .cons _ t => Vals.drop n t
def RelO : Option V → Option Value → Prop
  | some v, some u => RelV v u
  | none, none => True
  | _, _ => False
def KV {κ : Type} : List (κ × V) → List (κ × Value) → Prop := Paired fun (p : κ × V) (q : κ × Value) => p.1 = q.1 ∧ RelV p.2 q.2

def kV : Key → V
  | .inl i => .int i
  | .inr x => .str x

inductive HO where
  /-- a list -/
  | lst (xs : List V)
  /-- a tuple (never changes) -/
  | tup (xs : List V)
  /-- a dict whose keys are ints and texts; one whose keys are tuples of ints and texts (the empty one is both) -/
  | dK (kvs : List (Key × V)) | dT (kvs : List (List Key × V))
  /-- a set of ints: its members, its size -/
  | set (S : Int → Bool) (n : Nat)
  /-- an instance of the class at C, its dict at dx, its attributes -/
  | ins (C dx : Addr) (fs : List (Str × V))
  /-- the dict of the instance at x -/
  | own (x : Addr)
  /-- the dict of an exception -/
  | xd (fs : List (Str × V))
  /-- a bound method, f of x -/
  | met (f x : Addr)
  /-- a range object lo, lo + 1, .. below hi -/
  | rng (lo hi : Int)
  /-- a thing that is known to the object (the script; a dict while a loop walks it): read, never written while it is so -/
  | frz (o : Obj) (u : HO)
  /-- a code object's table -/
  | tbl (ps : Array Value)
  /-- any other thing, by what is true of its one object (a def of one's own: SetO a S n := HO.ext fun h => ..) -/
  | ext (φ : Heap → Prop)

abbrev Hp := Addr → Option HO
def upd (H : Hp) (a : Addr) (o : HO) : Hp := fun b => if b = a then some o else H b
theorem upd_same {H : Hp} {a : Addr} {o : HO} : upd H a o a = some o := by unfold upd; rw [if_pos rfl]
theorem upd_ne {H : Hp} {a b : Addr} {o : HO} (h : b ≠ a) : upd H a o b = H b := by unfold upd; rw [if_neg h]
theorem ne_of_none {H : Hp} {a b : Addr} {o : HO} (h : H a = some o) (h' : H b = none) : a ≠ b := by
  intro e; subst e; rw [h] at h'; cases h'

section
variable (P : Program) (w : World)
def ObjOk (H : Hp) (h : Heap) (a : Addr) : HO → Prop
  | .lst xs => xs.length ≤ sizeLine ∧ ∃ (its : List Value) (n : Nat), Vals xs its ∧ h.get? a = some { cls := .type "list", data := .seq its.toArray n }
  | .tup xs => xs.length ≤ sizeLine ∧ ∃ its : List Value, Vals xs its ∧ IsTup h a its.toArray
  | .dK kvs => kvs.length ≤ sizeLine ∧ (a == sysModules) = false ∧ ∃ vs, KV kvs vs ∧ h.DictOf (mixKind P w) a vs
  | .dT kvs => kvs.length ≤ sizeLine ∧ (a == sysModules) = false ∧ ∃ xs : List (List Key × Addr × Value),
      Paired (fun (p : List Key × V) (q : List Key × Addr × Value) => p.1 = q.1 ∧ H q.2.1 = some (.tup (p.1.map kV)) ∧ RelV p.2 q.2.2) kvs xs ∧
      ∃ o es ep, h.get? a = some o ∧ o.ExactDict ∧ o.data = .dict es ep ∧ es.toList = xs.map (entryOfKey (tupleKind (mixKind P w))) ∧ (xs.map (·.1)).Nodup
  | .set S n => h.SetOf (intKind P w) a S n
  | .ins C dx fs => H dx = some (.own a) ∧ fs.length ≤ 1000 ∧ dx ≠ a ∧ h.get? a = some (PySem.W.instObj C dx) ∧
      ∃ mA, h.Ns1 dx mA ∧ (∀ f, RelO (fs.lookup f) (mA f)) ∧ PySem.Within mA (fs.map (·.1))
  | .own _ => ∃ o, h.get? a = some o
  | .xd fs => ∃ mA, h.Ns1 a mA ∧ ∀ f, RelO (fs.lookup f) (mA f)
  | .rng lo hi => ∃ t u v, h.get? a = some { cls := .type "range", data := .fields #[.int lo t, .int hi u, .int 1 v] }
  | .frz o u => h.get? a = some o ∧ ObjOk H h a u
  | .tbl ps => h.get? a = some { cls := .none, data := .fields ps }
  | .met f x => h.get? a = some (PySem.W.methodObj (.ref f) (.ref x))
  | .ext φ => φ h ∧ (∃ o, h.get? a = some o) ∧ ∀ h1 h2 : Heap, φ h1 → (∀ o, h1.get? a = some o → h2.get? a = some o) → φ h2
def HOk (H : Hp) (h : Heap) : Prop := ∀ a o, H a = some o → ObjOk P w H h a o
end

section
variable {P : Program} {w : World} {H H' : Hp} {h h' : Heap} {a : Addr} {o : HO}
theorem ObjOk.lt (x : ObjOk P w H h a o) : a < h.objs.size := by
  cases o with
  | lst xs => obtain ⟨_, _, _, _, e⟩ := x; exact Heap.lt_size e
  | tup xs => obtain ⟨_, _, _, p⟩ := x; exact p.lt
  | dK kvs => obtain ⟨_, _, _, _, o, _, _, e, _⟩ := x; exact Heap.lt_size e
  | dT kvs => obtain ⟨_, _, _, _, o, _, _, e, _⟩ := x; exact Heap.lt_size e
  | set S n => obtain ⟨o, _, _, _, e, _⟩ := x; exact Heap.lt_size e
  | ins C dx fs => obtain ⟨_, _, _, e, _⟩ := x; exact Heap.lt_size e
  | own y => obtain ⟨_, e⟩ := x; exact Heap.lt_size e
  | xd fs => obtain ⟨_, ⟨_, _, _, e, _⟩, _⟩ := x; exact Heap.lt_size e
  | rng lo hi => obtain ⟨_, _, _, e⟩ := x; exact Heap.lt_size e
  | frz ob u => obtain ⟨e, _⟩ := x; exact Heap.lt_size e
  | tbl ps => exact Heap.lt_size (show h.get? a = some _ from x)
  | met f y => exact Heap.lt_size (show h.get? a = some _ from x)
  | ext φ => obtain ⟨_, ⟨_, e⟩, _⟩ := x; exact Heap.lt_size e
theorem Paired.mapP {α β : Type} {F G : α → β → Prop} : ∀ {l₁ : List α} {l₂ : List β}, Paired F l₁ l₂ → (∀ a b, F a b → G a b) → Paired G l₁ l₂
  | _, _, .nil, _ => .nil
  | _, _, .cons r t, f => .cons (f _ _ r) (Paired.mapP t f)
theorem ObjOk.stay (x : ObjOk P w H h a o) (k : ∀ b u, (b = a ∨ H b = some (.own a)) → h.get? b = some u → h'.get? b = some u)
    (ho : ∀ b, H b = some (.own a) → H' b = some (.own a)) (ht : ∀ b xs, H b = some (.tup xs) → H' b = some (.tup xs)) : ObjOk P w H' h' a o := by
  induction o with
  | lst xs => obtain ⟨z, its, n, r, e⟩ := x; exact ⟨z, its, n, r, k _ _ (.inl rfl) e⟩
  | tup xs => obtain ⟨z, its, r, ob, e, c⟩ := x; exact ⟨z, its, r, ob, k _ _ (.inl rfl) e, c⟩
  | dK kvs => obtain ⟨z, y, vs, r, ob, es, ep, e, c⟩ := x; exact ⟨z, y, vs, r, ob, es, ep, k _ _ (.inl rfl) e, c⟩
  | dT kvs =>
    obtain ⟨z, y, xs, r, ob, es, ep, e, c⟩ := x
    exact ⟨z, y, xs, Paired.mapP r fun p q z => ⟨z.1, ht _ _ z.2.1, z.2.2⟩, ob, es, ep, k _ _ (.inl rfl) e, c⟩
  | set S n => obtain ⟨ob, es, ep, t, e, c⟩ := x; exact ⟨ob, es, ep, t, k _ _ (.inl rfl) e, c⟩
  | ins C dx fs =>
    obtain ⟨d, z, ne, e, mA, ⟨od, es, ep, e2, c⟩, r⟩ := x
    exact ⟨ho _ d, z, ne, k _ _ (.inl rfl) e, mA, ⟨od, es, ep, k _ _ (.inr d) e2, c⟩, r⟩
  | own y => obtain ⟨ob, e⟩ := x; exact ⟨ob, k _ _ (.inl rfl) e⟩
  | xd fs => obtain ⟨mA, ⟨od, es, ep, e, c⟩, r⟩ := x; exact ⟨mA, ⟨od, es, ep, k _ _ (.inl rfl) e, c⟩, r⟩
  | rng lo hi => obtain ⟨t, u, v, e⟩ := x; exact ⟨t, u, v, k _ _ (.inl rfl) e⟩
  | frz ob u ih => obtain ⟨e, q⟩ := x; exact ⟨k _ _ (.inl rfl) e, ih q⟩
  | tbl ps =>
    have e : h.get? a = some { cls := .none, data := .fields ps } := x
    show h'.get? a = some { cls := .none, data := .fields ps }
    exact k a _ (.inl rfl) e
  | met f y =>
    have e : h.get? a = some (PySem.W.methodObj (.ref f) (.ref y)) := x
    show h'.get? a = some (PySem.W.methodObj (.ref f) (.ref y))
    exact k a _ (.inl rfl) e
  | ext φ => obtain ⟨p, ⟨o, e⟩, st⟩ := x; exact ⟨st _ _ p fun o q => k _ _ (.inl rfl) q, ⟨o, k _ _ (.inl rfl) e⟩, st⟩
theorem HOk.lt (x : HOk P w H h) (e : H a = some o) : a < h.objs.size := (x a o e).lt
theorem HOk.fresh (x : HOk P w H h) (e : h.objs.size ≤ a) : H a = none := by
  cases q : H a with
  | none => rfl
  | some u => exact absurd (Nat.lt_of_lt_of_le (x.lt q) e) (Nat.lt_irrefl _)
theorem HOk.kept (x : HOk P w H h) (k : ∀ b u, h.get? b = some u → h'.get? b = some u) : HOk P w H h' := fun a o e =>
  (x a o e).stay (fun b u _ q => k b u q) (fun _ q => q) fun _ _ q => q
theorem HOk.laid (x : HOk P w H h) (k : ∀ b u, h.get? b = some u → h'.get? b = some u) (hp : h.objs.size ≤ a) (new : ObjOk P w (upd H a o) h' a o) : HOk P w (upd H a o) h' := fun b u e => by
  have hn := x.fresh hp
  by_cases hb : b = a
  · subst hb; rw [upd_same] at e; cases e; exact new
  · rw [upd_ne hb] at e
    exact (x b u e).stay (fun c v _ q => k c v q) (fun c q => by rw [upd_ne (ne_of_none q hn)]; exact q) fun c xs q => by rw [upd_ne (ne_of_none q hn)]; exact q
end

def Rd (H : Hp) (a : Addr) (u : HO) : Prop := H a = some u ∨ ∃ o, H a = some (.frz o u)
theorem Rd.of {H : Hp} {a : Addr} {u : HO} (h : H a = some u) : Rd H a u := .inl h
theorem Rd.ok {P : Program} {w : World} {H : Hp} {h : Heap} {a : Addr} {u : HO} (r : Rd H a u) (x : HOk P w H h) : ObjOk P w H h a u := by
  rcases r with r | ⟨o, r⟩
  · exact x a u r
  · obtain ⟨_, q⟩ := x a _ r
    exact q
def Mut : Option HO → Prop
  | some (.lst _) => True
  | some (.dK _) => True
  | some (.dT _) => True
  | some (.set _ _) => True
  | some (.ins _ _ _) => True
  | some (.ext _) => True
  | _ => False
section
variable {P : Program} {w : World} {H : Hp} {h h' : Heap} {x e : Addr} {o' : HO}
theorem HOk.write (ok : HOk P w H h) (mu : Mut (H x)) (he : e = x ∨ H e = some (.own x)) (k : ∀ b u, b ≠ e → h.get? b = some u → h'.get? b = some u) (heo : ∃ u, h'.get? e = some u)
    (new : ObjOk P w (upd H x o') h' x o') : HOk P w (upd H x o') h' := fun b u q => by
  have nown : ∀ c y, H c = some (.own y) → c ≠ x := fun c y r z => by subst z; rw [r] at mu; exact mu
  have ntup : ∀ c xs, H c = some (.tup xs) → c ≠ x := fun c xs r z => by subst z; rw [r] at mu; exact mu
  by_cases hb : b = x
  · subst hb; rw [upd_same] at q; cases q; exact new
  · rw [upd_ne hb] at q
    by_cases hbe : b = e
    · have q' : H b = some (.own x) := by
        rcases he with z | z
        · exact absurd (hbe.trans z) hb
        · rw [hbe]; exact z
      rw [q] at q'; cases q'
      obtain ⟨v, hv⟩ := heo
      exact ⟨v, by rw [hbe]; exact hv⟩
    · refine (ok b u q).stay (fun c v hc r => k c v ?_ r) (fun c r => by rw [upd_ne (nown c b r)]; exact r) fun c xs r => by rw [upd_ne (ntup c xs r)]; exact r
      rcases hc with rfl | hc
      · exact hbe
      · rintro rfl
        rcases he with z | z
        · exact nown c b hc z
        · rw [hc] at z; cases z; exact hb rfl
end

/-! ### kept unless tracked; of the frames at fs (the callers') the slots may change (an exception that passes writes there); of the records at ex (iterators) nothing is said -/
structure Un (fs ex : List Addr) (H H' : Hp) (h h' : Heap) : Prop where
  keep : ∀ b o, h.get? b = some o → H b = none → b ∉ fs → b ∉ ex → h'.get? b = some o
  slot : ∀ b o, h.get? b = some o → H b = none → b ∈ fs → b ∉ ex → ∃ sl, h'.get? b = some { o with slots := sl }
  free : ∀ b o, h.get? b = some o → H b = none → b ∉ ex → H' b = none
  there : ∀ b o, h.get? b = some o → b ∉ ex → ∃ o', h'.get? b = some o'
  tups : ∀ b xs, H b = some (.tup xs) → H' b = some (.tup xs)
  frzs : ∀ b o u, H b = some (.frz o u) → H' b = some (.frz o u)
  tbls : ∀ b ps, H b = some (.tbl ps) → ∃ more, H' b = some (.tbl (ps ++ more))
section
variable {fs fs' ex ex' : List Addr} {H H1 H2 : Hp} {h h1 h2 h' : Heap} {a x e : Addr} {o : HO}
theorem Un.any (u : Un fs ex H H1 h h1) {b : Addr} {ob : Obj} (q : h.get? b = some ob) (n : H b = none) (hx : b ∉ ex) : ∃ sl, h1.get? b = some { ob with slots := sl } := by
  by_cases hb : b ∈ fs
  · exact u.slot b ob q n hb hx
  · exact ⟨ob.slots, u.keep b ob q n hb hx⟩
theorem Un.trans (a : Un fs ex H H1 h h1) (b : Un fs ex H1 H2 h1 h2) : Un fs ex H H2 h h2 where
  keep := fun c ob q n hc hx => b.keep c ob (a.keep c ob q n hc hx) (a.free c ob q n hx) hc hx
  slot := fun c ob q n hc hx => by
    obtain ⟨sl, e1⟩ := a.slot c ob q n hc hx
    obtain ⟨sl', e2⟩ := b.slot c _ e1 (a.free c ob q n hx) hc hx
    exact ⟨sl', e2⟩
  free := fun c ob q n hx => by
    obtain ⟨o', e1⟩ := a.there c ob q hx
    exact b.free c o' e1 (a.free c ob q n hx) hx
  there := fun c ob q hx => by
    obtain ⟨o', e1⟩ := a.there c ob q hx
    exact b.there c o' e1 hx
  tups := fun c xs q => b.tups c xs (a.tups c xs q)
  frzs := fun c ob xs q => b.frzs c ob xs (a.frzs c ob xs q)
  tbls := fun c ps q => by
    obtain ⟨m1, e1⟩ := a.tbls c ps q
    obtain ⟨m2, e2⟩ := b.tbls c _ e1
    exact ⟨m1 ++ m2, by rw [e2, Array.append_assoc]⟩
theorem Un.kept (k : ∀ b u, h.get? b = some u → h'.get? b = some u) : Un fs ex H H h h' :=
  ⟨fun b ob q _ _ _ => k b ob q, fun b ob q _ _ _ => ⟨ob.slots, k b ob q⟩, fun _ _ _ n _ => n, fun b ob q _ => ⟨ob, k b ob q⟩, fun _ _ q => q, fun _ _ _ q => q, fun _ ps q => ⟨#[], by rw [q]; simp⟩⟩
theorem Un.refl : Un fs ex H H h h := Un.kept fun _ _ q => q
theorem Un.laid (k : ∀ b u, h.get? b = some u → h'.get? b = some u) (hp : h.objs.size ≤ a) (hn : H a = none) : Un fs ex H (upd H a o) h h' where
  keep := fun b u q _ _ _ => k b u q
  slot := fun b u q _ _ _ => ⟨u.slots, k b u q⟩
  free := fun b u q n _ => by rw [upd_ne (Nat.ne_of_lt (Nat.lt_of_lt_of_le (Heap.lt_size q) hp))]; exact n
  there := fun b u q _ => ⟨u, k b u q⟩
  tups := fun b xs q => by rw [upd_ne (ne_of_none q hn)]; exact q
  frzs := fun b u xs q => by rw [upd_ne (ne_of_none q hn)]; exact q
  tbls := fun b ps q => ⟨#[], by rw [upd_ne (ne_of_none q hn), q]; simp⟩
theorem Un.write (mu : Mut (H x)) (he : e = x ∨ H e = some (.own x)) (k : ∀ b u, b ≠ e → h.get? b = some u → h'.get? b = some u) (heo : ∃ u, h'.get? e = some u) : Un fs ex H (upd H x o) h h' := by
  have hx : ∀ b, H b = none → b ≠ x := fun b n z => by subst z; rw [n] at mu; exact mu
  have hb : ∀ b, H b = none → b ≠ e := fun b n z => by
    subst z
    rcases he with r | r
    · exact hx b n r
    · rw [n] at r; cases r
  have hm : ∀ b u, H b = some u → ¬ Mut (some u) → b ≠ x := fun b u q nm z => by subst z; rw [q] at mu; exact nm mu
  refine ⟨fun b u q n _ _ => k b u (hb b n) q, fun b u q n _ _ => ⟨u.slots, k b u (hb b n) q⟩, fun b u q n _ => by rw [upd_ne (hx b n)]; exact n, fun b u q _ => ?_,
    fun b xs q => by rw [upd_ne (hm b _ q fun z => z)]; exact q, fun b u xs q => by rw [upd_ne (hm b _ q fun z => z)]; exact q, fun b ps q => ⟨#[], by rw [upd_ne (hm b _ q fun z => z), q]; simp⟩⟩
  by_cases hbe : b = e
  · subst hbe; exact heo
  · exact ⟨u, k b u hbe q⟩
theorem Un.mono (u : Un fs ex H H1 h h1) (hs : ∀ b ∈ fs, b ∈ fs') (hx : ∀ b ∈ ex, b ∈ ex') : Un fs' ex' H H1 h h1 :=
  ⟨fun b ob q n hb he => u.keep b ob q n (fun z => hb (hs b z)) fun z => he (hx b z), fun _ _ q n _ he => u.any q n fun z => he (hx _ z), fun b ob q n he => u.free b ob q n fun z => he (hx b z), fun b ob q he => u.there b ob q fun z => he (hx b z), u.tups, u.frzs, u.tbls⟩
end

/-! ### the heap without what is tracked -/
def trk (h : Heap) (H : Hp) : List Addr := (List.range h.objs.size).filter fun a => (H a).isSome
def hidT (h : Heap) (H : Hp) : Heap := PySem.W.hideAll h (trk h H)
theorem hidT_size (h : Heap) (H : Hp) : (hidT h H).objs.size = h.objs.size := PySem.W.hideAll_size _ _
theorem hidT_get {h : Heap} {H : Hp} {b : Addr} {o : Obj} (e : h.get? b = some o) (n : H b = none) : (hidT h H).get? b = some o :=
  PySem.W.hideAll_get _ e fun hm => by
    have q : (H b).isSome = true := (List.mem_filter.mp hm).2
    rw [n] at q; simp at q
theorem of_hidT {h : Heap} {H : Hp} {b : Addr} {o : Obj} (e : (hidT h H).get? b = some o) : h.get? b = some o ∧ H b = none := by
  have e' : h.get? b = some o := PySem.W.of_hideAll (trk h H) e
  refine ⟨e', ?_⟩
  cases q : H b with
  | none => rfl
  | some x =>
    have hm : b ∈ trk h H := List.mem_filter.mpr ⟨List.mem_range.mpr (Heap.lt_size e'), by simp [q]⟩
    have z : (hidT h H).get? b = none := PySem.W.hideAll_none (trk h H) hm
    rw [z] at e; cases e

/-! ### OpenK's ledger, filled with every new object but one -/
def allNews (g h : Heap) (L : Addr) : List (Addr × Obj) := (List.range h.objs.size).filterMap fun a => if a = L ∨ (g.get? a).isSome = true then none else (h.get? a).map fun o => (a, o)
def rest (g h : Heap) (L d : Addr) : List (Addr × Obj) := (allNews g h L).filter fun p => decide (p.1 ≠ d)
end L2

namespace L2
open PySem PySem.Spec PyProof.Rows

structure Mod (K : PySem.W.Frag) (mg : Str → Option Value) (base : Heap) : Prop where
  kin : K.In base
  glob : base.Ns mainGlobals mg
  blt : ∃ mb, base.Ns builtinsNs mb ∧ ∀ x : Str, x ≠ "__name__" → mb x = bootBuiltins x
  nolimit : base.NoLimit

structure Cx where
  prog : Program
  w : World
  K : PySem.W.Frag
  mg : Str → Option Value
  base : Heap
  A : Around
  N : List Str
  s_0 : Shared
  H_0 : Hp
  env : Env
  outer : List Env
  stack : List Env
  ex : List Addr
  fn : Str → Bool
  calm : Bool
  pn : List (Addr × Obj)
  xe : Value → Shared → Prop
def frs (l : List Env) : List Addr := l.filterMap (·.frame)
abbrev Cx.fs (X : Cx) : List Addr := frs X.outer

def Vis (sc : Scope) (x : Str) : Prop := sc.names.lookup x = some .local ∨ sc.names.lookup x = some .cell ∨ sc.names.lookup x = some .free
def Loc (sc : Scope) (x : Str) : Prop := sc.names.lookup x = some .local ∨ sc.names.lookup x = some .cell
def Look (env : Env) (h : Heap) (m : Str → Option Value) (x : Str) (u : Value) : Prop :=
  (env.kindOf x = some .local ∧ m x = some u) ∨ ((env.kindOf x = some .cell ∨ env.kindOf x = some .free) ∧ ∃ c, env.cells.lookup x = some c ∧ h.IsCell c (some u))

structure Cx.Ok (X : Cx) : Prop where
  mod : Mod X.K X.mg X.base
  kind : X.env.scope.kind = .function
  glob : X.env.globals = mainGlobals
  blt : X.env.builtins = builtinsNs
  above : X.s_0.heap.objs.size ≤ X.env.locals
  inj : ∀ x y c, X.env.cells.lookup x = some c → X.env.cells.lookup y = some c → x = y
  has : ∀ x, (X.env.kindOf x = some .cell ∨ X.env.kindOf x = some .free) → ∃ c, X.env.cells.lookup x = some c
  cab : ∀ x c, X.fn x = true → X.env.cells.lookup x = some c → X.s_0.heap.objs.size ≤ c
  hd : X.calm = true → X.A.handled = none
  frames : X.A.frames = some X.stack
  stk : X.stack = X.outer ∨ (X.stack = X.env :: X.outer ∧ X.env.frame = some X.env.locals)
  exf : ∀ b ∈ X.ex, b ≠ X.env.locals ∧ ∀ x c, X.env.cells.lookup x = some c → c ≠ b
  bs : ∀ b o, X.base.get? b = some o → X.s_0.heap.get? b = some o ∧ X.H_0 b = none
  bsz : X.base.objs.size ≤ X.s_0.heap.objs.size
  noex : ∀ b o, X.base.get? b = some o → b ∉ X.ex
  exfs : ∀ b ∈ X.ex, b ∉ X.fs
  funs : X.s_0.heap.FunFrames X.base X.outer
  frf : ∀ b ∈ X.fs, X.H_0 b = none

structure Inv (X : Cx) (pins : List (Addr × Obj)) (σ : List (Option V)) (H : Hp) (s : Shared) : Prop where
  ok : X.Ok
  os : s.os = X.s_0.os
  bare : AllBare s.gens
  base : Un X.fs X.ex X.H_0 H X.s_0.heap s.heap
  loc : ∃ m, s.heap.Ns X.env.locals m ∧ ∀ (i : Nat) (x : Str) (v : V), X.N[i]? = some x → σ[i]? = some (some v) → Vis X.env.scope x → ∃ u, RelV v u ∧ Look X.env s.heap m x u
  cell : ∀ x c, X.env.cells.lookup x = some c → ∃ v, s.heap.IsCell c v
  free : H X.env.locals = none
  freeC : ∀ x c, X.env.cells.lookup x = some c → H c = none
  pin : ∀ p ∈ X.pn ++ pins, s.heap.get? p.1 = some p.2 ∧ H p.1 = none ∧ p.1 ≠ X.env.locals ∧ p.1 ∉ X.fs ∧ ∀ v, p.2.data ≠ .cell v
  hok : HOk X.prog X.w H s.heap
  len : σ.length = X.N.length

section
variable {X : Cx} {pins : List (Addr × Obj)} {σ : List (Option V)} {H H' : Hp} {s : Shared} {h' : Heap}

theorem Cx.Ok.nofr (ok : X.Ok) {b : Addr} {o : Obj} (e : X.base.get? b = some o) : b ∉ X.fs := fun hb => by
  have := (ok.funs.mem hb).1
  rw [e] at this; cases this
theorem Inv.bs (I : Inv X pins σ H s) : ∀ b o, X.base.get? b = some o → s.heap.get? b = some o ∧ H b = none := fun b o e =>
  ⟨I.base.keep b o (I.ok.bs b o e).1 (I.ok.bs b o e).2 (I.ok.nofr e) (I.ok.noex b o e), I.base.free b o (I.ok.bs b o e).1 (I.ok.bs b o e).2 (I.ok.noex b o e)⟩
theorem Inv.bk (I : Inv X pins σ H s) : ∀ b o, X.base.get? b = some o → s.heap.get? b = some o := fun b o e => (I.bs b o e).1
theorem Inv.mod (I : Inv X pins σ H s) : Mod X.K X.mg X.base := I.ok.mod
theorem Inv.kIn (I : Inv X pins σ H s) : X.K.In s.heap := I.ok.mod.kin.keeps I.bk
theorem Inv.nolimit (I : Inv X pins σ H s) : s.heap.NoLimit := I.ok.mod.nolimit.keeps I.bk
theorem Inv.fr (I : Inv X pins σ H s) : ∃ m, Fr X.base X.env.locals s.heap m :=
  let ⟨m, hn, _⟩ := I.loc
  ⟨m, hn, I.bk, Nat.le_trans I.ok.bsz I.ok.above⟩
theorem Inv.lt (I : Inv X pins σ H s) : X.env.locals < s.heap.objs.size := let ⟨_, hn, _⟩ := I.loc; hn.lt
theorem Inv.sz (I : Inv X pins σ H s) : X.s_0.heap.objs.size ≤ s.heap.objs.size := Nat.le_trans I.ok.above (Nat.le_of_lt I.lt)
theorem Inv.nofs (I : Inv X pins σ H s) {a : Addr} (h : s.heap.objs.size ≤ a) : a ∉ X.fs := fun hb => by
  obtain ⟨_, o, ho, _⟩ := I.ok.funs.mem hb
  exact absurd (Nat.lt_of_lt_of_le (Heap.lt_size ho) (Nat.le_trans I.sz h)) (Nat.lt_irrefl _)
theorem Inv.cne (I : Inv X pins σ H s) : ∀ x c, X.env.cells.lookup x = some c → c ≠ X.env.locals := fun x c e z => by
  obtain ⟨v, o, ho, hd⟩ := I.cell x c e
  obtain ⟨m, ⟨o', es, ep, ho', hd', _⟩, _⟩ := I.loc
  rw [z, ho'] at ho; cases ho; rw [hd'] at hd; cases hd
theorem Inv.funs (I : Inv X pins σ H s) : s.heap.FunFrames X.base X.outer := by
  have all : ∀ (l : List Env), (∀ b ∈ frs l, b ∈ X.fs) → X.s_0.heap.FunFrames X.base l → s.heap.FunFrames X.base l := by
    intro l
    induction l with
    | nil => intro _ _; trivial
    | cons env r ih =>
      intro hs hl
      obtain ⟨hk, ⟨L, o, hf, hn, ho, hd⟩, hr⟩ := hl
      have hL : L ∈ X.fs := hs L (by unfold frs; rw [List.filterMap_cons, hf]; exact List.mem_cons_self)
      obtain ⟨sl, e⟩ := I.base.slot L o ho (I.ok.frf L hL) hL fun z => I.ok.exfs L z hL
      exact ⟨hk, ⟨L, _, hf, hn, e, hd⟩, ih (fun b hb => hs b (by unfold frs; rw [List.filterMap_cons, hf]; exact List.mem_cons_of_mem _ hb)) hr⟩
  exact all X.outer (fun _ hb => hb) I.ok.funs

theorem Inv.stack (I : Inv X pins σ H s) : s.heap.FunFrames X.base X.stack := by
  rcases I.ok.stk with e | ⟨e, hf⟩
  · rw [e]; exact I.funs
  · rw [e]
    obtain ⟨m, hn, _⟩ := I.loc
    refine .cons (by rw [I.ok.kind]; decide) hf hn ?_ I.funs
    exact Heap.get?_none_of_le (Nat.le_trans I.ok.bsz I.ok.above)
theorem Inv.stkSub (I : Inv X pins σ H s) : ∀ b ∈ frs X.stack, b ∈ X.env.locals :: X.fs := fun b hb => by
  rcases I.ok.stk with e | ⟨e, hf⟩
  · rw [e] at hb; exact List.mem_cons_of_mem _ hb
  · rw [e] at hb
    unfold frs at hb
    rw [List.filterMap_cons, hf] at hb
    exact hb
theorem Inv.stkFree (I : Inv X pins σ H s) : ∀ b ∈ frs X.stack, H b = none := fun b hb => by
  rcases List.mem_cons.mp (I.stkSub b hb) with e | hb
  · rw [e]; exact I.free
  · obtain ⟨_, o, ho, _⟩ := I.ok.funs.mem hb
    exact I.base.free b o ho (I.ok.frf b hb) fun z => I.ok.exfs b z hb

theorem Inv.step {g' : Array GenState} {t' : Nat} {d' : Drawn} {ch : List Addr} (I : Inv X pins σ H s)
    (hch : ∀ b ∈ ch, (b ∈ X.ex ∨ X.s_0.heap.objs.size ≤ b) ∧ b ≠ X.env.locals ∧ (∀ x c, X.env.cells.lookup x = some c → c ≠ b) ∧ ∀ p ∈ X.pn ++ pins, p.1 ≠ b)
    (keep : ∀ b o, b ≠ X.env.locals → b ∉ X.fs → b ∉ ch → s.heap.get? b = some o → H b = none → h'.get? b = some o)
    (slot : ∀ b o, b ≠ X.env.locals → b ∈ X.fs → b ∉ ch → s.heap.get? b = some o → H b = none → ∃ sl, h'.get? b = some { o with slots := sl }) (free : ∀ b o, b ∉ ch → s.heap.get? b = some o → H b = none → H' b = none)
    (there : ∀ b o, b ∉ ch → s.heap.get? b = some o → ∃ o', h'.get? b = some o')
    (tups : ∀ b xs, H b = some (.tup xs) → H' b = some (.tup xs)) (frzs : ∀ b o u, H b = some (.frz o u) → H' b = some (.frz o u)) (tbls : ∀ b ps, H b = some (.tbl ps) → ∃ more, H' b = some (.tbl (ps ++ more)))
    (ns : ∀ m, s.heap.Ns X.env.locals m → h'.Ns X.env.locals m) (hok : HOk X.prog X.w H' h') (hg : AllBare g') :
    Inv X pins σ H' { s with heap := h', gens := g', drawn := d', toks := t' } := by
  have neL : ∀ b o, X.s_0.heap.get? b = some o → b ≠ X.env.locals := fun b o e => Nat.ne_of_lt (Nat.lt_of_lt_of_le (Heap.lt_size e) I.ok.above)
  have neC : ∀ b o, X.s_0.heap.get? b = some o → b ∉ X.ex → b ∉ ch := fun b o e hx hb => by
    rcases (hch b hb).1 with z | z
    · exact hx z
    · exact absurd (Nat.lt_of_lt_of_le (Heap.lt_size e) z) (Nat.lt_irrefl _)
  have cellK : ∀ x c, X.env.cells.lookup x = some c → ∀ v, s.heap.IsCell c v → h'.IsCell c v := fun x c e v ⟨o, ho, hd⟩ => by
    have nch : c ∉ ch := fun z => (hch c z).2.2.1 x c e rfl
    by_cases hc : c ∈ X.fs
    · obtain ⟨sl, q⟩ := slot c o (I.cne x c e) hc nch ho (I.freeC x c e)
      exact ⟨_, q, hd⟩
    · exact ⟨o, keep c o (I.cne x c e) hc nch ho (I.freeC x c e), hd⟩
  refine ⟨I.ok, I.os, hg, ⟨fun b o e n hb hx => ?_, fun b o e n hb hx => ?_, fun b o e n hx => ?_, fun b o e hx => ?_, fun b xs e => tups b xs (I.base.tups b xs e), fun b o xs e => frzs b o xs (I.base.frzs b o xs e), fun b ps e => ?_⟩, ?_, fun x c e => ?_, ?_, fun x c e => ?_, fun p hp => ?_, hok, I.len⟩
  · exact keep b o (neL b o e) hb (neC b o e hx) (I.base.keep b o e n hb hx) (I.base.free b o e n hx)
  · obtain ⟨sl, e1⟩ := I.base.slot b o e n hb hx
    obtain ⟨sl', e2⟩ := slot b _ (neL b o e) hb (neC b o e hx) e1 (I.base.free b o e n hx)
    exact ⟨sl', e2⟩
  · obtain ⟨o', e1⟩ := I.base.there b o e hx
    exact free b o' (neC b o e hx) e1 (I.base.free b o e n hx)
  · obtain ⟨o', e1⟩ := I.base.there b o e hx
    exact there b o' (neC b o e hx) e1
  · obtain ⟨m1, e1⟩ := I.base.tbls b ps e
    obtain ⟨m2, e2⟩ := tbls b _ e1
    exact ⟨m1 ++ m2, by rw [e2, Array.append_assoc]⟩
  · obtain ⟨m, hn, hl⟩ := I.loc
    refine ⟨m, ns m hn, fun i x v e1 e2 e3 => ?_⟩
    obtain ⟨u, r, l⟩ := hl i x v e1 e2 e3
    refine ⟨u, r, ?_⟩
    rcases l with l | ⟨k, c, e, z⟩
    · exact .inl l
    · exact .inr ⟨k, c, e, cellK x c e _ z⟩
  · obtain ⟨v, z⟩ := I.cell x c e
    exact ⟨v, cellK x c e v z⟩
  · obtain ⟨m, ⟨o, _, _, ho, _⟩, _⟩ := I.loc
    exact free _ o (fun z => (hch _ z).2.1 rfl) ho I.free
  · obtain ⟨v, o, ho, hd⟩ := I.cell x c e
    exact free c o (fun z => (hch c z).2.2.1 x c e rfl) ho (I.freeC x c e)
  · obtain ⟨e, n, ne, nf, d⟩ := I.pin p hp
    have nch : p.1 ∉ ch := fun z => (hch p.1 z).2.2.2 p hp rfl
    exact ⟨keep p.1 p.2 ne nf nch e n, free p.1 p.2 nch e n, ne, nf, d⟩
theorem Inv.un {t' : Nat} (I : Inv X pins σ H s) (u : Un X.fs [] H H' s.heap h') (hok : HOk X.prog X.w H' h') : Inv X pins σ H' { s with heap := h', toks := t' } := by
  obtain ⟨m, ⟨o, es, ep, ho, r⟩, _⟩ := id I.loc
  obtain ⟨sl, hL⟩ := u.any ho I.free (by simp)
  exact I.step (g' := s.gens) (d' := s.drawn) (ch := []) (fun _ z => nomatch z) (fun b o _ hb _ e n => u.keep b o e n hb (by simp)) (fun b o _ hb _ e n => u.slot b o e n hb (by simp)) (fun b o _ e n => u.free b o e n (by simp)) (fun b o _ e => u.there b o e (by simp)) u.tups u.frzs u.tbls (fun m' hm => by
    obtain ⟨o', es', ep', ho', r'⟩ := hm
    rw [ho] at ho'; cases ho'
    exact ⟨_, es', ep', hL, r'⟩) hok I.bare
theorem Inv.call {g' : Array GenState} {t' : Nat} {d' : Drawn} {ch : List Addr} (I : Inv X pins σ H s) (u : Un (frs X.stack) ch H H' s.heap h') (hok : HOk X.prog X.w H' h') (hg : AllBare g')
    (hch : ∀ b ∈ ch, (b ∈ X.ex ∨ X.s_0.heap.objs.size ≤ b) ∧ b ≠ X.env.locals ∧ (∀ x c, X.env.cells.lookup x = some c → c ≠ b) ∧ ∀ p ∈ X.pn ++ pins, p.1 ≠ b) :
    Inv X pins σ H' { s with heap := h', gens := g', drawn := d', toks := t' } := by
  obtain ⟨m, ⟨o, es, ep, ho, r⟩, _⟩ := id I.loc
  obtain ⟨sl, hL⟩ := u.any ho I.free fun z => (hch _ z).2.1 rfl
  exact I.step (ch := ch) hch (fun b o hL hb hc e n => u.keep b o e n (fun z => (List.mem_cons.mp (I.stkSub b z)).elim hL hb) hc) (fun b o _ _ hc e n => u.any e n hc) (fun b o hc e n => u.free b o e n hc) (fun b o hc e => u.there b o e hc) u.tups u.frzs u.tbls (fun m' hm => by
    obtain ⟨o', es', ep', ho', r'⟩ := hm
    rw [ho] at ho'; cases ho'
    exact ⟨_, es', ep', hL, r'⟩) hok hg
theorem Inv.turned {t' : Nat} {it : Addr} (I : Inv X pins σ H s) (k : ∀ b o, b ≠ it → s.heap.get? b = some o → h'.get? b = some o) (hn : H it = none) (hL : it ≠ X.env.locals)
    (h1 : it ∈ X.ex ∨ X.s_0.heap.objs.size ≤ it) (h2 : ∀ x c, X.env.cells.lookup x = some c → c ≠ it) (h3 : ∀ p ∈ X.pn ++ pins, p.1 ≠ it) : Inv X pins σ H { s with heap := h', toks := t' } := by
  have nit : ∀ b u, H b = some u → b ≠ it := fun b u e z => by rw [z, hn] at e; cases e
  refine I.step (g' := s.gens) (d' := s.drawn) (ch := [it]) (fun b hb => ?_) (fun b o _ _ hc e _ => k b o (fun z => hc (by simp [z])) e) (fun b o _ _ hc e _ => ⟨o.slots, k b o (fun z => hc (by simp [z])) e⟩) (fun _ _ _ _ n => n)
    (fun b o hc e => ⟨o, k b o (fun z => hc (by simp [z])) e⟩) (fun _ _ e => e) (fun _ _ _ e => e) (fun b ps e => ⟨#[], by rw [e]; simp⟩) (fun m hm => ?_) (fun b u e => ?_) I.bare
  · have e : b = it := by simpa using hb
    subst e
    exact ⟨h1, hL, h2, h3⟩
  · obtain ⟨o, es, ep, ho, r⟩ := hm
    exact ⟨o, es, ep, k _ o (Ne.symm hL) ho, r⟩
  · refine (I.hok b u e).stay (fun c v hc q => k c v ?_ q) (fun _ q => q) fun _ _ q => q
    rcases hc with z | z
    · rw [z]; exact nit b u e
    · exact nit c _ z
theorem Inv.tok (I : Inv X pins σ H s) (t : Nat) : Inv X pins σ H { s with toks := t } := I.un (h' := s.heap) (t' := t) Un.refl I.hok
theorem Inv.kept {t' : Nat} (I : Inv X pins σ H s) (k : ∀ b u, s.heap.get? b = some u → h'.get? b = some u) : Inv X pins σ H { s with heap := h', toks := t' } := I.un (Un.kept k) (I.hok.kept k)
theorem Inv.laid {a : Addr} {o : HO} {t' : Nat} (I : Inv X pins σ H s) (k : ∀ b u, s.heap.get? b = some u → h'.get? b = some u) (hp : s.heap.objs.size ≤ a) (new : ObjOk X.prog X.w (upd H a o) h' a o) :
    Inv X pins σ (upd H a o) { s with heap := h', toks := t' } := I.un (Un.laid k hp (I.hok.fresh hp)) (I.hok.laid k hp new)
theorem Inv.write {x e : Addr} {o : HO} {t' : Nat} (I : Inv X pins σ H s) (mu : Mut (H x)) (he : e = x ∨ H e = some (.own x)) (k : ∀ b u, b ≠ e → s.heap.get? b = some u → h'.get? b = some u) (heo : ∃ u, h'.get? e = some u)
    (new : ObjOk X.prog X.w (upd H x o) h' x o) : Inv X pins σ (upd H x o) { s with heap := h', toks := t' } := I.un (Un.write mu he k heo) (I.hok.write mu he k heo new)
theorem Inv.weak {σ' : List (Option V)} (I : Inv X pins σ H s) (hl : σ'.length = σ.length) (w : ∀ (i : Nat) v, σ'[i]? = some (some v) → σ[i]? = some (some v)) : Inv X pins σ' H s :=
  ⟨I.ok, I.os, I.bare, I.base, let ⟨m, hn, hl'⟩ := I.loc; ⟨m, hn, fun i x v e1 e2 e3 => hl' i x v e1 (w i v e2) e3⟩, I.cell, I.free, I.freeC, I.pin, I.hok, hl.trans I.len⟩
theorem Inv.pins_of {pins' : List (Addr × Obj)} (I : Inv X pins σ H s) (h : ∀ p ∈ pins', s.heap.get? p.1 = some p.2 ∧ H p.1 = none ∧ p.1 ≠ X.env.locals ∧ p.1 ∉ X.fs ∧ ∀ v, p.2.data ≠ .cell v) : Inv X pins' σ H s :=
  ⟨I.ok, I.os, I.bare, I.base, I.loc, I.cell, I.free, I.freeC, fun p hp => (List.mem_append.mp hp).elim (fun z => I.pin p (List.mem_append_left _ z)) (h p), I.hok, I.len⟩

theorem nodup_ix {N : List Str} (hN : N.Nodup) {i j : Nat} {x : Str} (a : N[i]? = some x) (b : N[j]? = some x) : i = j := by
  obtain ⟨h1, e1⟩ := List.getElem?_eq_some_iff.mp a
  obtain ⟨h2, e2⟩ := List.getElem?_eq_some_iff.mp b
  exact (List.getElem_inj hN).mp (e1.trans e2.symm)

theorem store_ok2 {M : Model} {A : Around} {E : Value → Shared → Prop} {i : Nat} {x : Str} {v : V} {u : Value} {Q : Unit → Shared → Prop} (I : Inv X pins σ H s) (hN : X.N.Nodup) (hi : X.N[i]? = some x) (hx : Loc X.env.scope x) (r : RelV v u)
    (h : ∀ s', Inv X pins (σ.set i (some v)) H s' → (∃ a, Heap.SameBut a s.heap s'.heap ∧ (a = X.env.locals ∨ X.env.cells.lookup x = some a)) → Q () s') (hf : X.fn x = true ∨ X.env.scope.names.lookup x = some .local := by first | exact .inl rfl | exact .inr rfl | assumption) : wpAny M A (storeName X.env x u) Q E s := by
  obtain ⟨m, hn, hl⟩ := id I.loc
  have hcls : (X.env.scope.kind == .class || (X.env.scope.kind == .module && X.env.locals != X.env.globals)) = false := by rw [I.ok.kind]; rfl
  have hiσ : i < σ.length := by rw [I.len]; exact (List.getElem?_eq_some_iff.mp hi).1
  have cne := I.cne
  have tracked : ∀ {a : Addr} {h' : Heap}, (∃ o, s.heap.get? a = some o ∧ H a = none) → Heap.SameBut a s.heap h' → HOk X.prog X.w H h' := fun {a h'} ha hs b ob e => by
    obtain ⟨_, _, hfree⟩ := ha
    refine (I.hok b ob e).stay (fun c w' hc q => (hs.2 c ?_).trans q) (fun _ q => q) fun _ _ q => q
    rintro rfl
    rcases hc with rfl | hc
    · rw [hfree] at e; cases e
    · rw [hfree] at hc; cases hc
  rcases hx with hk | hk
  · refine wpAny_storeName_local hk hn (fun h' hn' hs => ?_) hcls
    obtain ⟨oL, _, _, hoL, _⟩ := id hn
    refine h _ ⟨I.ok, I.os, I.bare, ⟨fun b o e n hb hx => ?_, fun b o e n hb hx => ?_, I.base.free, fun b o e hx => ?_, I.base.tups, I.base.frzs, I.base.tbls⟩, ⟨_, hn', fun j y v' e1 e2 e3 => ?_⟩, fun y c e => ?_, I.free, I.freeC, fun p hp => ?_, tracked ⟨oL, hoL, I.free⟩ hs, by simpa using I.len⟩ ⟨_, hs, .inl rfl⟩
    · exact (hs.2 b (Nat.ne_of_lt (Nat.lt_of_lt_of_le (Heap.lt_size e) I.ok.above))).trans (I.base.keep b o e n hb hx)
    · obtain ⟨sl, e1⟩ := I.base.slot b o e n hb hx
      exact ⟨sl, (hs.2 b (Nat.ne_of_lt (Nat.lt_of_lt_of_le (Heap.lt_size e) I.ok.above))).trans e1⟩
    · obtain ⟨o', e1⟩ := I.base.there b o e hx
      exact ⟨o', (hs.2 b (Nat.ne_of_lt (Nat.lt_of_lt_of_le (Heap.lt_size e) I.ok.above))).trans e1⟩
    · by_cases hj : j = i
      · subst hj
        rw [hi] at e1; cases e1
        rw [List.getElem?_set_self hiσ] at e2
        cases e2
        exact ⟨u, r, .inl ⟨hk, by simp⟩⟩
      · rw [List.getElem?_set_ne (Ne.symm hj)] at e2
        obtain ⟨u', r', q⟩ := hl j y v' e1 e2 e3
        refine ⟨u', r', ?_⟩
        rcases q with ⟨k, e⟩ | ⟨k, c, e, z⟩
        · refine .inl ⟨k, ?_⟩
          have : y ≠ x := fun e => hj (nodup_ix hN e1 (e ▸ hi))
          simp [this, e]
        · exact .inr ⟨k, c, e, z.sameBut hs (cne y c e)⟩
    · obtain ⟨w', z⟩ := I.cell y c e
      exact ⟨w', z.sameBut hs (cne y c e)⟩
    · obtain ⟨e, n, ne, nf, d⟩ := I.pin p hp
      exact ⟨(hs.2 p.1 ne).trans e, n, ne, nf, d⟩
  · have hfn : X.fn x = true := by
      rcases hf with z | z
      · exact z
      · rw [z] at hk; cases hk
    obtain ⟨c, hc⟩ := I.ok.has x (.inl hk)
    obtain ⟨w', z⟩ := I.cell x c hc
    refine wpAny_storeName_cell I.ok.kind hk hc z (fun h' hc' hs => ?_)
    obtain ⟨oc, hoc, hocd⟩ := id z
    refine h { s with heap := h' } ⟨I.ok, I.os, I.bare, ⟨fun b o e n hb hx => ?_, fun b o e n hb hx => ?_, I.base.free, fun b o e hx => ?_, I.base.tups, I.base.frzs, I.base.tbls⟩, ⟨m, hn.sameBut hs (Ne.symm (cne x c hc)), fun j y v' e1 e2 e3 => ?_⟩, fun y c' e => ?_, I.free, I.freeC, fun p hp => ?_, tracked ⟨oc, hoc, I.freeC x c hc⟩ hs, by simpa using I.len⟩ ⟨c, hs, .inr hc⟩
    · exact (hs.2 b (Nat.ne_of_lt (Nat.lt_of_lt_of_le (Heap.lt_size e) (I.ok.cab x c hfn hc)))).trans (I.base.keep b o e n hb hx)
    · obtain ⟨sl, e1⟩ := I.base.slot b o e n hb hx
      exact ⟨sl, (hs.2 b (Nat.ne_of_lt (Nat.lt_of_lt_of_le (Heap.lt_size e) (I.ok.cab x c hfn hc)))).trans e1⟩
    · obtain ⟨o', e1⟩ := I.base.there b o e hx
      exact ⟨o', (hs.2 b (Nat.ne_of_lt (Nat.lt_of_lt_of_le (Heap.lt_size e) (I.ok.cab x c hfn hc)))).trans e1⟩
    · by_cases hj : j = i
      · subst hj
        rw [hi] at e1; cases e1
        rw [List.getElem?_set_self hiσ] at e2
        cases e2
        exact ⟨u, r, .inr ⟨.inl hk, c, hc, hc'⟩⟩
      · rw [List.getElem?_set_ne (Ne.symm hj)] at e2
        obtain ⟨u', r', q⟩ := hl j y v' e1 e2 e3
        refine ⟨u', r', ?_⟩
        rcases q with q | ⟨k, c', e, z'⟩
        · exact .inl q
        · refine .inr ⟨k, c', e, z'.sameBut hs ?_⟩
          rintro rfl
          exact hj (nodup_ix hN e1 (I.ok.inj _ _ _ e hc ▸ hi))
    · by_cases hcc : c' = c
      · subst hcc; exact ⟨_, hc'⟩
      · obtain ⟨w2, z2⟩ := I.cell y c' e
        exact ⟨w2, z2.sameBut hs hcc⟩
    · obtain ⟨e, n, ne, nf, d⟩ := I.pin p hp
      refine ⟨(hs.2 p.1 ?_).trans e, n, ne, nf, d⟩
      intro q
      rw [q, hoc] at e
      have q' : oc = p.2 := Option.some.inj e
      exact d w' (by rw [← q']; exact hocd)
theorem store_ok {M : Model} {A : Around} {E : Value → Shared → Prop} {i : Nat} {x : Str} {v : V} {u : Value} {Q : Unit → Shared → Prop} (I : Inv X pins σ H s) (hN : X.N.Nodup) (hi : X.N[i]? = some x) (hx : Loc X.env.scope x) (r : RelV v u)
    (h : ∀ s', Inv X pins (σ.set i (some v)) H s' → Q () s') (hf : X.fn x = true ∨ X.env.scope.names.lookup x = some .local := by first | exact .inl rfl | exact .inr rfl | assumption) : wpAny M A (storeName X.env x u) Q E s :=
  store_ok2 I hN hi hx r (fun s' I' _ => h s' I') hf
theorem Inv.call' {s' : Shared} {ch : List Addr} (I : Inv X pins σ H s) (ho : s'.os = s.os) (u : Un (frs X.stack) ch H H' s.heap s'.heap) (hok : HOk X.prog X.w H' s'.heap) (hg : AllBare s'.gens)
    (hch : ∀ b ∈ ch, (b ∈ X.ex ∨ X.s_0.heap.objs.size ≤ b) ∧ b ≠ X.env.locals ∧ (∀ x c, X.env.cells.lookup x = some c → c ≠ b) ∧ ∀ p ∈ X.pn ++ pins, p.1 ≠ b) : Inv X pins σ H' s' := by
  obtain ⟨h', g', d', t', o'⟩ := s'
  have e : o' = s.os := ho
  subst e
  exact I.call (g' := g') (t' := t') (d' := d') u hok hg hch
end

/-! ### the judgements -/
abbrev XK := Value → Option Addr → Hp → Prop
abbrev St := List (Option V)
abbrev VK := V → Hp → Prop
abbrev TE := St → Hp → VK → Prop
abbrev TT := St → Hp → (Bool → Hp → Prop) → Prop
abbrev TA := St → Hp → (List V → Hp → Prop) → Prop
structure Ends where
  nx : St → Hp → Prop
  rt : VK
  bk : St → Hp → Prop := fun _ _ => False
  ct : St → Hp → Prop := fun _ _ => False
abbrev TS := Ends → St → Hp → Prop

def EP (X : Cx) (pins : List (Addr × Obj)) (σ : St) (Q : VK) (u : Value) (s' : Shared) : Prop := ∃ v H', Inv X pins σ H' s' ∧ RelV v u ∧ Q v H'
def TP (X : Cx) (pins : List (Addr × Obj)) (σ : St) (Q : Bool → Hp → Prop) (b : Bool) (s' : Shared) : Prop := ∃ H', Inv X pins σ H' s' ∧ Q b H'
def AP (X : Cx) (pins : List (Addr × Obj)) (σ : St) (Q : List V → Hp → Prop) (us : List Value) (s' : Shared) : Prop := ∃ vs H', Inv X pins σ H' s' ∧ Vals vs us ∧ Q vs H'
def SP (X : Cx) (pins : List (Addr × Obj)) (D : Ends) (f : Flow) (s' : Shared) : Prop :=
  match f with
  | .next => ∃ σ' H', Inv X pins σ' H' s' ∧ D.nx σ' H'
  | .brk => ∃ σ' H', Inv X pins σ' H' s' ∧ D.bk σ' H'
  | .cont => ∃ σ' H', Inv X pins σ' H' s' ∧ D.ct σ' H'
  | .ret u => ∃ v σ' H', Inv X pins σ' H' s' ∧ RelV v u ∧ D.rt v H'

def PE (X : Cx) (e : Expr) (t : TE) : Prop :=
  ∀ (pins : List (Addr × Obj)) (s : Shared) (σ : St) (H : Hp) (Q : VK), Inv X pins σ H s → t σ H Q → wpAny (model X.prog X.w) X.A (eval e X.env) (EP X pins σ Q) X.xe s
def PT (X : Cx) (e : Expr) (t : TT) : Prop :=
  ∀ (pins : List (Addr × Obj)) (s : Shared) (σ : St) (H : Hp) (Q : Bool → Hp → Prop), Inv X pins σ H s → t σ H Q → wpAny (model X.prog X.w) X.A (isTrue e X.env (eval e X.env)) (TP X pins σ Q) X.xe s
def PW (X : Cx) (e : Expr) (t : TT) : Prop :=
  ∀ (whole : Sem Value) (pins : List (Addr × Obj)) (s : Shared) (σ : St) (H : Hp) (Q : Bool → Hp → Prop), Inv X pins σ H s → t σ H Q → wpAny (model X.prog X.w) X.A (isTrue e X.env whole) (TP X pins σ Q) X.xe s
theorem PW.pt {X : Cx} {e : Expr} {t : TT} (h : PW X e t) : PT X e t := h _
def PA (X : Cx) (es : List Expr) (t : TA) : Prop :=
  ∀ (pos : Pos) (pins : List (Addr × Obj)) (s : Shared) (σ : St) (H : Hp) (Q : List V → Hp → Prop), Inv X pins σ H s → t σ H Q → wpAny (model X.prog X.w) X.A (spliced (backTo pos (starEach es X.env))) (AP X pins σ Q) X.xe s
def PS (X : Cx) (st : Stmt) (t : TS) : Prop :=
  ∀ (pins : List (Addr × Obj)) (s : Shared) (σ : St) (H : Hp) (D : Ends), Inv X pins σ H s → t D σ H → wpAny (model X.prog X.w) X.A (exec st X.env) (SP X pins D) X.xe s
def PSs (X : Cx) (st : List Stmt) (t : TS) : Prop :=
  ∀ (pins : List (Addr × Obj)) (s : Shared) (σ : St) (H : Hp) (D : Ends), Inv X pins σ H s → t D σ H → wpAny (model X.prog X.w) X.A (execs st X.env) (SP X pins D) X.xe s
theorem thn {α : Type} {t : Sem α} {Q Q' : α → Shared → Prop} {M : Model} {A : Around} {E : Value → Shared → Prop} {s : Shared} (h : wpAny M A t Q E s) (hQ : ∀ a s, Q a s → Q' a s) : wpAny M A t Q' E s := wpAny_mono h hQ fun _ _ x => x
end L2

namespace L2
open PySem PySem.Spec PyProof.Rows
section
variable {X : Cx}

/-! ### names and constants -/
def tVar (i : Nat) : TE := fun σ H Q => ∃ v, σ[i]? = some (some v) ∧ Q v H
def tC (v : V) : TE := fun _ H Q => Q v H
theorem pe_var {i : Nat} {x : Str} {pos : Pos} (hN : X.N[i]? = some x) (hv : Vis X.env.scope x) (hd : (x == ("__debug__" : Str)) = false := by decide) (hcd : (x == ("__classdict__" : Str)) = false := by decide) : PE X (.Name x pos) (tVar i) := by
  intro pins s σ H Q I h
  obtain ⟨v, e, h⟩ := h
  obtain ⟨m, hn, hl⟩ := I.loc
  obtain ⟨u, r, l⟩ := hl i x v hN e hv
  have fin : EP X pins σ Q u s := ⟨v, H, I, r, h⟩
  rcases l with ⟨hk, hm⟩ | ⟨hk, c, hc, hcell⟩
  · exact wpAny_Name (wpAny_loadName_local I.ok.kind hk hn hm fin) hd
  · rcases hk with hk | hk
    · exact wpAny_Name (wpAny_loadName_cell I.ok.kind hk hc hcell fin) hd
    · exact wpAny_Name (wpAny_loadName_free I.ok.kind hk hc hcell fin hcd) hd
theorem pe_int {i j pos} : PE X (.Constant (.int i) j pos) (tC (.int i)) := fun _ _ _ H _ I h => wpAny_Constant_int ⟨.int i, H, I.tok _, ⟨_, rfl⟩, h⟩
theorem pe_bl {b j pos} : PE X (.Constant (.bool b) j pos) (tC (.bl b)) := fun _ _ _ H _ I h => Constant_bool ⟨.bl b, H, I, rfl, h⟩
def Gl (X : Cx) (x : Str) : Prop := X.env.kindOf x = some .globalImplicit
theorem ld_glob {E : Value → Shared → Prop} {pins : List (Addr × Obj)} {s : Shared} {σ : St} {H : Hp} {x : Str} {u : Value} {pos : Pos} {Q : Value → Shared → Prop} (I : Inv X pins σ H s) (hg : Gl X x) (hm : X.mg x = some u) (h : Q u s)
    (hd : (x == ("__debug__" : Str)) = false := by decide) : wpAny (model X.prog X.w) X.A (eval (.Name x pos) X.env) Q E s :=
  Calls.Name_function_global I.ok.kind hg (Calls.loadGlobal_global (by rw [I.ok.glob]; exact I.mod.glob.keeps I.bk) hm h) hd
theorem ld_blt {E : Value → Shared → Prop} {pins : List (Addr × Obj)} {s : Shared} {σ : St} {H : Hp} {x : Str} {u : Value} {pos : Pos} {Q : Value → Shared → Prop} (I : Inv X pins σ H s) (hg : Gl X x) (hm : X.mg x = none) (hv : bootBuiltins x = some u) (h : Q u s)
    (hn : x ≠ "__name__" := by decide) (hd : (x == ("__debug__" : Str)) = false := by decide) : wpAny (model X.prog X.w) X.A (eval (.Name x pos) X.env) Q E s := by
  obtain ⟨mb, h1, h2⟩ := I.mod.blt
  exact Calls.Name_function_global I.ok.kind hg (Calls.loadGlobal_builtin (by rw [I.ok.glob]; exact I.mod.glob.keeps I.bk) hm (by rw [I.ok.blt]; exact h1.keeps I.bk) ((h2 x hn).trans hv) h) hd
/-! ### arithmetic -/
def t2I (ta tb : TE) (k : Int → Int → Hp → Prop) : St → Hp → Prop := fun σ H => ta σ H fun x H1 => tb σ H1 fun y H2 => ∃ i j, x = .int i ∧ y = .int j ∧ k i j H2
def tAdd (ta tb : TE) : TE := fun σ H Q => t2I ta tb (fun i j H2 => Q (.int (i + j)) H2) σ H
def tSub (ta tb : TE) : TE := fun σ H Q => t2I ta tb (fun i j H2 => Q (.int (i - j)) H2) σ H
def tMul (ta tb : TE) : TE := fun σ H Q => t2I ta tb (fun i j H2 => (-(2 ^ 64) < i ∧ i < 2 ^ 64) ∧ Q (.int (i * j)) H2) σ H
variable {a b : Expr} {ta tb : TE} {pos : Pos}
/-! ### comparisons -/
def PC (X : Cx) (op : CmpOp) (a b : Expr) (t : TE) : Prop :=
  ∀ (pins : List (Addr × Obj)) (s : Shared) (σ : St) (H : Hp) (Q : VK), Inv X pins σ H s → t σ H Q →
    wpAny (model X.prog X.w) X.A (eval a X.env) (fun v s₁ => wpAny (model X.prog X.w) X.A (eval b X.env) (fun u s₂ => wpAny (model X.prog X.w) X.A (compareOp op v u) (EP X pins σ Q) X.xe s₂) X.xe s₁) X.xe s
def tCmp (p : Int → Int → Bool) (ta tb : TE) : TE := fun σ H Q => t2I ta tb (fun i j H2 => Q (.bl (p i j)) H2) σ H
abbrev tLt : TE → TE → TE := tCmp fun i j => decide (i < j)
abbrev tLe : TE → TE → TE := tCmp fun i j => decide (i ≤ j)
abbrev tGt : TE → TE → TE := tCmp fun i j => decide (j < i)
abbrev tGe : TE → TE → TE := tCmp fun i j => decide (j ≤ i)
abbrev tEqI : TE → TE → TE := tCmp fun i j => decide (i = j)
abbrev tNeI : TE → TE → TE := tCmp fun i j => !decide (i = j)
def tIsN (ta : TE) : TE := fun σ H Q => ta σ H fun x H1 => Q (.bl (decide (x = .non))) H1
def tNotN (ta : TE) : TE := fun σ H Q => ta σ H fun x H1 => Q (.bl (!decide (x = .non))) H1
def tB (t : TE) : TT := fun σ H Q => t σ H fun x H1 => ∃ c, x = .bl c ∧ Q c H1
theorem pt_val {e : Expr} {t : TE} (h : PE X e t) (he : ∀ whole, isTrue e X.env whole = (do let v ← whole; standAt e.pos; holding [v] (truthy v)) := by intro _; rfl) : PT X e (tB t) := by
  intro pins s σ H Q I hw
  refine isTrue_plain (thn (h pins s σ H _ I hw) fun v s1 ⟨x, H1, I1, r1, q1⟩ => ?_) (he _)
  obtain ⟨d, rfl, q⟩ := q1
  cases r1
  exact wpAny_truthy_bool ⟨H1, I1, q⟩

/-! ### and, or, not -/
variable {tA tB' : TT} {rest : List Expr}
def tAnd (t u : TT) : TT := fun σ H Q => t σ H fun c H1 => if c = true then u σ H1 Q else Q false H1
def tOr (t u : TT) : TT := fun σ H Q => t σ H fun c H1 => if c = true then Q true H1 else u σ H1 Q
def tNot (t : TT) : TT := fun σ H Q => t σ H fun c H1 => Q (!c) H1
theorem pw_and1 (ha : PT X a tA) : PW X (.BoolOp .And [a] pos) tA := by
  intro wh pins s σ H Q I h
  refine isTrue_and (thn (ha pins s σ H Q I h) fun c s1 e => ?_)
  cases c with
  | true => exact isTrue_and_nil e
  | false => exact e
theorem pw_or1 (ha : PT X a tA) : PW X (.BoolOp .Or [a] pos) tA := by
  intro wh pins s σ H Q I h
  refine isTrue_or (thn (ha pins s σ H Q I h) fun c s1 e => ?_)
  cases c with
  | false => exact isTrue_or_nil e
  | true => exact e
theorem pw_and (ha : PT X a tA) (hb : PW X (.BoolOp .And (b :: rest) pos) tB') : PW X (.BoolOp .And (a :: b :: rest) pos) (tAnd tA tB') := by
  intro wh pins s σ H Q I h
  refine isTrue_and (thn (ha pins s σ H _ I h) fun c s1 ⟨H1, I1, q1⟩ => ?_)
  cases c with
  | true => exact hb wh pins s1 σ H1 Q I1 q1
  | false => exact ⟨H1, I1, q1⟩
theorem pw_or (ha : PT X a tA) (hb : PW X (.BoolOp .Or (b :: rest) pos) tB') : PW X (.BoolOp .Or (a :: b :: rest) pos) (tOr tA tB') := by
  intro wh pins s σ H Q I h
  refine isTrue_or (thn (ha pins s σ H _ I h) fun c s1 ⟨H1, I1, q1⟩ => ?_)
  cases c with
  | true => exact ⟨H1, I1, q1⟩
  | false => exact hb wh pins s1 σ H1 Q I1 q1
theorem pt_not (ha : PT X a tA) : PT X (.UnaryOp .Not a pos) (tNot tA) := by
  intro pins s σ H Q I h
  exact isTrue_not (ha pins s σ H (fun c H1 => Q (!c) H1) I h)
def tAndV (ta tb : TE) : TE := fun σ H Q => ta σ H fun x H1 => ∃ c, x = .bl c ∧ if c = true then tb σ H1 Q else Q (.bl false) H1
def tOrV (ta tb : TE) : TE := fun σ H Q => ta σ H fun x H1 => ∃ c, x = .bl c ∧ if c = true then Q (.bl true) H1 else tb σ H1 Q
def tNotV (ta : TE) : TE := fun σ H Q => ta σ H fun x H1 => ∃ c, x = .bl c ∧ Q (.bl (!c)) H1
theorem pe_one {op} {t : TE} (h : PE X a t) : PE X (.BoolOp op [a] pos) t := fun pins s σ H Q I hw => BoolOp_one (h pins s σ H Q I hw)
theorem pe_and (ha : PE X a ta) (hb : PE X (.BoolOp .And (b :: rest) pos) tb) : PE X (.BoolOp .And (a :: b :: rest) pos) (tAndV ta tb) := by
  intro pins s σ H Q I h
  refine BoolOp_and (thn (ha pins s σ H _ I h) fun v s1 ⟨x, H1, I1, r1, q1⟩ => ?_)
  obtain ⟨c, rfl, q1⟩ := q1
  cases r1
  refine wpAny_truthy_bool ?_
  cases c with
  | true => exact hb pins s1 σ H1 Q I1 q1
  | false => exact ⟨.bl false, H1, I1, rfl, q1⟩
def tIf (t : TT) (ta tb : TE) : TE := fun σ H Q => t σ H fun c H1 => if c = true then ta σ H1 Q else tb σ H1 Q
end
end L2

namespace L2
open PySem PySem.Spec PyProof.Rows

/-! ### a list, a tuple that is read: tracked, frozen, or an object of the module -/
def SqL (K : PySem.W.Frag) (H : Hp) (a : Addr) (xs : List V) : Prop :=
  Rd H a (.lst xs) ∨
    ∃ (o : Obj) (its : Array Value) (n : Nat), K.lookup a = some o ∧ o.cls = .type "list" ∧ o.dict = none ∧ o.data = .seq its n ∧ its.size ≤ sizeLine ∧ Vals xs its.toList
def SqT (K : PySem.W.Frag) (H : Hp) (a : Addr) (xs : List V) : Prop :=
  Rd H a (.tup xs) ∨
    ∃ (o : Obj) (its : Array Value) (n : Nat), K.lookup a = some o ∧ o.cls = .type "tuple" ∧ o.data = .seq its n ∧ its.size ≤ sizeLine ∧ Vals xs its.toList
def absV : Value → Option V
  | .none => some .non
  | .bool b => some (.bl b)
  | .int i _ => some (.int i)
  | .str x _ => some (.str x)
  | .bytes b _ => some (.byt b)
  | .float b _ => some (.flt b)
  | .ref a => some (.ref a)
  | .type n => some (.ty n)
  | _ => none
theorem RelV.abs {x : V} {u : Value} (r : RelV x u) : absV u = some x := by
  cases x with
  | non => cases r; rfl
  | bl _ => cases r; rfl
  | int _ => obtain ⟨t, rfl⟩ := r; rfl
  | str _ => obtain ⟨t, rfl⟩ := r; rfl
  | byt _ => obtain ⟨t, rfl⟩ := r; rfl
  | flt _ => obtain ⟨t, rfl⟩ := r; rfl
  | ref _ => cases r; rfl
  | ty _ => cases r; rfl
theorem RelV.inj {x y : V} {u : Value} (r : RelV x u) (q : RelV y u) : x = y := Option.some.inj (r.abs.symm.trans q.abs)
theorem Vals.inj : ∀ {xs ys : List V} {us : List Value}, Vals xs us → Vals ys us → xs = ys
  | _, _, _, .nil, .nil => rfl
  | _, _, _, .cons r t, .cons r' t' => by rw [r.inj r', Vals.inj t t']
section
variable {X : Cx} {pins : List (Addr × Obj)} {σ : St} {H : Hp} {s : Shared} {a : Addr} {xs ys : List V}
theorem SqL.of {K : PySem.W.Frag} (h : H a = some (.lst xs)) : SqL K H a xs := .inl (.inl h)
theorem SqT.of {K : PySem.W.Frag} (h : H a = some (.tup xs)) : SqT K H a xs := .inl (.inl h)
theorem Inv.list (I : Inv X pins σ H s) (h : SqL X.K H a xs) : ∃ its : List Value, Vals xs its ∧ PlainL s.heap a its.toArray ∧ xs.length ≤ sizeLine := by
  rcases h with h | ⟨o, its, n, hk, hc, hd, hs, hz, r⟩
  · obtain ⟨z, its, n, r, e⟩ := h.ok I.hok
    exact ⟨its, r, ⟨_, n, e, rfl, rfl, rfl⟩, z⟩
  · refine ⟨its.toList, r, ⟨o, n, I.kIn a o hk, hc, hd, by simpa using hs⟩, ?_⟩
    have e := r.length
    simp only [Array.length_toList] at e
    omega
theorem Inv.tuple (I : Inv X pins σ H s) (h : SqT X.K H a xs) : ∃ its : List Value, Vals xs its ∧ IsTup s.heap a its.toArray ∧ xs.length ≤ sizeLine := by
  rcases h with h | ⟨o, its, n, hk, hc, hs, hz, r⟩
  · obtain ⟨z, its, r, p⟩ := h.ok I.hok
    exact ⟨its, r, p, z⟩
  · refine ⟨its.toList, r, ⟨o, I.kIn a o hk, hc, n, by simpa using hs⟩, ?_⟩
    have e := r.length
    simp only [Array.length_toList] at e
    omega
theorem Inv.list_inj (I : Inv X pins σ H s) (h : SqL X.K H a xs) (h' : SqL X.K H a ys) : xs = ys := by
  obtain ⟨its, r, ⟨o, n, e, _, _, d⟩, _⟩ := I.list h
  obtain ⟨its', r', ⟨o', n', e', _, _, d'⟩, _⟩ := I.list h'
  rw [e] at e'; cases e'
  rw [d] at d'
  injection d' with d1 _
  have : its = its' := by simpa using congrArg Array.toList d1
  subst this
  exact r.inj r'
end

/-! ### another wish about exceptions -/
abbrev Cx.wish (X : Cx) (E : Value → Shared → Prop) : Cx := { X with xe := E }
abbrev Cx.nox (X : Cx) : Cx := X.wish fun _ _ => False
theorem Cx.Ok.wish {X : Cx} (ok : X.Ok) (E : Value → Shared → Prop) : (X.wish E).Ok :=
  ⟨ok.mod, ok.kind, ok.glob, ok.blt, ok.above, ok.inj, ok.has, ok.cab, ok.hd, ok.frames, ok.stk, ok.exf, ok.bs, ok.bsz, ok.noex, ok.exfs, ok.funs, ok.frf⟩
theorem Cx.Ok.unwish {X : Cx} {E : Value → Shared → Prop} (ok : (X.wish E).Ok) : X.Ok :=
  ⟨ok.mod, ok.kind, ok.glob, ok.blt, ok.above, ok.inj, ok.has, ok.cab, ok.hd, ok.frames, ok.stk, ok.exf, ok.bs, ok.bsz, ok.noex, ok.exfs, ok.funs, ok.frf⟩
section
variable {X : Cx} {pins : List (Addr × Obj)} {σ : St} {H : Hp} {s : Shared} {E : Value → Shared → Prop}
theorem Inv.wish (I : Inv X pins σ H s) (E : Value → Shared → Prop) : Inv (X.wish E) pins σ H s := ⟨I.ok.wish E, I.os, I.bare, I.base, I.loc, I.cell, I.free, I.freeC, I.pin, I.hok, I.len⟩
theorem Inv.unwish (I : Inv (X.wish E) pins σ H s) : Inv X pins σ H s := ⟨I.ok.unwish, I.os, I.bare, I.base, I.loc, I.cell, I.free, I.freeC, I.pin, I.hok, I.len⟩
theorem SP.unwish {D : Ends} {f : Flow} {s' : Shared} (h : SP (X.wish E) pins D f s') : SP X pins D f s' := by
  cases f with
  | next => obtain ⟨σ', H', I, q⟩ := h; exact ⟨σ', H', I.unwish, q⟩
  | brk => obtain ⟨σ', H', I, q⟩ := h; exact ⟨σ', H', I.unwish, q⟩
  | cont => obtain ⟨σ', H', I, q⟩ := h; exact ⟨σ', H', I.unwish, q⟩
  | ret u => obtain ⟨v, σ', H', I, r, q⟩ := h; exact ⟨v, σ', H', I.unwish, r, q⟩
theorem PE.nox {e : Expr} {t : TE} (h : PE X.nox e t) : PE X e t := fun pins s σ H Q I hw =>
  wpAny_mono (h pins s σ H Q (I.wish _) hw) (fun _ _ ⟨v, H', I', r, q⟩ => ⟨v, H', I'.unwish, r, q⟩) fun _ _ z => False.elim z
theorem PT.nox {e : Expr} {t : TT} (h : PT X.nox e t) : PT X e t := fun pins s σ H Q I hw =>
  wpAny_mono (h pins s σ H Q (I.wish _) hw) (fun _ _ ⟨H', I', q⟩ => ⟨H', I'.unwish, q⟩) fun _ _ z => False.elim z
theorem PSs.nox {st : List Stmt} {t : TS} (h : PSs X.nox st t) : PSs X st t := fun pins s σ H D I hw =>
  wpAny_mono (h pins s σ H D (I.wish _) hw) (fun _ _ q => q.unwish) fun _ _ z => False.elim z
end

/-! ### blocks and small statements -/
section
variable {X : Cx} {st : Stmt} {rest : List Stmt} {t u : TS} {e : Expr} {te : TE} {pos : Pos}
def tNext : TS := fun D σ H => D.nx σ H
def tSeq (t u : TS) : TS := fun D σ H => t { D with nx := u D } σ H
theorem pss_nil : PSs X [] tNext := fun _ _ σ H _ I h => wpAny_execs_nil ⟨σ, H, I, h⟩
theorem pss_cons (h1 : PS X st t) (h2 : PSs X rest u) : PSs X (st :: rest) (tSeq t u) := by
  intro pins s σ H D I h
  refine wpAny_execs_cons (thn (h1 pins s σ H { D with nx := u D } I h) fun f s1 q => ?_)
  cases f with
  | next =>
    obtain ⟨σ', H', I', q⟩ := q
    exact h2 pins s1 σ' H' D I' q
  | ret v => exact q
  | brk => exact q
  | cont => exact q
theorem pss_one (h1 : PS X st t) : PSs X [st] t := by
  intro pins s σ H D I h
  refine wpAny_execs_cons (thn (h1 pins s σ H D I h) fun f s1 q => ?_)
  cases f with
  | next => exact wpAny_execs_nil q
  | ret v => exact q
  | brk => exact q
  | cont => exact q
def tBreak : TS := fun D σ H => D.bk σ H
def tCont : TS := fun D σ H => D.ct σ H
def tDrop (te : TE) : TS := fun D σ H => te σ H fun _ H1 => D.nx σ H1
def tRet (te : TE) : TS := fun D σ H => te σ H D.rt
theorem ps_ret (he : PE X e te) : PS X (.Return (some e) pos) (tRet te) := by
  intro pins s σ H D I h
  exact wpAny_Return_some (thn (he pins s σ H _ I h) fun v s1 ⟨x, H1, I1, r1, q1⟩ => ⟨x, σ, H1, I1, r1, q1⟩)
def tRetN : TS := fun D _ H => D.rt .non H
def tIfS (c : TT) (t u : TS) : TS := fun D σ H => c σ H fun b H1 => if b = true then t D σ H1 else u D σ H1
theorem ps_if {c : Expr} {a b : List Stmt} {tc : TT} (hc : PT X c tc) (ha : PSs X a t) (hb : PSs X b u) : PS X (.If c a b pos) (tIfS tc t u) := by
  intro pins s σ H D I h
  refine wpAny_If (thn (hc pins s σ H _ I h) fun d s1 ⟨H1, I1, q1⟩ => ?_)
  cases d with
  | true => exact ha pins s1 σ H1 D I1 q1
  | false => exact hb pins s1 σ H1 D I1 q1
def tNever : TS := fun _ _ _ => False
end

/-! ### targets -/
abbrev TG := V → St → Hp → (St → Hp → Prop) → Prop
abbrev TGs := List V → St → Hp → (St → Hp → Prop) → Prop
def PG (X : Cx) (target : Expr) (t : TG) : Prop :=
  ∀ (pins : List (Addr × Obj)) (s : Shared) (σ : St) (H : Hp) (v : V) (u : Value) (Q : St → Hp → Prop), Inv X pins σ H s → RelV v u → t v σ H Q →
    wpAny (model X.prog X.w) X.A (assign target X.env u) (fun _ s' => ∃ σ' H', Inv X pins σ' H' s' ∧ Q σ' H') X.xe s
def PGs (X : Cx) (ts : List Expr) (t : TGs) : Prop :=
  ∀ (pins : List (Addr × Obj)) (s : Shared) (σ : St) (H : Hp) (vs : List V) (us : List Value) (Q : St → Hp → Prop), Inv X pins σ H s → Vals vs us → t vs σ H Q →
    wpAny (model X.prog X.w) X.A (assignInOrder ((assignEach ts X.env).map (·.2)) us) (fun _ s' => ∃ σ' H', Inv X pins σ' H' s' ∧ Q σ' H') X.xe s
abbrev TSet := V → V → V → Hp → (Hp → Prop) → Prop
def PSet (X : Cx) (t : TSet) : Prop :=
  ∀ (pins : List (Addr × Obj)) (s : Shared) (σ : St) (H : Hp) (o i v : V) (ov iv u : Value) (Q : Hp → Prop), Inv X pins σ H s → RelV o ov → RelV i iv → RelV v u → t o i v H Q →
    wpAny (model X.prog X.w) X.A (setItem ov iv u) (fun _ s' => ∃ H', Inv X pins σ H' s' ∧ Q H') X.xe s
abbrev TIp := V → V → Hp → VK → Prop
def PIp (X : Cx) (op : Operator) (t : TIp) : Prop :=
  ∀ (pins : List (Addr × Obj)) (s : Shared) (σ : St) (H : Hp) (x y : V) (v u : Value) (Q : VK), Inv X pins σ H s → RelV x v → RelV y u → t x y H Q →
    wpAny (model X.prog X.w) X.A (inplaceOp op v u) (EP X pins σ Q) X.xe s
section
variable {X : Cx} {pos : Pos}
def gName (i : Nat) : TG := fun v σ H Q => Q (σ.set i (some v)) H
theorem pg_name {i : Nat} {x : Str} (hN : X.N.Nodup) (hi : X.N[i]? = some x) (hx : Loc X.env.scope x) (hf : X.fn x = true ∨ X.env.scope.names.lookup x = some .local := by first | exact .inl rfl | exact .inr rfl | assumption) : PG X (.Name x pos) (gName i) := by
  intro pins s σ H v u Q I r h
  exact wpAny_assign_Name (store_ok I hN hi hx r (fun s' I' => ⟨_, H, I', h⟩) hf)
def gNil : TGs := fun vs σ H Q => vs = [] ∧ Q σ H
def gCons (t : TG) (u : TGs) : TGs := fun vs σ H Q => ∃ v r, vs = v :: r ∧ t v σ H fun σ' H' => u r σ' H' Q
theorem pgs_nil : PGs X [] gNil := by
  intro pins s σ H vs us Q I r h
  obtain ⟨e, h⟩ := h
  subst e
  cases r
  exact assignInOrder_nil ⟨σ, H, I, h⟩
theorem pgs_cons {e : Expr} {es : List Expr} {t : TG} {u : TGs} (h1 : PG X e t) (h2 : PGs X es u)
    (hs : (assignEach (e :: es) X.env).map (·.2) = assign e X.env :: (assignEach es X.env).map (·.2) := by rfl) : PGs X (e :: es) (gCons t u) := by
  intro pins s σ H vs us Q I r h
  obtain ⟨v, vr, e1, h⟩ := h
  subst e1
  cases r with
  | cons r rr =>
    rw [hs]
    refine assignInOrder_cons (thn (h1 pins s σ H _ _ _ I r h) fun _ s1 ⟨σ1, H1, I1, q1⟩ => ?_)
    exact h2 pins s1 σ1 H1 _ _ Q I1 rr q1
def gTup (K : PySem.W.Frag) (n : Nat) (t : TGs) : TG := fun v σ H Q => ∃ a xs, v = .ref a ∧ SqT K H a xs ∧ xs.length = n ∧ t xs σ H Q
theorem pg_tup {es : List Expr} {k : Nat} {t : TGs} {n : Nat} (hc : X.calm = true) (h : PGs X es t)
    (hn : (assignEach es X.env).length = n := by rfl) (hst : (assignEach es X.env).findIdx? (·.1) = none := by rfl) : PG X (.Tuple es k pos) (gTup X.K n t) := by
  intro pins s σ H v u Q I r hw
  obtain ⟨a, xs, e1, hq, hl, hw⟩ := hw
  subst e1
  cases r
  obtain ⟨its, rv, ht, hz⟩ := I.tuple hq
  refine assign_Tuple_tuple (I.ok.hd hc) ht (by simp [hn, ← hl, rv.length]) hst fun h' hx => ?_
  have I1 : Inv X pins σ H { s with heap := h' } := I.kept (t' := s.toks) fun b o e => hx b o (Nat.ne_of_lt (Heap.lt_size e)) e
  exact h pins _ σ H xs _ Q I1 (by simpa using rv) hw
def gSub (to ti : TE) (t : TSet) : TG := fun v σ H Q => to σ H fun o H1 => ti σ H1 fun i H2 => t o i v H2 fun H3 => Q σ H3
def tAsg (te : TE) (g : TG) : TS := fun D σ H => te σ H fun x H1 => g x σ H1 D.nx
theorem ps_asg {tg e : Expr} {te : TE} {g : TG} (he : PE X e te) (hg : PG X tg g) (hs : swapsWithSole [tg] e pos.line X.env = pure false := by rfl) (hw : swappedStores [tg] e X.env = pure none := by rfl)
    (h1 : (assignEach [tg] X.env).map (·.2) = [assign tg X.env] := by rfl) : PS X (.Assign [tg] e pos) (tAsg te g) := by
  intro pins s σ H D I h
  refine wpAny_Assign_stores (thn (he pins s σ H _ I h) fun v s1 ⟨x, H1, I1, r1, q1⟩ => ?_) hs hw
  rw [h1]
  exact thn (hg pins s1 σ H1 x v _ I1 r1 q1) fun _ s2 q => q
theorem ps_set {i : Nat} {x : Str} {e : Expr} {te : TE} {pos' : Pos} (hN : X.N.Nodup) (hi : X.N[i]? = some x) (hx : Loc X.env.scope x) (he : PE X e te) (hs : swapsWith e (some (.Name x pos')) pos.line X.env = pure false := by rfl) (hf : X.fn x = true ∨ X.env.scope.names.lookup x = some .local := by first | exact .inl rfl | exact .inr rfl | assumption) :
    PS X (.Assign [.Name x pos'] e pos) (tAsg te (gName i)) := by
  intro pins s σ H D I h
  refine wpAny_Assign_Name (thn (he pins s σ H _ I h) fun v s1 ⟨y, H1, I1, r1, q1⟩ => ?_) hs
  exact store_ok I1 hN hi hx r1 (fun s2 I2 => ⟨_, H1, I2, q1⟩) hf
def tPar (i j : Nat) (ta : TA) : TS := fun D σ H => ta σ H fun vs H1 => ∃ v w, vs = [v, w] ∧ D.nx ((σ.set i (some v)).set j (some w)) H1
theorem ps_par {i j : Nat} {x y : Str} {a b : Expr} {ta : TA} {px py pt : Pos} {kt k2 pt2} (hc : X.calm = true) (hN : X.N.Nodup) (hi : X.N[i]? = some x) (hj : X.N[j]? = some y) (hij : i ≠ j)
    (hx : X.env.scope.names.lookup x = some .local) (hy : X.env.scope.names.lookup y = some .local) (ha : PA X [a, b] ta)
    (hw : swappedStores [.Tuple [.Name x px, .Name y py] kt pt] (.Tuple [a, b] k2 pt2) X.env = pure (some [x, y]))
    (hs : swapsWithSole [.Tuple [.Name x px, .Name y py] kt pt] (.Tuple [a, b] k2 pt2) pos.line X.env = pure false := by rfl) :
    PS X (.Assign [.Tuple [.Name x px, .Name y py] kt pt] (.Tuple [a, b] k2 pt2) pos) (tPar i j ta) := by
  intro pins s σ H D I h
  rw [exec_Assign_arm]
  refine wpAny_bind (wpAny_standAt ?_)
  rw [hs]
  refine wpAny_bind (wpAny_pure ?_)
  rw [if_neg (by decide)]
  refine wpAny_bind (Tuple_ (thn (ha _ pins s σ H _ I h) fun us s1 ⟨vs, H1, I1, r1, q1⟩ => ?_))
  obtain ⟨v, w, e1, q1⟩ := q1
  subst e1
  obtain ⟨u1, u2, rfl, rv, rw'⟩ : ∃ u1 u2, us = [u1, u2] ∧ RelV v u1 ∧ RelV w u2 := by
    cases r1 with
    | cons p q =>
      cases q with
      | cons p' q' =>
        cases q'
        exact ⟨_, _, rfl, p, p'⟩
  refine wpAny_newObj_type ?_ (by show 2 ≤ sizeLine; decide)
  have I2 : Inv X pins σ H1 { s1 with heap := s1.heap.push { cls := .type "tuple", data := .seq [u1, u2].toArray } } := I1.kept (t' := s1.toks) fun b o e => Heap.get?_push_of_some _ e
  rw [hw]
  refine wpAny_bind (wpAny_pure ?_)
  show wpAny (model X.prog X.w) X.A (do rule "assign.swapped-stores"; let items ← unpackItems (.ref s1.heap.objs.size) 2 none; assignInOrder [fun v => bindName X.env y v, fun v => bindName X.env x v] items.reverse; pure Flow.next) _ _ _
  refine wpAny_bind (wpAny_rule (wpAny_bind (unpackItems_tuple (items := #[u1, u2]) (I.ok.hd hc) (IsTup.new s1.heap _) fun h' hx' => ?_)))
  have I3 := I2.kept (h' := h') (t' := s1.toks) fun b o e => hx' b o (Nat.ne_of_lt (Heap.lt_size e)) e
  show wpAny _ _ (assignInOrder [fun v => bindName X.env y v, fun v => bindName X.env x v] [u2, u1] >>= fun _ => pure Flow.next) _ _ _
  refine wpAny_bind (assignInOrder_cons (wpAny_bindName (store_ok I3 hN hj (.inl hy) rw' (fun s2 I4 => ?_) (.inr hy))))
  refine assignInOrder_cons (wpAny_bindName (store_ok I4 hN hi (.inl hx) rv (fun s3 I5 => assignInOrder_nil (wpAny_pure ?_)) (.inr hx)))
  rw [List.set_comm _ _ (Ne.symm hij)] at I5
  exact ⟨_, H1, I5, q1⟩
def tAug (i : Nat) (te : TE) (ti : TIp) : TS := fun D σ H => ∃ x, σ[i]? = some (some x) ∧ te σ H fun y H1 => ti x y H1 fun z H2 => D.nx (σ.set i (some z)) H2
def tAugS (to ti te : TE) (tget : V → V → Hp → VK → Prop) (tip : TIp) (tset : TSet) : TS := fun D σ H => to σ H fun o H1 => ti σ H1 fun i H2 => tget o i H2 fun x H3 => te σ H3 fun y H4 => tip x y H4 fun z H5 => tset o i z H5 fun H6 => D.nx σ H6
def PGet (X : Cx) (t : V → V → Hp → VK → Prop) : Prop :=
  ∀ (pins : List (Addr × Obj)) (s : Shared) (σ : St) (H : Hp) (o i : V) (ov iv : Value) (Q : VK), Inv X pins σ H s → RelV o ov → RelV i iv → t o i H Q →
    wpAny (model X.prog X.w) X.A (getItem ov iv) (EP X pins σ Q) X.xe s
def ipI (f : Int → Int → Int) : TIp := fun x y H Q => ∃ i j, x = .int i ∧ y = .int j ∧ Q (.int (f i j)) H
end

/-! ### while -/
section
variable {X : Cx} {pos : Pos}
def tWhile (c : TT) (tb : TS) : TS := fun D σ H => ∃ W : Nat → St → Hp → Prop, (∃ m, W m σ H) ∧ ∀ m σ H, W m σ H →
  c σ H fun b H1 => if b = true then ∃ N : St → Hp → Prop, (∀ σ' H', N σ' H' → ∃ m', m' < m ∧ W m' σ' H') ∧ tb { D with nx := N, ct := N, bk := D.nx } σ H1 else D.nx σ H1
end

/-! ### what a loop or a comprehension walks -/
structure It where
  go : Nat → Hp → Prop
  yld : Nat → Hp → V → Hp → Prop
  stop : Nat → Hp → Prop
def FpOk (X : Cx) (pins : List (Addr × Obj)) (H : Hp) (b : Addr) : Prop :=
  H b = none ∧ b ≠ X.env.locals ∧ b ∉ X.fs ∧ (b ∈ X.ex ∨ X.s_0.heap.objs.size ≤ b) ∧ (∀ x c, X.env.cells.lookup x = some c → c ≠ b) ∧ ∀ p ∈ X.pn ++ pins, p.1 ≠ b
theorem Inv.fpOk {X : Cx} {pins : List (Addr × Obj)} {σ : St} {H H' : Hp} {s : Shared} {b : Addr} (I : Inv X pins σ H s) (hb : s.heap.objs.size ≤ b) (hn : H' b = none) : FpOk X pins H' b := by
  refine ⟨hn, Nat.ne_of_gt (Nat.lt_of_lt_of_le I.lt hb), I.nofs hb, .inr (Nat.le_trans I.sz hb), fun x c e z => ?_, fun p hp z => ?_⟩
  · obtain ⟨v, q⟩ := I.cell x c e
    exact absurd (Nat.lt_of_lt_of_le q.lt (by rw [z]; exact hb)) (Nat.lt_irrefl _)
  · exact absurd (Nat.lt_of_lt_of_le (Heap.lt_size (I.pin p hp).1) (by rw [z]; exact hb)) (Nat.lt_irrefl _)
structure Turn (P : Program) (w : World) (K : PySem.W.Frag) (tg : Expr) (J : It) (fp : List Addr) (it : Addr) (tn : Nat → Heap → Prop) : Prop where
  mem : it ∈ fp
  obj : ∀ i h, tn i h → ∀ b ∈ fp, ∃ o, h.get? b = some o ∧ ∀ v, o.data ≠ .cell v
  keep : ∀ i h h', tn i h → (∀ b ∈ fp, ∀ o, h.get? b = some o → h'.get? b = some o) → tn i h'
  item : ∀ (X : Cx), X.prog = P → X.w = w → X.K = K → X.calm = true → ∀ (i : Nat) (pins : List (Addr × Obj)) (s : Shared) (σ : St) (H : Hp) (E : Value → Shared → Prop), Inv X pins σ H s → (∀ b ∈ fp, FpOk X pins H b) → tn i s.heap → J.go i H →
    wpAny (model P w) X.A (pyNext (.ref it)) (fun r s1 => ∃ u, r = some u ∧
      wpAny (model P w) X.A (letOwnedTupleGo tg (.ref it) u) (fun _ s2 => ∃ x H', Inv X pins σ H' s2 ∧ RelV x u ∧ J.yld i H x H' ∧ tn (i + 1) s2.heap ∧ ∀ b ∈ fp, H' b = none) E s1) E s
  done : ∀ (X : Cx), X.prog = P → X.w = w → X.K = K → X.calm = true → ∀ (i : Nat) (pins : List (Addr × Obj)) (s : Shared) (σ : St) (H : Hp) (E : Value → Shared → Prop), Inv X pins σ H s → (∀ b ∈ fp, FpOk X pins H b) → tn i s.heap → J.stop i H →
    wpAny (model P w) X.A (pyNext (.ref it)) (fun r s1 => r = none ∧ Inv X pins σ H s1) E s
  self : ∀ (A : Around) (i : Nat) (s : Shared) (Q : Value → Shared → Prop) (E : Value → Shared → Prop), tn i s.heap → Q (.ref it) s → wpAny (model P w) A (pyIter (.ref it)) Q E s
abbrev TI := St → Hp → (It → Hp → Prop) → Prop
def PIE (X : Cx) (pins : List (Addr × Obj)) (σ : St) (tg : Expr) (R : It → Hp → Prop) (itv : Value) (s2 : Shared) : Prop :=
  ∃ (it : Addr) (fp : List Addr) (tn : Nat → Heap → Prop) (J : It) (H' : Hp), itv = .ref it ∧ Inv X pins σ H' s2 ∧ Turn X.prog X.w X.K tg J fp it tn ∧ tn 0 s2.heap ∧ (∀ b ∈ fp, FpOk X pins H' b) ∧ R J H'
def PI (X : Cx) (tg iter : Expr) (wi : TI) : Prop :=
  ∀ (pins : List (Addr × Obj)) (s : Shared) (σ : St) (H : Hp) (R : It → Hp → Prop), Inv X pins σ H s → wi σ H R →
    wpAny (model X.prog X.w) X.A (eval iter X.env) (fun v s1 => wpAny (model X.prog X.w) X.A (pyIter v) (PIE X pins σ tg R) X.xe s1) X.xe s

theorem go_of {M : Model} {A : Around} {E : Value → Shared → Prop} {s : Shared} {tg : Expr} {it : Addr} {u : Value} {o : Obj} {n : String} {vs : Array Value} {Q : Unit → Shared → Prop} (ho : s.heap.get? it = some o) (hc : o.cls = .type n) (hd : o.data = .fields vs)
    (hn : ["enumerate", "zip", "dict_itemiterator", "dict_reverseitemiterator", "odict_iterator", "itertools.zip_longest", "itertools.pairwise"].contains n = false) (hQ : Q () s) : wpAny M A (letOwnedTupleGo tg (.ref it) u) Q E s := by
  unfold letOwnedTupleGo
  cases tg <;> first
    | exact wpAny_pure hQ
    | (cases u <;> first
        | exact wpAny_pure hQ
        | (refine wpAny_bind (wpAny_load ho ?_)
           rw [hc, hd]
           show wpAny M A (if (["enumerate", "zip", "dict_itemiterator", "dict_reverseitemiterator", "odict_iterator", "itertools.zip_longest", "itertools.pairwise"].contains n && vs[0]? == some (rawInt _)) = true then _ else _) Q E s
           rw [if_neg (by intro h; rw [hn, Bool.false_and] at h; cases h)]
           exact wpAny_pure hQ))

def Itl (K : PySem.W.Frag) (a : Addr) : It :=
  ⟨fun i H => ∃ xs x, SqL K H a xs ∧ xs[i]? = some x, fun i H x H' => H' = H ∧ ∀ xs, SqL K H a xs → xs[i]? = some x, fun i H => ∃ xs, SqL K H a xs ∧ xs.length ≤ i⟩
def Itt (K : PySem.W.Frag) (a : Addr) : It :=
  ⟨fun i H => ∃ xs x, SqT K H a xs ∧ xs[i]? = some x, fun i H x H' => H' = H ∧ ∀ xs, SqT K H a xs → xs[i]? = some x, fun i H => ∃ xs, SqT K H a xs ∧ xs.length ≤ i⟩
def Itr (lo : Int) (n : Nat) : It := ⟨fun i _ => i < n, fun i H x H' => H' = H ∧ x = .int (lo + i), fun i _ => n ≤ i⟩
theorem turn_list {P : Program} {w : World} {K : PySem.W.Frag} {tg : Expr} (a it : Addr) : Turn P w K tg (Itl K a) [it] it (fun i h => h.IsListIter it a i) where
  mem := by simp
  obj := fun i h st b hb => by
    have e : b = it := by simpa using hb
    subst e
    obtain ⟨o, e, c, d⟩ := st
    exact ⟨o, e, fun v z => by rw [d] at z; cases z⟩
  keep := fun i h h' st k => st.at fun o e => k it (by simp) o e
  item := by
    intro X hP hw hK hc i pins s σ H E I hf st hg
    subst hP hw hK
    obtain ⟨xs, x, hq, hx⟩ := hg
    obtain ⟨its, rv, p, hz⟩ := I.list hq
    obtain ⟨u, hu, ru⟩ := rv.get hx
    obtain ⟨f0, f1, f2, f3, f4, f5⟩ := hf it (by simp)
    refine wpAny_pyNext_list_item st p.isList (x := u) (by simpa using hu) fun h' st' sb => ?_
    have I1 : Inv X pins σ H { s with heap := h' } := I.turned (t' := s.toks) (fun b o hb e => (sb.2 b hb).trans e) f0 f1 f3 f4 f5
    obtain ⟨o, e, c, d⟩ := id st'
    exact ⟨u, rfl, go_of (s := { s with heap := h' }) e c d (by decide) ⟨x, H, I1, ru, ⟨rfl, fun ys hy => by rw [I.list_inj hy hq]; exact hx⟩, st', fun b hb => (hf b hb).1⟩⟩
  done := by
    intro X hP hw hK hc i pins s σ H E I hf st hg
    subst hP hw hK
    obtain ⟨xs, hq, hx⟩ := hg
    obtain ⟨its, rv, p, hz⟩ := I.list hq
    obtain ⟨f0, f1, f2, f3, f4, f5⟩ := hf it (by simp)
    have hl := rv.length
    exact wpAny_pyNext_list_end (I.ok.hd hc) st p.isList (by simp; omega) fun h' eb => ⟨rfl, I.turned (t' := s.toks) (fun b o hb e => eb b o hb e) f0 f1 f3 f4 f5⟩
  self := fun _ _ _ _ _ st h => wpAny_pyIter_listiter st h
theorem turn_range {P : Program} {w : World} {K : PySem.W.Frag} {tg : Expr} (it : Addr) (lo : Int) (n : Nat) : Turn P w K tg (Itr lo n) [it] it (fun i h => IsRangeIter h it (lo + (i : Nat) * 1) ((n : Int) - (i : Nat)) 1) where
  mem := by simp
  obj := fun i h st b hb => by
    have e : b = it := by simpa using hb
    subst e
    exact ⟨_, st, fun v z => by
      have z' : Data.fields _ = Data.cell v := z
      cases z'⟩
  keep := fun i h h' st k => k it (by simp) _ st
  item := by
    intro X hP hw hK hc i pins s σ H E I hf st hg
    subst hP hw hK
    obtain ⟨f0, f1, f2, f3, f4, f5⟩ := hf it (by simp)
    have W := Walks.range (prog := X.prog) (w := X.w) (I.ok.hd hc) it lo 1 n
    refine W.item i s _ _ hg st fun v h' tk hv st' kk => ?_
    obtain ⟨t, rfl⟩ := hv
    have I1 : Inv X pins σ H { s with heap := h', toks := tk } := I.turned (fun b o hb e => kk b o (by simpa using hb) e) f0 f1 f3 f4 f5
    refine ⟨_, rfl, go_of (s := { s with heap := h', toks := tk }) (n := "range_iterator") st' rfl rfl (by decide) ⟨.int (lo + i), H, I1, ⟨t, ?_⟩, ⟨rfl, rfl⟩, st', fun b hb => (hf b hb).1⟩⟩
    rw [Int.mul_one]
  done := by
    intro X hP hw hK hc i pins s σ H E I hf st hg
    subst hP hw hK
    obtain ⟨f0, f1, f2, f3, f4, f5⟩ := hf it (by simp)
    exact wpAny_pyNext_range_end (I.ok.hd hc) st (by have : n ≤ i := hg; omega) fun h' eb => ⟨rfl, I.turned (t' := s.toks) (fun b o hb e => eb b o hb e) f0 f1 f3 f4 f5⟩
  self := fun _ _ _ _ _ st h => wpAny_pyIter_rangeiter st h
end L2

namespace L2
open PySem PySem.Spec PyProof.Rows
section
variable {X : Cx} {tg : Expr}
def iList (K : PySem.W.Frag) (tl : TE) : TI := fun σ H R => tl σ H fun x H1 => ∃ a, x = .ref a ∧ (∃ xs, SqL K H1 a xs) ∧ R (Itl K a) H1
def iTup (K : PySem.W.Frag) (tl : TE) : TI := fun σ H R => tl σ H fun x H1 => ∃ a, x = .ref a ∧ (∃ xs, SqT K H1 a xs) ∧ R (Itt K a) H1
theorem pi_list {l : Expr} {tl : TE} (hl : PE X l tl) : PI X tg l (iList X.K tl) := by
  intro pins s σ H R I h
  refine thn (hl pins s σ H _ I h) fun v s1 ⟨x, H1, I1, r1, q1⟩ => ?_
  obtain ⟨a, e, ⟨xs, hq⟩, q⟩ := q1
  subst e
  cases r1
  obtain ⟨its, rv, p, hz⟩ := I1.list hq
  refine wpAny_pyIter_list p.isList ?_
  refine ⟨s1.heap.objs.size, [s1.heap.objs.size], _, _, H1, rfl, I1.kept (t' := s1.toks) fun b o e => Heap.get?_push_of_some _ e, turn_list a _, ⟨_, Heap.get?_push_size _ rfl, rfl, rfl⟩, fun b hb => ?_, q⟩
  have e : b = s1.heap.objs.size := by simpa using hb
  subst e
  exact I1.fpOk (Nat.le_refl _) (I1.hok.fresh (Nat.le_refl _))
theorem range_it {pins : List (Addr × Obj)} {σ : St} {H : Hp} {s : Shared} {R : It → Hp → Prop} {E : Value → Shared → Prop} {lo hi : Int} {t u v : Tok} {tk : Nat} (I : Inv X pins σ H s) (h1 : -(2 ^ 62) ≤ lo) (h2 : lo < 2 ^ 62) (h3 : -(2 ^ 62) ≤ hi) (h4 : hi < 2 ^ 62)
    (q : R (Itr lo (hi - lo).toNat) H) : wpAny (model X.prog X.w) X.A (pyIter (.ref s.heap.objs.size)) (PIE X pins σ tg R) E { s with heap := s.heap.push { cls := .type "range", data := .fields #[.int lo t, .int hi u, .int 1 v] }, toks := tk } := by
  refine wpAny_pyIter_range (IsRange.new ..) (small_one h1 h2 h3 h4) ?_
  have I1 : Inv X pins σ H { s with heap := s.heap.push { cls := .type "range", data := .fields #[.int lo t, .int hi u, .int 1 v] }, toks := tk } := I.kept fun b o e => Heap.get?_push_of_some _ e
  refine ⟨(s.heap.push { cls := .type "range", data := .fields #[.int lo t, .int hi u, .int 1 v] }).objs.size, [(s.heap.push { cls := .type "range", data := .fields #[.int lo t, .int hi u, .int 1 v] }).objs.size], _, _, H, rfl,
    I1.kept (t' := tk) fun b o e => Heap.get?_push_of_some _ e, turn_range _ lo (hi - lo).toNat, ?_, fun b hb => ?_, q⟩
  · have e1 : lo + ((0 : Nat) : Int) * 1 = lo := by simp
    have e2 : (((hi - lo).toNat : Nat) : Int) - ((0 : Nat) : Int) = Builtin.Range.rangeSize lo hi 1 := by rw [rangeSize_one]; split <;> omega
    show IsRangeIter _ _ (lo + ((0 : Nat) : Int) * 1) ((((hi - lo).toNat : Nat) : Int) - ((0 : Nat) : Int)) 1
    rw [e1, e2]
    exact Heap.get?_push_size _ rfl
  · have e : b = (s.heap.push { cls := .type "range", data := .fields #[.int lo t, .int hi u, .int 1 v] }).objs.size := by simpa using hb
    subst e
    exact I1.fpOk (Nat.le_refl _) (I1.hok.fresh (Nat.le_refl _))
def iRng1 (ta : TA) : TI := fun σ H R => ta σ H fun vs H1 => ∃ j : Int, vs = [.int j] ∧ -(2 ^ 62) ≤ j ∧ j < 2 ^ 62 ∧ R (Itr 0 j.toNat) H1
def iRng2 (ta : TA) : TI := fun σ H R => ta σ H fun vs H1 => ∃ i j : Int, vs = [.int i, .int j] ∧ (-(2 ^ 62) ≤ i ∧ i < 2 ^ 62 ∧ -(2 ^ 62) ≤ j ∧ j < 2 ^ 62) ∧ R (Itr i (j - i).toNat) H1
theorem pi_range1 {a : Expr} {ta : TA} {p pos : Pos} (hg : Gl X "range") (hm : X.mg "range" = none) (ha : PA X [a] ta) (hs : starEach [a] X.env = [(false, eval a X.env)] := by rfl) : PI X tg (.Call (.Name "range" p) [a] [] pos) (iRng1 ta) := by
  intro pins s σ H R I h
  refine Call_ (ld_blt I hg hm boot_range (PyProof.Rows.callWith_type1 (thn (ha pos pins s σ H _ I h) fun us s1 ⟨vs, H1, I1, r1, q1⟩ => ?_) hs rfl))
  obtain ⟨j, e, q1, q2, q⟩ := q1
  subst e
  cases r1 with
  | cons r rr =>
    cases rr
    obtain ⟨t, rfl⟩ := r
    exact call_range_1 (range_it I1 (by omega) (by omega) q1 q2 (by simpa using q))
/-! ### for -/
def tFor (wi : TI) (g : TG) (tb : TS) : TS := fun D σ H => wi σ H fun J H1 => ∃ W : Nat → Nat → St → Hp → Prop, (∃ m, W 0 m σ H1) ∧ ∀ i m σ H, W i m σ H →
  (J.stop i H ∧ D.nx σ H) ∨ (J.go i H ∧ ∃ N : St → Hp → Prop, (∀ σ' H', N σ' H' → ∃ m', m' < m ∧ W (i + 1) m' σ' H') ∧ ∀ x H', J.yld i H x H' → g x σ H' fun σ2 H2 => tb { D with nx := N, ct := N, bk := D.nx } σ2 H2)
def pinsAt (fp : List Addr) (h : Heap) : List (Addr × Obj) := fp.filterMap fun b => (h.get? b).map fun o => (b, o)
theorem mem_pinsAt {fp : List Addr} {h : Heap} {b : Addr} {o : Obj} (hb : b ∈ fp) (e : h.get? b = some o) : (b, o) ∈ pinsAt fp h := List.mem_filterMap.mpr ⟨b, hb, by rw [e]; rfl⟩
theorem of_pinsAt {fp : List Addr} {h : Heap} {p : Addr × Obj} (hp : p ∈ pinsAt fp h) : p.1 ∈ fp ∧ h.get? p.1 = some p.2 := by
  obtain ⟨b, hb, e⟩ := List.mem_filterMap.mp hp
  cases q : h.get? b with
  | none => rw [q] at e; cases e
  | some o =>
    rw [q] at e
    have e' : (b, o) = p := Option.some.inj e
    subst e'
    exact ⟨hb, q⟩
theorem Inv.pinned {pins : List (Addr × Obj)} {σ : St} {H : Hp} {s : Shared} {fp : List Addr} (I : Inv X pins σ H s) (hf : ∀ b ∈ fp, FpOk X pins H b) (ho : ∀ b ∈ fp, ∃ o, s.heap.get? b = some o ∧ ∀ v, o.data ≠ .cell v) : Inv X (pins ++ pinsAt fp s.heap) σ H s :=
  I.pins_of fun p hp => (List.mem_append.mp hp).elim (fun z => I.pin p (List.mem_append_right _ z)) fun z => by
    obtain ⟨hb, e⟩ := of_pinsAt z
    obtain ⟨f0, f1, f2, _⟩ := hf p.1 hb
    obtain ⟨o, e', d⟩ := ho p.1 hb
    rw [e] at e'; cases e'
    exact ⟨e, f0, f1, f2, d⟩
theorem Inv.unpinned {pins pl : List (Addr × Obj)} {σ : St} {H : Hp} {s : Shared} (I : Inv X (pins ++ pl) σ H s) : Inv X pins σ H s := I.pins_of fun p hp => I.pin p (List.mem_append_right _ (List.mem_append_left _ hp))
theorem ps_for {iter : Expr} {body : List Stmt} {wi : TI} {g : TG} {tb : TS} {pos : Pos} (hp : PassesOwn (model X.prog X.w) X.A X.env X.xe) (hc : X.calm = true) (hi : PI X tg iter wi) (hg : PG X tg g) (hb : PSs X body tb)
    (hs : ∀ x, foldedSetIterable iter X.env x = pure x := by intro _; rfl) : PS X (.For tg iter body [] pos) (tFor wi g tb) := by
  intro pins s σ H D I h
  refine wpAny_For (thn (hi pins s σ H _ I h) fun v s1 h1 => thn h1 fun itv s2 h2 => ?_) hs
  obtain ⟨it, fp, tn, J, H2, e, I2, T, st2, f2, W, ⟨m0, w0⟩, turn⟩ := h2
  subst e
  -- what stays true of the iterator's objects through the loop
  have stat : ∀ {H' : Hp}, (∀ b ∈ fp, H' b = none) → ∀ b ∈ fp, FpOk X pins H' b := fun hn b hb => ⟨hn b hb, (f2 b hb).2⟩
  refine codeAny_forLoop_any (fun n s' => ∃ i σ' H', Inv X pins σ' H' s' ∧ tn i s'.heap ∧ (∀ b ∈ fp, H' b = none) ∧ W i n σ' H') ?_ m0 ⟨0, σ, H2, I2, st2, fun b hb => (f2 b hb).1, w0⟩
  rintro n s3 ⟨i, σ3, H3, I3, st3, fr3, w3⟩
  rcases turn i n σ3 H3 w3 with ⟨stop, qn⟩ | ⟨go, N, hN, step⟩
  · refine wpAny_passesOwn hp (thn (T.done X rfl rfl rfl hc i pins s3 σ3 H3 X.xe I3 (stat fr3) st3 stop) fun r s4 ⟨hr, I4⟩ => ?_)
    subst hr
    exact wpAny_execs_nil ⟨σ3, H3, I4, qn⟩
  · refine wpAny_passesOwn hp (thn (T.item X rfl rfl rfl hc i pins s3 σ3 H3 X.xe I3 (stat fr3) st3 go) fun r s4 ⟨u, hr, h4⟩ => ?_)
    subst hr
    refine wpAny_passesOwn hp (thn h4 fun _ s5 ⟨x, H5, I5, r5, y5, st5, fr5⟩ => ?_)
    have I5' := I5.pinned (stat fr5) (T.obj _ _ st5)
    refine wpAny_passesOwn hp (thn (hg _ s5 σ3 H5 x u _ I5' r5 (step x H5 y5)) fun _ s6 ⟨σ6, H6, I6, q6⟩ => ?_)
    refine wpAny_passesOwn hp (thn (hb _ s6 σ6 H6 _ I6 q6) fun f s7 q7 => ?_)
    have again : ∀ {σ7 : St} {H7 : Hp}, Inv X (pins ++ pinsAt fp s5.heap) σ7 H7 s7 → N σ7 H7 → ∃ m, m < n ∧ ∃ i σ' H', Inv X pins σ' H' s7 ∧ tn i s7.heap ∧ (∀ b ∈ fp, H' b = none) ∧ W i m σ' H' := fun {σ7 H7} I7 n7 => by
      obtain ⟨m', hm, w7⟩ := hN σ7 H7 n7
      refine ⟨m', hm, i + 1, σ7, H7, I7.unpinned, T.keep _ _ _ st5 fun b hb o e => (I7.pin (b, o) (List.mem_append_right _ (List.mem_append_right _ (mem_pinsAt hb e)))).1, fun b hb => ?_, w7⟩
      obtain ⟨o, e, d⟩ := T.obj _ _ st5 b hb
      exact (I7.pin (b, o) (List.mem_append_right _ (List.mem_append_right _ (mem_pinsAt hb e)))).2.1
    cases f with
    | next => obtain ⟨σ7, H7, I7, n7⟩ := q7; exact again I7 n7
    | cont => obtain ⟨σ7, H7, I7, n7⟩ := q7; exact again I7 n7
    | brk => obtain ⟨σ7, H7, I7, q7⟩ := q7; exact ⟨σ7, H7, I7.unpinned, q7⟩
    | ret v => obtain ⟨x7, σ7, H7, I7, r7, q7⟩ := q7; exact ⟨x7, σ7, H7, I7.unpinned, r7, q7⟩
end

/-! ### the forms one uses -/
end L2

namespace L2
open PySem PySem.Spec PyProof.Rows

abbrev R2 := V → V → Hp → VK → Prop
def OpR (X : Cx) (f : Value → Value → Sem Value) (r : R2) : Prop :=
  ∀ (pins : List (Addr × Obj)) (s : Shared) (σ : St) (H : Hp) (x y : V) (v u : Value) (Q : VK), Inv X pins σ H s → RelV x v → RelV y u → r x y H Q →
    wpAny (model X.prog X.w) X.A (f v u) (EP X pins σ Q) X.xe s
def UnR (X : Cx) (f : Value → Sem Value) (r : V → Hp → VK → Prop) : Prop :=
  ∀ (pins : List (Addr × Obj)) (s : Shared) (σ : St) (H : Hp) (x : V) (v : Value) (Q : VK), Inv X pins σ H s → RelV x v → r x H Q →
    wpAny (model X.prog X.w) X.A (f v) (EP X pins σ Q) X.xe s
def CallR (X : Cx) (f : Value) (r : List V → Hp → VK → Prop) : Prop :=
  ∀ (pins : List (Addr × Obj)) (s : Shared) (σ : St) (H : Hp) (xs : List V) (us : List Value) (Q : VK), Inv X pins σ H s → Vals xs us → r xs H Q →
    wpAny (model X.prog X.w) X.A (call f us) (EP X pins σ Q) X.xe s
def TruR (X : Cx) (r : V → Hp → (Bool → Hp → Prop) → Prop) : Prop :=
  ∀ (pins : List (Addr × Obj)) (s : Shared) (σ : St) (H : Hp) (x : V) (v : Value) (Q : Bool → Hp → Prop), Inv X pins σ H s → RelV x v → r x H Q →
    wpAny (model X.prog X.w) X.A (truthy v) (TP X pins σ Q) X.xe s

def tOp (r : R2) (ta tb : TE) : TE := fun σ H Q => ta σ H fun x H1 => tb σ H1 fun y H2 => r x y H2 Q
def tUn (r : V → Hp → VK → Prop) (ta : TE) : TE := fun σ H Q => ta σ H fun x H1 => r x H1 Q
def rI (C : Int → Int → Prop) (g : Int → Int → V) : R2 := fun x y H Q => ∃ i j, x = .int i ∧ y = .int j ∧ C i j ∧ Q (g i j) H
def rI0 (g : Int → Int → V) : R2 := fun x y H Q => ∃ i j, x = .int i ∧ y = .int j ∧ Q (g i j) H
def rU (g : Int → V) : V → Hp → VK → Prop := fun x H Q => ∃ i, x = .int i ∧ Q (g i) H

section
variable {X : Cx} {a b c : Expr} {ta tb tc : TE} {pos : Pos}

theorem binT (ha : PE X a ta) (hb : PE X b tb) {pins : List (Addr × Obj)} {s : Shared} {σ : St} {H : Hp} {R : V → V → Hp → Prop} (I : Inv X pins σ H s)
    (h : ta σ H fun x H1 => tb σ H1 fun y H2 => R x y H2) {Q : Value → Shared → Prop} {f : Value → Value → Sem Value}
    (hf : ∀ v u s2 x y H2, Inv X pins σ H2 s2 → RelV x v → RelV y u → R x y H2 → wpAny (model X.prog X.w) X.A (f v u) Q X.xe s2) :
    wpAny (model X.prog X.w) X.A (eval a X.env) (fun v s₁ => wpAny (model X.prog X.w) X.A (eval b X.env) (fun u s₂ => wpAny (model X.prog X.w) X.A (f v u) Q X.xe s₂) X.xe s₁) X.xe s := by
  refine thn (ha pins s σ H _ I h) fun v s1 ⟨x, H1, I1, r1, q1⟩ => ?_
  refine thn (hb pins s1 σ H1 _ I1 q1) fun u s2 ⟨y, H2, I2, r2, q2⟩ => ?_
  exact hf v u s2 x y H2 I2 r1 r2 q2

theorem pe_op {op : Operator} {r : R2} (ho : OpR X (binaryOp op) r) (ha : PE X a ta) (hb : PE X b tb) : PE X (.BinOp a op b pos) (tOp r ta tb) := by
  intro pins s σ H Q I h
  exact wpAny_BinOp (binT ha hb I h fun v u s2 x y H2 I2 rx ry q => ho pins s2 σ H2 x y v u Q I2 rx ry q)
/-! ### ints -/
theorem opI {f : Value → Value → Sem Value} {C : Int → Int → Prop} {g : Int → Int → Int}
    (rule : ∀ (i j : Int) (t u : Tok) (s : Shared) (Q : Value → Shared → Prop) (E : Value → Shared → Prop), C i j → Q (.int (g i j) s.toks) { s with toks := s.toks + 1 } → wpAny (model X.prog X.w) X.A (f (.int i t) (.int j u)) Q E s) :
    OpR X f (rI C fun i j => .int (g i j)) := by
  intro pins s σ H x y v u Q I rx ry h
  obtain ⟨i, j, rfl, rfl, hc, q⟩ := h
  obtain ⟨t, rfl⟩ := rx
  obtain ⟨t', rfl⟩ := ry
  exact rule i j t t' s _ _ hc ⟨.int (g i j), H, I.tok _, ⟨_, rfl⟩, q⟩
theorem opI0 {f : Value → Value → Sem Value} {g : Int → Int → Int}
    (rule : ∀ (i j : Int) (t u : Tok) (s : Shared) (Q : Value → Shared → Prop) (E : Value → Shared → Prop), Q (.int (g i j) s.toks) { s with toks := s.toks + 1 } → wpAny (model X.prog X.w) X.A (f (.int i t) (.int j u)) Q E s) :
    OpR X f (rI0 fun i j => .int (g i j)) := by
  intro pins s σ H x y v u Q I rx ry h
  obtain ⟨i, j, rfl, rfl, q⟩ := h
  obtain ⟨t, rfl⟩ := rx
  obtain ⟨t', rfl⟩ := ry
  exact rule i j t t' s _ _ ⟨.int (g i j), H, I.tok _, ⟨_, rfl⟩, q⟩
theorem opB0 {f : Value → Value → Sem Value} {g : Int → Int → Bool}
    (rule : ∀ (i j : Int) (t u : Tok) (s : Shared) (Q : Value → Shared → Prop) (E : Value → Shared → Prop), Q (.bool (g i j)) s → wpAny (model X.prog X.w) X.A (f (.int i t) (.int j u)) Q E s) :
    OpR X f (rI0 fun i j => .bl (g i j)) := by
  intro pins s σ H x y v u Q I rx ry h
  obtain ⟨i, j, rfl, rfl, q⟩ := h
  obtain ⟨t, rfl⟩ := rx
  obtain ⟨t', rfl⟩ := ry
  exact rule i j t t' s _ _ ⟨.bl (g i j), H, I, rfl, q⟩

def CDiv (i j : Int) : Prop := 0 < j ∧ j < 1073741824
def CDivN (i j : Int) : Prop := j ≠ 0 ∧ j.natAbs < 1073741824
def CPow (i j : Int) : Prop := 0 ≤ j ∧ j ≤ 1000000 ∧ i.natAbs < 2 ^ 64
def CMul (i j : Int) : Prop := (-(2 ^ 64) < i ∧ i < 2 ^ 64) ∨ (-(2 ^ 64) < j ∧ j < 2 ^ 64)
theorem CMul.ok {i j : Int} (h : CMul i j) : IntMulOk i j := by
  rcases h with ⟨h1, h2⟩ | ⟨h1, h2⟩
  · exact .of_left (intBits_le_64 h1 h2)
  · exact .of_right (intBits_le_64 h1 h2)
theorem op_add : OpR X (binaryOp .Add) (rI0 fun i j => .int (i + j)) := opI0 fun _ _ _ _ _ _ _ q => add_int q
theorem op_sub : OpR X (binaryOp .Sub) (rI0 fun i j => .int (i - j)) := opI0 fun _ _ _ _ _ _ _ q => sub_int q
theorem op_mul : OpR X (binaryOp .Mult) (rI CMul fun i j => .int (i * j)) := opI fun _ _ _ _ _ _ _ hc q => mul_int q hc.ok
/-! ### bools among ints: n += (a < b) -/
end

/-! ### comparisons -/
def scal : V → V → Bool
  | .non, .non => true | .non, .int _ => true | .int _, .non => true | .non, .bl _ => true | .bl _, .non => true | .non, .str _ => true | .str _, .non => true
  | .int _, .int _ => true | .bl _, .bl _ => true | .str _, .str _ => true | .byt _, .byt _ => true
  | .int _, .str _ => true | .str _, .int _ => true | .bl _, .str _ => true | .str _, .bl _ => true
  | _, _ => false
def rEq : R2 := fun x y H Q => scal x y = true ∧ Q (.bl (decide (x = y))) H
def rNe : R2 := fun x y H Q => scal x y = true ∧ Q (.bl (!decide (x = y))) H

section
variable {X : Cx} {a b c : Expr} {ta tb tc : TE} {pos : Pos}
theorem op_gt : OpR X (compareOp .Gt) (rI0 fun i j => .bl (decide (j < i))) := opB0 fun _ _ _ _ _ _ _ q => gt_int q
def isObj : HO → Bool
  | .lst _ => true
  | .ins _ _ _ => true
  | _ => false
theorem OpR.or {f : Value → Value → Sem Value} {r r' : R2} (h : OpR X f r) (h' : OpR X f r') : OpR X f (fun x y H Q => r x y H Q ∨ r' x y H Q) := by
  intro pins s σ H x y v u Q I rx ry q
  rcases q with q | q
  · exact h pins s σ H x y v u Q I rx ry q
  · exact h' pins s σ H x y v u Q I rx ry q

theorem nomark (b : Expr) {op : CmpOp} (h : op ≠ .In := by decide) (h2 : op ≠ .NotIn := by decide) : behindInMarks op b = false := by
  have e1 : (op == CmpOp.In) = false := by cases op <;> first | rfl | exact absurd rfl h
  have e2 : (op == CmpOp.NotIn) = false := by cases op <;> first | rfl | exact absurd rfl h2
  cases b <;> simp [behindInMarks, e1, e2]
theorem pe_cmpR {op : CmpOp} {r : R2} (ho : OpR X (compareOp op) r) (ha : PE X a ta) (hb : PE X b tb) (hm : behindInMarks op b = false) : PE X (.Compare a [op] [b] pos) (tOp r ta tb) := by
  intro pins s σ H Q I h
  exact wpAny_Compare1 (binT ha hb I h fun v u s2 x y H2 I2 rx ry q => ho pins s2 σ H2 x y v u Q I2 rx ry q) hm
def tTest (t : TE) : TT := fun σ H Q => t σ H fun x H' => ∃ k, x = .bl k ∧ Q k H'
theorem pt_cmpR {op : CmpOp} {r : R2} (ho : OpR X (compareOp op) r) (ha : PE X a ta) (hb : PE X b tb) (hm : behindInMarks op b = false) : PT X (.Compare a [op] [b] pos) (tTest (tOp r ta tb)) := by
  intro pins s σ H Q I h
  refine wpAny_isTrue_Compare1 (thn (ha pins s σ H _ I h) fun v s1 ⟨x, H1, I1, r1, q1⟩ => thn (hb pins s1 σ H1 _ I1 q1) fun u s2 ⟨y, H2, I2, r2, q2⟩ =>
    thn (ho pins s2 σ H2 x y v u _ I2 r1 r2 q2) fun c s3 ⟨z, H3, I3, r3, k, e, q3⟩ => ?_) hm
  subst e
  cases r3
  exact wpAny_truthy_bool ⟨H3, I3, q3⟩
def tChain (r r' : R2) (ta tb tc : TE) : TE := fun σ H Q => ta σ H fun x H1 => tb σ H1 fun y H2 => r x y H2 fun z H3 => ∃ k, z = .bl k ∧
  (if k = true then tc σ H3 fun w' H4 => r' y w' H4 Q else Q (.bl false) H3)
/-! ### truth -/
def TruV (K : PySem.W.Frag) (x : V) (H : Hp) (k : Bool) : Prop :=
  match x with
  | .non => k = false
  | .bl b => k = b
  | .int i => k = (i != 0)
  | .str y => y.length ≤ sizeLine ∧ k = ((y.length : Int) != 0)
  | .byt y => y.size ≤ sizeLine ∧ k = ((y.size : Int) != 0)
  | .ref p => (∃ xs, SqL K H p xs ∧ k = !xs.isEmpty) ∨ (∃ xs, SqT K H p xs ∧ k = !xs.isEmpty) ∨ ∃ kvs, H p = some (.dK kvs) ∧ k = !kvs.isEmpty
  | _ => False
theorem line63 : (sizeLine : Nat) < 2 ^ 63 := by rw [sizeLine_eq]; decide
/-! ### strs and bytes -/
def PlainIxT (b : Expr) : Prop := ∀ o i, subscripted b false o i = operate [o, i] (getItem o i)
/-! ### scalar builtins, by CallR -/
theorem vals1 {x : V} {us : List Value} (r : Vals [x] us) : ∃ u, us = [u] ∧ RelV x u := by
  cases r with
  | cons r1 r2 => cases r2; exact ⟨_, rfl, r1⟩
theorem vals2 {x y : V} {us : List Value} (r : Vals [x, y] us) : ∃ u w', us = [u, w'] ∧ RelV x u ∧ RelV y w' := by
  cases r with
  | cons r1 r2 =>
    cases r2 with
    | cons r3 r4 => cases r4; exact ⟨_, _, rfl, r1, r3⟩
theorem call_max2 (hc : X.calm = true) : CallR X (.builtin "max") (fun xs H Q => ∃ i j, xs = [.int i, .int j] ∧ Q (.int (if j > i then j else i)) H) := by
  intro pins s σ H xs us Q I r h
  obtain ⟨i, j, rfl, q⟩ := h
  obtain ⟨u, w', rfl, ⟨t, rfl⟩, ⟨t', rfl⟩⟩ := vals2 r
  refine max_two_ints (I.ok.hd hc) fun h' tk k => ⟨_, H, I.kept k, ?_, q⟩
  by_cases hj : j > i
  · rw [if_pos hj, if_pos hj]; exact ⟨_, rfl⟩
  · rw [if_neg hj, if_neg hj]; exact ⟨_, rfl⟩
theorem call_min2 (hc : X.calm = true) : CallR X (.builtin "min") (fun xs H Q => ∃ i j, xs = [.int i, .int j] ∧ Q (.int (if j < i then j else i)) H) := by
  intro pins s σ H xs us Q I r h
  obtain ⟨i, j, rfl, q⟩ := h
  obtain ⟨u, w', rfl, ⟨t, rfl⟩, ⟨t', rfl⟩⟩ := vals2 r
  refine min_two_ints (I.ok.hd hc) fun h' tk k => ⟨_, H, I.kept k, ?_, q⟩
  by_cases hj : j < i
  · rw [if_pos hj, if_pos hj]; exact ⟨_, rfl⟩
  · rw [if_neg hj, if_neg hj]; exact ⟨_, rfl⟩
def LenV (K : PySem.W.Frag) (x : V) (H : Hp) (n : Nat) : Prop :=
  match x with
  | .str y => y.length ≤ sizeLine ∧ n = y.length
  | .byt y => y.size ≤ sizeLine ∧ n = y.size
  | .ref p => (∃ xs, SqL K H p xs ∧ n = xs.length) ∨ ∃ xs, SqT K H p xs ∧ n = xs.length
  | _ => False
end
end L2

namespace L2
open PySem PySem.Spec PyProof.Rows

/-! ### an instance, its attributes a map -/
structure ObjM (h : Heap) (x dx C : Addr) (mA : Str → Option Value) : Prop where
  obj : h.get? x = some (PySem.W.instObj C dx)
  ns : h.Ns1 dx mA
  ne : dx ≠ x

theorem lookIn_ns {h : Heap} {dx : Addr} {mA : Str → Option Value} (n : h.Ns1 dx mA) : ∃ od, h.get? dx = some od ∧ ∀ name, PySem.W.lookIn name od = some (mA name) := by
  obtain ⟨o, es, ep, ho, hd, hk, _, hm⟩ := n
  refine ⟨o, ho, fun name => ?_⟩
  have e := hm name
  unfold nsFind findBy at e
  rw [← Array.find?_toList] at e
  unfold PySem.W.lookIn
  rw [hd]
  dsimp only
  split
  · rename_i y q
    rw [q] at e
    exact congrArg some e
  · rename_i q
    rw [q] at e
    have a : es.toList.any (·.refKey) = false := by
      rw [List.any_eq_false]
      intro y hy
      obtain ⟨z, t, hkey⟩ := hk y (Array.mem_toList_iff.mp hy)
      simp [DictEntry.refKey, hkey]
    have a' : ¬ es.toList.any (·.refKey) = true := by rw [a]; exact Bool.false_ne_true
    rw [if_neg a']
    exact congrArg some e

theorem ObjM.look {h : Heap} {x dx C : Addr} {mA : Str → Option Value} (I : ObjM h x dx C mA) : ∃ od, PySem.W.InstAt h x (PySem.W.instObj C dx) C (some od) ∧ ∀ name, PySem.W.lookIn name od = some (mA name) :=
  let ⟨od, ho, hl⟩ := lookIn_ns I.ns
  ⟨od, ⟨I.obj, rfl, rfl, ho⟩, hl⟩

section
variable {prog : Program} {w : World} {A : Around} {E : Value → Shared → Prop} {s : Shared} {K : PySem.W.Frag} {x dx C f : Addr} {mA : Str → Option Value} {name : Str} {v : Value}

end

/-! ### the attributes as a list of pairs -/
def putF (f : Str) (v : V) : List (Str × V) → List (Str × V)
  | [] => [(f, v)]
  | (g, x) :: r => if g = f then (g, v) :: r else (g, x) :: putF f v r
section
variable {P : Program} {w : World} {H H' : Hp} {h h' : Heap} {a C dx : Addr} {fs fs' : List (Str × V)}
end

/-! ### what of the text a class must have -/
structure Cls (K : PySem.W.Frag) (C : Addr) : Prop where
  pg : PySem.W.plainGet K C Str.empty = true
  hd : PySem.W.hasDictIn K C = true
  po : PySem.W.plainOver K C = true
  sa : PySem.W.findIn K (.ref C) "__setattr__" = some (some (.builtin "object.__setattr__"))
theorem Cls.get {K : PySem.W.Frag} {C : Addr} (c : Cls K C) (f : Str) : PySem.W.plainGet K C f = true := c.pg
def NoAttr (K : PySem.W.Frag) (C : Addr) (f : Str) : Prop := PySem.W.findIn K (.ref C) f = some none
structure Con (K : PySem.W.Frag) (C : Addr) (f : Str) (v : V) (u : Value) : Prop where
  at_ : PySem.W.findIn K (.ref C) f = some (some u)
  rel : RelV v u
  get : PySem.W.specialIn K u "__get__" = some none
  cp : PySem.W.copiedNames.contains f = false
structure Meth (K : PySem.W.Frag) (C : Addr) (m : Str) (f : Addr) : Prop where
  at_ : PySem.W.findIn K (.ref C) m = some (some (.ref f))
  fn : PySem.W.isFn K (.ref f) = true
  kp : PySem.W.keepIn K (.ref f) = true

section
variable {X : Cx} {pins : List (Addr × Obj)} {σ : St} {H : Hp} {s : Shared} {a C dx : Addr} {fs : List (Str × V)} {f : Str} {v : V} {A : Around} {E : Value → Shared → Prop}

theorem Inv.made (I : Inv X pins σ H s) : Inv X pins σ (upd (upd H s.heap.objs.size (.own (s.heap.objs.size + 1))) (s.heap.objs.size + 1) (.ins C s.heap.objs.size []))
    { s with heap := (s.heap.push PySem.W.emptyDict).push (PySem.W.instObj C s.heap.objs.size) } := by
  have e1 : (s.heap.push PySem.W.emptyDict).get? s.heap.objs.size = some PySem.W.emptyDict := Heap.get?_push_size s.heap rfl
  have e2 : ((s.heap.push PySem.W.emptyDict).push (PySem.W.instObj C s.heap.objs.size)).get? (s.heap.objs.size + 1) = some (PySem.W.instObj C s.heap.objs.size) := by
    have := Heap.get?_push_size (s.heap.push PySem.W.emptyDict) (o := PySem.W.instObj C s.heap.objs.size) rfl
    rwa [Heap.size_push] at this
  have e3 : (s.heap.push PySem.W.emptyDict).Ns s.heap.objs.size (fun _ => none) := ⟨PySem.W.emptyDict, #[], _, e1, rfl, (fun e he => absurd he (by simp)), fun _ => rfl⟩
  have I1 := I.laid (a := s.heap.objs.size) (o := .own (s.heap.objs.size + 1)) (h' := s.heap.push PySem.W.emptyDict) (t' := s.toks) (fun b u q => Heap.get?_push_of_some _ q) (Nat.le_refl _) ⟨_, e1⟩
  refine I1.laid (a := s.heap.objs.size + 1) (o := .ins C s.heap.objs.size []) (t' := s.toks) (fun b u q => Heap.get?_push_of_some _ q) (Nat.le_of_eq (Heap.size_push _ _)) ?_
  have ne : s.heap.objs.size ≠ s.heap.objs.size + 1 := Nat.ne_of_lt (Nat.lt_succ_self _)
  refine ⟨by rw [upd_ne ne, upd_same], Nat.zero_le _, ne, e2, fun _ => none, (Heap.Ns1.of_empty e3).at fun o q => Heap.get?_push_of_some _ q, fun _ => True.intro, fun y hy => absurd rfl hy⟩

end

/-! ### readings and rules -/
def tFld (K : PySem.W.Frag) (ta : TE) (f : Str) : TE := fun σ H Q => ta σ H fun x H1 => ∃ a C dx fs v, x = .ref a ∧ H1 a = some (.ins C dx fs) ∧ Cls K C ∧ NoAttr K C f ∧ fs.lookup f = some v ∧ Q v H1
def tCon (K : PySem.W.Frag) (ta : TE) (f : Str) : TE := fun σ H Q => ta σ H fun x H1 => ∃ a C dx fs v u, x = .ref a ∧ H1 a = some (.ins C dx fs) ∧ Cls K C ∧ Con K C f v u ∧ fs.lookup f = none ∧ Q v H1
def sFld (K : PySem.W.Frag) (ta tv : TE) (f : Str) : TS := fun D σ H => tv σ H fun y H1 => ta σ H1 fun x H2 => ∃ a C dx fs, x = .ref a ∧ H2 a = some (.ins C dx fs) ∧ Cls K C ∧ NoAttr K C f ∧ fs.length < 1000 ∧
  D.nx σ (upd H2 a (.ins C dx (putF f y fs)))
def InOp (X : Cx) (op : Operator) (rd : V → V → Hp → VK → Prop) : Prop :=
  ∀ (pins : List (Addr × Obj)) (s : Shared) (σ : St) (H : Hp) (x y : V) (u v : Value) (Q : VK), Inv X pins σ H s → RelV x u → RelV y v → rd x y H Q → wpAny (model X.prog X.w) X.A (inplaceOp op u v) (EP X pins σ Q) X.xe s
def sFldAug (K : PySem.W.Frag) (ta tv : TE) (rd : V → V → Hp → VK → Prop) (f : Str) : TS := fun D σ H => ta σ H fun x H1 => ∃ a C dx fs v, x = .ref a ∧ H1 a = some (.ins C dx fs) ∧ Cls K C ∧ NoAttr K C f ∧ fs.lookup f = some v ∧
  tv σ H1 fun y H2 => rd v y H2 fun z H3 => ∃ dx' fs', H3 a = some (.ins C dx' fs') ∧ fs'.length < 1000 ∧ D.nx σ (upd H3 a (.ins C dx' (putF f z fs')))

section
variable {X : Cx} {o e value : Expr} {f : Str} {pos pos' tpos : Pos} {ta tv : TE}
def rAdd : V → V → Hp → VK → Prop := fun x y H Q => ∃ i j, x = .int i ∧ y = .int j ∧ Q (.int (i + j)) H
def rSub : V → V → Hp → VK → Prop := fun x y H Q => ∃ i j, x = .int i ∧ y = .int j ∧ Q (.int (i - j)) H
end

/-! ### isinstance -/
section
variable {X : Cx} {pins : List (Addr × Obj)} {σ : St} {H : Hp} {s : Shared} {A : Around} {E : Value → Shared → Prop} {Q : Value → Shared → Prop} {c : Value} {b : Bool}
inductive TyOf (K : PySem.W.Frag) (H : Hp) : V → Value → Prop where
  | non : TyOf K H .non (.type "NoneType")
  | bl (x : Bool) : TyOf K H (.bl x) (.type "bool")
  | int (i : Int) : TyOf K H (.int i) (.type "int")
  | str (x : Str) : TyOf K H (.str x) (.type "str")
  | flt (x : UInt64) : TyOf K H (.flt x) (.type "float")
  | lst {a : Addr} {xs : List V} (e : H a = some (.lst xs)) : TyOf K H (.ref a) (.type "list")
  | frz {a : Addr} {o : Obj} {xs : List V} (e : H a = some (.frz o (.lst xs))) : TyOf K H (.ref a) (.type "list")
  | tup {a : Addr} {xs : List V} (e : H a = some (.tup xs)) : TyOf K H (.ref a) (.type "tuple")
  | dK {a : Addr} {kvs : List (Key × V)} (e : H a = some (.dK kvs)) : TyOf K H (.ref a) (.type "dict")
  | dT {a : Addr} {kvs : List (List Key × V)} (e : H a = some (.dT kvs)) : TyOf K H (.ref a) (.type "dict")
  | ins {a C dx : Addr} {fs : List (Str × V)} (e : H a = some (.ins C dx fs)) (cl : Cls K C) (ha : PySem.W.findIn K (.ref C) "__class__" = some (some (.builtin "object.__class__")))
      (hn : PySem.W.specialIn K (.builtin "object.__class__") "__get__" = some (some (.builtin "getset_descriptor.__get__"))) (htk : PySem.W.takesIn K (.builtin "object.__class__") = some true)
      (hm : PySem.W.mroIn K C (.type "object") = some true) : TyOf K H (.ref a) (.ref C)
end
end L2

namespace L2
open PySem PySem.Spec PyProof.Rows

/-! ### room -/
structure Room (k : Nat) (A : Around) : Prop where
  hd : A.handled = none
  dp : A.depth + 3 * k + 5 < recursionLimit
  un : A.units + 16 * k + 200 < cLine
theorem Room.mono {j k : Nat} {A : Around} (r : Room k A) (h : j ≤ k) : Room j A := ⟨r.hd, by have := r.dp; omega, by have := r.un; omega⟩
theorem Room.deeper {k : Nat} {A : Around} (r : Room (k + 1) A) (env : Env) : Room k (A.deeper env) :=
  ⟨r.hd, by have := r.dp; show A.depth + 1 + 3 * k + 5 < _; omega, by have := r.un; show A.units + 3 + 16 * k + 200 < _; omega⟩
theorem Room.depth {k : Nat} {A : Around} (r : Room k A) : A.depth < recursionLimit := by have := r.dp; omega
theorem Room.units {k : Nat} {A : Around} (r : Room k A) : A.units + 64 < cLine := by have := r.un; omega
/-! ### argument lists and displays -/
def tNil : TA := fun _ H Q => Q [] H
def tCons (ta : TE) (tr : TA) : TA := fun σ H Q => ta σ H fun x H1 => tr σ H1 fun xs H2 => Q (x :: xs) H2
section
variable {X : Cx} {e : Expr} {es : List Expr} {te : TE} {t : TA} {pos : Pos}
theorem pa_nil : PA X [] tNil := fun _ _ _ _ H Q I h => Calls.spliced_nil ⟨[], H, I, .nil, h⟩
theorem pa_cons (ha : PE X e te) (hr : PA X es t) (hs : starEach (e :: es) X.env = (false, eval e X.env) :: starEach es X.env := by rfl) : PA X (e :: es) (tCons te t) := by
  intro pos pins s σ H Q I h
  rw [hs]
  show wpAny _ _ (spliced ((false, eval e X.env) :: backTo pos (starEach es X.env))) _ _ s
  refine Calls.spliced_cons (thn (ha pins s σ H _ I h) fun u s1 ⟨x, H1, I1, r1, q1⟩ => ?_)
  exact thn (hr pos pins s1 σ H1 _ I1 q1) fun us s2 ⟨xs, H2, I2, r2, q2⟩ => ⟨x :: xs, H2, I2, .cons r1 r2, q2⟩

def tTup (t : TA) : TE := fun σ H Q => t σ H fun xs H1 => xs.length ≤ sizeLine ∧ ∀ p, H1 p = none → Q (.ref p) (upd H1 p (.tup xs))
def tLst (t : TA) : TE := fun σ H Q => t σ H fun xs H1 => xs.length ≤ sizeLine ∧ ∀ p, H1 p = none → Q (.ref p) (upd H1 p (.lst xs))
theorem pe_tup {x1} (h : PA X es t) : PE X (.Tuple es x1 pos) (tTup t) := by
  intro pins s σ H Q I hq
  refine wpAny_Tuple_spliced (thn (h pos pins s σ H _ I hq) fun us s1 ⟨xs, H1, I1, r, z, q⟩ => ⟨by rw [← r.length]; exact z, ?_⟩)
  have hf : H1 s1.heap.objs.size = none := I1.hok.fresh (Nat.le_refl _)
  refine ⟨.ref s1.heap.objs.size, upd H1 s1.heap.objs.size (.tup xs), I1.laid (t' := s1.toks) (fun b u e => Heap.get?_push_of_some _ e) (Nat.le_refl _) ?_, rfl, q _ hf⟩
  exact ⟨z, us, r, ⟨_, Heap.get?_push_size _ rfl, rfl, _, rfl⟩⟩
theorem pe_lst (h : PA X es t) : PE X (.List es pos) (tLst t) := by
  intro pins s σ H Q I hq
  refine wpAny_List_spliced (thn (h pos pins s σ H _ I hq) fun us s1 ⟨xs, H1, I1, r, z, q⟩ => ⟨by rw [← r.length]; exact z, ?_⟩)
  have hf : H1 s1.heap.objs.size = none := I1.hok.fresh (Nat.le_refl _)
  refine ⟨.ref s1.heap.objs.size, upd H1 s1.heap.objs.size (.lst xs), I1.laid (t' := s1.toks) (fun b u e => Heap.get?_push_of_some _ e) (Nat.le_refl _) ?_, rfl, q _ hf⟩
  exact ⟨z, us, 0, r, Heap.get?_push_size _ rfl⟩
end

/-! ### what a def promises -/
abbrev Sp := List V → Hp → VK → XK → Prop
abbrev CXT := List Env → Hp → Shared → XK → Value → Shared → Prop

structure Env0 (P : Program) (w : World) (K : PySem.W.Frag) (mg : Str → Option Value) (base : Heap) (A : Around) (outer : List Env) (s : Shared) (H : Hp) : Prop where
  frames : A.frames = some outer
  mod : Mod K mg base
  bs : ∀ b o, base.get? b = some o → s.heap.get? b = some o ∧ H b = none
  bsz : base.objs.size ≤ s.heap.objs.size
  funs : s.heap.FunFrames base outer
  frf : ∀ b ∈ frs outer, H b = none
  hok : HOk P w H s.heap
  bare : AllBare s.gens
def CE (outer : List Env) (P : Program) (w : World) (H : Hp) (s : Shared) (Q : VK) (u : Value) (s' : Shared) : Prop :=
  ∃ v H', s'.os = s.os ∧ AllBare s'.gens ∧ Un (frs outer) [] H H' s.heap s'.heap ∧ HOk P w H' s'.heap ∧ RelV v u ∧ Q v H'
def CR (CX : CXT) (outer : List Env) (P : Program) (w : World) (H : Hp) (s : Shared) (Q : VK) (E : XK) (r : Result) (s' : Shared) : Prop :=
  match r with
  | .ok (.ret u) => CE outer P w H s Q u s'
  | .ok _ => False
  | .error e => CX outer H s E e s'
structure FnOk (P : Program) (w : World) (K : PySem.W.Frag) (mg : Str → Option Value) (base : Heap) (CX : CXT) (k : Nat) (f : Addr) (fd : FuncData) (ps : List Str) (sp : Sp) : Prop where
  len : ∀ vs H Q E, sp vs H Q E → vs.length = ps.length
  run : ∀ (A : Around) (outer : List Env) (s : Shared) (H : Hp) (args : Args) (us : List Value) (vs : List V) (Q : VK) (E : XK), Room k A → Env0 P w K mg base A outer s H → BindsTo s fd args (ps.zip us) → Vals vs us → sp vs H Q E →
    codeAny (model P w) A (.call (.ref f) args) (CR CX outer P w H s Q E) s
theorem FnOk.mono {P : Program} {w : World} {K : PySem.W.Frag} {mg : Str → Option Value} {base : Heap} {CX : CXT} {j k : Nat} {f : Addr} {fd : FuncData} {ps : List Str} {sp : Sp} (F : FnOk P w K mg base CX j f fd ps sp) (h : j ≤ k) :
    FnOk P w K mg base CX k f fd ps sp := ⟨F.len, fun A outer s H args us vs Q E hr => F.run A outer s H args us vs Q E (hr.mono h)⟩
theorem FnOk.imp {P : Program} {w : World} {K : PySem.W.Frag} {mg : Str → Option Value} {base : Heap} {CX : CXT} {k : Nat} {f : Addr} {fd : FuncData} {ps : List Str} {sp sp' : Sp} (F : FnOk P w K mg base CX k f fd ps sp)
    (h : ∀ vs H Q E, sp' vs H Q E → sp vs H Q E) : FnOk P w K mg base CX k f fd ps sp' :=
  ⟨fun vs H Q E q => F.len vs H Q E (h _ _ _ _ q), fun A outer s H args us vs Q E hr he hb hv hs => F.run A outer s H args us vs Q E hr he hb hv (h _ _ _ _ hs)⟩

section
variable {X : Cx} {pins : List (Addr × Obj)} {σ : St} {H : Hp} {s s' : Shared}
theorem Inv.env0 (I : Inv X pins σ H s) : Env0 X.prog X.w X.K X.mg X.base X.A X.stack s H :=
  ⟨I.ok.frames, I.ok.mod, I.bs, Nat.le_trans I.ok.bsz I.sz, I.stack, I.stkFree, I.hok, I.bare⟩
theorem Inv.after {Q : VK} {u : Value} (I : Inv X pins σ H s) (h : CE X.stack X.prog X.w H s Q u s') : EP X pins σ Q u s' := by
  obtain ⟨v, H', os, bare, un, hok, r, q⟩ := h
  obtain ⟨hh, g, d, t, os'⟩ := s'
  obtain rfl : os' = s.os := os
  exact ⟨v, H', I.call (h' := hh) (g' := g) (d' := d) (t' := t) (ch := []) un hok bare (fun b z => absurd z (by simp)), r, q⟩
end

/-! ### calls -/
def tCall (sp : Sp) (dvs : List V) (E : XK) (t : TA) : TE := fun σ H Q => t σ H fun vs H1 => sp (vs ++ dvs) H1 Q E
def tMeth (C : Addr) (m : Str) (sp : Sp) (dvs : List V) (E : XK) (ta : TE) (t : TA) : TE := fun σ H Q => ta σ H fun x H1 => ∃ a dx fs, x = .ref a ∧ H1 a = some (.ins C dx fs) ∧ fs.lookup m = none ∧
  t σ H1 fun vs H2 => sp (x :: (vs ++ dvs)) H2 Q E
def tMake (C : Addr) (sp : Sp) (dvs : List V) (E : XK) (t : TA) : TE := fun σ H Q => t σ H fun vs H1 => ∀ x dx, H1 x = none → H1 dx = none → dx ≠ x →
  sp (.ref x :: (vs ++ dvs)) (upd (upd H1 dx (.own x)) x (.ins C dx [])) (fun v H2 => v = .non ∧ Q (.ref x) H2) E

def Binds (K : PySem.W.Frag) (fd : FuncData) (ps : List Str) (ds : List Value) : Prop :=
  ∀ (s : Shared) (us : List Value), K.In s.heap → (us ++ ds).length = ps.length → BindsTo s fd ⟨us, []⟩ (ps.zip (us ++ ds))
theorem Binds.all {K : PySem.W.Frag} {fd : FuncData} {ps : List Str} (h : ∀ us : List Value, us.length = ps.length → bindArgs fd ⟨us, []⟩ = pure (ps.zip us)) : Binds K fd ps [] := fun s us _ hl => by
  rw [List.append_nil] at hl ⊢
  exact .of_eq (h us hl)

def Passes (CX : CXT) (X : Cx) (E : XK) : Prop := ∀ (pins : List (Addr × Obj)) (σ : St) (H : Hp) (s : Shared) (e : Value) (s' : Shared), Inv X pins σ H s → CX X.stack H s E e s' → X.xe e s'

section
variable {X : Cx} {CX : CXT} {k : Nat} {f C : Addr} {fd : FuncData} {ps : List Str} {sp : Sp} {dvs : List V} {ds : List Value} {E : XK} {x m : Str} {p pos apos : Pos} {e o : Expr} {es : List Expr} {ta : TE} {t : TA}

theorem run_fn {pins : List (Addr × Obj)} {σ : St} {H : Hp} {s : Shared} {Q : VK} {us : List Value} {vs : List V} (F : FnOk X.prog X.w X.K X.mg X.base CX k f fd ps sp) (hr : Room k X.A) (hb : Binds X.K fd ps ds) (hd : Vals dvs ds) (hx : Passes CX X E)
    (I : Inv X pins σ H s) (r : Vals vs us) (h : sp (vs ++ dvs) H Q E) : wpAny (model X.prog X.w) X.A (call (.ref f) us) (EP X pins σ Q) X.xe s := by
  have r2 : Vals (vs ++ dvs) (us ++ ds) := r.append hd
  have hl : (us ++ ds).length = ps.length := by rw [← r2.length]; exact F.len _ _ _ _ h
  refine wpAny_call (codeAny_mono (F.run X.A X.stack s H ⟨us, []⟩ (us ++ ds) (vs ++ dvs) Q E hr I.env0 (hb s us I.kIn hl) r2 h) fun r s' hq => ?_)
  cases r with
  | error e => exact hx pins σ H s e s' I hq
  | ok fl =>
    cases fl with
    | ret u => exact I.after hq
    | next => exact False.elim hq
    | brk => exact False.elim hq
    | cont => exact False.elim hq

theorem pe_call (F : FnOk X.prog X.w X.K X.mg X.base CX k f fd ps sp) (hr : Room k X.A) (hg : Gl X x) (hm : X.mg x = some (.ref f)) (hk : PySem.W.keepIn X.K (.ref f) = true) (hb : Binds X.K fd ps ds) (hd : Vals dvs ds) (hx : Passes CX X E)
    (ha : PA X (e :: es) t) (hdb : (x == ("__debug__" : Str)) = false := by decide) (he : starEach (e :: es) X.env = (false, eval e X.env) :: starEach es X.env := by rfl) (hpl : (backTo pos (starEach es X.env)).any (·.1) = false := by rfl) :
    PE X (.Call (.Name x p) (e :: es) [] pos) (tCall sp dvs E t) := by
  intro pins s σ H Q I h
  refine wpAny_Call_Name_kw (ld_glob I hg hm ?_ hdb)
  refine PySem.W.callWith_K (h₀ := X.base) I.ok.mod.kin hk (thn (ha pos pins s σ H _ I h) fun us s1 ⟨vs, H1, I1, r, q⟩ => ⟨I1.kIn, ?_⟩) he hpl
  exact run_fn F hr hb hd hx I1 r q
structure Mk (K : PySem.W.Frag) (C f : Addr) : Prop where
  makes : PySem.W.makesIn K C = true
  init : PySem.W.findIn K (.ref C) "__init__" = some (some (.ref f))
  fn : PySem.W.isFn K (.ref f) = true
  kp : PySem.W.keepIn K (.ref C) = true

end

/-! ### keywords -/
def PK (X : Cx) (kws : List Keyword) (t : TA) : Prop :=
  ∀ (pos : Pos) (pins : List (Addr × Obj)) (s : Shared) (σ : St) (H : Hp) (Q : List V → Hp → Prop), Inv X pins σ H s → t σ H Q → wpAny (model X.prog X.w) X.A (evalAll ((backToKw pos (keywordEach kws X.env)).map (·.2))) (AP X pins σ Q) X.xe s
section
variable {X : Cx} {CX : CXT} {k : Nat} {f C : Addr} {fd : FuncData} {ps ks : List Str} {sp : Sp} {E : XK} {x m : Str} {p pos apos kpos : Pos} {e o : Expr} {es : List Expr} {kws : List Keyword} {te ta : TE} {t tk : TA} {nm : Option Str}
structure KBinds (K : PySem.W.Frag) (fd : FuncData) (ps ks : List Str) (g : List Value → List Value → List Value) (gV : List V → List V → List V) : Prop where
  to : ∀ (s : Shared) (us ws : List Value), K.In s.heap → (g us ws).length = ps.length → BindsTo s fd ⟨us, ks.zip ws⟩ (ps.zip (g us ws))
  rel : ∀ {vs : List V} {us : List Value} {zs : List V} {ws : List Value}, Vals vs us → Vals zs ws → Vals (gV vs zs) (g us ws)
def tCallK (sp : Sp) (gV : List V → List V → List V) (E : XK) (t tk : TA) : TE := fun σ H Q => t σ H fun vs H1 => tk σ H1 fun zs H2 => sp (gV vs zs) H2 Q E
variable {g : List Value → List Value → List Value} {gV : List V → List V → List V}
end

/-! ### a def's body keeps its promise -/
structure FnScope (N P : List Str) (sc : Scope) : Prop where
  kind : sc.kind = .function
  co : sc.isCoroutine = false
  gen : sc.isGenerator = false
  nd : N.Nodup
  pre : N.take P.length = P
  par : ∀ x ∈ P, sc.names.lookup x = some .local ∨ sc.names.lookup x = some .cell
  nofree : ∀ y ∈ sc.names, y.2 ≠ .free

theorem bindL_out {kindOf : Str → Option NameKind} {x : Str} : ∀ {binds : List (Str × Value)} {m : Str → Option Value}, (∀ v, (x, v) ∉ binds) → bindL kindOf binds m x = m x
  | [], _, _ => rfl
  | (n, v) :: r, m, h => by
    unfold bindL
    rw [bindL_out fun w hw => h w (List.mem_cons_of_mem _ hw)]
    split
    · have : x ≠ n := by rintro rfl; exact h v List.mem_cons_self
      simp [this]
    · rfl
theorem bindC_out {kindOf : Str → Option NameKind} {x : Str} : ∀ {binds : List (Str × Value)} {m : Str → Option Value}, (∀ v, (x, v) ∉ binds) → bindC kindOf binds m x = m x
  | [], _, _ => rfl
  | (n, v) :: r, m, h => by
    unfold bindC
    rw [bindC_out fun w hw => h w (List.mem_cons_of_mem _ hw)]
    split
    · rfl
    · have : x ≠ n := by rintro rfl; exact h v List.mem_cons_self
      simp [this]
theorem bindL_get {kindOf : Str → Option NameKind} {x : Str} {v : Value} : ∀ {P : List Str} {vs : List Value} {i : Nat} {m : Str → Option Value}, P.Nodup → P[i]? = some x → vs[i]? = some v → kindOf x = some .local →
    bindL kindOf (P.zip vs) m x = some v
  | [], _, _, _, _, h, _, _ => by simp at h
  | _ :: _, [], _, _, _, _, h, _ => by simp at h
  | p :: P, w :: vs, 0, m, nd, h1, h2, hk => by
    simp at h1 h2; subst h1; subst h2
    show bindL kindOf ((p, w) :: P.zip vs) m p = _
    unfold bindL
    rw [bindL_out fun v hv => (List.nodup_cons.mp nd).1 (List.of_mem_zip hv).1, if_pos hk]
    simp
  | p :: P, w :: vs, i + 1, m, nd, h1, h2, hk => by
    show bindL kindOf ((p, w) :: P.zip vs) m x = _
    unfold bindL
    exact bindL_get (i := i) (List.nodup_cons.mp nd).2 (by simpa using h1) (by simpa using h2) hk
theorem bindC_get {kindOf : Str → Option NameKind} {x : Str} {v : Value} : ∀ {P : List Str} {vs : List Value} {i : Nat} {m : Str → Option Value}, P.Nodup → P[i]? = some x → vs[i]? = some v → kindOf x ≠ some .local →
    bindC kindOf (P.zip vs) m x = some v
  | [], _, _, _, _, h, _, _ => by simp at h
  | _ :: _, [], _, _, _, _, h, _ => by simp at h
  | p :: P, w :: vs, 0, m, nd, h1, h2, hk => by
    simp at h1 h2; subst h1; subst h2
    show bindC kindOf ((p, w) :: P.zip vs) m p = _
    unfold bindC
    rw [bindC_out fun v hv => (List.nodup_cons.mp nd).1 (List.of_mem_zip hv).1, if_neg hk]
    simp
  | p :: P, w :: vs, i + 1, m, nd, h1, h2, hk => by
    show bindC kindOf ((p, w) :: P.zip vs) m x = _
    unfold bindC
    exact bindC_get (i := i) (List.nodup_cons.mp nd).2 (by simpa using h1) (by simpa using h2) hk

def start (N : List Str) (vs : List V) : St := vs.map some ++ List.replicate (N.length - vs.length) none

def cxOf (CX : CXT) (P : Program) (w : World) (K : PySem.W.Frag) (mg : Str → Option Value) (base : Heap) (N : List Str) (qual : Str) (scope : Scope) (f : Addr) (cd : Value) (A : Around) (outer : List Env) (s : Shared) (H : Hp) (E : XK) : Cx where
  prog := P
  w := w
  K := K
  mg := mg
  base := base
  A := A.deeper (envOfC qual scope s.heap.objs.size f cd)
  N := N
  s_0 := s
  H_0 := H
  env := envOfC qual scope s.heap.objs.size f cd
  outer := outer
  stack := envOfC qual scope s.heap.objs.size f cd :: outer
  ex := []
  calm := true
  fn := fun _ => true
  pn := []
  xe := fun e s' => wpAny (model P w) (A.deeper (envOfC qual scope s.heap.objs.size f cd)) (leaving (envOfC qual scope s.heap.objs.size f cd) e) (fun _ s'' => CX outer H s E e s'') (fun e' s'' => CX outer H s E e' s'') s'

theorem cell_has {sc : Scope} {n : Nat} {x : Str} (h : sc.names.lookup x = some .cell) : ∃ c, (cellsFrom n sc.names []).lookup x = some c := by
  have q := PySem.W.cellsFrom_some sc.names n [] (.inl h)
  exact Option.isSome_iff_exists.mp q

theorem inv_start {CX : CXT} {P : Program} {w : World} {K : PySem.W.Frag} {mg : Str → Option Value} {base : Heap} {N ps : List Str} {qual : Str} {scope : Scope} {f : Addr} {cd : Value} {A : Around} {outer : List Env} {s s1 : Shared} {H : Hp} {E : XK} {us : List Value} {vs : List V}
    (S : FnScope N ps scope) (hd : A.handled = none) (e0 : Env0 P w K mg base A outer s H) (hl : vs.length = ps.length) (r : Vals vs us)
    (x : InCallC s s.heap.objs.size (bindL (envOfC qual scope s.heap.objs.size f cd).kindOf (ps.zip us) fun _ => none) (cellsFrom (s.heap.objs.size + 1) scope.names []) (bindC (envOfC qual scope s.heap.objs.size f cd).kindOf (ps.zip us) fun _ => none) s1) :
    Inv (cxOf CX P w K mg base N qual scope f cd A outer s H E) [] (start N vs) H s1 := by
  have hpl : ps.length ≤ N.length := by have := congrArg List.length S.pre; rw [List.length_take] at this; omega
  obtain ⟨h1, tk, rfl, hk⟩ := x.done
  have noA : ∀ b : Addr, b ∉ (cxOf CX P w K mg base N qual scope f cd A outer s H E).ex := fun b z => absurd (show b ∈ ([] : List Addr) from z) (by simp)
  refine ⟨⟨e0.mod, S.kind, rfl, rfl, Nat.le_refl _, fun y z c h1 h2 => ?_, fun y hy => ?_, fun y c _ h => ?_, fun _ => hd, Around.frames_deeper e0.frames, .inr ⟨rfl, rfl⟩, fun b z => absurd z (noA b), e0.bs, e0.bsz, fun b _ _ => noA b, fun b z => absurd z (noA b), e0.funs, e0.frf⟩,
    rfl, e0.bare, Un.kept hk, ⟨_, x.toInCall.ns, fun i y v h1 h2 h3 => ?_⟩, fun y c h => ⟨_, x.cell y c h⟩, e0.hok.fresh (Nat.le_refl _), fun y c h => ?_, fun p hp => absurd (show p ∈ ([] : List (Addr × Obj)) from hp) (by simp), e0.hok.kept hk, ?_⟩
  · exact name_of_addr x.apart (PySem.mem_of_lookup h1) (PySem.mem_of_lookup h2)
  · have hy : scope.names.lookup y = some .cell ∨ scope.names.lookup y = some .free := hy
    rcases hy with hy | hy
    · exact cell_has hy
    · exact absurd rfl (S.nofree _ (PySem.mem_of_lookup hy))
  · exact Nat.le_of_lt (x.above y c (PySem.mem_of_lookup h))
  · have hi : i < vs.length := by
      unfold start at h2
      by_cases hi : i < vs.length
      · exact hi
      · rw [List.getElem?_append_right (by simpa using hi)] at h2
        rw [List.getElem?_replicate] at h2
        split at h2 <;> cases h2
    have ha : vs[i]? = some v := by
      unfold start at h2
      rw [List.getElem?_append_left (by simpa using hi), List.getElem?_map] at h2
      cases e : vs[i]? with
      | none => rw [e] at h2; cases h2
      | some a => rw [e] at h2; cases h2; rfl
    obtain ⟨u, hu, rv⟩ := r.get ha
    have hp : ps[i]? = some y := by
      rw [← S.pre, List.getElem?_take_of_lt (by omega)]; exact h1
    have ndP : ps.Nodup := by rw [← S.pre]; exact S.nd.sublist (List.take_sublist _ _)
    refine ⟨u, rv, ?_⟩
    rcases S.par y (List.mem_of_getElem? hp) with k | k
    · exact .inl ⟨k, bindL_get ndP hp hu k⟩
    · obtain ⟨c, e⟩ := cell_has (n := s.heap.objs.size + 1) k
      refine .inr ⟨.inl k, c, e, ?_⟩
      have q := x.cell y c e
      rw [bindC_get ndP hp hu (by show scope.names.lookup y ≠ _; rw [k]; decide)] at q
      exact q
  · exact e0.hok.fresh (Nat.le_of_lt (x.above y c (PySem.mem_of_lookup h)))
  · unfold start
    show _ = N.length
    rw [List.length_append, List.length_map, List.length_replicate]
    omega

theorem fn_of {CX : CXT} {P : Program} {w : World} {K : PySem.W.Frag} {mg : Str → Option Value} {base : Heap} {k : Nat} {f : Addr} {name qual : Str} {params : Arguments} {body : List Stmt} {scope : Scope} {dV kV doc pm cdv ct oc : Value} {an od : Option Addr}
    {osl : Array (Option Value)} {N ps : List Str} {sp : Sp} (lk : K.lookup f = some ⟨oc, od, .func (PySem.W.fnOf name qual params body scope dV kV doc pm an cdv ct), osl⟩) (hcd : PySem.W.codeIn K cdv qual = true) (S : FnScope N ps scope)
    (len : ∀ vs H Q E, sp vs H Q E → vs.length = ps.length)
    (hbody : ∀ (A : Around) (outer : List Env) (s : Shared) (H : Hp) (vs : List V) (Q : VK) (E : XK), Room k (A.deeper (envOfC qual scope s.heap.objs.size f cdv)) → sp vs H Q E →
      ∃ t, PSs (cxOf CX P w K mg base N qual scope f cdv A outer s H E) body t ∧ t { nx := fun _ H' => Q .non H', rt := Q } (start N vs) H) :
    FnOk P w K mg base CX (k + 1) f (PySem.W.fnOf name qual params body scope dV kV doc pm an cdv ct) ps sp := by
  refine ⟨len, fun A outer s H args us vs Q E hr e0 hb r hsp => ?_⟩
  have hl := len _ _ _ _ hsp
  have KX : K.In s.heap := e0.mod.kin.keeps fun b o e => (e0.bs b o e).1
  have lim : s.heap.NoLimit := e0.mod.nolimit.keeps fun b o e => (e0.bs b o e).1
  have hkind : ∀ y ∈ ps.zip us, scope.names.lookup y.1 = some .local ∨ (scope.names.lookup y.1 = some .cell ∧ ((cellsFrom (s.heap.objs.size + 1) scope.names []).lookup y.1).isSome = true) := fun ⟨n, v⟩ hy => by
    rcases S.par n (List.of_mem_zip hy).1 with q | q
    · exact .inl q
    · exact .inr ⟨q, PySem.W.cellsFrom_some _ _ _ (.inl q)⟩
  refine codeAny_call_function hr.depth (KX _ _ lk) rfl S.co S.gen rfl (PySem.W.codeRec_of KX hcd) (hb _ _ _ _ ?_)
  refine wpAny_newFunctionEnv_cells S.kind hkind fun env he s1 x => ?_
  subst he
  refine ⟨lim.keeps x.toInCall.keep, codeAny_func ?_⟩
  obtain ⟨t, ht, hq⟩ := hbody A outer s H vs Q E (hr.deeper _) hsp
  have I : Inv (cxOf CX P w K mg base N qual scope f cdv A outer s H E) [] (start N vs) H s1 := inv_start S hr.hd e0 hl r x
  refine wpAny_mono (ht [] s1 (start N vs) H _ I hq) (fun fl s' hs => ?_) fun e s' hs => hs
  have fin : ∀ {σ' : St} {H' : Hp} {v : V} {u : Value}, Inv (cxOf CX P w K mg base N qual scope f cdv A outer s H E) [] σ' H' s' → RelV v u → Q v H' → CE outer P w H s Q u s' :=
    fun {σ' H' v u} J rv q => ⟨v, H', J.os, J.bare, J.base, J.hok, rv, q⟩
  cases fl with
  | ret u =>
    obtain ⟨v, σ', H', J, rv, q⟩ := hs
    exact fin J rv q
  | next =>
    obtain ⟨σ', H', J, q⟩ := hs
    exact fin (v := V.non) (u := Value.none) J rfl q
  | brk =>
    obtain ⟨_, _, _, q⟩ := hs
    exact False.elim q
  | cont =>
    obtain ⟨_, _, _, q⟩ := hs
    exact False.elim q
end L2

namespace L2
open PySem PySem.Spec PyProof.Rows
section
variable {X : Cx} {x : Str} {p pos : Pos} {e : Expr} {es : List Expr} {t : TA} {id T : String} {r : List V → Hp → VK → Prop}

def tCB (r : List V → Hp → VK → Prop) (t : TA) : TE := fun σ H Q => t σ H fun vs H1 => r vs H1 Q
theorem pe_callB (hc : CallR X (.builtin id) r) (hg : Gl X x) (hm : X.mg x = none) (hv : bootBuiltins x = some (.builtin id)) (ha : PA X (e :: es) t) (hn : x ≠ "__name__" := by decide) (hdb : (x == ("__debug__" : Str)) = false := by decide)
    (he : starEach (e :: es) X.env = (false, eval e X.env) :: starEach es X.env := by rfl) (hpl : (backTo pos (starEach es X.env)).any (·.1) = false := by rfl) : PE X (.Call (.Name x p) (e :: es) [] pos) (tCB r t) := by
  intro pins s σ H Q I h
  refine wpAny_Call_Name_kw (ld_blt I hg hm hv ?_ hn hdb)
  exact PyProof.Rows.callWith_builtin1 (thn (ha pos pins s σ H _ I h) fun us s1 ⟨vs, H1, I1, r1, q1⟩ => hc pins s1 σ H1 vs us Q I1 r1 q1) he hpl
theorem pe_callTy (hc : CallR X (.type T) r) (hg : Gl X x) (hm : X.mg x = none) (hv : bootBuiltins x = some (.type T)) (ha : PA X (e :: es) t) (hn : x ≠ "__name__" := by decide) (hdb : (x == ("__debug__" : Str)) = false := by decide)
    (he : starEach (e :: es) X.env = (false, eval e X.env) :: starEach es X.env := by rfl) (hpl : (backTo pos (starEach es X.env)).any (·.1) = false := by rfl) : PE X (.Call (.Name x p) (e :: es) [] pos) (tCB r t) := by
  intro pins s σ H Q I h
  refine wpAny_Call_Name_kw (ld_blt I hg hm hv ?_ hn hdb)
  exact PyProof.Rows.callWith_type1 (thn (ha pos pins s σ H _ I h) fun us s1 ⟨vs, H1, I1, r1, q1⟩ => hc pins s1 σ H1 vs us Q I1 r1 q1) he hpl
end
end L2

namespace HT
open PySem PyProof.Rows

def lexLt : List Int → List Int → Bool
  | [], [] => false
  | [], _ :: _ => true
  | _ :: _, [] => false
  | x :: xs, y :: ys => if x = y then lexLt xs ys else decide (x < y)
section
open PySem.SeqAt
open PySem.AutoSeq1 (wpAny_loadPart')
open PySem.MeetsSeq PySem.MeetsSeq2 PySem.MeetsSeq3

end

section
variable {prog : Program} {w : World} {A : Around} {E : Value → Shared → Prop} {s : Shared}

/-! ### t[a:b], not the whole -/
def sIx (n d : Nat) : Option Int → Nat
  | none => d
  | some v => if v < 0 then (v + (n : Int)).toNat else min v.toNat n
end
end HT

namespace L2
open PySem PySem.Spec PyProof.Rows

/-! ### the parts of a slice -/
abbrev TO := St → Hp → (Option Int → Hp → Prop) → Prop
def PO (X : Cx) (e : Option Expr) (t : TO) : Prop :=
  ∀ (pins : List (Addr × Obj)) (s : Shared) (σ : St) (H : Hp) (Q : Option Int → Hp → Prop), Inv X pins σ H s → t σ H Q →
    wpAny (model X.prog X.w) X.A (evalPart e X.env) (fun u s' => ∃ o H', Inv X pins σ H' s' ∧ IsPart u o ∧ Q o H') X.xe s
def tNoPart : TO := fun _ H Q => Q none H
def tPart (t : TE) : TO := fun σ H Q => t σ H fun x H1 => ∃ i, x = .int i ∧ Q (some i) H1

theorem intsAre_of {ns : List Int} : ∀ {us : List Value}, Vals (ns.map V.int) us → IntsAre us ns := by
  induction ns with
  | nil => intro us r; rw [List.map_nil] at r; cases r; exact .nil
  | cons n ns ih =>
    intro us r
    rw [List.map_cons] at r
    cases r with
    | cons r1 r2 =>
      obtain ⟨t, e⟩ := r1
      subst e
      exact .cons n t (ih r2)

section
variable {X : Cx} {e : Expr} {te : TE} {lo hi : Option Expr} {tl th : TO} {pos p2 : Pos}

theorem po_none : PO X none tNoPart := by
  intro pins s σ H Q I h
  rw [evalPart_none]
  exact wpAny_pure ⟨none, H, I, .none, h⟩
theorem po_some (h : PE X e te) : PO X (some e) (tPart te) := by
  intro pins s σ H Q I hw
  rw [evalPart_some]
  refine thn (h pins s σ H _ I hw) fun u s1 ⟨x, H1, I1, r1, q1⟩ => ?_
  obtain ⟨i, rfl, q⟩ := q1
  obtain ⟨t, rfl⟩ := r1
  exact ⟨some i, H1, I1, .int i t, q⟩

def SlR (X : Cx) (r : V → Option Int → Option Int → Hp → VK → Prop) : Prop :=
  ∀ (pins : List (Addr × Obj)) (s : Shared) (σ : St) (H : Hp) (x : V) (v vl vu : Value) (lo hi : Option Int) (sl : Addr) (Q : VK), Inv X pins σ H s → RelV x v → s.heap.IsSliceOf sl vl vu .none → IsPart vl lo → IsPart vu hi → r x lo hi H Q →
    ∃ T id, typeLookup (.type T) "__getitem__" = pure (some (.builtin id)) ∧ s.TypeIs v T ∧ wpAny (model X.prog X.w) X.A (getItem v (.ref sl)) (EP X pins σ Q) X.xe s
theorem SlR.or {r r' : V → Option Int → Option Int → Hp → VK → Prop} (h : SlR X r) (h' : SlR X r') : SlR X (fun x lo hi H Q => r x lo hi H Q ∨ r' x lo hi H Q) := by
  intro pins s σ H x v vl vu lo hi sl Q I rx hs pl pu q
  rcases q with q | q
  · exact h pins s σ H x v vl vu lo hi sl Q I rx hs pl pu q
  · exact h' pins s σ H x v vl vu lo hi sl Q I rx hs pl pu q
def tSl (r : V → Option Int → Option Int → Hp → VK → Prop) (te : TE) (tl th : TO) : TE := fun σ H Q => te σ H fun x H1 => tl σ H1 fun l H2 => th σ H2 fun u H3 => r x l u H3 Q
theorem pe_slice {r : V → Option Int → Option Int → Hp → VK → Prop} (hr : SlR X r) (he : PE X e te) (hl : PO X lo tl) (hu : PO X hi th) : PE X (.Subscript e (.Slice lo hi none p2) pos) (tSl r te tl th) := by
  intro pins s σ H Q I h
  refine Subscript_ (thn (he pins s σ H _ I h) fun v s1 ⟨x, H1, I1, r1, q1⟩ => ?_)
  refine wpAny_Slice (thn (hl pins s1 σ H1 _ I1 q1) fun vl s2 ⟨l, H2, I2, pl, q2⟩ => thn (hu pins s2 σ H2 _ I2 q2) fun vu s3 ⟨u, H3, I3, pu, q3⟩ => ?_)
  rw [evalPart_none]
  refine wpAny_pure ?_
  have I4 : Inv X pins σ H3 { s3 with heap := s3.heap.push { cls := .type "slice", data := .fields #[vl, vu, .none] } } := I3.kept (t' := s3.toks) fun b ob q => Heap.get?_push_of_some _ q
  obtain ⟨T, id, hT, ht, hg⟩ := hr pins { s3 with heap := s3.heap.push { cls := .type "slice", data := .fields #[vl, vu, .none] } } σ H3 x v vl vu l u s3.heap.objs.size Q I4 r1 (Heap.IsSliceOf.new ..) pl pu q3
  show wpAny (model X.prog X.w) X.A (subscriptTail e (.Slice lo hi none p2) v (.ref s3.heap.objs.size)) (EP X pins σ Q) X.xe { s3 with heap := s3.heap.push { cls := .type "slice", data := .fields #[vl, vu, .none] } }
  exact tail_any (ops := [.ref s3.heap.objs.size, v]) ht hT hg (by with_unfolding_all rfl)

def cutV (xs : List V) (lo hi : Option Int) : List V := (xs.drop (HT.sIx xs.length 0 lo)).take (HT.sIx xs.length xs.length hi - HT.sIx xs.length 0 lo)
theorem cutV_length (xs : List V) (lo hi : Option Int) : (cutV xs lo hi).length ≤ xs.length := by
  unfold cutV
  rw [List.length_take, List.length_drop]
  omega
def rSlT (K : PySem.W.Frag) : V → Option Int → Option Int → Hp → VK → Prop := fun x lo hi H Q => ∃ a xs, x = .ref a ∧ SqT K H a xs ∧
  ¬ (HT.sIx xs.length 0 lo = 0 ∧ HT.sIx xs.length xs.length hi = xs.length) ∧ ∀ p, H p = none → Q (.ref p) (upd H p (.tup (cutV xs lo hi)))
/-! ### t < u, t + u -/
def rLtT (K : PySem.W.Frag) : R2 := fun x y H Q => ∃ a b ns ms, x = .ref a ∧ y = .ref b ∧ SqT K H a (ns.map V.int) ∧ SqT K H b (ms.map V.int) ∧ Q (.bl (HT.lexLt ns ms)) H
def rCatT (K : PySem.W.Frag) : R2 := fun x y H Q => ∃ a b xs ys, x = .ref a ∧ y = .ref b ∧ SqT K H a xs ∧ SqT K H b ys ∧ xs ≠ [] ∧ xs.length + ys.length ≤ sizeLine ∧
  (ys = [] → Q (.ref a) H) ∧ (ys ≠ [] → ∀ p, H p = none → Q (.ref p) (upd H p (.tup (xs ++ ys))))
end
end L2

namespace L2
open PySem PySem.Spec PyProof.Rows

/-! ### places -/
def ixN (n : Nat) (i : Int) : Option Nat := if 0 ≤ i then (if i < n then some i.toNat else none) else if -(n : Int) ≤ i then some (i + n).toNat else none
def atI {α : Type} (xs : List α) (i : Int) : Option α := (ixN xs.length i).bind fun j => xs[j]?
theorem ixN_seq {n : Nat} {i : Int} {j : Nat} (h : ixN n i = some j) : seqIndex? i n = some j ∧ j < n ∧ -(n : Int) ≤ i ∧ i < n := by
  unfold ixN at h
  by_cases h0 : 0 ≤ i
  · rw [if_pos h0] at h
    by_cases h1 : i < n
    · rw [if_pos h1] at h
      have e : i.toNat = j := Option.some.inj h
      exact ⟨by rw [seqIndex_of h0 h1, e], by omega, by omega, h1⟩
    · rw [if_neg h1] at h; cases h
  · rw [if_neg h0] at h
    by_cases h1 : -(n : Int) ≤ i
    · rw [if_pos h1] at h
      have e : (i + n).toNat = j := Option.some.inj h
      exact ⟨by rw [seqIndex_neg (by omega) h1, e], by omega, h1, by omega⟩
    · rw [if_neg h1] at h; cases h
theorem atI_get {α : Type} {xs : List α} {i : Int} {v : α} (h : atI xs i = some v) : ∃ j, seqIndex? i xs.length = some j ∧ xs[j]? = some v ∧ j < xs.length ∧ -(xs.length : Int) ≤ i ∧ i < xs.length := by
  unfold atI at h
  cases e : ixN xs.length i with
  | none => rw [e] at h; cases h
  | some j =>
    rw [e] at h
    obtain ⟨h1, h2, h3, h4⟩ := ixN_seq e
    exact ⟨j, h1, h, h2, h3, h4⟩
/-! ### what may be subscripted -/
def PlainIx (b : Expr) : Prop := ∀ o i, subscripted b false o i = operate [o, i] (getItem o i)
def IxR (X : Cx) (r : R2) : Prop :=
  ∀ (value slice : Expr) (pins : List (Addr × Obj)) (s : Shared) (σ : St) (H : Hp) (x y : V) (v u : Value) (Q : VK), Inv X pins σ H s → RelV x v → RelV y u → r x y H Q →
    subscripted slice false v u = operate [v, u] (getItem v u) → wpAny (model X.prog X.w) X.A (subscriptTail value slice v u) (EP X pins σ Q) X.xe s
def MtR (X : Cx) (id : String) (r : V → List V → Hp → VK → Prop) : Prop :=
  ∀ (pins : List (Addr × Obj)) (s : Shared) (σ : St) (H : Hp) (x : V) (xs : List V) (v : Value) (us : List Value) (Q : VK), Inv X pins σ H s → RelV x v → Vals xs us → r x xs H Q →
    wpAny (model X.prog X.w) X.A (call (.builtin id) (v :: us)) (EP X pins σ Q) X.xe s
section
variable {X : Cx} {a b : Expr} {ta tb : TE} {pos : Pos}
theorem IxR.or {r r' : R2} (h : IxR X r) (h' : IxR X r') : IxR X (fun x y H Q => r x y H Q ∨ r' x y H Q) := by
  intro value slice pins s σ H x y v u Q I rx ry q hs
  rcases q with q | q
  · exact h value slice pins s σ H x y v u Q I rx ry q hs
  · exact h' value slice pins s σ H x y v u Q I rx ry q hs
theorem MtR.or {id : String} {r r' : V → List V → Hp → VK → Prop} (h : MtR X id r) (h' : MtR X id r') : MtR X id (fun x xs H Q => r x xs H Q ∨ r' x xs H Q) := by
  intro pins s σ H x xs v us Q I rx rs q
  rcases q with q | q
  · exact h pins s σ H x xs v us Q I rx rs q
  · exact h' pins s σ H x xs v us Q I rx rs q
theorem pe_ix {r : R2} (hr : IxR X r) (ha : PE X a ta) (hb : PE X b tb) (hs : PlainIx b) : PE X (.Subscript a b pos) (tOp r ta tb) := by
  intro pins s σ H Q I h
  exact Subscript_ (binT ha hb I h fun v u s2 x y H2 I2 rx ry q => hr a b pins s2 σ H2 x y v u Q I2 rx ry q (hs _ _))

def rIxL (K : PySem.W.Frag) : R2 := fun x y H Q => ∃ p xs i v, x = .ref p ∧ y = .int i ∧ SqL K H p xs ∧ atI xs i = some v ∧ Q v H
def rIxT (K : PySem.W.Frag) : R2 := fun x y H Q => ∃ p xs i v, x = .ref p ∧ y = .int i ∧ SqT K H p xs ∧ atI xs i = some v ∧ Q v H
def rIxS : R2 := fun x y H Q => ∃ z i c, x = .str z ∧ y = .int i ∧ z.length ≤ sizeLine ∧ atI z.cps.toList i = some c ∧ Q (.str ⟨#[c]⟩) H
theorem ix_tup : IxR X (rIxT X.K) := by
  intro value slice pins s σ H x y v u Q I rx ry h hs
  obtain ⟨p, xs, i, z, rfl, rfl, hq, he, q⟩ := h
  cases rx
  obtain ⟨t, rfl⟩ := ry
  obtain ⟨its, r, pl, hz⟩ := I.tuple hq
  obtain ⟨j, h1, h2, h3, h4, h5⟩ := atI_get he
  obtain ⟨w, ew, rw'⟩ := r.get h2
  have hl := r.length
  have hn := line63
  have fin : EP X pins σ Q w s := ⟨z, H, I, rw', q⟩
  exact subscriptTail_builtinR (x := w) pl.typeIs slot_tuple_getitem.lookup
    (getItem_tuple (j := j) (Q := fun r s' => r = w ∧ EP X pins σ Q r s') pl (by omega) (by omega) (by rw [List.size_toArray, ← hl]; exact h1) (by simpa using ew) ⟨rfl, fin⟩) hs
def rIx (K : PySem.W.Frag) : R2 := fun x y H Q => rIxL K x y H Q ∨ rIxT K x y H Q ∨ rIxS x y H Q
/-! ### xs[i] = v, any sign -/
theorem Inv.lst {pins : List (Addr × Obj)} {σ : St} {H : Hp} {s : Shared} {p : Addr} {xs : List V} (I : Inv X pins σ H s) (h : H p = some (.lst xs)) :
    ∃ (its : List Value) (n : Nat), Vals xs its ∧ s.heap.get? p = some { cls := .type "list", data := .seq its.toArray n } ∧ xs.length ≤ sizeLine := by
  obtain ⟨z, its, n, r, e⟩ := I.hok p _ h
  exact ⟨its, n, r, e, z⟩
def rSetL : V → V → V → Hp → (Hp → Prop) → Prop := fun o i v H Q => ∃ p xs k j, o = .ref p ∧ i = .int k ∧ H p = some (.lst xs) ∧ ixN xs.length k = some j ∧ Q (upd H p (.lst (xs.set j v)))
/-! ### slices -/
theorem slice_bounds (lo hi : Option Int) (n : Nat) : (sliceBounds lo hi none n).1 = ((HT.sIx n 0 lo : Nat) : Int) ∧ (sliceBounds lo hi none n).2.1 = ((HT.sIx n n hi : Nat) : Int) ∧ (sliceBounds lo hi none n).2.2 = 1 := by
  refine ⟨?_, ?_, rfl⟩
  · cases lo with
    | none => simp [sliceBounds, HT.sIx]
    | some i =>
      simp only [sliceBounds, HT.sIx, Option.getD_none, show (1 : Int) > 0 by decide, if_true]
      by_cases h : i < 0
      · simp only [h, if_true] <;> omega
      · simp only [h, if_false] <;> omega
  · cases hi with
    | none => simp [sliceBounds, HT.sIx]
    | some i =>
      simp only [sliceBounds, HT.sIx, Option.getD_none, show (1 : Int) > 0 by decide, if_true]
      by_cases h : i < 0
      · simp only [h, if_true] <;> omega
      · simp only [h, if_false] <;> omega
theorem slicePick_cut (its : List Value) (lo hi : Option Int) : slicePick its.toArray lo hi none = ((its.drop (HT.sIx its.length 0 lo)).take (HT.sIx its.length its.length hi - HT.sIx its.length 0 lo)).toArray := by
  obtain ⟨h1, h2, h3⟩ := slice_bounds lo hi its.toArray.size
  unfold slicePick
  rw [h1, h2, h3]
  simp only [sliceRange_one, pick_run, List.size_toArray] <;> rfl
def rSlL (K : PySem.W.Frag) : V → Option Int → Option Int → Hp → VK → Prop := fun x lo hi H Q => ∃ a xs, x = .ref a ∧ SqL K H a xs ∧ ∀ p, H p = none → Q (.ref p) (upd H p (.lst (cutV xs lo hi)))
theorem sl_list : SlR X (rSlL X.K) := by
  intro pins s σ H x v vl vu lo hi sl Q I rx hs pl pu h
  obtain ⟨a, xs, rfl, hx, q⟩ := h
  cases rx
  obtain ⟨its, r, ht, hz⟩ := I.list hx
  have hlen := r.length
  refine ⟨"list", _, slot_list_getitem.lookup, ht.isList.typeIs, ?_⟩
  refine wpAny_getItem_list_slice ht.isList hs pl pu .none (by simp) ?_ (by rw [List.size_toArray] <;> omega)
  rw [slicePick_cut, ← hlen]
  refine ⟨.ref s.heap.objs.size, _, I.laid (t' := s.toks) (o := .lst (cutV xs lo hi)) (fun b ob q => Heap.get?_push_of_some _ q) (Nat.le_refl _) ?_, rfl, q _ (I.hok.fresh (Nat.le_refl _))⟩
  exact ⟨Nat.le_trans (cutV_length xs lo hi) hz, _, 0, (r.drop (HT.sIx xs.length 0 lo)).take (HT.sIx xs.length xs.length hi - HT.sIx xs.length 0 lo), Heap.get?_push_size _ rfl⟩

/-! ### in, not in: flat items -/
def flatV : V → Bool
  | .non => true
  | .bl _ => true
  | .int _ => true
  | .str _ => true
  | _ => false
def eqV : V → V → Bool
  | .non, .non => true
  | .bl a, .bl b => a == b
  | .bl a, .int b => (if a then 1 else 0) == b
  | .int a, .bl b => a == (if b then 1 else 0)
  | .int a, .int b => a == b
  | .str a, .str b => a == b
  | _, _ => false
theorem eqAt_V {A : Around} {s : Shared} {y x : V} {u v : Value} (ry : RelV y u) (rx : RelV x v) (fy : flatV y = true) (fx : flatV x = true) : SeqAt.EqAt A s u v (eqV y x) := by
  cases y with
  | non =>
    cases ry
    cases x with
    | non => cases rx; exact SeqAt.EqAt.same _
    | bl b => cases rx; exact SeqAt.EqAt.none_bool b
    | int b => obtain ⟨t, rfl⟩ := rx; exact SeqAt.EqAt.none_int b t
    | str b => obtain ⟨t, rfl⟩ := rx; exact SeqAt.EqAt.none_str b t
    | _ => exact absurd (show false = true from fx) Bool.false_ne_true
  | bl a =>
    cases ry
    cases x with
    | non => cases rx; exact SeqAt.EqAt.bool_none a
    | bl b => cases rx; exact SeqAt.EqAt.bool_bool a b
    | int b => obtain ⟨t, rfl⟩ := rx; exact SeqAt.EqAt.bool_int a b t
    | str b => obtain ⟨t, rfl⟩ := rx; exact SeqAt.EqAt.bool_str a b t
    | _ => exact absurd (show false = true from fx) Bool.false_ne_true
  | int a =>
    obtain ⟨t', rfl⟩ := ry
    cases x with
    | non => cases rx; exact SeqAt.EqAt.int_none a t'
    | bl b => cases rx; exact SeqAt.EqAt.int_bool a t' b
    | int b => obtain ⟨t, rfl⟩ := rx; exact SeqAt.EqAt.int_int a t' b t
    | str b => obtain ⟨t, rfl⟩ := rx; exact SeqAt.EqAt.int_str a t' b t
    | _ => exact absurd (show false = true from fx) Bool.false_ne_true
  | str a =>
    obtain ⟨t', rfl⟩ := ry
    cases x with
    | non => cases rx; exact SeqAt.EqAt.str_none a t'
    | bl b => cases rx; exact SeqAt.EqAt.str_bool a t' b
    | int b => obtain ⟨t, rfl⟩ := rx; exact SeqAt.EqAt.str_int a t' b t
    | str b => obtain ⟨t, rfl⟩ := rx; exact SeqAt.EqAt.str_str a t' b t
    | _ => exact absurd (show false = true from fx) Bool.false_ne_true
  | _ => exact absurd (show false = true from fy) Bool.false_ne_true
def eqU (x : V) (u : Value) : Bool := match u with
  | .none => eqV .non x
  | .bool b => eqV (.bl b) x
  | .int i _ => eqV (.int i) x
  | .str z _ => eqV (.str z) x
  | _ => false
theorem eqU_of {x y : V} {u : Value} (r : RelV y u) (f : flatV y = true) : eqU x u = eqV y x := by
  cases y with
  | non => cases r; rfl
  | bl b => cases r; rfl
  | int i => obtain ⟨t, rfl⟩ := r; rfl
  | str z => obtain ⟨t, rfl⟩ := r; rfl
  | _ => exact absurd (show false = true from f) Bool.false_ne_true
theorem any_eqU {x : V} : ∀ {xs : List V} {us : List Value}, Vals xs us → xs.all flatV = true → us.any (eqU x) = xs.any fun y => eqV y x
  | _, _, .nil, _ => rfl
  | y :: xs, u :: us, .cons r t, f => by
    rw [List.all_cons, Bool.and_eq_true] at f
    rw [List.any_cons, List.any_cons, eqU_of r f.1, any_eqU t f.2]
theorem mem_eqAt {A : Around} {s : Shared} {x : V} {v : Value} (rx : RelV x v) (fx : flatV x = true) : ∀ {xs : List V} {us : List Value}, Vals xs us → xs.all flatV = true → ∀ u ∈ us, SeqAt.EqAt A s u v (eqU x u)
  | _, _, .nil, _ => fun u hu => by cases hu
  | y :: xs, u :: us, .cons r t, f => fun u' hu => by
    rw [List.all_cons, Bool.and_eq_true] at f
    rcases List.mem_cons.mp hu with rfl | hu
    · rw [eqU_of r f.1]; exact eqAt_V r rx f.1 fx
    · exact mem_eqAt rx fx t f.2 u' hu
def inV (x : V) (xs : List V) : Bool := xs.any fun y => eqV y x
def rIn (K : PySem.W.Frag) (neg : Bool) : R2 := fun x y H Q => ∃ p xs, y = .ref p ∧ (SqL K H p xs ∨ SqT K H p xs) ∧ flatV x = true ∧ xs.all flatV = true ∧ Q (.bl (if neg then !inV x xs else inV x xs)) H
theorem op_in_seq : OpR X (compareOp .In) (rIn X.K false) := by
  intro pins s σ H x y v u Q I rx ry h
  obtain ⟨p, xs, rfl, hq, fx, fs, q⟩ := h
  cases ry
  rcases hq with hq | hq
  · obtain ⟨its, r, pl, hz⟩ := I.list hq
    refine SeqAt.in_listAt (eqU x) pl.isList (fun w hw => mem_eqAt rx fx r fs w (by simpa using hw)) ⟨.bl _, H, I, rfl, ?_⟩
    rw [show its.toArray.any (eqU x) = its.any (eqU x) by simp, any_eqU r fs]
    exact q
  · obtain ⟨its, r, pl, hz⟩ := I.tuple hq
    refine SeqAt.in_tupleAt (eqU x) pl (fun w hw => mem_eqAt rx fx r fs w (by simpa using hw)) ⟨.bl _, H, I, rfl, ?_⟩
    rw [show its.toArray.any (eqU x) = its.any (eqU x) by simp, any_eqU r fs]
    exact q
theorem op_notIn_seq : OpR X (compareOp .NotIn) (rIn X.K true) := by
  intro pins s σ H x y v u Q I rx ry h
  obtain ⟨p, xs, rfl, hq, fx, fs, q⟩ := h
  cases ry
  rcases hq with hq | hq
  · obtain ⟨its, r, pl, hz⟩ := I.list hq
    refine SeqAt.notIn_listAt (eqU x) pl.isList (fun w hw => mem_eqAt rx fx r fs w (by simpa using hw)) ⟨.bl _, H, I, rfl, ?_⟩
    rw [show its.toArray.any (eqU x) = its.any (eqU x) by simp, any_eqU r fs]
    exact q
  · obtain ⟨its, r, pl, hz⟩ := I.tuple hq
    refine SeqAt.notIn_tupleAt (eqU x) pl (fun w hw => mem_eqAt rx fx r fs w (by simpa using hw)) ⟨.bl _, H, I, rfl, ?_⟩
    rw [show its.toArray.any (eqU x) = its.any (eqU x) by simp, any_eqU r fs]
    exact q
/-! ### len, list(x), tuple(x) of any list or tuple that is read -/
theorem call_len_seq : CallR X (.builtin "len") (fun xs H Q => ∃ p ys, xs = [.ref p] ∧ (SqL X.K H p ys ∨ SqT X.K H p ys) ∧ Q (.int ys.length) H) := by
  intro pins s σ H xs us Q I r h
  obtain ⟨p, ys, rfl, hq, q⟩ := h
  obtain ⟨u, rfl, rx⟩ := vals1 r
  cases rx
  have hn := line63
  rcases hq with hq | hq
  · obtain ⟨its, r', pl, hz⟩ := I.list hq
    have hlen := r'.length
    exact Calls.call_len_list pl.isList (by simp only [List.size_toArray] <;> omega) ⟨.int ys.length, H, I.tok _, ⟨s.toks + 1, by rw [List.size_toArray, hlen]⟩, q⟩
  · obtain ⟨its, r', pl, hz⟩ := I.tuple hq
    have hlen := r'.length
    exact len_tuple pl (by simp only [List.size_toArray] <;> omega) ⟨.int ys.length, H, I.tok _, ⟨s.toks + 1, by rw [List.size_toArray, hlen]⟩, q⟩
theorem CallR.or {f : Value} {r r' : List V → Hp → VK → Prop} (h : CallR X f r) (h' : CallR X f r') : CallR X f (fun xs H Q => r xs H Q ∨ r' xs H Q) := by
  intro pins s σ H xs us Q I rs q
  rcases q with q | q
  · exact h pins s σ H xs us Q I rs q
  · exact h' pins s σ H xs us Q I rs q
/-! ### the call of a builtin's method: o.m(..) -/
def tyV (K : PySem.W.Frag) (T : String) (x : V) (H : Hp) : Prop := match x with
  | .str _ => T = "str"
  | .int _ => T = "int"
  | .ref p => (T = "list" ∧ ∃ xs, SqL K H p xs) ∨ (T = "tuple" ∧ ∃ o, K.lookup p = some o ∧ o.cls = .type "tuple" ∧ o.dict = none) ∨
      (T = "dict" ∧ ((∃ kvs, H p = some (.dK kvs)) ∨ ∃ kvs, H p = some (.dT kvs))) ∨ (T = "set" ∧ ∃ S n, H p = some (.set S n))
  | _ => False
def tBM0 (K : PySem.W.Frag) (T : String) (r : V → List V → Hp → VK → Prop) (to : TE) : TE := fun σ H Q => to σ H fun x H1 => tyV K T x H1 ∧ r x [] H1 Q
def tBM (K : PySem.W.Frag) (T : String) (r : V → List V → Hp → VK → Prop) (to : TE) (t : TA) : TE := fun σ H Q => to σ H fun x H1 => tyV K T x H1 ∧ t σ H1 fun xs H2 => r x xs H2 Q
variable {o e : Expr} {es : List Expr} {to : TE} {t : TA} {name : Str} {apos cpos : Pos} {T id : String} {r : V → List V → Hp → VK → Prop}
/- xs.append(e), list.index on a module's tuple .. are MtR facts of 06m -/
end
end L2

namespace L2
open PySem PySem.Spec PyProof.Rows

def MtM (X : Cx) (id : String) (r : V → List V → Hp → VK → Prop) : Prop :=
  ∀ (pins : List (Addr × Obj)) (s : Shared) (σ : St) (H : Hp) (x : V) (xs : List V) (v : Value) (us : List Value) (Q : VK), Inv X pins σ H s → RelV x v → Vals xs us → r x xs H Q →
    wpAny (model X.prog X.w) X.A (call (.builtin id) (v :: us)) (EP X pins σ Q) X.xe s

/-! ### lists of values -/
theorem Vals.one : ∀ {x : V} {us : List Value}, Vals [x] us → ∃ u, us = [u] ∧ RelV x u
  | _, _, .cons r .nil => ⟨_, rfl, r⟩
theorem Vals.two : ∀ {x y : V} {us : List Value}, Vals [x, y] us → ∃ u v, us = [u, v] ∧ RelV x u ∧ RelV y v
  | _, _, _, .cons r (.cons q .nil) => ⟨_, _, rfl, r, q⟩
theorem Vals.zero : ∀ {us : List Value}, Vals [] us → us = []
  | _, .nil => rfl
theorem Vals.dropLast {xs : List V} {us : List Value} (h : Vals xs us) : Vals xs.dropLast us.dropLast := by
  induction h with
  | nil => exact .nil
  | cons r t ih =>
    cases t with
    | nil => exact .nil
    | cons q t' => exact .cons r ih
theorem Vals.eraseIdx : ∀ {xs : List V} {us : List Value} (i : Nat), Vals xs us → Vals (xs.eraseIdx i) (us.eraseIdx i)
  | _, _, _, .nil => .nil
  | _, _, 0, .cons _ t => t
  | _, _, i + 1, .cons r t => .cons r (Vals.eraseIdx i t)
theorem Vals.reverse {xs : List V} {us : List Value} (h : Vals xs us) : Vals xs.reverse us.reverse := by
  induction h with
  | nil => exact .nil
  | cons r t ih => rw [List.reverse_cons, List.reverse_cons]; exact Vals.append ih (.cons r .nil)
section
variable {X : Cx} {pins : List (Addr × Obj)} {σ : St} {H : Hp} {s : Shared} {l b : Addr} {xs ys zs : List V}

/-! ### the two steps: a tracked list is rewritten, a new list is laid -/
theorem Inv.fresh (I : Inv X pins σ H s) : H s.heap.objs.size = none := I.hok.fresh (Nat.le_refl _)
end

section
variable {X : Cx}

/-! ### methods -/
def rAppend : V → List V → Hp → VK → Prop := fun x vs H Q => ∃ l xs y, x = .ref l ∧ vs = [y] ∧ H l = some (.lst xs) ∧ xs.length < sizeLine ∧ Q .non (upd H l (.lst (xs ++ [y])))
def rExtend : V → List V → Hp → VK → Prop := fun x vs H Q => ∃ l b xs zs, x = .ref l ∧ vs = [.ref b] ∧ H l = some (.lst xs) ∧ H b = some (.lst zs) ∧ xs.length + zs.length ≤ sizeLine ∧ Q .non (upd H l (.lst (xs ++ zs)))
def rPop : V → List V → Hp → VK → Prop := fun x vs H Q => ∃ l xs y, x = .ref l ∧ vs = [] ∧ H l = some (.lst xs) ∧ xs[xs.length - 1]? = some y ∧ Q y (upd H l (.lst xs.dropLast))
def rPopAt : V → List V → Hp → VK → Prop := fun x vs H Q => ∃ l xs i k y, x = .ref l ∧ vs = [.int i] ∧ H l = some (.lst xs) ∧ -(2 ^ 63) ≤ i ∧ i < 2 ^ 63 ∧ seqIndex? i xs.length = some k ∧ xs[k]? = some y ∧ Q y (upd H l (.lst (xs.eraseIdx k)))
def rReverse : V → List V → Hp → VK → Prop := fun x vs H Q => ∃ l xs, x = .ref l ∧ vs = [] ∧ H l = some (.lst xs) ∧ Q .non (upd H l (.lst xs.reverse))
def rClear : V → List V → Hp → VK → Prop := fun x vs H Q => ∃ l xs, x = .ref l ∧ vs = [] ∧ H l = some (.lst xs) ∧ Q .non (upd H l (.lst []))
/-! ### list + list, list += list, list * int -/
def rCat : R2 := fun x y H Q => ∃ l b xs zs, x = .ref l ∧ y = .ref b ∧ H l = some (.lst xs) ∧ H b = some (.lst zs) ∧ xs.length + zs.length ≤ sizeLine ∧ ∀ p, H p = none → Q (.ref p) (upd H p (.lst (xs ++ zs)))
def rRep : R2 := fun x y H Q => ∃ l k xs, x = .ref l ∧ y = .int k ∧ H l = some (.lst xs) ∧ -(2 ^ 63) ≤ k ∧ k < 2 ^ 63 ∧ xs.length * k.toNat ≤ sizeLine ∧
  ∀ p, H p = none → Q (.ref p) (upd H p (.lst (List.replicate k.toNat xs).flatten))
/-! ### del xs[i] -/
end

/-! ### xs[a:b] = ys -/
section
variable {prog : Program} {w : World} {A : Around} {E : Value → Shared → Prop} {s : Shared}
end

section
variable {X : Cx}
end
end L2

namespace L2
open PySem PySem.Spec PyProof.Rows

theorem Vals.ints : ∀ {ns : List Int} {us : List Value}, Vals (ns.map V.int) us → IntsAre us ns
  | [], us, h => by
    rw [List.map_nil] at h
    cases h
    exact IntsAre.nil
  | n :: ns, us, h => by
    rw [List.map_cons] at h
    cases h with
    | cons r t =>
      obtain ⟨k, rfl⟩ := r
      exact IntsAre.cons n k (Vals.ints t)
theorem Vals.strs : ∀ {xs : List Str} {us : List Value}, Vals (xs.map V.str) us → StrsAre us xs
  | [], us, h => by
    rw [List.map_nil] at h
    cases h
    exact StrsAre.nil
  | x :: xs, us, h => by
    rw [List.map_cons] at h
    cases h with
    | cons r t =>
      obtain ⟨k, rfl⟩ := r
      exact StrsAre.cons x k (Vals.strs t)
/-! ### the library's walks over a list of ints, kept objects alone -/
section
variable {prog : Program} {w : World} {A : Around} {E : Value → Shared → Prop} {s : Shared} {l : Addr} {its : List Value} {ns : List Int} {Q : Value → Shared → Prop}
end

/-! ### the calls, by values (CallR of 03t; MtR of 06l) -/
section
variable {X : Cx}
def rSum (K : PySem.W.Frag) : List V → Hp → VK → Prop := fun vs H Q => ∃ (a : Addr) (ns : List Int), vs = [V.ref a] ∧ SqL K H a (ns.map V.int) ∧ Q (.int ns.sum) H
def rMax (K : PySem.W.Frag) : List V → Hp → VK → Prop := fun vs H Q => ∃ (a : Addr) (ns : List Int), vs = [V.ref a] ∧ SqL K H a (ns.map V.int) ∧ 0 < ns.length ∧ ∀ m, m ∈ ns → (∀ y, y ∈ ns → y ≤ m) → Q (.int m) H
def rMin (K : PySem.W.Frag) : List V → Hp → VK → Prop := fun vs H Q => ∃ (a : Addr) (ns : List Int), vs = [V.ref a] ∧ SqL K H a (ns.map V.int) ∧ 0 < ns.length ∧ ∀ m, m ∈ ns → (∀ y, y ∈ ns → m ≤ y) → Q (.int m) H
/-! sorted, sort (fewer than 64 items: the library's own bound) -/
def rSorted (K : PySem.W.Frag) : List V → Hp → VK → Prop := fun vs H Q => ∃ (a : Addr) (ns : List Int), vs = [V.ref a] ∧ SqL K H a (ns.map V.int) ∧ ns.length < 64 ∧
  ∀ (ns' : List Int) (p : Addr), ns'.Perm ns → ns'.Pairwise (· ≤ ·) → H p = none → Q (.ref p) (upd H p (.lst (ns'.map V.int)))
def rSortedS (K : PySem.W.Frag) : List V → Hp → VK → Prop := fun vs H Q => ∃ (a : Addr) (xs : List Str), vs = [V.ref a] ∧ SqL K H a (xs.map V.str) ∧ xs.length < 64 ∧
  ∀ (ys : List Str) (p : Addr), ys.Perm xs → sortedS ys = true → H p = none → Q (.ref p) (upd H p (.lst (ys.map V.str)))
def rSort : V → List V → Hp → VK → Prop := fun x xs H Q => ∃ (a : Addr) (ns : List Int), x = V.ref a ∧ xs = [] ∧ H a = some (.lst (ns.map V.int)) ∧ ns.length < 64 ∧
  ∀ ns' : List Int, ns'.Perm ns → ns'.Pairwise (· ≤ ·) → Q .non (upd H a (.lst (ns'.map V.int)))
end

/-! ### list.index, flat items -/
section
variable {X : Cx}
def rIndex (K : PySem.W.Frag) : V → List V → Hp → VK → Prop := fun x xs H Q => ∃ (a : Addr) (ys : List V) (y : V) (j : Nat) (z : V), x = V.ref a ∧ xs = [y] ∧ SqL K H a ys ∧ flatV y = true ∧ ys.all flatV = true ∧ ys[j]? = some z ∧ eqV z y = true ∧
  (∀ (m : Nat) (z' : V), m < j → ys[m]? = some z' → eqV z' y = false) ∧ Q (.int (j : Nat)) H
end

/-! ### type(x) of an own instance; is, is not of a module's class -/
section
variable {X : Cx}
end

/-! ### any(xs), all(xs) of a list of bools -/
section
variable {X : Cx}
def rAny (K : PySem.W.Frag) : List V → Hp → VK → Prop := fun vs H Q => ∃ (a : Addr) (bs : List Bool), vs = [V.ref a] ∧ SqL K H a (bs.map V.bl) ∧ Q (.bl (bs.any id)) H
def rAll (K : PySem.W.Frag) : List V → Hp → VK → Prop := fun vs H Q => ∃ (a : Addr) (bs : List Bool), vs = [V.ref a] ∧ SqL K H a (bs.map V.bl) ∧ Q (.bl (bs.all id)) H
end

/-! ### == and != of data at any depth: none, bools, ints, texts, lists, tuples -/
mutual
inductive Dp (K : PySem.W.Frag) (H : Hp) : V → PyData → Prop
  | non : Dp K H .non .none
  | bl (b : Bool) : Dp K H (.bl b) (.bool b)
  | int (i : Int) : Dp K H (.int i) (.int i)
  | str (x : Str) : Dp K H (.str x) (.str x)
  | lst {a : Addr} {xs : List V} {ds : List PyData} : SqL K H a xs → DpAll K H xs ds → Dp K H (.ref a) (.list ds)
  | tup {a : Addr} {xs : List V} {ds : List PyData} : SqT K H a xs → DpAll K H xs ds → Dp K H (.ref a) (.tuple ds)
inductive DpAll (K : PySem.W.Frag) (H : Hp) : List V → List PyData → Prop
  | nil : DpAll K H [] []
  | cons {v : V} {vs : List V} {d : PyData} {ds : List PyData} : Dp K H v d → DpAll K H vs ds → DpAll K H (v :: vs) (d :: ds)
end
section
variable {X : Cx} {pins : List (Addr × Obj)} {σ : St} {H : Hp} {s : Shared}
mutual
theorem Dp.reads (I : Inv X pins σ H s) : ∀ (d : PyData) (v : V) (u : Value), Dp X.K H v d → RelV v u → ∃ as, Reads s.heap u d as
  | .none, _, _, h, r => by
    cases h
    cases r
    exact ⟨_, Reads.none⟩
  | .bool b, _, _, h, r => by
    cases h
    cases r
    exact ⟨_, Reads.bool b⟩
  | .int i, _, _, h, r => by
    cases h
    obtain ⟨t, rfl⟩ := r
    exact ⟨_, Reads.int i t⟩
  | .str x, _, _, h, r => by
    cases h
    obtain ⟨t, rfl⟩ := r
    exact ⟨_, Reads.str x t⟩
  | .list ds, _, _, h, r => by
    cases h with
    | lst hs ha =>
      cases r
      obtain ⟨its, rv, ⟨o, n, ho, hc, _, hd⟩, _⟩ := I.list hs
      obtain ⟨as, hr⟩ := Dp.readsAll I ds _ its ha rv
      exact ⟨_, Reads.list ho hc hd hr⟩
  | .tuple ds, _, _, h, r => by
    cases h with
    | tup hs ha =>
      cases r
      obtain ⟨its, rv, ⟨o, ho, hc, n, hd⟩, _⟩ := I.tuple hs
      obtain ⟨as, hr⟩ := Dp.readsAll I ds _ its ha rv
      exact ⟨_, Reads.tuple ho hc hd hr⟩
  | .dict _, _, _, h, _ => by cases h
theorem Dp.readsAll (I : Inv X pins σ H s) : ∀ (ds : List PyData) (vs : List V) (us : List Value), DpAll X.K H vs ds → Vals vs us → ∃ as, ReadsAll s.heap us ds as
  | [], _, _, h, r => by
    cases h
    cases r
    exact ⟨_, ReadsAll.nil⟩
  | d :: ds, _, _, h, r => by
    cases h with
    | cons h1 h2 =>
      cases r with
      | cons r1 r2 =>
        obtain ⟨as, q1⟩ := Dp.reads I d _ _ h1 r1
        obtain ⟨bs, q2⟩ := Dp.readsAll I ds _ _ h2 r2
        exact ⟨_, ReadsAll.cons q1 q2⟩
end
end
section
variable {X : Cx}
def rEqD (K : PySem.W.Frag) : R2 := fun x y H Q => ∃ d e, Dp K H x d ∧ Dp K H y e ∧ SeqAt.shaped d = true ∧ SeqAt.shaped e = true ∧ Q (.bl (PyData.eqv d e)) H
def rNeD (K : PySem.W.Frag) : R2 := fun x y H Q => ∃ d e, Dp K H x d ∧ Dp K H y e ∧ SeqAt.shaped d = true ∧ SeqAt.shaped e = true ∧ Q (.bl (!PyData.eqv d e)) H
theorem op_eqD (hu : X.A.units + 64 < cLine) : OpR X (compareOp .Eq) (rEqD X.K) := by
  intro pins s σ H x y v u Q I rx ry h
  obtain ⟨d, e, hd, he, sd, se, q⟩ := h
  obtain ⟨as, r1⟩ := Dp.reads I d x v hd rx
  obtain ⟨bs, r2⟩ := Dp.reads I e y u he ry
  exact SeqAt.compareEq_shaped r1 r2 sd se hu ⟨.bl _, H, I, rfl, q⟩
theorem op_neD (hu : X.A.units + 64 < cLine) : OpR X (compareOp .NotEq) (rNeD X.K) := by
  intro pins s σ H x y v u Q I rx ry h
  obtain ⟨d, e, hd, he, sd, se, q⟩ := h
  obtain ⟨as, r1⟩ := Dp.reads I d x v hd rx
  obtain ⟨bs, r2⟩ := Dp.reads I e y u he ry
  exact SeqAt.compareNe_shaped r1 r2 sd se hu ⟨.bl _, H, I, rfl, q⟩
end
end L2

namespace L2
open PySem PySem.Spec PyProof.Rows
abbrev CellAt (h : Heap) (c : Addr) (v : Option Value) : Prop := h.IsCell c v
def relS (scope sc : Scope) : Scope :=
  { scope with names := scope.names.map fun (n, k) => if (k == .free && sc.kind == .function && sc.names.lookup n == some .cell) then (n, .cell) else (n, k) }

def cloFrom (cells : List (Str × Addr)) : List (Str × NameKind) → List (Str × Addr) → List (Str × Addr)
  | [], acc => acc
  | (n, k) :: r, acc => if k == .free then cloFrom cells r ((n, (cells.lookup n).getD 0) :: acc) else cloFrom cells r acc

theorem closure_loop (env : Env) (f : Str × NameKind → List (Str × Addr) → Sem (ForInStep (List (Str × Addr))))
    (hf : ∀ n k c, f (n, k) c = if k == .free then (do let a ← cellOf env n; pure (.yield ((n, a) :: c))) else pure (.yield c)) :
    ∀ (names : List (Str × NameKind)) (acc : List (Str × Addr)), (∀ y ∈ names, y.2 = .free → ∃ c, env.cells.lookup y.1 = some c) → forIn names acc f = pure (cloFrom env.cells names acc)
  | [], acc, _ => by rw [List.forIn_nil]; rfl
  | (n, k) :: r, acc, h => by
    rw [List.forIn_cons, hf]
    have ih := fun acc => closure_loop env f hf r acc fun y hy => h y (List.mem_cons_of_mem _ hy)
    unfold cloFrom
    by_cases hk : (k == NameKind.free) = true
    · rw [if_pos hk, if_pos hk]
      obtain ⟨c, hc⟩ := h (n, k) List.mem_cons_self (by simpa using hk)
      have e : cellOf env n = pure c := by unfold cellOf; rw [hc]
      rw [e]
      have e2 : (env.cells.lookup n).getD 0 = c := by rw [hc]; rfl
      rw [e2]
      exact ih _
    · rw [if_neg hk, if_neg hk]
      exact ih _
theorem closure_ok {scope : Scope} {env : Env} (h : ∀ y ∈ scope.names, y.2 = .free → ∃ c, env.cells.lookup y.1 = some c) : closureFor scope env = pure (cloFrom env.cells scope.names []) := by
  simp only [closureFor]
  rw [closure_loop env _ (fun n k c => rfl) scope.names [] h]
  rfl

theorem mem_lookup {α : Type} : ∀ {l : List (Str × α)} {n : Str} {c : α}, (n, c) ∈ l → ∃ c', l.lookup n = some c'
  | (k, v) :: r, n, c, h => by
    rw [List.lookup_cons]
    cases hb : n == k with
    | true => exact ⟨_, rfl⟩
    | false =>
      rcases List.mem_cons.mp h with e | h
      · cases e; simp at hb
      · exact mem_lookup h

theorem cloFrom_mem {cells : List (Str × Addr)} : ∀ {names : List (Str × NameKind)} {acc : List (Str × Addr)} {n : Str} {c : Addr}, (n, c) ∈ cloFrom cells names acc → (n, c) ∈ acc ∨ ((n, .free) ∈ names ∧ c = (cells.lookup n).getD 0)
  | [], _, _, _, h => .inl h
  | (m, k) :: r, acc, n, c, h => by
    unfold cloFrom at h
    split at h
    · rename_i hk
      have hk : k = .free := by simpa using hk
      rcases cloFrom_mem h with h | ⟨h1, h2⟩
      · rcases List.mem_cons.mp h with e | h
        · cases e; exact .inr ⟨hk ▸ List.mem_cons_self, rfl⟩
        · exact .inl h
      · exact .inr ⟨List.mem_cons_of_mem _ h1, h2⟩
    · rcases cloFrom_mem h with h | ⟨h1, h2⟩
      · exact .inl h
      · exact .inr ⟨List.mem_cons_of_mem _ h1, h2⟩
theorem cloFrom_acc {cells : List (Str × Addr)} : ∀ {names : List (Str × NameKind)} {acc : List (Str × Addr)} {p : Str × Addr}, p ∈ acc → p ∈ cloFrom cells names acc
  | [], _, _, h => h
  | (m, k) :: r, acc, p, h => by
    unfold cloFrom
    split
    · exact cloFrom_acc (List.mem_cons_of_mem _ h)
    · exact cloFrom_acc h
theorem cloFrom_has {cells : List (Str × Addr)} : ∀ {names : List (Str × NameKind)} {acc : List (Str × Addr)} {n : Str}, (n, .free) ∈ names → (n, (cells.lookup n).getD 0) ∈ cloFrom cells names acc
  | (m, k) :: r, acc, n, h => by
    unfold cloFrom
    rcases List.mem_cons.mp h with e | h
    · cases e
      exact cloFrom_acc List.mem_cons_self
    · split
      · exact cloFrom_has h
      · exact cloFrom_has h

theorem cells_mem : ∀ {names : List (Str × NameKind)} {h : Heap} {acc : List (Str × Addr)} {x : Str} {c : Addr}, (x, c) ∈ cellsFrom h.objs.size names acc →
    (x, c) ∈ acc ∨ ((x, .cell) ∈ names ∧ h.objs.size ≤ c ∧ CellAt (pushCells h names) c none)
  | [], _, _, _, _, h => .inl h
  | (n, k) :: r, h, acc, x, c, hm => by
    unfold cellsFrom at hm
    unfold pushCells
    split at hm
    · rename_i hk
      rw [if_pos hk]
      have hk : k = .cell := by simpa using hk
      rw [← Heap.size_push h { cls := .type "cell", data := .cell none }] at hm
      rcases cells_mem hm with hm | ⟨h1, h2, h3⟩
      · rcases List.mem_cons.mp hm with e | hm
        · cases e
          exact .inr ⟨hk ▸ List.mem_cons_self, Nat.le_refl _, _, pushCells_keeps r _ _ _ (Heap.get?_push_size _ rfl), rfl⟩
        · exact .inl hm
      · rw [Heap.size_push] at h2
        exact .inr ⟨List.mem_cons_of_mem _ h1, Nat.le_of_succ_le h2, h3⟩
    · rename_i hk
      rw [if_neg hk]
      rcases cells_mem hm with hm | ⟨h1, h2, h3⟩
      · exact .inl hm
      · exact .inr ⟨List.mem_cons_of_mem _ h1, h2, h3⟩
theorem cells_acc : ∀ {names : List (Str × NameKind)} {n : Nat} {acc : List (Str × Addr)} {p : Str × Addr}, p ∈ acc → p ∈ cellsFrom n names acc
  | [], _, _, _, h => h
  | (m, k) :: r, n, acc, p, h => by
    unfold cellsFrom
    split
    · exact cells_acc (List.mem_cons_of_mem _ h)
    · exact cells_acc h
theorem cells_has : ∀ {names : List (Str × NameKind)} {n : Nat} {acc : List (Str × Addr)} {x : Str}, (x, .cell) ∈ names → ∃ c, (x, c) ∈ cellsFrom n names acc
  | (m, k) :: r, n, acc, x, h => by
    unfold cellsFrom
    rcases List.mem_cons.mp h with e | h
    · cases e
      exact ⟨n, cells_acc List.mem_cons_self⟩
    · split
      · exact cells_has h
      · exact cells_has h
theorem cells_inj : ∀ {names : List (Str × NameKind)} {h : Heap} {acc : List (Str × Addr)} {x y : Str} {c : Addr}, (∀ p ∈ acc, p.2 < h.objs.size) → (∀ x y c, (x, c) ∈ acc → (y, c) ∈ acc → x = y) →
    (x, c) ∈ cellsFrom h.objs.size names acc → (y, c) ∈ cellsFrom h.objs.size names acc → x = y
  | [], _, _, _, _, _, _, hi, h1, h2 => hi _ _ _ h1 h2
  | (n, k) :: r, h, acc, x, y, c, hl, hi, h1, h2 => by
    unfold cellsFrom at h1 h2
    split at h1
    · rename_i hk
      rw [if_pos hk] at h2
      rw [← Heap.size_push h { cls := .type "cell", data := .cell none }] at h1 h2
      refine cells_inj (h := h.push _) (fun p hp => ?_) (fun x y c a b => ?_) h1 h2
      · rw [Heap.size_push]
        rcases List.mem_cons.mp hp with rfl | hp
        · exact Nat.lt_succ_self _
        · exact Nat.lt_succ_of_lt (hl p hp)
      · rcases List.mem_cons.mp a with e | a <;> rcases List.mem_cons.mp b with e' | b
        · cases e; cases e'; rfl
        · cases e; exact absurd (hl _ b) (Nat.lt_irrefl _)
        · cases e'; exact absurd (hl _ a) (Nat.lt_irrefl _)
        · exact hi _ _ _ a b
    · rename_i hk
      rw [if_neg hk] at h2
      exact cells_inj hl hi h1 h2

theorem newEnv_comp {M : Model} {A : Around} {E : Value → Shared → Prop} {s : Shared} {scope : Scope} {globals : Addr} {closure : List (Str × Addr)} {qual : Str} {func : Option Addr} {code : Value} {around : Env} {builtins : Addr} {Q : Env → Shared → Prop}
    (h : Q (newEnv scope s.heap.objs.size globals (cellsFrom (s.heap.objs.size + 1) scope.names closure) qual func code (some around) builtins)
      { s with heap := pushCells (s.heap.push { cls := .type "dict", data := .dict #[] }) scope.names }) :
    wpAny M A (newFunctionEnv scope globals closure [] qual func code (some around) builtins) Q E s := by
  simp only [newFunctionEnv, Option.isSome_some, if_true]
  refine wpAny_bind (wpAny_alloc ?_)
  refine wpAny_bind (wpAny_layCells _ (fun n k c => rfl) scope.names closure _ _ ?_)
  rw [show ({ s with heap := s.heap.push { cls := .type "dict", data := .dict #[] } } : Shared).heap.objs.size = s.heap.objs.size + 1 from Heap.size_push ..]
  rw [List.forIn_nil]
  exact wpAny_bind (wpAny_pure (wpAny_pure h))

theorem lookup_relS {sc : Scope} : ∀ {names : List (Str × NameKind)} {x : Str} {k : NameKind},
    (names.map fun (n, k) => if (k == NameKind.free && sc.kind == .function && sc.names.lookup n == some .cell) then (n, NameKind.cell) else (n, k)).lookup x = some k →
    ∃ k', names.lookup x = some k' ∧ (k = k' ∨ (k' = .free ∧ k = .cell))
  | [], _, _, h => by simp at h
  | (n, k₀) :: r, x, k, h => by
    have ih := @lookup_relS sc r x k
    have h' : List.lookup x ((if (k₀ == NameKind.free && sc.kind == .function && sc.names.lookup n == some .cell) = true then (n, NameKind.cell) else (n, k₀)) :: (r.map _)) = some k := h
    cases hx : x == n with
    | true =>
      simp only [List.lookup_cons, hx]
      by_cases hc : (k₀ == NameKind.free && sc.kind == .function && sc.names.lookup n == some .cell) = true
      · rw [if_pos hc] at h'
        simp only [List.lookup_cons, hx] at h'
        cases h'
        simp only [Bool.and_eq_true, beq_iff_eq] at hc
        exact ⟨k₀, rfl, .inr ⟨hc.1.1, rfl⟩⟩
      · rw [if_neg hc] at h'
        simp only [List.lookup_cons, hx] at h'
        cases h'
        exact ⟨_, rfl, .inl rfl⟩
    | false =>
      simp only [List.lookup_cons, hx]
      by_cases hc : (k₀ == NameKind.free && sc.kind == .function && sc.names.lookup n == some .cell) = true
      · rw [if_pos hc] at h'
        simp only [List.lookup_cons, hx] at h'
        exact ih h'
      · rw [if_neg hc] at h'
        simp only [List.lookup_cons, hx] at h'
        exact ih h'
structure BlkOk (N : List Str) (sc scope : Scope) (own : List (Str × Nat)) : Prop where
  kind : scope.kind = .function
  uniq : ∀ y ∈ scope.names, scope.names.lookup y.1 = some y.2
  ix : ∀ p ∈ own, N[p.2]? = some p.1
  free : ∀ y ∈ scope.names, y.2 = .free → sc.names.lookup y.1 = some .cell ∨ sc.names.lookup y.1 = some .free
  own : ∀ y ∈ scope.names, y.2 = .local ∨ y.2 = .cell → y.1 ∈ own.map (·.1) ∨ y.1 ∉ N
def wipe (σ : St) : List Nat → St
  | [] => σ
  | v :: vs => (wipe σ vs).set v none
theorem wipe_length (σ : St) : ∀ vs : List Nat, (wipe σ vs).length = σ.length
  | [] => rfl
  | v :: vs => by unfold wipe; rw [List.length_set, wipe_length σ vs]
theorem wipe_some {σ : St} {i : Nat} {x : V} : ∀ {vs : List Nat}, (wipe σ vs)[i]? = some (some x) → σ[i]? = some (some x) ∧ i ∉ vs
  | [], h => ⟨h, by simp⟩
  | v :: vs, h => by
    unfold wipe at h
    by_cases hi : v = i
    · subst hi
      by_cases hv : v < (wipe σ vs).length
      · rw [List.getElem?_set_self hv] at h; cases h
      · rw [List.getElem?_eq_none (by simpa using hv)] at h; cases h
    · rw [List.getElem?_set_ne hi] at h
      obtain ⟨h1, h2⟩ := wipe_some h
      exact ⟨h1, by simp only [List.mem_cons, not_or]; exact ⟨fun e => hi e.symm, h2⟩⟩

abbrev Cx.blk (X : Cx) (s : Shared) (H : Hp) (scope : Scope) (cenv : Env) (fp : List Addr) : Cx := { X with s_0 := s, H_0 := H, env := cenv, outer := X.stack, ex := fp, fn := fun x => scope.names.lookup x == some .cell, pn := [], xe := fun _ _ => False }
section
variable {X : Cx} {pins : List (Addr × Obj)} {σ : St} {H : Hp} {s : Shared}
theorem block_start {scope : Scope} {own : List (Str × Nat)} {fp : List Addr} (I : Inv X pins σ H s) (ok : BlkOk X.N X.env.scope scope own) (hN : X.N.Nodup) (hfp : ∀ b ∈ fp, FpOk X pins H b ∧ b < s.heap.objs.size) :
    Inv (X.blk s H scope (compEnvC scope (cellsFrom (s.heap.objs.size + 1) scope.names (cloFrom X.env.cells scope.names [])) s.heap.objs.size X.env) fp) [] (wipe σ (own.map (·.2))) H { s with heap := pushCells (s.heap.push { cls := .type "dict", data := .dict #[] }) scope.names } := by
  have hfree : ∀ y ∈ scope.names, y.2 = .free → ∃ c, X.env.cells.lookup y.1 = some c := fun y hy e => by
    rcases ok.free y hy e with k | k
    · exact I.ok.has _ (.inl k)
    · exact I.ok.has _ (.inr k)
  generalize hcenv : compEnvC scope (cellsFrom (s.heap.objs.size + 1) scope.names (cloFrom X.env.cells scope.names [])) s.heap.objs.size X.env = cenv
  have kp : ∀ b o, s.heap.get? b = some o → (pushCells (s.heap.push { cls := .type "dict", data := .dict #[] }) scope.names).get? b = some o := fun b o e => pushCells_keeps _ _ _ _ (Heap.get?_push_of_some _ e)
  have hL : cenv.locals = s.heap.objs.size := by rw [← hcenv]; rfl
  have hcl : cenv.cells = cellsFrom (s.heap.objs.size + 1) scope.names (cloFrom X.env.cells scope.names []) := by rw [← hcenv]; rfl
  have hsc : cenv.scope = relS scope X.env.scope := by rw [← hcenv]; rfl
  rw [← Heap.size_push s.heap { cls := .type "dict", data := .dict #[] }] at hcl
  have cm : ∀ {y c}, (y, c) ∈ cloFrom X.env.cells scope.names [] → X.env.cells.lookup y = some c ∧ c < s.heap.objs.size := fun {y c} hm => by
    rcases cloFrom_mem hm with hm | ⟨h1, rfl⟩
    · cases hm
    · obtain ⟨c, hc⟩ := hfree _ h1 rfl
      rw [hc]
      obtain ⟨w, z⟩ := I.cell _ _ hc
      exact ⟨rfl, z.lt⟩
  have mem : ∀ {y c}, cenv.cells.lookup y = some c → (X.env.cells.lookup y = some c ∧ c < s.heap.objs.size) ∨ (s.heap.objs.size + 1 ≤ c ∧ CellAt (pushCells (s.heap.push { cls := .type "dict", data := .dict #[] }) scope.names) c none) := fun {y c} e => by
    rw [hcl] at e
    rcases cells_mem (PySem.mem_of_lookup e) with hm | ⟨_, h2, h3⟩
    · exact .inl (cm hm)
    · rw [Heap.size_push] at h2; exact .inr ⟨h2, h3⟩
  have look : ∀ {y}, scope.names.lookup y = some .free → ∃ c, cenv.cells.lookup y = some c ∧ X.env.cells.lookup y = some c := fun {y} hl => by
    have hy : (y, NameKind.free) ∈ scope.names := PySem.mem_of_lookup hl
    obtain ⟨c', e'⟩ := mem_lookup (cells_acc (names := scope.names) (n := (s.heap.push { cls := .type "dict", data := .dict #[] }).objs.size) (cloFrom_has (cells := X.env.cells) (acc := []) hy))
    rw [← hcl] at e'
    refine ⟨c', e', ?_⟩
    rw [hcl] at e'
    rcases cells_mem (PySem.mem_of_lookup e') with hm | ⟨h1, _, _⟩
    · exact (cm hm).1
    · have := ok.uniq _ h1
      rw [hl] at this; cases this
  have okB : (X.blk s H scope cenv fp).Ok := by
    refine ⟨I.ok.mod, by show cenv.scope.kind = _; rw [hsc]; exact ok.kind, by show cenv.globals = _; rw [← hcenv]; exact I.ok.glob, by show cenv.builtins = _; rw [← hcenv]; exact I.ok.blt, by show s.heap.objs.size ≤ cenv.locals; rw [hL]; exact Nat.le_refl _,
      fun y z c e1 e2 => ?_, fun y hy => ?_, fun y c z e => ?_, I.ok.hd, I.ok.frames, .inl rfl, fun b hb => ⟨?_, fun y c e z => ?_⟩, I.bs, Nat.le_trans I.ok.bsz I.sz, fun b o e hb => ?_, fun b hb z => ?_, I.stack, I.stkFree⟩
    · have e1 : cenv.cells.lookup y = some c := e1
      have e2 : cenv.cells.lookup z = some c := e2
      rw [hcl] at e1 e2
      refine cells_inj (fun p hp => ?_) (fun y z c a b => I.ok.inj y z c (cm a).1 (cm b).1) (PySem.mem_of_lookup e1) (PySem.mem_of_lookup e2)
      rw [Heap.size_push]
      exact Nat.lt_succ_of_lt (cm (y := p.1) (c := p.2) hp).2
    · show ∃ c, cenv.cells.lookup y = some c
      have key : ∀ k, cenv.kindOf y = some k → (k = .cell ∨ k = .free) → ∃ c, cenv.cells.lookup y = some c := fun k hk hk' => by
        unfold Env.kindOf at hk
        rw [hsc] at hk
        obtain ⟨k', e, r⟩ := lookup_relS hk
        have : k' = .cell ∨ k' = .free := by
          rcases r with rfl | ⟨rfl, _⟩
          · exact hk'
          · exact .inr rfl
        rcases this with rfl | rfl
        · obtain ⟨c, hm⟩ := cells_has (n := (s.heap.push { cls := .type "dict", data := .dict #[] }).objs.size) (acc := cloFrom X.env.cells scope.names []) (PySem.mem_of_lookup e)
          obtain ⟨c', e'⟩ := mem_lookup hm
          exact ⟨c', by rw [hcl]; exact e'⟩
        · obtain ⟨c, h1, _⟩ := look e
          exact ⟨c, h1⟩
      rcases hy with hy | hy
      · exact key _ hy (.inl rfl)
      · exact key _ hy (.inr rfl)
    · have z : (scope.names.lookup y == some NameKind.cell) = true := z
      have z : scope.names.lookup y = some .cell := by simpa using z
      have e : cenv.cells.lookup y = some c := e
      rw [hcl] at e
      rcases cells_mem (PySem.mem_of_lookup e) with hm | ⟨_, h2, _⟩
      · rcases cloFrom_mem hm with hm | ⟨h1, _⟩
        · cases hm
        · have q := ok.uniq _ h1
          rw [z] at q; cases q
      · rw [Heap.size_push] at h2
        exact Nat.le_of_succ_le h2
    · show b ≠ cenv.locals
      rw [hL]; exact Nat.ne_of_lt (hfp b hb).2
    · have e : cenv.cells.lookup y = some c := e
      rcases mem e with ⟨h1, _⟩ | ⟨h1, _⟩
      · exact (hfp b hb).1.2.2.2.2.1 y c h1 z
      · have h2 : s.heap.objs.size + 1 ≤ b := by rw [← z]; exact h1
        exact absurd (Nat.lt_of_lt_of_le (hfp b hb).2 (Nat.le_of_succ_le h2)) (Nat.lt_irrefl _)
    · rcases (hfp b hb).1.2.2.2.1 with z | z
      · exact I.ok.noex b o e z
      · exact absurd (Nat.lt_of_lt_of_le (Heap.lt_size e) (Nat.le_trans I.ok.bsz z)) (Nat.lt_irrefl _)
    · rcases List.mem_cons.mp (I.stkSub b z) with z | z
      · exact (hfp b hb).1.2.1 z
      · exact (hfp b hb).1.2.2.1 z
  refine ⟨okB, rfl, I.bare, Un.kept kp, ⟨fun _ => none, ?_, fun i y av e1 e2 e3 => ?_⟩, fun y c e => ?_, ?_, fun y c e => ?_, fun p hp => ?_, I.hok.kept kp, by rw [wipe_length]; exact I.len⟩
  · show Heap.Ns _ cenv.locals _
    rw [hL]
    exact Heap.Ns.keeps (Heap.Ns.new ..) fun b o e => pushCells_keeps _ _ _ _ e
  · obtain ⟨e2, hne⟩ := wipe_some e2
    have hfr : scope.names.lookup y = some .free ∧ (cenv.kindOf y = some .cell ∨ cenv.kindOf y = some .free) := by
      have key : ∀ k, cenv.scope.names.lookup y = some k → k = .local ∨ k = .cell ∨ k = .free → scope.names.lookup y = some .free ∧ (cenv.kindOf y = some .cell ∨ cenv.kindOf y = some .free) := fun k hk hk' => by
        have hk0 := hk
        rw [hsc] at hk
        obtain ⟨k', e, r⟩ := lookup_relS hk
        have no : ¬ (k' = .local ∨ k' = .cell) := fun hh => by
          rcases ok.own _ (PySem.mem_of_lookup e) hh with e' | e'
          · obtain ⟨p, hp, hpy⟩ := List.mem_map.mp e'
            have e3 := ok.ix p hp
            have : p.1 = y := hpy
            rw [this] at e3
            exact hne (List.mem_map.mpr ⟨p, hp, nodup_ix hN e3 e1⟩)
          · exact e' (List.mem_of_getElem? e1)
        rcases r with rfl | ⟨rfl, rfl⟩
        · rcases hk' with rfl | rfl | rfl
          · exact absurd (.inl rfl) no
          · exact absurd (.inr rfl) no
          · exact ⟨e, .inr hk0⟩
        · exact ⟨e, .inl hk0⟩
      have e3 : Vis cenv.scope y := e3
      rcases e3 with e3 | e3 | e3
      · exact key _ e3 (.inl rfl)
      · exact key _ e3 (.inr (.inl rfl))
      · exact key _ e3 (.inr (.inr rfl))
    obtain ⟨m, hn, hl⟩ := I.loc
    have hvis : Vis X.env.scope y := (ok.free _ (PySem.mem_of_lookup hfr.1) rfl).elim (fun k => .inr (.inl k)) (fun k => .inr (.inr k))
    obtain ⟨w, r, q⟩ := hl i y av e1 e2 hvis
    refine ⟨w, r, .inr ⟨hfr.2, ?_⟩⟩
    obtain ⟨c, h1, h2⟩ := look hfr.1
    rcases q with ⟨k, _⟩ | ⟨_, c', e', z⟩
    · have k : X.env.scope.names.lookup y = some .local := k
      rcases ok.free _ (PySem.mem_of_lookup hfr.1) rfl with k' | k' <;> rw [show X.env.scope.names.lookup y = _ from k'] at k <;> cases k
    · rw [h2] at e'; cases e'
      exact ⟨c, h1, z.keeps kp⟩
  · have e : cenv.cells.lookup y = some c := e
    rcases mem e with ⟨h1, _⟩ | ⟨_, z⟩
    · obtain ⟨w, z⟩ := I.cell y c h1
      exact ⟨w, z.keeps kp⟩
    · exact ⟨_, z⟩
  · show H cenv.locals = none
    rw [hL]; exact I.hok.fresh (Nat.le_refl _)
  · have e : cenv.cells.lookup y = some c := e
    rcases mem e with ⟨h1, _⟩ | ⟨h1, _⟩
    · exact I.freeC y c h1
    · exact I.hok.fresh (Nat.le_of_succ_le h1)
  · exact absurd (show p ∈ ([] : List (Addr × Obj)) ++ [] from hp) (by simp)

theorem app_ok {E : Value → Shared → Prop} {D : Addr} {xs : List V} {y : V} {v : Value} {Q : Value → Shared → Prop} (I : Inv X pins σ H s) (hD : H D = some (.lst xs)) (hz : xs.length < sizeLine) (r : RelV y v)
    (h : ∀ s', Inv X pins σ (upd H D (.lst (xs ++ [y]))) s' → Q .none s') : wpAny (model X.prog X.w) X.A (call (.builtin "list.append") [.ref D, v]) Q E s := by
  obtain ⟨hz', its, n, ri, e⟩ := I.hok D _ hD
  have hl := ri.length
  refine append_at (hsz := by rw [List.size_toArray]; omega) e fun h' sb ho' => ?_
  refine h { s with heap := h' } (I.write (t' := s.toks) (by rw [hD]; trivial) (.inl rfl) (fun b u hb q => (sb.2 b hb).trans q) ⟨_, ho'⟩ ⟨by rw [List.length_append]; exact hz, its ++ [v], n + 1, ri.append (.cons r .nil), ?_⟩)
  rw [ho']
  simp

def PTs (X : Cx) (ifs : List Expr) (t : TT) : Prop :=
  ∀ (pins : List (Addr × Obj)) (s : Shared) (σ : St) (H : Hp) (Q : Bool → Hp → Prop), Inv X pins σ H s → t σ H Q →
    wpAny (model X.prog X.w) X.A (forIn ifs true fun c r => if r = true then do let ok ← isTrue c X.env (eval c X.env); pure (ForInStep.yield ok) else pure (ForInStep.yield r)) (TP X pins σ Q) X.xe s
def tYes : TT := fun _ H Q => Q true H
theorem pts_nil : PTs X [] tYes := fun _ _ _ H _ I h => wpAny_tests_nil ⟨H, I, h⟩
theorem pts_one {c : Expr} {t : TT} (h : PT X c t) : PTs X [c] t := fun pins s σ H Q I hw => wpAny_tests_one (h pins s σ H Q I hw)
end

theorem thnF {α : Type} {t : Sem α} {Q Q' : α → Shared → Prop} {M : Model} {A : Around} {E : Value → Shared → Prop} {s : Shared} (h : wpAny M A t Q (fun _ _ => False) s) (hQ : ∀ a s, Q a s → Q' a s) : wpAny M A t Q' E s := wpAny_mono h hQ fun _ _ z => False.elim z

theorem compLoop_any {prog : Program} {w : World} {A : Around} {R : Result → Shared → Prop} {s : Shared} {elt target iter : Expr} {ifs : List Expr} {scope : Scope} {pos : Pos} {it acc : Value} {env : Env} (I : Nat → Shared → Prop)
    (turn : ∀ n s, I n s → wpAny (model prog w) A (pyNext it) (fun r s₁ => match r with
      | none => R (.ok .next) s₁
      | some v => wpAny (model prog w) A (letOwnedTupleGo target it v) (fun _ s₁' => wpAny (model prog w) A (assign target env v) (fun _ s₂ =>
          wpAny (model prog w) A (forIn ifs true fun c r => if r = true then do let ok ← isTrue c env (eval c env); pure (ForInStep.yield ok) else pure (ForInStep.yield r)) (fun ok s₃ =>
            if ok = true then wpAny (model prog w) A (eval elt env) (fun x s₄ =>
              wpAny (model prog w) A (call (.builtin "list.append") [acc, x]) (fun _ s₅ => ∃ m, m < n ∧ I m s₅) (notedBy (model prog w) A env fun e s' => R (.error e) s') s₄) (notedBy (model prog w) A env fun e s' => R (.error e) s') s₃
            else ∃ m, m < n ∧ I m s₃) (notedBy (model prog w) A env fun e s' => R (.error e) s') s₂) (notedBy (model prog w) A env fun e s' => R (.error e) s') s₁') (notedBy (model prog w) A env fun e s' => R (.error e) s') s₁) (notedBy (model prog w) A env fun e s' => R (.error e) s') s)
    (n : Nat) (h : I n s) :
    codeAny (model prog w) A (.compLoop (.ListComp elt [⟨target, iter, ifs, 0⟩] scope pos) 0 it acc env) R s := by
  refine codeAny_loop rfl I (fun n s hI => ?_) n h
  show wpAny _ A ((compTurn (.ListComp elt [⟨target, iter, ifs, 0⟩] scope pos) 0 it acc env).onRaise (fun x => do noteFrame x env; theTreesLotGoes x)) _ _ s
  refine wpAny_noted ?_
  rw [compTurn_list]
  refine wpAny_bind (wpAny_standAt (wpAny_bind (wpAny_mono (turn n s hI) (fun r s₁ h₁ => ?_) fun _ _ h' => h')))
  cases r with
  | none => exact wpAny_pure h₁
  | some v =>
    refine wpAny_bind (wpAny_mono h₁ (fun _ s₁' h₁' => ?_) fun _ _ h' => h')
    refine wpAny_bind (wpAny_mono h₁' (fun _ s₂ h₂ => wpAny_bind (wpAny_mono h₂ (fun ok s₃ h₃ => ?_) fun _ _ h' => h')) fun _ _ h' => h')
    cases ok with
    | false => exact wpAny_pure ⟨rfl, h₃⟩
    | true =>
      exact wpAny_bind (wpAny_bind (wpAny_mono h₃ (fun x s₄ h₄ => wpAny_bind (wpAny_mono h₄ (fun _ s₅ h₅ => wpAny_pure (wpAny_pure ⟨rfl, h₅⟩)) fun _ _ h' => h')) fun _ _ h' => h'))

section
variable {X : Cx}
def tLc (wi : TI) (g : TG) (tt : TT) (te : TE) (vs : List Nat) : TE := fun σ H Q => wi σ H fun J H1 => ∀ D, H1 D = none → ∃ W : Nat → Nat → Hp → Prop, (∃ m, W 0 m (upd H1 D (.lst []))) ∧ ∀ i m H, W i m H →
  (J.stop i H ∧ Q (.ref D) H) ∨ (J.go i H ∧ ∃ Nx : Hp → Prop, (∀ H', Nx H' → ∃ m', m' < m ∧ W (i + 1) m' H') ∧ ∀ x H', J.yld i H x H' → g x (wipe σ vs) H' fun σ2 H2 => wipe σ2 vs = wipe σ vs ∧ tt σ2 H2 fun b H3 =>
    if b = true then te σ2 H3 fun y H4 => ∃ acc, H4 D = some (.lst acc) ∧ acc.length < sizeLine ∧ Nx (upd H4 D (.lst (acc ++ [y]))) else Nx H3)
theorem lc_core {pins : List (Addr × Obj)} {s : Shared} {σ : St} {H : Hp} {Q : VK} {elt tg iter : Expr} {ifs : List Expr} {scope : Scope} {own : List (Str × Nat)} {pos pos' : Pos} {wi : TI} {g : TG} {tt : TT} {te : TE} {use : Option (Value → Sem Unit)} {Qf : Value → Shared → Prop}
    (hc : X.calm = true) (hN : X.N.Nodup) (I : Inv X pins σ H s) (hi : PI X tg iter wi) (ok : BlkOk X.N X.env.scope scope own)
    (hg : ∀ (s : Shared) (H : Hp) (C : Addr) (cl : List (Str × Addr)) (fp : List Addr), PG (X.blk s H scope (compEnvC scope cl C X.env) fp) tg g) (ht : ∀ (s : Shared) (H : Hp) (C : Addr) (cl : List (Str × Addr)) (fp : List Addr), PTs (X.blk s H scope (compEnvC scope cl C X.env) fp) ifs tt)
    (he : ∀ (s : Shared) (H : Hp) (C : Addr) (cl : List (Str × Addr)) (fp : List Addr), PE (X.blk s H scope (compEnvC scope cl C X.env) fp) elt te) (hs : ∀ x, foldedSetIterable iter X.env x = pure x)
    (h : tLc wi g tt te (own.map (·.2)) σ H Q)
    (hRR : ∀ D C s' m H', Inv X pins σ H' s' → Q (.ref D) H' → s'.heap.Ns C m → FpOk X pins H' C → compPost (model X.prog X.w) X.A X.xe use Qf (.ref D) C (.ok .next) s') :
    wpAny (model X.prog X.w) X.A (comprehension (.ListComp elt [⟨tg, iter, ifs, 0⟩] scope pos) scope X.env pos' (newList []) false (eval iter X.env) use) Qf X.xe s := by
  have hfree : ∀ y ∈ scope.names, y.2 = .free → ∃ c, X.env.cells.lookup y.1 = some c := fun y hy e => by
    rcases ok.free y hy e with k | k
    · exact I.ok.has _ (.inl k)
    · exact I.ok.has _ (.inr k)
  refine wpAny_comprehension_free (use := use) rfl hs (closure_ok hfree) ok.kind (fun y hy e => by rw [ok.uniq y hy, e])
    (thn (hi pins s σ H _ I h) fun xv s1 hx => thn hx fun itv s2 h2 => ?_)
  obtain ⟨it, fp, tn, J, H2, e, I2, T, st2, f2, q⟩ := h2
  subst e
  refine wpAny_newObj_type (newEnv_comp ?_) (by show 0 ≤ sizeLine; decide)
  generalize hD : s2.heap.objs.size = D
  have hDn : H2 D = none := I2.hok.fresh (Nat.le_of_eq hD)
  obtain ⟨W, ⟨m0, w0⟩, turn⟩ := q D hDn
  -- the new list
  generalize hs3 : ({ s2 with heap := s2.heap.push { cls := .type "list", data := .seq ([] : List Value).toArray } } : Shared) = s3
  have I3 : Inv X pins σ (upd H2 D (.lst [])) s3 := by
    rw [← hs3]
    refine I2.laid (t' := s2.toks) (fun b o e => Heap.get?_push_of_some _ e) (Nat.le_of_eq hD) ⟨Nat.zero_le _, [], 0, .nil, ?_⟩
    rw [← hD]
    exact Heap.get?_push_size _ rfl
  have h3 : s3.heap = s2.heap.push { cls := .type "list", data := .seq ([] : List Value).toArray } := by rw [← hs3]
  have sz : ∀ b ∈ fp, b < s2.heap.objs.size := fun b hb => by
    obtain ⟨o, e, _⟩ := T.obj _ _ st2 b hb
    exact Heap.lt_size e
  have f3 : ∀ b ∈ fp, FpOk X pins (upd H2 D (.lst [])) b ∧ b < s3.heap.objs.size := fun b hb => by
    have hlt := sz b hb
    refine ⟨⟨?_, (f2 b hb).2⟩, by rw [h3, Heap.size_push]; exact Nat.lt_succ_of_lt hlt⟩
    rw [upd_ne (by rw [← hD]; exact Nat.ne_of_lt hlt)]
    exact (f2 b hb).1
  have st3 : tn 0 s3.heap := T.keep _ _ _ st2 fun b _ o e => by rw [h3]; exact Heap.get?_push_of_some _ e
  have I4 := block_start I3 ok hN f3
  have pg := hg s3 (upd H2 D (.lst [])) s3.heap.objs.size (cellsFrom (s3.heap.objs.size + 1) scope.names (cloFrom X.env.cells scope.names [])) fp
  have pt := ht s3 (upd H2 D (.lst [])) s3.heap.objs.size (cellsFrom (s3.heap.objs.size + 1) scope.names (cloFrom X.env.cells scope.names [])) fp
  have pe := he s3 (upd H2 D (.lst [])) s3.heap.objs.size (cellsFrom (s3.heap.objs.size + 1) scope.names (cloFrom X.env.cells scope.names [])) fp
  show codeAny _ _ (.compStart (.ListComp elt [⟨tg, iter, ifs, 0⟩] scope pos) 0 (.ref it) (.ref D) (compEnvC scope (cellsFrom (s3.heap.objs.size + 1) scope.names (cloFrom X.env.cells scope.names [])) s3.heap.objs.size X.env)) (compPost (model X.prog X.w) X.A X.xe use Qf (.ref D) s3.heap.objs.size) { s3 with heap := pushCells (s3.heap.push { cls := .type "dict", data := .dict #[] }) scope.names }
  have nfp : ∀ b ∈ fp, (upd H2 D (.lst [])) b = none := fun b hb => (f3 b hb).1.1
  generalize hce : compEnvC scope (cellsFrom (s3.heap.objs.size + 1) scope.names (cloFrom X.env.cells scope.names [])) s3.heap.objs.size X.env = ce at I4 pg pt pe ⊢
  have cL : ce.locals = s3.heap.objs.size := by subst hce; rfl
  generalize hH3 : upd H2 D (.lst []) = H3 at I3 I4 pg pt pe w0 nfp f3
  generalize hs4 : ({ s3 with heap := pushCells (s3.heap.push { cls := .type "dict", data := .dict #[] }) scope.names } : Shared) = s4 at I4 ⊢
  have st4 : tn 0 s4.heap := T.keep _ _ _ st3 fun b _ o e => by rw [← hs4]; exact pushCells_keeps _ _ _ _ (Heap.get?_push_of_some _ e)
  have stat : ∀ {σ' : St} {H' : Hp} {s' : Shared}, Inv (X.blk s3 H3 scope ce fp) [] σ' H' s' → (∀ b ∈ fp, H' b = none) → ∀ b ∈ fp, FpOk (X.blk s3 H3 scope ce fp) [] H' b := fun {σ' H' s'} I' hn b hb =>
    ⟨hn b hb, (I'.ok.exf b hb).1, I'.ok.exfs b hb, .inl hb, fun x c e => (I'.ok.exf b hb).2 x c e, fun p hp => absurd (show p ∈ ([] : List (Addr × Obj)) ++ [] from hp) (by simp)⟩
  have loop : codeAny (model X.prog X.w) X.A (.compLoop (.ListComp elt [⟨tg, iter, ifs, 0⟩] scope pos) 0 (.ref it) (.ref D) ce) (compPost (model X.prog X.w) X.A X.xe use Qf (.ref D) s3.heap.objs.size) s4 := by
    refine compLoop_any (fun n s' => ∃ i H', Inv (X.blk s3 H3 scope ce fp) [] (wipe σ (own.map (·.2))) H' s' ∧ tn i s'.heap ∧ (∀ b ∈ fp, H' b = none) ∧ W i n H') ?_ m0 ⟨0, H3, I4, st4, nfp, w0⟩
    rintro n s5 ⟨i, H5, I5, st5, n5, w5⟩
    rcases turn i n H5 w5 with ⟨stop, qq⟩ | ⟨go, Nx, hNx, step⟩
    · have td := T.done (X.blk s3 H3 scope ce fp) rfl rfl rfl hc i [] s5 _ H5 (fun _ _ => False) I5 (stat I5 n5) st5 stop
      refine thnF td fun r s6 ⟨hr, I6⟩ => ?_
      subst hr
      -- back in the def's context
      have I7 : Inv X pins σ H5 s6 := I3.call' (ch := fp) I6.os I6.base I6.hok I6.bare fun b hb => ⟨(f3 b hb).1.2.2.2.1, (f3 b hb).1.2.1, (f3 b hb).1.2.2.2.2.1, (f3 b hb).1.2.2.2.2.2⟩
      have nC : H5 s3.heap.objs.size = none := by
        have z : H5 ce.locals = none := I6.free
        rw [cL] at z
        exact z
      obtain ⟨m, hn, _⟩ := I6.loc
      have hn : s6.heap.Ns ce.locals m := hn
      rw [cL] at hn
      exact hRR D s3.heap.objs.size s6 m H5 I7 qq hn (I3.fpOk (Nat.le_refl _) nC)
    · have ti := T.item (X.blk s3 H3 scope ce fp) rfl rfl rfl hc i [] s5 _ H5 (fun _ _ => False) I5 (stat I5 n5) st5 go
      refine thnF ti fun r s6 ⟨u, hr, h6⟩ => ?_
      subst hr
      refine thnF h6 fun _ s7 ⟨x, H7, I7, r7, y7, st7, n7⟩ => ?_
      have I7' := I7.pinned (stat I7 n7) (T.obj _ _ st7)
      refine thnF (pg _ s7 _ H7 x u _ I7' r7 (step x H7 y7)) fun _ s8 ⟨σ8, H8, I8, hw8, q8⟩ => ?_
      refine thnF (pt _ s8 σ8 H8 _ I8 q8) fun b s9 ⟨H9, I9, q9⟩ => ?_
      -- the turn's end
      have fin : ∀ {s' : Shared} {H' : Hp}, Inv (X.blk s3 H3 scope ce fp) ([] ++ pinsAt fp s7.heap) σ8 H' s' → Nx H' → ∃ m, m < n ∧ ∃ i H', Inv (X.blk s3 H3 scope ce fp) [] (wipe σ (own.map (·.2))) H' s' ∧ tn i s'.heap ∧ (∀ b ∈ fp, H' b = none) ∧ W i m H' := fun {s' H'} I' nx => by
        obtain ⟨m', hm, w'⟩ := hNx H' nx
        have pin' : ∀ b ∈ fp, ∀ o, s7.heap.get? b = some o → s'.heap.get? b = some o ∧ H' b = none := fun b hb o e =>
          let z := I'.pin (b, o) (List.mem_append_right _ (List.mem_append_right _ (mem_pinsAt hb e)))
          ⟨z.1, z.2.1⟩
        have hl : (wipe σ (own.map (·.2))).length = σ8.length := by rw [← hw8, wipe_length]
        refine ⟨m', hm, i + 1, H', (I'.unpinned (pins := [])).weak hl (fun j v e => ?_), T.keep _ _ _ st7 fun b hb o e => (pin' b hb o e).1, fun b hb => ?_, w'⟩
        · rw [← hw8] at e
          exact (wipe_some e).1
        · obtain ⟨o, e, _⟩ := T.obj _ _ st7 b hb
          exact (pin' b hb o e).2
      cases b with
      | false =>
        simp only [Bool.false_eq_true, if_false] at q9 ⊢
        exact fin I9 q9
      | true =>
        simp only [if_true] at q9 ⊢
        refine thnF (pe _ s9 σ8 H9 _ I9 q9) fun z s10 ⟨yv, H10, I10, r10, acc, hD10, hz10, nx⟩ => ?_
        exact app_ok (X := X.blk s3 H3 scope ce fp) I10 hD10 hz10 r10 fun s11 I11 => fin I11 nx
  exact codeAny_compStart_list loop (T.self X.A 0 _ _ _ st4 loop)
theorem pe_lc {elt tg iter : Expr} {ifs : List Expr} {scope : Scope} {own : List (Str × Nat)} {pos : Pos} {wi : TI} {g : TG} {tt : TT} {te : TE} (hc : X.calm = true) (hN : X.N.Nodup) (hi : PI X tg iter wi) (ok : BlkOk X.N X.env.scope scope own)
    (hg : ∀ (s : Shared) (H : Hp) (C : Addr) (cl : List (Str × Addr)) (fp : List Addr), PG (X.blk s H scope (compEnvC scope cl C X.env) fp) tg g) (ht : ∀ (s : Shared) (H : Hp) (C : Addr) (cl : List (Str × Addr)) (fp : List Addr), PTs (X.blk s H scope (compEnvC scope cl C X.env) fp) ifs tt)
    (he : ∀ (s : Shared) (H : Hp) (C : Addr) (cl : List (Str × Addr)) (fp : List Addr), PE (X.blk s H scope (compEnvC scope cl C X.env) fp) elt te) (hs : ∀ x, foldedSetIterable iter X.env x = pure x := by intro _; rfl) :
    PE X (.ListComp elt [⟨tg, iter, ifs, 0⟩] scope pos) (tLc wi g tt te (own.map (·.2))) := by
  intro pins s σ H Q I h
  rw [eval_ListComp]
  refine lc_core hc hN I hi ok hg ht he hs h fun D C s' m H' I' q hn f => ⟨m, hn, fun h'' sb => ?_⟩
  obtain ⟨f0, f1, f2, f3, f4, f5⟩ := f
  exact ⟨.ref D, H', I'.turned (t' := s'.toks) (fun b o hb e => (sb.2 b hb).trans e) f0 f1 f3 f4 f5, rfl, q⟩
theorem ps_setLc {i : Nat} {y : Str} {py : Pos} {elt tg iter : Expr} {ifs : List Expr} {scope : Scope} {own : List (Str × Nat)} {pos spos : Pos} {wi : TI} {g : TG} {tt : TT} {te : TE} (hc : X.calm = true) (hN : X.N.Nodup) (hy : X.N[i]? = some y) (hyl : X.env.scope.names.lookup y = some .local)
    (hsw : swapsWith (.ListComp elt [⟨tg, iter, ifs, 0⟩] scope pos) (some (.Name y py)) spos.line X.env = pure true) (hi : PI X tg iter wi) (ok : BlkOk X.N X.env.scope scope own)
    (hg : ∀ (s : Shared) (H : Hp) (C : Addr) (cl : List (Str × Addr)) (fp : List Addr), PG (X.blk s H scope (compEnvC scope cl C X.env) fp) tg g) (ht : ∀ (s : Shared) (H : Hp) (C : Addr) (cl : List (Str × Addr)) (fp : List Addr), PTs (X.blk s H scope (compEnvC scope cl C X.env) fp) ifs tt)
    (he : ∀ (s : Shared) (H : Hp) (C : Addr) (cl : List (Str × Addr)) (fp : List Addr), PE (X.blk s H scope (compEnvC scope cl C X.env) fp) elt te) (hs : ∀ x, foldedSetIterable iter X.env x = pure x := by intro _; rfl) :
    PS X (.Assign [.Name y py] (.ListComp elt [⟨tg, iter, ifs, 0⟩] scope pos) spos) (tAsg (tLc wi g tt te (own.map (·.2))) (gName i)) := by
  intro pins s σ H D I h
  rw [exec_Assign_Name_used _ _ _ _ hsw]
  refine wpAny_bind (wpAny_standAt (wpAny_bind ?_))
  show wpAny _ X.A (do let _ ← comprehension (.ListComp elt [⟨tg, iter, ifs, 0⟩] scope pos) scope X.env (firstIterPos [⟨tg, iter, ifs, 0⟩] pos) (newList []) false (eval iter X.env) (some (assign (.Name y py) X.env))) _ _ s
  have h : tLc wi g tt te (own.map (·.2)) σ H (fun x H1 => gName i x σ H1 D.nx) := h
  refine wpAny_bind (thn (lc_core (Qf := fun _ s' => SP X pins D .next s') hc hN I hi ok hg ht he hs h fun L C s' m H' I' q hn f => ?_) fun _ s' hq => wpAny_pure (wpAny_pure hq))
  show wpAny _ _ (assign (.Name y py) X.env (.ref L)) _ _ _
  refine wpAny_assign_Name (store_ok2 (v := V.ref L) I' hN hy (.inl hyl) rfl (fun s2 I2 ⟨a, sb, ha⟩ => ?_) (.inr hyl))
  obtain ⟨f0, f1, f2, f3, f4, f5⟩ := f
  have haC : C ≠ a := by
    rcases ha with z | z
    · rw [z]; exact f1
    · exact fun e => f4 y a z e.symm
  refine ⟨m, hn.sameBut sb haC, fun h3 sb3 => ?_⟩
  exact ⟨_, H', I2.turned (t' := s2.toks) (fun b o hb e => (sb3.2 b hb).trans e) f0 f1 f3 f4 f5, q⟩
theorem sw_true {elt : Expr} {gs : List Comprehension} {scope : Scope} {pos py : Pos} {y : Str} {l : Nat} {env : Env} (hk : env.scope.kind = .function) (hy : env.scope.names.lookup y = some .local) (hl : (py.line == pos.line) = true)
    (ha : (scope.names.any fun (n, k) => n == y && (k == .local || k == .cell)) = false) : swapsWith (.ListComp elt gs scope pos) (some (.Name y py)) l env = pure true := by
  have ky : env.kindOf y = some .local := hy
  have hb : env.blockKind = .function := by unfold Env.blockKind; rw [hk]; rfl
  unfold swapsWith
  simp only [hb, ky, ha, Expr.pos, hl]
  rfl
end

/-! ### the forms one uses -/
def blkC (N : List Str) (sc scope : Scope) (own : List (Str × Nat)) : Bool :=
  (match scope.kind with | .function => true | _ => false) && (scope.names.all fun y => decide (scope.names.lookup y.1 = some y.2)) && (own.all fun p => decide (N[p.2]? = some p.1)) &&
    (scope.names.all fun y => match y.2 with
      | .free => (match sc.names.lookup y.1 with | some .cell => true | some .free => true | _ => false)
      | .local => decide (y.1 ∈ own.map (·.1)) || decide (y.1 ∉ N)
      | .cell => decide (y.1 ∈ own.map (·.1)) || decide (y.1 ∉ N)
      | _ => true)
theorem blkOk_by {N : List Str} {sc scope : Scope} {own : List (Str × Nat)} (h : blkC N sc scope own = true) : BlkOk N sc scope own := by
  unfold blkC at h
  simp only [Bool.and_eq_true, List.all_eq_true, decide_eq_true_eq] at h
  obtain ⟨⟨⟨h1, h2⟩, h3⟩, h4⟩ := h
  refine ⟨?_, h2, h3, fun y hy e => ?_, fun y hy e => ?_⟩
  · split at h1
    · assumption
    · cases h1
  · have q := h4 y hy
    simp only [e] at q
    split at q <;> first | exact .inl (by assumption) | exact .inr (by assumption) | cases q
  · have q := h4 y hy
    rcases e with e | e <;> (simp only [e, Bool.or_eq_true, decide_eq_true_eq] at q; exact q)
end L2

namespace L2
open PySem PySem.Spec PyProof.Rows

section
variable {prog : Program} {w : World} {A : Around} {R : Result → Shared → Prop} {s : Shared} {elt t0 i0 t1 i1 : Expr} {ifs0 ifs1 : List Expr} {scope : Scope} {pos : Pos} {it acc : Value} {env : Env}
end

section
variable {X : Cx}
def tLc2 (wi : TI) (g : TG) (tt : TT) (wi1 : TI) (g1 : TG) (tt1 : TT) (te : TE) (vs vs1 : List Nat) : TE := fun σ H Q => wi σ H fun J H1 => ∀ D, H1 D = none → ∃ W : Nat → Nat → Hp → Prop, (∃ m, W 0 m (upd H1 D (.lst []))) ∧ ∀ i m H, W i m H →
  (J.stop i H ∧ Q (.ref D) H) ∨ (J.go i H ∧ ∃ Nx : Hp → Prop, (∀ H', Nx H' → ∃ m', m' < m ∧ W (i + 1) m' H') ∧ ∀ x H', J.yld i H x H' → g x (wipe σ vs) H' fun σ2 H2 => wipe σ2 vs = wipe σ vs ∧ tt σ2 H2 fun b H3 =>
    if b = true then wi1 σ2 H3 fun J1 H4 => ∃ W1 : Nat → Nat → Hp → Prop, (∃ m, W1 0 m H4) ∧ ∀ j k H, W1 j k H →
      (J1.stop j H ∧ Nx H) ∨ (J1.go j H ∧ ∃ Nx1 : Hp → Prop, (∀ H', Nx1 H' → ∃ k', k' < k ∧ W1 (j + 1) k' H') ∧ ∀ x H', J1.yld j H x H' → g1 x (wipe σ2 vs1) H' fun σ3 H5 => wipe σ3 vs1 = wipe σ2 vs1 ∧ tt1 σ3 H5 fun b H6 =>
        if b = true then te σ3 H6 fun y H7 => ∃ acc, H7 D = some (.lst acc) ∧ acc.length < sizeLine ∧ Nx1 (upd H7 D (.lst (acc ++ [y]))) else Nx1 H6)
    else Nx H3)
end
end L2

namespace L2
open PySem PySem.Spec PyProof.Rows

/-! ### lists of pairs as tables -/
section
variable {κ : Type} [DecidableEq κ]
def valV (kvs : List (κ × V)) (k : κ) : Option V := (kvs.find? fun kv => decide (kv.1 = k)).map (·.2)
def putK (kvs : List (κ × V)) (k : κ) (v : V) : List (κ × V) :=
  if (kvs.any fun kv => decide (kv.1 = k)) = true then kvs.map (fun kv => if kv.1 = k then (kv.1, v) else kv) else kvs ++ [(k, v)]
def dropK (kvs : List (κ × V)) (k : κ) : List (κ × V) := kvs.filter fun kv => decide (kv.1 ≠ k)

theorem valV_pos {p : κ × V} {r : List (κ × V)} {k : κ} (e : p.1 = k) : valV (p :: r) k = some p.2 := by simp [valV, List.find?_cons, e]
theorem valV_neg {p : κ × V} {r : List (κ × V)} {k : κ} (e : ¬ p.1 = k) : valV (p :: r) k = valV r k := by simp [valV, List.find?_cons, e]
theorem valV_any (k : κ) : ∀ kvs : List (κ × V), (kvs.any fun kv => decide (kv.1 = k)) = (valV kvs k).isSome
  | [] => rfl
  | p :: r => by
    rw [List.any_cons]
    by_cases e : p.1 = k
    · simp only [valV_pos e, decide_eq_true e, Bool.true_or, Option.isSome_some]
    · rw [valV_neg e, decide_eq_false e, Bool.false_or]; exact valV_any k r
theorem RelO.isSome_eq {o : Option V} {u : Option Value} (r : RelO o u) : o.isSome = u.isSome := by
  cases o with
  | none => cases u with
    | none => rfl
    | some _ => exact (show False from r).elim
  | some _ => cases u with
    | none => exact (show False from r).elim
    | some _ => rfl
theorem RelO.getD {o : Option V} {u : Option Value} {d : V} {d' : Value} (r : RelO o u) (rd : RelV d d') : RelV (o.getD d) (u.getD d') := by
  cases o with
  | none => cases u with
    | none => exact rd
    | some _ => exact (show False from r).elim
  | some _ => cases u with
    | none => exact (show False from r).elim
    | some _ => exact r

theorem KV.val {kvs : List (κ × V)} {vs : List (κ × Value)} (r : KV kvs vs) (k : κ) : RelO (valV kvs k) (valueAt vs k) := by
  unfold KV at r
  induction r with
  | nil => exact True.intro
  | @cons p q ps qs h t ih =>
    obtain ⟨h1, h2⟩ := h
    by_cases e : p.1 = k
    · have e' : q.1 = k := h1.symm.trans e
      have b : valueAt (q :: qs) k = some q.2 := by simp [valueAt, List.find?_cons, e']
      rw [valV_pos e, b]; exact h2
    · have e' : ¬ q.1 = k := fun z => e (h1.trans z)
      have b : valueAt (q :: qs) k = valueAt qs k := by simp [valueAt, List.find?_cons, e']
      rw [valV_neg e, b]; exact ih
theorem KV.any {kvs : List (κ × V)} {vs : List (κ × Value)} (r : KV kvs vs) (k : κ) : (kvs.any fun kv => decide (kv.1 = k)) = vs.any fun kv => decide (kv.1 = k) := by
  unfold KV at r
  induction r with
  | nil => rfl
  | cons h t ih => rw [List.any_cons, List.any_cons, ih, h.1]
theorem KV.repl {kvs : List (κ × V)} {vs : List (κ × Value)} (r : KV kvs vs) (k : κ) {y : V} {u : Value} (ry : RelV y u) :
    KV (kvs.map fun kv => if kv.1 = k then (kv.1, y) else kv) (vs.map fun kv => if kv.1 = k then (kv.1, u) else kv) := by
  unfold KV at r ⊢
  induction r with
  | nil => exact .nil
  | @cons p q ps qs h t ih =>
    rw [List.map_cons, List.map_cons]
    refine .cons ?_ ih
    obtain ⟨h1, h2⟩ := h
    by_cases e : p.1 = k
    · rw [if_pos e, if_pos (h1.symm.trans e)]; exact ⟨h1, ry⟩
    · rw [if_neg e, if_neg (fun z => e (h1.trans z))]; exact ⟨h1, h2⟩
theorem KV.put {kvs : List (κ × V)} {vs : List (κ × Value)} (r : KV kvs vs) (k : κ) {y : V} {u : Value} (ry : RelV y u) : KV (putK kvs k y) (stored vs k u) := by
  unfold putK stored
  rw [r.any k]
  by_cases e : (vs.any fun kv => decide (kv.1 = k)) = true
  · rw [if_pos e, if_pos e]; exact r.repl k ry
  · rw [if_neg e, if_neg e]; exact Paired.snoc r ⟨rfl, ry⟩
theorem KV.drop {kvs : List (κ × V)} {vs : List (κ × Value)} (r : KV kvs vs) (k : κ) : KV (dropK kvs k) (without vs k) := by
  unfold KV at r ⊢
  unfold dropK without
  induction r with
  | nil => exact .nil
  | @cons p q ps qs h t ih =>
    obtain ⟨h1, h2⟩ := h
    rw [List.filter_cons, List.filter_cons]
    by_cases e : p.1 = k
    · have a : ¬ decide (p.1 ≠ k) = true := by simp [e]
      have b : ¬ decide (q.1 ≠ k) = true := by simp [h1.symm.trans e]
      rw [if_neg a, if_neg b]; exact ih
    · have e' : ¬ q.1 = k := fun z => e (h1.trans z)
      have a : decide (p.1 ≠ k) = true := by simp [e]
      have b : decide (q.1 ≠ k) = true := by simp [e']
      rw [if_pos a, if_pos b]; exact .cons ⟨h1, h2⟩ ih
theorem KV.keys {kvs : List (κ × V)} {vs : List (κ × Value)} (r : KV kvs vs) : kvs.map (·.1) = vs.map (·.1) := by
  unfold KV at r
  induction r with
  | nil => rfl
  | cons h t ih => rw [List.map_cons, List.map_cons, ih, h.1]
theorem KV.length {kvs : List (κ × V)} {vs : List (κ × Value)} (r : KV kvs vs) : kvs.length = vs.length := Paired.length r
end


/-! ### a tracked dict, its keys ints and texts or tuples of these -/
abbrev KT (H : Hp) : List (List Key × V) → List (List Key × Addr × Value) → Prop := Paired fun p q => p.1 = q.1 ∧ H q.2.1 = some (.tup (p.1.map kV)) ∧ RelV p.2 q.2.2
theorem KT.val {H : Hp} {kvs : List (List Key × V)} {xs : List (List Key × Addr × Value)} (r : KT H kvs xs) (k : List Key) : RelO (valV kvs k) ((atKey xs k).map (·.2)) := by
  induction r with
  | nil => exact True.intro
  | @cons p q ps qs h t ih =>
    obtain ⟨h1, _, h2⟩ := h
    by_cases e : p.1 = k
    · have e' : q.1 = k := h1.symm.trans e
      have b : atKey (q :: qs) k = some q.2 := by simp [atKey, List.find?_cons, e']
      rw [valV_pos e, b]; exact h2
    · have e' : ¬ q.1 = k := fun z => e (h1.trans z)
      have b : atKey (q :: qs) k = atKey qs k := by simp [atKey, List.find?_cons, e']
      rw [valV_neg e, b]; exact ih
theorem KT.repl {H : Hp} {kvs : List (List Key × V)} {xs : List (List Key × Addr × Value)} (r : KT H kvs xs) (k : List Key) {y : V} {u : Value} (ry : RelV y u) :
    KT H (kvs.map fun kv => if kv.1 = k then (kv.1, y) else kv) (xs.map (putAt k u)) := by
  induction r with
  | nil => exact .nil
  | @cons p q ps qs h t ih =>
    rw [List.map_cons, List.map_cons]
    refine .cons ?_ ih
    obtain ⟨h1, h2, h3⟩ := h
    unfold putAt
    by_cases e : p.1 = k
    · rw [if_pos e, if_pos (h1.symm.trans e)]; exact ⟨h1, h2, ry⟩
    · rw [if_neg e, if_neg (fun z => e (h1.trans z))]; exact ⟨h1, h2, h3⟩
theorem KT.put {H : Hp} {kvs : List (List Key × V)} {xs : List (List Key × Addr × Value)} (r : KT H kvs xs) (k : List Key) {b : Addr} {y : V} {u : Value} (hb : H b = some (.tup (k.map kV))) (ry : RelV y u) :
    KT H (putK kvs k y) (storedH xs k b u) := by
  have e : (kvs.any fun kv => decide (kv.1 = k)) = (atKey xs k).isSome := by
    rw [valV_any, (r.val k).isSome_eq, Option.isSome_map]
  unfold putK storedH
  rw [e]
  by_cases q : (atKey xs k).isSome = true
  · rw [if_pos q, if_pos q]; exact r.repl k ry
  · rw [if_neg q, if_neg q]; exact Paired.snoc r ⟨rfl, hb, ry⟩
theorem KT.keeps {H H' : Hp} {kvs : List (List Key × V)} {xs : List (List Key × Addr × Value)} (r : KT H kvs xs) (ht : ∀ b ys, H b = some (.tup ys) → H' b = some (.tup ys)) : KT H' kvs xs :=
  Paired.mapP r fun _ _ z => ⟨z.1, ht _ _ z.2.1, z.2.2⟩

section
variable {P : Program} {w : World} {H : Hp} {h : Heap} {a : Addr}
end

def DGet (H : Hp) (a : Addr) (y : V) (r : Option V) : Prop :=
  (∃ kvs k, Rd H a (.dK kvs) ∧ y = kV k ∧ r = valV kvs k) ∨ ∃ kvs k b, Rd H a (.dT kvs) ∧ y = .ref b ∧ H b = some (.tup (k.map kV)) ∧ r = valV kvs k
def DPut (H : Hp) (a : Addr) (y v : V) (H' : Hp) : Prop :=
  (∃ kvs k, H a = some (.dK kvs) ∧ y = kV k ∧ kvs.length < sizeLine ∧ H' = upd H a (.dK (putK kvs k v))) ∨
  ∃ kvs k b, H a = some (.dT kvs) ∧ y = .ref b ∧ H b = some (.tup (k.map kV)) ∧ kvs.length < sizeLine ∧ H' = upd H a (.dT (putK kvs k v))
theorem DGet.k {H : Hp} {a : Addr} {kvs : List (Key × V)} {k : Key} (e : H a = some (.dK kvs)) : DGet H a (kV k) (valV kvs k) := .inl ⟨kvs, k, .inl e, rfl, rfl⟩
theorem DGet.t {H : Hp} {a b : Addr} {kvs : List (List Key × V)} {k : List Key} (e : H a = some (.dT kvs)) (eb : H b = some (.tup (k.map kV))) : DGet H a (.ref b) (valV kvs k) := .inr ⟨kvs, k, b, .inl e, rfl, eb, rfl⟩
theorem DPut.k {H : Hp} {a : Addr} {kvs : List (Key × V)} {k : Key} {v : V} (e : H a = some (.dK kvs)) (hl : kvs.length < sizeLine) : DPut H a (kV k) v (upd H a (.dK (putK kvs k v))) := .inl ⟨kvs, k, e, rfl, hl, rfl⟩
theorem DPut.t {H : Hp} {a b : Addr} {kvs : List (List Key × V)} {k : List Key} {v : V} (e : H a = some (.dT kvs)) (eb : H b = some (.tup (k.map kV))) (hl : kvs.length < sizeLine) :
    DPut H a (.ref b) v (upd H a (.dT (putK kvs k v))) := .inr ⟨kvs, k, b, e, rfl, eb, hl, rfl⟩


section
variable {X : Cx} {pins : List (Addr × Obj)} {σ : St} {H : Hp} {s : Shared} {a : Addr} {y v : V} {u r : Value} {o : Option V} {A : Around} {E : Value → Shared → Prop}

end

section
variable {X : Cx} {pins : List (Addr × Obj)} {σ : St} {H : Hp} {s : Shared} {a : Addr} {kvs : List (Key × V)} {k : Key} {u : Value} {A : Around} {E : Value → Shared → Prop}
end


/-! ### readings and rules -/
def NoSl (i : Expr) : Prop := ∀ ov iv, subscripted i false ov iv = operate [ov, iv] (getItem ov iv)
def tDGet (td ty : TE) : TE := fun σ H Q => td σ H fun x H1 => ty σ H1 fun y H2 => ∃ a v, x = .ref a ∧ DGet H2 a y (some v) ∧ Q v H2
def tDIn (ty td : TE) : TE := fun σ H Q => ty σ H fun y H1 => td σ H1 fun x H2 => ∃ a o, x = .ref a ∧ DGet H2 a y o ∧ Q (.bl o.isSome) H2
def tDNotIn (ty td : TE) : TE := fun σ H Q => ty σ H fun y H1 => td σ H1 fun x H2 => ∃ a o, x = .ref a ∧ DGet H2 a y o ∧ Q (.bl (!o.isSome)) H2
def sDPut (td ty tv : TE) : TS := fun D σ H => tv σ H fun v H1 => td σ H1 fun x H2 => ty σ H2 fun y H3 => ∃ a H4, x = .ref a ∧ DPut H3 a y v H4 ∧ D.nx σ H4
def sDAug (td ty tv : TE) (rd : V → V → Hp → VK → Prop) : TS := fun D σ H => td σ H fun x H1 => ty σ H1 fun y H2 => ∃ a v, x = .ref a ∧ DGet H2 a y (some v) ∧
  tv σ H2 fun y2 H3 => rd v y2 H3 fun z H4 => ∃ H5, DPut H4 a y z H5 ∧ D.nx σ H5
def sDDel (td ty : TE) : TS := fun D σ H => td σ H fun x H1 => ty σ H1 fun y H2 => ∃ a kvs k, x = .ref a ∧ H2 a = some (.dK kvs) ∧ y = kV k ∧ (valV kvs k).isSome = true ∧ D.nx σ (upd H2 a (.dK (dropK kvs k)))

section
variable {X : Cx} {o i e value : Expr} {pos pos' tpos : Pos} {td ty tv : TE}
end


/-! ### displays -/
def tDNewK : TE := fun _ H Q => ∀ p, H p = none → Q (.ref p) (upd H p (.dK []))
def tDNewT : TE := fun _ H Q => ∀ p, H p = none → Q (.ref p) (upd H p (.dT []))
section
variable {X : Cx} {pos : Pos}
end

def tPairs : List (TE × TE) → St → Hp → (List (V × V) → Hp → Prop) → Prop
  | [], _, H, Q => Q [] H
  | (tk, tv) :: r, σ, H, Q => tk σ H fun x H1 => tv σ H1 fun y H2 => tPairs r σ H2 fun ps H3 => Q ((x, y) :: ps) H3
abbrev VV : List (V × V) → List (Value × Value) → Prop := Paired fun p q => RelV p.1 q.1 ∧ RelV p.2 q.2
def PPs (X : Cx) (pos : Pos) (keys : List (Option Expr)) (values : List Expr) (trs : List (TE × TE)) : Prop :=
  ∀ (pins : List (Addr × Obj)) (s : Shared) (σ : St) (H : Hp) (Q : List (V × V) → Hp → Prop), Inv X pins σ H s → tPairs trs σ H Q →
    wpAny (model X.prog X.w) X.A (evalPairs (pairTrees keys values X.env pos)) (fun vs s' => ∃ ps H', Inv X pins σ H' s' ∧ VV ps vs ∧ Q ps H') X.xe s
def mergeK (kvs more : List (Key × V)) : List (Key × V) := more.foldl (fun acc kv => putK acc kv.1 kv.2) kvs
def tDisp (trs : List (TE × TE)) : TE := fun σ H Q => ∀ p, H p = none → tPairs trs σ (upd H p (.dK [])) fun ps H2 => H2 p = some (.dK []) ∧ ∃ kvs : List (Key × V), ps = kvs.map (fun kv => (kV kv.1, kv.2)) ∧ kvs.length ≤ 15 ∧ Q (.ref p) (upd H2 p (.dK (mergeK [] kvs)))
/-! ### methods -/
structure M1 (X : Cx) (o : Expr) (m : Str) (apos : Pos) (e : Expr) (cpos : Pos) : Prop where
  base : attributeBase o m X.env (eval o X.env) = eval o X.env
  few : ((backTo cpos (starEach [e] X.env)).all (fun x => !x.1) && (backToKw cpos (keywordEach [] X.env)).all (fun x => x.1.isSome)
    && decide (([e] : List Expr).length + ([] : List Keyword).length + (if ([] : List Keyword).isEmpty then 0 else 1) < 30)) = true
  line : (apos.endLine == cpos.line) = true
  trees : backTo cpos (starEach [e] X.env) = [(false, eval e X.env)]
structure M2 (X : Cx) (o : Expr) (m : Str) (apos : Pos) (e f : Expr) (cpos : Pos) : Prop where
  base : attributeBase o m X.env (eval o X.env) = eval o X.env
  few : ((backTo cpos (starEach [e, f] X.env)).all (fun x => !x.1) && (backToKw cpos (keywordEach [] X.env)).all (fun x => x.1.isSome)
    && decide (([e, f] : List Expr).length + ([] : List Keyword).length + (if ([] : List Keyword).isEmpty then 0 else 1) < 30)) = true
  line : (apos.endLine == cpos.line) = true
  trees : backTo cpos (starEach [e, f] X.env) = [(false, eval e X.env), (false, eval f X.env)]

def IsD (H : Hp) (a : Addr) : Prop := (∃ kvs, Rd H a (.dK kvs)) ∨ ∃ kvs, Rd H a (.dT kvs)
section
variable {X : Cx} {pins : List (Addr × Obj)} {σ : St} {H : Hp} {s : Shared} {a : Addr} {y d : V} {u r : Value} {o : Option V} {A : Around} {E : Value → Shared → Prop}
end

def tDGet1 (td ty : TE) : TE := fun σ H Q => td σ H fun x H1 => ∃ a, x = .ref a ∧ IsD H1 a ∧ ty σ H1 fun y H2 => ∃ o, DGet H2 a y o ∧ Q (o.getD .non) H2
def tDGet2 (td ty tx : TE) : TE := fun σ H Q => td σ H fun x H1 => ∃ a, x = .ref a ∧ IsD H1 a ∧ ty σ H1 fun y H2 => tx σ H2 fun z H3 => ∃ o, DGet H3 a y o ∧ Q (o.getD z) H3
def tDPop1 (td ty : TE) : TE := fun σ H Q => td σ H fun x H1 => ∃ a, x = .ref a ∧ IsD H1 a ∧ ty σ H1 fun y H2 => ∃ kvs k v, H2 a = some (.dK kvs) ∧ y = kV k ∧ valV kvs k = some v ∧ Q v (upd H2 a (.dK (dropK kvs k)))
def tDPop2 (td ty tx : TE) : TE := fun σ H Q => td σ H fun x H1 => ∃ a, x = .ref a ∧ IsD H1 a ∧ ty σ H1 fun y H2 => tx σ H2 fun z H3 => ∃ kvs k, H3 a = some (.dK kvs) ∧ y = kV k ∧
  (∀ v, valV kvs k = some v → Q v (upd H3 a (.dK (dropK kvs k)))) ∧ (valV kvs k = none → Q z H3)
section
variable {X : Cx} {o e f : Expr} {apos cpos : Pos} {td ty tx : TE}
end

/-! ### dict(d): a copy -/
section
variable {X : Cx} {pins : List (Addr × Obj)} {σ : St} {H : Hp} {s : Shared} {a : Addr} {kvs : List (Key × V)} {A : Around} {E : Value → Shared → Prop}
end


section
variable {X : Cx} {pins : List (Addr × Obj)} {σ : St} {H : Hp} {s : Shared} {a : Addr} {y : V} {u : Value} {A : Around} {E : Value → Shared → Prop}
end
end L2

namespace L2
open PySem PySem.Spec PyProof.Rows

section
variable {prog : Program} {w : World} {A : Around} {E : Value → Shared → Prop}
end

section
variable {X : Cx}
end
end L2

namespace L2
open PySem PySem.Spec PyProof.Rows

section
variable {X : Cx} {pins : List (Addr × Obj)} {σ : St} {H : Hp} {s : Shared} {h' : Heap}
theorem Inv.turnedNew {t' : Nat} {ch : List Addr} {T : Addr} {ob : HO} (I : Inv X pins σ H s) (k : ∀ b o, b ∉ ch → s.heap.get? b = some o → h'.get? b = some o) (hf : ∀ b ∈ ch, FpOk X pins H b) (hT : s.heap.objs.size ≤ T)
    (new : ObjOk X.prog X.w (upd H T ob) h' T ob) : Inv X pins σ (upd H T ob) { s with heap := h', toks := t' } := by
  have hn : H T = none := I.hok.fresh hT
  have nit : ∀ b u, H b = some u → b ∉ ch := fun b u e z => by
    have q := (hf b z).1
    rw [q] at e; cases e
  refine I.step (g' := s.gens) (d' := s.drawn) (ch := ch) (fun b hb => ⟨(hf b hb).2.2.2.1, (hf b hb).2.1, (hf b hb).2.2.2.2.1, (hf b hb).2.2.2.2.2⟩) (fun b o _ _ hc e _ => k b o hc e) (fun b o _ _ hc e _ => ⟨o.slots, k b o hc e⟩)
    (fun b o _ e n => ?_) (fun b o hc e => ⟨o, k b o hc e⟩) (fun b xs e => ?_) (fun b o u e => ?_) (fun b ps e => ⟨#[], ?_⟩) (fun m hm => ?_) (fun b u e => ?_) I.bare
  · rw [upd_ne (Nat.ne_of_lt (Nat.lt_of_lt_of_le (Heap.lt_size e) hT))]; exact n
  · rw [upd_ne (ne_of_none e hn)]; exact e
  · rw [upd_ne (ne_of_none e hn)]; exact e
  · rw [upd_ne (ne_of_none e hn), e]; simp
  · obtain ⟨o, es, ep, ho, r⟩ := hm
    exact ⟨o, es, ep, k _ o (fun z => (hf _ z).2.1 rfl) ho, r⟩
  · by_cases hb : b = T
    · subst hb
      rw [upd_same] at e
      cases e
      exact new
    · rw [upd_ne hb] at e
      refine (I.hok b u e).stay (fun c v hc q => k c v ?_ q) (fun c q => by rw [upd_ne (ne_of_none q hn)]; exact q) fun c xs q => by rw [upd_ne (ne_of_none q hn)]; exact q
      rcases hc with z | z
      · rw [z]; exact nit b u e
      · exact nit c _ z

/-! ### locking a thing while a statement runs -/
end
def tLock (t : TS) : TS := fun D σ H => ∃ d u, H d = some u ∧ Mut (some u) ∧ ∀ od, t ⟨fun σ' H' => H' d = some (.frz od u) ∧ D.nx σ' (upd H' d u), fun v H' => H' d = some (.frz od u) ∧ D.rt v (upd H' d u), fun σ' H' => H' d = some (.frz od u) ∧ D.bk σ' (upd H' d u), fun σ' H' => H' d = some (.frz od u) ∧ D.ct σ' (upd H' d u)⟩ σ (upd H d (.frz od u))
def tLockE (t : TE) : TE := fun σ H Q => ∃ d u, H d = some u ∧ Mut (some u) ∧ ∀ od, t σ (upd H d (.frz od u)) fun v H' => H' d = some (.frz od u) ∧ Q v (upd H' d u)
section
variable {X : Cx}
/-! ### one iterator just laid -/
theorem pi_one {tg : Expr} {pins : List (Addr × Obj)} {σ : St} {H : Hp} {s : Shared} {R : It → Hp → Prop} {J : It} {tn : Nat → Heap → Prop} {tk : Nat} (I : Inv X pins σ H s) (o : Obj)
    (T : Turn X.prog X.w X.K tg J [s.heap.objs.size] s.heap.objs.size tn) (st : tn 0 (s.heap.push o)) (q : R J H) : PIE X pins σ tg R (.ref s.heap.objs.size) { s with heap := s.heap.push o, toks := tk } := by
  refine ⟨s.heap.objs.size, [s.heap.objs.size], tn, J, H, rfl, I.kept fun b ob e => Heap.get?_push_of_some _ e, T, st, fun b hb => ?_, q⟩
  have e : b = s.heap.objs.size := by simpa using hb
  subst e
  exact I.fpOk (Nat.le_refl _) (I.hok.fresh (Nat.le_refl _))
end

/-! ### range with a step -/
def Itc (lo c : Int) (n : Nat) : It := ⟨fun i _ => i < n, fun i H x H' => H' = H ∧ x = .int (lo + (i : Nat) * c), fun i _ => n ≤ i⟩
theorem turn_rangeC {P : Program} {w : World} {K : PySem.W.Frag} {tg : Expr} (it : Addr) (lo c : Int) (n : Nat) : Turn P w K tg (Itc lo c n) [it] it (fun i h => IsRangeIter h it (lo + (i : Nat) * c) ((n : Int) - (i : Nat)) c) where
  mem := by simp
  obj := fun i h st b hb => by
    have e : b = it := by simpa using hb
    subst e
    exact ⟨_, st, fun v z => nomatch z⟩
  keep := fun i h h' st k => k it (by simp) _ st
  item := by
    intro X hP hw hK hc i pins s σ H E I hf st hg
    subst hP hw hK
    obtain ⟨f0, f1, f2, f3, f4, f5⟩ := hf it (by simp)
    have W := Walks.range (prog := X.prog) (w := X.w) (I.ok.hd hc) it lo c n
    refine W.item i s _ _ hg st fun v h' tk hv st' kk => ?_
    obtain ⟨t, rfl⟩ := hv
    have I1 : Inv X pins σ H { s with heap := h', toks := tk } := I.turned (fun b o hb e => kk b o (by simpa using hb) e) f0 f1 f3 f4 f5
    exact ⟨_, rfl, go_of (s := { s with heap := h', toks := tk }) (n := "range_iterator") st' rfl rfl (by decide) ⟨.int (lo + (i : Nat) * c), H, I1, ⟨t, rfl⟩, ⟨rfl, rfl⟩, st', fun b hb => (hf b hb).1⟩⟩
  done := by
    intro X hP hw hK hc i pins s σ H E I hf st hg
    subst hP hw hK
    obtain ⟨f0, f1, f2, f3, f4, f5⟩ := hf it (by simp)
    exact wpAny_pyNext_range_end (I.ok.hd hc) st (by have : n ≤ i := hg; omega) fun h' eb => ⟨rfl, I.turned (t' := s.toks) (fun b o hb e => eb b o hb e) f0 f1 f3 f4 f5⟩
  self := fun A i s Q E st h => wpAny_pyIter_rangeiter st h
def RgC (i j c : Int) (n : Nat) : Prop := c ≠ 0 ∧ c.natAbs < 1073741824 ∧ Builtin.Range.small i j c = true ∧ Builtin.Range.rangeSize i j c = n
theorem RgC.neg {i j : Int} (ha : -(2 ^ 62) ≤ i) (ha' : i < 2 ^ 62) (hb : -(2 ^ 62) ≤ j) (hb' : j < 2 ^ 62) : RgC i j (-1) (i - j).toNat :=
  ⟨by decide, by decide, PySem.W.small_down ha ha' hb hb', PySem.W.rangeSize_downNat i j⟩
def iRng3 (ta : TA) : TI := fun σ H R => ta σ H fun vs H1 => ∃ (i j c : Int) (n : Nat), vs = [.int i, .int j, .int c] ∧ RgC i j c n ∧ R (Itc i c n) H1
section
variable {X : Cx} {tg : Expr}
theorem pi_range3 {a b c : Expr} {ta : TA} {p pos : Pos} (hg : Gl X "range") (hm : X.mg "range" = none) (ha : PA X [a, b, c] ta)
    (hs : starEach [a, b, c] X.env = (false, eval a X.env) :: starEach [b, c] X.env := by rfl) (hpl : (backTo pos (starEach [b, c] X.env)).any (·.1) = false := by rfl) :
    PI X tg (.Call (.Name "range" p) [a, b, c] [] pos) (iRng3 ta) := by
  intro pins s σ H R I h
  refine Call_ (ld_blt I hg hm boot_range (PyProof.Rows.callWith_type1 (thn (ha pos pins s σ H _ I h) fun us s1 ⟨vs, H1, I1, r1, q1⟩ => ?_) hs hpl))
  obtain ⟨i, j, k, n, e, ⟨c0, c1, c2, c3⟩, q⟩ := q1
  subst e
  cases r1 with
  | cons r rr =>
    cases rr with
    | cons r' rr =>
      cases rr with
      | cons r'' rr =>
        cases rr
        obtain ⟨t, rfl⟩ := r
        obtain ⟨t', rfl⟩ := r'
        obtain ⟨t'', rfl⟩ := r''
        refine call_range_3 c0 ?_ (.inl (PyProof.noPylong_small c1))
        refine wpAny_pyIter_range (IsRange.new ..) c2 ?_
        have I2 : Inv X pins σ H1 { s1 with heap := s1.heap.push { cls := .type "range", data := .fields #[.int i t, .int j t', .int k t''] } } := I1.kept (t' := s1.toks) fun b o e => Heap.get?_push_of_some _ e
        refine pi_one (tk := s1.toks) I2 _ (turn_rangeC _ i k n) ?_ q
        have e1 : i + ((0 : Nat) : Int) * k = i := by simp
        have e2 : (n : Int) - ((0 : Nat) : Int) = Builtin.Range.rangeSize i j k := by rw [c3]; simp
        show IsRangeIter _ _ (i + ((0 : Nat) : Int) * k) ((n : Int) - ((0 : Nat) : Int)) k
        rw [e1, e2]
        exact Heap.get?_push_size _ rfl
end
/-! ### reversed(list) -/
def Itv (K : PySem.W.Frag) (a : Addr) (n : Nat) : It :=
  ⟨fun i H => i < n ∧ ∃ (xs : List V) (x : V), SqL K H a xs ∧ xs[n - 1 - i]? = some x, fun i H x H' => H' = H ∧ ∀ xs, SqL K H a xs → xs[n - 1 - i]? = some x, fun i _ => n ≤ i⟩
def iRev (K : PySem.W.Frag) (ta : TA) : TI := fun σ H R => ta σ H fun vs H1 => ∃ (a : Addr) (xs : List V), vs = [.ref a] ∧ SqL K H1 a xs ∧ R (Itv K a xs.length) H1
section
variable {X : Cx} {tg : Expr}
end

/-! ### a str -/
def Its (x : Str) : It := ⟨fun i _ => i < x.cps.size, fun i H v H' => H' = H ∧ ∃ c, x.cps[i]? = some c ∧ v = .str ⟨#[c]⟩, fun i _ => x.cps.size ≤ i⟩
def iStr (te : TE) : TI := fun σ H R => te σ H fun v H1 => ∃ x, v = .str x ∧ R (Its x) H1
/-! ### a dict's keys: any dict's entries -/
section
variable {prog : Program} {w : World} {A : Around} {E : Value → Shared → Prop} {s : Shared}
end

/-! ### a locked dict -/
section
variable {X : Cx} {pins : List (Addr × Obj)} {σ : St} {H : Hp} {s : Shared} {d : Addr} {o : Obj}
end

def Itk (d : Addr) (o : Obj) (kvs : List (Key × V)) : It :=
  ⟨fun i H => H d = some (.frz o (.dK kvs)) ∧ i < kvs.length, fun i H x H' => H' = H ∧ ∃ k v, kvs[i]? = some (k, v) ∧ x = kV k, fun i H => H d = some (.frz o (.dK kvs)) ∧ kvs.length ≤ i⟩
def Itkt (d : Addr) (o : Obj) (kvs : List (List Key × V)) : It :=
  ⟨fun i H => H d = some (.frz o (.dT kvs)) ∧ i < kvs.length, fun i H x H' => H' = H ∧ ∃ (k : List Key) (v : V) (q : Addr), kvs[i]? = some (k, v) ∧ x = .ref q ∧ H q = some (.tup (k.map kV)), fun i H => H d = some (.frz o (.dT kvs)) ∧ kvs.length ≤ i⟩
def Itd (d : Addr) (o : Obj) (kvs : List (Key × V)) : It :=
  ⟨fun i H => H d = some (.frz o (.dK kvs)) ∧ i < kvs.length, fun i H x H' => H' = H ∧ ∃ k, kvs[i]? = some (k, x), fun i H => H d = some (.frz o (.dK kvs)) ∧ kvs.length ≤ i⟩
def Iti (d : Addr) (o : Obj) (kvs : List (Key × V)) : It :=
  ⟨fun i H => H d = some (.frz o (.dK kvs)) ∧ i < kvs.length, fun i H x H' => ∃ T k v, kvs[i]? = some (k, v) ∧ x = .ref T ∧ H T = none ∧ H' = upd H T (.tup [kV k, v]), fun i H => H d = some (.frz o (.dK kvs)) ∧ kvs.length ≤ i⟩
section
variable {P : Program} {w : World} {K : PySem.W.Frag} {tg : Expr} {d : Addr} {o : Obj} {es : Array DictEntry} {ep : Nat}
end

/-! ### for k in d, d.keys(), d.values(), d.items() -/
def iKeys (td : TE) : TI := fun σ H R => td σ H fun x H1 => ∃ d o, x = .ref d ∧ ((∃ kvs, H1 d = some (.frz o (.dK kvs)) ∧ R (Itk d o kvs) H1) ∨ ∃ kvs, H1 d = some (.frz o (.dT kvs)) ∧ R (Itkt d o kvs) H1)
def iVals (td : TE) : TI := fun σ H R => td σ H fun x H1 => ∃ d o kvs, x = .ref d ∧ H1 d = some (.frz o (.dK kvs)) ∧ R (Itd d o kvs) H1
def iItems (td : TE) : TI := fun σ H R => td σ H fun x H1 => ∃ d o kvs, x = .ref d ∧ H1 d = some (.frz o (.dK kvs)) ∧ R (Iti d o kvs) H1
def iKeysM (td : TE) : TI := fun σ H R => td σ H fun x H1 => ∃ d o kvs, x = .ref d ∧ H1 d = some (.frz o (.dK kvs)) ∧ R (Itk d o kvs) H1
section
variable {X : Cx} {tg e : Expr} {td : TE} {apos cpos : Pos}
end

/-! ### enumerate(list) -/
def Ite (K : PySem.W.Frag) (a : Addr) : It :=
  ⟨fun i H => ∃ (xs : List V) (x : V), SqL K H a xs ∧ xs[i]? = some x, fun i H v H' => ∃ T x, v = .ref T ∧ H T = none ∧ H' = upd H T (.tup [.int (i : Nat), x]) ∧ ∀ xs, SqL K H a xs → xs[i]? = some x, fun i H => ∃ xs : List V, SqL K H a xs ∧ xs.length ≤ i⟩
theorem turn_enum {P : Program} {w : World} {K : PySem.W.Frag} {elts : List Expr} {kk : Nat} {tpos : Pos} (a e it : Addr) :
    Turn P w K (.Tuple elts kk tpos) (Ite K a) [e, it] e (fun i h => (∃ old, IsEnum h e it ((i : Nat) : Int) old) ∧ h.IsListIter it a i ∧ e ≠ it) where
  mem := by simp
  obj := fun i h st b hb => by
    obtain ⟨⟨old, he⟩, ⟨o, ho, hc, hd⟩, _⟩ := st
    have e' : b = e ∨ b = it := by simpa using hb
    rcases e' with z | z
    · rw [z]; exact ⟨_, he, fun v q => nomatch q⟩
    · rw [z]; exact ⟨o, ho, fun v q => by rw [hd] at q; cases q⟩
  keep := fun i h h' st k => let ⟨⟨old, he⟩, hi, hne⟩ := st; ⟨⟨old, k e (by simp) _ he⟩, hi.at fun o q => k it (by simp) o q, hne⟩
  item := by
    intro X hP hw hK hc i pins s σ H E I hf st hg
    subst hP hw hK
    obtain ⟨⟨old, he⟩, hit, hne⟩ := st
    obtain ⟨xs, x, hq, hx⟩ := hg
    obtain ⟨its, rv, p, hz⟩ := I.list hq
    obtain ⟨u, hu, ru⟩ := rv.get hx
    have hel : e < s.heap.objs.size := Heap.lt_size he
    have hil : it < s.heap.objs.size := by obtain ⟨_, q, _⟩ := hit; exact Heap.lt_size q
    refine wpAny_pyNext_enum_item he hit p.isList (x := u) (by simpa using hu) hne fun h' ho hit' hT hsz hk => ?_
    refine ⟨_, rfl, wpAny_letOwnedTupleGo_enum (s := { s with heap := h', toks := s.toks + 1 }) ho fun h'' he' sb => ?_⟩
    have hT2 : h''.get? s.heap.objs.size = some { cls := .type "tuple", data := .seq #[.int i s.toks, u] } := (sb.2 _ (Nat.ne_of_gt hel)).trans hT
    have new : ObjOk X.prog X.w (upd H s.heap.objs.size (.tup [.int (i : Nat), x])) h'' s.heap.objs.size (.tup [.int (i : Nat), x]) :=
      ⟨by show 2 ≤ sizeLine; decide, [.int i s.toks, u], .cons ⟨_, rfl⟩ (.cons ru .nil), ⟨_, hT2, rfl, _, rfl⟩⟩
    have I1 : Inv X pins σ (upd H s.heap.objs.size (.tup [.int (i : Nat), x])) { s with heap := h'', toks := s.toks + 1 } :=
      I.turnedNew (ch := [e, it]) (fun b ob hb q => (sb.2 b (fun z => hb (by simp [z]))).trans (hk b ob (fun z => hb (by simp [z])) (fun z => hb (by simp [z])) q)) hf (Nat.le_refl _) new
    refine ⟨.ref s.heap.objs.size, _, I1, rfl, ⟨_, x, rfl, I.hok.fresh (Nat.le_refl _), rfl, fun ys hy => by rw [I.list_inj hy hq]; exact hx⟩, ⟨⟨u, ?_⟩, hit'.at fun o q => (sb.2 it (Ne.symm hne)).trans q, hne⟩, fun b hb => ?_⟩
    · have e1 : ((i + 1 : Nat) : Int) = (i : Int) + 1 := by omega
      rw [e1]; exact he'
    · have hb' : b < s.heap.objs.size := by
        have e' : b = e ∨ b = it := by simpa using hb
        rcases e' with z | z
        · rw [z]; exact hel
        · rw [z]; exact hil
      rw [upd_ne (Nat.ne_of_lt hb')]
      exact (hf b hb).1
  done := by
    intro X hP hw hK hc i pins s σ H E I hf st hg
    subst hP hw hK
    obtain ⟨⟨old, he⟩, hit, hne⟩ := st
    obtain ⟨xs, hq, hx⟩ := hg
    obtain ⟨its, rv, p, hz⟩ := I.list hq
    obtain ⟨f0, f1, f2, f3, f4, f5⟩ := hf it (by simp)
    have hl := rv.length
    exact wpAny_pyNext_enum_end (I.ok.hd hc) he hit p.isList (by simp; omega) fun h' eb => ⟨rfl, I.turned (t' := s.toks) (fun b o hb q => eb b o hb q) f0 f1 f3 f4 f5⟩
  self := fun A i s Q E st h => let ⟨⟨_, he⟩, _⟩ := st; wpAny_pyIter_enum he h
def iEnum (K : PySem.W.Frag) (ta : TA) : TI := fun σ H R => ta σ H fun vs H1 => ∃ a xs, vs = [.ref a] ∧ SqL K H1 a xs ∧ R (Ite K a) H1
theorem pi_enum {X : Cx} {e : Expr} {ta : TA} {p pos tpos : Pos} {elts : List Expr} {kk : Nat} (hg : Gl X "enumerate") (hm : X.mg "enumerate" = none) (ha : PA X [e] ta) (hs : starEach [e] X.env = [(false, eval e X.env)] := by rfl) :
    PI X (.Tuple elts kk tpos) (.Call (.Name "enumerate" p) [e] [] pos) (iEnum X.K ta) := by
  intro pins s σ H R I h
  refine Call_ (ld_blt I hg hm boot_enumerate (PyProof.Rows.callWith_type1 (thn (ha pos pins s σ H _ I h) fun us s1 ⟨vs, H1, I1, r1, q1⟩ => ?_) hs rfl))
  obtain ⟨a, xs, ex, hq, q⟩ := q1
  subst ex
  cases r1 with
  | cons r rr =>
    cases rr
    cases r
    obtain ⟨its, rv, p', hz⟩ := I1.list hq
    refine call_enumerate_list p'.isList fun h' he hit hsz hk => wpAny_pyIter_enum he ?_
    have I2 : Inv X pins σ H1 { s1 with heap := h' } := I1.kept (t' := s1.toks) hk
    refine ⟨s1.heap.objs.size + 1, [s1.heap.objs.size + 1, s1.heap.objs.size], _, _, H1, rfl, I2, turn_enum a (s1.heap.objs.size + 1) s1.heap.objs.size, ⟨⟨.none, he⟩, hit, Nat.succ_ne_self _⟩, fun b hb => ?_, q⟩
    have e' : b = s1.heap.objs.size + 1 ∨ b = s1.heap.objs.size := by simpa using hb
    have hle : s1.heap.objs.size ≤ b := by
      rcases e' with z | z
      · rw [z]; exact Nat.le_add_right _ _
      · rw [z]; exact Nat.le_refl _
    exact I1.fpOk hle (I1.hok.fresh hle)
/-! ### zip(list, list) -/
def Itz (K : PySem.W.Frag) (a b : Addr) : It :=
  ⟨fun i H => ∃ (xs ys : List V) (x y : V), SqL K H a xs ∧ SqL K H b ys ∧ xs[i]? = some x ∧ ys[i]? = some y,
    fun i H v H' => ∃ T x y, v = .ref T ∧ H T = none ∧ H' = upd H T (.tup [x, y]) ∧ (∀ xs, SqL K H a xs → xs[i]? = some x) ∧ ∀ ys, SqL K H b ys → ys[i]? = some y,
    fun i H => ∃ xs ys : List V, SqL K H a xs ∧ SqL K H b ys ∧ (xs.length ≤ i ∨ ys.length ≤ i)⟩
def iZip (K : PySem.W.Frag) (ta : TA) : TI := fun σ H R => ta σ H fun vs H1 => ∃ a b xs ys, vs = [.ref a, .ref b] ∧ SqL K H1 a xs ∧ SqL K H1 b ys ∧ R (Itz K a b) H1
end L2

section 
namespace Bits
open PySem PyProof.Rows

end Bits
end 

section 
namespace TL
open PySem PySem.Builtin PySem.Builtin.Str PySem.StrLaws

abbrev tl (x : Str) : List Nat := x.cps.toList
theorem len_tl (x : Str) : x.length = (tl x).length := by simp [tl, Str.length]
/-! ### the list functions -/
def pre (S l : List Nat) : Bool := l.take S.length == S
def spl (S : List Nat) : Nat → List Nat → List Nat → List (List Nat)
  | _, acc, [] => [acc]
  | 0, acc, c :: r => if pre S (c :: r) = true then acc :: spl S (S.length - 1) [] r else spl S 0 (acc ++ [c]) r
  | k + 1, acc, _ :: r => spl S k acc r
def par (S : List Nat) : List Nat → List Nat → Option (List Nat × List Nat)
  | _, [] => none
  | acc, c :: r => if pre S (c :: r) = true then some (acc, (c :: r).drop S.length) else par S (acc ++ [c]) r

/-! ### the model's split and partition are these -/
theorem len1 {y : Str} (hy : tl y ≠ []) : 1 ≤ y.length := by
  have e2 : 0 < (tl y).length := List.length_pos_iff.mpr hy
  rw [len_tl y]
  exact e2
/-! ### computing spl and par -/
def joinL (S : List Nat) : List (List Nat) → List Nat
  | [] => []
  | [p] => p
  | p :: q :: r => p ++ (S ++ joinL S (q :: r))
/-! ### digits -/
def numL (n : Nat) : List Nat := (Nat.toDigits 10 n).map Char.toNat
/-! ### words: x.split() -/
def wstep (st : List (List Nat) × List Nat) (c : Nat) : List (List Nat) × List Nat :=
  if Unicode.isSpace c = true then (if st.2 = [] then st else (st.1 ++ [st.2], [])) else (st.1, st.2 ++ [c])
def wfin (st : List (List Nat) × List Nat) : List (List Nat) := if st.2 = [] then st.1 else st.1 ++ [st.2]
end TL
end 

namespace L2
open PySem PySem.Spec PyProof.Rows

def rNewStrs (ys : List Str) : Hp → VK → Prop := fun H Q => ∀ p, H p = none → Q (.ref p) (upd H p (.lst (ys.map V.str)))

section
variable {X : Cx} {pins : List (Addr × Obj)} {σ : St} {H : Hp} {s : Shared} {Q : VK}
end

section
variable {X : Cx}

/-! ### of a text alone -/
/-! ### of a text and a text -/
end

section
variable {X : Cx} {o e : Expr} {to te : TE}
def tM0 (r : V → List V → Hp → VK → Prop) (to : TE) : TE := fun σ H Q => to σ H fun x H1 => (∃ a, x = .str a) ∧ r x [] H1 Q
def tM1 (r : V → List V → Hp → VK → Prop) (to te : TE) : TE := fun σ H Q => to σ H fun x H1 => (∃ a, x = .str a) ∧ te σ H1 fun y H2 => r x [y] H2 Q
end
end L2

namespace L2
open PySem PySem.Spec PyProof.Rows

section
variable {X : Cx}
end

/-! ### slices of a text -/
def clipS (n d : Nat) : Option Int → Int
  | none => (d : Int)
  | some i => max 0 (min (if i < 0 then i + (n : Int) else i) (n : Int))
def cutS (z : Str) (lo hi : Option Int) : Str :=
  ⟨((z.cps.toList.drop (HT.sIx z.length 0 lo)).take (HT.sIx z.length z.length hi - HT.sIx z.length 0 lo)).toArray⟩
def rSlS : V → Option Int → Option Int → Hp → VK → Prop := fun x lo hi H Q => ∃ z, x = .str z ∧ z.length ≤ sizeLine ∧ Q (.str (cutS z lo hi)) H
end L2

namespace Att
open PySem PySem.W PySem.Calls PyProof.Rows

/-! ### the script -/
theorem ints_of_wellAll {P : Params} {h : Heap} : ∀ (ns : List Int) (vs : List Value), WellAll P h vs (ns.map WData.int) → IntsAre vs ns := by
  intro ns
  induction ns with
  | nil =>
    intro vs w
    rw [List.map_nil] at w
    cases w
    exact .nil
  | cons n ns ih =>
    intro vs w
    rw [List.map_cons] at w
    cases w with
    | cons a b =>
      cases a
      exact .cons _ _ (ih _ b)

theorem script_of {l : OpenLaw} {n : Nat} (hn : l.most = some n) {P : Params} {h : Heap} {args : List WData} {vals : List Value}
    (hpre : l.row.toRowW.claim.pre args = true) (hwl : WellAll P h vals args) :
    ∃ a vs ns, vals = [Value.ref a] ∧ args = [WData.list (ns.map WData.int)] ∧ h.get? a = some { cls := .type "list", data := .seq vs.toArray } ∧ IntsAre vs ns ∧ ns.length ≤ n := by
  have hsh : WShape.hasAll [] args [.list .int] = true := (pre_splitW hpre).1
  have hc : l.pre.holds [] { args := args } = true := (pre_splitW hpre).2
  obtain ⟨d, r, rfl, h1, h2⟩ := hasAllW_cons hsh
  obtain rfl := hasAllW_nil h2
  obtain ⟨xs, rfl, h3⟩ := hasW_list h1
  obtain ⟨ns, rfl⟩ := items_int h3
  have hlen : ns.length ≤ n := by
    unfold OpenLaw.pre at hc
    have h4 : (WTm.not (.lt (.lit (.int (n : Int))) (.len (.arg 0)))).holds [] { args := [.list (ns.map .int)] } = true := by
      have h4 := (holds_andW hc).1
      rw [hn] at h4
      exact h4
    have h5 := condW_of h4 (w_not (w_lt w_lit (w_len_list (w_arg rfl))))
    rw [List.length_map] at h5
    refine Nat.le_of_not_lt fun q => ?_
    have q' : (n : Int) < ((ns.length : Nat) : Int) := by omega
    first
      | (rw [decide_eq_true q'] at h5; exact absurd h5 (by decide))
      | (simp at h5; omega)
  cases hwl with
  | cons w1 w2 =>
    cases w2
    cases w1 with
    | list ho hall => exact ⟨_, _, ns, rfl, rfl, ho, ints_of_wellAll ns _ hall, hlen⟩

theorem post_true (l : OpenLaw) (args : List WData) : l.row.toRowW.claim.post args (.bool true) args = true :=
  postW_of (r := l.row.toRowW) (X := (true == true))
    (show WShape.has [] (.bool true) .bool = true by first | rfl | decide | simp [WShape.has, WShape.arms, WShape.armsAll])
    (show (WTm.eq .res (.lit (.bool true))).value [] { args := args, res := some (.bool true), after := args } = some (.bool (true == true)) from w_eq_bool (w_res rfl) w_lit) rfl

/-! ### the attachment: holds_open's last premise (the goal 'hc' behind k_head) from a wpAny of the law's body -/
theorem attach_call {l : OpenLaw} {n : Nat} {q : Program} {loose : List Str} {XP : (Str → Option Value) → Heap → Prop} {YP : World → Heap → Prop} {d : DefRec}
    (hn : l.most = some n) (hdf : d.params.defaults = [])
    (call : ∀ (w : World) (s₀ s₁ : Shared) (mg mb : Str → Option Value) (fa : Addr) (o : Obj) (pm cd doc : Value) (a : Addr) (vs : List Value) (ns : List Int),
      Ground q loose [] XP w s₀ mg mb s₁.heap → YP w s₁.heap →
      s₁.heap.get? fa = some o → o.data = .func (docDef d.name d.params d.body d.scope pm cd doc) → s₁.heap.CodeRec cd d.name → mg d.name = some (.ref fa) →
      s₁.heap.get? a = some { cls := .type "list", data := .seq vs.toArray } → IntsAre vs ns → ns.length ≤ n → s₁.gens = #[] →
      codeAny (model l.prog w) callerA (.call (.ref fa) ⟨[.ref a], []⟩) (fun r s' => r = .ok (.ret (.bool true)) ∧ OldK s₁.heap s'.heap ∧ s'.os = s₁.os ∧ AllBare s'.gens) s₁) :
    WalkO q loose XP YP l.row.toRowW d [] (fun f vs => PySem.call f vs) := by
  intro w s₀ s₁ mg mb G Y fa o pm cd doc dV kV ho hd hcd hD hmg hg args vals as hpre hlay hrd hwl hlo
  obtain rfl : dV = .none := Dflts.none hD hdf
  obtain rfl : kV = .none := Dflts.noKw hD
  obtain ⟨a, vs, ns, rfl, rfl, hobj, hints, hlen⟩ := script_of hn hpre hwl
  refine enter_call (codeAny_mono (call w s₀ s₁ mg mb fa o pm cd doc a vs ns G Y ho (fd_plain hd) hcd hmg hobj hints hlen hg) fun r s' hq => ?_)
  obtain ⟨rfl, h2, h3, h4⟩ := hq
  exact ⟨.inl ⟨.bool true, .bool true, [], rfl, fun _ => rfl, .bool true, post_true l _, fun _ => ⟨List.Pairwise.nil, fun _ hm => (nomatch hm)⟩⟩, h2, h3, h4⟩

/-! ### rules over ANY heap (no ledger) from facts about the written part K: the library's own take a ledger (News) for what they write -/
section
variable {prog : Program} {w : World} {A : Around} {E : Value → Shared → Prop} {s : Shared} {K : Frag}

/-! the whole heap as the ledger: makes every rule that writes through a ledger a rule over any heap -/
def noObjs (h : Heap) : Heap := { h with objs := #[] }
def ledger (h : Heap) (L d : Addr) : List (Addr × Obj) := (List.range h.objs.size).filterMap fun a => if a = L ∨ a = d then none else (h.get? a).map fun o => (a, o)
end
end Att

namespace L2
open PySem PySem.Spec PyProof.Rows

theorem vals_ints : ∀ {vs : List Value} {ns : List Int}, IntsAre vs ns → Vals (ns.map V.int) vs
  | _, _, .nil => .nil
  | _, _, .cons n t h => .cons ⟨t, rfl⟩ (vals_ints h)

def Only (H : Hp) : Prop := ∀ b, H b = none ∨ ∃ o xs, H b = some (.frz o (.lst xs))

theorem law_call {P : Program} {w : World} {K : PySem.W.Frag} {mg mb : Str → Option Value} {CX : CXT} {k : Nat} {fa a : Addr} {fd : FuncData} {x : Str} {sp : Sp} {s₁ : Shared} {vs : List Value} {ns : List Int}
    (KX : K.In s₁.heap) (hns : s₁.heap.Ns mainGlobals mg) (hb : s₁.heap.Ns builtinsNs mb) (hbb : ∀ x : Str, x ≠ "__name__" → mb x = bootBuiltins x) (hlim : s₁.heap.NoLimit) (hg : s₁.gens = #[])
    (ha : s₁.heap.get? a = some { cls := .type "list", data := .seq vs.toArray }) (hi : IntsAre vs ns) (hl : ns.length ≤ sizeLine) (hr : Room k callerA)
    (F : ∀ base : Heap, K.In base → base.Ns mainGlobals mg → FnOk P w K mg base CX k fa fd [x] sp) (hbind : ∀ (s : Shared) (u : Value), BindsTo s fd ⟨[u], []⟩ [(x, u)])
    (hsp : ∀ H : Hp, Only H → SqL K H a (ns.map V.int) → sp [.ref a] H (fun v _ => v = .bl true) fun _ _ _ => False)
    (hCX : ∀ H e s', CX [] H s₁ (fun _ _ _ => False) e s' → False) :
    codeAny (model P w) callerA (.call (.ref fa) ⟨[.ref a], []⟩) (fun r s' => r = .ok (.ret (.bool true)) ∧ OldK s₁.heap s'.heap ∧ s'.os = s₁.os ∧ AllBare s'.gens) s₁ := by
  have rv := vals_ints hi
  have lenV := hi.length
  -- from an abstract heap in which nothing but the script may be tracked
  have core : ∀ H : Hp, Only H → SqL K H a (ns.map V.int) → HOk P w H s₁.heap → (∀ b, H b ≠ none → b = a) → (H a ≠ none → K.lookup a = none) →
      codeAny (model P w) callerA (.call (.ref fa) ⟨[.ref a], []⟩) (fun r s' => r = .ok (.ret (.bool true)) ∧ OldK s₁.heap s'.heap ∧ s'.os = s₁.os ∧ AllBare s'.gens) s₁ := by
    intro H hO hS hok hA hK
    have base_of : ∀ {b : Addr} {o : Obj}, s₁.heap.get? b = some o → H b = none → (hidT s₁.heap H).get? b = some o := fun e n => hidT_get e n
    have noA : ∀ {b : Addr} {o : Obj} {es : Array DictEntry} {ep : Nat}, s₁.heap.get? b = some o → o.data = .dict es ep → H b = none := fun {b o es ep} e d => by
      cases q : H b with
      | none => rfl
      | some u =>
        have e' : b = a := hA b (by rw [q]; simp)
        subst e'
        rw [ha] at e; cases e
        have d' : Data.seq vs.toArray _ = Data.dict es ep := d
        cases d'
    have nsK : ∀ {b : Addr} {m : Str → Option Value}, s₁.heap.Ns b m → (hidT s₁.heap H).Ns b m := fun {b m} ⟨o, es, ep, e, d, r⟩ => ⟨o, es, ep, base_of e (noA e d), d, r⟩
    have hKb : K.In (hidT s₁.heap H) := fun b o e => base_of (KX b o e) (by
      cases q : H b with
      | none => rfl
      | some u =>
        have e' : b = a := hA b (by rw [q]; simp)
        subst e'
        rw [hK (by rw [q]; simp)] at e; cases e)
    have hM : Mod K mg (hidT s₁.heap H) := ⟨hKb, nsK hns, ⟨mb, nsK hb, hbb⟩, let ⟨mc, h1, h2⟩ := hlim; ⟨mc, nsK h1, h2⟩⟩
    have e0 : Env0 P w K mg (hidT s₁.heap H) callerA [] s₁ H := ⟨rfl, hM, fun b o e => of_hidT e, Nat.le_of_eq (hidT_size _ _), trivial, fun b hb => absurd (show b ∈ ([] : List Addr) from hb) (by simp), hok, .of_eq hg⟩
    refine codeAny_mono ((F _ hKb (nsK hns)).run callerA [] s₁ H ⟨[.ref a], []⟩ [.ref a] [.ref a] _ _ hr e0 (hbind s₁ (.ref a)) (.cons rfl .nil) (hsp H hO hS)) fun r s' h => ?_
    cases r with
    | error e => exact (hCX H e s' h).elim
    | ok fl =>
      cases fl with
      | next => exact False.elim h
      | brk => exact False.elim h
      | cont => exact False.elim h
      | ret u =>
        obtain ⟨v, H', os, bare, un, hok', r', q⟩ := h
        have q' : v = .bl true := q
        subst q'
        obtain rfl : u = Value.bool true := r'
        refine ⟨rfl, OldK.of_keep fun b o e => ?_, os, bare⟩
        cases q : H b with
        | none => exact un.keep b o e q (by intro z; exact absurd (show b ∈ ([] : List Addr) from z) (by simp)) (by simp)
        | some u =>
          rcases hO b with z | ⟨ob, xs, z⟩
          · rw [q] at z; cases z
          · have z2 := un.frzs b ob _ z
            obtain ⟨e1, _⟩ := hok b _ z
            obtain ⟨e2, _⟩ := hok' b _ z2
            rw [e] at e1; cases e1
            exact e2
  cases hk : K.lookup a with
  | some o =>
    -- the script is one of the module's own objects
    have e := KX a o hk
    rw [ha] at e
    cases e
    refine core (fun _ => none) (fun _ => .inl rfl) (.inr ⟨_, vs.toArray, _, hk, rfl, rfl, rfl, by rw [List.size_toArray, lenV]; exact hl, by simpa using rv⟩) (fun b u z => by have z' : (none : Option HO) = some u := z; cases z') (fun b z => absurd rfl z) fun z => absurd rfl z
  | none =>
    refine core (fun b => if b = a then some (.frz { cls := .type "list", data := .seq vs.toArray } (.lst (ns.map V.int))) else none) (fun b => ?_) (.inl (.inr ⟨{ cls := .type "list", data := .seq vs.toArray }, if_pos rfl⟩)) (fun b u z => ?_) (fun b z => ?_) fun _ => hk
    · by_cases hb : b = a
      · exact .inr ⟨_, _, if_pos hb⟩
      · exact .inl (if_neg hb)
    · by_cases hb : b = a
      · have z' := (if_pos hb).symm.trans z
        cases z'
        subst hb
        exact ⟨ha, by rw [List.length_map]; exact hl, vs, _, rv, ha⟩
      · have z' := (if_neg hb).symm.trans z
        cases z'
    · by_cases hb : b = a
      · exact hb
      · exact absurd (if_neg hb) z
end L2

namespace L2
open PySem PySem.Spec PyProof.Rows

abbrev KOf {K : PySem.W.Frag} {h : Heap} (_ : K.In h) : PySem.W.Frag := K

theorem walk_of {l : PySem.W.OpenLaw} {n k : Nat} {q : Program} {loose : List Str} {XP : (Str → Option Value) → Heap → Prop} {YP : World → Heap → Prop} {d : DefRec} {K : Params → PySem.W.Frag} {CX : World → CXT} {sp : World → Sp} {x : Str}
    (hn : l.most = some n) (hn2 : n ≤ sizeLine) (hdf : d.params.defaults = []) (hr : Room k callerA)
    (hY : ∀ (w : World) (h : Heap), YP w h → (K w.params).In h)
    (F : ∀ (w : World) (mg : Str → Option Value) (fa : Addr) (h : Heap), (K w.params).In h → h.Ns mainGlobals mg → mg d.name = some (.ref fa) →
      ∃ fd : FuncData, (∀ (s : Shared) (u : Value), BindsTo s fd ⟨[u], []⟩ [(x, u)]) ∧
        ∀ base : Heap, (K w.params).In base → base.Ns mainGlobals mg → FnOk l.prog w (K w.params) mg base (CX w) k fa fd [x] (sp w))
    (hsp : ∀ (w : World) (H : Hp) (a : Addr) (ns : List Int), ns.length ≤ n → Only H → SqL (K w.params) H a (ns.map V.int) → sp w [.ref a] H (fun v _ => v = .bl true) fun _ _ _ => False)
    (hCX : ∀ (w : World) (H : Hp) (s : Shared) (e : Value) (s' : Shared), CX w [] H s (fun _ _ _ => False) e s' → False) :
    PySem.W.WalkO q loose XP YP l.row.toRowW d [] (fun f vs => PySem.call f vs) := by
  refine Att.attach_call hn hdf fun w s₀ s₁ mg mb fa o pm cd doc a vs ns G Y ho hd hcd hmg hobj hints hlen hg => ?_
  have KX := hY w _ Y
  obtain ⟨fd, hb, hF⟩ := F w mg fa _ KX G.T.g hmg
  exact law_call KX G.T.g G.T.b G.T.builtins G.T.nolimit hg hobj hints (Nat.le_trans hlen hn2) hr hF hb (fun H hO hS => hsp w H a ns hlen hO hS) fun H e s' => hCX w H s₁ e s'
end L2

/- THE LAST THEOREM (shape; LID, My.* are yours):
   My.Adr: a structure of the addresses that your layer names (classes, functions); My.Txt K t: a structure (Prop) of the equations over K;
   My.txt_mk : {K} {implicit addresses ..} (e1 : nsIn K mainGlobals "law" = some (some (.ref f))) (e2 : K.lookup f = some ⟨oc, od, .func (fnOf "law" "law" params body scope dV kV doc pm an cdv ct), sl⟩) (e3 : codeIn K cdv "law" = true) .. : ∃ t, My.Txt K t

set_option maxRecDepth 100000 in
set_option maxHeartbeats 0 in
theorem PySem.Challenge.cw_LID_holds : PySem.Challenge.rw_LID.Holds := by
  w_on; o_law; k_head; (case hw => w_witness2)
  k_fill
  refine L2.walk_of (l := PySem.Challenge.rw_LID) (n := 63) (k := 40) (x := "script") (CX := fun w => ..) (sp := fun _ => My.sp_law) rfl (by decide) rfl ⟨rfl, by decide, by decide⟩ (fun w h Y => PySem.W.kIn_of Y) ?F ?S ?C
  case F =>
    intro w mg fa h KX G hmg
    have T : ∃ t, My.Txt (L2.KOf KX) t := by
      dsimp only [L2.KOf]                          -- K must stand as «<heap const> w.params» for k_is
      refine' My.txt_mk ?e1 ?e2 ?e3 ..
      (case e1 => PySem.W.k_is)                    -- in the order: a name -> its address -> its object -> its parts
      (case e2 => PySem.W.k_is)
      ..
    obtain ⟨t, T⟩ := T
    have e0 := hmg.symm.trans (PySem.W.mg_of KX G T.law)
    cases e0                                       -- fa is the law's own address
    exact ⟨_, fun s u => .of_eq rfl, fun base kb nb => My.law_fn T kb nb⟩     -- if «.of_eq rfl» comes too early: refine' ⟨_, ?b, fun base kb nb => My.law_fn T kb nb⟩; exact fun s u => .of_eq rfl
  case S => exact fun w H a ns hl hO hS => ..
  case C => exact ..
(the tactic k_is has no namespace: write k_is) -/

/-! SHORT WORDS over the layer: a def of the text, its body, what a loop and a test want. -/
namespace L2
open PySem PySem.Spec PyProof.Rows

/-! ### the text by places -/
def inClass (s : Stmt) (j : Nat) : Stmt := match s with
  | .ClassDef _ _ _ body _ _ _ _ _ _ _ => body.getD j (.Pass ⟨0, 0, 0, 0⟩)
  | _ => .Pass ⟨0, 0, 0, 0⟩
def defArgs (s : Stmt) : Arguments := match s with
  | .FunctionDef _ a _ _ _ _ _ _ _ _ => a
  | _ => { posonlyargs := [], args := [], vararg := none, kwonlyargs := [], kw_defaults := [], kwarg := none, defaults := [] }
def defBody (s : Stmt) : List Stmt := match s with
  | .FunctionDef _ _ b _ _ _ _ _ _ _ => b
  | _ => []
def defScope (s : Stmt) : Scope := match s with
  | .FunctionDef _ _ _ _ _ _ sc _ _ _ => sc
  | _ => { kind := .function, names := [], isGenerator := false, isCoroutine := false }

/-! ### no exception leaves a def -/
abbrev CX0 : CXT := fun _ _ _ _ _ _ => False
abbrev E0 : XK := fun _ _ _ => False
theorem pass0 {X : Cx} : Passes CX0 X E0 := fun _ _ _ _ _ _ _ h => h.elim

/-! ### a def (or method) of the text as it stands behind the top -/
structure Fun (K : PySem.W.Frag) (x qual : Str) (st : Stmt) (f : Addr) (fd : FuncData) : Prop where
  ex : ∃ (oc : Value) (od : Option Addr) (kV doc pm : Value) (an : Option Addr) (cdv ct : Value) (osl : Array (Option Value)),
    fd = PySem.W.fnOf x qual (defArgs st) (defBody st) (defScope st) .none kV doc pm an cdv ct ∧ K.lookup f = some ⟨oc, od, .func fd, osl⟩ ∧ PySem.W.codeIn K cdv qual = true
  kp : PySem.W.keepIn K (.ref f) = true
section
variable {P : Program} {w : World} {K : PySem.W.Frag} {mg : Str → Option Value} {base : Heap}
theorem Fun.ok {x qual : Str} {st : Stmt} {f : Addr} {fd : FuncData} {N ps : List Str} {k : Nat} {sp : Sp} (F : Fun K x qual st f fd) (S : FnScope N ps (defScope st)) (len : ∀ vs H Q E, sp vs H Q E → vs.length = ps.length)
    (hbody : ∀ (cdv : Value) (A : Around) (outer : List Env) (s : Shared) (H : Hp) (vs : List V) (Q : VK) (E : XK), Room k (A.deeper (envOfC qual (defScope st) s.heap.objs.size f cdv)) → sp vs H Q E →
      ∃ t, PSs (cxOf CX0 P w K mg base N qual (defScope st) f cdv A outer s H E).nox (defBody st) t ∧ t { nx := fun _ H' => Q .non H', rt := Q } (start N vs) H) : FnOk P w K mg base CX0 (k + 1) f fd ps sp := by
  obtain ⟨oc, od, kV, doc, pm, an, cdv, ct, osl, rfl, lk, hcd⟩ := F.ex
  refine fn_of lk hcd S len fun A outer s H vs Q E hr hsp => ?_
  obtain ⟨t, h, q⟩ := hbody cdv A outer s H vs Q E hr hsp
  exact ⟨t, h.nox, q⟩
theorem Fun.binds {x qual : Str} {st : Stmt} {f : Addr} {fd : FuncData} {ps : List Str} (F : Fun K x qual st f fd)
    (h : ∀ (kV doc pm : Value) (an : Option Addr) (cdv ct : Value) (us : List Value), us.length = ps.length → bindArgs (PySem.W.fnOf x qual (defArgs st) (defBody st) (defScope st) .none kV doc pm an cdv ct) ⟨us, []⟩ = pure (ps.zip us)) : Binds K fd ps [] := by
  obtain ⟨oc, od, kV, doc, pm, an, cdv, ct, osl, rfl, lk, hcd⟩ := F.ex
  exact .all (h kV doc pm an cdv ct)
theorem fun_mk {x qual : Str} {st : Stmt} {f : Addr} {oc : Value} {od an : Option Addr} {osl : Array (Option Value)} {kV doc pm cdv ct : Value} (l : K.lookup f = some ⟨oc, od, .func (PySem.W.fnOf x qual (defArgs st) (defBody st) (defScope st) .none kV doc pm an cdv ct), osl⟩)
    (c : PySem.W.codeIn K cdv qual = true) (k : PySem.W.keepIn K (.ref f) = true) : Fun K x qual st f (PySem.W.fnOf x qual (defArgs st) (defBody st) (defScope st) .none kV doc pm an cdv ct) := ⟨⟨oc, od, kV, doc, pm, an, cdv, ct, osl, rfl, l, c⟩, k⟩
end
/-! ### expressions in short: the name that stands in the i-th slot -/
section
variable {X : Cx}
theorem pv (i : Nat) {x : Str} {pos : Pos} (hN : X.N[i]? = some x := by rfl) (hv : Vis X.env.scope x := by first | exact Or.inl rfl | exact Or.inr (Or.inl rfl) | exact Or.inr (Or.inr rfl)) (hd : (x == ("__debug__" : Str)) = false := by decide)
    (hcd : (x == ("__classdict__" : Str)) = false := by decide) : PE X (.Name x pos) (tVar i) := pe_var hN hv hd hcd
end

/-! ### tests -/
theorem iteF {A B : Prop} (h : B) : if false = true then A else B := by
  rw [if_neg Bool.false_ne_true]
  exact h
theorem iteT {A B : Prop} (h : A) : if true = true then A else B := by
  rw [if_pos rfl]
  exact h
/-! ### heaps -/
def Same (H H' : Hp) : Prop := ∀ b o, H b = some o → H' b = some o
theorem Same.refl (H : Hp) : Same H H := fun _ _ h => h
theorem Same.trans {H H1 H2 : Hp} (a : Same H H1) (b : Same H1 H2) : Same H H2 := fun c o h => b c o (a c o h)
theorem Same.free {H H' : Hp} (e : Same H H') {l : Addr} (h : H' l = Option.none) : H l = Option.none := by
  cases q : H l with
  | none => rfl
  | some o =>
    rw [e l o q] at h
    cases h
theorem Same.seq {K : PySem.W.Frag} {H H' : Hp} {a : Addr} {xs : List V} (e : Same H H') (h : SqL K H a xs) : SqL K H' a xs := by
  rcases h with (h | ⟨o, h⟩) | h
  · exact .inl (.inl (e _ _ h))
  · exact .inl (.inr ⟨o, e _ _ h⟩)
  · exact .inr h

/-! ### a dict's pairs: keys that differ -/
section
variable {κ : Type} [DecidableEq κ]
end
/-! ### lists -/
theorem nd_ix {α : Type} {l : List α} (hN : l.Nodup) {i j : Nat} {x : α} (a : l[i]? = some x) (b : l[j]? = some x) : i = j := by
  obtain ⟨h1, e1⟩ := List.getElem?_eq_some_iff.mp a
  obtain ⟨h2, e2⟩ := List.getElem?_eq_some_iff.mp b
  exact (List.getElem_inj hN).mp (e1.trans e2.symm)
theorem Same.made {H H1 : Hp} {x dx C : Addr} (nx : H x = Option.none) (nd : H dx = Option.none) (k : ∀ b o, (upd (upd H dx (.own x)) x (.ins C dx [])) b = some o → b ≠ x → H1 b = some o) : Same H H1 := fun b o e =>
  k b o (by rw [upd_ne (ne_of_none e nx), upd_ne (ne_of_none e nd)]; exact e) (ne_of_none e nx)
end L2

set_option Elab.async false
set_option linter.all false
set_option maxRecDepth 100000
namespace L2
open PySem PySem.Spec PyProof.Rows
section
variable {X : Cx}
/-! ### isinstance(x, T), T a built-in class -/
def rIsi (K : PySem.W.Frag) : List V → Hp → VK → Prop := fun xs H Q => ∃ x n t b, xs = [x, .ty n] ∧ TyOf K H x t ∧ PySem.W.kitOne K t (.type n) = some b ∧ Q (.bl b) H
inductive Lits : List Expr → List Int → Prop
  | nil : Lits [] []
  | cons {i : Int} {j : Nat} {pos : Pos} {es : List Expr} {is : List Int} : Lits es is → Lits (.Constant (.int i) j pos :: es) (i :: is)
def tLits (is : List Int) : TA := fun _ H Q => Q (is.map V.int) H
/-! ### is, is not of two truths -/
/-! ### xs.insert(k, y), 0 ≤ k ≤ len(xs) -/
def rInsert : V → List V → Hp → VK → Prop := fun x vs H Q => ∃ l xs k y, x = .ref l ∧ vs = [.int k, y] ∧ H l = some (.lst xs) ∧ 0 ≤ k ∧ k ≤ xs.length ∧ xs.length < sizeLine ∧ Q .non (upd H l (.lst (xs.take k.toNat ++ y :: xs.drop k.toNat)))
/-! ### xs.remove(n), ints, n in xs -/
def rRemove : V → List V → Hp → VK → Prop := fun x vs H Q => ∃ (l : Addr) (ns : List Int) (n : Int), x = .ref l ∧ vs = [.int n] ∧ H l = some (.lst (ns.map V.int)) ∧ n ∈ ns ∧ Q .non (upd H l (.lst ((ns.erase n).map V.int)))
def isN (n : Int) (u : Value) : Bool := match u with | .int i _ => i == n | _ => false
end
/-! ### range(..) as a value, list(range(..)) -/
def rngO (p : Addr) (a b c : Int) : HO := .ext fun h => ∃ t u v, IsRange h p a b c t u v
theorem rngO_ok {P : Program} {w : World} {H : Hp} {h : Heap} {p : Addr} {a b c : Int} {t u v : Tok} (e : IsRange h p a b c t u v) : ObjOk P w H h p (rngO p a b c) :=
  ⟨⟨t, u, v, e⟩, ⟨_, e⟩, fun h1 h2 ⟨t1, u1, v1, e1⟩ k => ⟨t1, u1, v1, k _ e1⟩⟩
section
variable {X : Cx}
def rRg1 : List V → Hp → VK → Prop := fun vs H Q => ∃ j : Int, vs = [.int j] ∧ ∀ p, H p = none → Q (.ref p) (upd H p (rngO p 0 j 1))
def rRg3 : List V → Hp → VK → Prop := fun vs H Q => ∃ i j c : Int, vs = [.int i, .int j, .int c] ∧ c ≠ 0 ∧ c.natAbs < 1073741824 ∧ ∀ p, H p = none → Q (.ref p) (upd H p (rngO p i j c))
def rRg2 : List V → Hp → VK → Prop := fun vs H Q => ∃ i j : Int, vs = [.int i, .int j] ∧ ∀ p, H p = none → Q (.ref p) (upd H p (rngO p i j 1))
theorem call_rg1 : CallR X (.type "range") rRg1 := by
  intro pins s σ H xs us Q I r h
  obtain ⟨j, rfl, q⟩ := h
  obtain ⟨u, rfl, ⟨t, rfl⟩⟩ := r.one
  exact call_range_1 ⟨.ref _, _, I.laid (fun b o e => Heap.get?_push_of_some _ e) (Nat.le_refl _) (rngO_ok (IsRange.new ..)), rfl, q _ I.fresh⟩
def rgInts (a c : Int) (n : Nat) : List Int := (List.range n).map fun i : Nat => a + (i : Int) * c
theorem rg_vals {a c : Int} {n : Nat} {acc : Array Value} (h : ItemsOf (fun i v => ∃ t, v = .int (a + i * c) t) acc n) : Vals ((rgInts a c n).map V.int) acc.toList := by
  obtain ⟨h1, h2⟩ := h
  have key : ∀ (m : Nat) (b : Nat) (l : List Value), l.length = m → (∀ (j : Nat) v, l[j]? = some v → ∃ t, v = Value.int (a + ((b + j : Nat) : Int) * c) t) → Vals (((List.range' b m).map fun i : Nat => a + (i : Int) * c).map V.int) l := by
    intro m
    induction m with
    | zero => intro b l hl _; cases l with | nil => exact .nil | cons x r => simp at hl
    | succ m ih =>
      intro b l hl hj
      cases l with
      | nil => simp at hl
      | cons x r =>
        rw [List.range'_succ, List.map_cons, List.map_cons]
        refine .cons ?_ (ih (b + 1) r (by simpa using hl) fun j v e => ?_)
        · obtain ⟨t, e⟩ := hj 0 x rfl
          exact ⟨t, by simpa using e⟩
        · obtain ⟨t, e'⟩ := hj (j + 1) v (by simpa using e)
          exact ⟨t, by rw [e']; congr 3; omega⟩
  have := key n 0 acc.toList (by simpa using h1) fun j v e => by
    obtain ⟨t, e'⟩ := h2 j v (by simpa using e)
    exact ⟨t, by rw [e']; congr 3; omega⟩
  rw [rgInts, List.range_eq_range']
  exact this
def rListRg : List V → Hp → VK → Prop := fun vs H Q => ∃ (p : Addr) (a b c : Int) (n : Nat), vs = [.ref p] ∧ H p = some (rngO p a b c) ∧ Builtin.Range.small a b c = true ∧ Builtin.Range.rangeSize a b c = n ∧ n ≤ sizeLine ∧
  ∀ l, H l = none → Q (.ref l) (upd H l (.lst ((rgInts a c n).map V.int)))
theorem call_listRg (hc : X.calm = true) : CallR X (.type "list") rListRg := by
  intro pins s σ H xs us Q I r h
  obtain ⟨p, a, b, c, n, rfl, hH, hs, hn, hz, q⟩ := h
  obtain ⟨u, rfl, rx⟩ := r.one
  cases rx
  obtain ⟨⟨t, u, v, e⟩, _⟩ := (show ObjOk X.prog X.w H s.heap p (rngO p a b c) from I.hok p _ hH)
  have hl := sizeLine_eq
  refine PySem.call_list_range (I.ok.hd hc) e hs hn (by omega) fun h' tk acc c' kp e' hi => ?_
  refine ⟨.ref _, _, I.laid kp (Nat.le_refl _) (show ObjOk X.prog X.w _ h' _ (.lst ((rgInts a c n).map V.int)) from ⟨?_, acc.toList, c', ?_, by simpa using e'⟩), rfl, q _ I.fresh⟩
  · rw [List.length_map, rgInts, List.length_map, List.length_range]; exact hz
  · exact rg_vals hi
def tRev (K : PySem.W.Frag) (te ts : TE) : TE := fun σ H Q => te σ H fun x H1 => ts σ H1 fun y H2 => y = .int (-1) ∧ ∃ a xs, x = .ref a ∧ SqL K H2 a xs ∧ ∀ p, H2 p = none → Q (.ref p) (upd H2 p (.lst xs.reverse))
def tPar3 (i j k : Nat) (ta : TA) : TS := fun D σ H => ta σ H fun vs H1 => ∃ v w y, vs = [v, w, y] ∧ D.nx (((σ.set i (some v)).set j (some w)).set k (some y)) H1
end
/-! ### for i, x in enumerate(list) -/
/-! ### heaps that grow -/
theorem Same.upd {H H2 : Hp} (h : Same H H2) {a : Addr} {o : HO} (hn : H a = none) : Same H (L2.upd H2 a o) := fun b u e => by
  rw [upd_ne (ne_of_none e hn)]
  exact h b u e
theorem Same.new {H H2 : Hp} (h : Same H H2) {a : Addr} {o : HO} (hn : H2 a = none) : Same H (L2.upd H2 a o) := h.upd (h.free hn)
theorem Same.new1 {H : Hp} {a : Addr} {o : HO} (hn : H a = none) : Same H (L2.upd H a o) := (Same.refl H).new hn
theorem inV_int (z : Int) (ns : List Int) : inV (.int z) (ns.map V.int) = decide (z ∈ ns) := by
  unfold inV
  rw [List.any_map]
  induction ns with
  | nil => simp
  | cons a r ih =>
    rw [List.any_cons, ih]
    show (eqV (.int a) (.int z) || _) = _
    have e : eqV (.int a) (.int z) = decide (a = z) := by
      show (a == z) = _
      by_cases q : a = z <;> simp [q]
    rw [e]
    by_cases q : a = z
    · simp [q]
    · have q' : ¬ z = a := fun x => q x.symm
      simp [q, q']
end L2

set_option linter.all false
namespace Mw
/-! ### all ways, as plain lists: the seats taken so far in turn, and how much -/
def fact : Nat → Nat
  | 0 => 1
  | n + 1 => (n + 1) * fact n
def rg (n : Nat) : List Int := (List.range n).map fun i : Nat => (i : Int)
def opens (n : Nat) (ss : List Int) : List Int := (rg n).filter fun s => decide (¬ s ∈ ss)
def pick (lost : List Int) (g : Int) (op : List Int) : List Int := if ¬ g ∈ lost ∧ g ∈ op then [g] else op
def step1 (n : Nat) (lost : List Int) (g : Int) (w : List Int × Int) : List (List Int × Int) :=
  (pick lost g (opens n w.1)).map fun s => (w.1 ++ [s], w.2 / ((pick lost g (opens n w.1)).length : Int))
def stepW (n : Nat) (lost : List Int) (g : Int) (W : List (List Int × Int)) : List (List Int × Int) := W.flatMap (step1 n lost g)
def waysM (n : Nat) (lost : List Int) : List Int → List (List Int × Int) → List (List Int × Int)
  | [], W => W
  | g :: r, W => waysM n lost r (stepW n lost g W)
def EW (W : List (List Int × Int)) (f : List Int → Rat) : Rat := (W.map fun w => (w.2 : Rat) * f w.1).sum
theorem EW_nil (f) : EW [] f = 0 := rfl
theorem EW_cons (w W f) : EW (w :: W) f = (w.2 : Rat) * f w.1 + EW W f := by
  unfold EW
  rw [List.map_cons, List.sum_cons]
theorem EW_append (V W f) : EW (V ++ W) f = EW V f + EW W f := by
  induction V with
  | nil => rw [List.nil_append, EW_nil]; grind
  | cons w V ih => rw [List.cons_append, EW_cons, EW_cons, ih]; grind
theorem EW_congr {W : List (List Int × Int)} {f g : List Int → Rat} (h : ∀ w ∈ W, f w.1 = g w.1) : EW W f = EW W g := by
  induction W with
  | nil => rfl
  | cons w W ih => rw [EW_cons, EW_cons, h w (List.mem_cons_self ..), ih fun w' hw => h w' (List.mem_cons_of_mem _ hw)]
theorem EW_add (W f g) : EW W (fun s => f s + g s) = EW W f + EW W g := by
  induction W with
  | nil => simp only [EW_nil]; grind
  | cons w W ih => simp only [EW_cons, ih]; grind
theorem EW_mul (W f) (c : Rat) : EW W (fun s => c * f s) = c * EW W f := by
  induction W with
  | nil => simp only [EW_nil]; grind
  | cons w W ih => simp only [EW_cons, ih]; grind
theorem EW_zero {W : List (List Int × Int)} {f : List Int → Rat} (h : ∀ w ∈ W, f w.1 = 0) : EW W f = 0 := by
  induction W with
  | nil => rfl
  | cons w W ih => rw [EW_cons, h w (List.mem_cons_self ..), ih fun w' hw => h w' (List.mem_cons_of_mem _ hw)]; grind
/-! ### free seats -/
theorem mem_rg {n : Nat} {x : Int} : x ∈ rg n ↔ 0 ≤ x ∧ x < n := by
  unfold rg
  rw [List.mem_map]
  constructor
  · rintro ⟨i, hi, rfl⟩
    have := List.mem_range.mp hi
    omega
  · intro h
    exact ⟨x.toNat, List.mem_range.mpr (by omega), by omega⟩
theorem nodup_rg (n : Nat) : (rg n).Nodup := by
  unfold rg
  rw [List.nodup_iff_pairwise_ne, List.pairwise_map]
  exact (List.nodup_iff_pairwise_ne.mp List.nodup_range).imp fun h e => h (by omega)
theorem length_rg (n : Nat) : (rg n).length = n := by unfold rg; rw [List.length_map, List.length_range]
theorem mem_opens {n : Nat} {ss : List Int} {x : Int} : x ∈ opens n ss ↔ (0 ≤ x ∧ x < n) ∧ ¬ x ∈ ss := by
  unfold opens
  rw [List.mem_filter, mem_rg, decide_eq_true_iff]
theorem nodup_opens (n : Nat) (ss : List Int) : (opens n ss).Nodup := (nodup_rg n).filter _
theorem sub_len : ∀ {l r : List Int}, l.Nodup → (∀ x ∈ l, x ∈ r) → l.length ≤ r.length
  | [], _, _, _ => Nat.zero_le _
  | a :: l, r, h, hs => by
    obtain ⟨h1, h2⟩ := List.nodup_cons.mp h
    have ha := hs a (List.mem_cons_self ..)
    have := sub_len (r := r.erase a) h2 fun x hx => (List.mem_erase_of_ne (a := x) (b := a) (fun e : x = a => h1 (e ▸ hx))).mpr (hs x (List.mem_cons_of_mem _ hx))
    have e := List.length_erase_of_mem ha
    have p := List.length_pos_of_mem ha
    rw [List.length_cons]
    omega
theorem filter_split (l : List Int) (p : Int → Bool) : (l.filter p).length + (l.filter fun x => !p x).length = l.length := by
  induction l with
  | nil => rfl
  | cons a l ih =>
    rw [List.filter_cons, List.filter_cons, List.length_cons]
    cases p a <;> simp <;> omega
theorem filter_mem_len {l r : List Int} (hl : l.Nodup) (hr : r.Nodup) (hs : ∀ x ∈ r, x ∈ l) : (l.filter fun x => decide (x ∈ r)).length = r.length := by
  apply Nat.le_antisymm
  · exact sub_len (hl.filter _) fun x hx => of_decide_eq_true (List.mem_filter.mp hx).2
  · exact sub_len hr fun x hx => List.mem_filter.mpr ⟨hs x hx, decide_eq_true hx⟩
theorem length_opens {n : Nat} {ss : List Int} (hn : ss.Nodup) (hi : ∀ x ∈ ss, 0 ≤ x ∧ x < (n : Int)) : (opens n ss).length + ss.length = n := by
  have h1 := filter_split (rg n) fun x => decide (x ∈ ss)
  have h2 := filter_mem_len (nodup_rg n) hn fun x hx => mem_rg.mpr (hi x hx)
  rw [length_rg] at h1
  have h3 : opens n ss = (rg n).filter fun x => !decide (x ∈ ss) := by
    unfold opens
    apply List.filter_congr
    intro x _
    by_cases h : x ∈ ss <;> simp [h]
  rw [h3]
  omega
/-! ### what holds of every way -/
structure WOk (n t : Nat) (w : List Int × Int) : Prop where
  len : w.1.length = t
  nd : w.1.Nodup
  ins : ∀ x ∈ w.1, 0 ≤ x ∧ x < (n : Int)
  much : ∃ c : Nat, w.2 = ((c * fact (n - t) : Nat) : Int)
theorem fact_pos : ∀ n, 0 < fact n
  | 0 => Nat.one_pos
  | n + 1 => Nat.mul_pos (Nat.succ_pos _) (fact_pos n)
theorem WOk.opens_len {n t : Nat} {w : List Int × Int} (h : WOk n t w) : (opens n w.1).length = n - t := by
  have := length_opens h.nd h.ins
  rw [h.len] at this
  omega
theorem pick_mem {lost : List Int} {g s : Int} {op : List Int} (h : s ∈ pick lost g op) : s ∈ op := by
  unfold pick at h
  split at h
  · rename_i c
    have : s = g := by simpa using h
    rw [this]; exact c.2
  · exact h
theorem WOk.step {n t : Nat} {lost : List Int} {g : Int} {w : List Int × Int} (ht : t < n) (h : WOk n t w) : ∀ w' ∈ step1 n lost g w, WOk n (t + 1) w' := by
  intro w' hw'
  unfold step1 at hw'
  obtain ⟨s, hs, rfl⟩ := List.mem_map.mp hw'
  have ho := mem_opens.mp (pick_mem hs)
  refine ⟨by simp [h.len], ?_, ?_, ?_⟩
  · show (w.1 ++ [s]).Nodup
    rw [List.nodup_append]
    refine ⟨h.nd, by simp, fun a ha b hb e => ?_⟩
    have : b = s := by simpa using hb
    subst this e
    exact ho.2 ha
  · intro x hx
    rcases List.mem_append.mp hx with e | e
    · exact h.ins x e
    · have : x = s := by simpa using e
      rw [this]; exact ho.1
  · obtain ⟨c, hc⟩ := h.much
    obtain ⟨r, hr⟩ : ∃ r, n - t = r + 1 := ⟨n - t - 1, by omega⟩
    have hr2 : n - (t + 1) = r := by omega
    rw [hr] at hc
    rw [hr2]
    show ∃ d : Nat, w.2 / ((pick lost g (opens n w.1)).length : Int) = ((d * fact r : Nat) : Int)
    unfold pick
    split
    · refine ⟨c * (r + 1), ?_⟩
      rw [hc]
      show ((c * ((r + 1) * fact r) : Nat) : Int) / 1 = _
      rw [Int.ediv_one, Nat.mul_assoc]
    · refine ⟨c, ?_⟩
      rw [h.opens_len, hr, hc]
      have e : c * fact (r + 1) = (c * fact r) * (r + 1) := by
        show c * ((r + 1) * fact r) = _
        rw [Nat.mul_comm (r + 1), Nat.mul_assoc]
      rw [e]
      have : (((c * fact r) * (r + 1) : Nat) : Int) / ((r + 1 : Nat) : Int) = (((c * fact r) * (r + 1) / (r + 1) : Nat) : Int) := (Int.natCast_ediv _ _).symm
      rw [this, Nat.mul_div_cancel _ (Nat.succ_pos _)]
theorem WOk.quot {n t : Nat} {lost : List Int} {g : Int} {w : List Int × Int} (ht : t < n) (h : WOk n t w) :
    ((w.2 / ((pick lost g (opens n w.1)).length : Int) : Int) : Rat) = (w.2 : Rat) / ((pick lost g (opens n w.1)).length : Rat) := by
  obtain ⟨c, hc⟩ := h.much
  obtain ⟨r, hr⟩ : ∃ r, n - t = r + 1 := ⟨n - t - 1, by omega⟩
  unfold pick
  split
  · show ((w.2 / ((1 : Nat) : Int) : Int) : Rat) = (w.2 : Rat) / ((1 : Nat) : Rat)
    rw [show ((1 : Nat) : Int) = 1 from rfl, Int.ediv_one]
    grind
  · rw [h.opens_len, hr]
    have hd : ((r + 1 : Nat) : Int) ∣ w.2 := by
      rw [hc, hr]
      exact Int.natCast_dvd_natCast.mpr (Nat.dvd_trans (Nat.dvd_mul_right _ _) (Nat.dvd_mul_left _ _))
    have e := Int.ediv_mul_cancel hd
    have e2 : ((w.2 / ((r + 1 : Nat) : Int) : Int) : Rat) * ((r + 1 : Nat) : Rat) = (w.2 : Rat) := by
      have := congrArg (fun z : Int => (z : Rat)) e
      exact_mod_cast this
    have hz : ((r + 1 : Nat) : Rat) ≠ 0 := by
      intro h
      have : r + 1 = 0 := by exact_mod_cast h
      omega
    grind
theorem sum_map_mul (l : List Int) (c : Rat) (f : Int → Rat) : (l.map fun s => c * f s).sum = c * (l.map f).sum := by
  induction l with
  | nil => simp
  | cons a l ih => simp only [List.map_cons, List.sum_cons, ih]; grind
theorem EW_step1 {n t : Nat} {lost : List Int} {g : Int} {w : List Int × Int} (ht : t < n) (h : WOk n t w) (f : List Int → Rat) :
    EW (step1 n lost g w) f = (w.2 : Rat) * (((pick lost g (opens n w.1)).map fun s => f (w.1 ++ [s])).sum / ((pick lost g (opens n w.1)).length : Rat)) := by
  unfold EW step1
  rw [List.map_map]
  have e : ((fun w : List Int × Int => (w.2 : Rat) * f w.1) ∘ fun s => (w.1 ++ [s], w.2 / ((pick lost g (opens n w.1)).length : Int))) = fun s => ((w.2 / ((pick lost g (opens n w.1)).length : Int) : Int) : Rat) * f (w.1 ++ [s]) := rfl
  rw [e, sum_map_mul, h.quot ht]
  grind
theorem EW_flat {n t : Nat} {lost : List Int} {g : Int} (ht : t < n) (f : List Int → Rat) : ∀ {W : List (List Int × Int)}, (∀ w ∈ W, WOk n t w) →
    EW (stepW n lost g W) f = EW W fun ss => ((pick lost g (opens n ss)).map fun s => f (ss ++ [s])).sum / ((pick lost g (opens n ss)).length : Rat)
  | [], _ => rfl
  | w :: W, h => by
    unfold stepW
    rw [List.flatMap_cons, EW_append, EW_cons, EW_step1 ht (h w (List.mem_cons_self ..))]
    have := EW_flat ht f (lost := lost) (g := g) (W := W) fun w' hw => h w' (List.mem_cons_of_mem _ hw)
    unfold stepW at this
    rw [this]
theorem WOk.all {n t : Nat} {lost : List Int} {g : Int} {W : List (List Int × Int)} (ht : t < n) (h : ∀ w ∈ W, WOk n t w) : ∀ w ∈ stepW n lost g W, WOk n (t + 1) w := by
  intro w hw
  obtain ⟨v, hv, hw⟩ := List.mem_flatMap.mp hw
  exact (h v hv).step ht w hw
/-! ### shares: told seats are free -/
def ind (T ss : List Int) : Rat := if ∀ s ∈ T, ¬ s ∈ ss then 1 else 0
theorem ind_snoc (T ss : List Int) (s : Int) : ind T (ss ++ [s]) = ind T ss * (if s ∈ T then 0 else 1) := by
  unfold ind
  by_cases h : ∀ x ∈ T, ¬ x ∈ ss
  · rw [if_pos h]
    by_cases hs : s ∈ T
    · rw [if_pos hs, if_neg fun q => q s hs (by simp)]; grind
    · rw [if_neg hs, if_pos fun x hx m => ?_]
      · grind
      · rcases List.mem_append.mp m with e | e
        · exact h x hx e
        · have : x = s := by simpa using e
          exact hs (this ▸ hx)
  · rw [if_neg h, if_neg fun q => h fun x hx m => q x hx (List.mem_append_left _ m)]; grind
theorem ind_cons (g : Int) (T ss : List Int) : ind (g :: T) ss = ind T ss * (if g ∈ ss then 0 else 1) := by
  unfold ind
  by_cases h : ∀ x ∈ T, ¬ x ∈ ss
  · rw [if_pos h]
    by_cases hs : g ∈ ss
    · rw [if_pos hs, if_neg fun q => q g (List.mem_cons_self ..) hs]; grind
    · rw [if_neg hs, if_pos fun x hx => ?_]
      · grind
      · rcases List.mem_cons.mp hx with e | e
        · rw [e]; exact hs
        · exact h x e
  · rw [if_neg h, if_neg fun q => h fun x hx => q x (List.mem_cons_of_mem _ hx)]; grind
theorem sum_ind (T ss : List Int) : ∀ op : List Int, (op.map fun s => ind T (ss ++ [s])).sum = ind T ss * ((op.filter fun s => decide (¬ s ∈ T)).length : Nat)
  | [] => by simp
  | a :: op => by
    rw [List.map_cons, List.sum_cons, sum_ind T ss op, ind_snoc]
    by_cases h : a ∈ T
    · rw [if_pos h, List.filter_cons, if_neg (by simp [h])]; grind
    · rw [if_neg h, List.filter_cons, if_pos (by simp [h]), List.length_cons]
      push_cast
      grind
theorem rest_len {n t : Nat} {w : List Int × Int} {T : List Int} (h : WOk n t w) (hT : T.Nodup) (hi : ∀ s ∈ T, 0 ≤ s ∧ s < (n : Int)) (hf : ∀ s ∈ T, ¬ s ∈ w.1) : ((opens n w.1).filter fun s => decide (¬ s ∈ T)).length + T.length = n - t := by
  have h1 := filter_split (opens n w.1) fun x => decide (x ∈ T)
  have h2 := filter_mem_len (nodup_opens n w.1) hT fun x hx => mem_opens.mpr ⟨hi x hx, hf x hx⟩
  rw [h.opens_len] at h1
  have e : ((opens n w.1).filter fun s => decide (¬ s ∈ T)) = (opens n w.1).filter fun x => !decide (x ∈ T) := by
    apply List.filter_congr
    intro x _
    by_cases q : x ∈ T <;> simp [q]
  rw [e]
  omega
theorem natR_ne {k : Nat} (h : k ≠ 0) : (k : Rat) ≠ 0 := by
  intro e
  exact h (by exact_mod_cast e)
theorem turn_all {n t : Nat} {w : List Int × Int} {T : List Int} (ht : t < n) (h : WOk n t w) (hT : T.Nodup) (hi : ∀ s ∈ T, 0 ≤ s ∧ s < (n : Int)) :
    ((opens n w.1).map fun s => ind T (w.1 ++ [s])).sum / ((opens n w.1).length : Rat) = (((n - t : Nat) : Rat) - (T.length : Nat)) / ((n - t : Nat) : Rat) * ind T w.1 := by
  rw [sum_ind, h.opens_len]
  have hz : ((n - t : Nat) : Rat) ≠ 0 := natR_ne (by omega)
  by_cases hf : ∀ s ∈ T, ¬ s ∈ w.1
  · have e := rest_len h hT hi hf
    have e2 : (((opens n w.1).filter fun s => decide (¬ s ∈ T)).length : Rat) = ((n - t : Nat) : Rat) - (T.length : Nat) := by
      have : ((((opens n w.1).filter fun s => decide (¬ s ∈ T)).length + T.length : Nat) : Rat) = ((n - t : Nat) : Rat) := by rw [e]
      push_cast at this
      push_cast
      grind
    rw [e2]
    grind
  · have : ind T w.1 = 0 := by unfold ind; rw [if_neg hf]
    rw [this]
    grind
/-! ### the seats that are alike ahead of a turn -/
def alikeM (order lost : List Int) (t : Nat) : List Int := (order.take t).filter (fun g => decide (g ∈ lost)) ++ order.drop t
theorem alike_lost {order lost : List Int} {t : Nat} {g : Int} (h : order[t]? = some g) (hg : g ∈ lost) : alikeM order lost (t + 1) = alikeM order lost t := by
  obtain ⟨hl, e⟩ := List.getElem?_eq_some_iff.mp h
  unfold alikeM
  rw [List.take_succ_eq_append_getElem hl, List.drop_eq_getElem_cons hl, e, List.filter_append]
  have : [g].filter (fun g => decide (g ∈ lost)) = [g] := by simp [hg]
  rw [this, List.append_assoc]
  rfl
theorem alike_own {order lost : List Int} {t : Nat} {g : Int} (h : order[t]? = some g) (hg : ¬ g ∈ lost) : (alikeM order lost t).Perm (g :: alikeM order lost (t + 1)) := by
  obtain ⟨hl, e⟩ := List.getElem?_eq_some_iff.mp h
  unfold alikeM
  rw [List.take_succ_eq_append_getElem hl, List.drop_eq_getElem_cons hl, e, List.filter_append]
  have : [g].filter (fun g => decide (g ∈ lost)) = [] := by simp [hg]
  rw [this, List.append_nil]
  exact List.perm_middle
theorem alike_sub {order lost : List Int} {t : Nat} : (alikeM order lost t).Sublist order := by
  unfold alikeM
  have := (List.filter_sublist (l := order.take t) (p := fun g => decide (g ∈ lost))).append (List.Sublist.refl (order.drop t))
  rwa [List.take_append_drop] at this
/-! ### falling products -/
def ff (x : Rat) : Nat → Rat
  | 0 => 1
  | j + 1 => ff x j * (x - (j : Nat))
theorem ff_ne {a : Nat} : ∀ {j : Nat}, j ≤ a → ff a j ≠ 0
  | 0, _ => by unfold ff; decide
  | j + 1, h => by
    unfold ff
    have h1 := ff_ne (a := a) (j := j) (by omega)
    have h2 : (a : Rat) - (j : Nat) ≠ 0 := by
      intro e
      have : (a : Rat) = (j : Nat) := by grind
      have : a = j := by exact_mod_cast this
      omega
    grind
theorem ff_less (x : Rat) : ∀ j : Nat, x * ff (x - 1) j = ff x j * (x - (j : Nat))
  | 0 => by simp only [ff]; push_cast; grind
  | j + 1 => by
    have := ff_less x j
    simp only [ff]
    push_cast
    push_cast at this
    grind
/-! ### the ways ahead of a turn -/
def wayT (order lost : List Int) (t : Nat) : List (List Int × Int) := waysM order.length lost (order.take t) [([], (fact order.length : Nat))]
theorem waysM_append (n : Nat) (lost : List Int) : ∀ (l r : List Int) (W), waysM n lost (l ++ r) W = waysM n lost r (waysM n lost l W)
  | [], _, _ => rfl
  | g :: l, r, W => waysM_append n lost l r _
theorem wayT_succ {order lost : List Int} {t : Nat} {g : Int} (h : order[t]? = some g) : wayT order lost (t + 1) = stepW order.length lost g (wayT order lost t) := by
  obtain ⟨hl, e⟩ := List.getElem?_eq_some_iff.mp h
  unfold wayT
  rw [List.take_succ_eq_append_getElem hl, waysM_append, e]
  rfl
theorem wayT_ok (order lost : List Int) : ∀ t, t ≤ order.length → ∀ w ∈ wayT order lost t, WOk order.length t w
  | 0, _ => by
    intro w hw
    have : w = ([], ((fact order.length : Nat) : Int)) := by simpa [wayT, waysM] using hw
    subst this
    exact ⟨rfl, List.nodup_nil, fun _ h => (by cases h), 1, by simp⟩
  | t + 1, ht => by
    have hl : t < order.length := ht
    rw [wayT_succ (List.getElem?_eq_getElem hl)]
    exact WOk.all hl (wayT_ok order lost t (by omega))
theorem marg {order lost : List Int} (ho : order.Nodup) (hi : ∀ x ∈ order, 0 ≤ x ∧ x < (order.length : Int)) : ∀ t, t ≤ order.length → ∀ T : List Int, T.Nodup → (∀ s ∈ T, s ∈ alikeM order lost t) →
    EW (wayT order lost t) (ind T) = (fact order.length : Nat) * (ff ((order.length - t : Nat) : Rat) T.length / ff ((alikeM order lost t).length : Nat) T.length)
  | 0, _, T, hT, hs => by
    have e : wayT order lost 0 = [([], ((fact order.length : Nat) : Int))] := rfl
    have ea : alikeM order lost 0 = order := rfl
    rw [e, EW_cons, EW_nil, ea, Nat.sub_zero]
    have hle : T.length ≤ order.length := sub_len hT fun s hs' => by have := hs s hs'; rwa [ea] at this
    have h1 := ff_ne (a := order.length) hle
    have h2 : ind T [] = 1 := by unfold ind; rw [if_pos fun _ _ => (by simp)]
    show (((fact order.length : Nat) : Int) : Rat) * ind T [] + 0 = _
    rw [h2]
    push_cast
    grind
  | t + 1, ht, T, hT, hs => by
    have hl : t < order.length := ht
    obtain ⟨g, hg⟩ : ∃ g, order[t]? = some g := ⟨_, List.getElem?_eq_getElem hl⟩
    have W := wayT_ok order lost t (by omega)
    rw [wayT_succ hg, EW_flat hl _ W]
    have hTi : ∀ s ∈ T, 0 ≤ s ∧ s < (order.length : Int) := fun s h => hi s (alike_sub.subset (hs s h))
    have kz : ((order.length - t : Nat) : Rat) ≠ 0 := natR_ne (by omega)
    have ek : ((order.length - (t + 1) : Nat) : Rat) = ((order.length - t : Nat) : Rat) - 1 := by
      have : order.length - t = order.length - (t + 1) + 1 := by omega
      rw [this]; push_cast; grind
    have fl := ff_less ((order.length - t : Nat) : Rat) T.length
    by_cases hgl : g ∈ lost
    · have e1 : EW (wayT order lost t) (fun ss => ((pick lost g (opens order.length ss)).map fun s => ind T (ss ++ [s])).sum / ((pick lost g (opens order.length ss)).length : Rat)) =
          EW (wayT order lost t) (fun ss => (((order.length - t : Nat) : Rat) - (T.length : Nat)) / ((order.length - t : Nat) : Rat) * ind T ss) := by
        apply EW_congr
        intro w hw
        have ep : pick lost g (opens order.length w.1) = opens order.length w.1 := by unfold pick; rw [if_neg fun q => q.1 hgl]
        rw [ep]
        exact turn_all hl (W w hw) hT hTi
      rw [e1, EW_mul, marg ho hi t (by omega) T hT (by rw [← alike_lost hg hgl]; exact hs), alike_lost hg hgl, ek]
      have hle : T.length ≤ (alikeM order lost t).length := sub_len hT fun s h => by have := hs s h; rwa [alike_lost hg hgl] at this
      have fz := ff_ne hle
      grind
    · have pm := alike_own hg hgl
      have nda : (alikeM order lost t).Nodup := ho.sublist alike_sub
      have ndg := List.nodup_cons.mp (pm.nodup_iff.mp nda)
      have gT : ¬ g ∈ T := fun q => ndg.1 (hs g q)
      have al : (alikeM order lost t).length = (alikeM order lost (t + 1)).length + 1 := by rw [pm.length_eq, List.length_cons]
      have hgi := hi g (List.mem_of_getElem? hg)
      have e1 : EW (wayT order lost t) (fun ss => ((pick lost g (opens order.length ss)).map fun s => ind T (ss ++ [s])).sum / ((pick lost g (opens order.length ss)).length : Rat)) =
          EW (wayT order lost t) (fun ss => (1 - (((order.length - t : Nat) : Rat) - (T.length : Nat)) / ((order.length - t : Nat) : Rat)) * ind (g :: T) ss + (((order.length - t : Nat) : Rat) - (T.length : Nat)) / ((order.length - t : Nat) : Rat) * ind T ss) := by
        apply EW_congr
        intro w hw
        by_cases gf : g ∈ w.1
        · have ep : pick lost g (opens order.length w.1) = opens order.length w.1 := by unfold pick; rw [if_neg fun q => (mem_opens.mp q.2).2 gf]
          rw [ep, turn_all hl (W w hw) hT hTi, ind_cons, if_pos gf]
          grind
        · have ep : pick lost g (opens order.length w.1) = [g] := by unfold pick; rw [if_pos ⟨hgl, mem_opens.mpr ⟨hgi, gf⟩⟩]
          rw [ep, List.map_singleton, List.sum_singleton, List.length_singleton, ind_cons, if_neg gf, ind_snoc, if_neg gT]
          push_cast
          grind
      have hsT : ∀ s ∈ T, s ∈ alikeM order lost t := fun s h => pm.mem_iff.mpr (List.mem_cons_of_mem _ (hs s h))
      have hsg : ∀ s ∈ g :: T, s ∈ alikeM order lost t := fun s h => by
        rcases List.mem_cons.mp h with e | e
        · rw [e]; exact pm.mem_iff.mpr (List.mem_cons_self ..)
        · exact hsT s e
      rw [e1, EW_add, EW_mul, EW_mul, marg ho hi t (by omega) T hT hsT, marg ho hi t (by omega) (g :: T) (List.nodup_cons.mpr ⟨gT, hT⟩) hsg, List.length_cons, ek, al]
      have hle : T.length ≤ (alikeM order lost (t + 1)).length := sub_len hT hs
      have f1 := ff_ne (a := (alikeM order lost (t + 1)).length) hle
      have f2 := ff_ne (a := (alikeM order lost (t + 1)).length + 1) (j := T.length) (by omega)
      have f3 := ff_ne (a := (alikeM order lost (t + 1)).length + 1) (j := T.length + 1) (by omega)
      have fa := ff_less (((alikeM order lost (t + 1)).length + 1 : Nat) : Rat) T.length
      have az : (((alikeM order lost (t + 1)).length + 1 : Nat) : Rat) ≠ 0 := natR_ne (by omega)
      have ea : (((alikeM order lost (t + 1)).length + 1 : Nat) : Rat) - 1 = ((alikeM order lost (t + 1)).length : Nat) := by push_cast; grind
      rw [ea] at fa
      simp only [ff] at f3 ⊢
      generalize ((order.length - t : Nat) : Rat) = k at *
      generalize (((alikeM order lost (t + 1)).length + 1 : Nat) : Rat) = a at *
      generalize ((alikeM order lost (t + 1)).length : Rat) = a' at *
      generalize (T.length : Rat) = j at *
      generalize ff k T.length = fk at *
      generalize ff a T.length = fA at *
      generalize ff (k - 1) T.length = fk1 at *
      generalize ff a' T.length = fa1 at *
      generalize ((fact order.length : Nat) : Rat) = N at *
      have haj : a - j ≠ 0 := by grind
      grind
end Mw

set_option Elab.async false
set_option linter.all false
set_option maxRecDepth 100000
namespace L2
open PySem PySem.Spec PyProof.Rows
section
variable {X : Cx}
/-! ### // by a greater number -/
/-! ### a comprehension over enumerate(list) -/
/-! ### for a, b in zip(xs, ys): two lists, the walk ends with the shorter -/
end
/-! ### shares as plain fractions -/
def shV (r : Rat) : List V := [.int r.num, .int (r.den : Nat)]
theorem frac_num {x y : Int} (hy : 0 < y) : ((x : Rat) / (y : Rat)).num = x / (y.gcd x : Nat) := by
  rw [← Rat.divInt_eq_div, Rat.num_divInt, Int.sign_eq_one_of_pos hy, Int.one_mul]
theorem frac_den {x y : Int} (hy : 0 < y) : ((((x : Rat) / (y : Rat)).den : Nat) : Int) = y / (y.gcd x : Nat) := by
  rw [← Rat.divInt_eq_div, Rat.den_divInt, if_neg (by omega), Int.natCast_ediv]
  congr 1
  omega
end L2

set_option Elab.async false
set_option linter.all false
set_option maxRecDepth 100000
namespace Sp
open PySem
/-! ### the places of a set's table rise -/
def Rise (xs : Array Nat) : Prop := ∀ i j (hi : i < xs.size) (hj : j < xs.size), i < j → xs[i] < xs[j]
theorem rise_of {l : List Nat} (h : l.Pairwise (· < ·)) : Rise l.toArray := by
  intro i j hi hj hij
  simp only [List.size_toArray] at hi hj
  simp only [List.getElem_toArray]
  exact List.pairwise_iff_getElem.mp h i j hi hj hij
structure Good (led : Bool) (t : SetTable) : Prop where
  rise : Rise t.place
  led : t.led = led
  nod : t.dummies = #[]
theorem good_standIn {led : Bool} {t : SetTable} (h : Good led t) (n : Nat) : Good led (t.standIn n) := by
  refine ⟨?_, h.led, rfl⟩
  intro i j hi hj hij
  simp only [SetTable.standIn] at hi hj ⊢
  simpa using hij
theorem good_orStandIn {led : Bool} {t : SetTable} (h : Good led t) (n : Nat) : Good led (t.orStandIn n) := by
  unfold SetTable.orStandIn
  split
  · exact h
  · exact good_standIn h n
theorem has_nil (j : Nat) : SetTable.has #[] j = false := by
  unfold SetTable.has
  simp
theorem probe_empty {t : SetTable} {ha : Nat → Int} {h : Int} : ∀ {fuel : Nat} {p : SetTable.Probe} {j : Nat} {d : Option Nat}, t.dummies = #[] → p.dummy = none → SetTable.probe.go t ha h fuel p = some (.empty j d) → d = none ∧ t.slot j = .empty
  | 0, _, _, _, _, _, e => by unfold SetTable.probe.go at e; cases e
  | fuel + 1, p, j, d, hn, hp, e => by
    unfold SetTable.probe.go at e
    have adv : ∀ q : SetTable.Probe, q.dummy = none → (t.advance q).dummy = none := fun q hq => by
      unfold SetTable.advance
      split <;> exact hq
    cases hs : t.slot p.j with
    | empty =>
      rw [hs] at e
      simp only [Option.some.injEq, SetTable.Met.empty.injEq] at e
      obtain ⟨e1, e2⟩ := e
      subst e1
      exact ⟨e2 ▸ hp, hs⟩
    | dummy =>
      unfold SetTable.slot at hs
      simp only [hn, has_nil] at hs
      split at hs <;> cases hs
    | live i =>
      rw [hs] at e
      dsimp only at e
      split at e
      · cases e
      · exact probe_empty hn (adv p hp) e
theorem slot_empty {t : SetTable} {j : Nat} (h : t.slot j = .empty) : t.place[SetTable.below t.place j]? ≠ some j := by
  intro q
  unfold SetTable.slot at h
  simp only [q, beq_self_eq_true, if_true] at h
  cases h
theorem free_slot {led : Bool} {t : SetTable} (g : Good led t) {h : Int} {s : Nat} {d : Bool} (e : t.freeSlot h = some (s, d)) : t.place[SetTable.below t.place s]? ≠ some s := by
  unfold SetTable.freeSlot SetTable.probe at e
  split at e
  · rename_i j dd hm
    obtain ⟨h1, h2⟩ := probe_empty g.nod rfl hm
    subst h1
    simp only [Option.getD_none, Option.isSome_none, Option.some.injEq, Prod.mk.injEq] at e
    rw [← e.1]
    exact slot_empty h2
  · cases e
theorem good_put {led : Bool} {t : SetTable} (g : Good led t) {j : Nat} (h : t.place[SetTable.below t.place j]? ≠ some j) : Good led (t.put j).1 := by
  refine ⟨insert_rise g.rise h, g.led, ?_⟩
  show (if SetTable.has t.dummies j = true then _ else t.dummies) = #[]
  rw [g.nod, has_nil]
  simp
theorem good_layNew {led : Bool} {t : SetTable} (g : Good led t) (es : Array (Int × Value)) (h : Int) (x : Value) : Good led (layNew t es h x).2.1 := by
  unfold layNew
  split
  · rename_i s d e
    exact good_orStandIn (good_put g (free_slot g e)) _
  · exact good_standIn g _
theorem good_laid {mask f m : Nat} {led plain : Bool} {hs : Array Int} {t : SetTable} {o : Array Nat} (e : SetTable.laid mask f m led plain hs = some (t, o)) : Good led t := by
  unfold SetTable.laid at e
  cases hc : SetTable.layClean mask hs with
  | none => rw [hc] at e; cases e
  | some ow =>
    rw [hc] at e
    simp only [Option.bind_eq_bind, Option.bind_some, Option.pure_def, Option.some.injEq, Prod.mk.injEq] at e
    obtain ⟨rfl, _⟩ := e
    refine ⟨?_, rfl, rfl⟩
    apply rise_of
    rw [List.pairwise_map]
    refine (List.Pairwise.filterMap _ ?_ (List.pairwise_lt_range (n := mask + 1)))
    intro a a' haa b hb b' hb'
    simp only [Option.map_eq_some_iff] at hb hb'
    obtain ⟨_, _, rfl⟩ := hb
    obtain ⟨_, _, rfl⟩ := hb'
    exact haa
theorem good_relayAll {led : Bool} {t : SetTable} (g : Good led t) (es : Array (Int × Value)) (w : Nat) : Good led (relayAll t es w).2.1 := by
  unfold relayAll
  split
  · rename_i t' o e
    have g' : Good led t' := by
      have := good_laid e
      rw [g.led] at this
      exact this
    dsimp only
    split
    · exact g'
    · exact good_standIn g _
  · exact good_standIn g _
end Sp

set_option Elab.async false
set_option linter.all false
set_option maxRecDepth 100000
namespace Sp
open PySem PyProof.Rows
def keyOf : Value → Int
  | .int i _ => i
  | _ => 0
theorem intsAre_map : ∀ {vs : List Value} {ns : List Int}, IntsAre vs ns → ns = vs.map keyOf ∧ ∀ v ∈ vs, ∃ t, v = .int (keyOf v) t
  | _, _, .nil => ⟨rfl, fun _ h => by cases h⟩
  | _, _, .cons n t h => by
    obtain ⟨h1, h2⟩ := intsAre_map h
    refine ⟨by rw [List.map_cons, ← h1]; rfl, fun v hv => ?_⟩
    rcases List.mem_cons.mp hv with e | e
    · exact ⟨t, by rw [e]; rfl⟩
    · exact h2 v e
theorem intsAre_of : ∀ {vs : List Value}, (∀ v ∈ vs, ∃ t, v = .int (keyOf v) t) → IntsAre vs (vs.map keyOf)
  | [], _ => .nil
  | v :: vs, h => by
    obtain ⟨t, e⟩ := h v (List.mem_cons_self ..)
    have r := intsAre_of (vs := vs) fun u hu => h u (List.mem_cons_of_mem _ hu)
    rw [List.map_cons, e]
    exact .cons _ t r
theorem intsAre_perm {vs us : List Value} {ns : List Int} (h : IntsAre vs ns) (p : us.Perm vs) : ∃ ms, IntsAre us ms ∧ ms.Perm ns := by
  obtain ⟨h1, h2⟩ := intsAre_map h
  refine ⟨us.map keyOf, intsAre_of fun v hv => h2 v (p.mem_iff.mp hv), ?_⟩
  rw [h1]
  exact p.map _
theorem intsAre_snoc {vs : List Value} {ns : List Int} (h : IntsAre vs ns) (n : Int) (t : Tok) : IntsAre (vs ++ [.int n t]) (ns ++ [n]) := by
  induction h with
  | nil => exact .cons n t .nil
  | cons a b _ ih => exact .cons a b ih
def SetG (prog : Program) (w : World) (h : Heap) (a : Addr) (led : Bool) (ks : List Int) : Prop :=
  ∃ o es ep t, h.get? a = some o ∧ o.ExactSet ∧ o.data = .set es ep t ∧ ElemsOf (intKind prog w) es.toList ∧ IntsAre (es.toList.map Prod.snd) ks ∧ ks.Nodup ∧ es.size < scanBound ∧ t.fits es.size = true ∧ Good led t
section
variable {prog : Program} {w : World} {A : Around} {E : Value → Shared → Prop} {s : Shared}
theorem stored {h : Heap} {a : Addr} {o : Obj} {es : Array (Int × Value)} {ep : Nat} {t : SetTable} (es2 : Array (Int × Value)) (t2 : SetTable) (ho : h.get? a = some o) (hd : o.data = .set es ep t) :
    (h.update a (Obj.putSet es2 t2)).get? a = some { o with data := .set es2 (ep + 1) t2 } := by
  have q := Heap.get?_update_self (Obj.putSet es2 t2) ho (by rw [putSet_of es2 t2 hd]; rfl)
  rwa [putSet_of es2 t2 hd] at q
theorem add_tail {gw : Bool → Sem Unit} (hgw : ∀ (b : Bool) (s1 : Shared) (R : Unit → Shared → Prop), R () s1 → wpAny (model prog w) A (gw b) R E s1)
    {a : Addr} {o : Obj} {es : Array (Int × Value)} {ep : Nat} {t : SetTable} (ho : s.heap.get? a = some o) (hx : o.ExactSet) (hd : o.data = .set es ep t) {es1 : Array (Int × Value)} {t1 : SetTable} {led : Bool} {ks : List Int}
    (hel : ElemsOf (intKind prog w) es1.toList) (hi : IntsAre (es1.toList.map Prod.snd) ks) (hn : ks.Nodup) (hb : es1.size < scanBound) (hf : t1.fits es1.size = true) (g : Good led t1) {wd : Bool} {R : Option Bool → Shared → Prop}
    (k : ∀ h' ks', Heap.SameBut a s.heap h' → ks'.Perm ks → SetG prog w h' a led ks' → R (some true) { s with heap := h' }) :
    wpAny (model prog w) A (do
        storeSet a es1 t1
        if (!wd && t1.tooFull) = true then do
            gw (relayAll t1 es1 (SetTable.grown es1.size)).2.2
            storeSet a (relayAll t1 es1 (SetTable.grown es1.size)).1 (relayAll t1 es1 (SetTable.grown es1.size)).2.1
            pure (some true)
          else pure (some true)) R E s := by
  have z1 : es1.size ≤ sizeLine := fits_of_scanBound hb
  refine wpAny_bind (wpAny_storeSet_of (o := o) ho hd ?_ z1)
  have g1 := stored es1 t1 ho hd
  have sb := Heap.SameBut.update s.heap a (Obj.putSet es1 t1)
  split
  · have pm := relayAll_perm t1 es1 (SetTable.grown es1.size)
    have ft := relayAll_fits t1 es1 (SetTable.grown es1.size)
    have gd := good_relayAll g es1 (SetTable.grown es1.size)
    obtain ⟨L, eL⟩ : ∃ L, relayAll t1 es1 (SetTable.grown es1.size) = L := ⟨_, rfl⟩
    rw [eL] at pm ft gd ⊢
    obtain ⟨es2, t2, gave⟩ := L
    dsimp only at pm ft gd ⊢
    have zz : es2.size = es1.size := by
      have := pm.length_eq
      simpa using this
    obtain ⟨ms, im, pms⟩ := intsAre_perm hi (pm.map Prod.snd)
    refine wpAny_bind (hgw _ _ _ ?_)
    refine wpAny_bind (wpAny_storeSet_of (o := { o with data := .set es1 (ep + 1) t1 }) g1 rfl ?_ (by rw [zz]; exact z1))
    have g2 := stored (o := { o with data := .set es1 (ep + 1) t1 }) es2 t2 g1 rfl
    exact wpAny_pure (k _ ms (sb.trans (Heap.SameBut.update _ a _)) pms ⟨_, es2, _, t2, g2, hx, rfl, hel.perm pm, im, pms.nodup_iff.mpr hn, by rw [zz]; exact hb, ft, gd⟩)
  · exact wpAny_pure (k _ ks sb (List.Perm.refl _) ⟨_, es1, _, t1, g1, hx, rfl, hel, hi, hn, hb, hf, g⟩)
theorem add_int {a : Addr} {led : Bool} {ks : List Int} {x : Int} {tk : Tok} {Q : Bool → Shared → Prop} (hS : SetG prog w s.heap a led ks) (room : ks.length + 1 < scanBound)
    (k : ∀ b h' ks', Heap.SameBut a s.heap h' → ks'.Perm (if x ∈ ks then ks else ks ++ [x]) → SetG prog w h' a led ks' → Q b { s with heap := h' }) :
    wpAny (model prog w) A (setAddHashed a (.int x tk) ((intKind prog w).hash x)) Q E s := by
  obtain ⟨o, es, ep, t, ho, hx, hd, hel, hi, hn, hb, hf, g⟩ := id hS
  have sz : es.size = ks.length := by
    have := (intsAre_map hi).1
    rw [this]
    simp
  have is1 := intKind_is prog w x tk
  unfold setAddHashed setAddHashedIn
  refine wpAny_holding (wpAny_bind (wpAny_setState_of (o := o) ho hd hf ?_))
  dsimp only
  rw [byScan_of (knd := intKind prog w) (x := .int x tk) rfl hb hel]
  simp only [↓reduceIte]
  unfold setAddByScan
  refine wpAny_bind (wpAny_bind (wpAny_rule ?_))
  refine wpAny_bind (wpAny_setScan_of (knd := intKind prog w) is1 ho hd hf hel ?_)
  cases fr : es.toList.findIdx? (fun e => (intKind prog w).is x e.2) with
  | some j =>
    dsimp only
    obtain ⟨jl, jp, _⟩ := List.findIdx?_eq_some_iff_getElem.mp fr
    have xm : x ∈ ks := by
      obtain ⟨t2, e2⟩ := Value.isInt_shape (k := x) (v := (es.toList[j]).2) jp
      rw [(intsAre_map hi).1]
      refine List.mem_map.mpr ⟨(es.toList[j]).2, List.mem_map.mpr ⟨es.toList[j], List.getElem_mem jl, rfl⟩, ?_⟩
      rw [e2]
      rfl
    refine wpAny_pure (wpAny_pure ?_)
    have q := k false s.heap ks (Heap.SameBut.refl a s.heap) (by rw [if_pos xm]) hS
    exact q
  | none =>
    dsimp only
    have xm : ¬ x ∈ ks := fun m => by
      rw [(intsAre_map hi).1] at m
      obtain ⟨v, hv, e⟩ := List.mem_map.mp m
      obtain ⟨t2, e2⟩ := (intsAre_map hi).2 v hv
      obtain ⟨en, hen, rfl⟩ := List.mem_map.mp hv
      have := List.findIdx?_eq_none_iff.mp fr en hen
      rw [e2, e, intKind_is] at this
      cases this
    have hgw : ∀ (b : Bool) (s1 : Shared) (R : Unit → Shared → Prop), R () s1 → wpAny (model prog w) A (match b with | true => rule "set.scan.the-table-gave-way" | false => pure ()) R E s1 := by
      intro b s1 R q
      cases b
      · exact wpAny_pure q
      · exact wpAny_rule q
    have pm := layNew_perm t es ((intKind prog w).hash x) (.int x tk)
    have ft := layNew_fits t es ((intKind prog w).hash x) (.int x tk)
    have gd := good_layNew g es ((intKind prog w).hash x) (.int x tk)
    obtain ⟨L, eL⟩ : ∃ L, layNew t es ((intKind prog w).hash x) (.int x tk) = L := ⟨_, rfl⟩
    rw [eL] at pm ft gd ⊢
    obtain ⟨es1, t1, wd, gave⟩ := L
    dsimp only at pm ft gd ⊢
    rw [Array.toList_push] at pm
    have hel1 : ElemsOf (intKind prog w) es1.toList := (hel.push is1 rfl).perm pm
    have ip : IntsAre ((es.toList ++ [((intKind prog w).hash x, Value.int x tk)]).map Prod.snd) (ks ++ [x]) := by
      rw [List.map_append]
      exact intsAre_snoc hi x tk
    obtain ⟨ms, im, pms⟩ := intsAre_perm ip (pm.map Prod.snd)
    have nn : (ks ++ [x]).Nodup := by
      rw [List.nodup_append]
      refine ⟨hn, by simp, fun u hu v hv e => ?_⟩
      have : v = x := by simpa using hv
      exact xm (by rw [← this, ← e]; exact hu)
    have zz : es1.size = es.size + 1 := by
      have := pm.length_eq
      simpa using this
    have hb1 : es1.size < scanBound := by rw [zz, sz]; exact room
    refine wpAny_bind (hgw _ _ _ ?_)
    have fin : ∀ h' ks', Heap.SameBut a s.heap h' → ks'.Perm ms → SetG prog w h' a led ks' → Q true { s with heap := h' } := fun h' ks' sb p q => k true h' ks' sb (by rw [if_neg xm]; exact p.trans pms) q
    split
    · refine wpAny_bind ?_
      rw [hashByValue_scannable 8 (x := .int x tk) rfl]
      refine wpAny_pure ?_
      refine add_tail (wd := wd) (gw := fun b => match b with | true => rule "set.scan.the-table-gave-way" | false => pure ()) hgw ho hx hd hel1 im (pms.nodup_iff.mpr nn) hb1 (led := led) ?_ ?_ ?_
      · exact ft
      · exact gd
      · intro h' ks' sb p q
        exact wpAny_pure (fin h' ks' sb p q)
    · refine wpAny_bind (wpAny_pure ?_)
      simp only [↓reduceIte]
      refine add_tail (wd := wd) (gw := fun b => match b with | true => rule "set.scan.the-table-gave-way" | false => pure ()) hgw ho hx hd hel1 im (pms.nodup_iff.mpr nn) hb1 (led := led) ft gd ?_
      intro h' ks' sb p q
      exact wpAny_pure (fin h' ks' sb p q)
end
end Sp

set_option Elab.async false
set_option linter.all false
set_option maxRecDepth 100000
namespace Sp
open PySem PySem.Spec PyProof.Rows
theorem SetG.at {prog : Program} {w : World} {h h' : Heap} {a : Addr} {led : Bool} {ks : List Int} (g : SetG prog w h a led ks) (k : ∀ o, h.get? a = some o → h'.get? a = some o) : SetG prog w h' a led ks := by
  obtain ⟨o, es, ep, t, ho, r⟩ := g
  exact ⟨o, es, ep, t, k o ho, r⟩
section
variable {prog : Program} {w : World} {A : Around} {R : Result → Shared → Prop} {I : Addr} {fp wr : List Addr} {G : Array GenState → Array GenState → Prop} {n : Nat} {P : Nat → Value → Prop} {St : Nat → Shared → Prop}
end
section
variable {prog : Program} {w : World} {A : Around} {E : Value → Shared → Prop} {s : Shared}
def byText (w : World) : Bool := w.params.followText "set-order"
end
end Sp

set_option Elab.async false
set_option linter.all false
set_option maxRecDepth 100000
namespace Sp
open PySem PySem.Spec PyProof.Rows
section
variable {prog : Program} {w : World} {A : Around} {E : Value → Shared → Prop} {s : Shared}
end
end Sp

set_option Elab.async false
set_option linter.all false
set_option maxRecDepth 100000
namespace Sp
open PySem PySem.Spec PyProof.Rows
section
variable {M : Model} {prog : Program} {w : World} {A : Around} {E : Value → Shared → Prop} {s : Shared}
def ItAt (h : Heap) (I S : Addr) (first : Value) (i n ep : Nat) : Prop :=
  h.get? I = some { cls := .type "set_iterator", dict := none, data := .fields #[first, .int i 0, .ref S, .int n 0, .int ep 0], slots := #[] }
theorem ItAt.typeIs {I S : Addr} {first : Value} {i n ep : Nat} (h : ItAt s.heap I S first i n ep) : s.TypeIs (.ref I) "set_iterator" := ⟨_, h, rfl⟩
end
end Sp

set_option Elab.async false
set_option linter.all false
set_option maxRecDepth 100000
namespace Sp
open PySem PySem.Spec PyProof.Rows
section
variable {prog : Program} {w : World} {A : Around} {E : Value → Shared → Prop} {s : Shared}
variable {S : Addr} {o : Obj} {es : Array (Int × Value)} {ep : Nat} {t : SetTable}
end
end Sp

set_option Elab.async false
set_option linter.all false
set_option maxRecDepth 100000
namespace Sp
open PySem PySem.Spec PyProof.Rows
section
variable {prog : Program} {w : World} {A : Around} {E : Value → Shared → Prop} {s : Shared}
variable {S I : Addr} {o : Obj} {es : Array (Int × Value)} {ep : Nat} {t : SetTable}
def slotAt (ps : Array Nat) (i : Nat) : Nat := match i with | 0 => 0 | i + 1 => (ps[i]?.getD 0) + 1
end
end Sp

set_option Elab.async false
set_option linter.all false
set_option maxRecDepth 100000
namespace Sp
open PySem PySem.Spec PyProof.Rows
section
variable {prog : Program} {w : World} {A : Around} {E : Value → Shared → Prop} {s : Shared}
variable {S : Addr} {ks : List Int}
end
end Sp

set_option Elab.async false
set_option linter.all false
set_option maxRecDepth 100000
namespace Sp
open PySem PySem.Spec PyProof.Rows
section
variable {prog : Program} {w : World} {A : Around} {E : Value → Shared → Prop} {s : Shared}
variable {S : Addr} {ks : List Int}
theorem SetG.typeIs {led : Bool} (hS : SetG prog w s.heap S led ks) : s.TypeIs (.ref S) "set" := by
  obtain ⟨o, es, ep, t, ho, hx, r⟩ := hS
  exact ⟨o, ho, hx.1⟩
end
end Sp

set_option Elab.async false
set_option linter.all false
set_option maxRecDepth 100000
namespace L2
open PySem PySem.Spec PyProof.Rows
section
variable {X : Cx}
def setO (P : Program) (w : World) (a : Addr) (ks : List Int) : HO := HO.ext fun h => Sp.SetG P w h a (!Sp.byText w) ks
def rSet (X : Cx) : List V → Hp → VK → Prop := fun vs H Q => ∃ (a : Addr) (ns : List Int), vs = [V.ref a] ∧ SqL X.K H a (ns.map V.int) ∧ ns.length < 1000 ∧
  ∀ (ks : List Int) (p : Addr), (∀ x, x ∈ ks ↔ x ∈ ns) → ks.length ≤ ns.length → ks.Nodup → H p = none → Q (.ref p) (upd H p (setO X.prog X.w p ks))
def rSortedSet (X : Cx) : List V → Hp → VK → Prop := fun vs H Q => ∃ (a : Addr) (ks : List Int), vs = [V.ref a] ∧ H a = some (setO X.prog X.w a ks) ∧ ks.length < 64 ∧
  ∀ (ns' : List Int) (p : Addr), ns'.Perm ks → ns'.Pairwise (· ≤ ·) → H p = none → Q (.ref p) (upd H p (.lst (ns'.map V.int)))
end
end L2

set_option Elab.async false
set_option linter.all false
set_option maxRecDepth 100000
namespace Ds
open PySem L2
/-! ### values and objects of the own world -/
inductive Dv where
  | non | bl (b : Bool) | int (i : Int) | str (x : Str)
  | tup (xs : List Dv) | lst (xs : List Dv) | frz (xs : List Dv)
  | dct (ks : List Int) (xs : List Dv)
  | ref (i : Nat) | fn (x : Str) | err (c : Str) | ty (n : String) | rng (a b c : Int) | sset (ns : List Int)
inductive Ob where
  | lst (xs : List Dv) | ins (C : Str) (fs : List (Str × Dv)) | dead
abbrev OH := List Ob
abbrev DSt := List (Option Dv)
inductive Res (α : Type) where
  | ok (a : α) (h : OH) | exc (c : Str) (h : OH) | bad
inductive Flow where
  | nx (σ : DSt) (h : OH) | rt (d : Dv) (h : OH) | bk (σ : DSt) (h : OH) | ct (σ : DSt) (h : OH) | exc (c : Str) (h : OH) | bad
abbrev Fn := List Dv → OH → Res Dv
abbrev ME := DSt → OH → Res Dv
abbrev MT := DSt → OH → Res Bool
abbrev MA := DSt → OH → Res (List Dv)
abbrev MS := DSt → OH → Flow
abbrev MG := Dv → DSt → OH → Res DSt
def bindR {α β : Type} (r : Res α) (k : α → OH → Res β) : Res β := match r with
  | .ok a h => k a h
  | .exc c h => .exc c h
  | .bad => .bad
def bindS {α : Type} (r : Res α) (k : α → OH → Flow) : Flow := match r with
  | .ok a h => k a h
  | .exc c h => .exc c h
  | .bad => .bad
def bindF (r : Flow) (k : DSt → OH → Flow) : Flow := match r with
  | .nx σ h => k σ h
  | o => o
def getL (h : OH) : Dv → Option (List Dv)
  | .lst xs => some xs
  | .ref i => match h[i]? with
    | some (.lst xs) => some xs
    | _ => none
  | _ => none
def getS (h : OH) : Dv → Option (List Dv)
  | .tup xs => some xs
  | d => getL h d
/-! ### how they stand in the layer's heap -/
structure Gx where
  P : Program
  w : World
  K : PySem.W.Frag
  ca : Str → Option Addr
structure Pt where
  ρ : List Addr
  F : Hp
structure Pt.le (p q : Pt) : Prop where
  r : p.ρ <+: q.ρ
  f : Same p.F q.F
theorem Pt.le.refl (p : Pt) : p.le p := ⟨List.prefix_refl _, Same.refl _⟩
theorem Pt.le.trans {p q r : Pt} (a : p.le q) (b : q.le r) : p.le r := ⟨a.r.trans b.r, a.f.trans b.f⟩
mutual
inductive RV (G : Gx) (p : Pt) : Dv → V → Prop
  | non : RV G p .non .non
  | bl (b : Bool) : RV G p (.bl b) (.bl b)
  | int (i : Int) : RV G p (.int i) (.int i)
  | str (x : Str) : RV G p (.str x) (.str x)
  | tup {a : Addr} {xs : List Dv} {ys : List V} (h : p.F a = some (.tup ys)) (r : RVs G p xs ys) (hl : ys.length ≤ sizeLine) : RV G p (.tup xs) (.ref a)
  | lst {a : Addr} {xs : List Dv} {ys : List V} (h : p.F a = some (.lst ys)) (r : RVs G p xs ys) (hl : ys.length ≤ sizeLine) : RV G p (.lst xs) (.ref a)
  | frz {a : Addr} {xs : List Dv} {ys : List V} (h : SqL G.K p.F a ys) (r : RVs G p xs ys) (hl : ys.length ≤ sizeLine) : RV G p (.frz xs) (.ref a)
  | dct {a : Addr} {ks : List Int} {xs : List Dv} {kvs : List (Key × V)} (h : p.F a = some (.dK kvs)) (hk : kvs.map (·.1) = ks.map Sum.inl) (r : RVs G p xs (kvs.map (·.2))) : RV G p (.dct ks xs) (.ref a)
  | ref {i : Nat} {a : Addr} (h : p.ρ[i]? = some a) : RV G p (.ref i) (.ref a)
  | fn {x : Str} {a : Addr} (h : G.ca x = some a) : RV G p (.fn x) (.ref a)
  | ty (n : String) : RV G p (.ty n) (.ty n)
  | rng {a : Addr} {i j c : Int} (h : p.F a = some (rngO a i j c)) : RV G p (.rng i j c) (.ref a)
  | sset {a : Addr} {ns ks : List Int} (h : p.F a = some (setO G.P G.w a ks)) (hm : ∀ x, x ∈ ks ↔ x ∈ ns) (hn : ks.Nodup) (hl : ks.length ≤ ns.length) : RV G p (.sset ns) (.ref a)
inductive RVs (G : Gx) (p : Pt) : List Dv → List V → Prop
  | nil : RVs G p [] []
  | cons {d : Dv} {v : V} {ds : List Dv} {vs : List V} (r : RV G p d v) (t : RVs G p ds vs) : RVs G p (d :: ds) (v :: vs)
end
variable {G : Gx} {p q : Pt}
theorem pre_get {l m : List Addr} {i : Nat} {a : Addr} (h : l <+: m) (e : l[i]? = some a) : m[i]? = some a := by
  obtain ⟨t, rfl⟩ := h
  rw [List.getElem?_append_left (List.getElem?_eq_some_iff.mp e).1]
  exact e
mutual
theorem RV.mono (l : p.le q) : ∀ {d : Dv} {v : V}, RV G p d v → RV G q d v
  | _, _, .non => .non
  | _, _, .bl b => .bl b
  | _, _, .int i => .int i
  | _, _, .str x => .str x
  | _, _, .tup h r hl => .tup (l.f _ _ h) (RVs.mono l r) hl
  | _, _, .lst h r hl => .lst (l.f _ _ h) (RVs.mono l r) hl
  | _, _, .frz h r hl => .frz (l.f.seq h) (RVs.mono l r) hl
  | _, _, .dct h hk r => .dct (l.f _ _ h) hk (RVs.mono l r)
  | _, _, .ref h => .ref (pre_get l.r h)
  | _, _, .fn h => .fn h
  | _, _, .ty n => .ty n
  | _, _, .rng h => .rng (l.f _ _ h)
  | _, _, .sset h hm hn hl => .sset (l.f _ _ h) hm hn hl
theorem RVs.mono (l : p.le q) : ∀ {ds : List Dv} {vs : List V}, RVs G p ds vs → RVs G q ds vs
  | _, _, .nil => .nil
  | _, _, .cons r t => .cons (RV.mono l r) (RVs.mono l t)
end
theorem RVs.length : ∀ {ds : List Dv} {vs : List V}, RVs G p ds vs → ds.length = vs.length
  | _, _, .nil => rfl
  | _, _, .cons _ t => congrArg (· + 1) t.length
theorem RVs.get : ∀ {ds : List Dv} {vs : List V} {i : Nat} {d : Dv}, RVs G p ds vs → ds[i]? = some d → ∃ v, vs[i]? = some v ∧ RV G p d v
  | _, _, _, _, .nil, e => by simp at e
  | _, _, 0, _, .cons r _, e => by simp at e; subst e; exact ⟨_, rfl, r⟩
  | _, _, i + 1, d, .cons _ t, e => by
    obtain ⟨v, h1, h2⟩ := RVs.get (i := i) (d := d) t (by simpa using e)
    exact ⟨v, by simpa using h1, h2⟩
theorem RVs.append : ∀ {xs ys : List Dv} {us ws : List V}, RVs G p xs us → RVs G p ys ws → RVs G p (xs ++ ys) (us ++ ws)
  | _, _, _, _, .nil, s => s
  | _, _, _, _, .cons r t, s => .cons r (RVs.append t s)
theorem RVs.take : ∀ {xs : List Dv} {us : List V} (n : Nat), RVs G p xs us → RVs G p (xs.take n) (us.take n)
  | _, _, 0, _ => .nil
  | _, _, _ + 1, .nil => .nil
  | _, _, n + 1, .cons r t => .cons r (RVs.take n t)
theorem RVs.drop : ∀ {xs : List Dv} {us : List V} (n : Nat), RVs G p xs us → RVs G p (xs.drop n) (us.drop n)
  | _, _, 0, r => r
  | _, _, _ + 1, .nil => .nil
  | _, _, n + 1, .cons _ t => RVs.drop n t
theorem RVs.set {x : Dv} {u : V} (r : RV G p x u) : ∀ {xs : List Dv} {us : List V} (i : Nat), RVs G p xs us → RVs G p (xs.set i x) (us.set i u)
  | _, _, _, .nil => .nil
  | _, _, 0, .cons _ t => .cons r t
  | _, _, i + 1, .cons q t => .cons q (RVs.set r i t)
theorem RVs.reverse : ∀ {xs : List Dv} {us : List V}, RVs G p xs us → RVs G p xs.reverse us.reverse
  | _, _, .nil => .nil
  | _, _, .cons r t => by
    rw [List.reverse_cons, List.reverse_cons]
    exact RVs.append (RVs.reverse t) (.cons r .nil)
theorem RVs.ints : ∀ ns : List Int, RVs G p (ns.map Dv.int) (ns.map V.int)
  | [] => .nil
  | _ :: r => .cons (.int _) (RVs.ints r)
/-! ### objects -/
inductive RO (G : Gx) (p : Pt) : Ob → Option HO → Prop
  | lst {xs : List Dv} {ys : List V} (r : RVs G p xs ys) (hl : ys.length ≤ sizeLine) : RO G p (.lst xs) (some (.lst ys))
  | ins {C : Str} {a dx : Addr} {fs : List (Str × Dv)} {gs : List (Str × V)} (hc : G.ca C = some a) (hn : fs.map (·.1) = gs.map (·.1)) (r : RVs G p (fs.map (·.2)) (gs.map (·.2))) : RO G p (.ins C fs) (some (.ins a dx gs))
  | dead {o : Option HO} : RO G p .dead o
theorem RO.mono (l : p.le q) {o : Ob} {x : Option HO} : RO G p o x → RO G q o x
  | .lst r hl => .lst (r.mono l) hl
  | .ins hc hn r => .ins hc hn (r.mono l)
  | .dead => .dead
def Live (h : OH) (i : Nat) : Prop := h[i]? ≠ some .dead
structure Rel (G : Gx) (p : Pt) (A : Hp) (h : OH) (H : Hp) : Prop where
  sf : Same p.F H
  sa : Same A H
  fa : ∀ a o, A a = some o → p.F a = none
  len : p.ρ.length = h.length
  obj : ∀ (i : Nat) (a : Addr) (o : Ob), p.ρ[i]? = some a → h[i]? = some o → RO G p o (H a)
  nd : ∀ (i j : Nat) (a : Addr), p.ρ[i]? = some a → p.ρ[j]? = some a → Live h i → Live h j → i = j
  ap : ∀ (i : Nat) (a : Addr), p.ρ[i]? = some a → Live h i → p.F a = none ∧ A a = none
theorem Rel.newF {A : Hp} {h : OH} {H : Hp} (R : Rel G p A h H) {a : Addr} {o : HO} (hn : H a = none) : Rel G ⟨p.ρ, upd p.F a o⟩ A h (upd H a o) ∧ p.le ⟨p.ρ, upd p.F a o⟩ := by
  have le : p.le ⟨p.ρ, upd p.F a o⟩ := ⟨List.prefix_refl _, Same.new1 (R.sf.free hn)⟩
  refine ⟨⟨fun b u e => ?_, fun b u e => ?_, fun b u e => ?_, R.len, fun i b ob e1 e2 => ?_, R.nd, fun i b e l => ?_⟩, le⟩
  · have e : upd p.F a o b = some u := e
    by_cases hb : b = a
    · subst hb; rw [upd_same] at e ⊢; exact e
    · rw [upd_ne hb] at e ⊢; exact R.sf _ _ e
  · have hb : b ≠ a := fun z => by subst z; rw [R.sa.free hn] at e; cases e
    rw [upd_ne hb]; exact R.sa _ _ e
  · have hb : b ≠ a := fun z => by subst z; rw [R.sa.free hn] at e; cases e
    show upd p.F a o b = none
    rw [upd_ne hb]; exact R.fa _ _ e
  · have q := (R.obj i b ob e1 e2).mono le
    by_cases hb : b = a
    · subst hb
      rw [hn] at q
      cases q
      exact .dead
    · rw [upd_ne hb]; exact q
  · have hb : b ≠ a := fun z => by
      subst z
      have lt : i < h.length := by rw [← R.len]; exact (List.getElem?_eq_some_iff.mp e).1
      have := R.obj i b _ e (List.getElem?_eq_getElem lt)
      rw [hn] at this
      cases ho : h[i] with
      | dead => exact l (by rw [List.getElem?_eq_getElem lt, ho])
      | lst => rw [ho] at this; cases this
      | ins => rw [ho] at this; cases this
    show upd p.F a o b = none ∧ _
    rw [upd_ne hb]
    exact R.ap i b e l
theorem Rel.some_at {A : Hp} {h : OH} {H : Hp} (R : Rel G p A h H) {i : Nat} {a : Addr} (e : p.ρ[i]? = some a) (l : Live h i) : ∃ o, H a = some o := by
  have lt : i < h.length := by rw [← R.len]; exact (List.getElem?_eq_some_iff.mp e).1
  have q := R.obj i a _ e (List.getElem?_eq_getElem lt)
  cases ho : h[i] with
  | dead => exact absurd (by rw [List.getElem?_eq_getElem lt, ho]) l
  | lst => rw [ho] at q; generalize H a = z at q; cases q; exact ⟨_, rfl⟩
  | ins => rw [ho] at q; generalize H a = z at q; cases q; exact ⟨_, rfl⟩
theorem live_app {h : OH} {o : Ob} {i : Nat} (hi : i < h.length) : Live (h ++ [o]) i ↔ Live h i := by
  unfold Live
  rw [List.getElem?_append_left hi]
theorem Rel.newO {A : Hp} {h : OH} {H H' : Hp} (R : Rel G p A h H) {a : Addr} {o : Ob} (hn : H a = none) (hs : ∀ b u, H b = some u → H' b = some u) (ho : RO G ⟨p.ρ ++ [a], p.F⟩ o (H' a)) :
    Rel G ⟨p.ρ ++ [a], p.F⟩ A (h ++ [o]) H' ∧ p.le ⟨p.ρ ++ [a], p.F⟩ := by
  have le : p.le ⟨p.ρ ++ [a], p.F⟩ := ⟨List.prefix_append _ _, Same.refl _⟩
  have old : ∀ {i : Nat} {b : Addr}, (p.ρ ++ [a])[i]? = some b → (i < h.length ∧ p.ρ[i]? = some b) ∨ (i = h.length ∧ b = a) := fun {i b} e => by
    by_cases hi : i < p.ρ.length
    · rw [List.getElem?_append_left hi] at e
      exact .inl ⟨R.len ▸ hi, e⟩
    · rw [List.getElem?_append_right (by omega)] at e
      have h0 : i - p.ρ.length = 0 := by
        have := (List.getElem?_eq_some_iff.mp e).1
        simp at this
        omega
      rw [h0] at e
      exact .inr ⟨by rw [← R.len]; omega, by simpa using e.symm⟩
  have far : ∀ {i : Nat}, p.ρ[i]? = some a → i < h.length → ¬ Live h i := fun {i} e _ l => by
    obtain ⟨o, q⟩ := R.some_at e l
    rw [hn] at q; cases q
  refine ⟨⟨fun b u e => hs _ _ (R.sf _ _ e), fun b u e => hs _ _ (R.sa _ _ e), R.fa, by simp [R.len], fun i b ob e1 e2 => ?_, fun i j b e1 e2 l1 l2 => ?_, fun i b e l => ?_⟩, le⟩
  · rcases old e1 with ⟨hi, e⟩ | ⟨hi, rfl⟩
    · rw [List.getElem?_append_left hi] at e2
      have q := (R.obj i b ob e e2).mono le
      cases ob with
      | dead => exact .dead
      | lst => generalize hz : H b = z at q; cases q with | lst r hl => rw [hs _ _ hz]; exact .lst r hl
      | ins => generalize hz : H b = z at q; cases q with | ins hc hn r => rw [hs _ _ hz]; exact .ins hc hn r
    · subst hi
      rw [List.getElem?_append_right (Nat.le_refl _)] at e2
      simp at e2
      subst e2
      exact ho
  · rcases old e1 with ⟨hi, e4⟩ | ⟨hi, rfl⟩
    · clear e1
      have e1 := e4
      rcases old e2 with ⟨hj, e3⟩ | ⟨hj, eb⟩
      · exact R.nd i j b e1 e3 ((live_app hi).mp l1) ((live_app hj).mp l2)
      · subst eb; exact absurd ((live_app hi).mp l1) (far e1 hi)
    · rcases old e2 with ⟨hj, e2⟩ | ⟨hj, _⟩
      · exact absurd ((live_app hj).mp l2) (far e2 hj)
      · omega
  · rcases old e with ⟨hi, e⟩ | ⟨hi, rfl⟩
    · exact R.ap i b e ((live_app hi).mp l)
    · exact ⟨R.sf.free hn, R.sa.free hn⟩
theorem live_set {h : OH} {o o' : Ob} {i j : Nat} (e : h[i]? = some o) (hd : o ≠ .dead) (l : Live (h.set i o') j) : Live h j := by
  unfold Live at *
  by_cases hj : i = j
  · subst hj; rw [e]; exact fun z => hd (Option.some.inj z)
  · rw [List.getElem?_set_ne hj] at l; exact l
theorem Rel.setO {A : Hp} {h : OH} {H : Hp} (R : Rel G p A h H) {i : Nat} {a : Addr} {o o' : Ob} {u : HO} (ea : p.ρ[i]? = some a) (eo : h[i]? = some o) (hd : o ≠ .dead) (ho : RO G p o' (some u)) : Rel G p A (h.set i o') (upd H a u) := by
  have li : Live h i := by unfold Live; rw [eo]; exact fun z => hd (Option.some.inj z)
  have hF := R.ap i a ea li
  refine ⟨fun b x e => ?_, fun b x e => ?_, R.fa, by rw [List.length_set]; exact R.len, fun j b ob e1 e2 => ?_, fun j k b e1 e2 l1 l2 => R.nd j k b e1 e2 (live_set eo hd l1) (live_set eo hd l2), fun j b e l => R.ap j b e (live_set eo hd l)⟩
  · rw [upd_ne (fun z => by subst z; rw [hF.1] at e; cases e)]; exact R.sf _ _ e
  · rw [upd_ne (fun z => by subst z; rw [hF.2] at e; cases e)]; exact R.sa _ _ e
  · by_cases hj : i = j
    · subst hj
      have lt := (List.getElem?_eq_some_iff.mp eo).1
      rw [List.getElem?_set_self lt] at e2
      cases e2
      rw [ea] at e1
      cases e1
      rw [upd_same]
      exact ho
    · rw [List.getElem?_set_ne hj] at e2
      have q := R.obj j b ob e1 e2
      by_cases hb : b = a
      · subst hb
        cases ob with
        | dead => exact .dead
        | lst => exact absurd (R.nd i j b ea e1 li (by unfold Live; rw [e2]; exact fun z => nomatch z)) hj
        | ins => exact absurd (R.nd i j b ea e1 li (by unfold Live; rw [e2]; exact fun z => nomatch z)) hj
      · rw [upd_ne hb]; exact q
/-! ### the names -/
structure RS (G : Gx) (p : Pt) (σd : DSt) (σ : St) : Prop where
  len : σd.length = σ.length
  get : ∀ (i : Nat) (d : Dv), σd[i]? = some (some d) → ∃ v, σ[i]? = some (some v) ∧ RV G p d v
theorem RS.mono (l : p.le q) {σd : DSt} {σ : St} (r : RS G p σd σ) : RS G q σd σ := ⟨r.len, fun i d e => by
  obtain ⟨v, h1, h2⟩ := r.get i d e
  exact ⟨v, h1, h2.mono l⟩⟩
theorem RS.set {σd : DSt} {σ : St} (r : RS G p σd σ) {d : Dv} {v : V} (rv : RV G p d v) (i : Nat) : RS G p (σd.set i (some d)) (σ.set i (some v)) := by
  refine ⟨by rw [List.length_set, List.length_set]; exact r.len, fun j e h => ?_⟩
  by_cases hj : i = j
  · subst hj
    by_cases hi : i < σd.length
    · rw [List.getElem?_set_self hi] at h
      cases h
      exact ⟨v, List.getElem?_set_self (by rw [← r.len]; exact hi), rv⟩
    · rw [List.getElem?_eq_none (by rw [List.length_set]; omega)] at h
      cases h
  · rw [List.getElem?_set_ne hj] at h ⊢
    exact r.get j e h
def wipeD (σ : DSt) : List Nat → DSt
  | [] => σ
  | v :: vs => (wipeD σ vs).set v none
theorem RS.unset {σd : DSt} {σ : St} (r : RS G p σd σ) (i : Nat) : RS G p (σd.set i none) (σ.set i none) := by
  refine ⟨by rw [List.length_set, List.length_set]; exact r.len, fun j e h => ?_⟩
  by_cases hj : i = j
  · subst hj
    by_cases hi : i < σd.length
    · rw [List.getElem?_set_self hi] at h; cases h
    · rw [List.getElem?_eq_none (by rw [List.length_set]; omega)] at h; cases h
  · rw [List.getElem?_set_ne hj] at h ⊢
    exact r.get j e h
theorem RS.wipe {σd : DSt} {σ : St} (r : RS G p σd σ) : ∀ vs : List Nat, RS G p (wipeD σd vs) (L2.wipe σ vs)
  | [] => r
  | v :: vs => (RS.wipe r vs).unset v
end Ds

set_option Elab.async false
set_option linter.all false
set_option maxRecDepth 100000
namespace Ds
open PySem L2
variable {G : Gx} {E : XK}
/-! ### outcomes -/
def Out {α β : Type} (G : Gx) (E : XK) (A : Hp) (R : Pt → α → β → Prop) (p : Pt) (r : Res α) (Q : β → Hp → Prop) : Prop := match r with
  | .ok a h' => ∀ (q : Pt) (b : β) (H' : Hp), p.le q → Rel G q A h' H' → R q a b → Q b H'
  | .exc c h' => ∀ (q : Pt) (H' : Hp) (a : Addr) (od : Option Addr), p.le q → Rel G q A h' H' → G.ca c = some a → E (.ref a) od H'
  | .bad => False
def OutS (G : Gx) (E : XK) (A : Hp) (p : Pt) (r : Flow) (D : Ends) : Prop := match r with
  | .nx σd h' => ∀ (q : Pt) (σ : St) (H' : Hp), p.le q → Rel G q A h' H' → RS G q σd σ → D.nx σ H'
  | .bk σd h' => ∀ (q : Pt) (σ : St) (H' : Hp), p.le q → Rel G q A h' H' → RS G q σd σ → D.bk σ H'
  | .ct σd h' => ∀ (q : Pt) (σ : St) (H' : Hp), p.le q → Rel G q A h' H' → RS G q σd σ → D.ct σ H'
  | .rt d h' => ∀ (q : Pt) (v : V) (H' : Hp), p.le q → Rel G q A h' H' → RV G q d v → D.rt v H'
  | .exc c h' => ∀ (q : Pt) (H' : Hp) (a : Addr) (od : Option Addr), p.le q → Rel G q A h' H' → G.ca c = some a → E (.ref a) od H'
  | .bad => False
theorem Out.mono {α β : Type} {A : Hp} {R : Pt → α → β → Prop} {p q : Pt} {r : Res α} {Q : β → Hp → Prop} (l : p.le q) (o : Out G E A R p r Q) : Out G E A R q r Q := by
  cases r with
  | ok a h => exact fun q' b H' l' => o q' b H' (l.trans l')
  | exc c h => exact fun q' H' a od l' => o q' H' a od (l.trans l')
  | bad => exact o
theorem OutS.mono {A : Hp} {p q : Pt} {r : Flow} {D : Ends} (l : p.le q) (o : OutS G E A p r D) : OutS G E A q r D := by
  cases r with
  | nx a h => exact fun q' b H' l' => o q' b H' (l.trans l')
  | bk a h => exact fun q' b H' l' => o q' b H' (l.trans l')
  | ct a h => exact fun q' b H' l' => o q' b H' (l.trans l')
  | rt a h => exact fun q' b H' l' => o q' b H' (l.trans l')
  | exc c h => exact fun q' H' a od l' => o q' H' a od (l.trans l')
  | bad => exact o
theorem Out.bind {α β γ δ : Type} {A : Hp} {R : Pt → α → β → Prop} {S : Pt → γ → δ → Prop} {p : Pt} {r : Res α} {k : α → OH → Res γ} {Q : δ → Hp → Prop} {Q1 : β → Hp → Prop} (o : Out G E A S p (bindR r k) Q)
    (f : ∀ (q : Pt) (a : α) (h1 : OH) (b : β) (H1 : Hp), p.le q → Rel G q A h1 H1 → R q a b → Out G E A S q (k a h1) Q → Q1 b H1) : Out G E A R p r Q1 := by
  cases r with
  | ok a h => exact fun q b H' l R1 r1 => f q a h b H' l R1 r1 (Out.mono l o)
  | exc c h => exact o
  | bad => exact o
theorem Out.bindS {α β : Type} {A : Hp} {R : Pt → α → β → Prop} {p : Pt} {r : Res α} {k : α → OH → Flow} {D : Ends} {Q1 : β → Hp → Prop} (o : OutS G E A p (Ds.bindS r k) D)
    (f : ∀ (q : Pt) (a : α) (h1 : OH) (b : β) (H1 : Hp), p.le q → Rel G q A h1 H1 → R q a b → OutS G E A q (k a h1) D → Q1 b H1) : Out G E A R p r Q1 := by
  cases r with
  | ok a h => exact fun q b H' l R1 r1 => f q a h b H' l R1 r1 (OutS.mono l o)
  | exc c h => exact o
  | bad => exact o
def Snd {α β : Type} (G : Gx) (E : XK) (R : Pt → α → β → Prop) (t : St → Hp → (β → Hp → Prop) → Prop) (m : DSt → OH → Res α) : Prop :=
  ∀ (p : Pt) (A : Hp) (σd : DSt) (σ : St) (h : OH) (H : Hp) (Q : β → Hp → Prop), Rel G p A h H → RS G p σd σ → Out G E A R p (m σd h) Q → t σ H Q
abbrev SE (G : Gx) (E : XK) (t : TE) (m : ME) : Prop := Snd G E (RV G) t m
abbrev SA (G : Gx) (E : XK) (t : TA) (m : MA) : Prop := Snd G E (RVs G) t m
abbrev ST (G : Gx) (E : XK) (t : TT) (m : MT) : Prop := Snd G E (fun _ a b => a = b) t m
def SS (G : Gx) (E : XK) (t : TS) (m : MS) : Prop :=
  ∀ (p : Pt) (A : Hp) (σd : DSt) (σ : St) (h : OH) (H : Hp) (D : Ends), Rel G p A h H → RS G p σd σ → OutS G E A p (m σd h) D → t D σ H
def SG (G : Gx) (E : XK) (g : TG) (m : MG) : Prop :=
  ∀ (p : Pt) (A : Hp) (σd : DSt) (σ : St) (h : OH) (H : Hp) (d : Dv) (v : V) (Q : St → Hp → Prop), Rel G p A h H → RS G p σd σ → RV G p d v → Out G E A (RS G) p (m d σd h) Q → g v σ H Q
/-! ### names, constants -/
def mVar (i : Nat) : ME := fun σ h => match σ[i]? with
  | some (some d) => .ok d h
  | _ => .bad
theorem s_var (i : Nat) : SE G E (tVar i) (mVar i) := by
  intro p A σd σ h H Q R S o
  unfold mVar at o
  split at o
  · rename_i d e
    obtain ⟨v, e1, rv⟩ := S.get i d e
    exact ⟨v, e1, o p v H (.refl p) R rv⟩
  · exact o.elim
def mC (d : Dv) : ME := fun _ h => .ok d h
theorem s_c {v : V} {d : Dv} (rv : ∀ p, RV G p d v) : SE G E (tC v) (mC d) := fun p A σd σ h H Q R S o => o p v H (.refl p) R (rv p)
theorem s_int {i : Int} : SE G E (tC (.int i)) (mC (.int i)) := s_c fun _ => .int i
theorem s_bl {b : Bool} : SE G E (tC (.bl b)) (mC (.bl b)) := s_c fun _ => .bl b
/-! ### two parts and an operation -/
abbrev F2 := Dv → Dv → OH → Res Dv
def SR2 (G : Gx) (E : XK) (r : R2) (f : F2) : Prop :=
  ∀ (p : Pt) (A : Hp) (h : OH) (H : Hp) (x y : Dv) (v w : V) (Q : VK), Rel G p A h H → RV G p x v → RV G p y w → Out G E A (RV G) p (f x y h) Q → r v w H Q
def mOp (f : F2) (a b : ME) : ME := fun σ h => bindR (a σ h) fun x h => bindR (b σ h) fun y h => f x y h
theorem s_op {r : R2} {f : F2} {ta tb : TE} {ma mb : ME} (hr : SR2 G E r f) (ha : SE G E ta ma) (hb : SE G E tb mb) : SE G E (tOp r ta tb) (mOp f ma mb) := by
  intro p A σd σ h H Q R S o
  refine ha p A σd σ h H _ R S (Out.bind (R := RV G) o fun q x h1 v H1 l R1 rx o1 => ?_)
  refine hb q A σd σ h1 H1 _ R1 (S.mono l) (Out.bind (R := RV G) o1 fun q2 y h2 w H2 l2 R2 ry o2 => ?_)
  exact hr q2 A h2 H2 x y v w Q R2 (rx.mono l2) ry o2
abbrev F1 := Dv → OH → Res Dv
def SR1 (G : Gx) (E : XK) (r : V → Hp → VK → Prop) (f : F1) : Prop :=
  ∀ (p : Pt) (A : Hp) (h : OH) (H : Hp) (x : Dv) (v : V) (Q : VK), Rel G p A h H → RV G p x v → Out G E A (RV G) p (f x h) Q → r v H Q
def mUn (f : F1) (a : ME) : ME := fun σ h => bindR (a σ h) fun x h => f x h
/-! ### argument lists -/
def mNil : MA := fun _ h => .ok [] h
def mCons (a : ME) (r : MA) : MA := fun σ h => bindR (a σ h) fun x h => bindR (r σ h) fun xs h => .ok (x :: xs) h
theorem s_nil : SA G E tNil mNil := fun p A σd σ h H Q R S o => o p [] H (.refl p) R .nil
theorem s_cons {ta : TE} {tr : TA} {ma : ME} {mr : MA} (ha : SE G E ta ma) (hr : SA G E tr mr) : SA G E (tCons ta tr) (mCons ma mr) := by
  intro p A σd σ h H Q R S o
  refine ha p A σd σ h H _ R S (Out.bind (R := RV G) o fun q x h1 v H1 l R1 rx o1 => ?_)
  refine hr q A σd σ h1 H1 _ R1 (S.mono l) (Out.bind (R := RVs G) o1 fun q2 y h2 w H2 l2 R2 ry o2 => ?_)
  exact o2 q2 _ H2 (.refl _) R2 (.cons (rx.mono l2) ry)
def mLits (is : List Int) : MA := fun _ h => .ok (is.map Dv.int) h
/-! ### tests -/
def mTest (a : ME) : MT := fun σ h => bindR (a σ h) fun x h => match x with
  | .bl b => .ok b h
  | _ => .bad
theorem bl_of {p : Pt} {b : Bool} {v : V} (r : RV G p (.bl b) v) : v = .bl b := by cases r; rfl
theorem s_test {t : TE} {m : ME} (ha : SE G E t m) : ST G E (tTest t) (mTest m) := by
  intro p A σd σ h H Q R S o
  refine ha p A σd σ h H _ R S (Out.bind (R := RV G) o fun q x h1 v H1 l R1 rx o1 => ?_)
  cases x with
  | bl b => exact ⟨b, bl_of rx, o1 q b H1 (.refl _) R1 rfl⟩
  | _ => exact o1.elim
theorem s_tB {t : TE} {m : ME} (ha : SE G E t m) : ST G E (tB t) (mTest m) := s_test ha
def mAnd (a b : MT) : MT := fun σ h => bindR (a σ h) fun c h => if c = true then b σ h else .ok false h
def mOr (a b : MT) : MT := fun σ h => bindR (a σ h) fun c h => if c = true then .ok true h else b σ h
def mNot (a : MT) : MT := fun σ h => bindR (a σ h) fun c h => .ok (!c) h
theorem s_and {t u : TT} {a b : MT} (ha : ST G E t a) (hb : ST G E u b) : ST G E (tAnd t u) (mAnd a b) := by
  intro p A σd σ h H Q R S o
  refine ha p A σd σ h H _ R S (Out.bind (R := fun _ a b => a = b) o fun q x h1 v H1 l R1 rx o1 => ?_)
  subst rx
  cases x with
  | true => exact iteT (hb q A σd σ h1 H1 _ R1 (S.mono l) (by rwa [if_pos rfl] at o1))
  | false => exact iteF (by rw [if_neg Bool.false_ne_true] at o1; exact o1 q false H1 (.refl _) R1 rfl)
theorem s_or {t u : TT} {a b : MT} (ha : ST G E t a) (hb : ST G E u b) : ST G E (tOr t u) (mOr a b) := by
  intro p A σd σ h H Q R S o
  refine ha p A σd σ h H _ R S (Out.bind (R := fun _ a b => a = b) o fun q x h1 v H1 l R1 rx o1 => ?_)
  subst rx
  cases x with
  | true => exact iteT (by rw [if_pos rfl] at o1; exact o1 q true H1 (.refl _) R1 rfl)
  | false => exact iteF (hb q A σd σ h1 H1 _ R1 (S.mono l) (by rwa [if_neg Bool.false_ne_true] at o1))
theorem s_not {t : TT} {a : MT} (ha : ST G E t a) : ST G E (tNot t) (mNot a) := by
  intro p A σd σ h H Q R S o
  refine ha p A σd σ h H _ R S (Out.bind (R := fun _ a b => a = b) o fun q x h1 v H1 l R1 rx o1 => ?_)
  subst rx
  exact o1 q _ H1 (.refl _) R1 rfl
def mAndV (a b : ME) : ME := fun σ h => bindR (a σ h) fun x h => match x with
  | .bl true => b σ h
  | .bl false => .ok (.bl false) h
  | _ => .bad
def mOrV (a b : ME) : ME := fun σ h => bindR (a σ h) fun x h => match x with
  | .bl true => .ok (.bl true) h
  | .bl false => b σ h
  | _ => .bad
def mNotV (a : ME) : ME := fun σ h => bindR (a σ h) fun x h => match x with
  | .bl b => .ok (.bl (!b)) h
  | _ => .bad
theorem s_andV {t u : TE} {a b : ME} (ha : SE G E t a) (hb : SE G E u b) : SE G E (tAndV t u) (mAndV a b) := by
  intro p A σd σ h H Q R S o
  refine ha p A σd σ h H _ R S (Out.bind (R := RV G) o fun q x h1 v H1 l R1 rx o1 => ?_)
  cases x with
  | bl c =>
    refine ⟨c, bl_of rx, ?_⟩
    cases c with
    | true => exact iteT (hb q A σd σ h1 H1 _ R1 (S.mono l) o1)
    | false => exact iteF (o1 q _ H1 (.refl _) R1 (.bl false))
  | _ => exact o1.elim
def mIfE (c : MT) (a b : ME) : ME := fun σ h => bindR (c σ h) fun x h => if x = true then a σ h else b σ h
def mChain (f g : F2) (a b c : ME) : ME := fun σ h => bindR (a σ h) fun x h => bindR (b σ h) fun y h => bindR (f x y h) fun z h => match z with
  | .bl true => bindR (c σ h) fun w h => g y w h
  | .bl false => .ok (.bl false) h
  | _ => .bad
/-! ### statements -/
def mNext : MS := fun σ h => .nx σ h
def mSeq (a b : MS) : MS := fun σ h => bindF (a σ h) b
theorem s_next : SS G E tNext mNext := fun p A σd σ h H D R S o => o p σ H (.refl _) R S
theorem s_seq {t u : TS} {a b : MS} (ha : SS G E t a) (hb : SS G E u b) : SS G E (tSeq t u) (mSeq a b) := by
  intro p A σd σ h H D R S o
  refine ha p A σd σ h H _ R S ?_
  have o : OutS G E A p (bindF (a σd h) b) D := o
  cases e : a σd h with
  | nx σ' h' =>
    rw [e] at o
    exact fun q σ2 H2 l R2 S2 => hb q A σ' σ2 h' H2 D R2 S2 (OutS.mono l o)
  | rt d h' => rw [e] at o; exact o
  | bk σ' h' => rw [e] at o; exact o
  | ct σ' h' => rw [e] at o; exact o
  | exc c h' => rw [e] at o; exact o
  | bad => rw [e] at o; exact o
def mBreak : MS := fun σ h => .bk σ h
def mCont : MS := fun σ h => .ct σ h
def mDrop (e : ME) : MS := fun σ h => bindS (e σ h) fun _ h => .nx σ h
def mRet (e : ME) : MS := fun σ h => bindS (e σ h) fun d h => .rt d h
theorem s_ret {t : TE} {m : ME} (ha : SE G E t m) : SS G E (tRet t) (mRet m) := by
  intro p A σd σ h H D R S o
  exact ha p A σd σ h H _ R S (Out.bindS (R := RV G) o fun q x h1 v H1 l R1 rx o1 => o1 q v H1 (.refl _) R1 rx)
def mRetN : MS := fun _ h => .rt .non h
def mIf (c : MT) (a b : MS) : MS := fun σ h => bindS (c σ h) fun x h => if x = true then a σ h else b σ h
theorem s_if {c : TT} {t u : TS} {mc : MT} {a b : MS} (hc : ST G E c mc) (ha : SS G E t a) (hb : SS G E u b) : SS G E (tIfS c t u) (mIf mc a b) := by
  intro p A σd σ h H D R S o
  refine hc p A σd σ h H _ R S (Out.bindS (R := fun _ a b => a = b) o fun q x h1 v H1 l R1 rx o1 => ?_)
  subst rx
  cases x with
  | true => exact iteT (ha q A σd σ h1 H1 _ R1 (S.mono l) (by rwa [if_pos rfl] at o1))
  | false => exact iteF (hb q A σd σ h1 H1 _ R1 (S.mono l) (by rwa [if_neg Bool.false_ne_true] at o1))
def mRaise (c : Str) : MS := fun _ h => .exc c h
/-! ### targets -/
def mgN (i : Nat) : MG := fun d σ h => .ok (σ.set i (some d)) h
theorem s_gN (i : Nat) : SG G E (gName i) (mgN i) := fun p A σd σ h H d v Q R S rv o => o p _ H (.refl _) R (S.set rv i)
abbrev MGs := List Dv → DSt → OH → Res DSt
def SGs (G : Gx) (E : XK) (g : TGs) (m : MGs) : Prop :=
  ∀ (p : Pt) (A : Hp) (σd : DSt) (σ : St) (h : OH) (H : Hp) (ds : List Dv) (vs : List V) (Q : St → Hp → Prop), Rel G p A h H → RS G p σd σ → RVs G p ds vs → Out G E A (RS G) p (m ds σd h) Q → g vs σ H Q
def mgNil : MGs := fun ds σ h => match ds with
  | [] => .ok σ h
  | _ => .bad
def mgCons (g : MG) (r : MGs) : MGs := fun ds σ h => match ds with
  | d :: ds => bindR (g d σ h) fun σ h => r ds σ h
  | [] => .bad
theorem s_gNil : SGs G E gNil mgNil := by
  intro p A σd σ h H ds vs Q R S rv o
  cases rv with
  | nil => exact ⟨rfl, o p σ H (.refl _) R S⟩
  | cons => exact o.elim
theorem s_gCons {t : TG} {u : TGs} {g : MG} {r : MGs} (ht : SG G E t g) (hu : SGs G E u r) : SGs G E (gCons t u) (mgCons g r) := by
  intro p A σd σ h H ds vs Q R S rv o
  cases rv with
  | nil => exact o.elim
  | @cons d v ds vs rd rr =>
    refine ⟨v, vs, rfl, ht p A σd σ h H d v _ R S rd (Out.bind (R := RS G) o fun q σ' h1 σ2 H1 l R1 S1 o1 => ?_)⟩
    exact hu q A σ' σ2 h1 H1 ds vs Q R1 S1 (rr.mono l) o1
def mgTup (n : Nat) (g : MGs) : MG := fun d σ h => match d with
  | .tup xs => if xs.length = n then g xs σ h else .bad
  | _ => .bad
theorem s_gTup {n : Nat} {t : TGs} {g : MGs} (ht : SGs G E t g) : SG G E (gTup G.K n t) (mgTup n g) := by
  intro p A σd σ h H d v Q R S rv o
  cases rv with
  | @tup a xs ys hF r _ =>
    have o : Out G E A (RS G) p (if xs.length = n then g xs σd h else .bad) Q := o
    by_cases hn : xs.length = n
    · rw [if_pos hn] at o
      exact ⟨a, ys, rfl, SqT.of (R.sf _ _ hF), by rw [← r.length]; exact hn, ht p A σd σ h H xs ys Q R S r o⟩
    · rw [if_neg hn] at o
      exact o.elim
  | _ => exact o.elim
def mAsg (e : ME) (g : MG) : MS := fun σ h => bindS (e σ h) fun d h => bindS (g d σ h) fun σ h => .nx σ h
theorem s_asg {t : TE} {g : TG} {m : ME} {mg : MG} (ht : SE G E t m) (hg : SG G E g mg) : SS G E (tAsg t g) (mAsg m mg) := by
  intro p A σd σ h H D R S o
  refine ht p A σd σ h H _ R S (Out.bindS (R := RV G) o fun q x h1 v H1 l R1 rx o1 => ?_)
  exact hg q A σd σ h1 H1 x v _ R1 (S.mono l) rx (Out.bindS (R := RS G) o1 fun q2 σ2 h2 τ H2 l2 R2 S2 o2 => o2 q2 τ H2 (.refl _) R2 S2)
def mSet (i : Nat) (e : ME) : MS := fun σ h => bindS (e σ h) fun d h => .nx (σ.set i (some d)) h
theorem s_set {i : Nat} {t : TE} {m : ME} (ht : SE G E t m) : SS G E (tAsg t (gName i)) (mSet i m) := by
  intro p A σd σ h H D R S o
  exact ht p A σd σ h H _ R S (Out.bindS (R := RV G) o fun q x h1 v H1 l R1 rx o1 => o1 q _ H1 (.refl _) R1 ((S.mono l).set rx i))
def mPar (i j : Nat) (a : MA) : MS := fun σ h => bindS (a σ h) fun ds h => match ds with
  | [x, y] => .nx ((σ.set i (some x)).set j (some y)) h
  | _ => .bad
theorem s_par {i j : Nat} {t : TA} {m : MA} (ht : SA G E t m) : SS G E (tPar i j t) (mPar i j m) := by
  intro p A σd σ h H D R S o
  refine ht p A σd σ h H _ R S (Out.bindS (R := RVs G) o fun q x h1 v H1 l R1 rx o1 => ?_)
  match x, v, rx with
  | [a, b], [u, w], .cons ra (.cons rb .nil) => exact ⟨u, w, rfl, o1 q _ H1 (.refl _) R1 (((S.mono l).set ra i).set rb j)⟩
  | [], _, _ => exact o1.elim
  | [_], _, _ => exact o1.elim
  | _ :: _ :: _ :: _, _, _ => exact o1.elim
def mPar3 (i j k : Nat) (a : MA) : MS := fun σ h => bindS (a σ h) fun ds h => match ds with
  | [x, y, z] => .nx (((σ.set i (some x)).set j (some y)).set k (some z)) h
  | _ => .bad
def STI (G : Gx) (E : XK) (r : TIp) (f : F2) : Prop := SR2 G E r f
def mAug (i : Nat) (e : ME) (f : F2) : MS := fun σ h => match σ[i]? with
  | some (some x) => bindS (e σ h) fun y h => bindS (f x y h) fun z h => .nx (σ.set i (some z)) h
  | _ => .bad
def mFrz (i : Nat) (m : MS) : MS := fun σ h => match σ[i]? with
  | some (some (.ref j)) => match h[j]? with
    | some (.lst xs) => m (σ.set i (some (.lst xs))) (h.set j .dead)
    | _ => .bad
  | _ => .bad
end Ds

set_option Elab.async false
set_option linter.all false
set_option maxRecDepth 100000
namespace Ds
open PySem L2
variable {G : Gx} {E : XK}
/-! ### ints -/
def fI (g : Int → Int → Dv) : F2 := fun x y h => match x, y with
  | .int i, .int j => .ok (g i j) h
  | _, _ => .bad
def fIC (c : Int → Int → Bool) (g : Int → Int → Dv) : F2 := fun x y h => match x, y with
  | .int i, .int j => if c i j = true then .ok (g i j) h else .bad
  | _, _ => .bad
theorem int_of {p : Pt} {i : Int} {v : V} (r : RV G p (.int i) v) : v = .int i := by cases r; rfl
theorem s_I0 {g : Int → Int → Dv} {gv : Int → Int → V} (hg : ∀ p i j, RV G p (g i j) (gv i j)) : SR2 G E (rI0 gv) (fI g) := by
  intro p A h H x y v w Q R rx ry o
  cases x with
  | int i =>
    cases y with
    | int j => exact ⟨i, j, int_of rx, int_of ry, o p _ H (.refl _) R (hg p i j)⟩
    | _ => exact o.elim
  | _ => exact o.elim
theorem s_IC {c : Int → Int → Bool} {C : Int → Int → Prop} {g : Int → Int → Dv} {gv : Int → Int → V} (hc : ∀ i j, c i j = true → C i j) (hg : ∀ p i j, RV G p (g i j) (gv i j)) : SR2 G E (rI C gv) (fIC c g) := by
  intro p A h H x y v w Q R rx ry o
  cases x with
  | int i =>
    cases y with
    | int j =>
      have o : Out G E A (RV G) p (if c i j = true then .ok (g i j) h else .bad) Q := o
      by_cases e : c i j = true
      · rw [if_pos e] at o
        exact ⟨i, j, int_of rx, int_of ry, hc i j e, o p _ H (.refl _) R (hg p i j)⟩
      · rw [if_neg e] at o
        exact o.elim
    | _ => exact o.elim
  | _ => exact o.elim
def cMul (i j : Int) : Bool := (decide (-(2 ^ 64) < i) && decide (i < 2 ^ 64)) || (decide (-(2 ^ 64) < j) && decide (j < 2 ^ 64))
def cPos (_ j : Int) : Bool := decide (0 < j)
def cNon (_ j : Int) : Bool := decide (0 ≤ j)
def big1000 : Int := 2 ^ 1000
def cDiv (_ j : Int) : Bool := decide (0 < j) && decide (j < big1000)
def cPow (i j : Int) : Bool := decide (0 ≤ j) && decide (j ≤ 1000) && decide (i.natAbs < 1000)
def fAdd : F2 := fI fun i j => .int (i + j)
def fSub : F2 := fI fun i j => .int (i - j)
def fMul : F2 := fIC cMul fun i j => .int (i * j)
def fMod : F2 := fIC cPos fun i j => .int (i % j)
def fDiv : F2 := fIC cDiv fun i j => .int (i / j)
def fPow : F2 := fIC cPow fun i j => .int (i ^ j.toNat)
def fShr : F2 := fIC cNon fun i j => .int (i / 2 ^ j.toNat)
def fBand : F2 := fI fun i j => .int (Builtin.bitAnd i j)
def fLt : F2 := fI fun i j => .bl (decide (i < j))
def fLe : F2 := fI fun i j => .bl (decide (i ≤ j))
def fGt : F2 := fI fun i j => .bl (decide (j < i))
def fGe : F2 := fI fun i j => .bl (decide (j ≤ i))
theorem s_add : SR2 G E (rI0 fun i j => .int (i + j)) fAdd := s_I0 fun _ _ _ => .int _
theorem s_sub : SR2 G E (rI0 fun i j => .int (i - j)) fSub := s_I0 fun _ _ _ => .int _
theorem s_mul : SR2 G E (rI CMul fun i j => .int (i * j)) fMul := s_IC (fun i j h => by unfold cMul at h; unfold CMul; simpa using h) fun _ _ _ => .int _
theorem s_gt : SR2 G E (rI0 fun i j => .bl (decide (j < i))) fGt := s_I0 fun _ _ _ => .bl _
def fNeg : F1 := fun x h => match x with
  | .int i => .ok (.int (-i)) h
  | _ => .bad
/-! ### is None, is True -/
def isNon : Dv → Bool
  | .non => true
  | _ => false
def fIsN : F2 := fun x y h => match y with
  | .non => .ok (.bl (isNon x)) h
  | _ => .bad
def fNotN : F2 := fun x y h => match y with
  | .non => .ok (.bl (!isNon x)) h
  | _ => .bad
def fIsB : F2 := fun x y h => match x, y with
  | .bl a, .bl b => .ok (.bl (a == b)) h
  | _, _ => .bad
def fIsntB : F2 := fun x y h => match x, y with
  | .bl a, .bl b => .ok (.bl (a != b)) h
  | _, _ => .bad
/-! ### lists and tuples as they are read -/
theorem getL_of {p : Pt} {A : Hp} {h : OH} {H : Hp} {d : Dv} {v : V} {xs : List Dv} (R : Rel G p A h H) (r : RV G p d v) (e : getL h d = some xs) : ∃ a ys, v = .ref a ∧ H a = some (.lst ys) ∧ RVs G p xs ys ∧ ys.length ≤ sizeLine := by
  cases r with
  | @lst a _ ys hF r hl =>
    cases e
    exact ⟨a, ys, rfl, R.sf _ _ hF, r, hl⟩
  | @ref i a ea =>
    have e : (match h[i]? with | some (.lst xs) => some xs | _ => none) = some xs := e
    split at e
    · rename_i zs e2
      cases e
      have ob := R.obj i a _ ea e2
      generalize hz : H a = z at ob
      cases ob with
      | lst r hl => exact ⟨a, _, rfl, hz, r, hl⟩
    · cases e
  | _ => cases e
theorem getS_of {p : Pt} {A : Hp} {h : OH} {H : Hp} {d : Dv} {v : V} {xs : List Dv} (R : Rel G p A h H) (r : RV G p d v) (e : getS h d = some xs) : ∃ a ys, v = .ref a ∧ (H a = some (.lst ys) ∨ H a = some (.tup ys)) ∧ RVs G p xs ys ∧ ys.length ≤ sizeLine := by
  cases d with
  | tup zs =>
    cases r with
    | @tup a _ ys hF r hl =>
      cases e
      exact ⟨a, ys, rfl, .inr (R.sf _ _ hF), r, hl⟩
  | _ =>
    obtain ⟨a, ys, h1, h2, h3, h4⟩ := getL_of R r e
    exact ⟨a, ys, h1, .inl h2, h3, h4⟩
def mkL : Bool → List Dv → OH → Res Dv
  | true, ds, h => .ok (.ref h.length) (h ++ [.lst ds])
  | false, ds, h => .ok (.lst ds) h
theorem mkL_of {p : Pt} {A : Hp} {h : OH} {H : Hp} {ds : List Dv} {vs : List V} {mu : Bool} {Q : VK} (R : Rel G p A h H) (r : RVs G p ds vs) (hl : vs.length ≤ sizeLine) (o : Out G E A (RV G) p (mkL mu ds h) Q) (a : Addr) (hn : H a = none) : Q (.ref a) (upd H a (.lst vs)) := by
  cases mu with
  | false =>
    obtain ⟨R2, le⟩ := R.newF (o := .lst vs) hn
    exact o _ _ _ le R2 (.lst (show upd p.F a (.lst vs) a = _ from upd_same) (r.mono le) hl)
  | true =>
    have le : p.le ⟨p.ρ ++ [a], p.F⟩ := ⟨List.prefix_append _ _, Same.refl _⟩
    obtain ⟨R2, le⟩ := R.newO (o := .lst ds) (H' := upd H a (.lst vs)) hn (fun b u e => by rw [upd_ne (ne_of_none e hn)]; exact e) (by rw [upd_same]; exact .lst (r.mono le) hl)
    refine o _ _ _ le R2 (.ref (show (p.ρ ++ [a])[h.length]? = some a from ?_))
    rw [List.getElem?_append_right (by rw [R.len]; exact Nat.le_refl _), R.len, Nat.sub_self]
    rfl
theorem mkT_of {p : Pt} {A : Hp} {h : OH} {H : Hp} {ds : List Dv} {vs : List V} {Q : VK} (R : Rel G p A h H) (r : RVs G p ds vs) (hl : vs.length ≤ sizeLine) (o : Out G E A (RV G) p (.ok (.tup ds) h) Q) (a : Addr) (hn : H a = none) : Q (.ref a) (upd H a (.tup vs)) := by
  obtain ⟨R2, le⟩ := R.newF (o := .tup vs) hn
  exact o _ _ _ le R2 (.tup (show upd p.F a (.tup vs) a = _ from upd_same) (r.mono le) hl)
theorem line_of {n : Nat} (h : n ≤ 16777216) : n ≤ sizeLine := by rw [sizeLine_eq]; exact h
def mTup (a : MA) : ME := fun σ h => bindR (a σ h) fun ds h => if ds.length ≤ 16777216 then .ok (.tup ds) h else .bad
theorem s_tup {t : TA} {m : MA} (ht : SA G E t m) : SE G E (tTup t) (mTup m) := by
  intro p A σd σ h H Q R S o
  refine ht p A σd σ h H _ R S (Out.bind (R := RVs G) o fun q ds h1 vs H1 l R1 rx o1 => ?_)
  split at o1
  · rename_i hl
    have hl2 : vs.length ≤ sizeLine := line_of (by rw [← rx.length]; exact hl)
    exact ⟨hl2, fun a hn => mkT_of R1 rx hl2 o1 a hn⟩
  · exact o1.elim
def mLst (mu : Bool) (a : MA) : ME := fun σ h => bindR (a σ h) fun ds h => if ds.length ≤ 16777216 then mkL mu ds h else .bad
theorem s_lst {mu : Bool} {t : TA} {m : MA} (ht : SA G E t m) : SE G E (tLst t) (mLst mu m) := by
  intro p A σd σ h H Q R S o
  refine ht p A σd σ h H _ R S (Out.bind (R := RVs G) o fun q ds h1 vs H1 l R1 rx o1 => ?_)
  split at o1
  · rename_i hl
    have hl2 : vs.length ≤ sizeLine := line_of (by rw [← rx.length]; exact hl)
    exact ⟨hl2, fun a hn => mkL_of R1 rx hl2 o1 a hn⟩
  · exact o1.elim
/-! ### + and * of lists -/
def fCat (mu : Bool) : F2 := fun x y h => match getL h x, getL h y with
  | some xs, some ys => if xs.length + ys.length ≤ 16777216 then mkL mu (xs ++ ys) h else .bad
  | _, _ => .bad
def fRep (mu : Bool) : F2 := fun x y h => match getL h x, y with
  | some xs, .int k => if k ≤ 16777216 ∧ -1 ≤ k ∧ xs.length * k.toNat ≤ 16777216 then mkL mu (List.replicate k.toNat xs).flatten h else .bad
  | _, _ => .bad
/-! ### an item -/
theorem atI_len {α β : Type} {xs : List α} {ys : List β} (h : xs.length = ys.length) {i : Int} {x : α} (e : atI xs i = some x) : ∃ j : Nat, xs[j]? = some x ∧ ixN ys.length i = some j := by
  unfold atI at e
  cases q : ixN xs.length i with
  | none => rw [q] at e; cases e
  | some j => rw [q] at e; exact ⟨j, e, by rw [← h]; exact q⟩
def fIxL : F2 := fun x y h => match getL h x, y with
  | some xs, .int i => match atI xs i with
    | some d => .ok d h
    | none => .bad
  | _, _ => .bad
def fIxT : F2 := fun x y h => match x, y with
  | .tup xs, .int i => match atI xs i with
    | some d => .ok d h
    | none => .bad
  | _, _ => .bad
theorem s_ixT : SR2 G E (rIxT G.K) fIxT := by
  intro p A h H x y v w Q R rx ry o
  unfold fIxT at o
  split at o
  · rename_i xs i
    split at o
    · rename_i d e2
      cases rx with
      | @tup a _ ys hF r hl =>
        obtain ⟨j, ej, hj⟩ := atI_len r.length e2
        obtain ⟨u, eu, ru⟩ := r.get ej
        exact ⟨a, ys, i, u, rfl, int_of ry, SqT.of (R.sf _ _ hF), by unfold atI; rw [hj]; exact eu, o p u H (.refl _) R ru⟩
    · exact o.elim
  · exact o.elim
/-! ### slices -/
def cutD (xs : List Dv) (lo hi : Option Int) : List Dv := (xs.drop (HT.sIx xs.length 0 lo)).take (HT.sIx xs.length xs.length hi - HT.sIx xs.length 0 lo)
abbrev MO := DSt → OH → Res (Option Int)
abbrev SO (G : Gx) (E : XK) (t : TO) (m : MO) : Prop := Snd G E (fun _ a b => a = b) t m
def mNoPart : MO := fun _ h => .ok none h
def mPart (e : ME) : MO := fun σ h => bindR (e σ h) fun x h => match x with
  | .int i => .ok (some i) h
  | _ => .bad
theorem s_noPart : SO G E tNoPart mNoPart := fun p A σd σ h H Q R S o => o p _ H (.refl _) R rfl
theorem s_part {t : TE} {m : ME} (ht : SE G E t m) : SO G E (tPart t) (mPart m) := by
  intro p A σd σ h H Q R S o
  refine ht p A σd σ h H _ R S (Out.bind (R := RV G) o fun q x h1 v H1 l R1 rx o1 => ?_)
  cases x with
  | int i => exact ⟨i, int_of rx, o1 q _ H1 (.refl _) R1 rfl⟩
  | _ => exact o1.elim
def getF (h : OH) : Dv → Option (List Dv)
  | .frz xs => some xs
  | d => getL h d
def mSl (mu : Bool) (e : ME) (lo hi : MO) : ME := fun σ h => bindR (e σ h) fun x h => bindR (lo σ h) fun l h => bindR (hi σ h) fun u h => match getF h x with
  | some xs => mkL mu (cutD xs l u) h
  | none => .bad
theorem s_sl {mu : Bool} {te : TE} {tl th : TO} {me : ME} {ml mh : MO} (he : SE G E te me) (hl : SO G E tl ml) (hh : SO G E th mh) : SE G E (tSl (rSlL G.K) te tl th) (mSl mu me ml mh) := by
  intro p A σd σ h H Q R S o
  refine he p A σd σ h H _ R S (Out.bind (R := RV G) o fun q x h1 v H1 l0 R1 rx o1 => ?_)
  refine hl q A σd σ h1 H1 _ R1 (S.mono l0) (Out.bind (R := fun _ a b => a = b) o1 fun q2 y h2 w H2 l2 R2 ry o2 => ?_)
  refine hh q2 A σd σ h2 H2 _ R2 (S.mono (l0.trans l2)) (Out.bind (R := fun _ a b => a = b) o2 fun q3 z h3 u H3 l3 R3 rz o3 => ?_)
  subst ry rz
  have rx3 := rx.mono (l2.trans l3)
  split at o3
  · rename_i xs e
    have key : ∃ a ys, v = .ref a ∧ SqL G.K H3 a ys ∧ RVs G q3 xs ys ∧ ys.length ≤ sizeLine := by
      cases rx3 with
      | @frz a _ ys hF r hl => cases e; exact ⟨a, ys, rfl, R3.sf.seq hF, r, hl⟩
      | lst hF r hl => cases e; exact ⟨_, _, rfl, SqL.of (R3.sf _ _ hF), r, hl⟩
      | ref ea =>
        obtain ⟨a, ys, h1, h2, h3, h4⟩ := getL_of R3 (.ref ea) e
        exact ⟨a, ys, h1, SqL.of h2, h3, h4⟩
      | _ => cases e
    obtain ⟨a, ys, rfl, hS, r, hz⟩ := key
    refine ⟨a, ys, rfl, hS, fun b hb => mkL_of R3 ?_ ?_ o3 b hb⟩
    · unfold cutD cutV
      rw [r.length]
      exact (r.drop _).take _
    · exact Nat.le_trans (cutV_length _ _ _) hz
  · exact o3.elim
end Ds

set_option Elab.async false
set_option linter.all false
set_option maxRecDepth 100000
namespace Ds
open PySem L2
variable {G : Gx} {E : XK}
/-! ### xs[::-1] -/
def mRev (mu : Bool) (e st : ME) : ME := fun σ h => bindR (e σ h) fun x h => bindR (st σ h) fun y h => match getL h x, y with
  | some xs, .int i => if i = -1 then mkL mu xs.reverse h else .bad
  | _, _ => .bad
/-! ### ==, != of data -/
def toD : Nat → OH → Dv → Option PyData
  | 0, _, _ => none
  | n + 1, h, d => match d with
    | .non => some .none
    | .bl b => some (.bool b)
    | .int i => some (.int i)
    | .str x => some (.str x)
    | .tup xs => (xs.mapM (toD n h)).map .tuple
    | .lst xs => (xs.mapM (toD n h)).map .list
    | .ref i => match h[i]? with
      | some (.lst xs) => (xs.mapM (toD n h)).map .list
      | _ => none
    | _ => none
theorem dpAll_of {p : Pt} {H : Hp} {f : Dv → Option PyData} (hf : ∀ d v e, RV G p d v → f d = some e → Dp G.K H v e) : ∀ {xs : List Dv} {vs : List V} {es : List PyData}, RVs G p xs vs → xs.mapM f = some es → DpAll G.K H vs es
  | _, _, es, .nil, e => by
    simp at e
    subst e
    exact .nil
  | _, _, es, .cons (d := d) (ds := ds) r t, e => by
    rw [List.mapM_cons] at e
    cases e1 : f d with
    | none => rw [e1] at e; cases e
    | some y =>
      rw [e1] at e
      cases e2 : ds.mapM f with
      | none => rw [e2] at e; cases e
      | some ys =>
        rw [e2] at e
        cases e
        exact .cons (hf _ _ _ r e1) (dpAll_of hf t e2)
theorem dp_of {p : Pt} {A : Hp} {h : OH} {H : Hp} (R : Rel G p A h H) : ∀ (n : Nat) (d : Dv) (v : V) (e : PyData), RV G p d v → toD n h d = some e → Dp G.K H v e
  | 0, _, _, _, _, z => by cases z
  | n + 1, d, v, e, r, z => by
    have ih := dp_of R n
    have lists : ∀ {xs : List Dv} {a : Addr} {ys : List V}, H a = some (.lst ys) → RVs G p xs ys → (xs.mapM (toD n h)).map PyData.list = some e → Dp G.K H (.ref a) e := fun {xs a ys} ha r z => by
      cases e1 : xs.mapM (toD n h) with
      | none => rw [e1] at z; cases z
      | some es => rw [e1] at z; cases z; exact .lst (SqL.of ha) (dpAll_of ih r e1)
    cases r with
    | non => cases z; exact .non
    | bl b => cases z; exact .bl b
    | int i => cases z; exact .int i
    | str x => cases z; exact .str x
    | @tup a xs ys hF r hl =>
      have z : (xs.mapM (toD n h)).map PyData.tuple = some e := z
      cases e1 : xs.mapM (toD n h) with
      | none => rw [e1] at z; cases z
      | some es => rw [e1] at z; cases z; exact .tup (SqT.of (R.sf _ _ hF)) (dpAll_of ih r e1)
    | lst hF r hl => exact lists (R.sf _ _ hF) r z
    | @ref i a ea =>
      have z : (match h[i]? with | some (.lst xs) => (xs.mapM (toD n h)).map PyData.list | _ => none) = some e := z
      split at z
      · rename_i xs e2
        have ob := R.obj i a _ ea e2
        generalize hz : H a = y at ob
        cases ob with
        | lst r hl => exact lists hz r z
      · cases z
    | frz => cases z
    | dct => cases z
    | fn => cases z
    | ty => cases z
    | rng => cases z
    | sset => cases z
def fEq : F2 := fun x y h => match toD 9 h x, toD 9 h y with
  | some d, some e => if (SeqAt.shaped d && SeqAt.shaped e) = true then .ok (.bl (PyData.eqv d e)) h else .bad
  | _, _ => .bad
def fNe : F2 := fun x y h => match toD 9 h x, toD 9 h y with
  | some d, some e => if (SeqAt.shaped d && SeqAt.shaped e) = true then .ok (.bl (!PyData.eqv d e)) h else .bad
  | _, _ => .bad
theorem s_eq : SR2 G E (rEqD G.K) fEq := by
  intro p A h H x y v w Q R rx ry o
  unfold fEq at o
  split at o
  · rename_i d e e1 e2
    split at o
    · rename_i hs
      have hs := (Bool.and_eq_true _ _).mp hs
      exact ⟨d, e, dp_of R 9 x v d rx e1, dp_of R 9 y w e ry e2, hs.1, hs.2, o p _ H (.refl _) R (.bl _)⟩
    · exact o.elim
  · exact o.elim
theorem s_ne : SR2 G E (rNeD G.K) fNe := by
  intro p A h H x y v w Q R rx ry o
  unfold fNe at o
  split at o
  · rename_i d e e1 e2
    split at o
    · rename_i hs
      have hs := (Bool.and_eq_true _ _).mp hs
      exact ⟨d, e, dp_of R 9 x v d rx e1, dp_of R 9 y w e ry e2, hs.1, hs.2, o p _ H (.refl _) R (.bl _)⟩
    · exact o.elim
  · exact o.elim
/-! ### in, not in: flat things -/
def flat : Dv → Bool
  | .non => true
  | .bl _ => true
  | .int _ => true
  | .str _ => true
  | _ => false
def toV : Dv → V
  | .bl b => .bl b
  | .int i => .int i
  | .str x => .str x
  | _ => .non
theorem flat_of {p : Pt} {d : Dv} {v : V} (r : RV G p d v) (f : flat d = true) : v = toV d ∧ flatV v = true := by
  cases r <;> first | exact ⟨rfl, rfl⟩ | cases f
theorem flats_of {p : Pt} : ∀ {ds : List Dv} {vs : List V}, RVs G p ds vs → ds.all flat = true → vs = ds.map toV ∧ vs.all flatV = true
  | _, _, .nil, _ => ⟨rfl, rfl⟩
  | _, _, .cons r t, f => by
    simp only [List.all_cons, Bool.and_eq_true] at f
    obtain ⟨e1, f1⟩ := flat_of r f.1
    obtain ⟨e2, f2⟩ := flats_of t f.2
    exact ⟨by rw [e1, e2]; rfl, by simp [f1, f2]⟩
def fIn (neg : Bool) : F2 := fun x y h => match getS h y with
  | some ys => if (flat x && ys.all flat) = true then .ok (.bl (if neg then !inV (toV x) (ys.map toV) else inV (toV x) (ys.map toV))) h else .bad
  | none => .bad
theorem s_in {neg : Bool} : SR2 G E (rIn G.K neg) (fIn neg) := by
  intro p A h H x y v w Q R rx ry o
  unfold fIn at o
  split at o
  · rename_i ys e
    split at o
    · rename_i hf
      have hf := (Bool.and_eq_true _ _).mp hf
      obtain ⟨a, us, rfl, ha, r, _⟩ := getS_of R ry e
      obtain ⟨rfl, f1⟩ := flat_of rx hf.1
      obtain ⟨rfl, f2⟩ := flats_of r hf.2
      refine ⟨a, _, rfl, ?_, f1, f2, o p _ H (.refl _) R (.bl _)⟩
      rcases ha with ha | ha
      · exact .inl (SqL.of ha)
      · exact .inr (SqT.of ha)
    · exact o.elim
  · exact o.elim
/-! ### calls of built-ins -/
abbrev FA := List Dv → OH → Res Dv
def SRA (G : Gx) (E : XK) (r : List V → Hp → VK → Prop) (f : FA) : Prop :=
  ∀ (p : Pt) (A : Hp) (h : OH) (H : Hp) (xs : List Dv) (vs : List V) (Q : VK), Rel G p A h H → RVs G p xs vs → Out G E A (RV G) p (f xs h) Q → r vs H Q
def mCB (f : FA) (a : MA) : ME := fun σ h => bindR (a σ h) fun xs h => f xs h
theorem s_cb {r : List V → Hp → VK → Prop} {f : FA} {t : TA} {m : MA} (hr : SRA G E r f) (ha : SA G E t m) : SE G E (tCB r t) (mCB f m) := by
  intro p A σd σ h H Q R S o
  refine ha p A σd σ h H _ R S (Out.bind (R := RVs G) o fun q x h1 v H1 l R1 rx o1 => ?_)
  exact hr q A h1 H1 x v Q R1 rx o1
theorem one_of {p : Pt} {d : Dv} {vs : List V} (r : RVs G p [d] vs) : ∃ v, vs = [v] ∧ RV G p d v := by
  cases r with | cons a t => cases t; exact ⟨_, rfl, a⟩
theorem two_of {p : Pt} {d e : Dv} {vs : List V} (r : RVs G p [d, e] vs) : ∃ v w, vs = [v, w] ∧ RV G p d v ∧ RV G p e w := by
  cases r with | cons a t => cases t with | cons b u => cases u; exact ⟨_, _, rfl, a, b⟩
def on1 (f : Dv → OH → Res Dv) : FA := fun xs h => match xs with
  | [x] => f x h
  | _ => .bad
def fLen : FA := on1 fun x h => match getS h x with
  | some xs => .ok (.int xs.length) h
  | none => .bad
theorem on1_of {f : Dv → OH → Res Dv} {r : List V → Hp → VK → Prop} (hf : ∀ (p : Pt) (A : Hp) (h : OH) (H : Hp) (x : Dv) (v : V) (Q : VK), Rel G p A h H → RV G p x v → Out G E A (RV G) p (f x h) Q → r [v] H Q) : SRA G E r (on1 f) := by
  intro p A h H xs vs Q R rv o
  unfold on1 at o
  split at o
  · obtain ⟨v, rfl, r1⟩ := one_of rv
    exact hf p A h H _ v Q R r1 o
  · exact o.elim
theorem s_len : SRA G E (fun xs H Q => ∃ p ys, xs = [.ref p] ∧ (SqL G.K H p ys ∨ SqT G.K H p ys) ∧ Q (.int ys.length) H) fLen := on1_of fun p A h H x v Q R rv o => by
  split at o
  · rename_i xs e
    obtain ⟨a, ys, rfl, ha, r, _⟩ := getS_of R rv e
    refine ⟨a, ys, rfl, ?_, by rw [← r.length]; exact o p _ H (.refl _) R (.int _)⟩
    rcases ha with ha | ha
    · exact .inl (SqL.of ha)
    · exact .inr (SqT.of ha)
  · exact o.elim
def fLenD : FA := on1 fun x h => match x with
  | .dct ks _ => .ok (.int ks.length) h
  | _ => .bad
def fList (mu : Bool) : FA := on1 fun x h => match getS h x with
  | some xs => mkL mu xs h
  | none => .bad
def intsOf : List Dv → Option (List Int)
  | [] => some []
  | .int i :: r => (intsOf r).map (i :: ·)
  | _ => none
theorem intsOf_map : ∀ ns : List Int, intsOf (ns.map Dv.int) = some ns
  | [] => rfl
  | n :: r => by
    show (intsOf (r.map Dv.int)).map (n :: ·) = _
    rw [intsOf_map r]; rfl
def sortI (ns : List Int) : List Int := ns.mergeSort (fun a b => decide (a ≤ b))
theorem sortI_perm (ns : List Int) : (sortI ns).Perm ns := List.mergeSort_perm _ _
theorem sortI_sorted (ns : List Int) : (sortI ns).Pairwise (· ≤ ·) := by
  have h := List.pairwise_mergeSort (le := fun a b : Int => decide (a ≤ b)) (by intro a b c; simp; omega) (by intro a b; simp; omega) ns
  exact h.imp fun {a b} e => by simpa using e
def fSorted (mu : Bool) : FA := on1 fun x h => match getL h x with
  | some xs => match intsOf xs with
    | some ns => if ns.length < 64 then mkL mu ((sortI ns).map Dv.int) h else .bad
    | none => .bad
  | none => .bad
def blsOf : List Dv → Option (List Bool)
  | [] => some []
  | .bl i :: r => (blsOf r).map (i :: ·)
  | _ => none
theorem blsOf_map : ∀ ns : List Bool, blsOf (ns.map Dv.bl) = some ns
  | [] => rfl
  | n :: r => by
    show (blsOf (r.map Dv.bl)).map (n :: ·) = _
    rw [blsOf_map r]; rfl
def fAll : FA := on1 fun x h => match getL h x with
  | some xs => match blsOf xs with
    | some bs => .ok (.bl (bs.all id)) h
    | none => .bad
  | none => .bad
def fAny : FA := on1 fun x h => match getL h x with
  | some xs => match blsOf xs with
    | some bs => .ok (.bl (bs.any id)) h
    | none => .bad
  | none => .bad
def on2I (g : Int → Int → Int) : FA := fun xs h => match xs with
  | [.int i, .int j] => .ok (.int (g i j)) h
  | _ => .bad
theorem s_on2I {g : Int → Int → Int} : SRA G E (fun xs H Q => ∃ i j, xs = [.int i, .int j] ∧ Q (.int (g i j)) H) (on2I g) := by
  intro p A h H xs vs Q R rv o
  unfold on2I at o
  split at o
  · rename_i i j
    obtain ⟨v, w, rfl, r1, r2⟩ := two_of rv
    exact ⟨i, j, by rw [int_of r1, int_of r2], o p _ H (.refl _) R (.int _)⟩
  · exact o.elim
def fMax : FA := on2I fun i j => if j > i then j else i
def fMin : FA := on2I fun i j => if j < i then j else i
theorem s_max : SRA G E (fun xs H Q => ∃ i j, xs = [.int i, .int j] ∧ Q (.int (if j > i then j else i)) H) fMax := s_on2I
theorem s_min : SRA G E (fun xs H Q => ∃ i j, xs = [.int i, .int j] ∧ Q (.int (if j < i then j else i)) H) fMin := s_on2I
def fInt : FA := on1 fun x h => match x with
  | .int i => .ok (.int i) h
  | .bl b => .ok (.int (if b then 1 else 0)) h
  | _ => .bad
end Ds

set_option Elab.async false
set_option linter.all false
set_option maxRecDepth 100000
namespace Ds
open PySem L2
variable {G : Gx} {E : XK}
/-! ### isinstance(x, T), T a built-in class -/
def tyD (h : OH) : Dv → Option String
  | .non => some "NoneType"
  | .bl _ => some "bool"
  | .int _ => some "int"
  | .str _ => some "str"
  | .tup _ => some "tuple"
  | .lst _ => some "list"
  | .dct _ _ => some "dict"
  | .ref i => match h[i]? with
    | some (.lst _) => some "list"
    | _ => none
  | _ => none
def isT (t n : String) : Bool := t == n || (t == "bool" && n == "int")
def okT (n : String) : Bool := ["int", "bool", "list", "tuple", "str"].contains n
def fIsi : FA := fun xs h => match xs with
  | [x, .ty n] => match tyD h x with
    | some t => if okT n = true then .ok (.bl (isT t n)) h else .bad
    | none => .bad
  | _ => .bad
/-! ### range(..), list(range(..)) -/
def fRg1 : FA := on1 fun x h => match x with
  | .int j => .ok (.rng 0 j 1) h
  | _ => .bad
theorem s_rg1 : SRA G E rRg1 fRg1 := on1_of fun p A h H x v Q R rv o => by
  split at o
  · rename_i j
    refine ⟨j, by rw [int_of rv], fun a hn => ?_⟩
    obtain ⟨R2, le⟩ := R.newF (o := rngO a 0 j 1) hn
    exact o _ _ _ le R2 (.rng (show upd p.F a _ a = _ from upd_same))
  · exact o.elim
def fRg3 : FA := fun xs h => match xs with
  | [.int i, .int j, .int c] => if c ≠ 0 ∧ c.natAbs < 1073741824 then .ok (.rng i j c) h else .bad
  | _ => .bad
def fListRg (mu : Bool) : FA := on1 fun x h => match x with
  | .rng a b c => if Builtin.Range.small a b c = true ∧ 0 ≤ Builtin.Range.rangeSize a b c ∧ Builtin.Range.rangeSize a b c ≤ 16777216 then mkL mu ((rgInts a c (Builtin.Range.rangeSize a b c).toNat).map Dv.int) h else .bad
  | _ => .bad
theorem s_listRg {mu : Bool} : SRA G E rListRg (fListRg mu) := on1_of fun p A h H x v Q R rv o => by
  split at o
  · rename_i a b c
    split at o
    · rename_i hc
      cases rv with
      | @rng ad _ _ _ hF =>
        have hn : Builtin.Range.rangeSize a b c = ((Builtin.Range.rangeSize a b c).toNat : Nat) := by omega
        have hz : (Builtin.Range.rangeSize a b c).toNat ≤ sizeLine := line_of (by omega)
        refine ⟨ad, a, b, c, _, rfl, R.sf _ _ hF, hc.1, hn, hz, fun l hl => ?_⟩
        exact mkL_of R (RVs.ints _) (by rw [List.length_map]; unfold rgInts; rw [List.length_map, List.length_range]; exact hz) o l hl
    · exact o.elim
  · exact o.elim
/-! ### sorted(set(..)) -/
def fSet : FA := on1 fun x h => match getL h x with
  | some xs => match intsOf xs with
    | some ns => if ns.length < 1000 then .ok (.sset ns) h else .bad
    | none => .bad
  | none => .bad
def dedup (ns : List Int) : List Int := ns.foldr (fun x r => if x ∈ r then r else x :: r) []
def fSortSet (mu : Bool) : FA := on1 fun x h => match x with
  | .sset ns => if ns.length < 64 then mkL mu ((sortI (dedup ns)).map Dv.int) h else .bad
  | _ => .bad
/-! ### methods of lists -/
def refL (h : OH) : Dv → Option (Nat × List Dv)
  | .ref i => match h[i]? with
    | some (.lst xs) => some (i, xs)
    | _ => none
  | _ => none
abbrev FM := Dv → List Dv → OH → Res Dv
def SRM (G : Gx) (E : XK) (r : V → List V → Hp → VK → Prop) (f : FM) : Prop :=
  ∀ (p : Pt) (A : Hp) (h : OH) (H : Hp) (x : Dv) (v : V) (xs : List Dv) (vs : List V) (Q : VK), Rel G p A h H → RV G p x v → RVs G p xs vs → Out G E A (RV G) p (f x xs h) Q → r v vs H Q
def mBM (f : FM) (o : ME) (a : MA) : ME := fun σ h => bindR (o σ h) fun x h => match getL h x with
  | some _ => bindR (a σ h) fun xs h => f x xs h
  | none => .bad
def mBM0 (f : FM) (o : ME) : ME := fun σ h => bindR (o σ h) fun x h => match getL h x with
  | some _ => f x [] h
  | none => .bad
def fAppend : FM := fun x ys h => match refL h x, ys with
  | some (i, xs), [y] => if xs.length < 16777216 then .ok .non (h.set i (.lst (xs ++ [y]))) else .bad
  | _, _ => .bad
def fExtend : FM := fun x ys h => match refL h x, ys with
  | some (i, xs), [y] => match getL h y with
    | some zs => if xs.length + zs.length ≤ 16777216 then .ok .non (h.set i (.lst (xs ++ zs))) else .bad
    | none => .bad
  | _, _ => .bad
def fInsert : FM := fun x ys h => match refL h x, ys with
  | some (i, xs), [.int k, y] => if 0 ≤ k ∧ k ≤ xs.length ∧ xs.length < 16777216 then .ok .non (h.set i (.lst (xs.take k.toNat ++ y :: xs.drop k.toNat))) else .bad
  | _, _ => .bad
def fRemove : FM := fun x ys h => match refL h x, ys with
  | some (i, xs), [.int k] => match intsOf xs with
    | some ns => if k ∈ ns then .ok .non (h.set i (.lst ((ns.erase k).map Dv.int))) else .bad
    | none => .bad
  | _, _ => .bad
def fReverse : FM := fun x ys h => match refL h x, ys with
  | some (i, xs), [] => .ok .non (h.set i (.lst xs.reverse))
  | _, _ => .bad
def fClear : FM := fun x ys h => match refL h x, ys with
  | some (i, xs), [] => .ok .non (h.set i (.lst []))
  | _, _ => .bad
def fPop : FM := fun x ys h => match refL h x, ys with
  | some (i, xs), [] => match xs[xs.length - 1]? with
    | some y => .ok y (h.set i (.lst xs.dropLast))
    | none => .bad
  | _, _ => .bad
theorem RVs.dropLast {p : Pt} : ∀ {xs : List Dv} {us : List V}, RVs G p xs us → RVs G p xs.dropLast us.dropLast
  | _, _, .nil => .nil
  | _, _, .cons _ .nil => .nil
  | _, _, .cons r (.cons r2 t) => .cons r (RVs.dropLast (.cons r2 t))
def fIndex : FM := fun x ys h => match getL h x, ys with
  | some xs, [y] => if (flat y && xs.all flat) = true then match xs.findIdx? (fun z => eqV (toV z) (toV y)) with
    | some j => .ok (.int (j : Nat)) h
    | none => .bad
    else .bad
  | _, _ => .bad
/-! ### xs[i] = e -/
def mgSub (o i : ME) : MG := fun d σ h => bindR (o σ h) fun x h => bindR (i σ h) fun y h => match refL h x, y with
  | some (j, xs), .int k => match ixN xs.length k with
    | some n => .ok σ (h.set j (.lst (xs.set n d)))
    | none => .bad
  | _, _ => .bad
end Ds

set_option Elab.async false
set_option linter.all false
set_option maxRecDepth 100000
namespace Ds
open PySem L2
variable {G : Gx} {E : XK}
/-! ### what is walked -/
structure ItD where
  n : Nat
  at_ : Nat → OH → Option Dv
  fin : OH → Bool
  lim : Bool
structure RIt (G : Gx) (q : Pt) (Jd : ItD) (J : It) : Prop where
  lim : Jd.lim = true → Jd.n ≤ sizeLine
  go : ∀ (q' : Pt) (A : Hp) (h : OH) (H : Hp) (i : Nat) (x : Dv), q.le q' → Rel G q' A h H → i < Jd.n → Jd.at_ i h = some x → J.go i H ∧ ∀ v H2, J.yld i H v H2 → ∃ q2, q'.le q2 ∧ Rel G q2 A h H2 ∧ RV G q2 x v
  stop : ∀ (q' : Pt) (A : Hp) (h : OH) (H : Hp), q.le q' → Rel G q' A h H → Jd.fin h = true → J.stop Jd.n H
abbrev MI := DSt → OH → Res ItD
abbrev SI (G : Gx) (E : XK) (t : TI) (m : MI) : Prop := Snd G E (RIt G) t m
def itL (d : Dv) (n : Nat) : ItD := ⟨n, fun i h => match getL h d with
  | some xs => if xs.length = n then xs[i]? else none
  | none => none, fun h => match getL h d with
  | some xs => decide (xs.length = n)
  | none => false, true⟩
def mItL (e : ME) : MI := fun σ h => bindR (e σ h) fun d h => match getL h d with
  | some xs => .ok (itL d xs.length) h
  | none => .bad
theorem itL_at {d : Dv} {n i : Nat} {h : OH} {x : Dv} (e : (itL d n).at_ i h = some x) : ∃ xs, getL h d = some xs ∧ xs.length = n ∧ xs[i]? = some x := by
  have e : (match getL h d with | some xs => if xs.length = n then xs[i]? else none | none => none) = some x := e
  split at e
  · rename_i xs e1
    split at e
    · rename_i hn
      exact ⟨xs, e1, hn, e⟩
    · cases e
  · cases e
theorem itL_fin {d : Dv} {n : Nat} {h : OH} (e : (itL d n).fin h = true) : ∃ xs, getL h d = some xs ∧ xs.length = n := by
  have e : (match getL h d with | some xs => decide (xs.length = n) | none => false) = true := e
  split at e
  · rename_i xs e1
    exact ⟨xs, e1, of_decide_eq_true e⟩
  · cases e
theorem s_itL {t : TE} {m : ME} (ht : SE G E t m) : SI G E (iList G.K t) (mItL m) := by
  intro p A σd σ h H Q R S o
  refine ht p A σd σ h H _ R S (Out.bind (R := RV G) o fun q d h1 v H1 l R1 rd o1 => ?_)
  split at o1
  · rename_i xs e
    obtain ⟨a, ys, rfl, ha, r, hl⟩ := getL_of R1 rd e
    refine ⟨a, rfl, ⟨ys, SqL.of ha⟩, o1 q _ H1 (.refl _) R1 ⟨fun _ => by show xs.length ≤ _; rw [r.length]; exact hl, ?_, ?_⟩⟩
    · intro q' A' h' H' i x l' R' hi ea
      obtain ⟨zs, e1, e2, e3⟩ := itL_at ea
      obtain ⟨a', us, ev, ha', r', _⟩ := getL_of R' (rd.mono l') e1
      cases ev
      obtain ⟨w, ew, rw'⟩ := r'.get e3
      refine ⟨⟨us, w, SqL.of ha', ew⟩, fun v H2 hy => ?_⟩
      obtain ⟨rfl, hv⟩ := hy
      have := hv us (SqL.of ha')
      rw [ew] at this
      cases this
      exact ⟨q', .refl _, R', rw'⟩
    · intro q' A' h' H' l' R' hf
      obtain ⟨zs, e1, e2⟩ := itL_fin hf
      obtain ⟨a', us, ev, ha', r', _⟩ := getL_of R' (rd.mono l') e1
      cases ev
      exact ⟨us, SqL.of ha', by show us.length ≤ xs.length; rw [← r'.length, e2]; exact Nat.le_refl _⟩
  · exact o1.elim
def itF (xs : List Dv) (lim : Bool) : ItD := ⟨xs.length, fun i _ => xs[i]?, fun _ => true, lim⟩
def mItT (e : ME) : MI := fun σ h => bindR (e σ h) fun d h => match d with
  | .tup xs => .ok (itF xs true) h
  | _ => .bad
def rgD (lo c : Int) (n : Nat) : List Dv := (rgInts lo c n).map Dv.int
def itR (lo c : Int) (n : Nat) : ItD := ⟨n, fun i _ => if i < n then some (.int (lo + (i : Nat) * c)) else none, fun _ => true, decide (n ≤ 16777216)⟩
def bd (i : Int) : Bool := decide (-(2 ^ 62) ≤ i) && decide (i < 2 ^ 62)
theorem bd_of {i : Int} (h : bd i = true) : -(2 ^ 62) ≤ i ∧ i < 2 ^ 62 := by
  have h := (Bool.and_eq_true _ _).mp h
  exact ⟨of_decide_eq_true h.1, of_decide_eq_true h.2⟩
def mRg1 (a : MA) : MI := fun σ h => bindR (a σ h) fun ds h => match ds with
  | [.int j] => if bd j = true then .ok (itR 0 1 j.toNat) h else .bad
  | _ => .bad
theorem s_iRg1 {t : TA} {m : MA} (ht : SA G E t m) : SI G E (iRng1 t) (mRg1 m) := by
  intro p A σd σ h H Q R S o
  refine ht p A σd σ h H _ R S (Out.bind (R := RVs G) o fun q ds h1 vs H1 l R1 rd o1 => ?_)
  split at o1
  · rename_i j
    split at o1
    · rename_i hb
      obtain ⟨v, rfl, r⟩ := one_of rd
      exact ⟨j, by rw [int_of r], (bd_of hb).1, (bd_of hb).2, o1 q _ H1 (.refl _) R1 rIt_r⟩
    · exact o1.elim
  · exact o1.elim
def mRg2 (a : MA) : MI := fun σ h => bindR (a σ h) fun ds h => match ds with
  | [.int i, .int j] => if (bd i && bd j) = true then .ok (itR i 1 (j - i).toNat) h else .bad
  | _ => .bad
def rgN (i j c : Int) : Nat := (Builtin.Range.rangeSize i j c).toNat
def mRg3 (a : MA) : MI := fun σ h => bindR (a σ h) fun ds h => match ds with
  | [.int i, .int j, .int c] => if c ≠ 0 ∧ c.natAbs < 1073741824 ∧ Builtin.Range.small i j c = true ∧ 0 ≤ Builtin.Range.rangeSize i j c then .ok (itR i c (rgN i j c)) h else .bad
  | _ => .bad
theorem s_iRg3 {t : TA} {m : MA} (ht : SA G E t m) : SI G E (iRng3 t) (mRg3 m) := by
  intro p A σd σ h H Q R S o
  refine ht p A σd σ h H _ R S (Out.bind (R := RVs G) o fun q ds h1 vs H1 l R1 rd o1 => ?_)
  split at o1
  · rename_i i j c
    split at o1
    · rename_i hb
      cases rd with
      | cons r1 rr => cases rr with
        | cons r2 rr => cases rr with
          | cons r3 rr =>
            cases rr
            have hn : Builtin.Range.rangeSize i j c = ((rgN i j c : Nat) : Int) := by unfold rgN; omega
            exact ⟨i, j, c, rgN i j c, by rw [int_of r1, int_of r2, int_of r3], ⟨hb.1, hb.2.1, hb.2.2.1, hn⟩, o1 q _ H1 (.refl _) R1 rIt_c⟩
    · exact o1.elim
  · exact o1.elim
def itE (d : Dv) (n : Nat) : ItD := ⟨n, fun i h => ((itL d n).at_ i h).map fun x => .tup [.int (i : Nat), x], (itL d n).fin, true⟩
def mItE (a : MA) : MI := fun σ h => bindR (a σ h) fun ds h => match ds with
  | [d] => match getL h d with
    | some xs => .ok (itE d xs.length) h
    | none => .bad
  | _ => .bad
theorem s_itE {t : TA} {m : MA} (ht : SA G E t m) : SI G E (iEnum G.K t) (mItE m) := by
  intro p A σd σ h H Q R S o
  refine ht p A σd σ h H _ R S (Out.bind (R := RVs G) o fun q ds h1 vs H1 l R1 rds o1 => ?_)
  split at o1
  · rename_i d
    obtain ⟨v, rfl, rd⟩ := one_of rds
    split at o1
    · rename_i xs e
      obtain ⟨a, ys, rfl, ha, r, hl⟩ := getL_of R1 rd e
      refine ⟨a, ys, rfl, SqL.of ha, o1 q _ H1 (.refl _) R1 ⟨fun _ => by show xs.length ≤ _; rw [r.length]; exact hl, ?_, ?_⟩⟩
      · intro q' A' h' H' i x l' R' hi ea
        have ea : ((itL d xs.length).at_ i h').map (fun x => Dv.tup [.int (i : Nat), x]) = some x := ea
        cases ez : (itL d xs.length).at_ i h' with
        | none => rw [ez] at ea; cases ea
        | some z =>
          rw [ez] at ea
          cases ea
          obtain ⟨zs, e1, e2, e3⟩ := itL_at ez
          obtain ⟨a', us, ev, ha', r', _⟩ := getL_of R' (rd.mono l') e1
          cases ev
          obtain ⟨w, ew, rw'⟩ := r'.get e3
          refine ⟨⟨us, w, SqL.of ha', ew⟩, fun v H2 hy => ?_⟩
          obtain ⟨T, y, rfl, hT, rfl, hv⟩ := hy
          have := hv us (SqL.of ha')
          rw [ew] at this
          cases this
          obtain ⟨R2, le⟩ := R'.newF (o := .tup [.int (i : Nat), w]) hT
          exact ⟨_, le, R2, .tup (show upd q'.F T _ T = _ from upd_same) (.cons (.int _) (.cons (rw'.mono le) .nil)) two_line⟩
      · intro q' A' h' H' l' R' hf
        obtain ⟨zs, e1, e2⟩ := itL_fin hf
        obtain ⟨a', us, ev, ha', r', _⟩ := getL_of R' (rd.mono l') e1
        cases ev
        exact ⟨us, SqL.of ha', by show us.length ≤ xs.length; rw [← r'.length, e2]; exact Nat.le_refl _⟩
    · exact o1.elim
  · exact o1.elim
def itZ (d e : Dv) (n : Nat) : ItD := ⟨n, fun i h => match (itL d n).at_ i h, (itL e n).at_ i h with
  | some x, some y => some (.tup [x, y])
  | _, _ => none, fun h => (itL d n).fin h && (itL e n).fin h, true⟩
def mItZ (a : MA) : MI := fun σ h => bindR (a σ h) fun ds h => match ds with
  | [d, e] => match getL h d, getL h e with
    | some xs, some ys => if xs.length = ys.length then .ok (itZ d e xs.length) h else .bad
    | _, _ => .bad
  | _ => .bad
/-! ### for -/
def forN (J : ItD) (g : MG) (b : MS) : Nat → Nat → DSt → OH → Flow
  | 0, _, σ, h => if J.fin h = true then .nx σ h else .bad
  | k + 1, i, σ, h => match J.at_ i h with
    | none => .bad
    | some x => bindS (g x σ h) fun σ h => match b σ h with
      | .nx σ h => forN J g b k (i + 1) σ h
      | .ct σ h => forN J g b k (i + 1) σ h
      | .bk σ h => .nx σ h
      | o => o
def mFor (it : MI) (g : MG) (b : MS) : MS := fun σ h => bindS (it σ h) fun J h => forN J g b J.n 0 σ h
theorem s_for {wi : TI} {g : TG} {tb : TS} {mi : MI} {mg : MG} {mb : MS} (hi : SI G E wi mi) (hg : SG G E g mg) (hb : SS G E tb mb) : SS G E (tFor wi g tb) (mFor mi mg mb) := by
  intro p A σd σ h H D R S o
  refine hi p A σd σ h H _ R S (Out.bindS (R := RIt G) o fun q Jd h1 J H1 l R1 rJ o1 => ?_)
  refine ⟨fun i m σ' H' => ∃ q' σd' h', q.le q' ∧ Rel G q' A h' H' ∧ RS G q' σd' σ' ∧ m + i = Jd.n ∧ OutS G E A q' (forN Jd mg mb m i σd' h') D, ⟨Jd.n, q, σd, h1, .refl _, R1, S.mono l, rfl, o1⟩, ?_⟩
  rintro i m σ' H' ⟨q', σd', h', l', R', S', hm, o'⟩
  cases m with
  | zero =>
    have o' : OutS G E A q' (if Jd.fin h' = true then .nx σd' h' else .bad) D := o'
    split at o'
    · rename_i hf
      have e : i = Jd.n := by omega
      exact .inl ⟨e ▸ rJ.stop q' A h' H' l' R' hf, o' q' σ' H' (.refl _) R' S'⟩
    · exact o'.elim
  | succ k =>
    cases ex : Jd.at_ i h' with
    | none =>
      unfold forN at o'
      rw [ex] at o'
      exact o'.elim
    | some x =>
      unfold forN at o'
      rw [ex] at o'
      obtain ⟨hgo, hy⟩ := rJ.go q' A h' H' i x l' R' (by omega) ex
      refine .inr ⟨hgo, fun σ2 H2 => ∃ q2 σd2 h2, q.le q2 ∧ Rel G q2 A h2 H2 ∧ RS G q2 σd2 σ2 ∧ k + (i + 1) = Jd.n ∧ OutS G E A q2 (forN Jd mg mb k (i + 1) σd2 h2) D, fun σ2 H2 z => ⟨k, by omega, z⟩, fun v H2 hv => ?_⟩
      obtain ⟨q2, l2, R2, rx⟩ := hy v H2 hv
      refine hg q2 A σd' σ' h' H2 x v _ R2 (S'.mono l2) rx (Out.bindS (R := RS G) (OutS.mono l2 o') fun q3 σd3 h3 σ3 H3 l3 R3 S3 o3 => ?_)
      refine hb q3 A σd3 σ3 h3 H3 _ R3 S3 ?_
      have o3 : OutS G E A q3 (match mb σd3 h3 with | .nx σ h => forN Jd mg mb k (i + 1) σ h | .ct σ h => forN Jd mg mb k (i + 1) σ h | .bk σ h => .nx σ h | o => o) D := o3
      cases eb : mb σd3 h3 with
      | nx σ4 h4 => rw [eb] at o3; exact fun q4 τ H4 l4 R4 S4 => ⟨q4, σ4, h4, ((l'.trans l2).trans l3).trans l4, R4, S4, by omega, OutS.mono l4 o3⟩
      | ct σ4 h4 => rw [eb] at o3; exact fun q4 τ H4 l4 R4 S4 => ⟨q4, σ4, h4, ((l'.trans l2).trans l3).trans l4, R4, S4, by omega, OutS.mono l4 o3⟩
      | bk σ4 h4 => rw [eb] at o3; exact o3
      | rt d h4 => rw [eb] at o3; exact o3
      | exc c h4 => rw [eb] at o3; exact o3
      | bad => rw [eb] at o3; exact o3
/-! ### while -/
def whileN (c : MT) (b : MS) : Nat → DSt → OH → Flow
  | 0, _, _ => .bad
  | k + 1, σ, h => bindS (c σ h) fun x h => if x = true then (match b σ h with
      | .nx σ h => whileN c b k σ h
      | .ct σ h => whileN c b k σ h
      | .bk σ h => .nx σ h
      | o => o) else .nx σ h
def mWhile (f : DSt → OH → Nat) (c : MT) (b : MS) : MS := fun σ h => whileN c b (f σ h) σ h
/-! ### truth of an int -/
def mTru (e : ME) : MT := fun σ h => bindR (e σ h) fun x h => match x with
  | .int i => .ok (i != 0) h
  | .bl b => .ok b h
  | _ => .bad
end Ds

set_option Elab.async false
set_option linter.all false
set_option maxRecDepth 100000
namespace Ds
open PySem L2
variable {G : Gx} {E : XK}
/-! ### a hidden thing -/
theorem Rel.frame {p : Pt} {A : Hp} {h : OH} {H : Hp} (R : Rel G p A h H) {a : Addr} {o : HO} (hn : H a = none) : Rel G p (upd A a o) h (upd H a o) := by
  refine ⟨fun b u e => ?_, fun b u e => ?_, fun b u e => ?_, R.len, fun i b ob e1 e2 => ?_, R.nd, fun i b e l => ?_⟩
  · rw [upd_ne (ne_of_none (R.sf _ _ e) hn)]; exact R.sf _ _ e
  · by_cases hb : b = a
    · subst hb; rw [upd_same] at e ⊢; exact e
    · rw [upd_ne hb] at e ⊢; exact R.sa _ _ e
  · by_cases hb : b = a
    · subst hb; exact R.sf.free hn
    · rw [upd_ne hb] at e; exact R.fa _ _ e
  · have q := R.obj i b ob e1 e2
    by_cases hb : b = a
    · subst hb
      rw [hn] at q
      cases q
      exact .dead
    · rw [upd_ne hb]; exact q
  · have hb : b ≠ a := fun z => by
      subst z
      obtain ⟨o, q⟩ := R.some_at e l
      rw [hn] at q; cases q
    rw [upd_ne hb]
    exact R.ap i b e l
theorem Rel.reframe {p : Pt} {A : Hp} {h : OH} {H : Hp} {a : Addr} {o o' : HO} (R : Rel G p (upd A a o) h H) : Rel G p (upd A a o') h (upd H a o') := by
  have hF : p.F a = none := R.fa a o upd_same
  have hL : ∀ i, p.ρ[i]? = some a → ¬ Live h i := fun i e l => by
    have := (R.ap i a e l).2
    rw [upd_same] at this
    cases this
  refine ⟨fun b u e => ?_, fun b u e => ?_, fun b u e => ?_, R.len, fun i b ob e1 e2 => ?_, R.nd, fun i b e l => ?_⟩
  · rw [upd_ne (fun z => by subst z; rw [hF] at e; cases e)]; exact R.sf _ _ e
  · by_cases hb : b = a
    · subst hb; rw [upd_same] at e ⊢; exact e
    · rw [upd_ne hb] at e ⊢; exact R.sa _ _ (by rw [upd_ne hb]; exact e)
  · by_cases hb : b = a
    · subst hb; exact hF
    · exact R.fa b u (by rw [upd_ne hb] at e ⊢; exact e)
  · by_cases hb : b = a
    · subst hb
      cases ob with
      | dead => exact .dead
      | lst => exact absurd (by unfold Live; rw [e2]; exact fun z => nomatch z) (hL i e1)
      | ins => exact absurd (by unfold Live; rw [e2]; exact fun z => nomatch z) (hL i e1)
    · rw [upd_ne hb]; exact R.obj i b ob e1 e2
  · have hb : b ≠ a := fun z => by subst z; exact hL i e l
    have := R.ap i b e l
    rw [upd_ne hb] at this ⊢
    exact this
theorem Rel.unframe {p : Pt} {A : Hp} {h : OH} {H : Hp} {a : Addr} {o : HO} (R : Rel G p (upd A a o) h H) (hA : A a = none) : Rel G ⟨p.ρ, upd p.F a o⟩ A h H ∧ p.le ⟨p.ρ, upd p.F a o⟩ := by
  have hF : p.F a = none := R.fa a o upd_same
  have le : p.le ⟨p.ρ, upd p.F a o⟩ := ⟨List.prefix_refl _, Same.new1 hF⟩
  refine ⟨⟨fun b u e => ?_, fun b u e => ?_, fun b u e => ?_, R.len, fun i b ob e1 e2 => (R.obj i b ob e1 e2).mono le, R.nd, fun i b e l => ?_⟩, le⟩
  · have e : upd p.F a o b = some u := e
    by_cases hb : b = a
    · subst hb; rw [upd_same] at e; cases e; exact R.sa _ _ upd_same
    · rw [upd_ne hb] at e; exact R.sf _ _ e
  · exact R.sa b u (by rw [upd_ne (fun z => by subst z; rw [hA] at e; cases e)]; exact e)
  · have hb : b ≠ a := fun z => by subst z; rw [hA] at e; cases e
    show upd p.F a o b = none
    rw [upd_ne hb]
    exact R.fa b u (by rw [upd_ne hb]; exact e)
  · have q := R.ap i b e l
    have hb : b ≠ a := fun z => by subst z; rw [upd_same] at q; cases q.2
    show upd p.F a o b = none ∧ _
    rw [upd_ne hb]
    rw [upd_ne hb] at q
    exact q
/-! ### comprehensions -/
def compN (J : ItD) (g : MG) (tt : MT) (te : ME) (vs : List Nat) (σ : DSt) : Nat → Nat → List Dv → OH → Res (List Dv)
  | 0, _, acc, h => if J.fin h = true then .ok acc h else .bad
  | k + 1, i, acc, h => match J.at_ i h with
    | none => .bad
    | some x => match g x (wipeD σ vs) h with
      | .ok σ2 h2 => match tt σ2 h2 with
        | .ok true h3 => match te σ2 h3 with
          | .ok y h4 => compN J g tt te vs σ k (i + 1) (acc ++ [y]) h4
          | _ => .bad
        | .ok false h3 => compN J g tt te vs σ k (i + 1) acc h3
        | _ => .bad
      | _ => .bad
def mLc (it : MI) (g : MG) (tt : MT) (te : ME) (vs : List Nat) : ME := fun σ h => bindR (it σ h) fun J h => if J.lim = true then (bindR (compN J g tt te vs σ J.n 0 [] h) fun xs h => .ok (.lst xs) h) else .bad
def mYes : MT := fun _ h => .ok true h
theorem s_yes : ST G E tYes mYes := fun p A σd σ h H Q R S o => o p true H (.refl _) R rfl
def WG (g : TG) (vs : List Nat) : Prop := ∀ (v : V) (σ : St) (H : Hp) (Q : St → Hp → Prop), g v (wipe σ vs) H Q → g v (wipe σ vs) H fun σ2 H2 => wipe σ2 vs = wipe σ vs ∧ Q σ2 H2
theorem wipe_set {vs : List Nat} {i : Nat} {x : Option V} (hi : i ∈ vs) : ∀ σ : St, wipe (σ.set i x) vs = wipe σ vs := by
  induction vs with
  | nil => cases hi
  | cons v r ih =>
    intro σ
    show (wipe (σ.set i x) r).set v none = (wipe σ r).set v none
    by_cases h : i ∈ r
    · rw [ih h]
    · have e : i = v := by
        rcases List.mem_cons.mp hi with e | e
        · exact e
        · exact absurd e h
      subst e
      have : ∀ (r : List Nat) (σ : St), i ∉ r → wipe (σ.set i x) r = (wipe σ r).set i x := by
        intro r
        induction r with
        | nil => intro σ _; rfl
        | cons w t ih2 =>
          intro σ hn
          show (wipe (σ.set i x) t).set w none = ((wipe σ t).set w none).set i x
          rw [ih2 σ fun z => hn (List.mem_cons_of_mem _ z)]
          exact List.set_comm _ _ fun z => hn (by rw [z]; exact List.mem_cons_self ..)
      rw [this r σ h, List.set_set]
theorem wipe_wipe : ∀ (vs : List Nat) (σ : St), wipe (wipe σ vs) vs = wipe σ vs := by
  intro vs
  have key : ∀ (ws : List Nat) (σ : St), (∀ w ∈ ws, w ∈ vs) → wipe (wipe σ ws) vs = wipe σ vs := by
    intro ws
    induction ws with
    | nil => intro σ _; rfl
    | cons w r ih =>
      intro σ h
      show wipe ((wipe σ r).set w none) vs = _
      rw [wipe_set (h w (List.mem_cons_self ..)), ih σ fun z hz => h z (List.mem_cons_of_mem _ hz)]
  exact fun σ => key vs σ fun _ h => h
theorem wg_name {i : Nat} {vs : List Nat} (hi : i ∈ vs) : WG (gName i) vs := fun v σ H Q q => ⟨by rw [wipe_set hi, wipe_wipe], q⟩
theorem s_lc {wi : TI} {g : TG} {tt : TT} {te : TE} {vs : List Nat} {mi : MI} {mg : MG} {mt : MT} {me : ME} (hw : WG g vs) (hi : SI G E wi mi) (hg : SG G E0 g mg) (ht : ST G E0 tt mt) (he : SE G E0 te me) : SE G E (tLc wi g tt te vs) (mLc mi mg mt me vs) := by
  intro p A σd σ h H Q R S o
  refine hi p A σd σ h H _ R S (Out.bind (R := RIt G) o fun q Jd h1 J H1 l R1 rJ o1 => ?_)
  intro D hD
  have hA : A D = none := R1.sa.free hD
  split at o1
  case isFalse => exact o1.elim
  rename_i hlim
  have hnl := rJ.lim hlim
  refine ⟨fun i m H' => ∃ q' acc accV h', q.le q' ∧ Rel G q' (upd A D (.lst accV)) h' H' ∧ RVs G q' acc accV ∧ acc.length ≤ i ∧ m + i = Jd.n ∧ Out G E A (RV G) q' (bindR (compN Jd mg mt me vs σd m i acc h') fun xs h => .ok (.lst xs) h) Q,
    ⟨Jd.n, q, [], [], h1, .refl _, R1.frame hD, .nil, Nat.zero_le _, rfl, o1⟩, ?_⟩
  rintro i m H' ⟨q', acc, accV, h', l', R', ra, hal, hm, o'⟩
  have hav : accV.length ≤ sizeLine := by rw [← ra.length]; omega
  cases m with
  | zero =>
    unfold compN at o'
    split at o'
    · rename_i hf
      have e : i = Jd.n := by omega
      obtain ⟨R2, le⟩ := R'.unframe hA
      exact .inl ⟨e ▸ rJ.stop q' _ h' H' l' R' hf, o' _ _ H' le R2 (.lst (show upd q'.F D _ D = _ from upd_same) (ra.mono le) hav)⟩
    · exact o'.elim
  | succ k =>
    cases ex : Jd.at_ i h' with
    | none => unfold compN at o'; rw [ex] at o'; exact o'.elim
    | some x =>
      unfold compN at o'
      rw [ex] at o'
      obtain ⟨hgo, hy⟩ := rJ.go q' _ h' H' i x l' R' (by omega) ex
      refine .inr ⟨hgo, fun H2 => ∃ q2 acc2 accV2 h2, q.le q2 ∧ Rel G q2 (upd A D (.lst accV2)) h2 H2 ∧ RVs G q2 acc2 accV2 ∧ acc2.length ≤ i + 1 ∧ k + (i + 1) = Jd.n ∧ Out G E A (RV G) q2 (bindR (compN Jd mg mt me vs σd k (i + 1) acc2 h2) fun xs h => .ok (.lst xs) h) Q, fun H2 z => ⟨k, by omega, z⟩, fun v H2 hv => ?_⟩
      obtain ⟨q2, l2, R2, rx⟩ := hy v H2 hv
      refine hw v σ H2 _ (hg q2 _ (wipeD σd vs) (wipe σ vs) h' H2 x v _ R2 ((S.mono (l.trans (l'.trans l2))).wipe vs) rx ?_)
      cases eg : mg x (wipeD σd vs) h' with
      | ok σ3 h3 =>
        dsimp only at o'
        rw [eg] at o'
        intro q3 τ H3 l3 R3 S3
        refine ht q3 _ σ3 τ h3 H3 _ R3 S3 ?_
        cases et : mt σ3 h3 with
        | ok b h4 =>
          dsimp only at o'
          rw [et] at o'
          intro q4 b' H4 l4 R4 eb
          subst eb
          cases b with
          | false => exact iteF ⟨q4, acc, accV, h4, (((l'.trans l2).trans l3).trans l4), R4, ra.mono ((l2.trans l3).trans l4), by omega, by omega, Out.mono ((l2.trans l3).trans l4) o'⟩
          | true =>
            refine iteT (he q4 _ σ3 τ h4 H4 _ R4 (S3.mono l4) ?_)
            cases ee : me σ3 h4 with
            | ok y h5 =>
              dsimp only at o'
              rw [ee] at o'
              intro q5 w H5 l5 R5 ry
              have lt : accV.length < sizeLine := by rw [← ra.length]; omega
              refine ⟨accV, R5.sa _ _ upd_same, lt, q5, acc ++ [y], accV ++ [w], h5, ((((l'.trans l2).trans l3).trans l4).trans l5), R5.reframe, (ra.mono (((l2.trans l3).trans l4).trans l5)).append (.cons ry .nil), by rw [List.length_append, List.length_singleton]; omega, by omega, Out.mono (((l2.trans l3).trans l4).trans l5) o'⟩
            | exc c h5 => dsimp only at o'; rw [ee] at o'; exact o'.elim
            | bad => dsimp only at o'; rw [ee] at o'; exact o'.elim
        | exc c h4 => dsimp only at o'; rw [et] at o'; exact o'.elim
        | bad => dsimp only at o'; rw [et] at o'; exact o'.elim
      | exc c h3 => dsimp only at o'; rw [eg] at o'; exact o'.elim
      | bad => dsimp only at o'; rw [eg] at o'; exact o'.elim
/-! ### calls of own defs -/
def spOf (G : Gx) (n : Nat) (c : Fn) : Sp := fun vs H Q E => vs.length = n ∧ ∃ (p : Pt) (A : Hp) (h : OH) (ds : List Dv), Rel G p A h H ∧ RVs G p ds vs ∧ Out G E A (RV G) p (c ds h) Q
def mCall (n : Nat) (c : Fn) (a : MA) : ME := fun σ h => bindR (a σ h) fun ds h => if ds.length = n then c ds h else .bad
theorem s_call {n : Nat} {c : Fn} {t : TA} {m : MA} (ha : SA G E t m) : SE G E (tCall (spOf G n c) [] E t) (mCall n c m) := by
  intro p A σd σ h H Q R S o
  refine ha p A σd σ h H _ R S (Out.bind (R := RVs G) o fun q ds h1 vs H1 l R1 rd o1 => ?_)
  split at o1
  · rename_i hn
    rw [List.append_nil]
    exact ⟨by rw [← rd.length]; exact hn, q, A, h1, ds, R1, rd, o1⟩
  · exact o1.elim
/-! ### a def -/
def mDef (k : Nat) (m : MS) : Fn := fun ds h => match m (ds.map some ++ List.replicate (k - ds.length) none) h with
  | .nx _ h => .ok .non h
  | .rt d h => .ok d h
  | .exc c h => .exc c h
  | _ => .bad
theorem RS.start {p : Pt} {ds : List Dv} {vs : List V} (r : RVs G p ds vs) (N : List Str) : RS G p (ds.map some ++ List.replicate (N.length - ds.length) none) (L2.start N vs) := by
  unfold L2.start
  refine ⟨by simp [r.length], fun i d e => ?_⟩
  by_cases hi : i < ds.length
  · rw [List.getElem?_append_left (by simpa using hi), List.getElem?_map] at e
    have ed : ds[i]? = some d := by
      cases z : ds[i]? with
      | none => rw [z] at e; cases e
      | some y => rw [z] at e; cases e; rfl
    obtain ⟨v, ev, rv⟩ := r.get ed
    refine ⟨v, ?_, rv⟩
    rw [List.getElem?_append_left (by simpa [← r.length] using hi), List.getElem?_map, ev]
    rfl
  · rw [List.getElem?_append_right (by simpa using hi), List.getElem?_replicate] at e
    split at e <;> cases e
theorem def_body {n : Nat} {m : MS} {t : TS} {N : List Str} {vs : List V} {H : Hp} {Q : VK} (hs : SS G E t m) (h : spOf G n (mDef N.length m) vs H Q E) : t { nx := fun _ H' => Q .non H', rt := Q } (L2.start N vs) H := by
  obtain ⟨_, p, A, h, ds, R, r, o⟩ := h
  refine hs p A _ _ h H _ R (RS.start r N) ?_
  unfold mDef at o
  cases e : m (ds.map some ++ List.replicate (N.length - ds.length) none) h with
  | nx σ h' => rw [e] at o; exact fun q τ H' l R' _ => o q .non H' l R' .non
  | rt d h' => rw [e] at o; exact o
  | exc c h' => rw [e] at o; exact o
  | bk σ h' => rw [e] at o; exact o.elim
  | ct σ h' => rw [e] at o; exact o.elim
  | bad => rw [e] at o; exact o.elim
end Ds

set_option Elab.async false
set_option linter.all false
set_option maxRecDepth 100000
namespace Ds
open PySem L2
variable {G : Gx} {E : XK}
/-! ### what a def leaves behind is forgotten; what it gives is then plain -/
mutual
def clo (n : Nat) : Dv → Bool
  | .ref i => decide (i < n)
  | .tup xs => cloL n xs
  | .lst xs => cloL n xs
  | .frz xs => cloL n xs
  | .dct _ xs => cloL n xs
  | _ => true
def cloL (n : Nat) : List Dv → Bool
  | [] => true
  | d :: r => clo n d && cloL n r
end
def cloO (n : Nat) : Ob → Bool
  | .lst xs => cloL n xs
  | .ins _ fs => cloL n (fs.map (·.2))
  | .dead => true
mutual
theorem clo_of {p : Pt} : ∀ {d : Dv} {v : V}, RV G p d v → clo p.ρ.length d = true
  | _, _, .non => rfl
  | _, _, .bl _ => rfl
  | _, _, .int _ => rfl
  | _, _, .str _ => rfl
  | _, _, .tup _ r _ => by unfold clo; exact cloL_of r
  | _, _, .lst _ r _ => by unfold clo; exact cloL_of r
  | _, _, .frz _ r _ => by unfold clo; exact cloL_of r
  | _, _, .dct _ _ r => by unfold clo; exact cloL_of r
  | _, _, .ref h => by unfold clo; exact decide_eq_true (List.getElem?_eq_some_iff.mp h).1
  | _, _, .fn _ => rfl
  | _, _, .ty _ => rfl
  | _, _, .rng _ => rfl
  | _, _, .sset _ _ _ _ => rfl
theorem cloL_of {p : Pt} : ∀ {ds : List Dv} {vs : List V}, RVs G p ds vs → cloL p.ρ.length ds = true
  | _, _, .nil => rfl
  | _, _, .cons r t => by unfold cloL; rw [clo_of r, cloL_of t]; rfl
end
mutual
/-- what is closed needs the first addresses alone -/
theorem RV.cut {p q : Pt} {n : Nat} (hr : ∀ i a, i < n → p.ρ[i]? = some a → q.ρ[i]? = some a) (hF : Same p.F q.F) : ∀ {d : Dv} {v : V}, RV G p d v → clo n d = true → RV G q d v
  | _, _, .non, _ => .non
  | _, _, .bl b, _ => .bl b
  | _, _, .int i, _ => .int i
  | _, _, .str x, _ => .str x
  | _, _, .tup h r hl, c => .tup (hF _ _ h) (RVs.cut hr hF r (by unfold clo at c; exact c)) hl
  | _, _, .lst h r hl, c => .lst (hF _ _ h) (RVs.cut hr hF r (by unfold clo at c; exact c)) hl
  | _, _, .frz h r hl, c => .frz (hF.seq h) (RVs.cut hr hF r (by unfold clo at c; exact c)) hl
  | _, _, .dct h hk r, c => .dct (hF _ _ h) hk (RVs.cut hr hF r (by unfold clo at c; exact c))
  | _, _, .ref h, c => .ref (hr _ _ (by unfold clo at c; exact of_decide_eq_true c) h)
  | _, _, .fn h, _ => .fn h
  | _, _, .ty n, _ => .ty n
  | _, _, .rng h, _ => .rng (hF _ _ h)
  | _, _, .sset h hm hn hl, _ => .sset (hF _ _ h) hm hn hl
theorem RVs.cut {p q : Pt} {n : Nat} (hr : ∀ i a, i < n → p.ρ[i]? = some a → q.ρ[i]? = some a) (hF : Same p.F q.F) : ∀ {ds : List Dv} {vs : List V}, RVs G p ds vs → cloL n ds = true → RVs G q ds vs
  | _, _, .nil, _ => .nil
  | _, _, .cons r t, c => by
    unfold cloL at c
    have c := (Bool.and_eq_true _ _).mp c
    exact .cons (RV.cut hr hF r c.1) (RVs.cut hr hF t c.2)
end
def frzD : Nat → OH → Nat → Dv → Option Dv
  | 0, _, _, _ => none
  | k + 1, h, n, d => match d with
    | .ref i => if i < n then some (.ref i) else match h[i]? with
      | some (.lst xs) => (xs.mapM (frzD k h n)).map .lst
      | _ => none
    | .tup xs => (xs.mapM (frzD k h n)).map .tup
    | .lst xs => (xs.mapM (frzD k h n)).map .lst
    | .frz _ => none
    | .dct _ _ => none
    | d => some d
open Classical in
noncomputable def ptCut (q : Pt) (h : OH) (n : Nat) (H : Hp) : Pt := ⟨q.ρ.take n, fun a => match q.F a with
  | some o => some o
  | none => if ∃ j, n ≤ j ∧ q.ρ[j]? = some a ∧ Live h j then H a else none⟩
theorem ptCut_F {q : Pt} {h : OH} {n : Nat} {H : Hp} : Same q.F (ptCut q h n H).F := fun a o e => by
  unfold ptCut
  simp only [e]
theorem ptCut_none {q : Pt} {h : OH} {n : Nat} {H : Hp} {a : Addr} (hF : q.F a = none) (hn : ∀ j, n ≤ j → q.ρ[j]? = some a → ¬ Live h j) : (ptCut q h n H).F a = none := by
  unfold ptCut
  simp only [hF]
  rw [if_neg]
  rintro ⟨j, hj, ea, l⟩
  exact hn j hj ea l
theorem ptCut_r {q : Pt} {h : OH} {n : Nat} {H : Hp} : ∀ i a, i < n → q.ρ[i]? = some a → (ptCut q h n H).ρ[i]? = some a := fun i a hi e => by
  show (q.ρ.take n)[i]? = some a
  rw [List.getElem?_take_of_lt hi]
  exact e
theorem Rel.cut {q : Pt} {A : Hp} {h g : OH} {H : Hp} (R : Rel G q A (h ++ g) H) (hc : ∀ (i : Nat) (o : Ob), h[i]? = some o → cloO h.length o = true) : Rel G (ptCut q (h ++ g) h.length H) A h H := by
  have get : ∀ {i : Nat} {a : Addr}, (q.ρ.take h.length)[i]? = some a → i < h.length ∧ q.ρ[i]? = some a := fun {i a} e => by
    have hi : i < h.length := by
      have := (List.getElem?_eq_some_iff.mp e).1
      rw [List.length_take] at this
      omega
    rw [List.getElem?_take_of_lt hi] at e
    exact ⟨hi, e⟩
  have live : ∀ {i : Nat}, i < h.length → (Live h i ↔ Live (h ++ g) i) := fun {i} hi => by
    unfold Live
    rw [List.getElem?_append_left hi]
  refine ⟨fun a o e => ?_, R.sa, fun a o e => ?_, ?_, fun i a o e1 e2 => ?_, fun i j a e1 e2 l1 l2 => ?_, fun i a e l => ?_⟩
  · by_cases hF : q.F a = none
    · unfold ptCut at e
      simp only [hF] at e
      split at e
      · exact e
      · cases e
    · obtain ⟨u, hu⟩ := Option.ne_none_iff_exists'.mp hF
      have := ptCut_F (h := h ++ g) (n := h.length) (H := H) _ _ hu
      rw [e] at this
      cases this
      exact R.sf _ _ hu
  · refine ptCut_none (R.fa a o e) fun j hj ea l => ?_
    have := (R.ap j a ea l).2
    rw [e] at this; cases this
  · show (q.ρ.take h.length).length = h.length
    rw [List.length_take, R.len, List.length_append]
    omega
  · obtain ⟨hi, e1⟩ := get e1
    have ob := R.obj i a o e1 (by rw [List.getElem?_append_left hi]; exact e2)
    have c := hc i o e2
    generalize H a = z at ob ⊢
    cases ob with
    | lst r hl => exact .lst (r.cut ptCut_r ptCut_F (by unfold cloO at c; exact c)) hl
    | ins hc' hn r => exact .ins hc' hn (r.cut ptCut_r ptCut_F (by unfold cloO at c; exact c))
    | dead => exact .dead
  · obtain ⟨hi, e1⟩ := get e1
    obtain ⟨hj, e2⟩ := get e2
    exact R.nd i j a e1 e2 ((live hi).mp l1) ((live hj).mp l2)
  · obtain ⟨hi, e⟩ := get e
    have q1 := R.ap i a e ((live hi).mp l)
    refine ⟨ptCut_none q1.1 fun j hj ea l2 => ?_, q1.2⟩
    have := R.nd i j a e ea ((live hi).mp l) l2
    omega
def Kept (h h' : OH) : Prop := h.length ≤ h'.length ∧ ∀ (i : Nat) (o : Ob), h'[i]? = some o → h[i]? = some o ∨ cloO h'.length o = true
theorem Kept.refl (h : OH) : Kept h h := ⟨Nat.le_refl _, fun i o e => .inl e⟩
def Imp (h : OH) (r s : Res Dv) : Prop := match s with
  | .bad => True
  | .ok d h' => ∃ d1 g, r = .ok d1 (h' ++ g) ∧ frzD 9 (h' ++ g) h'.length d1 = some d ∧ Kept h h'
  | .exc c h' => ∃ g, r = .exc c (h' ++ g) ∧ Kept h h'
def Refines (m c : Fn) : Prop := ∀ ds h, Imp h (m ds h) (c ds h)
mutual
theorem clo_le {m n : Nat} (l : m ≤ n) : ∀ d : Dv, clo m d = true → clo n d = true
  | .ref i, h => by unfold clo at *; exact decide_eq_true (Nat.lt_of_lt_of_le (of_decide_eq_true h) l)
  | .tup xs, h => by unfold clo at *; exact cloL_le l xs h
  | .lst xs, h => by unfold clo at *; exact cloL_le l xs h
  | .frz xs, h => by unfold clo at *; exact cloL_le l xs h
  | .dct _ xs, h => by unfold clo at *; exact cloL_le l xs h
  | .non, _ => rfl
  | .bl _, _ => rfl
  | .int _, _ => rfl
  | .str _, _ => rfl
  | .fn _, _ => rfl
  | .err _, _ => rfl
  | .ty _, _ => rfl
  | .rng _ _ _, _ => rfl
  | .sset _, _ => rfl
theorem cloL_le {m n : Nat} (l : m ≤ n) : ∀ ds : List Dv, cloL m ds = true → cloL n ds = true
  | [], _ => rfl
  | d :: r, h => by
    unfold cloL at *
    have h := (Bool.and_eq_true _ _).mp h
    rw [clo_le l d h.1, cloL_le l r h.2]
    rfl
end
theorem cloO_le {m n : Nat} (l : m ≤ n) (o : Ob) (h : cloO m o = true) : cloO n o = true := by
  cases o with
  | lst xs => exact cloL_le l _ h
  | ins C fs => exact cloL_le l _ h
  | dead => rfl
end Ds

set_option Elab.async false
set_option linter.all false
set_option maxRecDepth 100000
namespace Ds
open PySem PySem.Spec PyProof.Rows L2
variable {G : Gx} {E : XK}
/-! ### defs from which no exception leaves -/
def sp0 (G : Gx) (n : Nat) (c : Fn) : Sp := fun vs H Q _ => spOf G n c vs H Q E0
theorem s_call0 {n : Nat} {c : Fn} {t : TA} {m : MA} (ha : SA G E0 t m) : SE G E0 (tCall (sp0 G n c) [] E0 t) (mCall n c m) := s_call ha
structure Bt (mg : Str → Option Value) : Prop where
  isinstance : mg "isinstance" = none
  int : mg "int" = none
  bool : mg "bool" = none
  list : mg "list" = none
  tuple : mg "tuple" = none
  str : mg "str" = none
  all : mg "all" = none
  any : mg "any" = none
  len : mg "len" = none
  enumerate : mg "enumerate" = none
  zip : mg "zip" = none
  range : mg "range" = none
  sorted : mg "sorted" = none
  set : mg "set" = none
  max : mg "max" = none
  min : mg "min" = none
structure Cal (G : Gx) (mg : Str → Option Value) (base : Heap) (CX : CXT) (l : Nat) (ps : List Str) (sp : Sp) (f : Addr) (fd : FuncData) : Prop where
  ok : FnOk G.P G.w G.K mg base CX l f fd ps sp
  kp : PySem.W.keepIn G.K (.ref f) = true
  bd : Binds G.K fd ps []
theorem fn1 {mg : Str → Option Value} {base : Heap} {x qual : Str} {st : Stmt} {f : Addr} {fd : FuncData} {NL ps : List Str} {k n : Nat} {m : MS} (F : Fun G.K x qual st f fd) (S : FnScope NL ps (defScope st)) (hn : n = ps.length)
    (hb : ∀ (cdv : Value) (A : Around) (outer : List Env) (s : Shared) (H : Hp) (E : XK), Room k (A.deeper (envOfC qual (defScope st) s.heap.objs.size f cdv)) →
      ∃ t, PSs (cxOf CX0 G.P G.w G.K mg base NL qual (defScope st) f cdv A outer s H E).nox (defBody st) t ∧ SS G E0 t m) : FnOk G.P G.w G.K mg base CX0 (k + 1) f fd ps (sp0 G n (mDef NL.length m)) := by
  refine F.ok S (fun vs H Q E h => by rw [← hn]; exact h.1) (fun cdv A outer s H vs Q E hroom h => ?_)
  obtain ⟨t, h1, h2⟩ := hb cdv A outer s H E hroom
  exact ⟨t, h1, def_body h2 h⟩
def spLaw (K : PySem.W.Frag) : Sp := fun vs H Q _ => ∃ (a : Addr) (ns : List Int), vs = [.ref a] ∧ SqL K H a (ns.map V.int) ∧ ns.length ≤ 63 ∧ ∀ H', Q (.bl true) H'
theorem law_of {mg : Str → Option Value} {base : Heap} {k : Nat} {f : Addr} {fd : FuncData} {ps : List Str} {c : Fn} (F : FnOk G.P G.w G.K mg base CX0 k f fd ps (sp0 G 1 c)) (hc : ∀ ns : List Int, ns.length ≤ 63 → ∃ h, c [.frz (ns.map Dv.int)] [] = .ok (.bl true) h) :
    FnOk G.P G.w G.K mg base CX0 k f fd ps (spLaw G.K) := by
  refine F.imp fun vs H Q E h => ?_
  obtain ⟨a, ns, rfl, hS, hl, q⟩ := h
  obtain ⟨h', e⟩ := hc ns hl
  refine ⟨rfl, ⟨[], H⟩, fun _ => none, [], [.frz (ns.map Dv.int)], ⟨Same.refl _, fun _ _ e => (nomatch e), fun _ _ e => (nomatch e), rfl, fun i a o e => by simp at e, fun i j a e => by simp at e, fun i a e => by simp at e⟩, .cons (.frz hS (RVs.ints ns) ?_) .nil, ?_⟩
  · rw [List.length_map]; exact line_of (by omega)
  · rw [e]
    intro p v H' l R r
    cases r
    exact q H'
end Ds

set_option linter.all false
namespace Mw
/-! ### picks -/
def binom : Nat → Nat → Nat
  | _, 0 => 1
  | 0, _ + 1 => 0
  | a + 1, k + 1 => binom a k + binom a (k + 1)
end Mw

set_option Elab.async false
set_option linter.all false
set_option maxRecDepth 100000
namespace Ls
open PySem L2
abbrev iv (ns : List Int) : List V := ns.map V.int
/-! ### the walk through a seating, as plain lists -/
def wk (m : Nat) (lost seats : List Int) : List Int → Nat → List Int → List Int → List Int × Option Nat
  | [], _, _, acc => (acc, none)
  | g :: r, t, gone, acc =>
    if g ∈ lost ∨ g ∈ gone then wk m lost seats r (t + 1) (gone ++ [seats.getD g.toNat 0]) (acc ++ [(m : Int) - (t : Int)])
    else if seats.getD g.toNat 0 = g then wk m lost seats r (t + 1) (gone ++ [seats.getD g.toNat 0]) (acc ++ [1])
    else (acc, some t)
def walkM (order lost seats : List Int) : List Int × Option Nat := wk order.length lost seats order 0 [] []
/-! ### promises -/
/-! ### the flags of free seats and the seats that are gone -/
/-! ### data compared -/
theorem eqvAll_ints : ∀ ns ms : List Int, PyData.eqvAll (ns.map PyData.int) (ms.map PyData.int) = decide (ns = ms)
  | [], [] => rfl
  | [], _ :: _ => by simp [PyData.eqvAll]
  | _ :: _, [] => by simp [PyData.eqvAll]
  | a :: r, b :: q => by
    rw [List.map_cons, List.map_cons, PyData.eqvAll, eqvAll_ints r q, PyData.eqv]
    by_cases e : a = b
    · simp [e]
    · simp [e]
/-! ### the walk's length, its turn -/
def retI : Option Nat → Int
  | none => -1
  | some t => (t : Int)
/-! ### promises -/
structure NightOk (most : Nat) (order lost : List Int) : Prop where
  len1 : 1 ≤ order.length
  lenm : order.length ≤ most
  ins : ∀ x ∈ order, 0 ≤ x ∧ x < order.length
  nd : order.Nodup
  lostS : lost.Pairwise (· < ·)
  lostIn : ∀ x ∈ lost, 0 ≤ x ∧ x < order.length
def primes : List Int := [1000003, 1000033, 1000037, 1000039, 1000081, 1000099, 1000117, 1000121, 1000133, 1000151, 1000159, 1000171, 1000183, 1000187, 1000193, 1000199]
theorem strict_of {l : List Int} (h1 : l.Pairwise (· ≤ ·)) (h2 : l.Nodup) : l.Pairwise (· < ·) := by
  have := h1.and h2
  exact this.imp fun ⟨a, b⟩ => by
    have : ¬ _ = _ := b
    omega
theorem ins_nodup {l : List Int} {g : Int} {k : Nat} (h : l.Nodup) (hg : ¬ g ∈ l) : (l.take k ++ g :: l.drop k).Nodup := by
  have e : (l.take k ++ g :: l.drop k).Perm (g :: l) := by
    refine List.perm_middle.trans ?_
    rw [List.take_append_drop]
  exact e.nodup_iff.mpr (List.nodup_cons.mpr ⟨hg, h⟩)
theorem ins_mem {l : List Int} {g x : Int} {k : Nat} : x ∈ l.take k ++ g :: l.drop k ↔ x = g ∨ x ∈ l := by
  have e : (l.take k ++ g :: l.drop k).Perm (g :: l) := by
    refine List.perm_middle.trans ?_
    rw [List.take_append_drop]
  rw [e.mem_iff, List.mem_cons]
theorem ins_len {l : List Int} {g : Int} {k : Nat} : (l.take k ++ g :: l.drop k).length = l.length + 1 := by
  have e : (l.take k ++ g :: l.drop k).Perm (g :: l) := by
    refine List.perm_middle.trans ?_
    rw [List.take_append_drop]
  rw [e.length_eq, List.length_cons]
theorem rg_iv (m : Nat) : rgInts 0 1 m = (List.range m).map fun i : Nat => (i : Int) := by
  unfold rgInts
  apply List.map_congr_left
  intro a _
  omega
theorem getD_mem {ns : List Int} {z : Int} (h0 : 0 ≤ z) (h1 : z < ns.length) : ns.getD z.toNat 0 ∈ ns := by
  rw [List.getD_eq_getElem?_getD, List.getElem?_eq_getElem (by omega)]
  exact List.getElem_mem _
end Ls

namespace Mw
def shareR (order lost : List Int) (t : Nat) (s : Int) : Rat :=
  if ¬ s ∈ alikeM order lost t then 0
  else if order.getD t 0 ∈ lost then 1 / (((alikeM order lost t).length : Nat) : Rat)
  else if s = order.getD t 0 then ((order.length - t : Nat) : Rat) / (((alikeM order lost t).length : Nat) : Rat)
  else ((((alikeM order lost t).length : Nat) : Rat) - ((order.length - t : Nat) : Rat)) / ((((alikeM order lost t).length : Nat) : Rat) * ((((alikeM order lost t).length : Nat) : Rat) - 1))
def ownR (order lost : List Int) : Nat → Rat
  | 0 => 0
  | t + 1 => ownR order lost t + shareR order lost t (order.getD t 0)
def alT (order lost : List Int) (t i : Nat) : List Int := ((order.take i).take t).filter (fun g => decide (g ∈ lost)) ++ (order.take i).drop t
theorem full {order : List Int} (ho : order.Nodup) (hi : ∀ x ∈ order, 0 ≤ x ∧ x < (order.length : Int)) {g : Int} (h0 : 0 ≤ g) (h1 : g < (order.length : Int)) : g ∈ order := by
  refine Classical.byContradiction fun hn => ?_
  have := sub_len (l := g :: order) (r := rg order.length) (List.nodup_cons.mpr ⟨hn, ho⟩) fun x hx => by
    rcases List.mem_cons.mp hx with e | e
    · rw [e]; exact mem_rg.mpr ⟨h0, h1⟩
    · exact mem_rg.mpr (hi x e)
  rw [List.length_cons, length_rg] at this
  omega
end Mw
namespace Ls
open PySem L2 Mw
end Ls

namespace Mw
def prodI (l : List Int) : Int := l.foldl (· * ·) 1
theorem foldl_mul (l : List Int) (c : Int) : l.foldl (· * ·) c = c * prodI l := by
  unfold prodI
  induction l generalizing c with
  | nil => simp
  | cons a l ih => rw [List.foldl_cons, List.foldl_cons, ih, ih (1 * a)]; grind
theorem prodI_cons (a : Int) (l : List Int) : prodI (a :: l) = a * prodI l := by
  show (a :: l).foldl (· * ·) 1 = _
  rw [List.foldl_cons, foldl_mul]; grind
theorem prodI_snoc (l : List Int) (a : Int) : prodI (l ++ [a]) = prodI l * a := by
  unfold prodI
  rw [List.foldl_append]
  rfl
theorem prodI_pos : ∀ {l : List Int}, (∀ x ∈ l, 0 < x) → 0 < prodI l
  | [], _ => by decide
  | a :: l, h => by
    rw [prodI_cons]
    exact Int.mul_pos (h a (List.mem_cons_self ..)) (prodI_pos fun x hx => h x (List.mem_cons_of_mem _ hx))
end Mw
namespace Ls
open PySem L2 Mw
def seatR (order lost seats : List Int) : Rat := match (walkM order lost seats).2 with
  | none => 1 / ((prodI (walkM order lost seats).1 : Int) : Rat)
  | some _ => 0
end Ls

namespace Mw
open Ls
/-! ### a seat that isn't alike is taken -/
theorem taken {order lost : List Int} (hi : ∀ x ∈ order, 0 ≤ x ∧ x < (order.length : Int)) (ho : order.Nodup) : ∀ t, t ≤ order.length → ∀ w ∈ wayT order lost t, ∀ s, 0 ≤ s → s < (order.length : Int) → ¬ s ∈ alikeM order lost t → s ∈ w.1
  | 0, _, w, hw, s, h0, h1, hn => absurd (full ho hi h0 h1) hn
  | t + 1, ht, w, hw, s, h0, h1, hn => by
    have hl : t < order.length := ht
    obtain ⟨g, hg⟩ : ∃ g, order[t]? = some g := ⟨_, List.getElem?_eq_getElem hl⟩
    rw [wayT_succ hg] at hw
    obtain ⟨v, hv, hw⟩ := List.mem_flatMap.mp hw
    unfold step1 at hw
    obtain ⟨u, hu, rfl⟩ := List.mem_map.mp hw
    by_cases hs : s ∈ alikeM order lost t
    · have hgl : ¬ g ∈ lost := fun q => hn (by rw [alike_lost hg q]; exact hs)
      have e : s = g := by
        rcases List.mem_cons.mp ((alike_own hg hgl).mem_iff.mp hs) with e | e
        · exact e
        · exact absurd e hn
      by_cases gf : g ∈ v.1
      · rw [e]; exact List.mem_append_left _ gf
      · have ep : pick lost g (opens order.length v.1) = [g] := by unfold pick; rw [if_pos ⟨hgl, mem_opens.mpr ⟨e ▸ ⟨h0, h1⟩, gf⟩⟩]
        rw [ep] at hu
        have : u = g := by simpa using hu
        rw [e, this]
        exact List.mem_append_right _ (List.mem_singleton.mpr rfl)
    · exact List.mem_append_left _ (taken hi ho t (by omega) v hv s h0 h1 hs)
/-! ### who sits where -/
def sat (t : Nat) (s : Int) (ss : List Int) : Rat := if ss[t]? = some s then 1 else 0
theorem sum_is (s : Int) : ∀ op : List Int, op.Nodup → (op.map fun u => if u = s then (1 : Rat) else 0).sum = if s ∈ op then 1 else 0
  | [], _ => by simp
  | a :: op, h => by
    obtain ⟨h1, h2⟩ := List.nodup_cons.mp h
    rw [List.map_cons, List.sum_cons, sum_is s op h2]
    by_cases e : a = s
    · subst e
      rw [if_pos rfl, if_neg h1, if_pos (List.mem_cons_self ..)]
      grind
    · rw [if_neg e]
      by_cases hs : s ∈ op
      · rw [if_pos hs, if_pos (List.mem_cons_of_mem _ hs)]; grind
      · rw [if_neg hs, if_neg fun q => (List.mem_cons.mp q).elim (fun q => e q.symm) hs]; grind
theorem sat_last {t : Nat} {s u : Int} {ss : List Int} (h : ss.length = t) : sat t s (ss ++ [u]) = if u = s then 1 else 0 := by
  unfold sat
  rw [List.getElem?_append_right (by omega), h, Nat.sub_self]
  simp
theorem sat_keep {t : Nat} {s u : Int} {ss : List Int} (h : t < ss.length) : sat t s (ss ++ [u]) = sat t s ss := by
  unfold sat
  rw [List.getElem?_append_left h]
theorem pick_nodup (lost : List Int) (g : Int) (n : Nat) (ss : List Int) : (pick lost g (opens n ss)).Nodup := by
  unfold pick
  split
  · simp
  · exact nodup_opens n ss
theorem sum_const (c : Rat) : ∀ op : List Int, (op.map fun _ => c).sum = (op.length : Nat) * c
  | [] => by simp
  | a :: op => by rw [List.map_cons, List.sum_cons, sum_const c op, List.length_cons]; push_cast; grind
theorem ind_one (s : Int) (ss : List Int) : ind [s] ss = if s ∈ ss then 0 else 1 := by
  unfold ind
  by_cases h : s ∈ ss
  · rw [if_pos h, if_neg fun q => q s (by simp) h]
  · rw [if_neg h, if_pos fun x hx => by
      have : x = s := by simpa using hx
      rw [this]; exact h]
theorem seated {order lost : List Int} (ho : order.Nodup) (hi : ∀ x ∈ order, 0 ≤ x ∧ x < (order.length : Int)) {t : Nat} (ht : t < order.length) {s : Int} (h0 : 0 ≤ s) (h1 : s < (order.length : Int)) :
    EW (wayT order lost (t + 1)) (sat t s) = (fact order.length : Nat) * shareR order lost t s := by
  obtain ⟨g, hg⟩ : ∃ g, order[t]? = some g := ⟨_, List.getElem?_eq_getElem ht⟩
  have gD : order.getD t 0 = g := by rw [List.getD_eq_getElem?_getD, hg]; rfl
  have hgi := hi g (List.mem_of_getElem? hg)
  have W := wayT_ok order lost t (by omega)
  have kz : ((order.length - t : Nat) : Rat) ≠ 0 := natR_ne (by omega)
  rw [wayT_succ hg, EW_flat ht _ W]
  have e0 : EW (wayT order lost t) (fun ss => ((pick lost g (opens order.length ss)).map fun u => sat t s (ss ++ [u])).sum / ((pick lost g (opens order.length ss)).length : Rat)) =
      EW (wayT order lost t) (fun ss => (if s ∈ pick lost g (opens order.length ss) then 1 else 0) / ((pick lost g (opens order.length ss)).length : Rat)) := by
    apply EW_congr
    intro w hw
    have e : ((pick lost g (opens order.length w.1)).map fun u => sat t s (w.1 ++ [u])) = (pick lost g (opens order.length w.1)).map fun u => if u = s then (1 : Rat) else 0 := by
      apply List.map_congr_left
      intro u _
      exact sat_last (W w hw).len
    rw [e, sum_is s _ (pick_nodup ..)]
  rw [e0]
  by_cases hs : s ∈ alikeM order lost t
  · have m1 := marg (lost := lost) ho hi t (by omega) [s] (by simp) (by simpa using hs)
    have a1 : 0 < (alikeM order lost t).length := List.length_pos_of_mem hs
    have az : ((alikeM order lost t).length : Rat) ≠ 0 := natR_ne (by omega)
    have m1' : EW (wayT order lost t) (ind [s]) = (fact order.length : Nat) * (((order.length - t : Nat) : Rat) / ((alikeM order lost t).length : Nat)) := by
      rw [m1]
      simp only [List.length_singleton, ff]
      push_cast
      grind
    by_cases hgl : g ∈ lost
    · have e1 : EW (wayT order lost t) (fun ss => (if s ∈ pick lost g (opens order.length ss) then 1 else 0) / ((pick lost g (opens order.length ss)).length : Rat)) = EW (wayT order lost t) (fun ss => 1 / ((order.length - t : Nat) : Rat) * ind [s] ss) := by
        apply EW_congr
        intro w hw
        have ep : pick lost g (opens order.length w.1) = opens order.length w.1 := by unfold pick; rw [if_neg fun q => q.1 hgl]
        rw [ep, (W w hw).opens_len, ind_one]
        by_cases q : s ∈ w.1
        · rw [if_pos q, if_neg fun z => (mem_opens.mp z).2 q]; grind
        · rw [if_neg q, if_pos (mem_opens.mpr ⟨⟨h0, h1⟩, q⟩)]; grind
      rw [e1, EW_mul, m1']
      unfold shareR
      rw [gD, if_neg (fun q => q hs), if_pos hgl]
      grind
    · by_cases hsg : s = g
      · have e1 : EW (wayT order lost t) (fun ss => (if s ∈ pick lost g (opens order.length ss) then 1 else 0) / ((pick lost g (opens order.length ss)).length : Rat)) = EW (wayT order lost t) (ind [s]) := by
          apply EW_congr
          intro w hw
          rw [ind_one]
          by_cases q : s ∈ w.1
          · rw [if_pos q, if_neg fun z => (mem_opens.mp (pick_mem z)).2 q]; grind
          · have ep : pick lost g (opens order.length w.1) = [g] := by unfold pick; rw [if_pos ⟨hgl, mem_opens.mpr ⟨hgi, hsg ▸ q⟩⟩]
            rw [ep, if_neg q, hsg, if_pos (by simp)]
            simp only [List.length_singleton]
            push_cast
            grind
        rw [e1, m1']
        unfold shareR
        rw [gD, if_neg (fun q => q hs), if_neg hgl, if_pos hsg]
      · have hga : g ∈ alikeM order lost t := (alike_own hg hgl).mem_iff.mpr (List.mem_cons_self ..)
        have m2 := marg (lost := lost) ho hi t (by omega) [g, s] (List.nodup_cons.mpr ⟨fun q => hsg (List.mem_singleton.mp q).symm, by simp⟩) fun x hx => by
          rcases List.mem_cons.mp hx with e | e
          · rw [e]; exact hga
          · have : x = s := by simpa using e
            rw [this]; exact hs
        have a2 : 2 ≤ (alikeM order lost t).length := by
          have := sub_len (l := [g, s]) (r := alikeM order lost t) (List.nodup_cons.mpr ⟨fun q => hsg (List.mem_singleton.mp q).symm, by simp⟩) fun x hx => by
            rcases List.mem_cons.mp hx with e | e
            · rw [e]; exact hga
            · have : x = s := by simpa using e
              rw [this]; exact hs
          exact this
        have az2 : ((alikeM order lost t).length : Rat) - 1 ≠ 0 := by
          intro e
          have : ((alikeM order lost t).length : Rat) = ((1 : Nat) : Rat) := by push_cast; grind
          have : (alikeM order lost t).length = 1 := by exact_mod_cast this
          omega
        have e1 : EW (wayT order lost t) (fun ss => (if s ∈ pick lost g (opens order.length ss) then 1 else 0) / ((pick lost g (opens order.length ss)).length : Rat)) = EW (wayT order lost t) (fun ss => 1 / ((order.length - t : Nat) : Rat) * ind [s] ss + -(1 / ((order.length - t : Nat) : Rat)) * ind [g, s] ss) := by
          apply EW_congr
          intro w hw
          rw [ind_cons g [s], ind_one]
          by_cases gf : g ∈ w.1
          · have ep : pick lost g (opens order.length w.1) = opens order.length w.1 := by unfold pick; rw [if_neg fun q => (mem_opens.mp q.2).2 gf]
            rw [ep, (W w hw).opens_len, if_pos gf]
            by_cases q : s ∈ w.1
            · rw [if_pos q, if_neg fun z => (mem_opens.mp z).2 q]; grind
            · rw [if_neg q, if_pos (mem_opens.mpr ⟨⟨h0, h1⟩, q⟩)]; grind
          · have ep : pick lost g (opens order.length w.1) = [g] := by unfold pick; rw [if_pos ⟨hgl, mem_opens.mpr ⟨hgi, gf⟩⟩]
            rw [ep, if_neg gf, if_neg (fun z => hsg (by simpa using z))]
            grind
        rw [e1, EW_add, EW_mul, EW_mul, m1', m2]
        unfold shareR
        rw [gD, if_neg (fun q => q hs), if_neg hgl, if_neg hsg]
        simp only [List.length_cons, List.length_nil, ff]
        push_cast
        grind
  · have e1 : EW (wayT order lost t) (fun ss => (if s ∈ pick lost g (opens order.length ss) then 1 else 0) / ((pick lost g (opens order.length ss)).length : Rat)) = 0 := by
      apply EW_zero
      intro w hw
      rw [if_neg fun z => (mem_opens.mp (pick_mem z)).2 (taken hi ho t (by omega) w hw s h0 h1 hs)]
      grind
    rw [e1]
    unfold shareR
    rw [if_pos hs]
    grind
theorem stays {order lost : List Int} {t : Nat} {s : Int} : ∀ d : Nat, t + 1 + d ≤ order.length → EW (wayT order lost (t + 1 + d)) (sat t s) = EW (wayT order lost (t + 1)) (sat t s)
  | 0, _ => rfl
  | d + 1, h => by
    have hl : t + 1 + d < order.length := by omega
    obtain ⟨g, hg⟩ : ∃ g, order[t + 1 + d]? = some g := ⟨_, List.getElem?_eq_getElem hl⟩
    have W := wayT_ok order lost (t + 1 + d) (by omega)
    rw [← stays d (by omega), show t + 1 + (d + 1) = t + 1 + d + 1 by omega, wayT_succ hg, EW_flat hl _ W]
    apply EW_congr
    intro w hw
    have wl := (W w hw).len
    have e : ((pick lost g (opens order.length w.1)).map fun u => sat t s (w.1 ++ [u])) = (pick lost g (opens order.length w.1)).map fun _ => sat t s w.1 := by
      apply List.map_congr_left
      intro u _
      exact sat_keep (by omega)
    rw [e, sum_const]
    have hz : ((pick lost g (opens order.length w.1)).length : Rat) ≠ 0 := by
      apply natR_ne
      unfold pick
      split
      · simp
      · rw [(W w hw).opens_len]; omega
    grind
theorem shares {order lost : List Int} (ho : order.Nodup) (hi : ∀ x ∈ order, 0 ≤ x ∧ x < (order.length : Int)) {t : Nat} (ht : t < order.length) {s : Int} (h0 : 0 ≤ s) (h1 : s < (order.length : Int)) :
    EW (wayT order lost order.length) (sat t s) = (fact order.length : Nat) * shareR order lost t s := by
  have := stays (order := order) (lost := lost) (t := t) (s := s) (order.length - (t + 1)) (by omega)
  rw [show t + 1 + (order.length - (t + 1)) = order.length by omega] at this
  rw [this]
  exact seated ho hi ht h0 h1
/-! ### the choices of a way -/
theorem comes_way {order lost : List Int} (hi : ∀ x ∈ order, 0 ≤ x ∧ x < (order.length : Int)) : ∀ t, t ≤ order.length → ∀ w ∈ wayT order lost t, ∀ seats : List Int, (∀ j g, j < t → order[j]? = some g → w.1[j]? = some (seats.getD g.toNat 0)) →
    ∃ cs : List Int, wk order.length lost seats order 0 [] [] = wk order.length lost seats (order.drop t) t w.1 cs ∧ prodI cs * w.2 = (fact order.length : Nat)
  | 0, _, w, hw, seats, _ => by
    have : w = ([], ((fact order.length : Nat) : Int)) := by simpa [wayT, waysM] using hw
    subst this
    exact ⟨[], rfl, by show 1 * ((fact order.length : Nat) : Int) = _; omega⟩
  | t + 1, ht, w, hw, seats, hs => by
    have hl : t < order.length := ht
    obtain ⟨g, hg⟩ : ∃ g, order[t]? = some g := ⟨_, List.getElem?_eq_getElem hl⟩
    have hgi := hi g (List.mem_of_getElem? hg)
    rw [wayT_succ hg] at hw
    obtain ⟨v, hv, hw⟩ := List.mem_flatMap.mp hw
    unfold step1 at hw
    obtain ⟨u, hu, rfl⟩ := List.mem_map.mp hw
    have V := wayT_ok order lost t (by omega) v hv
    have hsu : seats.getD g.toNat 0 = u := by
      have := hs t g (by omega) hg
      rw [List.getElem?_append_right (by rw [V.len]; omega), V.len, Nat.sub_self] at this
      have h2 : some u = some (seats.getD g.toNat 0) := this
      exact (Option.some.inj h2).symm
    obtain ⟨cs, e1, e2⟩ := comes_way hi t (by omega) v hv seats fun j g' hj hg' => by
      have := hs j g' (by omega) hg'
      rwa [List.getElem?_append_left (by rw [V.len]; omega)] at this
    have hdr : order.drop t = g :: order.drop (t + 1) := by
      rw [List.drop_eq_getElem_cons hl, (List.getElem?_eq_some_iff.mp hg).2]
    rw [e1, hdr, wk, hsu]
    by_cases hc : g ∈ lost ∨ g ∈ v.1
    · rw [if_pos hc]
      have ep : pick lost g (opens order.length v.1) = opens order.length v.1 := by
        unfold pick
        rw [if_neg fun q => hc.elim q.1 fun z => (mem_opens.mp q.2).2 z]
      refine ⟨cs ++ [(order.length : Int) - (t : Nat)], rfl, ?_⟩
      rw [prodI_snoc, ep, V.opens_len]
      obtain ⟨c, hcq⟩ := V.much
      obtain ⟨r, hr⟩ : ∃ r, order.length - t = r + 1 := ⟨order.length - t - 1, by omega⟩
      have ez : (order.length : Int) - (t : Nat) = ((order.length - t : Nat) : Int) := by omega
      have hd : ((order.length - t : Nat) : Int) ∣ v.2 := by
        rw [hcq, hr]
        exact Int.natCast_dvd_natCast.mpr (Nat.dvd_trans (Nat.dvd_mul_right _ _) (Nat.dvd_mul_left _ _))
      rw [ez, Int.mul_assoc, Int.mul_ediv_cancel' hd]
      exact e2
    · rw [if_neg hc]
      have gf : ¬ g ∈ v.1 := fun q => hc (Or.inr q)
      have ep : pick lost g (opens order.length v.1) = [g] := by
        unfold pick
        rw [if_pos ⟨fun q => hc (Or.inl q), mem_opens.mpr ⟨hgi, gf⟩⟩]
      rw [ep] at hu
      have ug : u = g := by simpa using hu
      rw [if_pos ug]
      refine ⟨cs ++ [1], rfl, ?_⟩
      rw [prodI_snoc, ep]
      show prodI cs * 1 * (v.2 / 1) = _
      rw [Int.mul_one, Int.ediv_one]
      exact e2
end Mw

namespace L2
open PySem PySem.Spec PyProof.Rows
/-! ### xs[::k], k above 0: some of the items -/
end L2
namespace Mw
/-! ### what the ways come to, guest by guest -/
def MI (order : List Int) (V : List (List Int × Int)) (g s : Int) : Int := (V.map fun w => if w.1[order.idxOf g]? = some s then w.2 else 0).sum
def oc (order ss : List Int) : Nat → Int
  | 0 => 0
  | j + 1 => oc order ss j + (if order[j]? = ss[j]? then 1 else 0)
def OI (order : List Int) (V : List (List Int × Int)) : Int := (V.map fun w => w.2 * oc order w.1 order.length).sum
theorem idx_at {order : List Int} {g : Int} (h : g ∈ order) : order[order.idxOf g]? = some g := by
  have hl : order.idxOf g < order.length := List.idxOf_lt_length_of_mem h
  rw [List.getElem?_eq_getElem hl, List.getElem_idxOf]
theorem idx_eq {order : List Int} (hN : order.Nodup) {j : Nat} {g : Int} (h : order[j]? = some g) : order.idxOf g = j :=
  L2.nd_ix hN (idx_at (List.mem_of_getElem? h)) h
theorem rg_get {m i : Nat} (h : i < m) : (rg m)[i]? = some (i : Int) := by
  unfold rg
  rw [List.getElem?_map, List.getElem?_range h]
  rfl
end Mw
namespace Ls
open PySem L2 Mw
end Ls



set_option Elab.async false
set_option linter.all false
set_option maxRecDepth 100000
namespace Ds
open PySem L2
def di (ns : List Int) : List Dv := ns.map Dv.int
@[simp] theorem di_length {ns : List Int} : (di ns).length = ns.length := List.length_map _
theorem di_get {ns : List Int} {i : Nat} : (di ns)[i]? = (ns[i]?).map Dv.int := List.getElem?_map
theorem di_mem {ns : List Int} {x : Dv} (h : x ∈ di ns) : ∃ i ∈ ns, x = Dv.int i := by
  obtain ⟨i, hi, e⟩ := List.mem_map.mp h
  exact ⟨i, hi, e.symm⟩
@[simp] theorem di_nil : di [] = [] := id rfl
theorem di_at {ns : List Int} {i : Nat} {x : Dv} (h : (di ns)[i]? = some x) : ∃ g, x = Dv.int g ∧ ns[i]? = some g := by
  rw [di_get] at h
  cases e : ns[i]? with
  | none => rw [e] at h; cases h
  | some g => rw [e] at h; cases h; exact ⟨g, rfl, rfl⟩
theorem di_take {a : List Int} {n : Nat} : (di a).take n = di (a.take n) := List.map_take.symm
section
variable {α β : Type} {a : α} {h h' : OH} {c : Str} {σ σ' : DSt} {k : α → OH → Res β} {k2 : α → OH → Flow} {k3 : DSt → OH → Flow} {d : Dv}
@[simp] theorem bindR_ok : bindR (.ok a h) k = k a h := id rfl
@[simp] theorem bindR_exc : bindR (.exc c h) k = .exc c h := id rfl
@[simp] theorem bindR_bad : bindR .bad k = .bad := id rfl
@[simp] theorem bindS_ok : bindS (.ok a h) k2 = k2 a h := id rfl
@[simp] theorem bindS_exc : bindS (α := α) (.exc c h) k2 = .exc c h := id rfl
@[simp] theorem bindS_bad : bindS (α := α) .bad k2 = .bad := id rfl
@[simp] theorem bindF_nx : bindF (.nx σ h) k3 = k3 σ h := id rfl
@[simp] theorem bindF_rt : bindF (.rt d h) k3 = .rt d h := id rfl
@[simp] theorem bindF_exc : bindF (.exc c h) k3 = .exc c h := id rfl
@[simp] theorem bindF_bk : bindF (.bk σ h) k3 = .bk σ h := id rfl
@[simp] theorem bindF_ct : bindF (.ct σ h) k3 = .ct σ h := id rfl
end
section
variable {σ : DSt} {h : OH} {a b e : ME} {c t u : MT} {x y : MS} {r : MA} {f g : F2} {i j k n : Nat} {d : Dv} {fa : FA} {fm : FM} {cf : Fn} {mo mp : MO} {mu : Bool} {gg : MG} {gs : MGs} {it : MI} {f1 : F1} {ds : List Dv}
@[simp] theorem mC_eq : mC d σ h = .ok d h := id rfl
@[simp] theorem mVar_eq : mVar i σ h = (match σ[i]? with | some (some d) => .ok d h | _ => .bad) := id rfl
@[simp] theorem mOp_eq : mOp f a b σ h = bindR (a σ h) fun x h => bindR (b σ h) fun y h => f x y h := id rfl
@[simp] theorem mUn_eq : mUn f1 a σ h = bindR (a σ h) fun x h => f1 x h := id rfl
@[simp] theorem mNil_eq : mNil σ h = .ok [] h := id rfl
@[simp] theorem mCons_eq : mCons a r σ h = bindR (a σ h) fun x h => bindR (r σ h) fun xs h => .ok (x :: xs) h := id rfl
@[simp] theorem mLits_eq {is : List Int} : mLits is σ h = .ok (di is) h := id rfl
@[simp] theorem mTest_eq : mTest a σ h = bindR (a σ h) fun x h => (match x with | .bl b => .ok b h | _ => .bad) := id rfl
@[simp] theorem mTru_eq : mTru a σ h = bindR (a σ h) fun x h => (match x with | .int i => .ok (i != 0) h | .bl b => .ok b h | _ => .bad) := id rfl
@[simp] theorem mAnd_eq : mAnd t u σ h = bindR (t σ h) fun c h => if c = true then u σ h else .ok false h := id rfl
@[simp] theorem mOr_eq : mOr t u σ h = bindR (t σ h) fun c h => if c = true then .ok true h else u σ h := id rfl
@[simp] theorem mNot_eq : mNot t σ h = bindR (t σ h) fun c h => .ok (!c) h := id rfl
@[simp] theorem mAndV_eq : mAndV a b σ h = bindR (a σ h) fun x h => (match x with | .bl true => b σ h | .bl false => .ok (.bl false) h | _ => .bad) := id rfl
@[simp] theorem mOrV_eq : mOrV a b σ h = bindR (a σ h) fun x h => (match x with | .bl true => .ok (.bl true) h | .bl false => b σ h | _ => .bad) := id rfl
@[simp] theorem mNotV_eq : mNotV a σ h = bindR (a σ h) fun x h => (match x with | .bl b => .ok (.bl (!b)) h | _ => .bad) := id rfl
@[simp] theorem mIfE_eq : mIfE t a b σ h = bindR (t σ h) fun x h => if x = true then a σ h else b σ h := id rfl
@[simp] theorem mChain_eq : mChain f g a b e σ h = bindR (a σ h) fun x h => bindR (b σ h) fun y h => bindR (f x y h) fun z h => (match z with | .bl true => bindR (e σ h) fun w h => g y w h | .bl false => .ok (.bl false) h | _ => .bad) := id rfl
@[simp] theorem mNext_eq : mNext σ h = .nx σ h := id rfl
@[simp] theorem mSeq_eq : mSeq x y σ h = bindF (x σ h) y := id rfl
@[simp] theorem mDrop_eq : mDrop a σ h = bindS (a σ h) fun _ h => .nx σ h := id rfl
@[simp] theorem mRet_eq : mRet a σ h = bindS (a σ h) fun d h => .rt d h := id rfl
@[simp] theorem mRetN_eq : mRetN σ h = .rt .non h := id rfl
@[simp] theorem mIf_eq : mIf t x y σ h = bindS (t σ h) fun z h => if z = true then x σ h else y σ h := id rfl
@[simp] theorem mRaise_eq {cc : Str} : mRaise cc σ h = .exc cc h := id rfl
@[simp] theorem mgN_eq : mgN i d σ h = .ok (σ.set i (some d)) h := id rfl
@[simp] theorem mgNil_eq : mgNil [] σ h = .ok σ h := id rfl
@[simp] theorem mgCons_eq : mgCons gg gs (d :: ds) σ h = bindR (gg d σ h) fun σ h => gs ds σ h := id rfl
@[simp] theorem mgTup_eq : mgTup n gs (.tup ds) σ h = if ds.length = n then gs ds σ h else .bad := id rfl
@[simp] theorem mAsg_eq : mAsg a gg σ h = bindS (a σ h) fun d h => bindS (gg d σ h) fun σ h => .nx σ h := id rfl
@[simp] theorem mSet_eq : mSet i a σ h = bindS (a σ h) fun d h => .nx (σ.set i (some d)) h := id rfl
@[simp] theorem mPar_eq : mPar i j r σ h = bindS (r σ h) fun ds h => (match ds with | [x, y] => .nx ((σ.set i (some x)).set j (some y)) h | _ => .bad) := id rfl
@[simp] theorem mPar3_eq : mPar3 i j k r σ h = bindS (r σ h) fun ds h => (match ds with | [x, y, z] => .nx (((σ.set i (some x)).set j (some y)).set k (some z)) h | _ => .bad) := id rfl
@[simp] theorem mAug_eq : mAug i a f σ h = (match σ[i]? with | some (some x) => bindS (a σ h) fun y h => bindS (f x y h) fun z h => .nx (σ.set i (some z)) h | _ => .bad) := id rfl
@[simp] theorem mTup_eq : mTup r σ h = bindR (r σ h) fun ds h => if ds.length ≤ 16777216 then .ok (.tup ds) h else .bad := id rfl
@[simp] theorem mLst_eq : mLst mu r σ h = bindR (r σ h) fun ds h => if ds.length ≤ 16777216 then mkL mu ds h else .bad := id rfl
@[simp] theorem mkL_t : mkL true ds h = .ok (.ref h.length) (h ++ [.lst ds]) := id rfl
@[simp] theorem mkL_f : mkL false ds h = .ok (.lst ds) h := id rfl
@[simp] theorem mCB_eq : mCB fa r σ h = bindR (r σ h) fun xs h => fa xs h := id rfl
@[simp] theorem mCall_eq : mCall n cf r σ h = bindR (r σ h) fun ds h => if ds.length = n then cf ds h else .bad := id rfl
@[simp] theorem mNoPart_eq : mNoPart σ h = .ok none h := id rfl
@[simp] theorem mPart_eq : mPart a σ h = bindR (a σ h) fun x h => (match x with | .int i => .ok (some i) h | _ => .bad) := id rfl
@[simp] theorem mSl_eq : mSl mu a mo mp σ h = bindR (a σ h) fun x h => bindR (mo σ h) fun l h => bindR (mp σ h) fun u h => (match getF h x with | some xs => mkL mu (cutD xs l u) h | none => .bad) := id rfl
@[simp] theorem mBM_eq : mBM fm a r σ h = bindR (a σ h) fun x h => (match getL h x with | some _ => bindR (r σ h) fun xs h => fm x xs h | none => .bad) := id rfl
@[simp] theorem mBM0_eq : mBM0 fm a σ h = bindR (a σ h) fun x h => (match getL h x with | some _ => fm x [] h | none => .bad) := id rfl
@[simp] theorem mgSub_eq : mgSub a b d σ h = bindR (a σ h) fun x h => bindR (b σ h) fun y h => (match refL h x, y with | some (j, xs), .int k => (match ixN xs.length k with | some n => .ok σ (h.set j (.lst (xs.set n d))) | none => .bad) | _, _ => .bad) := id rfl
@[simp] theorem mFrz_eq : mFrz i x σ h = (match σ[i]? with | some (some (.ref j)) => (match h[j]? with | some (.lst xs) => x (σ.set i (some (.lst xs))) (h.set j .dead) | _ => .bad) | _ => .bad) := id rfl
@[simp] theorem mItL_eq : mItL a σ h = bindR (a σ h) fun d h => (match getL h d with | some xs => .ok (itL d xs.length) h | none => .bad) := id rfl
@[simp] theorem mItT_eq : mItT a σ h = bindR (a σ h) fun d h => (match d with | .tup xs => .ok (itF xs true) h | _ => .bad) := id rfl
@[simp] theorem mItE_eq : mItE r σ h = bindR (r σ h) fun ds h => (match ds with | [d] => (match getL h d with | some xs => .ok (itE d xs.length) h | none => .bad) | _ => .bad) := id rfl
@[simp] theorem mItZ_eq : mItZ r σ h = bindR (r σ h) fun ds h => (match ds with | [d, e] => (match getL h d, getL h e with | some xs, some ys => if xs.length = ys.length then .ok (itZ d e xs.length) h else .bad | _, _ => .bad) | _ => .bad) := id rfl
@[simp] theorem mRg1_eq : mRg1 r σ h = bindR (r σ h) fun ds h => (match ds with | [.int j] => if bd j = true then .ok (itR 0 1 j.toNat) h else .bad | _ => .bad) := id rfl
@[simp] theorem mRg2_eq : mRg2 r σ h = bindR (r σ h) fun ds h => (match ds with | [.int i, .int j] => if (bd i && bd j) = true then .ok (itR i 1 (j - i).toNat) h else .bad | _ => .bad) := id rfl
@[simp] theorem mFor_eq : mFor it gg x σ h = bindS (it σ h) fun J h => forN J gg x J.n 0 σ h := id rfl
@[simp] theorem mLc_eq {vs : List Nat} : mLc it gg t e vs σ h = bindR (it σ h) fun J h => if J.lim = true then (bindR (compN J gg t e vs σ J.n 0 [] h) fun xs h => .ok (.lst xs) h) else .bad := id rfl
@[simp] theorem mYes_eq : mYes σ h = .ok true h := id rfl
end
section
variable {h : OH} {d : Dv} {i j : Int} {xs ys : List Dv} {ns : List Int} {neg : Bool} {mu : Bool}
@[simp] theorem fAdd_eq : fAdd (.int i) (.int j) h = .ok (.int (i + j)) h := id rfl
@[simp] theorem fSub_eq : fSub (.int i) (.int j) h = .ok (.int (i - j)) h := id rfl
@[simp] theorem fLt_eq : fLt (.int i) (.int j) h = .ok (.bl (decide (i < j))) h := id rfl
@[simp] theorem fLe_eq : fLe (.int i) (.int j) h = .ok (.bl (decide (i ≤ j))) h := id rfl
@[simp] theorem fGt_eq : fGt (.int i) (.int j) h = .ok (.bl (decide (j < i))) h := id rfl
@[simp] theorem fGe_eq : fGe (.int i) (.int j) h = .ok (.bl (decide (j ≤ i))) h := id rfl
@[simp] theorem fBand_eq : fBand (.int i) (.int j) h = .ok (.int (Builtin.bitAnd i j)) h := id rfl
@[simp] theorem fNeg_eq : fNeg (.int i) h = .ok (.int (-i)) h := id rfl
theorem fMul_eq : fMul (.int i) (.int j) h = if cMul i j = true then .ok (.int (i * j)) h else .bad := rfl
theorem fMul_r (h0 : -(2 ^ 64) < j) (h1 : j < 2 ^ 64) : fMul (.int i) (.int j) h = .ok (.int (i * j)) h := by
  rw [fMul_eq, if_pos]
  unfold cMul
  rw [decide_eq_true h0, decide_eq_true h1]
  simp
@[simp] theorem fIsN_eq : fIsN d .non h = .ok (.bl (isNon d)) h := id rfl
@[simp] theorem fNotN_eq : fNotN d .non h = .ok (.bl (!isNon d)) h := id rfl
@[simp] theorem isNon_non : isNon .non = true := id rfl
@[simp] theorem isNon_int : isNon (.int i) = false := id rfl
@[simp] theorem isNon_ref {n : Nat} : isNon (.ref n) = false := id rfl
@[simp] theorem fIsB_eq {a b : Bool} : fIsB (.bl a) (.bl b) h = .ok (.bl (a == b)) h := id rfl
@[simp] theorem fIsntB_eq {a b : Bool} : fIsntB (.bl a) (.bl b) h = .ok (.bl (a != b)) h := id rfl
@[simp] theorem getL_lst : getL h (.lst xs) = some xs := id rfl
@[simp] theorem getL_tup : getL h (.tup xs) = none := id rfl
@[simp] theorem getL_int : getL h (.int i) = none := id rfl
@[simp] theorem getL_non : getL h .non = none := id rfl
@[simp] theorem getS_tup : getS h (.tup xs) = some xs := id rfl
@[simp] theorem getS_lst : getS h (.lst xs) = some xs := id rfl
@[simp] theorem getS_ref {n : Nat} : getS h (.ref n) = getL h (.ref n) := id rfl
@[simp] theorem getF_lst : getF h (.lst xs) = some xs := id rfl
@[simp] theorem getF_frz : getF h (.frz xs) = some xs := id rfl
@[simp] theorem getF_ref {n : Nat} : getF h (.ref n) = getL h (.ref n) := id rfl
theorem getS_of_L (e : getL h d = some xs) : getS h d = some xs := by
  cases d with
  | tup => cases e
  | _ => exact e
theorem getL_at {n : Nat} (e : h[n]? = some (.lst xs)) : getL h (.ref n) = some xs := by
  show (match h[n]? with | some (.lst xs) => some xs | _ => none) = _
  rw [e]
@[simp] theorem intsOf_di : intsOf (di ns) = some ns := intsOf_map ns
@[simp] theorem blsOf_db {bs : List Bool} : blsOf (bs.map Dv.bl) = some bs := blsOf_map bs
theorem all_flat : (di ns).all flat = true := by
  rw [List.all_eq_true]
  intro x hx
  obtain ⟨i, _, rfl⟩ := di_mem hx
  rfl
theorem map_toV : (di ns).map toV = ns.map V.int := by
  unfold di
  rw [List.map_map]
  rfl
theorem fIn_di {neg : Bool} (e : getS h d = some (di ns)) : fIn neg (.int i) d h = .ok (.bl (if neg then !decide (i ∈ ns) else decide (i ∈ ns))) h := by
  unfold fIn
  rw [e]
  show (if (flat (.int i) && (di ns).all flat) = true then _ else _) = _
  rw [all_flat, if_pos (show (flat (.int i) && true) = true from rfl), map_toV]
  show Res.ok (Dv.bl (if neg then !inV (V.int i) (ns.map V.int) else inV (V.int i) (ns.map V.int))) h = _
  rw [inV_int]
theorem fLen_eq (e : getS h d = some xs) : fLen [d] h = .ok (.int xs.length) h := by
  show (match getS h d with | some xs => Res.ok (Dv.int xs.length) h | none => .bad) = _
  rw [e]
@[simp] theorem fMax_eq : fMax [.int i, .int j] h = .ok (.int (if j > i then j else i)) h := id rfl
@[simp] theorem fMin_eq : fMin [.int i, .int j] h = .ok (.int (if j < i then j else i)) h := id rfl
@[simp] theorem fInt_bl {b : Bool} : fInt [.bl b] h = .ok (.int (if b then 1 else 0)) h := id rfl
theorem atD_nat {n : Nat} {x : Dv} (e : xs[n]? = some x) : atI xs (n : Nat) = some x := by
  have hl := (List.getElem?_eq_some_iff.mp e).1
  unfold atI ixN
  rw [if_pos (by omega), if_pos (by omega)]
  show xs[(n : Int).toNat]? = _
  rw [Int.toNat_natCast]
  exact e
theorem fIxT_eq {x : Dv} (ea : atI xs i = some x) : fIxT (.tup xs) (.int i) h = .ok x h := by
  show (match atI xs i with | some d => Res.ok d h | none => .bad) = _
  rw [ea]
@[simp] theorem fIxT_0 {x : Dv} : fIxT (.tup (x :: xs)) (.int 0) h = .ok x h := by
  refine fIxT_eq ?_
  show atI (x :: xs) ((0 : Nat) : Int) = _
  exact atD_nat rfl
@[simp] theorem fIxT_1 {x y : Dv} : fIxT (.tup (x :: y :: xs)) (.int 1) h = .ok y h := by
  refine fIxT_eq ?_
  show atI (x :: y :: xs) ((1 : Nat) : Int) = _
  exact atD_nat rfl
end
/-! ### loops -/
def Stp (Iv : DSt → OH → Prop) (Po : Flow → Prop) : Flow → Prop
  | .nx σ h => Iv σ h
  | .ct σ h => Iv σ h
  | .bk σ h => Po (.nx σ h)
  | o => Po o
@[simp] theorem Stp_nx {Iv : DSt → OH → Prop} {Po : Flow → Prop} {σ : DSt} {h : OH} : Stp Iv Po (.nx σ h) = Iv σ h := id rfl
@[simp] theorem Stp_ct {Iv : DSt → OH → Prop} {Po : Flow → Prop} {σ : DSt} {h : OH} : Stp Iv Po (.ct σ h) = Iv σ h := id rfl
@[simp] theorem Stp_rt {Iv : DSt → OH → Prop} {Po : Flow → Prop} {d : Dv} {h : OH} : Stp Iv Po (.rt d h) = Po (.rt d h) := id rfl
@[simp] theorem Stp_exc {Iv : DSt → OH → Prop} {Po : Flow → Prop} {c : Str} {h : OH} : Stp Iv Po (.exc c h) = Po (.exc c h) := id rfl
theorem forN_gen (J : ItD) (g : MG) (b : MS) (xs : List Dv) (Po : Flow → Prop) (Iv : Nat → DSt → OH → Prop)
    (hat : ∀ i σ h, i < xs.length → Iv i σ h → J.at_ i h = xs[i]?) (hfin : ∀ σ h, Iv xs.length σ h → J.fin h = true)
    (hstep : ∀ i x σ h, xs[i]? = some x → Iv i σ h → ∃ σ1 h1, g x σ h = .ok σ1 h1 ∧ Stp (Iv (i + 1)) Po (b σ1 h1))
    (hend : ∀ σ h, Iv xs.length σ h → Po (.nx σ h)) : ∀ (k i : Nat) (σ : DSt) (h : OH), k + i = xs.length → Iv i σ h → Po (forN J g b k i σ h)
  | 0, i, σ, h, e, iv => by
    have e : i = xs.length := by omega
    subst e
    unfold forN
    rw [if_pos (hfin σ h iv)]
    exact hend σ h iv
  | k + 1, i, σ, h, e, iv => by
    have hi : i < xs.length := by omega
    unfold forN
    rw [hat i σ h hi iv, List.getElem?_eq_getElem hi]
    obtain ⟨σ1, h1, e1, q⟩ := hstep i xs[i] σ h (List.getElem?_eq_getElem hi) iv
    show Po (bindS (g xs[i] σ h) _)
    rw [e1, bindS_ok]
    cases eb : b σ1 h1 with
    | nx σ2 h2 => rw [eb] at q; exact forN_gen J g b xs Po Iv hat hfin hstep hend k (i + 1) σ2 h2 (by omega) q
    | ct σ2 h2 => rw [eb] at q; exact forN_gen J g b xs Po Iv hat hfin hstep hend k (i + 1) σ2 h2 (by omega) q
    | bk σ2 h2 => rw [eb] at q; exact q
    | rt d h2 => rw [eb] at q; exact q
    | exc c h2 => rw [eb] at q; exact q
    | bad => rw [eb] at q; exact q
theorem for_E {d : Dv} {xs : List Dv} {g : MG} {b : MS} (Po : Flow → Prop) (Iv : Nat → DSt → OH → Prop) {σ : DSt} {h : OH} (h0 : Iv 0 σ h) (hl : ∀ i σ h, i ≤ xs.length → Iv i σ h → getL h d = some xs)
    (hstep : ∀ (i : Nat) x σ h, xs[i]? = some x → Iv i σ h → ∃ σ1 h1, g (.tup [.int (i : Nat), x]) σ h = .ok σ1 h1 ∧ Stp (Iv (i + 1)) Po (b σ1 h1))
    (hend : ∀ σ h, Iv xs.length σ h → Po (.nx σ h)) : Po (forN (itE d xs.length) g b xs.length 0 σ h) := by
  have hn : ((List.range xs.length).zipWith (fun (i : Nat) x => Dv.tup [.int (i : Nat), x]) xs).length = xs.length := by simp
  have key := forN_gen (itE d xs.length) g b ((List.range xs.length).zipWith (fun (i : Nat) x => Dv.tup [.int (i : Nat), x]) xs) Po Iv (fun i σ h hi iv => ?_) (fun σ h iv => ?_) (fun i x σ h ex iv => ?_) (by rw [hn]; exact hend) xs.length 0 σ h (by rw [hn]; rfl) h0
  · exact key
  · rw [hn] at hi
    show ((itL d xs.length).at_ i h).map (fun x => Dv.tup [.int (i : Nat), x]) = _
    have : (itL d xs.length).at_ i h = xs[i]? := by
      show (match getL h d with | some ys => if ys.length = xs.length then ys[i]? else none | none => none) = _
      rw [hl i σ h (Nat.le_of_lt hi) iv]
      show (if xs.length = xs.length then xs[i]? else none) = _
      rw [if_pos rfl]
    rw [this, List.getElem?_zipWith, List.getElem?_eq_getElem hi, List.getElem?_range hi]
    rfl
  · show (match getL h d with | some ys => decide (ys.length = xs.length) | none => false) = true
    rw [hn] at iv
    rw [hl _ σ h (Nat.le_refl _) iv]
    exact decide_eq_true rfl
  · rw [List.getElem?_zipWith] at ex
    have hi : i < xs.length := by
      by_cases hi : i < xs.length
      · exact hi
      · rw [List.getElem?_eq_none (l := xs) (by omega)] at ex
        cases q : (List.range xs.length)[i]? <;> rw [q] at ex <;> cases ex
    rw [List.getElem?_eq_getElem hi, List.getElem?_range hi] at ex
    cases ex
    exact hstep i xs[i] σ h (List.getElem?_eq_getElem hi) iv
theorem for_R {lo c : Int} {n : Nat} {g : MG} {b : MS} (Po : Flow → Prop) (Iv : Nat → DSt → OH → Prop) {σ : DSt} {h : OH} (h0 : Iv 0 σ h)
    (hstep : ∀ (i : Nat) σ h, i < n → Iv i σ h → ∃ σ1 h1, g (.int (lo + (i : Nat) * c)) σ h = .ok σ1 h1 ∧ Stp (Iv (i + 1)) Po (b σ1 h1))
    (hend : ∀ σ h, Iv n σ h → Po (.nx σ h)) : Po (forN (itR lo c n) g b n 0 σ h) := by
  have hn : ((List.range n).map fun i : Nat => Dv.int (lo + (i : Nat) * c)).length = n := by simp
  have key := forN_gen (itR lo c n) g b ((List.range n).map fun i : Nat => Dv.int (lo + (i : Nat) * c)) Po Iv (fun i σ h hi iv => ?_) (fun σ h iv => rfl) (fun i x σ h ex iv => ?_) (by rw [hn]; exact hend) n 0 σ h (by rw [hn]; rfl) h0
  · exact key
  · rw [hn] at hi
    show (if i < n then some (Dv.int (lo + (i : Nat) * c)) else none) = _
    rw [if_pos hi, List.getElem?_map, List.getElem?_range hi]
    rfl
  · rw [List.getElem?_map] at ex
    have hi : i < n := by
      by_cases hi : i < n
      · exact hi
      · rw [List.getElem?_eq_none (by simpa using hi)] at ex; cases ex
    rw [List.getElem?_range hi] at ex
    cases ex
    exact hstep i σ h hi iv
/-! ### comprehensions: the items go through a function -/
theorem compN_gen (J : ItD) (g : MG) (tt : MT) (te : ME) (vs : List Nat) (σ : DSt) (xs : List Dv) (h : OH) (f : Dv → Option Dv) (hat : ∀ i, i < xs.length → J.at_ i h = xs[i]?) (hfin : J.fin h = true)
    (hstep : ∀ (i : Nat) x, xs[i]? = some x → ∃ σ2, g x (wipeD σ vs) h = .ok σ2 h ∧ ((f x = none ∧ tt σ2 h = .ok false h) ∨ ∃ y, f x = some y ∧ tt σ2 h = .ok true h ∧ te σ2 h = .ok y h)) :
    ∀ (k i : Nat) (acc : List Dv), k + i = xs.length → compN J g tt te vs σ k i acc h = .ok (acc ++ (xs.drop i).filterMap f) h
  | 0, i, acc, e => by
    have e : i = xs.length := by omega
    subst e
    unfold compN
    rw [if_pos hfin, List.drop_length]
    simp
  | k + 1, i, acc, e => by
    have hi : i < xs.length := by omega
    have ih := compN_gen J g tt te vs σ xs h f hat hfin hstep k (i + 1)
    unfold compN
    rw [hat i hi, List.getElem?_eq_getElem hi, List.drop_eq_getElem_cons hi, List.filterMap_cons]
    obtain ⟨σ2, e1, q⟩ := hstep i xs[i] (List.getElem?_eq_getElem hi)
    show (match g xs[i] (wipeD σ vs) h with | .ok σ2 h2 => _ | _ => _) = _
    rw [e1]
    rcases q with ⟨ef, et⟩ | ⟨y, ef, et, ee⟩
    · show (match tt σ2 h with | .ok true h3 => _ | .ok false h3 => _ | _ => _) = _
      rw [et, ef]
      exact ih acc (by omega)
    · show (match tt σ2 h with | .ok true h3 => _ | .ok false h3 => _ | _ => _) = _
      rw [et, ef]
      show (match te σ2 h with | .ok y h4 => _ | _ => _) = _
      rw [ee]
      show compN J g tt te vs σ k (i + 1) (acc ++ [y]) h = _
      rw [ih (acc ++ [y]) (by omega), List.append_assoc]
      rfl
end Ds

set_option Elab.async false
set_option linter.all false
set_option maxRecDepth 100000
namespace Ds
open PySem L2
/-! ### how a def ends -/
def fin : Flow → Res Dv
  | .nx _ h => .ok .non h
  | .rt d h => .ok d h
  | .exc c h => .exc c h
  | _ => .bad
theorem mDef_eq {k : Nat} {m : MS} {ds : List Dv} {h : OH} : mDef k m ds h = fin (m (ds.map some ++ List.replicate (k - ds.length) none) h) := by
  unfold mDef fin
  rfl
@[simp] theorem fin_nx {σ : DSt} {h : OH} : fin (.nx σ h) = .ok .non h := id rfl
@[simp] theorem fin_rt {d : Dv} {h : OH} : fin (.rt d h) = .ok d h := id rfl
@[simp] theorem fin_exc {c : Str} {h : OH} : fin (.exc c h) = .exc c h := id rfl
theorem for_E_s {Iv2 : DSt → OH → Prop} {Po2 : Flow → Prop} {k : DSt → OH → Flow} {d : Dv} {xs : List Dv} {g : MG} {b : MS} (Iv : Nat → DSt → OH → Prop) {σ : DSt} {h : OH} (h0 : Iv 0 σ h) (hl : ∀ i σ h, i ≤ xs.length → Iv i σ h → getL h d = some xs)
    (hstep : ∀ (i : Nat) x σ h, xs[i]? = some x → Iv i σ h → ∃ σ1 h1, g (.tup [.int (i : Nat), x]) σ h = .ok σ1 h1 ∧ Stp (Iv (i + 1)) (fun f => Stp Iv2 Po2 (bindF f k)) (b σ1 h1))
    (hend : ∀ σ h, Iv xs.length σ h → (fun f => Stp Iv2 Po2 (bindF f k)) (.nx σ h)) : Stp Iv2 Po2 (bindF (forN (itE d xs.length) g b xs.length 0 σ h) k) :=
  for_E (fun f => Stp Iv2 Po2 (bindF f k)) Iv h0 hl hstep hend
theorem for_R_o {k : DSt → OH → Flow} {d : Dv} {lo c : Int} {n : Nat} {g : MG} {b : MS} (Iv : Nat → DSt → OH → Prop) {σ : DSt} {h : OH} (h0 : Iv 0 σ h)
    (hstep : ∀ (i : Nat) σ h, i < n → Iv i σ h → ∃ σ1 h1, g (.int (lo + (i : Nat) * c)) σ h = .ok σ1 h1 ∧ Stp (Iv (i + 1)) (fun f => ∃ h', fin (bindF f k) = .ok d h') (b σ1 h1))
    (hend : ∀ σ h, Iv n σ h → (fun f => ∃ h', fin (bindF f k) = .ok d h') (.nx σ h)) : ∃ h', fin (bindF (forN (itR lo c n) g b n 0 σ h) k) = .ok d h' :=
  for_R (fun f => ∃ h', fin (bindF f k) = .ok d h') Iv h0 hstep hend
end Ds

set_option Elab.async false
set_option linter.all false
set_option maxRecDepth 100000
namespace Ds
open PySem L2
/-! ### numbers, lists of numbers -/
def rdy (h : OH) (d : Dv) : Bool := (tyD h d).isSome
def isNum : Dv → Bool
  | .int _ => true
  | _ => false
noncomputable def m_is_number : MS := (mRet (mAndV (mCB fIsi (mCons (mVar 0) (mCons (mC (.ty "int")) mNil))) (mNotV (mCB fIsi (mCons (mVar 0) (mCons (mC (.ty "bool")) mNil))))))
def c_is_number : Fn := fun ds h => match ds with
  | [d] => if rdy h d = true then .ok (.bl (isNum d)) h else .bad
  | _ => .bad
noncomputable def m_is_counted : MS := (mRet (mAndV (mCall 1 c_is_number (mCons (mVar 0) mNil)) (mChain fLe fLt (mC (.int 0)) (mVar 0) (mVar 1))))
def cnt (d : Dv) (m : Int) : Bool := match d with
  | .int i => decide (0 ≤ i) && decide (i < m)
  | _ => false
def c_is_counted : Fn := fun ds h => match ds with
  | [d, .int m] => if rdy h d = true then .ok (.bl (cnt d m)) h else .bad
  | _ => .bad
@[simp] theorem rdy_int {h : OH} {i : Int} : rdy h (.int i) = true := rfl
@[simp] theorem rdy_lst {h : OH} {xs : List Dv} : rdy h (.lst xs) = true := rfl
@[simp] theorem rdy_tup {h : OH} {xs : List Dv} : rdy h (.tup xs) = true := rfl
@[simp] theorem rdy_non {h : OH} : rdy h .non = true := rfl
theorem rdy_di {h : OH} {ns : List Int} : (di ns).all (rdy h) = true := by
  rw [List.all_eq_true]
  intro x hx
  obtain ⟨i, _, rfl⟩ := di_mem hx
  rfl
noncomputable def m_is_rising : MS := (mSeq (mIf (mNot (mTest (mCB fIsi (mCons (mVar 0) (mCons (mC (.ty "list")) mNil))))) (mRet (mC (.bl false))) mNext)
    (mSeq (mSet 2 (mC (.int 0)))
    (mSeq (mFor (mItL (mVar 0)) (mgN 3)
    (mSeq (mIf (mOr (mNot (mTest (mCall 2 c_is_counted (mCons (mVar 3) (mCons (mVar 1) mNil))))) (mTest (mOp fLt (mVar 3) (mVar 2)))) (mRet (mC (.bl false))) mNext)
    (mSet 2 (mOp fAdd (mVar 3) (mC (.int 1))))))
    (mRet (mC (.bl true))))))
def rising : List Dv → Int → Int → Bool
  | [], _, _ => true
  | d :: r, m, lo => match d with
    | .int i => if (0 ≤ i ∧ i < m) ∧ lo ≤ i then rising r m (i + 1) else false
    | _ => false
def c_is_rising : Fn := fun ds h => match ds with
  | [v, .int m] => if rdy h v = true then (match getL h v with
    | none => .ok (.bl false) h
    | some xs => if xs.all (rdy h) = true then .ok (.bl (rising xs m 0)) h else .bad) else .bad
  | _ => .bad
/-! ### == of ints -/
theorem fEq_of {h : OH} {x y : Dv} {d e : PyData} (hx : toD 9 h x = some d) (hy : toD 9 h y = some e) (sd : SeqAt.shaped d = true) (se : SeqAt.shaped e = true) : fEq x y h = .ok (.bl (PyData.eqv d e)) h := by
  unfold fEq
  rw [hx, hy]
  show (if (SeqAt.shaped d && SeqAt.shaped e) = true then _ else _) = _
  rw [sd, se, if_pos (show (true && true) = true from rfl)]
theorem fNe_of {h : OH} {x y : Dv} {d e : PyData} (hx : toD 9 h x = some d) (hy : toD 9 h y = some e) (sd : SeqAt.shaped d = true) (se : SeqAt.shaped e = true) : fNe x y h = .ok (.bl (!PyData.eqv d e)) h := by
  unfold fNe
  rw [hx, hy]
  show (if (SeqAt.shaped d && SeqAt.shaped e) = true then _ else _) = _
  rw [sd, se, if_pos (show (true && true) = true from rfl)]
theorem eqv_int (i j : Int) : PyData.eqv (.int i) (.int j) = decide (i = j) := by
  have := Ls.eqvAll_ints [i] [j]
  simp [PyData.eqvAll] at this
  simpa using this
@[simp] theorem fEq_int {h : OH} {i j : Int} : fEq (.int i) (.int j) h = .ok (.bl (decide (i = j))) h := by
  rw [fEq_of (d := .int i) (e := .int j) rfl rfl rfl rfl, eqv_int]
@[simp] theorem fNe_int {h : OH} {i j : Int} : fNe (.int i) (.int j) h = .ok (.bl (!decide (i = j))) h := by
  rw [fNe_of (d := .int i) (e := .int j) rfl rfl rfl rfl, eqv_int]
/-! ### each once -/
noncomputable def m_is_each_once : MS := (mSeq (mIf (mOr (mNot (mTest (mCB fIsi (mCons (mVar 0) (mCons (mC (.ty "list")) mNil))))) (mTest (mOp fNe (mCB fLen (mCons (mVar 0) mNil)) (mVar 1)))) (mRet (mC (.bl false))) mNext)
    (mSeq (mSet 2 (mOp (fRep true) (mLst false (mCons (mC (.bl false)) mNil)) (mVar 1)))
    (mSeq (mFor (mItL (mVar 0)) (mgN 3)
    (mSeq (mIf (mOr (mNot (mTest (mCall 2 c_is_counted (mCons (mVar 3) (mCons (mVar 1) mNil))))) (mTest (mOp fIxL (mVar 2) (mVar 3)))) (mRet (mC (.bl false))) mNext)
    (mAsg (mC (.bl true)) (mgSub (mVar 2) (mVar 3)))))
    (mRet (mC (.bl true))))))
def once : List Dv → Int → List Int → Bool
  | [], _, _ => true
  | d :: r, m, met => match d with
    | .int i => if (0 ≤ i ∧ i < m) ∧ ¬ i ∈ met then once r m (i :: met) else false
    | _ => false
def c_is_each_once : Fn := fun ds h => match ds with
  | [v, .int m] => if rdy h v = true then (match getL h v with
    | none => .ok (.bl false) h
    | some xs => if xs.length = m ∧ xs.length ≤ 16777216 then (if xs.all (rdy h) = true then .ok (.bl (once xs m [])) h else .bad) else if xs.length = m then .bad else .ok (.bl false) h) else .bad
  | _ => .bad
def Met (m : Nat) (fl : List Dv) (met : List Int) : Prop := fl.length = m ∧ ∀ i : Nat, i < m → fl[i]? = some (.bl (decide ((i : Int) ∈ met)))
theorem Met.start (m : Nat) : Met m (List.replicate m (.bl false)) [] := by
  refine ⟨List.length_replicate, fun i h => ?_⟩
  rw [List.getElem?_replicate, if_pos h]
  rfl
theorem Met.get {m : Nat} {fl : List Dv} {met : List Int} (M : Met m fl met) {j : Int} (h0 : 0 ≤ j) (h1 : j < m) : atI fl j = some (.bl (decide (j ∈ met))) := by
  obtain ⟨k, rfl⟩ : ∃ k : Nat, j = (k : Int) := ⟨j.toNat, by omega⟩
  exact atD_nat (M.2 k (by omega))
theorem Met.put {m : Nat} {fl : List Dv} {met : List Int} (M : Met m fl met) {j : Int} (h0 : 0 ≤ j) (h1 : j < m) : Met m (fl.set j.toNat (.bl true)) (j :: met) := by
  refine ⟨by rw [List.length_set]; exact M.1, fun i h => ?_⟩
  by_cases e : j.toNat = i
  · subst e
    rw [List.getElem?_set_self (by rw [M.1]; exact h), show ((j.toNat : Nat) : Int) = j by omega]
    simp
  · rw [List.getElem?_set_ne e, M.2 i h]
    have : ¬ (i : Int) = j := by omega
    simp [this]
theorem getL_old {h g : OH} {d : Dv} {xs : List Dv} (e : getL h d = some xs) : getL (h ++ g) d = some xs := by
  cases d with
  | lst => exact e
  | ref i =>
    have e : (match h[i]? with | some (.lst xs) => some xs | _ => none) = some xs := e
    split at e
    · rename_i ys ey
      cases e
      exact getL_at (by rw [List.getElem?_append_left (List.getElem?_eq_some_iff.mp ey).1]; exact ey)
    · cases e
  | _ => cases e
inductive IvO (h : OH) (v : Dv) (m : Int) (xs : List Dv) : Nat → DSt → OH → Prop
  | mk (i : Nat) (fl : List Dv) (met : List Int) (v3 : Option Dv) (M : Met xs.length fl met) (er : once xs m [] = once (xs.drop i) m met) : IvO h v m xs i [some v, some (.int m), some (.ref h.length), v3] (h ++ [.lst fl])
noncomputable def m_is_order : MS := (mSeq (mIf (mOr (mNot (mTest (mCB fIsi (mCons (mVar 0) (mCons (mC (.ty "list")) mNil))))) (mNot (mTest (mChain fLe fLe (mC (.int 1)) (mCB fLen (mCons (mVar 0) mNil)) (mC (.int 40)))))) (mRet (mC (.bl false))) mNext)
    (mRet (mCall 2 c_is_each_once (mCons (mVar 0) (mCons (mCB fLen (mCons (mVar 0) mNil)) mNil)))))
def isOrd (h : OH) (a : Dv) : Bool := match getL h a with
  | none => false
  | some xs => decide (1 ≤ xs.length ∧ xs.length ≤ 40) && once xs xs.length []
def rdyL (h : OH) (a : Dv) : Bool := rdy h a && (match getL h a with
  | some xs => xs.all (rdy h)
  | none => true)
def c_is_order : Fn := fun ds h => match ds with
  | [v] => if rdyL h v = true then .ok (.bl (isOrd h v)) h else .bad
  | _ => .bad
end Ds

set_option Elab.async false
set_option linter.all false
set_option maxRecDepth 100000
namespace Ds
open PySem L2
/-! ### nights -/
noncomputable def m_is_night : MS := (mSeq (mIf (mOr (mNot (mTest (mCB fIsi (mCons (mVar 0) (mCons (mC (.ty "tuple")) mNil))))) (mTest (mOp fNe (mCB fLen (mCons (mVar 0) mNil)) (mC (.int 2))))) (mRet (mC (.bl false))) mNext)
    (mSeq (mAsg (mVar 0) (mgTup 2 (mgCons (mgN 1) (mgCons (mgN 2) mgNil))))
    (mRet (mAndV (mCall 1 c_is_order (mCons (mVar 1) mNil)) (mCall 2 c_is_rising (mCons (mVar 2) (mCons (mCB fLen (mCons (mVar 1) mNil)) mNil)))))))
def isNightB (h : OH) (v : Dv) : Bool := match v with
  | .tup [a, b] => isOrd h a && (match getL h a, getL h b with
    | some xs, some ys => rising ys xs.length 0
    | _, _ => false)
  | _ => false
def rdyN (h : OH) (v : Dv) : Bool := match v with
  | .tup [a, b] => rdyL h a && rdyL h b
  | _ => rdy h v
def c_is_night : Fn := fun ds h => match ds with
  | [v] => if rdyN h v = true then .ok (.bl (isNightB h v)) h else .bad
  | _ => .bad
def isTup : Dv → Bool
  | .tup _ => true
  | _ => false
noncomputable def m_check_night : MS := (mIf (mNot (mTest (mCall 1 c_is_night (mCons (mVar 0) mNil)))) (mRaise "BadNight") mNext)
def c_check_night : Fn := fun ds h => match ds with
  | [v] => if rdyN h v = true then (if isNightB h v = true then .ok .non h else .exc "BadNight" h) else .bad
  | _ => .bad
noncomputable def m_check_guest_and_seat : MS := (mSeq (mIf (mNot (mTest (mCall 2 c_is_counted (mCons (mVar 0) (mCons (mVar 2) mNil))))) (mRaise "BadGuest") mNext)
    (mIf (mNot (mTest (mCall 2 c_is_counted (mCons (mVar 1) (mCons (mVar 2) mNil))))) (mRaise "BadSeat") mNext))
def c_check_guest_and_seat : Fn := fun ds h => match ds with
  | [g, s, .int m] => if (rdy h g && rdy h s) = true then (if cnt g m = true then (if cnt s m = true then .ok .non h else .exc "BadSeat" h) else .exc "BadGuest" h) else .bad
  | _ => .bad
noncomputable def m_check_seating : MS := (mIf (mNot (mTest (mCall 2 c_is_each_once (mCons (mVar 0) (mCons (mVar 1) mNil))))) (mRaise "BadSeating") mNext)
def isSeat (h : OH) (v : Dv) (m : Int) : Bool := match getL h v with
  | none => false
  | some xs => decide ((xs.length : Int) = m) && once xs m []
def c_check_seating : Fn := fun ds h => match ds with
  | [v, .int m] => if rdyL h v = true ∧ m ≤ 16777216 then (if isSeat h v m = true then .ok .non h else .exc "BadSeating" h) else .bad
  | _ => .bad
/-! ### of lists of ints -/
theorem rising_di (m : Int) : ∀ (ns : List Int) (lo : Int), rising (di ns) m lo = decide (ns.Pairwise (· < ·) ∧ ∀ x ∈ ns, (0 ≤ x ∧ x < m) ∧ lo ≤ x)
  | [], _ => by simp [rising]
  | n :: r, lo => by
    show (if (0 ≤ n ∧ n < m) ∧ lo ≤ n then rising (di r) m (n + 1) else false) = _
    rw [rising_di m r (n + 1)]
    rw [Bool.eq_iff_iff]
    by_cases h : (0 ≤ n ∧ n < m) ∧ lo ≤ n
    · rw [if_pos h]
      simp only [decide_eq_true_eq, List.pairwise_cons, List.forall_mem_cons]
      constructor
      · rintro ⟨h1, h2⟩
        exact ⟨⟨fun x hx => by have := (h2 x hx).2; omega, h1⟩, h, fun x hx => by have := h2 x hx; omega⟩
      · rintro ⟨⟨h1, h2⟩, h3, h4⟩
        exact ⟨h2, fun x hx => by have := h1 x hx; have := h4 x hx; omega⟩
    · rw [if_neg h]
      simp only [decide_eq_true_eq, List.pairwise_cons, List.forall_mem_cons]
      constructor
      · intro z; cases z
      · rintro ⟨_, h3, _⟩; exact absurd h3 h
theorem once_di (m : Int) : ∀ (ns met : List Int), once (di ns) m met = decide (ns.Nodup ∧ (∀ x ∈ ns, ¬ x ∈ met) ∧ ∀ x ∈ ns, 0 ≤ x ∧ x < m)
  | [], _ => by simp [once]
  | n :: r, met => by
    show (if (0 ≤ n ∧ n < m) ∧ ¬ n ∈ met then once (di r) m (n :: met) else false) = _
    rw [once_di m r (n :: met)]
    rw [Bool.eq_iff_iff]
    by_cases h : (0 ≤ n ∧ n < m) ∧ ¬ n ∈ met
    · rw [if_pos h]
      simp only [decide_eq_true_eq, List.nodup_cons, List.forall_mem_cons]
      simp only [List.mem_cons, not_or]
      constructor
      · rintro ⟨h1, h2, h3⟩
        exact ⟨⟨fun z => (h2 n z).1 rfl, h1⟩, ⟨h.2, fun x hx => (h2 x hx).2⟩, h.1, h3⟩
      · rintro ⟨⟨h1, h2⟩, ⟨_, h3⟩, _, h4⟩
        exact ⟨h2, fun x hx => ⟨fun e => h1 (e ▸ hx), h3 x hx⟩, h4⟩
    · rw [if_neg h]
      simp only [decide_eq_true_eq, List.nodup_cons, List.forall_mem_cons]
      constructor
      · intro z; cases z
      · rintro ⟨_, ⟨h2, _⟩, h3, _⟩; exact absurd ⟨h3, h2⟩ h
structure Ni (h : OH) (v : Dv) (order lost : List Int) : Prop where
  ex : ∃ a b, v = .tup [a, b] ∧ getL h a = some (di order) ∧ getL h b = some (di lost)
open Ls in
theorem Ni.rdy {h : OH} {v : Dv} {order lost : List Int} (N : Ni h v order lost) : rdyN h v = true := by
  obtain ⟨a, b, rfl, ea, eb⟩ := N.ex
  have rd : ∀ {d : Dv} {ns : List Int}, getL h d = some (di ns) → rdyL h d = true := fun {d ns} e => by
    unfold rdyL
    rw [e]
    show (Ds.rdy h d && (di ns).all (Ds.rdy h)) = true
    rw [rdy_di]
    cases d with
    | lst => rfl
    | ref i =>
      have e : (match h[i]? with | some (.lst xs) => some xs | _ => none) = some (di ns) := e
      show ((match h[i]? with | some (.lst _) => some "list" | _ => none).isSome && true) = true
      split at e
      · rename_i q; rfl
      · cases e
    | _ => cases e
  show (rdyL h a && rdyL h b) = true
  rw [rd ea, rd eb]
  rfl
open Ls in
theorem Ni.is {h : OH} {v : Dv} {order lost : List Int} (N : Ni h v order lost) (ok : NightOk 40 order lost) : isNightB h v = true := by
  obtain ⟨a, b, rfl, ea, eb⟩ := N.ex
  show (isOrd h a && (match getL h a, getL h b with | some xs, some ys => rising ys xs.length 0 | _, _ => false)) = true
  rw [ea, eb]
  unfold isOrd
  rw [ea]
  show ((decide (1 ≤ (di order).length ∧ (di order).length ≤ 40) && once (di order) (di order).length []) && rising (di lost) (di order).length 0) = true
  rw [di_length, once_di, rising_di]
  have l1 := ok.len1
  have l2 := ok.lenm
  simp only [Bool.and_eq_true, decide_eq_true_eq]
  exact ⟨⟨⟨l1, l2⟩, ok.nd, fun _ _ => by simp, ok.ins⟩, ok.lostS, fun x hx => ⟨ok.lostIn x hx, (ok.lostIn x hx).1⟩⟩
end Ds

set_option Elab.async false
set_option linter.all false
set_option maxRecDepth 100000
namespace Ds
open PySem L2 Mw Ls
/-! ### shares -/
def shD (r : Rat) : Dv := .tup [.int r.num, .int (r.den : Nat)]
def wgcd (σ : DSt) (_ : OH) : Nat := match σ[3]? with
  | some (some (Dv.int i)) => i.toNat + 1
  | _ => 0
noncomputable def m_lowest : MS := (mSeq (mPar 2 3 (mCons (mVar 1) (mCons (mVar 0) mNil)))
    (mSeq (mWhile wgcd (mTru (mVar 3)) (mPar 2 3 (mCons (mVar 3) (mCons (mOp fMod (mVar 2) (mVar 3)) mNil))))
    (mRet (mTup (mCons (mOp fDiv (mVar 0) (mVar 2)) (mCons (mOp fDiv (mVar 1) (mVar 2)) mNil))))))
noncomputable def m__law_part : MS := (mSeq (mPar 2 3 (mCons (mVar 0) (mCons (mVar 1) mNil)))
    (mSeq (mWhile wgcd (mTest (mOp fGt (mVar 3) (mC (.int 0)))) (mPar 2 3 (mCons (mVar 3) (mCons (mOp fMod (mVar 2) (mVar 3)) mNil))))
    (mRet (mTup (mCons (mOp fDiv (mVar 0) (mVar 2)) (mCons (mOp fDiv (mVar 1) (mVar 2)) mNil))))))
theorem shD_frac {x y : Int} (hy : 0 < y) : Dv.tup [.int (x / (y.gcd x : Nat)), .int (y / (y.gcd x : Nat))] = shD ((x : Rat) / (y : Rat)) := by
  unfold shD
  rw [frac_num hy, frac_den hy]
def c_lowest : Fn := fun ds h => match ds with
  | [.int x, .int y] => if 0 ≤ x ∧ 0 < y ∧ y < big1000 then .ok (shD ((x : Rat) / (y : Rat))) h else .bad
  | _ => .bad
def c__law_part : Fn := fun ds h => match ds with
  | [.int x, .int y] => if 0 ≤ x ∧ 0 < y ∧ y < big1000 then .ok (shD ((x : Rat) / (y : Rat))) h else .bad
  | _ => .bad
noncomputable def m_summed : MS := (mRet (mCall 2 c_lowest (mCons (mOp fAdd (mOp fMul (mOp fIxT (mVar 0) (mC (.int 0))) (mOp fIxT (mVar 1) (mC (.int 1)))) (mOp fMul (mOp fIxT (mVar 1) (mC (.int 0))) (mOp fIxT (mVar 0) (mC (.int 1))))) (mCons (mOp fMul (mOp fIxT (mVar 0) (mC (.int 1))) (mOp fIxT (mVar 1) (mC (.int 1)))) mNil))))
def c_summed : Fn := fun ds h => match ds with
  | [.tup [.int a, .int b], .tup [.int c, .int d]] => if (0 ≤ a ∧ 0 < b ∧ 0 ≤ c ∧ 0 < d) ∧ (c < 2 ^ 64 ∧ d < 2 ^ 64) ∧ b * d < big1000 then .ok (shD (((a * d + c * b : Int) : Rat) / ((b * d : Int) : Rat))) h else .bad
  | _ => .bad
theorem c_part {h : OH} {x y : Int} (hx : 0 ≤ x) (hy : 0 < y) (hb : y < big1000) : c__law_part [.int x, .int y] h = .ok (shD ((x : Rat) / (y : Rat))) h := if_pos ⟨hx, hy, hb⟩
/-! ### who can choose what -/
noncomputable def m_choosable : MS := (mSeq (mIf (mAnd (mTest (mOp (fIn false) (mVar 0) (mVar 2))) (mTest (mOp (fIn true) (mVar 0) (mVar 1)))) (mRet (mLst false (mCons (mVar 0) mNil))) mNext)
    (mRet (mCB (fList false) (mCons (mVar 2) mNil))))
def chos (g : Int) (lost free : List Int) : List Int := if g ∈ free ∧ ¬ g ∈ lost then [g] else free
def c_choosable : Fn := fun ds h => match ds with
  | [.int g, l, f] => (match getL h l, getL h f with
    | some ls, some fs => (match intsOf ls, intsOf fs with
      | some lost, some free => .ok (.lst (di (chos g lost free))) h
      | _, _ => .bad)
    | _, _ => .bad)
  | [.non, l, f] => (match getL h l, getL h f with
    | some _, some [] => .ok (.lst []) h
    | _, _ => .bad)
  | _ => .bad
end Ds

set_option Elab.async false
set_option linter.all false
set_option maxRecDepth 100000
namespace Ds
open PySem L2 Mw Ls
/-! ### two new things at the end of the heap -/
section
variable {h : OH} {a b x : Ob} {xs : List Dv}
end
/-! ### the walk -/
def goneT (order seats : List Int) (t : Nat) : List Int := (order.take t).map fun g => seats.getD g.toNat 0
structure Seat (order seats : List Int) : Prop where
  len : seats.length = order.length
  nd : seats.Nodup
  ins : ∀ x ∈ seats, 0 ≤ x ∧ x < (order.length : Int)
theorem seat_inj {order seats : List Int} (S : Seat order seats) {g g' : Int} (h0 : 0 ≤ g ∧ g < (order.length : Int)) (h1 : 0 ≤ g' ∧ g' < (order.length : Int)) (e : seats.getD g.toNat 0 = seats.getD g'.toNat 0) : g = g' := by
  have l := S.len
  have a1 : seats[g.toNat]? = some (seats.getD g.toNat 0) := by
    rw [List.getD_eq_getElem?_getD, List.getElem?_eq_getElem (by omega)]; rfl
  have a2 : seats[g'.toNat]? = some (seats.getD g.toNat 0) := by
    rw [e, List.getD_eq_getElem?_getD, List.getElem?_eq_getElem (by omega)]; rfl
  have := nd_ix S.nd a1 a2
  omega
noncomputable def m_walk : MS := (mSeq (mAsg (mVar 0) (mgTup 2 (mgCons (mgN 2) (mgCons (mgN 3) mgNil))))
    (mSeq (mSet 4 (mCB (fSorted true) (mCons (mVar 2) mNil)))
    (mSeq (mSet 5 (mLst true mNil))
    (mSeq (mFor (mItE (mCons (mVar 2) mNil)) (mgTup 2 (mgCons (mgN 6) (mgCons (mgN 7) mgNil)))
    (mSeq (mSet 8 (mCall 3 c_choosable (mCons (mVar 7) (mCons (mVar 3) (mCons (mVar 4) mNil)))))
    (mSeq (mIf (mTest (mOp (fIn true) (mOp fIxL (mVar 1) (mVar 7)) (mVar 8))) (mFrz 5 (mRet (mTup (mCons (mVar 5) (mCons (mVar 6) mNil))))) mNext)
    (mSeq (mDrop (mBM fAppend (mVar 5) (mCons (mCB fLen (mCons (mVar 8) mNil)) mNil)))
    (mDrop (mBM fRemove (mVar 4) (mCons (mOp fIxL (mVar 1) (mVar 7)) mNil)))))))
    (mFrz 5 (mRet (mTup (mCons (mVar 5) (mCons (mC .non) mNil)))))))))
def optD : Option Nat → Dv
  | none => .non
  | some t => .int (t : Nat)
open Classical in
noncomputable def c_walk : Fn := fun ds h => match ds with
  | [.tup [o, l], s] => (match getL h o, getL h l, getL h s with
    | some os, some ls, some ss => (match intsOf os, intsOf ls, intsOf ss with
      | some order, some lost, some seats => if order.length ≤ 40 ∧ order.Nodup ∧ (∀ x ∈ order, 0 ≤ x ∧ x < (order.length : Int)) ∧ Seat order seats then .ok (.tup [.lst (di (walkM order lost seats).1), optD (walkM order lost seats).2]) h else .bad
      | _, _, _ => .bad)
    | _, _, _ => .bad)
  | _ => .bad
inductive IvW (h : OH) (o l s : Dv) (order lost seats : List Int) : Nat → DSt → OH → Prop
  | mk (t : Nat) (acc : List Int) (v6 v7 v8 : Option Dv) (hl : acc.length = t) (hw : walkM order lost seats = wk order.length lost seats (order.drop t) t (goneT order seats t) acc) :
    IvW h o l s order lost seats t [some (.tup [o, l]), some s, some o, some l, some (.ref h.length), some (.ref (h.length + 1)), v6, v7, v8] (h ++ [.lst (di (opens order.length (goneT order seats t))), .lst (di acc)])
end Ds

set_option Elab.async false
set_option linter.all false
set_option maxRecDepth 100000
namespace Ds
open PySem PySem.Spec PyProof.Rows L2
variable {G : Gx} {E : XK}
/-! ### fields of an object -/
def putD (f : Str) (d : Dv) : List (Str × Dv) → List (Str × Dv)
  | [] => [(f, d)]
  | (g, x) :: r => if g = f then (g, d) :: r else (g, x) :: putD f d r
def insD (h : OH) : Dv → Option (Nat × Str × List (Str × Dv))
  | .ref i => match h[i]? with
    | some (.ins C fs) => some (i, C, fs)
    | _ => none
  | _ => none
def GF (G : Gx) (cs : List Str) (f : Str) : Prop := ∀ C ∈ cs, ∀ a, G.ca C = some a → Cls G.K a ∧ NoAttr G.K a f
def mFld (cs : List Str) (f : Str) (e : ME) : ME := fun σ h => bindR (e σ h) fun x h => match insD h x with
  | some (_, C, fs) => if C ∈ cs then (match fs.lookup f with
    | some d => .ok d h
    | none => .bad) else .bad
  | none => .bad
def mFldSet (cs : List Str) (f : Str) (o e : ME) : MS := fun σ h => bindS (e σ h) fun y h => bindS (o σ h) fun x h => match insD h x with
  | some (i, C, fs) => if C ∈ cs ∧ fs.length < 1000 then .nx σ (h.set i (.ins C (putD f y fs))) else .bad
  | none => .bad
def mFldAug (cs : List Str) (f : Str) (o e : ME) (g : F2) : MS := fun σ h => bindS (o σ h) fun x h => match insD h x with
  | some (i, C, fs) => if C ∈ cs then (match fs.lookup f with
    | some d => bindS (e σ h) fun y h => bindS (g d y h) fun z h => (match h[i]? with
      | some (.ins C' fs') => if C' = C ∧ fs'.length < 1000 then .nx σ (h.set i (.ins C (putD f z fs'))) else .bad
      | _ => .bad)
    | none => .bad) else .bad
  | none => .bad
/-! ### a new object, a method -/
def mMake (C : Str) (n : Nat) (c : Fn) (a : MA) : ME := fun σ h => bindR (a σ h) fun ds h => if ds.length + 1 = n then (bindR (c (.ref h.length :: ds) (h ++ [.ins C []])) fun d h2 => match d with
  | .non => .ok (.ref h.length) h2
  | _ => .bad) else .bad
def mMeth (C : Str) (n : Nat) (f : Str) (c : Fn) (o : ME) (a : MA) : ME := fun σ h => bindR (o σ h) fun x h => match insD h x with
  | some (_, C', fs) => if C' = C ∧ fs.lookup f = none then (bindR (a σ h) fun ds h => if ds.length + 1 = n then c (x :: ds) h else .bad) else .bad
  | none => .bad
def mEither (a b : ME) : ME := fun σ h => match a σ h with
  | .bad => b σ h
  | r => r
/-! ### isinstance(x, C), C of the text -/
section
variable {X : Cx}
def rIsiC (K : PySem.W.Frag) : List V → Hp → VK → Prop := fun xs H Q => ∃ x D t b, xs = [x, .ref D] ∧ TyOf K H x t ∧ PySem.W.kitOne K t (.ref D) = some b ∧ Q (.bl b) H
end
structure Kin (K : PySem.W.Frag) (a d : Addr) (b : Bool) : Prop where
  cl : Cls K a
  ha : PySem.W.findIn K (.ref a) "__class__" = some (some (.builtin "object.__class__"))
  hn : PySem.W.specialIn K (.builtin "object.__class__") "__get__" = some (some (.builtin "getset_descriptor.__get__"))
  htk : PySem.W.takesIn K (.builtin "object.__class__") = some true
  hm : PySem.W.mroIn K a (.type "object") = some true
  is : PySem.W.kitOne K (.ref a) (.ref d) = some b
def GI (G : Gx) (sub : Str → Str → Option Bool) : Prop := ∀ C D b a d, sub C D = some b → G.ca C = some a → G.ca D = some d → Kin G.K a d b
def fIsiC (sub : Str → Str → Option Bool) : FA := fun xs h => match xs with
  | [x, .fn D] => (match insD h x with
    | some (_, C, _) => (match sub C D with
      | some b => .ok (.bl b) h
      | none => .bad)
    | none => .bad)
  | _ => .bad
section
variable {σ : DSt} {h : OH} {a b e o : ME} {r : MA} {i n : Nat} {C f : Str} {cs : List Str} {c : Fn} {g : F2} {fs : List (Str × Dv)} {sub : Str → Str → Option Bool}
theorem insD_at (e : h[i]? = some (.ins C fs)) : insD h (.ref i) = some (i, C, fs) := by
  show (match h[i]? with | some (.ins C fs) => some (i, C, fs) | _ => none) = _
  rw [e]
end
end Ds

set_option Elab.async false
set_option linter.all false
set_option maxRecDepth 100000
namespace L2
open PySem PySem.Spec PyProof.Rows
section
variable {X : Cx}
/-! ### xs.count(y), flat items -/
def rCount (K : PySem.W.Frag) : V → List V → Hp → VK → Prop := fun x xs H Q => ∃ (a : Addr) (ys : List V) (y : V), x = V.ref a ∧ xs = [y] ∧ SqL K H a ys ∧ flatV y = true ∧ ys.all flatV = true ∧ Q (.int (ys.countP fun z => eqV z y : Nat)) H
end
end L2
namespace Ds
open PySem PySem.Spec PyProof.Rows L2
variable {G : Gx} {E : XK}
def fCount : FM := fun x ys h => match getL h x, ys with
  | some xs, [y] => if (flat y && xs.all flat) = true then .ok (.int (xs.countP fun z => eqV (toV z) (toV y) : Nat)) h else .bad
  | _, _ => .bad
end Ds

set_option Elab.async false
set_option linter.all false
set_option maxRecDepth 100000
namespace Ds
open PySem L2 Mw Ls
/-! ### the law's own draws -/
noncomputable def m__law_cell_at : MS := (mSeq (mIf (mTest (mOp fLt (mVar 1) (mCB fLen (mCons (mVar 0) mNil)))) (mRet (mOp fIxL (mVar 0) (mVar 1))) mNext)
    (mRet (mC (.int 0))))
def c__law_cell_at : Fn := fun ds h => match ds with
  | [s, .int k] => (match getL h s with
    | some xs => (match intsOf xs with
      | some ns => if 0 ≤ k then .ok (.int (ns.getD k.toNat 0)) h else .bad
      | none => .bad)
    | none => .bad)
  | _ => .bad
theorem c_cell {h : OH} {s : Dv} {ns : List Int} {k : Int} (e : getL h s = some (di ns)) (hk : 0 ≤ k) : c__law_cell_at [s, .int k] h = .ok (.int (ns.getD k.toNat 0)) h := by
  unfold c__law_cell_at
  simp only [e, intsOf_di, if_pos hk]
noncomputable def m__law_draw : MS := (mSeq (mSet 3 (mTup (mLits [1000003, 1000033, 1000037, 1000039, 1000081, 1000099, 1000117, 1000121, 1000133, 1000151, 1000159, 1000171, 1000183, 1000187, 1000193, 1000199])))
    (mRet (mOp fMod (mOp fMod (mOp fAdd (mOp fMul (mVar 0) (mC (.int 48271))) (mOp fMul (mVar 1) (mC (.int 69621)))) (mOp fIxT (mVar 3) (mOp fMod (mVar 1) (mC (.int 16))))) (mVar 2))))
def drawM (c k m : Int) : Int := (c * 48271 + k * 69621) % (primes.getD (k % 16).toNat 0) % m
def c__law_draw : Fn := fun ds h => match ds with
  | [.int c, .int k, .int m] => if 0 ≤ k ∧ 0 < m then .ok (.int (drawM c k m)) h else .bad
  | _ => .bad
noncomputable def m__law_value : MS := (mSeq (mIf (mTest (mOp fGe (mVar 0) (mOp fPow (mC (.int 10)) (mC (.int 18))))) (mRet (mOp fShr (mOp fMod (mOp fSub (mVar 0) (mOp fPow (mC (.int 10)) (mC (.int 18)))) (mOp fPow (mC (.int 10)) (mC (.int 40)))) (mOp fMul (mC (.int 3)) (mVar 1)))) mNext)
    (mSeq (mSet 2 (mOp fMod (mVar 0) (mOp fPow (mC (.int 10)) (mC (.int 18)))))
    (mSeq (mSet 3 (mCall 3 c__law_draw (mCons (mOp fMul (mOp fAdd (mVar 2) (mOp fMul (mC (.int 977)) (mVar 1))) (mOp fAdd (mOp fAdd (mVar 2) (mOp fMul (mC (.int 31)) (mVar 1))) (mC (.int 5)))) (mCons (mOp fAdd (mOp fMod (mVar 1) (mC (.int 9))) (mC (.int 1))) (mCons (mC (.int 999983)) mNil)))))
    (mRet (mOp fAdd (mOp fMul (mVar 3) (mC (.int 1000003))) (mCall 3 c__law_draw (mCons (mOp fAdd (mOp fMul (mOp fAdd (mVar 2) (mOp fMul (mC (.int 31)) (mVar 1))) (mOp fAdd (mVar 2) (mC (.int 7)))) (mOp fMul (mC (.int 977)) (mVar 1))) (mCons (mOp fAdd (mOp fMod (mVar 1) (mC (.int 7))) (mC (.int 2))) (mCons (mC (.int 1000003)) mNil)))))))))
def restM (c : Int) : Int := c % 10 ^ 18
def valM (c t : Int) : Int := if 10 ^ 18 ≤ c then (c - 10 ^ 18) % 10 ^ 40 / 2 ^ (3 * t).toNat else drawM ((restM c + 977 * t) * (restM c + 31 * t + 5)) (t % 9 + 1) 999983 * 1000003 + drawM ((restM c + 31 * t) * (restM c + 7) + 977 * t) (t % 7 + 2) 1000003
def c__law_value : Fn := fun ds h => match ds with
  | [.int c, .int t] => if 0 ≤ t ∧ t ≤ 1000 then .ok (.int (valM c t)) h else .bad
  | _ => .bad
theorem c_val {h : OH} {c t : Int} (h0 : 0 ≤ t) (h1 : t ≤ 1000) : c__law_value [.int c, .int t] h = .ok (.int (valM c t)) h := if_pos ⟨h0, h1⟩
noncomputable def m__law_whole : MS := (mRet (mAndV (mCB fIsi (mCons (mVar 0) (mCons (mC (.ty "int")) mNil))) (mNotV (mCB fIsi (mCons (mVar 0) (mCons (mC (.ty "bool")) mNil))))))
def c__law_whole : Fn := fun ds h => match ds with
  | [d] => if rdy h d = true then .ok (.bl (isNum d)) h else .bad
  | _ => .bad
noncomputable def m__law_says : MS := (mRet (mAndV (mCB fIsi (mCons (mVar 0) (mCons (mC (.ty "bool")) mNil))) (mOp fEq (mVar 0) (mVar 1))))
def c__law_says : Fn := fun ds h => match ds with
  | [.bl a, .bl b] => .ok (.bl (a == b)) h
  | _ => .bad
end Ds

set_option Elab.async false
set_option linter.all false
set_option maxRecDepth 100000
namespace Ds
open PySem L2 Mw Ls
noncomputable def m__law_night : MS := (mSeq (mPar3 3 4 5 (mCons (mCall 2 c__law_value (mCons (mCall 2 c__law_cell_at (mCons (mVar 0) (mCons (mVar 1) mNil))) (mCons (mC (.int 1)) mNil))) (mCons (mLst true mNil) (mCons (mLst true mNil) mNil))))
    (mSeq (mSet 6 (mOp fMod (mOp fDiv (mVar 3) (mC (.int 64))) (mC (.int 5))))
    (mSeq (mFor (mRg1 (mCons (mOp fAdd (mC (.int 1)) (mOp fMod (mOp fSub (mOp fAdd (mVar 3) (mVar 2)) (mC (.int 1))) (mVar 2))) mNil)) (mgN 7)
    (mSeq (mSet 8 (mOp fDiv (mCall 2 c__law_value (mCons (mOp fAdd (mCall 2 c__law_cell_at (mCons (mVar 0) (mCons (mOp fAdd (mVar 1) (mOp fMod (mVar 7) (mC (.int 4)))) mNil))) (mOp fMul (mC (.int 13)) (mVar 7))) (mCons (mC (.int 2)) mNil))) (mC (.int 3))))
    (mSeq (mDrop (mBM fInsert (mVar 4) (mCons (mOp fMod (mVar 8) (mOp fAdd (mVar 7) (mC (.int 1)))) (mCons (mVar 7) mNil))))
    (mIf (mTest (mOp fEq (mOp fMod (mOp fDiv (mVar 8) (mC (.int 64))) (mOp fIxT (mTup (mLits [2, 4, 99, 1, 2])) (mVar 6))) (mC (.int 0)))) (mDrop (mBM fAppend (mVar 5) (mCons (mVar 7) mNil))) mNext))))
    (mSeq (mIf (mTest (mOp fEq (mVar 6) (mC (.int 2)))) (mSet 5 (mCB (fSorted true) (mCons (mSl false (mVar 4) mNoPart (mPart (mOp fAdd (mC (.int 1)) (mOp fMod (mOp fDiv (mVar 3) (mC (.int 320))) (mC (.int 2)))))) mNil))) mNext)
    (mRet (mTup (mCons (mVar 4) (mCons (mVar 5) mNil))))))))
def numM (ns : List Int) (by_ : Int) (i : Nat) : Int := valM (ns.getD (by_ + (i : Int) % 4).toNat 0 + 13 * (i : Int)) 2 / 3
def kindsM : List Int := [2, 4, 99, 1, 2]
def nightGo (ns : List Int) (by_ kind : Int) : Nat → List Int × List Int
  | 0 => ([], [])
  | i + 1 => ((nightGo ns by_ kind i).1.take (numM ns by_ i % ((i : Int) + 1)).toNat ++ (i : Int) :: (nightGo ns by_ kind i).1.drop (numM ns by_ i % ((i : Int) + 1)).toNat,
      if numM ns by_ i / 64 % (kindsM.getD kind.toNat 0) = 0 then (nightGo ns by_ kind i).2 ++ [(i : Int)] else (nightGo ns by_ kind i).2)
theorem go_len (ns : List Int) (by_ kind : Int) : ∀ i, (nightGo ns by_ kind i).1.length = i ∧ (nightGo ns by_ kind i).2.length ≤ i
  | 0 => ⟨rfl, Nat.le_refl _⟩
  | i + 1 => by
    obtain ⟨h1, h2⟩ := go_len ns by_ kind i
    refine ⟨?_, ?_⟩
    · show (List.take _ _ ++ _ :: List.drop _ _).length = _
      rw [ins_len, h1]
    · show (if _ then _ else _ : List Int).length ≤ _
      split
      · rw [List.length_append, List.length_singleton]; omega
      · omega
theorem go_ok (ns : List Int) (by_ kind : Int) : ∀ i : Nat, (∀ x ∈ (nightGo ns by_ kind i).1, 0 ≤ x ∧ x < (i : Int)) ∧ (nightGo ns by_ kind i).1.Nodup ∧ (nightGo ns by_ kind i).2.Pairwise (· < ·) ∧ ∀ x ∈ (nightGo ns by_ kind i).2, 0 ≤ x ∧ x < (i : Int)
  | 0 => ⟨(fun _ h => nomatch h), List.nodup_nil, List.Pairwise.nil, (fun _ h => nomatch h)⟩
  | i + 1 => by
    obtain ⟨h1, h2, h3, h4⟩ := go_ok ns by_ kind i
    refine ⟨fun x hx => ?_, ?_, ?_, fun x hx => ?_⟩
    · rcases ins_mem.mp (show x ∈ List.take _ _ ++ (i : Int) :: List.drop _ _ from hx) with e | e
      · omega
      · have := h1 x e; omega
    · exact ins_nodup h2 fun m => by have := h1 _ m; omega
    · show (if _ then _ else _ : List Int).Pairwise _
      split
      · refine List.pairwise_append.mpr ⟨h3, List.pairwise_singleton _ _, fun x hx y hy => ?_⟩
        have e : y = (i : Int) := by simpa using hy
        have := (h4 x hx).2
        omega
      · exact h3
    · have hx : x ∈ (if numM ns by_ i / 64 % (kindsM.getD kind.toNat 0) = 0 then (nightGo ns by_ kind i).2 ++ [(i : Int)] else (nightGo ns by_ kind i).2) := hx
      split at hx
      · rcases List.mem_append.mp hx with e | e
        · have := h4 x e; omega
        · have e : x = (i : Int) := by simpa using e
          omega
      · have := h4 x hx; omega
def vhM (ns : List Int) (by_ : Int) : Int := valM (ns.getD by_.toNat 0) 1
def manyM (ns : List Int) (by_ most : Int) : Nat := (1 + (vhM ns by_ + most - 1) % most).toNat
def nightM (ns : List Int) (by_ most : Int) : List Int × List Int :=
  ((nightGo ns by_ (vhM ns by_ / 64 % 5) (manyM ns by_ most)).1,
   if vhM ns by_ / 64 % 5 = 2 then sortI ((nightGo ns by_ (vhM ns by_ / 64 % 5) (manyM ns by_ most)).1.take (1 + vhM ns by_ / 320 % 2).toNat) else (nightGo ns by_ (vhM ns by_ / 64 % 5) (manyM ns by_ most)).2)
theorem many_bd (ns : List Int) (by_ : Int) {most : Int} (hm : 1 ≤ most) : 1 ≤ manyM ns by_ most ∧ (manyM ns by_ most : Int) ≤ most ∧ ((manyM ns by_ most : Nat) : Int) = 1 + (vhM ns by_ + most - 1) % most := by
  unfold manyM
  have h0 : 0 ≤ (vhM ns by_ + most - 1) % most := Int.emod_nonneg _ (by omega)
  have h1 : (vhM ns by_ + most - 1) % most < most := Int.emod_lt_of_pos _ (by omega)
  omega
theorem night_ok (ns : List Int) (by_ : Int) {most : Nat} (hm : 1 ≤ most) : NightOk most (nightM ns by_ most).1 (nightM ns by_ most).2 := by
  obtain ⟨b1, b2, _⟩ := many_bd ns by_ (most := most) (by omega)
  have hl := go_len ns by_ (vhM ns by_ / 64 % 5) (manyM ns by_ most)
  obtain ⟨h1, h2, h3, h4⟩ := go_ok ns by_ (vhM ns by_ / 64 % 5) (manyM ns by_ most)
  have e1 : (nightM ns by_ most).1.length = manyM ns by_ most := hl.1
  refine ⟨by omega, by omega, by rw [e1]; exact h1, h2, ?_, ?_⟩
  · show (if _ then _ else _ : List Int).Pairwise _
    split
    · exact strict_of (sortI_sorted _) ((sortI_perm _).nodup_iff.mpr (h2.sublist (List.take_sublist _ _)))
    · exact h3
  · rw [e1]
    intro x hx
    have hx : x ∈ (if vhM ns by_ / 64 % 5 = 2 then sortI ((nightGo ns by_ (vhM ns by_ / 64 % 5) (manyM ns by_ most)).1.take (1 + vhM ns by_ / 320 % 2).toNat) else (nightGo ns by_ (vhM ns by_ / 64 % 5) (manyM ns by_ most)).2) := hx
    split at hx
    · exact h1 x (List.mem_of_mem_take ((sortI_perm _).mem_iff.mp hx))
    · exact h4 x hx
def c__law_night : Fn := fun ds h => match ds with
  | [s, .int b, .int m] => (match getL h s with
    | some xs => (match intsOf xs with
      | some ns => if 0 ≤ b ∧ 1 ≤ m ∧ m ≤ 40 then .ok (.tup [.lst (di (nightM ns b m).1), .lst (di (nightM ns b m).2)]) h else .bad
      | none => .bad)
    | none => .bad)
  | _ => .bad
theorem c_ngt {h : OH} {s : Dv} {ns : List Int} {b m : Int} (e : getL h s = some (di ns)) (hb : 0 ≤ b) (h1 : 1 ≤ m) (h2 : m ≤ 40) : c__law_night [s, .int b, .int m] h = .ok (.tup [.lst (di (nightM ns b m).1), .lst (di (nightM ns b m).2)]) h := by
  unfold c__law_night
  simp only [e, intsOf_di, if_pos (show 0 ≤ b ∧ 1 ≤ m ∧ m ≤ 40 from ⟨hb, h1, h2⟩)]
inductive IvN (h : OH) (s : Dv) (ns : List Int) (b m : Int) : Nat → DSt → OH → Prop
  | mk (i : Nat) (v7 v8 : Option Dv) : IvN h s ns b m i [some s, some (.int b), some (.int m), some (.int (vhM ns b)), some (.ref h.length), some (.ref (h.length + 1)), some (.int (vhM ns b / 64 % 5)), v7, v8]
    (h ++ [.lst (di (nightGo ns b (vhM ns b / 64 % 5) i).1), .lst (di (nightGo ns b (vhM ns b / 64 % 5) i).2)])
theorem cut_di (l : List Int) {i : Int} (h : 0 ≤ i) : cutD (di l) none (some i) = di (l.take i.toNat) := by
  unfold cutD
  have e1 : HT.sIx (di l).length 0 none = 0 := rfl
  have e2 : HT.sIx (di l).length (di l).length (some i) = min i.toNat l.length := by
    show (if i < 0 then (i + ((di l).length : Int)).toNat else min i.toNat (di l).length) = _
    rw [if_neg (by omega), di_length]
  rw [e1, e2]
  rw [List.drop_zero, Nat.sub_zero, di_take]
  congr 1
  rw [List.take_eq_take_iff]
  simp
end Ds

set_option Elab.async false
set_option linter.all false
set_option maxRecDepth 100000
namespace Ds
open PySem L2 Mw Ls
/-! ### a night copied: two new lists -/
noncomputable def m__law_copied : MS := (mRet (mTup (mCons (mCB (fList true) (mCons (mOp fIxT (mVar 0) (mC (.int 0))) mNil)) (mCons (mCB (fList true) (mCons (mOp fIxT (mVar 0) (mC (.int 1))) mNil)) mNil))))
def c__law_copied : Fn := fun ds h => match ds with
  | [.tup [a, b]] => (match getL h a, getL h b with
    | some xs, some ys => (match intsOf xs, intsOf ys with
      | some _, some _ => .ok (.tup [.ref h.length, .ref (h.length + 1)]) (h ++ [.lst xs, .lst ys])
      | _, _ => .bad)
    | _, _ => .bad)
  | _ => .bad
/-! ### the law's own choices -/
noncomputable def m__law_choices : MS := (mSeq (mAsg (mVar 0) (mgTup 2 (mgCons (mgN 2) (mgCons (mgN 3) mgNil))))
    (mSeq (mPar 4 5 (mCons (mLst true mNil) (mCons (mLst true mNil) mNil)))
    (mSeq (mFor (mItE (mCons (mVar 2) mNil)) (mgTup 2 (mgCons (mgN 6) (mgCons (mgN 7) mgNil)))
    (mSeq (mIf (mOr (mTest (mOp (fIn false) (mVar 7) (mVar 3))) (mTest (mOp (fIn false) (mVar 7) (mVar 4)))) (mDrop (mBM fAppend (mVar 5) (mCons (mOp fSub (mCB fLen (mCons (mVar 2) mNil)) (mVar 6)) mNil))) (mIf (mTest (mOp fNe (mOp fIxL (mVar 1) (mVar 7)) (mVar 7))) (mRet (mTup (mCons (mVar 5) (mCons (mVar 6) mNil)))) (mDrop (mBM fAppend (mVar 5) (mCons (mC (.int 1)) mNil)))))
    (mDrop (mBM fAppend (mVar 4) (mCons (mOp fIxL (mVar 1) (mVar 7)) mNil)))))
    (mRet (mTup (mCons (mVar 5) (mCons (mUn fNeg (mC (.int 1))) mNil)))))))
def retD (o : Option Nat) : Int := retI o
open Classical in
noncomputable def c__law_choices : Fn := fun ds h => match ds with
  | [.tup [o, l], s] => (match getL h o, getL h l, getL h s with
    | some os, some ls, some ss => (match intsOf os, intsOf ls, intsOf ss with
      | some order, some lost, some seats => if order.length ≤ 40 ∧ ∀ x ∈ order, 0 ≤ x ∧ x < (seats.length : Int) then .ok (.tup [.lst (di (walkM order lost seats).1), .int (retI (walkM order lost seats).2)]) h else .bad
      | _, _, _ => .bad)
    | _, _, _ => .bad)
  | _ => .bad
inductive IvC (h : OH) (o l s : Dv) (order lost seats : List Int) : Nat → DSt → OH → Prop
  | mk (t : Nat) (acc : List Int) (v5 v6 : Option Dv) (hl : acc.length = t) (hw : walkM order lost seats = wk order.length lost seats (order.drop t) t (goneT order seats t) acc) :
    IvC h o l s order lost seats t [some (.tup [o, l]), some s, some o, some l, some (.ref h.length), some (.ref (h.length + 1)), v5, v6] (h ++ [.lst (di (goneT order seats t)), .lst (di acc)])
end Ds

set_option Elab.async false
set_option linter.all false
set_option maxRecDepth 100000
namespace Ds
open PySem L2 Mw Ls
/-! ### the law's own seating -/
noncomputable def m__law_seating : MS := (mSeq (mAsg (mVar 2) (mgTup 2 (mgCons (mgN 3) (mgCons (mgN 4) mgNil))))
    (mSeq (mPar3 5 6 7 (mCons (mCall 2 c__law_value (mCons (mCall 2 c__law_cell_at (mCons (mVar 0) (mCons (mVar 1) mNil))) (mCons (mC (.int 5)) mNil))) (mCons (mCB (fListRg true) (mCons (mCB fRg1 (mCons (mCB fLen (mCons (mVar 3) mNil)) mNil)) mNil)) (mCons (mOp (fRep true) (mLst false (mCons (mC (.int 0)) mNil)) (mCB fLen (mCons (mVar 3) mNil))) mNil))))
    (mSeq (mFor (mItE (mCons (mVar 3) mNil)) (mgTup 2 (mgCons (mgN 8) (mgCons (mgN 9) mgNil)))
    (mSeq (mSet 10 (mOp fDiv (mCall 2 c__law_value (mCons (mOp fAdd (mCall 2 c__law_cell_at (mCons (mVar 0) (mCons (mOp fAdd (mVar 1) (mOp fMod (mVar 8) (mC (.int 4)))) mNil))) (mOp fMul (mC (.int 7)) (mVar 8))) (mCons (mC (.int 4)) mNil))) (mC (.int 3))))
    (mSeq (mSet 11 (mOp fIxL (mVar 6) (mOp fMod (mVar 10) (mCB fLen (mCons (mVar 6) mNil)))))
    (mSeq (mIf (mAnd (mTest (mOp (fIn true) (mVar 9) (mVar 4))) (mAnd (mTest (mOp (fIn false) (mVar 9) (mVar 6))) (mTest (mOp fNe (mOp fMod (mVar 5) (mC (.int 3))) (mC (.int 2)))))) (mSet 11 (mVar 9)) mNext)
    (mSeq (mDrop (mBM fRemove (mVar 6) (mCons (mVar 11) mNil)))
    (mAsg (mVar 11) (mgSub (mVar 7) (mVar 9))))))))
    (mSeq (mIf (mTest (mOp fEq (mOp fMod (mVar 5) (mC (.int 3))) (mC (.int 1)))) (mSeq (mPar 12 13 (mCons (mOp fMod (mOp fDiv (mVar 5) (mC (.int 3))) (mCB fLen (mCons (mVar 3) mNil))) (mCons (mOp fMod (mOp fDiv (mVar 5) (mC (.int 200))) (mCB fLen (mCons (mVar 3) mNil))) mNil)))
    (mSeq (mPar 14 15 (mCons (mOp fIxL (mVar 7) (mVar 12)) (mCons (mOp fIxL (mVar 7) (mVar 13)) mNil)))
    (mAsg (mTup (mCons (mVar 15) (mCons (mVar 14) mNil))) (mgTup 2 (mgCons (mgSub (mVar 7) (mVar 12)) (mgCons (mgSub (mVar 7) (mVar 13)) mgNil)))))) mNext)
    (mRet (mVar 7))))))
def numS (ns : List Int) (b : Int) (t : Nat) : Int := valM (ns.getD (b + (t : Int) % 4).toNat 0 + 7 * (t : Int)) 4 / 3
def pickS (ns : List Int) (b v : Int) (lost : List Int) (t : Nat) (g : Int) (free : List Int) : Int := if ¬ g ∈ lost ∧ g ∈ free ∧ ¬ v % 3 = 2 then g else free.getD (numS ns b t % (free.length : Int)).toNat 0
def sGo (ns : List Int) (b v : Int) (order lost : List Int) : Nat → List Int × List Int
  | 0 => (rg order.length, List.replicate order.length 0)
  | t + 1 => ((sGo ns b v order lost t).1.erase (pickS ns b v lost t (order.getD t 0) (sGo ns b v order lost t).1), (sGo ns b v order lost t).2.set (order.getD t 0).toNat (pickS ns b v lost t (order.getD t 0) (sGo ns b v order lost t).1))
structure SInv (order : List Int) (t : Nat) (free found : List Int) : Prop where
  fl : free.length = order.length - t
  fn : free.Nodup
  fi : ∀ x ∈ free, 0 ≤ x ∧ x < (order.length : Int)
  ol : found.length = order.length
  a : ∀ g ∈ order.take t, (0 ≤ found.getD g.toNat 0 ∧ found.getD g.toNat 0 < (order.length : Int)) ∧ ¬ found.getD g.toNat 0 ∈ free
  b : ∀ g ∈ order.take t, ∀ g' ∈ order.take t, found.getD g.toNat 0 = found.getD g'.toNat 0 → g = g'
theorem getD_set {l : List Int} {i j : Nat} {z : Int} (h : i < l.length) : (l.set i z).getD j 0 = if i = j then z else l.getD j 0 := by
  rw [List.getD_eq_getElem?_getD, List.getElem?_set, if_pos h]
  split
  · rfl
  · rw [List.getD_eq_getElem?_getD]
theorem SInv.step {order : List Int} {t : Nat} {free found : List Int} (I : SInv order t free found) (nd : order.Nodup) (ins : ∀ x ∈ order, 0 ≤ x ∧ x < (order.length : Int)) {g s : Int} (hg : order[t]? = some g) (hs : s ∈ free) : SInv order (t + 1) (free.erase s) (found.set g.toNat s) := by
  have ht := (List.getElem?_eq_some_iff.mp hg).1
  have hgi := ins g (List.mem_of_getElem? hg)
  have hgl : g.toNat < found.length := by rw [I.ol]; omega
  have tk : ∀ x, x ∈ order.take (t + 1) ↔ x ∈ order.take t ∨ x = g := fun x => by
    rw [List.take_succ_eq_append_getElem ht, (List.getElem?_eq_some_iff.mp hg).2, List.mem_append, List.mem_singleton]
  have new : ¬ g ∈ order.take t := fun hm => by
    obtain ⟨j, hj, ej⟩ := List.getElem_of_mem hm
    rw [List.getElem_take] at ej
    have hj2 : j < t := by rw [List.length_take] at hj; omega
    have := nd_ix nd (List.getElem?_eq_some_iff.mpr ⟨by omega, ej⟩) hg
    omega
  have old : ∀ x ∈ order.take t, (found.set g.toNat s).getD x.toNat 0 = found.getD x.toNat 0 := fun x hx => by
    rw [getD_set hgl, if_neg]
    intro e
    have hxi := ins x (List.mem_of_mem_take hx)
    exact new (by rw [show g = x by omega]; exact hx)
  have now : (found.set g.toNat s).getD g.toNat 0 = s := by rw [getD_set hgl, if_pos rfl]
  refine ⟨?_, I.fn.erase s, fun x hx => I.fi x (List.mem_of_mem_erase hx), by rw [List.length_set]; exact I.ol, fun x hx => ?_, fun x hx y hy e => ?_⟩
  · rw [List.length_erase_of_mem hs, I.fl]; omega
  · rcases (tk x).mp hx with h | rfl
    · rw [old x h]
      exact ⟨(I.a x h).1, fun z => (I.a x h).2 (List.mem_of_mem_erase z)⟩
    · rw [now]
      exact ⟨I.fi s hs, fun z => (List.Nodup.mem_erase_iff I.fn).mp z |>.1 rfl⟩
  · rcases (tk x).mp hx with h1 | rfl
    · rcases (tk y).mp hy with h2 | rfl
      · rw [old x h1, old y h2] at e
        exact I.b x h1 y h2 e
      · rw [old x h1, now] at e
        exact absurd (e ▸ hs) (I.a x h1).2
    · rcases (tk y).mp hy with h2 | rfl
      · rw [now, old y h2] at e
        exact absurd (e ▸ hs) (I.a y h2).2
      · rfl
theorem SInv.seat {order free found : List Int} (I : SInv order order.length free found) (nd : order.Nodup) (ins : ∀ x ∈ order, 0 ≤ x ∧ x < (order.length : Int)) : Seat order found := by
  have al : ∀ i : Nat, i < found.length → (i : Int) ∈ order.take order.length := fun i hi => by
    rw [List.take_length]
    exact full nd ins (by omega) (by rw [← I.ol]; omega)
  refine ⟨I.ol, ?_, fun x hx => ?_⟩
  · refine List.pairwise_iff_getElem.mpr fun i j hi hj hij e => ?_
    have := I.b _ (al i hi) _ (al j hj) (by
      rw [List.getD_eq_getElem?_getD, List.getD_eq_getElem?_getD, Int.toNat_natCast, Int.toNat_natCast, List.getElem?_eq_getElem hi, List.getElem?_eq_getElem hj, e])
    omega
  · obtain ⟨i, hi, rfl⟩ := List.getElem_of_mem hx
    have := (I.a _ (al i hi)).1
    rw [List.getD_eq_getElem?_getD, Int.toNat_natCast, List.getElem?_eq_getElem hi] at this
    exact this
def vsM (ns : List Int) (b : Int) : Int := valM (ns.getD b.toNat 0) 5
def seatM (ns : List Int) (b : Int) (order lost : List Int) : List Int :=
  if vsM ns b % 3 = 1 then (((sGo ns b (vsM ns b) order lost order.length).2.set (vsM ns b / 3 % (order.length : Int)).toNat ((sGo ns b (vsM ns b) order lost order.length).2.getD (vsM ns b / 200 % (order.length : Int)).toNat 0)).set (vsM ns b / 200 % (order.length : Int)).toNat ((sGo ns b (vsM ns b) order lost order.length).2.getD (vsM ns b / 3 % (order.length : Int)).toNat 0))
  else (sGo ns b (vsM ns b) order lost order.length).2
open Classical in
noncomputable def c__law_seating : Fn := fun ds h => match ds with
  | [s, .int b, .tup [o, l]] => (match getL h s, getL h o, getL h l with
    | some ss, some os, some ls => (match intsOf ss, intsOf os, intsOf ls with
      | some ns, some order, some lost => if 0 ≤ b ∧ NightOk 40 order lost then .ok (.lst (di (seatM ns b order lost))) h else .bad
      | _, _, _ => .bad)
    | _, _, _ => .bad)
  | _ => .bad
inductive IvS (h : OH) (s o l : Dv) (ns order lost : List Int) (b : Int) : Nat → DSt → OH → Prop
  | mk (t : Nat) (v8 v9 v10 v11 v12 v13 v14 v15 : Option Dv) : IvS h s o l ns order lost b t
    [some s, some (.int b), some (.tup [o, l]), some o, some l, some (.int (vsM ns b)), some (.ref h.length), some (.ref (h.length + 1)), v8, v9, v10, v11, v12, v13, v14, v15]
    (h ++ [.lst (di (sGo ns b (vsM ns b) order lost t).1), .lst (di (sGo ns b (vsM ns b) order lost t).2)])
theorem fListRg_eq {h : OH} {mu : Bool} {a b c : Int} (h1 : Builtin.Range.small a b c = true) (h2 : 0 ≤ Builtin.Range.rangeSize a b c) (h3 : Builtin.Range.rangeSize a b c ≤ 16777216) : fListRg mu [.rng a b c] h = mkL mu (di (rgInts a c (Builtin.Range.rangeSize a b c).toNat)) h := by
  unfold fListRg on1
  simp only
  rw [if_pos ⟨h1, h2, h3⟩]
  rfl
theorem listRg {h : OH} {mu : Bool} {m : Nat} (hm : m ≤ 1000) : fListRg mu [.rng 0 (m : Nat) 1] h = mkL mu (di (rg m)) h := by
  have e1 : Builtin.Range.rangeSize 0 (m : Nat) 1 = ((m : Nat) : Int) := by
    rw [rangeSize_one]
    split <;> omega
  have e2 : Builtin.Range.small 0 (m : Nat) 1 = true := small_one (by omega) (by omega) (by omega) (by omega)
  rw [fListRg_eq e2 (by rw [e1]; omega) (by rw [e1]; omega), e1, Int.toNat_natCast, rg_iv]
  rfl
end Ds

set_option Elab.async false
set_option linter.all false
set_option maxRecDepth 100000
namespace Ds
open PySem L2 Mw Ls
/-! ### nights as they are read -/
def nightD (h : OH) (v : Dv) : Option (List Int × List Int) := match v with
  | .tup [a, b] => (match getL h a, getL h b with
    | some xs, some ys => (match intsOf xs, intsOf ys with
      | some o, some l => if isNightB h v = true then some (o, l) else none
      | _, _ => none)
    | _, _ => none)
  | _ => none
theorem Ni.d {h : OH} {v : Dv} {order lost : List Int} (N : Ni h v order lost) (ok : NightOk 40 order lost) : nightD h v = some (order, lost) := by
  have i := N.is ok
  obtain ⟨a, b, rfl, ea, eb⟩ := N.ex
  unfold nightD
  simp only [ea, eb, intsOf_di, i, if_true]
def seatD (h : OH) (v : Dv) (m : Nat) : Option (List Int) := match getL h v with
  | some xs => (match intsOf xs with
    | some ns => if isSeat h v (m : Nat) = true then some ns else none
    | none => none)
  | none => none
theorem Seat.d {h : OH} {v : Dv} {order seats : List Int} (ev : getL h v = some (di seats)) (S : Seat order seats) : seatD h v order.length = some seats ∧ isSeat h v (order.length : Nat) = true := by
  have is : isSeat h v (order.length : Nat) = true := by
    unfold isSeat
    rw [ev]
    show (decide (((di seats).length : Int) = (order.length : Nat)) && once (di seats) (order.length : Nat) []) = true
    rw [once_di, di_length, S.len]
    simp only [Bool.and_eq_true, decide_eq_true_eq]
    exact ⟨trivial, S.nd, fun _ _ => by simp, S.ins⟩
  refine ⟨?_, is⟩
  unfold seatD
  simp only [ev, intsOf_di, is, if_true]
/-! ### a seating's share -/
noncomputable def m_seating : MS := (mSeq (mDrop (mCall 1 c_check_night (mCons (mVar 0) mNil)))
    (mSeq (mDrop (mCall 2 c_check_seating (mCons (mVar 1) (mCons (mCB fLen (mCons (mOp fIxT (mVar 0) (mC (.int 0))) mNil)) mNil))))
    (mSeq (mAsg (mCall 2 c_walk (mCons (mVar 0) (mCons (mVar 1) mNil))) (mgTup 2 (mgCons (mgN 2) (mgCons (mgN 3) mgNil))))
    (mSeq (mIf (mTest (mOp fNotN (mVar 3) (mC .non))) (mRet (mTup (mCons (mC (.int 0)) (mCons (mC (.int 1)) mNil)))) mNext)
    (mSeq (mSet 4 (mC (.int 1)))
    (mSeq (mFor (mItL (mVar 2)) (mgN 5)
    (mAug 4 (mVar 5) fMul))
    (mRet (mTup (mCons (mC (.int 1)) (mCons (mVar 4) mNil))))))))))
def c_seating : Fn := fun ds h => match ds with
  | [n, s] => (match nightD h n with
    | none => if rdyN h n = true then .exc "BadNight" h else .bad
    | some (order, lost) => (match seatD h s order.length with
      | none => if rdyL h s = true then .exc "BadSeating" h else .bad
      | some seats => .ok (shD (seatR order lost seats)) h))
  | _ => .bad
theorem Ni.tup {h : OH} {v : Dv} {order lost : List Int} (N : Ni h v order lost) : ∃ o l, v = .tup [o, l] ∧ getL h o = some (di order) ∧ getL h l = some (di lost) := N.ex
theorem shD_oneI {p : Int} (h : 0 < p) : shD (1 / (p : Rat)) = .tup [.int 1, .int p] := by
  have := shD_frac (x := 1) (y := p) h
  rw [Int.gcd_one_right] at this
  rw [show ((1 : Int) : Rat) = 1 from rfl] at this
  rw [← this]
  simp
theorem shD_zero : shD 0 = .tup [.int 0, .int 1] := rfl
inductive IvP (n s : Dv) (cs : List Int) (h : OH) : Nat → DSt → OH → Prop
  | mk (i : Nat) (v5 : Option Dv) : IvP n s cs h i [some n, some s, some (.lst (di cs)), some .non, some (.int (prodI (cs.take i))), v5] h
theorem c_sea {h : OH} {n s : Dv} {order lost seats : List Int} (N : Ni h n order lost) (ok : NightOk 40 order lost) (es : getL h s = some (di seats)) (S : Seat order seats) : c_seating [n, s] h = .ok (shD (seatR order lost seats)) h := by
  unfold c_seating
  simp only [N.d ok, (Seat.d es S).1]
/-! ### lists of numbers -/
noncomputable def m_is_numbers : MS := (mRet (mAndV (mCB fIsi (mCons (mVar 0) (mCons (mC (.ty "list")) mNil))) (mCB fAll (mCons (mLc (mItL (mVar 0)) (mgN 1) mYes (mCall 1 c_is_number (mCons (mVar 1) mNil)) [1]) mNil))))
def c_is_numbers : Fn := fun ds h => match ds with
  | [d] => if rdyL h d = true then (match getL h d with
    | none => .ok (.bl false) h
    | some xs => .ok (.bl (xs.all isNum)) h) else .bad
  | _ => .bad
theorem comp_L {d : Dv} {xs : List Dv} {h : OH} {σ : DSt} {g : MG} {tt : MT} {te : ME} {vs : List Nat} (f : Dv → Option Dv) (e : getL h d = some xs)
    (hstep : ∀ (i : Nat) x, xs[i]? = some x → ∃ σ2, g x (wipeD σ vs) h = .ok σ2 h ∧ ((f x = none ∧ tt σ2 h = .ok false h) ∨ ∃ y, f x = some y ∧ tt σ2 h = .ok true h ∧ te σ2 h = .ok y h)) :
    compN (itL d xs.length) g tt te vs σ xs.length 0 [] h = .ok (xs.filterMap f) h := by
  have := compN_gen (itL d xs.length) g tt te vs σ xs h f (fun i hi => ?_) ?_ hstep xs.length 0 [] rfl
  · simpa using this
  · show (match getL h d with | some ys => if ys.length = xs.length then ys[i]? else none | none => none) = _
    rw [e]
    show (if xs.length = xs.length then xs[i]? else none) = _
    rw [if_pos rfl]
  · show (match getL h d with | some ys => decide (ys.length = xs.length) | none => false) = true
    rw [e]
    exact decide_eq_true rfl
theorem filterMap_map {α β : Type} (f : α → β) : ∀ xs : List α, xs.filterMap (fun x => some (f x)) = xs.map f
  | [] => rfl
  | x :: r => by rw [List.filterMap_cons]; simp only; rw [filterMap_map f r]; rfl
end Ds

set_option Elab.async false
set_option linter.all false
set_option maxRecDepth 100000
namespace Ds
open PySem L2 Mw Ls
/-! ### == of lists of ints -/
/-! ### the two answers -/
def subC (C D : Str) : Option Bool :=
  if C = "Comes" then (if D = "Comes" then some true else if D = "Bars" then some false else if D = "Answer" then some true else none)
  else if C = "Bars" then (if D = "Comes" then some false else if D = "Bars" then some true else if D = "Answer" then some true else none)
  else none
noncomputable def m_Comes___init__ : MS := (mFldSet ["Comes"] "choices" (mVar 0) (mCB (fList true) (mCons (mVar 1) mNil)))
def c_Comes___init__ : Fn := fun ds h => match ds with
  | [.ref i, d] => (match h[i]?, getL h d with
    | some (.ins C fs), some xs => if C = "Comes" ∧ fs = [] then (match intsOf xs with
      | some _ => .ok .non (h.set i (.ins "Comes" [("choices", .ref h.length)]) ++ [.lst xs])
      | none => .bad) else .bad
    | _, _ => .bad)
  | _ => .bad
noncomputable def m_Bars___init__ : MS := (mFldSet ["Bars"] "turn" (mVar 0) (mVar 1))
def c_Bars___init__ : Fn := fun ds h => match ds with
  | [.ref i, .int t] => (match h[i]? with
    | some (.ins C fs) => if C = "Bars" ∧ fs = [] then .ok .non (h.set i (.ins "Bars" [("turn", .int t)])) else .bad
    | _ => .bad)
  | _ => .bad
def comesD (h : OH) (i : Nat) : Option (List Int) := match h[i]? with
  | some (.ins C [(f, d)]) => if C = "Comes" ∧ f = "choices" then (match getL h d with
    | some xs => intsOf xs
    | none => none) else none
  | _ => none
noncomputable def m_Comes_shows : MS := (mSeq (mAsg (mCall 2 c_walk (mCons (mVar 1) (mCons (mVar 2) mNil))) (mgTup 2 (mgCons (mgN 3) (mgCons (mgN 4) mgNil))))
    (mRet (mAndV (mOp fIsN (mVar 4) (mC .non)) (mAndV (mCall 1 c_is_numbers (mCons (mFld ["Comes"] "choices" (mVar 0)) mNil)) (mOp fEq (mFld ["Comes"] "choices" (mVar 0)) (mVar 3))))))
def c_Comes_shows : Fn := fun ds h => match ds with
  | [.ref i, n, s] => (match comesD h i, nightD h n with
    | some cs, some (order, lost) => (match seatD h s order.length with
      | some seats => .ok (.bl (decide ((walkM order lost seats).2 = none ∧ cs = (walkM order lost seats).1))) h
      | none => .bad)
    | _, _ => .bad)
  | _ => .bad
def barsD (h : OH) (i : Nat) : Option Int := match h[i]? with
  | some (.ins C [(f, .int t)]) => if C = "Bars" ∧ f = "turn" then some t else none
  | _ => none
noncomputable def m_Bars_shows : MS := (mSeq (mSet 3 (mOp fIxT (mCall 2 c_walk (mCons (mVar 1) (mCons (mVar 2) mNil))) (mC (.int 1))))
    (mRet (mAndV (mCall 1 c_is_number (mCons (mFld ["Bars"] "turn" (mVar 0)) mNil)) (mOp fEq (mFld ["Bars"] "turn" (mVar 0)) (mVar 3)))))
def c_Bars_shows : Fn := fun ds h => match ds with
  | [.ref i, n, s] => (match barsD h i, nightD h n with
    | some t, some (order, lost) => (match seatD h s order.length with
      | some seats => .ok (.bl (decide ((walkM order lost seats).2.map (fun n : Nat => (n : Int)) = some t))) h
      | none => .bad)
    | _, _ => .bad)
  | _ => .bad
/-! ### judged -/
noncomputable def m_judged : MS := (mSeq (mDrop (mCall 1 c_check_night (mCons (mVar 0) mNil)))
    (mSeq (mDrop (mCall 2 c_check_seating (mCons (mVar 1) (mCons (mCB fLen (mCons (mOp fIxT (mVar 0) (mC (.int 0))) mNil)) mNil))))
    (mSeq (mAsg (mCall 2 c_walk (mCons (mVar 0) (mCons (mVar 1) mNil))) (mgTup 2 (mgCons (mgN 2) (mgCons (mgN 3) mgNil))))
    (mSeq (mIf (mTest (mOp fIsN (mVar 3) (mC .non))) (mRet (mMake "Comes" 2 c_Comes___init__ (mCons (mVar 2) mNil))) mNext)
    (mRet (mMake "Bars" 2 c_Bars___init__ (mCons (mVar 3) mNil)))))))
def c_judged : Fn := fun ds h => match ds with
  | [n, s] => (match nightD h n with
    | none => if rdyN h n = true then .exc "BadNight" h else .bad
    | some (order, lost) => (match seatD h s order.length with
      | none => if rdyL h s = true then .exc "BadSeating" h else .bad
      | some seats => (match (walkM order lost seats).2 with
        | none => .ok (.ref h.length) (h ++ [.ins "Comes" [("choices", .ref (h.length + 1))], .lst (di (walkM order lost seats).1)])
        | some t => .ok (.ref h.length) (h ++ [.ins "Bars" [("turn", .int (t : Nat))]]))))
  | _ => .bad
end Ds

set_option Elab.async false
set_option linter.all false
set_option maxRecDepth 100000
namespace Ds
open PySem L2 Mw Ls
theorem Ni.old {h g : OH} {v : Dv} {order lost : List Int} (N : Ni h v order lost) : Ni (h ++ g) v order lost := by
  obtain ⟨a, b, e, ea, eb⟩ := N.ex
  exact ⟨a, b, e, getL_old ea, getL_old eb⟩
theorem Ni.mk' {h : OH} {a b : Dv} {order lost : List Int} (ea : getL h a = some (di order)) (eb : getL h b = some (di lost)) : Ni h (.tup [a, b]) order lost := ⟨a, b, rfl, ea, eb⟩
theorem eqv_pair (a b c d : PyData) : PyData.eqv (.tuple [a, b]) (.tuple [c, d]) = (PyData.eqv a c && PyData.eqv b d) := by
  simp [PyData.eqv, PyData.eqvAll]
theorem sh_sh (i j : Int) : SeqAt.shaped (.tuple [.int i, .int j]) = true := by rfl
theorem fNe_sh {h : OH} {i j i' j' : Int} : fNe (.tup [.int i, .int j]) (.tup [.int i', .int j']) h = .ok (.bl (!(decide (i = i') && decide (j = j')))) h := by
  rw [fNe_of (d := .tuple [.int i, .int j]) (e := .tuple [.int i', .int j']) rfl rfl (sh_sh _ _) (sh_sh _ _), eqv_pair, eqv_int, eqv_int]
theorem fEq_sh {h : OH} {i j i' j' : Int} : fEq (.tup [.int i, .int j]) (.tup [.int i', .int j']) h = .ok (.bl (decide (i = i') && decide (j = j'))) h := by
  rw [fEq_of (d := .tuple [.int i, .int j]) (e := .tuple [.int i', .int j']) rfl rfl (sh_sh _ _) (sh_sh _ _), eqv_pair, eqv_int, eqv_int]
theorem fNe_shD {h : OH} {r : Rat} : fNe (shD r) (shD r) h = .ok (.bl false) h := by
  unfold shD
  rw [fNe_sh]
  simp
structure Pre2 (h : OH) (n s : Dv) (order lost seats : List Int) : Prop where
  N : Ni h n order lost
  ok : NightOk 40 order lost
  es : getL h s = some (di seats)
  S : Seat order seats
theorem Pre2.old {h g : OH} {n s : Dv} {order lost seats : List Int} (p : Pre2 h n s order lost seats) : Pre2 (h ++ g) n s order lost seats := ⟨p.N.old, p.ok, getL_old p.es, p.S⟩
theorem mRev_eq {σ : DSt} {h : OH} {mu : Bool} {a b : ME} : mRev mu a b σ h = bindR (a σ h) fun x h => bindR (b σ h) fun y h => (match getL h x, y with | some xs, .int i => if i = -1 then mkL mu xs.reverse h else .bad | _, _ => .bad) := id rfl
theorem mRg3_eq {r : MA} {σ : DSt} {h : OH} : mRg3 r σ h = bindR (r σ h) fun ds h => (match ds with | [.int i, .int j, .int c] => if c ≠ 0 ∧ c.natAbs < 1073741824 ∧ Builtin.Range.small i j c = true ∧ 0 ≤ Builtin.Range.rangeSize i j c then .ok (itR i c (rgN i j c)) h else .bad | _ => .bad) := id rfl
section
variable {h g : OH} {a b c : Ob}
end
section
variable {h g : OH} {a b c x : Ob}
end
end Ds

set_option Elab.async false
set_option linter.all false
set_option maxRecDepth 100000
namespace Ds
open PySem L2 Mw Ls
/-! ### a comprehension followed turn by turn -/
theorem comp_inv {J : ItD} {g : MG} {tt : MT} {te : ME} {vs : List Nat} {σ : DSt} {h : OH} {n : Nat} (A : Nat → List Dv) (hfin : J.fin h = true)
    (hstep : ∀ i, i < n → ∃ x, J.at_ i h = some x ∧ ∃ σ2, g x (wipeD σ vs) h = .ok σ2 h ∧ ((A (i + 1) = A i ∧ tt σ2 h = .ok false h) ∨ ∃ y, A (i + 1) = A i ++ [y] ∧ tt σ2 h = .ok true h ∧ te σ2 h = .ok y h)) :
    ∀ k i, k + i = n → compN J g tt te vs σ k i (A i) h = .ok (A n) h
  | 0, i, e => by
    have e : i = n := by omega
    subst e
    unfold compN
    rw [if_pos hfin]
  | k + 1, i, e => by
    have ih := comp_inv A hfin hstep k (i + 1) (by omega)
    obtain ⟨x, e0, σ2, e1, q⟩ := hstep i (by omega)
    unfold compN
    rw [e0]
    show (match g x (wipeD σ vs) h with | .ok σ2 h2 => _ | _ => _) = _
    rw [e1]
    rcases q with ⟨ea, et⟩ | ⟨y, ea, et, ee⟩
    · show (match tt σ2 h with | .ok true h3 => _ | .ok false h3 => _ | _ => _) = _
      rw [et]
      show compN J g tt te vs σ k (i + 1) (A i) h = _
      rw [← ea]
      exact ih
    · show (match tt σ2 h with | .ok true h3 => _ | .ok false h3 => _ | _ => _) = _
      rw [et]
      show (match te σ2 h with | .ok y h4 => _ | _ => _) = _
      rw [ee]
      show compN J g tt te vs σ k (i + 1) (A i ++ [y]) h = _
      rw [← ea]
      exact ih
/-! ### who is alike -/
noncomputable def m_alike_seats : MS := (mSeq (mAsg (mVar 0) (mgTup 2 (mgCons (mgN 2) (mgCons (mgN 3) mgNil))))
    (mRet (mLc (mItE (mCons (mVar 2) mNil)) (mgTup 2 (mgCons (mgN 4) (mgCons (mgN 5) mgNil))) (mOr (mTest (mOp fGe (mVar 4) (mVar 1))) (mTest (mOp (fIn false) (mVar 5) (mVar 3)))) (mVar 5) [4, 5])))
def c_alike_seats : Fn := fun ds h => match ds with
  | [.tup [o, l], .int t] => (match getL h o, getL h l with
    | some os, some ls => (match intsOf os, intsOf ls with
      | some order, some lost => if 0 ≤ t then .ok (.lst (di (alikeM order lost t.toNat))) h else .bad
      | _, _ => .bad)
    | _, _ => .bad)
  | _ => .bad
/-! ### the share of a turn's guest on a seat -/
noncomputable def m_share_at : MS := (mSeq (mAsg (mVar 0) (mgTup 2 (mgCons (mgN 3) (mgCons (mgN 4) mgNil))))
    (mSeq (mSet 5 (mOp fIxL (mVar 3) (mVar 1)))
    (mSeq (mSet 6 (mCall 2 c_alike_seats (mCons (mVar 0) (mCons (mVar 1) mNil))))
    (mSeq (mSet 7 (mCB fLen (mCons (mVar 6) mNil)))
    (mSeq (mSet 8 (mOp fSub (mCB fLen (mCons (mVar 3) mNil)) (mVar 1)))
    (mSeq (mIf (mTest (mOp (fIn true) (mVar 2) (mVar 6))) (mRet (mTup (mCons (mC (.int 0)) (mCons (mC (.int 1)) mNil)))) mNext)
    (mSeq (mIf (mTest (mOp (fIn false) (mVar 5) (mVar 4))) (mRet (mTup (mCons (mC (.int 1)) (mCons (mVar 7) mNil)))) mNext)
    (mSeq (mIf (mTest (mOp fEq (mVar 2) (mVar 5))) (mRet (mCall 2 c_lowest (mCons (mVar 8) (mCons (mVar 7) mNil)))) mNext)
    (mRet (mCall 2 c_lowest (mCons (mOp fSub (mVar 7) (mVar 8)) (mCons (mOp fMul (mVar 7) (mOp fSub (mVar 7) (mC (.int 1)))) mNil))))))))))))
def c_share_at : Fn := fun ds h => match ds with
  | [.tup [o, l], .int t, .int s] => (match getL h o, getL h l with
    | some os, some ls => (match intsOf os, intsOf ls with
      | some order, some lost => if 0 ≤ t ∧ t < (order.length : Int) ∧ order.length ≤ 40 then .ok (shD (shareR order lost t.toNat s)) h else .bad
      | _, _ => .bad)
    | _, _ => .bad)
  | _ => .bad
/-! ### asked from outside -/
noncomputable def m_share : MS := (mSeq (mDrop (mCall 1 c_check_night (mCons (mVar 0) mNil)))
    (mSeq (mDrop (mCall 3 c_check_guest_and_seat (mCons (mVar 1) (mCons (mVar 2) (mCons (mCB fLen (mCons (mOp fIxT (mVar 0) (mC (.int 0))) mNil)) mNil)))))
    (mRet (mCall 3 c_share_at (mCons (mVar 0) (mCons (mBM fIndex (mOp fIxT (mVar 0) (mC (.int 0))) (mCons (mVar 1) mNil)) (mCons (mVar 2) mNil)))))))
def c_share : Fn := fun ds h => match ds with
  | [n, g, s] => (match nightD h n with
    | none => if rdyN h n = true then .exc "BadNight" h else .bad
    | some (order, lost) => if (rdy h g && rdy h s) = true then (if cnt g order.length = true then (if cnt s order.length = true then (match g, s with | .int i, .int j => .ok (shD (shareR order lost (order.idxOf i) j)) h | _, _ => .bad) else .exc "BadSeat" h) else .exc "BadGuest" h) else .bad)
  | _ => .bad
noncomputable def m_own : MS := (mSeq (mDrop (mCall 1 c_check_night (mCons (mVar 0) mNil)))
    (mSeq (mSet 1 (mTup (mCons (mC (.int 0)) (mCons (mC (.int 1)) mNil))))
    (mSeq (mFor (mItE (mCons (mOp fIxT (mVar 0) (mC (.int 0))) mNil)) (mgTup 2 (mgCons (mgN 2) (mgCons (mgN 3) mgNil)))
    (mSet 1 (mCall 2 c_summed (mCons (mVar 1) (mCons (mCall 3 c_share_at (mCons (mVar 0) (mCons (mVar 2) (mCons (mVar 3) mNil)))) mNil)))))
    (mRet (mVar 1)))))
def c_own : Fn := fun ds h => match ds with
  | [n] => (match nightD h n with
    | none => if rdyN h n = true then .exc "BadNight" h else .bad
    | some (order, lost) => .ok (shD (ownR order lost order.length)) h)
  | _ => .bad
inductive IvOwn (n : Dv) (h : OH) (order lost : List Int) : Nat → DSt → OH → Prop
  | mk (t : Nat) (v2 v3 : Option Dv) : IvOwn n h order lost t [some n, some (shD (ownR order lost t)), v2, v3] h
end Ds

set_option Elab.async false
set_option linter.all false
set_option maxRecDepth 100000
namespace L2
open PySem PySem.Spec PyProof.Rows
/-! ### xs[::k], k above 0: the items at the places that the slice names -/
def stepIx (n : Nat) (i : Int) : List Nat := sliceRange (sliceBounds none none (some i) n).1 (sliceBounds none none (some i) n).2.1 (sliceBounds none none (some i) n).2.2
def stepX {α : Type} (xs : List α) (i : Int) : List α := (stepIx xs.length i).filterMap (xs[·]?)
theorem Vals.atN : ∀ {xs : List V} {us : List Value}, Vals xs us → ∀ k : Nat, (xs[k]? = none ∧ us[k]? = none) ∨ ∃ x u, xs[k]? = some x ∧ us[k]? = some u ∧ RelV x u
  | _, _, .nil, k => .inl ⟨rfl, rfl⟩
  | x :: xs, u :: us, .cons r t, 0 => .inr ⟨x, u, rfl, rfl, r⟩
  | x :: xs, u :: us, .cons r t, k + 1 => Vals.atN t k
theorem Vals.pick {xs : List V} {us : List Value} (r : Vals xs us) : ∀ ks : List Nat, Vals (ks.filterMap (xs[·]?)) (ks.filterMap (us[·]?))
  | [] => .nil
  | k :: ks => by
    rcases r.atN k with ⟨e1, e2⟩ | ⟨x, u, e1, e2, q⟩
    · rw [List.filterMap_cons_none e1, List.filterMap_cons_none e2]
      exact Vals.pick r ks
    · rw [List.filterMap_cons_some e1, List.filterMap_cons_some e2]
      exact .cons q (Vals.pick r ks)
section
variable {X : Cx}
def tStepD (K : PySem.W.Frag) (te ts : TE) : TE := fun σ H Q => te σ H fun x H1 => ts σ H1 fun y H2 => ∃ i a xs, y = .int i ∧ 0 < i ∧ x = .ref a ∧ SqL K H2 a xs ∧ xs.length ≤ 100000 ∧ ∀ p, H2 p = none → Q (.ref p) (upd H2 p (.lst (stepX xs i)))
end
end L2

set_option Elab.async false
set_option linter.all false
set_option maxRecDepth 100000
namespace L2
open PySem
abbrev rLenQ (K : PySem.W.Frag) : List V → Hp → VK → Prop := fun xs H Q => ∃ p ys, xs = [.ref p] ∧ (SqL K H p ys ∨ SqT K H p ys) ∧ Q (.int ys.length) H
abbrev rListQ (K : PySem.W.Frag) : List V → Hp → VK → Prop := fun xs H Q => ∃ p ys, xs = [.ref p] ∧ (SqL K H p ys ∨ SqT K H p ys) ∧ ∀ l, H l = none → Q (.ref l) (upd H l (.lst ys))
end L2

set_option Elab.async false
set_option linter.all false
set_option maxRecDepth 100000
namespace Ds
open PySem L2
variable {G : Gx} {E : XK}
theorem RVs.atN {p : Pt} : ∀ {xs : List Dv} {us : List V}, RVs G p xs us → ∀ k : Nat, (xs[k]? = none ∧ us[k]? = none) ∨ ∃ x u, xs[k]? = some x ∧ us[k]? = some u ∧ RV G p x u
  | _, _, .nil, k => .inl ⟨rfl, rfl⟩
  | x :: xs, u :: us, .cons r t, 0 => .inr ⟨x, u, rfl, rfl, r⟩
  | x :: xs, u :: us, .cons r t, k + 1 => by simpa using RVs.atN t k
theorem RVs.pick {p : Pt} {xs : List Dv} {us : List V} (r : RVs G p xs us) : ∀ ks : List Nat, RVs G p (ks.filterMap (xs[·]?)) (ks.filterMap (us[·]?))
  | [] => .nil
  | k :: ks => by
    rcases r.atN k with ⟨e1, e2⟩ | ⟨x, u, e1, e2, q⟩
    · rw [List.filterMap_cons_none e1, List.filterMap_cons_none e2]
      exact RVs.pick r ks
    · rw [List.filterMap_cons_some e1, List.filterMap_cons_some e2]
      exact .cons q (RVs.pick r ks)
def mStep (mu : Bool) (e st : ME) : ME := fun σ h => bindR (e σ h) fun x h => bindR (st σ h) fun y h => match getL h x, y with
  | some xs, .int i => if 0 < i ∧ xs.length ≤ 100000 then mkL mu (stepX xs i) h else .bad
  | _, _ => .bad
theorem mStep_eq {σ : DSt} {h : OH} {mu : Bool} {a b : ME} : mStep mu a b σ h = bindR (a σ h) fun x h => bindR (b σ h) fun y h => (match getL h x, y with | some xs, .int i => if 0 < i ∧ xs.length ≤ 100000 then mkL mu (stepX xs i) h else .bad | _, _ => .bad) := id rfl
end Ds

set_option Elab.async false
set_option linter.all false
set_option maxRecDepth 100000
namespace Ds
open PySem L2 Mw Ls
noncomputable def m__law_seats : MS := (mSeq (mSet 2 (mOp (fRep true) (mLst false (mCons (mC (.int 0)) mNil)) (mCB fLen (mCons (mVar 1) mNil))))
    (mSeq (mFor (mItZ (mCons (mOp fIxT (mVar 0) (mC (.int 0))) (mCons (mVar 1) mNil))) (mgTup 2 (mgCons (mgN 3) (mgCons (mgN 4) mgNil)))
    (mAsg (mVar 4) (mgSub (mVar 2) (mVar 3))))
    (mRet (mVar 2))))
def seatsG (order ss : List Int) : Nat → List Int
  | 0 => List.replicate ss.length 0
  | t + 1 => (seatsG order ss t).set (order.getD t 0).toNat (ss.getD t 0)
theorem seatsG_len (order ss : List Int) : ∀ t, (seatsG order ss t).length = ss.length
  | 0 => List.length_replicate
  | t + 1 => by rw [seatsG, List.length_set, seatsG_len order ss t]
open Classical in
noncomputable def c__law_seats : Fn := fun ds h => match ds with
  | [.tup [o, l], s] => (match getL h o, getL h s with
    | some os, some ss => (match intsOf os, intsOf ss with
      | some order, some se => if order.length = se.length ∧ order.length ≤ 1000 ∧ ∀ x ∈ order, 0 ≤ x ∧ x < (order.length : Int) then .ok (.lst (di (seatsG order se order.length))) h else .bad
      | _, _ => .bad)
    | _, _ => .bad)
  | _ => .bad
inductive IvSt (h : OH) (n s : Dv) (order ss : List Int) : Nat → DSt → OH → Prop
  | mk (t : Nat) (v3 v4 : Option Dv) : IvSt h n s order ss t [some n, some s, some (.ref h.length), v3, v4] (h ++ [.lst (di (seatsG order ss t))])
end Ds

set_option Elab.async false
set_option linter.all false
set_option maxRecDepth 100000
namespace Ds
open PySem L2 Mw Ls
noncomputable def m__law_ways : MS := (mSeq (mAsg (mVar 0) (mgTup 2 (mgCons (mgN 1) (mgCons (mgN 2) mgNil))))
    (mSeq (mSet 3 (mC (.int 1)))
    (mSeq (mFor (mRg2 (mCons (mC (.int 1)) (mCons (mOp fAdd (mCB fLen (mCons (mVar 1) mNil)) (mC (.int 1))) mNil))) (mgN 4)
    (mSet 3 (mOp fMul (mVar 3) (mVar 4))))
    (mSeq (mSet 5 (mLst false (mCons (mTup (mCons (mLst false mNil) (mCons (mVar 3) mNil))) mNil)))
    (mSeq (mFor (mItE (mCons (mVar 1) mNil)) (mgTup 2 (mgCons (mgN 6) (mgCons (mgN 7) mgNil)))
    (mSeq (mSet 8 (mLst true mNil))
    (mSeq (mFor (mItL (mVar 5)) (mgTup 2 (mgCons (mgN 9) (mgCons (mgN 10) mgNil)))
    (mSeq (mSet 11 (mLc (mRg1 (mCons (mCB fLen (mCons (mVar 1) mNil)) mNil)) (mgN 12) (mTest (mOp (fIn true) (mVar 12) (mVar 9))) (mVar 12) [12]))
    (mSeq (mIf (mAnd (mTest (mOp (fIn true) (mVar 7) (mVar 2))) (mTest (mOp (fIn false) (mVar 7) (mVar 11)))) (mSet 11 (mLst false (mCons (mVar 7) mNil))) mNext)
    (mDrop (mBM fExtend (mVar 8) (mCons (mLc (mItL (mVar 11)) (mgN 12) mYes (mTup (mCons (mOp (fCat false) (mVar 9) (mLst false (mCons (mVar 12) mNil))) (mCons (mOp fDiv (mVar 10) (mCB fLen (mCons (mVar 11) mNil))) mNil))) [12]) mNil))))))
    (mSet 5 (mVar 8)))))
    (mRet (mTup (mCons (mVar 5) (mCons (mVar 3) mNil)))))))))
def wD (w : List Int × Int) : Dv := .tup [.lst (di w.1), .int w.2]
def dw (W : List (List Int × Int)) : List Dv := W.map wD
@[simp] theorem dw_length {W : List (List Int × Int)} : (dw W).length = W.length := List.length_map _
open Classical in
noncomputable def c__law_ways : Fn := fun ds h => match ds with
  | [.tup [o, l]] => (match getL h o, getL h l with
    | some os, some ls => (match intsOf os, intsOf ls with
      | some order, some lost => if 1 ≤ order.length ∧ order.length ≤ 6 then .ok (.tup [.lst (dw (wayT order lost order.length)), .int (fact order.length : Nat)]) h else .bad
      | _, _ => .bad)
    | _, _ => .bad)
  | _ => .bad
inductive IvWa (h : OH) (n o l : Dv) : Nat → DSt → OH → Prop
  | mk (t : Nat) (v4 : Option Dv) : IvWa h n o l t [some n, some o, some l, some (.int (fact t : Nat)), v4, none, none, none, none, none, none, none, none] h
inductive IvWb (h : OH) (n o l : Dv) (order lost : List Int) : Nat → DSt → OH → Prop
  | mk (t : Nat) (g : OH) (fd : Dv) (v4 v6 v7 v8 v9 v10 v11 v12 : Option Dv) (hf : getL (h ++ g) fd = some (dw (wayT order lost t))) (hr : t = 0 ∨ ∃ i, fd = .ref i ∧ h.length ≤ i ∧ (h ++ g)[i]? = some (.lst (dw (wayT order lost t)))) :
    IvWb h n o l order lost t [some n, some o, some l, some (.int (fact order.length : Nat)), v4, some fd, v6, v7, v8, v9, v10, v11, v12] (h ++ g)
inductive IvWc (H : OH) (n o l fd : Dv) (v4 : Option Dv) (order lost : List Int) (t : Nat) (g : Int) (W : List (List Int × Int)) : Nat → DSt → OH → Prop
  | mk (i : Nat) (v9 v10 v11 v12 : Option Dv) : IvWc H n o l fd v4 order lost t g W i [some n, some o, some l, some (.int (fact order.length : Nat)), v4, some fd, some (.int (t : Nat)), some (.int g), some (.ref H.length), v9, v10, v11, v12] (H ++ [.lst (dw (stepW order.length lost g (W.take i)))])
end Ds

set_option Elab.async false
set_option linter.all false
set_option maxRecDepth 100000
namespace Ds
open PySem L2 Mw Ls
/-! ### a comprehension whose items are new lists -/
/-! ### rows of a table -/
def rowsO (m : Nat) (f : Int → Int → Int) : OH := (rg m).map fun g => Ob.lst (di ((rg m).map (f g)))
end Ds

set_option Elab.async false
set_option linter.all false
set_option maxRecDepth 100000
namespace Ds
open PySem L2 Mw Ls
/-! ### nights on which none has lost -/
theorem seat_rg {order lost : List Int} (ok : NightOk 40 order lost) : Seat order (rg order.length) := ⟨length_rg _, nodup_rg _, fun x hx => mem_rg.mp hx⟩
theorem _root_.Ls.NightOk.up {m : Nat} {order lost : List Int} (ok : NightOk m order lost) (h : m ≤ 40) : NightOk 40 order lost := ⟨ok.len1, Nat.le_trans ok.lenm h, ok.ins, ok.nd, ok.lostS, ok.lostIn⟩
theorem _root_.Ls.NightOk.lessm {m : Nat} {order lost l2 : List Int} (ok : NightOk m order lost) (hs : l2.Sublist lost) : NightOk m order l2 :=
  ⟨ok.len1, ok.lenm, ok.ins, ok.nd, ok.lostS.sublist hs, fun x hx => ok.lostIn x (hs.subset hx)⟩
theorem rgJ_ok {J c : Int} (h0 : 1 ≤ J) (h1 : J ≤ 9) (c0 : 1 ≤ c) (c1 : c ≤ 9) : c ≠ 0 ∧ c.natAbs < 1073741824 ∧ Builtin.Range.small 0 J c = true ∧ 0 ≤ Builtin.Range.rangeSize 0 J c := by
  have : J = 1 ∨ J = 2 ∨ J = 3 ∨ J = 4 ∨ J = 5 ∨ J = 6 ∨ J = 7 ∨ J = 8 ∨ J = 9 := by omega
  have : c = 1 ∨ c = 2 ∨ c = 3 ∨ c = 4 ∨ c = 5 ∨ c = 6 ∨ c = 7 ∨ c = 8 ∨ c = 9 := by omega
  rcases this with rfl | rfl | rfl | rfl | rfl | rfl | rfl | rfl | rfl <;> rcases ‹J = 1 ∨ _› with rfl | rfl | rfl | rfl | rfl | rfl | rfl | rfl | rfl <;> exact ⟨by decide, by decide, by decide, by decide⟩
theorem minmax_bd (L m : Int) (hm : 1 ≤ m) : ∃ J : Int, (if (if L < m then L else m) > 1 then (if L < m then L else m) else 1) = J ∧ 1 ≤ J ∧ J ≤ m := by
  refine ⟨_, rfl, ?_, ?_⟩ <;> split <;> (try split) <;> omega
end Ds

set_option Elab.async false
set_option linter.all false
set_option maxRecDepth 100000
namespace Mw
open Ls
/-! ### evenings on which guests ask: the rows of seats, how much, how often one was asked -/
abbrev Row := List (Option Int)
abbrev Evn := Row × Int × Int
def rF (r : Row) (s : Int) : Option Int := r.getD s.toNat none
def freeE (n : Nat) (r : Row) : List Int := (rg n).filter fun s => decide (rF r s = none)
def moverE (lost : List Int) (g : Int) (r : Row) : Option Int := if g ∈ lost then some g else rF r g
def someE (lost : List Int) (g : Int) (r : Row) : Row := if g ∈ lost then r else r.set g.toNat (some g)
def stepE1 (n : Nat) (lost : List Int) (g : Int) (e : Evn) : List Evn := match moverE lost g e.1 with
  | none => [(someE lost g e.1, e.2.1, e.2.2)]
  | some m => (freeE n e.1).map fun s => ((someE lost g e.1).set s.toNat (some m), e.2.1 / ((freeE n e.1).length : Int), e.2.2 + if g ∈ lost then 0 else 1)
def evesM (n : Nat) (lost : List Int) : List Int → List Evn → List Evn
  | [], W => W
  | g :: r, W => evesM n lost r (W.flatMap (stepE1 n lost g))
def eveT (order lost : List Int) (t : Nat) : List Evn := evesM order.length lost (order.take t) [(List.replicate order.length none, ((fact order.length : Nat) : Int), 0)]
def EE (W : List Evn) (f : Evn → Rat) : Rat := (W.map fun e => (e.2.1 : Rat) * f e).sum
/-! ### rows -/
theorem rF_set {n : Nat} {r : Row} (hl : r.length = n) {a s : Int} {v : Option Int} (a0 : 0 ≤ a) (a1 : a < (n : Int)) (s0 : 0 ≤ s) : rF (r.set a.toNat v) s = if s = a then v else rF r s := by
  unfold rF
  rw [List.getD_eq_getElem?_getD, List.getD_eq_getElem?_getD, List.getElem?_set]
  by_cases c : s = a
  · subst c
    rw [if_pos rfl, if_pos (by omega), if_pos rfl]
    rfl
  · rw [if_neg (by omega), if_neg c]
theorem mem_freeE {n : Nat} {r : Row} {s : Int} : s ∈ freeE n r ↔ (0 ≤ s ∧ s < (n : Int)) ∧ rF r s = none := by
  unfold freeE
  rw [List.mem_filter, mem_rg, decide_eq_true_iff]
theorem nodup_freeE (n : Nat) (r : Row) : (freeE n r).Nodup := (nodup_rg n).filter _
structure EOk (order lost : List Int) (t : Nat) (e : Evn) : Prop where
  len : e.1.length = order.length
  free : (freeE order.length e.1).length = order.length - t
  own : ∀ s, 0 ≤ s → s < (order.length : Int) → ¬ s ∈ alikeM order lost t → rF e.1 s = some s
  inj : ∀ i j m, 0 ≤ i → i < (order.length : Int) → 0 ≤ j → j < (order.length : Int) → rF e.1 i = some m → rF e.1 j = some m → i = j
  who : ∀ i m, 0 ≤ i → i < (order.length : Int) → rF e.1 i = some m → m ∈ order.take t
  much : ∃ c : Nat, e.2.1 = ((c * fact (order.length - t) : Nat) : Int)
  often : 0 ≤ e.2.2 ∧ e.2.2 ≤ (t : Int)
theorem free_less {n : Nat} {r r' : Row} {s : Int} (hs : s ∈ freeE n r) (h : ∀ x, 0 ≤ x → x < (n : Int) → (rF r' x = none ↔ rF r x = none ∧ x ≠ s)) : (freeE n r').length + 1 = (freeE n r).length := by
  have p : (freeE n r).Perm (s :: freeE n r') := by
    rw [List.perm_ext_iff_of_nodup (nodup_freeE n r)]
    · intro x
      rw [List.mem_cons, mem_freeE, mem_freeE]
      have hs' := mem_freeE.mp hs
      constructor
      · rintro ⟨hx, hn⟩
        by_cases c : x = s
        · exact .inl c
        · exact .inr ⟨hx, (h x hx.1 hx.2).mpr ⟨hn, c⟩⟩
      · rintro (rfl | ⟨hx, hn⟩)
        · exact hs'
        · exact ⟨hx, ((h x hx.1 hx.2).mp hn).1⟩
    · refine List.nodup_cons.mpr ⟨fun q => ?_, nodup_freeE n r'⟩
      have q := mem_freeE.mp q
      exact ((h s q.1.1 q.1.2).mp q.2).2 rfl
  rw [p.length_eq, List.length_cons]
theorem fact_part {n t : Nat} (ht : t < n) : fact (n - t) = (n - t) * fact (n - (t + 1)) := by
  obtain ⟨r, hr⟩ : ∃ r, n - t = r + 1 := ⟨n - t - 1, by omega⟩
  rw [hr, show n - (t + 1) = r by omega]
  rfl
theorem not_take {order : List Int} (ho : order.Nodup) {t : Nat} {g : Int} (hg : order[t]? = some g) : ¬ g ∈ order.take t := fun q => by
  obtain ⟨j, hj⟩ := List.getElem?_of_mem q
  have lj := (List.getElem?_eq_some_iff.mp hj).1
  rw [List.length_take] at lj
  rw [List.getElem?_take_of_lt (by omega)] at hj
  have := L2.nd_ix ho hj hg
  omega
theorem take_succ_mem {order : List Int} {t : Nat} {g x : Int} (hg : order[t]? = some g) : x ∈ order.take (t + 1) ↔ x ∈ order.take t ∨ x = g := by
  obtain ⟨hl, e⟩ := List.getElem?_eq_some_iff.mp hg
  rw [List.take_succ_eq_append_getElem hl, e, List.mem_append, List.mem_singleton]
theorem EOk.step {order lost : List Int} (ho : order.Nodup) (hi : ∀ x ∈ order, 0 ≤ x ∧ x < (order.length : Int)) {t : Nat} {g : Int} (hg : order[t]? = some g) {e : Evn} (h : EOk order lost t e) : ∀ e' ∈ stepE1 order.length lost g e, EOk order lost (t + 1) e' := by
  intro e' he
  have ht := (List.getElem?_eq_some_iff.mp hg).1
  have gi := hi g (List.mem_of_getElem? hg)
  have ng := not_take ho hg
  have fp := fact_part ht
  obtain ⟨c, hc⟩ := h.much
  have hof := h.often
  have newg : ∀ i, 0 ≤ i → i < (order.length : Int) → rF e.1 i ≠ some g := fun i h0 h1 q => ng (h.who i g h0 h1 q)
  unfold stepE1 at he
  by_cases gl : g ∈ lost
  · have em : moverE lost g e.1 = some g := by unfold moverE; rw [if_pos gl]
    have es : someE lost g e.1 = e.1 := by unfold someE; rw [if_pos gl]
    rw [em, es, if_pos gl] at he
    obtain ⟨s, hs, rfl⟩ := List.mem_map.mp he
    have hs' := mem_freeE.mp hs
    have st : ∀ x, 0 ≤ x → rF (e.1.set s.toNat (some g)) x = if x = s then some g else rF e.1 x := fun x h0 => rF_set h.len hs'.1.1 hs'.1.2 h0
    refine ⟨by rw [List.length_set]; exact h.len, ?_, fun x x0 x1 hx => ?_, fun i j m i0 i1 j0 j1 ei ej => ?_, fun i m i0 i1 ei => ?_, ?_, by show 0 ≤ e.2.2 + 0 ∧ e.2.2 + 0 ≤ _; omega⟩
    · have := free_less (r' := e.1.set s.toNat (some g)) hs fun x x0 x1 => by
        rw [st x x0]
        by_cases c : x = s <;> simp [c]
      have := h.free
      dsimp only
      omega
    · rw [st x x0]
      rw [alike_lost hg gl] at hx
      have := h.own x x0 x1 hx
      rw [if_neg fun q => by subst q; rw [hs'.2] at this; cases this]
      exact this
    · rw [st i i0] at ei
      rw [st j j0] at ej
      by_cases ci : i = s
      · rw [if_pos ci] at ei
        cases ei
        by_cases cj : j = s
        · omega
        · rw [if_neg cj] at ej; exact absurd ej (newg j j0 j1)
      · rw [if_neg ci] at ei
        by_cases cj : j = s
        · rw [if_pos cj] at ej; cases ej; exact absurd ei (newg i i0 i1)
        · rw [if_neg cj] at ej; exact h.inj i j m i0 i1 j0 j1 ei ej
    · rw [st i i0] at ei
      rw [take_succ_mem hg]
      by_cases ci : i = s
      · rw [if_pos ci] at ei; cases ei; exact .inr rfl
      · rw [if_neg ci] at ei; exact .inl (h.who i m i0 i1 ei)
    · refine ⟨c, ?_⟩
      show e.2.1 / _ = _
      rw [h.free, hc, fp, Nat.mul_left_comm]
      push_cast
      rw [Int.mul_ediv_cancel_left _ (by omega)]
  · have es : someE lost g e.1 = e.1.set g.toNat (some g) := by unfold someE; rw [if_neg gl]
    have pm := alike_own hg gl
    have nda : (alikeM order lost t).Nodup := ho.sublist alike_sub
    have ndg := List.nodup_cons.mp (pm.nodup_iff.mp nda)
    have st0 : ∀ x, 0 ≤ x → rF (e.1.set g.toNat (some g)) x = if x = g then some g else rF e.1 x := fun x h0 => rF_set h.len gi.1 gi.2 h0
    have al : ∀ x, ¬ x ∈ alikeM order lost (t + 1) → x = g ∨ ¬ x ∈ alikeM order lost t := fun x hx => by
      by_cases c : x = g
      · exact .inl c
      · refine .inr fun q => ?_
        rcases List.mem_cons.mp (pm.mem_iff.mp q) with z | z
        · exact c z
        · exact hx z
    cases hm : rF e.1 g with
    | none =>
      have em : moverE lost g e.1 = none := by unfold moverE; rw [if_neg gl, hm]
      rw [em, es] at he
      have he := List.mem_singleton.mp he
      subst he
      refine ⟨by rw [List.length_set]; exact h.len, ?_, fun x x0 x1 hx => ?_, fun i j m i0 i1 j0 j1 ei ej => ?_, fun i m i0 i1 ei => ?_, ?_, by show 0 ≤ e.2.2 ∧ e.2.2 ≤ _; omega⟩
      · have := free_less (r' := e.1.set g.toNat (some g)) (s := g) (mem_freeE.mpr ⟨gi, hm⟩) fun x x0 x1 => by
          rw [st0 x x0]
          by_cases c : x = g <;> simp [c]
        have := h.free
        dsimp only
        omega
      · rw [st0 x x0]
        rcases al x hx with rfl | hx
        · rw [if_pos rfl]
        · have := h.own x x0 x1 hx
          by_cases c : x = g
          · rw [if_pos c, c]
          · rw [if_neg c]; exact this
      · rw [st0 i i0] at ei
        rw [st0 j j0] at ej
        by_cases ci : i = g
        · rw [if_pos ci] at ei
          cases ei
          by_cases cj : j = g
          · omega
          · rw [if_neg cj] at ej; exact absurd ej (newg j j0 j1)
        · rw [if_neg ci] at ei
          by_cases cj : j = g
          · rw [if_pos cj] at ej; cases ej; exact absurd ei (newg i i0 i1)
          · rw [if_neg cj] at ej; exact h.inj i j m i0 i1 j0 j1 ei ej
      · rw [st0 i i0] at ei
        rw [take_succ_mem hg]
        by_cases ci : i = g
        · rw [if_pos ci] at ei; cases ei; exact .inr rfl
        · rw [if_neg ci] at ei; exact .inl (h.who i m i0 i1 ei)
      · refine ⟨c * (order.length - t), ?_⟩
        show e.2.1 = _
        rw [hc, fp, Nat.mul_assoc]
    | some k =>
      have em : moverE lost g e.1 = some k := by unfold moverE; rw [if_neg gl, hm]
      rw [em, es, if_neg gl] at he
      obtain ⟨s, hs, rfl⟩ := List.mem_map.mp he
      have hs' := mem_freeE.mp hs
      have sg : s ≠ g := fun q => by subst q; rw [hm] at hs'; cases hs'.2
      have st : ∀ x, 0 ≤ x → rF ((e.1.set g.toNat (some g)).set s.toNat (some k)) x = if x = s then some k else if x = g then some g else rF e.1 x := fun x h0 => by
        rw [rF_set (n := order.length) (by rw [List.length_set]; exact h.len) hs'.1.1 hs'.1.2 h0, st0 x h0]
      have kt := h.who g k gi.1 gi.2 hm
      have kg : k ≠ g := fun q => ng (q ▸ kt)
      refine ⟨by rw [List.length_set, List.length_set]; exact h.len, ?_, fun x x0 x1 hx => ?_, fun i j m i0 i1 j0 j1 ei ej => ?_, fun i m i0 i1 ei => ?_, ?_, by show 0 ≤ e.2.2 + 1 ∧ e.2.2 + 1 ≤ _; omega⟩
      · have := free_less (r' := (e.1.set g.toNat (some g)).set s.toNat (some k)) hs fun x x0 x1 => by
          rw [st x x0]
          by_cases c : x = s
          · simp [c]
          · by_cases c2 : x = g
            · subst c2; simp [c, hm]
            · simp [c, c2]
        have := h.free
        dsimp only
        omega
      · rw [st x x0]
        rcases al x hx with rfl | hx
        · rw [if_neg (fun q => sg q.symm), if_pos rfl]
        · have := h.own x x0 x1 hx
          rw [if_neg fun q => by subst q; rw [hs'.2] at this; cases this]
          by_cases c : x = g
          · rw [if_pos c, c]
          · rw [if_neg c]; exact this
      · rw [st i i0] at ei
        rw [st j j0] at ej
        by_cases ci : i = s
        · rw [if_pos ci] at ei
          cases ei
          by_cases cj : j = s
          · omega
          · rw [if_neg cj] at ej
            by_cases cj2 : j = g
            · rw [if_pos cj2] at ej; exact absurd (Option.some.inj ej).symm kg
            · rw [if_neg cj2] at ej; exact absurd (h.inj j g _ j0 j1 gi.1 gi.2 ej hm) cj2
        · rw [if_neg ci] at ei
          by_cases ci2 : i = g
          · rw [if_pos ci2] at ei
            cases ei
            by_cases cj : j = s
            · rw [if_pos cj] at ej; exact absurd (Option.some.inj ej) kg
            · rw [if_neg cj] at ej
              by_cases cj2 : j = g
              · omega
              · rw [if_neg cj2] at ej; exact absurd ej (newg j j0 j1)
          · rw [if_neg ci2] at ei
            by_cases cj : j = s
            · rw [if_pos cj] at ej; cases ej; exact absurd (h.inj i g _ i0 i1 gi.1 gi.2 ei hm) ci2
            · rw [if_neg cj] at ej
              by_cases cj2 : j = g
              · rw [if_pos cj2] at ej; cases ej; exact absurd ei (newg i i0 i1)
              · rw [if_neg cj2] at ej; exact h.inj i j m i0 i1 j0 j1 ei ej
      · rw [st i i0] at ei
        rw [take_succ_mem hg]
        by_cases ci : i = s
        · rw [if_pos ci] at ei; cases ei; exact .inl kt
        · rw [if_neg ci] at ei
          by_cases ci2 : i = g
          · rw [if_pos ci2] at ei; cases ei; exact .inr rfl
          · rw [if_neg ci2] at ei; exact .inl (h.who i m i0 i1 ei)
      · refine ⟨c, ?_⟩
        show e.2.1 / _ = _
        rw [h.free, hc, fp, Nat.mul_left_comm]
        push_cast
        rw [Int.mul_ediv_cancel_left _ (by omega)]
/-! ### shares over the evenings -/
def iF (T : List Int) (e : Evn) : Rat := if ∀ s ∈ T, rF e.1 s = none then 1 else 0
def iA (u g : Int) (e : Evn) : Rat := if rF e.1 u = some g then 1 else 0
def backR (lost : List Int) (g s : Int) : Rat := if ¬ g ∈ lost then (if s = g then 1 else 0) else if s ∈ lost then 1 / ((lost.length : Nat) : Rat) else 0
def cameL (order lost : List Int) (t : Nat) : Nat := ((order.take t).filter (fun g => decide (g ∈ lost))).length
theorem cameL_succ {order lost : List Int} {t : Nat} {g : Int} (hg : order[t]? = some g) : cameL order lost (t + 1) = cameL order lost t + if g ∈ lost then 1 else 0 := by
  obtain ⟨hl, e⟩ := List.getElem?_eq_some_iff.mp hg
  unfold cameL
  rw [List.take_succ_eq_append_getElem hl, e, List.filter_append, List.length_append]
  by_cases c : g ∈ lost <;> simp [c]
def ask1 (order lost : List Int) (t : Nat) : Rat := ((cameL order lost t : Nat) : Rat) / ((cameL order lost t + (order.length - t) : Nat) : Rat)
def askR (order lost : List Int) : Nat → Rat
  | 0 => 0
  | t + 1 => askR order lost t + if order.getD t 0 ∈ lost then 0 else ask1 order lost t
end Mw

set_option Elab.async false
set_option linter.all false
set_option maxRecDepth 100000
namespace Ds
open PySem L2 Mw Ls
noncomputable def m_share_back : MS := (mSeq (mDrop (mCall 1 c_check_night (mCons (mVar 0) mNil)))
    (mSeq (mAsg (mVar 0) (mgTup 2 (mgCons (mgN 3) (mgCons (mgN 4) mgNil))))
    (mSeq (mDrop (mCall 3 c_check_guest_and_seat (mCons (mVar 1) (mCons (mVar 2) (mCons (mCB fLen (mCons (mVar 3) mNil)) mNil)))))
    (mSeq (mIf (mTest (mOp (fIn true) (mVar 1) (mVar 4))) (mRet (mIfE (mTest (mOp fEq (mVar 2) (mVar 1))) (mTup (mCons (mC (.int 1)) (mCons (mC (.int 1)) mNil))) (mTup (mCons (mC (.int 0)) (mCons (mC (.int 1)) mNil))))) mNext)
    (mRet (mIfE (mTest (mOp (fIn false) (mVar 2) (mVar 4))) (mTup (mCons (mC (.int 1)) (mCons (mCB fLen (mCons (mVar 4) mNil)) mNil))) (mTup (mCons (mC (.int 0)) (mCons (mC (.int 1)) mNil)))))))))
def c_share_back : Fn := fun ds h => match ds with
  | [n, g, s] => (match nightD h n with
    | none => if rdyN h n = true then .exc "BadNight" h else .bad
    | some (order, lost) => if (rdy h g && rdy h s) = true then (if cnt g order.length = true then (if cnt s order.length = true then (match g, s with | .int i, .int j => .ok (shD (backR lost i j)) h | _, _ => .bad) else .exc "BadSeat" h) else .exc "BadGuest" h) else .bad)
  | _ => .bad
noncomputable def m_asked : MS := (mSeq (mDrop (mCall 1 c_check_night (mCons (mVar 0) mNil)))
    (mSeq (mAsg (mVar 0) (mgTup 2 (mgCons (mgN 1) (mgCons (mgN 2) mgNil))))
    (mSeq (mSet 3 (mTup (mCons (mC (.int 0)) (mCons (mC (.int 1)) mNil))))
    (mSeq (mSet 4 (mC (.int 0)))
    (mSeq (mFor (mItE (mCons (mVar 1) mNil)) (mgTup 2 (mgCons (mgN 5) (mgCons (mgN 6) mgNil)))
    (mIf (mTest (mOp (fIn false) (mVar 6) (mVar 2))) (mAug 4 (mC (.int 1)) fAdd) (mSet 3 (mCall 2 c_summed (mCons (mVar 3) (mCons (mTup (mCons (mVar 4) (mCons (mOp fSub (mOp fAdd (mVar 4) (mCB fLen (mCons (mVar 1) mNil))) (mVar 5)) mNil))) mNil))))))
    (mRet (mVar 3)))))))
def c_asked : Fn := fun ds h => match ds with
  | [n] => (match nightD h n with
    | none => if rdyN h n = true then .exc "BadNight" h else .bad
    | some (order, lost) => .ok (shD (askR order lost order.length)) h)
  | _ => .bad
inductive IvAsk (n o l : Dv) (h : OH) (order lost : List Int) : Nat → DSt → OH → Prop
  | mk (t : Nat) (v5 v6 : Option Dv) : IvAsk n o l h order lost t [some n, some o, some l, some (shD (askR order lost t)), some (.int (cameL order lost t : Nat)), v5, v6] h
/-! ### shares summed up by the law's own -/
def dp (ps : List (Int × Int)) : List Dv := ps.map fun p => .tup [.int p.1, .int p.2]
@[simp] theorem dp_length {ps : List (Int × Int)} : (dp ps).length = ps.length := List.length_map _
theorem dp_app {V W : List (Int × Int)} : dp (V ++ W) = dp V ++ dp W := List.map_append
def sumP (ps : List (Int × Int)) : Rat := (ps.map fun p => (p.1 : Rat) / (p.2 : Rat)).sum
def prodP (ps : List (Int × Int)) : Int := prodI (ps.map (·.2))
def PairOk (p : Int × Int) : Prop := 0 ≤ p.1 ∧ p.1 < 2 ^ 64 ∧ 0 < p.2 ∧ p.2 < 2 ^ 64
noncomputable def m__law_summed : MS := (mSeq (mAsg (mTup (mCons (mC (.int 0)) (mCons (mC (.int 1)) mNil))) (mgTup 2 (mgCons (mgN 1) (mgCons (mgN 2) mgNil))))
    (mSeq (mFor (mItL (mVar 0)) (mgTup 2 (mgCons (mgN 3) (mgCons (mgN 4) mgNil)))
    (mAsg (mCall 2 c__law_part (mCons (mOp fAdd (mOp fMul (mVar 1) (mVar 4)) (mOp fMul (mVar 3) (mVar 2))) (mCons (mOp fMul (mVar 2) (mVar 4)) mNil))) (mgTup 2 (mgCons (mgN 1) (mgCons (mgN 2) mgNil)))))
    (mRet (mTup (mCons (mVar 1) (mCons (mVar 2) mNil))))))
open Classical in
noncomputable def c__law_summed : Fn := fun ds h => match ds with
  | [d] => if q : ∃ ps, getL h d = some (dp ps) ∧ (∀ p ∈ ps, PairOk p) ∧ prodP ps < big1000 then .ok (shD (sumP (Classical.choose q))) h else .bad
  | _ => .bad
theorem dp_inj : ∀ {a b : List (Int × Int)}, dp a = dp b → a = b
  | [], [], _ => rfl
  | [], _ :: _, h => by cases h
  | _ :: _, [], h => by cases h
  | (x, y) :: a, (z, w) :: b, h => by
    unfold dp at h
    simp only [List.map_cons, List.cons.injEq, Dv.tup.injEq, Dv.int.injEq, and_true] at h
    rw [h.1.1, h.1.2, dp_inj h.2]
inductive IvSm (h : OH) (d : Dv) (ps : List (Int × Int)) : Nat → DSt → OH → Prop
  | mk (i : Nat) (v3 v4 : Option Dv) : IvSm h d ps i [some d, some (.int (sumP (ps.take i)).num), some (.int ((sumP (ps.take i)).den : Nat)), v3, v4] h
end Ds

set_option Elab.async false
set_option linter.all false
set_option maxRecDepth 100000
namespace Ds
open PySem L2 Mw Ls
/-! ### rows of seats and Nones -/
abbrev Rw := List (Option Int)
def ow : Option Int → Dv
  | none => .non
  | some g => .int g
def dR (r : Rw) : List Dv := r.map ow
@[simp] theorem dR_length {r : Rw} : (dR r).length = r.length := List.length_map _
theorem dR_get {r : Rw} {i : Nat} : (dR r)[i]? = (r[i]?).map ow := List.getElem?_map
theorem ow_inj {a b : Option Int} (h : ow a = ow b) : a = b := by
  cases a <;> cases b <;> simp_all [ow]
theorem dR_inj : ∀ {a b : Rw}, dR a = dR b → a = b
  | [], [], _ => rfl
  | [], _ :: _, h => by cases h
  | _ :: _, [], h => by cases h
  | x :: a, y :: b, h => by
    have h : ow x :: dR a = ow y :: dR b := h
    injection h with h1 h2
    rw [ow_inj h1, dR_inj h2]
def rowS (order ss : List Int) : Nat → Rw
  | 0 => List.replicate order.length none
  | t + 1 => (rowS order ss t).set (order.getD t 0).toNat (some (ss.getD t 0))
theorem rowS_len (order ss : List Int) : ∀ t, (rowS order ss t).length = order.length
  | 0 => List.length_replicate
  | t + 1 => by rw [rowS, List.length_set, rowS_len order ss t]
theorem rowS_get {order ss : List Int} (ho : order.Nodup) (hi : ∀ x ∈ order, 0 ≤ x ∧ x < (order.length : Int)) : ∀ t, t ≤ order.length → ∀ g : Int, 0 ≤ g → g < (order.length : Int) → (rowS order ss t)[g.toNat]? = some (if order.idxOf g < t then some (ss.getD (order.idxOf g) 0) else none)
  | 0, _, g, g0, g1 => by
    rw [if_neg (by omega)]
    unfold rowS
    rw [List.getElem?_replicate, if_pos (by omega)]
  | t + 1, ht, g, g0, g1 => by
    have lt : t < order.length := ht
    have hg : order[t]? = some order[t] := List.getElem?_eq_getElem lt
    have gD : order.getD t 0 = order[t] := by rw [List.getD_eq_getElem?_getD, hg]; rfl
    have ih := rowS_get (ss := ss) ho hi t (by omega) g g0 g1
    have ht := hi _ (List.getElem_mem lt)
    have it := idx_eq ho hg
    unfold rowS
    rw [gD]
    by_cases c : g = order[t]
    · subst c
      rw [List.getElem?_set_self (by rw [rowS_len]; omega), it, if_pos (by omega)]
    · have ne : order[t].toNat ≠ g.toNat := by omega
      have ni : order.idxOf g ≠ t := fun z => c (by
        have := idx_at (full ho hi g0 g1)
        rw [z, hg] at this
        exact (Option.some.inj this).symm)
      rw [List.getElem?_set_ne ne, ih]
      by_cases c2 : order.idxOf g < t
      · rw [if_pos c2, if_pos (by omega)]
      · rw [if_neg c2, if_neg (by omega)]
theorem rowS_mem {order ss : List Int} (ho : order.Nodup) (hi : ∀ x ∈ order, 0 ≤ x ∧ x < (order.length : Int)) {t : Nat} (ht : t ≤ order.length) (hs : ss.length = t) {x : Int} : some x ∈ rowS order ss t ↔ x ∈ ss := by
  constructor
  · intro h
    obtain ⟨k, hk⟩ := List.getElem?_of_mem h
    have lk := (List.getElem?_eq_some_iff.mp hk).1
    rw [rowS_len] at lk
    have q := rowS_get (ss := ss) ho hi t ht (k : Int) (by omega) (by omega)
    rw [Int.toNat_natCast, hk] at q
    by_cases c : order.idxOf (k : Int) < t
    · rw [if_pos c] at q
      have := Option.some.inj (Option.some.inj q)
      rw [this, List.getD_eq_getElem?_getD, List.getElem?_eq_getElem (by omega)]
      exact List.getElem_mem _
    · rw [if_neg c] at q
      cases q
  · intro h
    obtain ⟨k, hk⟩ := List.getElem?_of_mem h
    have lk := (List.getElem?_eq_some_iff.mp hk).1
    have hg : order[k]? = some order[k] := List.getElem?_eq_getElem (by omega)
    have gi := hi _ (List.getElem_mem (show k < order.length by omega))
    have q := rowS_get (ss := ss) ho hi t ht order[k] gi.1 gi.2
    rw [idx_eq ho hg, if_pos (by omega), List.getD_eq_getElem?_getD, hk] at q
    exact List.mem_of_getElem? q
theorem rowS_congr {order ss ss' : List Int} : ∀ t, (∀ j, j < t → ss.getD j 0 = ss'.getD j 0) → rowS order ss t = rowS order ss' t
  | 0, _ => rfl
  | t + 1, h => by
    unfold rowS
    rw [rowS_congr t fun j hj => h j (by omega), h t (by omega)]
theorem rowS_snoc (order ss : List Int) (z : Int) : rowS order (ss ++ [z]) (ss.length + 1) = (rowS order ss ss.length).set (order.getD ss.length 0).toNat (some z) := by
  show (rowS order (ss ++ [z]) ss.length).set _ _ = _
  rw [rowS_congr (ss' := ss) ss.length fun j hj => by rw [List.getD_eq_getElem?_getD, List.getD_eq_getElem?_getD, List.getElem?_append_left hj]]
  congr 2
  rw [List.getD_eq_getElem?_getD, List.getElem?_append_right (Nat.le_refl _), Nat.sub_self]
  rfl
theorem opens_row {n : Nat} {r : Rw} {ss : List Int} (h : ∀ x, some x ∈ r ↔ x ∈ ss) : ((rg n).filter fun s => decide (¬ some s ∈ r)) = opens n ss := by
  unfold opens
  congr 1
  funext s
  rw [Bool.eq_iff_iff]
  simp [h]
theorem chos_pick (g : Int) (lost free : List Int) : chos g lost free = pick lost g free := by
  unfold chos pick
  by_cases h1 : g ∈ free <;> by_cases h2 : g ∈ lost <;> simp [h1, h2]
/-! ### doors -/
structure Dr where
  i : Nat
  j : Nat
  order : List Int
  lost : List Int
  t : Nat
  r : Rw
  b : Int
abbrev doorF (x : Dr) : List (Str × Dv) := [("order", .lst (di x.order)), ("lost", .lst (di x.lost)), ("turn", .int (x.t : Nat)), ("seats", .ref x.j), ("bottom", .int x.b)]
structure DoorR (h : OH) (d : Dv) (x : Dr) : Prop where
  d : d = .ref x.i
  at_ : h[x.i]? = some (.ins "Door" (doorF x))
  st : h[x.j]? = some (.lst (dR x.r))
  le : x.t ≤ x.order.length
  len : x.r.length = x.order.length
  small : x.order.length ≤ 40
  ins : ∀ g ∈ x.order, 0 ≤ g ∧ g < (x.order.length : Int)
theorem di_inj' : ∀ {a b : List Int}, di a = di b → a = b
  | [], [], _ => rfl
  | [], _ :: _, h => by cases h
  | _ :: _, [], h => by cases h
  | x :: a, y :: b, h => by
    have h : Dv.int x :: di a = Dv.int y :: di b := h
    injection h with h1 h2
    injection h1 with h1
    rw [h1, di_inj' h2]
theorem DoorR.uniq {h : OH} {d : Dv} {x y : Dr} (a : DoorR h d x) (b : DoorR h d y) : x = y := by
  have e := a.d.symm.trans b.d
  injection e with e
  have q := b.at_
  rw [← e, a.at_] at q
  simp only [Option.some.injEq, Ob.ins.injEq, true_and, List.cons.injEq, Prod.mk.injEq, Dv.lst.injEq, Dv.int.injEq, Dv.ref.injEq, and_true] at q
  obtain ⟨q1, q2, q3, q4, q5⟩ := q
  have s := b.st
  rw [← q4, a.st] at s
  simp only [Option.some.injEq, Ob.lst.injEq] at s
  obtain ⟨i, j, o, l, t, r, bo⟩ := x
  obtain ⟨i', j', o', l', t', r', bo'⟩ := y
  simp only at *
  rw [e, q4, di_inj' q1, di_inj' q2, dR_inj s, q5, show t = t' by omega]
theorem DoorR.ne {h : OH} {d : Dv} {x : Dr} (a : DoorR h d x) : x.i ≠ x.j := fun z => by
  have := a.at_
  rw [z, a.st] at this
  cases this
theorem DoorR.old {h g : OH} {d : Dv} {x : Dr} (a : DoorR h d x) : DoorR (h ++ g) d x :=
  ⟨a.d, by rw [List.getElem?_append_left (List.getElem?_eq_some_iff.mp a.at_).1]; exact a.at_, by rw [List.getElem?_append_left (List.getElem?_eq_some_iff.mp a.st).1]; exact a.st, a.le, a.len, a.small, a.ins⟩
theorem DoorR.far {h : OH} {d : Dv} {x : Dr} {k : Nat} {o : Ob} (a : DoorR h d x) (hi : k ≠ x.i) (hj : k ≠ x.j) : DoorR (h.set k o) d x :=
  ⟨a.d, by rw [List.getElem?_set_ne hi]; exact a.at_, by rw [List.getElem?_set_ne hj]; exact a.st, a.le, a.len, a.small, a.ins⟩
def drNext (x : Dr) : Dv := match x.order[x.t]? with
  | some g => .int g
  | none => .non
def drFree (x : Dr) : List Int := (rg x.order.length).filter fun s => decide (¬ some s ∈ x.r)
def drOpen (x : Dr) : List Int := match x.order[x.t]? with
  | some g => chos g x.lost (drFree x)
  | none => []
noncomputable def m_Door_next_guest : MS := (mSeq (mIf (mTest (mOp fEq (mFld ["Door"] "turn" (mVar 0)) (mCB fLen (mCons (mFld ["Door"] "order" (mVar 0)) mNil)))) (mRet (mC .non)) mNext)
    (mRet (mOp fIxL (mFld ["Door"] "order" (mVar 0)) (mFld ["Door"] "turn" (mVar 0)))))
noncomputable def m_Door_taken : MS := (mRet (mCB (fList false) (mCons (mFld ["Door"] "seats" (mVar 0)) mNil)))
noncomputable def m_Door_so_far : MS := (mRet (mTup (mCons (mC (.int 1)) (mCons (mFld ["Door"] "bottom" (mVar 0)) mNil))))
open Classical in
noncomputable def c_Door_next_guest : Fn := fun ds h => match ds with
  | [d] => if q : ∃ x, DoorR h d x then .ok (drNext (choose q)) h else .bad
  | _ => .bad
noncomputable def m_Door_open_seats : MS := (mSeq (mSet 1 (mLc (mRg1 (mCons (mCB fLen (mCons (mFld ["Door"] "order" (mVar 0)) mNil)) mNil)) (mgN 2) (mTest (mOp (fIn true) (mVar 2) (mFld ["Door"] "seats" (mVar 0)))) (mVar 2) [2]))
    (mRet (mCall 3 c_choosable (mCons (mMeth "Door" 1 "next_guest" c_Door_next_guest (mVar 0) mNil) (mCons (mFld ["Door"] "lost" (mVar 0)) (mCons (mVar 1) mNil))))))
open Classical in
noncomputable def c_Door_open_seats : Fn := fun ds h => match ds with
  | [d] => if q : ∃ x, DoorR h d x then (if (choose q).t = (choose q).order.length → drFree (choose q) = [] then .ok (.lst (di (drOpen (choose q)))) h else .bad) else .bad
  | _ => .bad
open Classical in
noncomputable def c_Door_taken : Fn := fun ds h => match ds with
  | [d] => if q : ∃ x, DoorR h d x then .ok (.lst (dR (choose q).r)) h else .bad
  | _ => .bad
open Classical in
noncomputable def c_Door_so_far : Fn := fun ds h => match ds with
  | [d] => if q : ∃ x, DoorR h d x then .ok (.tup [.int 1, .int (choose q).b]) h else .bad
  | _ => .bad
section
variable {h : OH} {d : Dv} {x : Dr}
theorem DoorR.insD (D : DoorR h d x) : insD h d = some (x.i, ("Door" : Str), doorF x) := by
  rw [D.d]
  exact insD_at D.at_
end
def freeI (r : Rw) (i : Nat) : List Int := (rg i).filter fun s => decide (¬ some s ∈ r)
end Ds

set_option Elab.async false
set_option linter.all false
set_option maxRecDepth 100000
namespace Ds
open PySem L2 Mw Ls
theorem Kept.tr {h h' h'' : OH} (a : Kept h h') (b : Kept h' h'') : Kept h h'' := by
  refine ⟨Nat.le_trans a.1 b.1, fun i o e => ?_⟩
  rcases b.2 i o e with e1 | c
  · rcases a.2 i o e1 with e2 | c
    · exact .inl e2
    · exact .inr (cloO_le b.1 o c)
  · exact .inr c
def dr0 (i j : Nat) (order lost : List Int) : Dr := ⟨i, j, order, lost, 0, List.replicate order.length none, 1⟩
section
variable {a b c d e : Dv}
end
noncomputable def m_Door___init__ : MS := (mSeq (mDrop (mCall 1 c_check_night (mCons (mVar 1) mNil)))
    (mSeq (mAsg (mVar 1) (mgTup 2 (mgCons (mgN 2) (mgCons (mgN 3) mgNil))))
    (mSeq (mFldSet ["Door"] "order" (mVar 0) (mCB (fList false) (mCons (mVar 2) mNil)))
    (mSeq (mFldSet ["Door"] "lost" (mVar 0) (mCB (fList false) (mCons (mVar 3) mNil)))
    (mSeq (mFldSet ["Door"] "turn" (mVar 0) (mC (.int 0)))
    (mSeq (mFldSet ["Door"] "seats" (mVar 0) (mOp (fRep true) (mLst false (mCons (mC .non) mNil)) (mCB fLen (mCons (mVar 2) mNil))))
    (mFldSet ["Door"] "bottom" (mVar 0) (mC (.int 1)))))))))
def c_Door___init__ : Fn := fun ds h => match ds with
  | [.ref i, n] => (match h[i]? with
    | some (.ins C fs) => if C = "Door" ∧ fs = [] then (match nightD h n with
      | none => if rdyN h n = true then .exc "BadNight" h else .bad
      | some (order, lost) => .ok .non (h.set i (.ins "Door" (doorF (dr0 i h.length order lost))) ++ [.lst (dR (List.replicate order.length none))])) else .bad
    | _ => .bad)
  | _ => .bad
noncomputable def m_Door_come : MS := (mSeq (mSet 2 (mMeth "Door" 1 "next_guest" c_Door_next_guest (mVar 0) mNil))
    (mSeq (mIf (mTest (mOp fIsN (mVar 2) (mC .non))) (mRaise "AllCame") mNext)
    (mSeq (mSet 3 (mMeth "Door" 1 "open_seats" c_Door_open_seats (mVar 0) mNil))
    (mSeq (mIf (mOr (mNot (mTest (mCall 1 c_is_number (mCons (mVar 1) mNil)))) (mTest (mOp (fIn true) (mVar 1) (mVar 3)))) (mRaise "BadSeat") mNext)
    (mSeq (mAsg (mVar 1) (mgSub (mFld ["Door"] "seats" (mVar 0)) (mVar 2)))
    (mSeq (mFldAug ["Door"] "bottom" (mVar 0) (mCB fLen (mCons (mVar 3) mNil)) fMul)
    (mSeq (mFldAug ["Door"] "turn" (mVar 0) (mC (.int 1)) fAdd)
    (mRet (mVar 2)))))))))
def drGo (x : Dr) (g z : Int) : Dr := { x with t := x.t + 1, r := x.r.set g.toNat (some z), b := x.b * ((drOpen x).length : Nat) }
def comeH (h : OH) (x : Dr) (g z : Int) : OH := (h.set x.j (.lst (dR (drGo x g z).r))).set x.i (.ins "Door" (doorF (drGo x g z)))
open Classical in
noncomputable def c_Door_come : Fn := fun ds h => match ds with
  | [d, s] => if q : ∃ x, DoorR h d x then (if ((choose q).t = (choose q).order.length → drFree (choose q) = []) ∧ rdy h s = true then (match (choose q).order[(choose q).t]?, s with
    | none, _ => .exc "AllCame" h
    | some g, .int z => if z ∈ drOpen (choose q) then .ok (.int g) (comeH h (choose q) g z) else .exc "BadSeat" h
    | some g, _ => .exc "BadSeat" h) else .bad) else .bad
  | _ => .bad
section
variable {h : OH} {d s : Dv} {x : Dr} {g z : Int}
theorem DoorR.go (D : DoorR h d x) (hg : x.order[x.t]? = some g) : DoorR (comeH h x g z) d (drGo x g z) := by
  have lt := (List.getElem?_eq_some_iff.mp hg).1
  have li := (List.getElem?_eq_some_iff.mp D.at_).1
  have lj := (List.getElem?_eq_some_iff.mp D.st).1
  refine ⟨D.d, ?_, ?_, lt, ?_, D.small, D.ins⟩
  · unfold comeH
    rw [show (drGo x g z).i = x.i from rfl, List.getElem?_set_self (by rw [List.length_set]; exact li)]
  · unfold comeH
    rw [show (drGo x g z).j = x.j from rfl, List.getElem?_set_ne D.ne, List.getElem?_set_self lj]
  · show (x.r.set g.toNat (some z)).length = _
    rw [List.length_set]
    exact D.len
end
end Ds

set_option Elab.async false
set_option linter.all false
set_option maxRecDepth 100000
namespace Ds
open PySem L2 Mw Ls
theorem seatsG_at {order ss : List Int} (nd : order.Nodup) (ins : ∀ x ∈ order, 0 ≤ x ∧ x < (order.length : Int)) (hl : order.length = ss.length) : ∀ t, t ≤ order.length → ∀ j g, j < t → order[j]? = some g → (seatsG order ss t).getD g.toNat 0 = ss.getD j 0
  | 0, _, j, g, hj, _ => by omega
  | t + 1, ht, j, g, hj, hg => by
    have h1 : t < order.length := ht
    have hgt : order[t]? = some (order.getD t 0) := by rw [List.getD_eq_getElem?_getD, List.getElem?_eq_getElem h1]; rfl
    have ig := ins g (List.mem_of_getElem? hg)
    have it := ins _ (List.mem_of_getElem? hgt)
    rw [seatsG, getD_set (by rw [seatsG_len]; omega)]
    by_cases c : j = t
    · subst c
      rw [hg] at hgt
      have : order.getD j 0 = g := (Option.some.inj hgt).symm
      rw [this, if_pos rfl]
    · rw [if_neg, seatsG_at nd ins hl t (by omega) j g (by omega) hg]
      intro e
      have : order.getD t 0 = g := by omega
      rw [this] at hgt
      exact c (nd_ix nd hg hgt)
theorem way_seat {order lost : List Int} (ok : NightOk 40 order lost) {w : List Int × Int} (wo : WOk order.length order.length w) : Seat order (seatsG order w.1 order.length) := by
  have hl : (seatsG order w.1 order.length).length = order.length := by rw [seatsG_len, wo.len]
  have at_ : ∀ g : Nat, g < order.length → ∃ j : Nat, order[j]? = some (g : Int) ∧ w.1[j]? = (seatsG order w.1 order.length)[g]? := fun g hg => by
    have gm := full ok.nd ok.ins (g := (g : Int)) (by omega) (by omega)
    have hlt := List.idxOf_lt_length_of_mem gm
    refine ⟨order.idxOf (g : Int), idx_at gm, ?_⟩
    have := seatsG_at ok.nd ok.ins wo.len.symm order.length (Nat.le_refl _) _ _ hlt (idx_at gm)
    rw [Int.toNat_natCast, List.getD_eq_getElem?_getD, List.getElem?_eq_getElem (by omega), List.getD_eq_getElem?_getD, List.getElem?_eq_getElem (by rw [wo.len]; exact hlt)] at this
    rw [List.getElem?_eq_getElem (by rw [wo.len]; exact hlt), List.getElem?_eq_getElem (by omega)]
    exact congrArg some this.symm
  refine ⟨hl, ?_, fun x hx => ?_⟩
  · rw [List.nodup_iff_pairwise_ne, List.pairwise_iff_getElem]
    intro i1 i2 h1l h2l h12 he
    obtain ⟨j1, p1, q1⟩ := at_ i1 (by omega)
    obtain ⟨j2, p2, q2⟩ := at_ i2 (by omega)
    have e : w.1[j1]? = w.1[j2]? := by rw [q1, q2, List.getElem?_eq_getElem h1l, List.getElem?_eq_getElem h2l, he]
    have hj1 : j1 < order.length := (List.getElem?_eq_some_iff.mp p1).1
    rw [List.getElem?_eq_getElem (by rw [wo.len]; exact hj1)] at e
    have ej : j1 = j2 := nd_ix wo.nd (List.getElem?_eq_getElem (by rw [wo.len]; exact hj1)) e.symm
    subst ej
    rw [p1] at p2
    have := Option.some.inj p2
    omega
  · obtain ⟨g, hg⟩ := List.getElem?_of_mem hx
    obtain ⟨j, _, h2⟩ := at_ g (by have := (List.getElem?_eq_some_iff.mp hg).1; omega)
    rw [hg] at h2
    exact wo.ins x (List.mem_of_getElem? h2)
theorem way_share {order lost : List Int} (ok : NightOk 40 order lost) {w : List Int × Int} (hw : w ∈ wayT order lost order.length) (wo : WOk order.length order.length w) : ((w.2 : Int) : Rat) / (((fact order.length : Nat) : Int) : Rat) = seatR order lost (seatsG order w.1 order.length) := by
  have fy := fact_pos order.length
  obtain ⟨cs, w1, w2⟩ := comes_way ok.ins order.length (Nat.le_refl _) w hw (seatsG order w.1 order.length) fun j g hj hg => by
    rw [seatsG_at ok.nd ok.ins wo.len.symm order.length (Nat.le_refl _) j g hj hg, List.getD_eq_getElem?_getD, List.getElem?_eq_getElem (by rw [wo.len]; exact hj)]
    rfl
  rw [List.drop_length] at w1
  have w3 : walkM order lost (seatsG order w.1 order.length) = (cs, none) := by unfold walkM; rw [w1]; rfl
  unfold seatR
  rw [w3]
  show _ = 1 / ((prodI cs : Int) : Rat)
  have w4 : ((prodI cs : Int) : Rat) * ((w.2 : Int) : Rat) = ((fact order.length : Nat) : Rat) := by exact_mod_cast w2
  have fz : ((fact order.length : Nat) : Rat) ≠ 0 := by
    intro z
    have : (fact order.length : Nat) = 0 := by exact_mod_cast z
    omega
  have pz : ((prodI cs : Int) : Rat) ≠ 0 := by
    intro z
    rw [z] at w4
    grind
  push_cast
  grind
def MJ (order : List Int) (V : List (List Int × Int)) (w : List Int × Int) (j : Nat) (g s : Int) : Int := Mw.MI order V g s + if order.idxOf g < j ∧ w.1[order.idxOf g]? = some s then w.2 else 0
end Ds

set_option Elab.async false
set_option linter.all false
set_option maxRecDepth 100000
namespace Ds
open PySem L2 Mw Ls
theorem _root_.Mw.WOk.quotI {n t : Nat} {lost : List Int} {g : Int} {w : List Int × Int} (h : WOk n t w) (ht : t < n) : ((pick lost g (opens n w.1)).length : Int) * (w.2 / ((pick lost g (opens n w.1)).length : Int)) = w.2 := by
  have q := h.quot (lost := lost) (g := g) ht
  have ne : (pick lost g (opens n w.1)).length ≠ 0 := by
    have hl := h.opens_len
    unfold pick
    split
    · simp
    · omega
  have nz := natR_ne ne
  have e : (((pick lost g (opens n w.1)).length : Int) : Rat) * ((w.2 / ((pick lost g (opens n w.1)).length : Int) : Int) : Rat) = (w.2 : Rat) := by
    rw [q]
    push_cast
    grind
  exact_mod_cast e
/-! ### a door at which a way comes -/
structure DoorW (h : OH) (d : Dv) (x : Dr) (order lost ss : List Int) (m : Int) : Prop where
  R : DoorR h d x
  o : x.order = order
  l : x.lost = lost
  t : x.t = ss.length
  r : x.r = rowS order ss ss.length
  le : ss.length ≤ order.length
  way : (ss, m) ∈ wayT order lost ss.length
  b : x.b * m = ((fact order.length : Nat) : Int)
  ok : NightOk 40 order lost
section
variable {h : OH} {d : Dv} {x : Dr} {order lost ss : List Int} {m : Int}
theorem DoorW.wok (D : DoorW h d x order lost ss m) : WOk order.length ss.length (ss, m) := wayT_ok order lost ss.length D.le _ D.way
theorem DoorW.free (D : DoorW h d x order lost ss m) : drFree x = opens order.length ss := by
  unfold drFree
  rw [D.o, D.r]
  exact opens_row fun y => rowS_mem D.ok.nd D.ok.ins D.le rfl
theorem DoorW.open_ (D : DoorW h d x order lost ss m) {g : Int} (hg : order[ss.length]? = some g) : drOpen x = pick lost g (opens order.length ss) := by
  unfold drOpen
  rw [D.o, D.t, hg, D.l, D.free]
  exact chos_pick _ _ _
theorem DoorW.next (D : DoorW h d x order lost ss m) {g : Int} (hg : order[ss.length]? = some g) : x.order[x.t]? = some g := by
  rw [D.o, D.t]
  exact hg
theorem DoorW.old {g : OH} (D : DoorW h d x order lost ss m) : DoorW (h ++ g) d x order lost ss m := ⟨D.R.old, D.o, D.l, D.t, D.r, D.le, D.way, D.b, D.ok⟩
theorem DoorW.far {k : Nat} {o : Ob} (D : DoorW h d x order lost ss m) (hi : k ≠ x.i) (hj : k ≠ x.j) : DoorW (h.set k o) d x order lost ss m := ⟨D.R.far hi hj, D.o, D.l, D.t, D.r, D.le, D.way, D.b, D.ok⟩
theorem DoorW.at_end (D : DoorW h d x order lost ss m) (he : ss.length = order.length) : drFree x = [] := by
  rw [D.free, ← List.length_eq_zero_iff, D.wok.opens_len]
  omega
theorem DoorW.fr (D : DoorW h d x order lost ss m) : x.t = x.order.length → drFree x = [] := fun e => D.at_end (by rw [D.t, D.o] at e; exact e)
theorem DoorW.go (D : DoorW h d x order lost ss m) {g z : Int} (hg : order[ss.length]? = some g) (hz : z ∈ pick lost g (opens order.length ss)) :
    DoorW (comeH h x g z) d (drGo x g z) order lost (ss ++ [z]) (m / ((pick lost g (opens order.length ss)).length : Int)) := by
  have lt := (List.getElem?_eq_some_iff.mp hg).1
  refine ⟨D.R.go (D.next hg), D.o, D.l, ?_, ?_, ?_, ?_, ?_, D.ok⟩
  · show x.t + 1 = _
    rw [D.t, List.length_append]
    rfl
  · show x.r.set g.toNat (some z) = _
    have gD : order.getD ss.length 0 = g := by rw [List.getD_eq_getElem?_getD, hg]; rfl
    rw [List.length_append, show ss.length + [z].length = ss.length + 1 from rfl, rowS_snoc, gD, D.r]
  · rw [List.length_append]
    exact lt
  · rw [List.length_append, show ss.length + [z].length = ss.length + 1 from rfl, wayT_succ hg]
    exact List.mem_flatMap.mpr ⟨(ss, m), D.way, List.mem_map.mpr ⟨z, hz, rfl⟩⟩
  · show x.b * ((drOpen x).length : Nat) * (m / ((pick lost g (opens order.length ss)).length : Int)) = _
    rw [D.open_ hg, ← D.b]
    have q := D.wok.quotI (lost := lost) (g := g) lt
    rw [Int.mul_assoc]
    exact congrArg (x.b * ·) q
theorem DoorW.start {i : Nat} (e : h[i]? = some (.ins "Door" [])) (ok : NightOk 40 order lost) : DoorW (h.set i (.ins "Door" (doorF (dr0 i h.length order lost))) ++ [.lst (dR (List.replicate order.length none))]) (.ref i) (dr0 i h.length order lost) order lost [] ((fact order.length : Nat) : Int) := by
  have li := (List.getElem?_eq_some_iff.mp e).1
  refine ⟨⟨rfl, ?_, ?_, Nat.zero_le _, ?_, ok.lenm, ok.ins⟩, rfl, rfl, rfl, rfl, Nat.zero_le _, ?_, ?_, ok⟩
  · show (_ ++ _)[i]? = _
    rw [List.getElem?_append_left (by rw [List.length_set]; exact li), List.getElem?_set_self li]
  · show (_ ++ _)[h.length]? = _
    rw [List.getElem?_append_right (by rw [List.length_set]; exact Nat.le_refl _), List.length_set, Nat.sub_self]
    rfl
  · exact List.length_replicate
  · show _ ∈ wayT order lost 0
    simp [wayT, waysM]
  · show (1 : Int) * _ = _
    omega
theorem rowS_seats {order ss : List Int} (nd : order.Nodup) (ins : ∀ x ∈ order, 0 ≤ x ∧ x < (order.length : Int)) (hl : order.length = ss.length) : dR (rowS order ss order.length) = di (seatsG order ss order.length) := by
  apply List.ext_getElem?
  intro k
  rw [dR_get, di_get]
  by_cases c : k < order.length
  · have q := rowS_get (ss := ss) nd ins order.length (Nat.le_refl _) (k : Int) (by omega) (by omega)
    have hm := full nd ins (g := (k : Int)) (by omega) (by omega)
    have li := List.idxOf_lt_length_of_mem hm
    rw [Int.toNat_natCast, if_pos li] at q
    have s := seatsG_at nd ins hl order.length (Nat.le_refl _) (order.idxOf (k : Int)) (k : Int) li (idx_at hm)
    rw [Int.toNat_natCast, List.getD_eq_getElem?_getD, List.getElem?_eq_getElem (by rw [seatsG_len]; omega)] at s
    rw [q, List.getElem?_eq_getElem (by rw [seatsG_len]; omega)]
    show some (ow (some _)) = some (Dv.int _)
    rw [← s]
    rfl
  · rw [List.getElem?_eq_none (by rw [rowS_len]; omega), List.getElem?_eq_none (by rw [seatsG_len]; omega)]
    rfl
theorem DoorW.seats (D : DoorW h d x order lost ss m) (he : ss.length = order.length) : dR x.r = di (seatsG order ss order.length) := by
  rw [D.r, he]
  exact rowS_seats D.ok.nd D.ok.ins he.symm
theorem DoorW.wayn (D : DoorW h d x order lost ss m) (he : ss.length = order.length) : (ss, m) ∈ wayT order lost order.length ∧ WOk order.length order.length (ss, m) := by
  have a := D.way
  have b := D.wok
  rw [he] at a b
  exact ⟨a, b⟩
theorem DoorW.seat (D : DoorW h d x order lost ss m) (he : ss.length = order.length) : Seat order (seatsG order ss order.length) := way_seat D.ok (D.wayn he).2
theorem DoorW.b_pos (D : DoorW h d x order lost ss m) : 0 < x.b := by
  have fp := fact_pos order.length
  obtain ⟨c, hc⟩ := D.wok.much
  have hc : m = _ := hc
  have hb := D.b
  have m0 : 0 ≤ m := by rw [hc]; omega
  by_cases q : 0 < x.b
  · exact q
  · have := Int.mul_nonneg (show 0 ≤ -x.b by omega) m0
    rw [Int.neg_mul] at this
    omega
theorem DoorW.share (D : DoorW h d x order lost ss m) (he : ss.length = order.length) : seatR order lost (seatsG order ss order.length) = 1 / (x.b : Rat) := by
  obtain ⟨a, b⟩ := D.wayn he
  rw [← way_share D.ok a b]
  have fp := fact_pos order.length
  have bp := D.b_pos
  have bz : ((x.b : Int) : Rat) ≠ 0 := fun z => by
    have : x.b = 0 := by exact_mod_cast z
    omega
  have e : ((x.b : Int) : Rat) * (m : Rat) = (((fact order.length : Nat) : Int) : Rat) := by
    rw [← D.b]
    push_cast
    rfl
  have fz : (((fact order.length : Nat) : Int) : Rat) ≠ 0 := fun z => by
    have : ((fact order.length : Nat) : Int) = 0 := by exact_mod_cast z
    omega
  show (m : Rat) / _ = _
  rw [← e] at fz ⊢
  grind
end
end Ds

set_option Elab.async false
set_option linter.all false
set_option maxRecDepth 100000
namespace L2
open PySem
/-! ### {k: v for target in iter if ..} -/
section
variable {X : Cx}
def tDc (wi : TI) (g : TG) (tt : TT) (tk te : TE) (vs : List Nat) : TE := fun σ H Q => wi σ H fun J H1 => ∀ D, H1 D = none → ∃ W : Nat → Nat → Hp → Prop, (∃ m, W 0 m (upd H1 D (.dK []))) ∧ ∀ i m H, W i m H →
  (J.stop i H ∧ Q (.ref D) H) ∨ (J.go i H ∧ ∃ Nx : Hp → Prop, (∀ H', Nx H' → ∃ m', m' < m ∧ W (i + 1) m' H') ∧ ∀ x H', J.yld i H x H' → g x (wipe σ vs) H' fun σ2 H2 => wipe σ2 vs = wipe σ vs ∧ tt σ2 H2 fun b H3 =>
    if b = true then tk σ2 H3 fun z H4 => te σ2 H4 fun y H5 => ∃ acc k, z = kV k ∧ H5 D = some (.dK acc) ∧ acc.length < sizeLine ∧ Nx (upd H5 D (.dK (putK acc k y))) else Nx H3)
end
end L2

set_option Elab.async false
set_option linter.all false
set_option maxRecDepth 100000
namespace L2
open PySem PySem.Spec PyProof.Rows PySem.W
/-! ### an exception on its way -/
structure ExcAt (H : Hp) (h : Heap) (ea C T : Addr) : Prop where
  ex : ∃ oe vs a0 oT ts, h.get? ea = some oe ∧ (oe.cls = .ref C ∧ vs[0]? = some a0) ∧ oe.data = .fields vs ∧ vs[1]? = some (.ref T) ∧ h.get? T = some oT ∧ oT.data = .fields ts ∧ ts[3]? = some .none
  ne : T ≠ ea
  fe : H ea = none
  fT : H T = none
structure Fly (P : Program) (w : World) (outer : List Env) (H0 : Hp) (s0 : Shared) (ea C T : Addr) (H' : Hp) (s' : Shared) : Prop where
  os : s'.os = s0.os
  bare : AllBare s'.gens
  un : Un (frs outer) [] H0 H' s0.heap s'.heap
  hok : HOk P w H' s'.heap
  exc : ExcAt H' s'.heap ea C T
  new : s0.heap.get? ea = none
  newT : s0.heap.get? T = none
def CXq (P : Program) (w : World) : CXT := fun outer H s E e s' => ∃ ea C T H', e = .ref ea ∧ Fly P w outer H s ea C T H' s' ∧ E (.ref C) none H'
section
variable {P : Program} {w : World} {H : Hp} {h h' base : Heap} {l : List Env} {ea C T : Addr}
abbrev baseF (h : Heap) (l : List Env) (ea T : Addr) : Heap := hideAll h (ea :: T :: frs l)
structure Moved (l : List Env) (ea T : Addr) (h h' : Heap) : Prop where
  keep : ∀ b o, h.get? b = some o → b ≠ ea → b ≠ T → b ∉ frs l → h'.get? b = some o
  slot : ∀ b o, h.get? b = some o → b ∈ frs l → ∃ sl, h'.get? b = some { o with slots := sl }
theorem Moved.trans {h'' : Heap} (a : Moved l ea T h h') (b : Moved l ea T h' h'') : Moved l ea T h h'' :=
  ⟨fun c o e h1 h2 h3 => b.keep c o (a.keep c o e h1 h2 h3) h1 h2 h3, fun c o e hc => by
    obtain ⟨sl, e1⟩ := a.slot c o e hc
    obtain ⟨sl', e2⟩ := b.slot c _ e1 hc
    exact ⟨sl', e2⟩⟩
end
end L2

set_option Elab.async false
set_option linter.all false
set_option maxRecDepth 100000
namespace L2
open PySem PySem.Spec PyProof.Rows PySem.W
def Flings (X : Cx) (E : XK) : Prop := ∀ (pins : List (Addr × Obj)) (σ : St) (H : Hp) (s : Shared) (C ea : Addr) (h' : Heap) (vs : List Value), Inv X pins σ H s → Heap.MadeExcOf s.heap h' ea (.ref C) vs → E (.ref C) none H → X.xe (.ref ea) { s with heap := h' }
section
variable {X : Cx} {x : Str} {C : Addr} {e : Expr} {es : List Expr} {t : TA} {np cpos pos : Pos} {E : XK} {B newId initId : String} {bmB : List Value}
def tRaise (C : Addr) (E : XK) (t : TA) : TS := fun _ σ H => t σ H fun vs H1 => vs.length ≤ sizeLine ∧ E (.ref C) none H1
end
end L2

set_option Elab.async false
set_option linter.all false
set_option maxRecDepth 100000
namespace L2
open PySem PySem.Spec PyProof.Rows PySem.W
section
variable {X : Cx} {x : Str} {a b : Str} {n : Int} {tk : Tok} {p1 p2 p3 p4 pos : Pos}
def tAnyS : TE := fun _ H Q => ∀ y : Str, Q (.str y) H
end
end L2

set_option Elab.async false
set_option linter.all false
set_option maxRecDepth 100000
namespace L2
open PySem PySem.Spec PyProof.Rows PySem.W
section
variable {X : Cx} {pins : List (Addr × Obj)} {σ : St} {H : Hp} {s : Shared} {ea C T : Addr} {h' : Heap}
end
abbrev Cx.pinQ (X : Cx) (pn : List (Addr × Obj)) : Cx := { X with pn := pn }
theorem Cx.Ok.pinQ {X : Cx} (ok : X.Ok) (pn : List (Addr × Obj)) : (X.pinQ pn).Ok :=
  ⟨ok.mod, ok.kind, ok.glob, ok.blt, ok.above, ok.inj, ok.has, ok.cab, ok.hd, ok.frames, ok.stk, ok.exf, ok.bs, ok.bsz, ok.noex, ok.exfs, ok.funs, ok.frf⟩
section
variable {X : Cx} {pins pn : List (Addr × Obj)} {σ : St} {H : Hp} {s : Shared}
theorem Inv.pinQ (I : Inv X pins σ H s) : Inv (X.pinQ (X.pn ++ pins)) [] σ H s :=
  ⟨I.ok.pinQ _, I.os, I.bare, I.base, I.loc, I.cell, I.free, I.freeC, fun p hp => I.pin p (by rw [List.append_nil] at hp; exact hp), I.hok, I.len⟩
end
def tryX (X : Cx) (pn : List (Addr × Obj)) (E' : XK) : Cx := (X.pinQ pn).wish fun e s' => ∃ pins1 σ1 H1 s1, Inv (X.pinQ pn) pins1 σ1 H1 s1 ∧ CXq X.prog X.w X.stack H1 s1 E' e s'
def hdlX (X : Cx) (pn : List (Addr × Obj)) (ea : Addr) : Cx := { X with pn := pn, A := X.A.mark (some (.ref ea)), calm := false, xe := fun _ _ => False }
def goneD (i : Nat) (D : Ends) : Ends := { nx := fun σ H => D.nx (σ.set i none) H, rt := D.rt, bk := fun σ H => D.bk (σ.set i none) H, ct := fun σ H => D.ct (σ.set i none) H }
def tTry (Pc : Addr → Prop) (K : PySem.W.Frag) (B : Addr) (i n : Nat) (tb : XK → TS) (th : Addr → Addr → TS) : TS := fun D σ H => ∃ E' : XK, tb E' D σ H ∧
  ∀ a od H', E' (.ref a) od H' → (exmOne K (.ref a) (.ref B) = some true ∧ Pc a) ∧ ∀ ea, H' ea = none → th a ea (goneD i D) ((List.replicate n none).set i (some (.ref ea))) H'
section
variable {X : Cx} {pins : List (Addr × Obj)} {σ : St} {H : Hp} {s : Shared}
end
end L2

set_option Elab.async false
set_option linter.all false
set_option maxRecDepth 100000
namespace L2
open PySem PySem.Spec PyProof.Rows PySem.W
section
variable {X : Cx} {body : List Stmt} {x n : Str} {i : Nat} {B : Addr} {np hpos pos : Pos} {b0 : Stmt} {suite : List Stmt} {tb : XK → TS} {th : Addr → Addr → TS} {Pc : Addr → Prop}
end
end L2

set_option Elab.async false
set_option linter.all false
set_option maxRecDepth 100000
namespace L2
open PySem PySem.Spec PyProof.Rows PySem.W
/-! ### isinstance(error, C) -/
structure ExcCls (K : Frag) (C : Addr) : Prop where
  ga : findIn K (.ref C) "__getattribute__" = some (some (.builtin "BaseException.__getattribute__"))
  no : findIn K (.ref C) "__getattr__" = some none
  ca : findIn K (.ref C) "__class__" = some (some (.builtin "object.__class__"))
  gt : specialIn K (.builtin "object.__class__") "__get__" = some (some (.builtin "getset_descriptor.__get__"))
  tk : takesIn K (.builtin "object.__class__") = some true
  mo : mroIn K C (.type "object") = some true
  mb : mroIn K C (.type "BaseException") = some true
  is : (clsIn K C).isSome = true
section
variable {prog : Program} {w : World} {A : Around} {E : Value → Shared → Prop} {h : Heap} {g : Array GenState} {d : Drawn} {t : Nat} {os : OsState} {K : Frag} {a C : Addr} {o : Obj}
end
def rIsiX (K : Frag) (ea C : Addr) : List V → Hp → VK → Prop := fun vs H Q => ∃ c cv b, vs = [.ref ea, c] ∧ RelV c cv ∧ (∀ u, RelV c u → u = cv) ∧ kitOne K (.ref C) cv = some b ∧ Q (.bl b) H
end L2

set_option Elab.async false
set_option linter.all false
set_option maxRecDepth 100000
namespace Ds
open PySem PySem.Spec PyProof.Rows L2
variable {G : Gx} {E : XK}
/-! ### defs that an exception may leave -/
abbrev CQ (G : Gx) : CXT := CXq G.P G.w
/-! ### raise -/
/-! ### the error's own name, as a thing of the world -/
abbrev errN : Str := "\x00error"
abbrev Gx.er (G : Gx) (ea : Addr) : Gx := { G with ca := fun x => if x = errN then some ea else G.ca x }
mutual
def noE : Dv → Bool
  | .tup xs => noEL xs
  | .lst xs => noEL xs
  | .frz xs => noEL xs
  | .dct _ xs => noEL xs
  | .fn x => !decide (x = errN)
  | _ => true
def noEL : List Dv → Bool
  | [] => true
  | d :: r => noE d && noEL r
end
def noEO : Ob → Bool
  | .lst xs => noEL xs
  | .ins C fs => !decide (C = errN) && noEL (fs.map (·.2))
  | .dead => true
section
variable {ea : Addr} (hG : G.ca errN = none)
include hG
mutual
theorem noE_of {p : Pt} : ∀ {d : Dv} {v : V}, RV G p d v → noE d = true
  | _, _, .non => rfl
  | _, _, .bl _ => rfl
  | _, _, .int _ => rfl
  | _, _, .str _ => rfl
  | _, _, .tup _ r _ => by unfold noE; exact noEL_of r
  | _, _, .lst _ r _ => by unfold noE; exact noEL_of r
  | _, _, .frz _ r _ => by unfold noE; exact noEL_of r
  | _, _, .dct _ _ r => by unfold noE; exact noEL_of r
  | _, _, .ref h => rfl
  | _, _, .fn h => by
    unfold noE
    rw [decide_eq_false (fun z => by rw [z, hG] at h; cases h)]
    rfl
  | _, _, .ty _ => rfl
  | _, _, .rng _ => rfl
  | _, _, .sset _ _ _ _ => rfl
theorem noEL_of {p : Pt} : ∀ {ds : List Dv} {vs : List V}, RVs G p ds vs → noEL ds = true
  | _, _, .nil => rfl
  | _, _, .cons r t => by unfold noEL; rw [noE_of r, noEL_of t]; rfl
end
omit hG in
theorem er_ne {x : Str} (hx : x ≠ errN) : (G.er ea).ca x = G.ca x := if_neg hx
mutual
theorem RV.up {p : Pt} : ∀ {d : Dv} {v : V}, RV G p d v → RV (G.er ea) p d v
  | _, _, .non => .non
  | _, _, .bl b => .bl b
  | _, _, .int i => .int i
  | _, _, .str x => .str x
  | _, _, .tup h r hl => .tup h (RVs.up r) hl
  | _, _, .lst h r hl => .lst h (RVs.up r) hl
  | _, _, .frz h r hl => .frz h (RVs.up r) hl
  | _, _, .dct h hk r => .dct h hk (RVs.up r)
  | _, _, .ref h => .ref h
  | _, _, .fn h => .fn (by rw [er_ne (fun z => by rw [z, hG] at h; cases h)]; exact h)
  | _, _, .ty n => .ty n
  | _, _, .rng h => .rng h
  | _, _, .sset h hm hn hl => .sset h hm hn hl
theorem RVs.up {p : Pt} : ∀ {ds : List Dv} {vs : List V}, RVs G p ds vs → RVs (G.er ea) p ds vs
  | _, _, .nil => .nil
  | _, _, .cons r t => .cons (RV.up r) (RVs.up t)
end
omit hG in
mutual
theorem RV.down {p : Pt} : ∀ {d : Dv} {v : V}, RV (G.er ea) p d v → noE d = true → RV G p d v
  | _, _, .non, _ => .non
  | _, _, .bl b, _ => .bl b
  | _, _, .int i, _ => .int i
  | _, _, .str x, _ => .str x
  | _, _, .tup h r hl, c => .tup h (RVs.down r (by unfold noE at c; exact c)) hl
  | _, _, .lst h r hl, c => .lst h (RVs.down r (by unfold noE at c; exact c)) hl
  | _, _, .frz h r hl, c => .frz h (RVs.down r (by unfold noE at c; exact c)) hl
  | _, _, .dct h hk r, c => .dct h hk (RVs.down r (by unfold noE at c; exact c))
  | _, _, .ref h, _ => .ref h
  | _, _, .fn (x := x) h, c => .fn (by
      unfold noE at c
      by_cases z : x = errN
      · rw [decide_eq_true z] at c; cases c
      · rw [er_ne z] at h; exact h)
  | _, _, .ty n, _ => .ty n
  | _, _, .rng h, _ => .rng h
  | _, _, .sset h hm hn hl, _ => .sset h hm hn hl
theorem RVs.down {p : Pt} : ∀ {ds : List Dv} {vs : List V}, RVs (G.er ea) p ds vs → noEL ds = true → RVs G p ds vs
  | _, _, .nil, _ => .nil
  | _, _, .cons r t, c => by
    unfold noEL at c
    have c := (Bool.and_eq_true _ _).mp c
    exact .cons (RV.down r c.1) (RVs.down t c.2)
end
theorem RO.up {p : Pt} {o : Ob} {x : Option HO} : RO G p o x → RO (G.er ea) p o x
  | .lst r hl => .lst (RVs.up hG r) hl
  | .ins hc hn r => .ins (by rw [er_ne (fun z => by rw [z, hG] at hc; cases hc)]; exact hc) hn (RVs.up hG r)
  | .dead => .dead
theorem noEO_of {p : Pt} {o : Ob} {x : Option HO} : RO G p o x → noEO o = true
  | .lst r hl => noEL_of hG r
  | .ins (C := C) (fs := fs) hc hn r => by
    show (!decide (C = errN) && noEL (fs.map (·.2))) = true
    rw [decide_eq_false (fun z => by rw [z, hG] at hc; cases hc), noEL_of hG r]
    rfl
  | .dead => rfl
omit hG in
theorem RO.down {p : Pt} {o : Ob} {x : Option HO} (r : RO (G.er ea) p o x) (c : noEO o = true) : RO G p o x := by
  cases r with
  | lst r hl => exact .lst (RVs.down r c) hl
  | @ins C _ _ _ _ hc hn r =>
    unfold noEO at c
    have c := (Bool.and_eq_true _ _).mp c
    refine .ins ?_ hn (RVs.down r c.2)
    by_cases z : C = errN
    · rw [decide_eq_true z] at c; cases c.1
    · rw [er_ne z] at hc; exact hc
  | dead => exact .dead
theorem Rel.up {p : Pt} {A : Hp} {h : OH} {H : Hp} (R : Rel G p A h H) : Rel (G.er ea) p A h H := ⟨R.sf, R.sa, R.fa, R.len, fun i a o e1 e2 => RO.up hG (R.obj i a o e1 e2), R.nd, R.ap⟩
theorem Rel.noE {p : Pt} {A : Hp} {h : OH} {H : Hp} (R : Rel G p A h H) : ∀ o ∈ h, noEO o = true := fun o ho => by
  obtain ⟨i, e⟩ := List.getElem?_of_mem ho
  have li := (List.getElem?_eq_some_iff.mp e).1
  exact noEO_of hG (R.obj i (p.ρ[i]'(by rw [R.len]; exact li)) o (List.getElem?_eq_getElem _) e)
omit hG in
theorem Rel.down {p : Pt} {A : Hp} {h : OH} {H : Hp} (R : Rel (G.er ea) p A h H) (c : ∀ o ∈ h, noEO o = true) : Rel G p A h H := ⟨R.sf, R.sa, R.fa, R.len, fun i a o e1 e2 => RO.down (R.obj i a o e1 e2) (c o (List.mem_of_getElem? e2)), R.nd, R.ap⟩
end
/-! ### try -/
def noES (σ : DSt) : Bool := σ.all fun x => match x with | some d => noE d | none => true
open Classical in
noncomputable def mTry (cs : List Str) (i n : Nat) (b : MS) (mh : Str → MS) : MS := fun σ h => match b σ h with
  | .exc c h' => if c ∈ cs then (match mh c ((List.replicate n none).set i (some (.fn errN))) h' with
    | .nx σ2 h2 => if (∃ g : OH, h2 = h' ++ g ∧ ∀ o ∈ g, noEO o = true) ∧ noES (σ2.set i none) = true then .nx (σ2.set i none) h2 else .bad
    | .rt d h2 => if (∃ g : OH, h2 = h' ++ g ∧ ∀ o ∈ g, noEO o = true) ∧ noE d = true then .rt d h2 else .bad
    | _ => .bad) else .bad
  | o => o
theorem RS.down {ea : Addr} {p : Pt} {σd : DSt} {σ : L2.St} (r : RS (G.er ea) p σd σ) (c : noES σd = true) : RS G p σd σ := ⟨r.len, fun j d e => by
  obtain ⟨v, e1, rv⟩ := r.get j d e
  refine ⟨v, e1, RV.down rv ?_⟩
  have := List.all_eq_true.mp c (some d) (List.mem_of_getElem? e)
  exact this⟩
/-! ### isinstance(error, D) within the suite: c is the error's class -/
def mIsiX (sub : Option Bool) (i : Nat) : ME := fun σ h => match σ[i]?, sub with
  | some (some (.fn x)), some b => if x = errN then .ok (.bl b) h else .bad
  | _, _ => .bad
end Ds

set_option Elab.async false
set_option linter.all false
set_option maxRecDepth 100000
namespace Ds
open PySem L2
variable {G : Gx} {E : XK}
/-! ### zip of two lists, the second one not longer -/
def itW (d e : Dv) (n k : Nat) : ItD := ⟨k, fun i h => match (itL d n).at_ i h, (itL e k).at_ i h with
  | some x, some y => some (.tup [x, y])
  | _, _ => none, fun h => (itL d n).fin h && (itL e k).fin h, true⟩
def mItW (a : MA) : MI := fun σ h => bindR (a σ h) fun ds h => match ds with
  | [d, e] => match getL h d, getL h e with
    | some xs, some ys => if ys.length ≤ xs.length then .ok (itW d e xs.length ys.length) h else .bad
    | _, _ => .bad
  | _ => .bad
end Ds

set_option Elab.async false
set_option linter.all false
set_option maxRecDepth 100000
namespace L2
open PySem PySem.Spec PyProof.Rows
end L2

set_option Elab.async false
set_option linter.all false
set_option maxRecDepth 100000
namespace Ds
open PySem L2
variable {G : Gx} {E : XK}
/-! ### dicts with numbers for keys -/
inductive RK (G : Gx) (p : Pt) : List (Int × Dv) → List (Key × V) → Prop
  | nil : RK G p [] []
  | cons {i : Int} {d : Dv} {v : V} {r : List (Int × Dv)} {s : List (Key × V)} (a : RV G p d v) (t : RK G p r s) : RK G p ((i, d) :: r) ((Sum.inl i, v) :: s)
def dcPut (acc : List (Int × Dv)) (k : Int) (y : Dv) : List (Int × Dv) :=
  if (acc.any fun kv => decide (kv.1 = k)) = true then acc.map (fun kv => if kv.1 = k then (kv.1, y) else kv) else acc ++ [(k, y)]
theorem RK.mono {p q : Pt} (l : p.le q) : ∀ {a : List (Int × Dv)} {b : List (Key × V)}, RK G p a b → RK G q a b
  | _, _, .nil => .nil
  | _, _, .cons a t => .cons (a.mono l) (t.mono l)
theorem RK.length {p : Pt} : ∀ {a : List (Int × Dv)} {b : List (Key × V)}, RK G p a b → a.length = b.length
  | _, _, .nil => rfl
  | _, _, .cons _ t => congrArg (· + 1) t.length
theorem RK.any {p : Pt} {k : Int} : ∀ {a : List (Int × Dv)} {b : List (Key × V)}, RK G p a b → (a.any fun kv => decide (kv.1 = k)) = (b.any fun kv => decide (kv.1 = (Sum.inl k : Key)))
  | _, _, .nil => rfl
  | _, _, .cons (i := i) _ t => by
    rw [List.any_cons, List.any_cons, t.any]
    have : decide (i = k) = decide ((Sum.inl i : Key) = Sum.inl k) := decide_eq_decide.mpr ⟨fun e => by rw [e], fun e => Sum.inl.inj e⟩
    rw [this]
theorem RK.snoc {p : Pt} {k : Int} {y : Dv} {w : V} (ry : RV G p y w) : ∀ {a : List (Int × Dv)} {b : List (Key × V)}, RK G p a b → RK G p (a ++ [(k, y)]) (b ++ [((Sum.inl k : Key), w)])
  | _, _, .nil => .cons ry .nil
  | _, _, .cons a t => .cons a (t.snoc ry)
theorem RK.map {p : Pt} {k : Int} {y : Dv} {w : V} (ry : RV G p y w) : ∀ {a : List (Int × Dv)} {b : List (Key × V)}, RK G p a b → RK G p (a.map (fun kv => if kv.1 = k then (kv.1, y) else kv)) (b.map (fun kv => if kv.1 = (Sum.inl k : Key) then (kv.1, w) else kv))
  | _, _, .nil => .nil
  | _, _, .cons (i := i) (d := d) (v := v) a t => by
    rw [List.map_cons, List.map_cons]
    by_cases e : i = k
    · rw [if_pos e, if_pos (by rw [e])]; exact .cons ry (t.map ry)
    · rw [if_neg e, if_neg (fun z => e (Sum.inl.inj z))]; exact .cons a (t.map ry)
theorem RK.put {p : Pt} {k : Int} {y : Dv} {w : V} {a : List (Int × Dv)} {b : List (Key × V)} (r : RK G p a b) (ry : RV G p y w) : RK G p (dcPut a k y) (putK b (Sum.inl k) w) := by
  unfold dcPut putK
  rw [r.any (k := k)]
  split
  · exact r.map ry
  · exact r.snoc ry
theorem RK.keys {p : Pt} : ∀ {a : List (Int × Dv)} {b : List (Key × V)}, RK G p a b → b.map (·.1) = (a.map (·.1)).map Sum.inl
  | _, _, .nil => rfl
  | _, _, .cons _ t => by rw [List.map_cons, List.map_cons, List.map_cons, t.keys]
theorem RK.vals {p : Pt} : ∀ {a : List (Int × Dv)} {b : List (Key × V)}, RK G p a b → RVs G p (a.map (·.2)) (b.map (·.2))
  | _, _, .nil => .nil
  | _, _, .cons a t => .cons a t.vals
def valD : List Int → List Dv → Int → Option Dv
  | i :: ks, d :: xs, k => if i = k then some d else valD ks xs k
  | _, _, _ => none
def compD (J : ItD) (g : MG) (tt : MT) (tk te : ME) (vs : List Nat) (σ : DSt) : Nat → Nat → List (Int × Dv) → OH → Res (List (Int × Dv))
  | 0, _, acc, h => if J.fin h = true then .ok acc h else .bad
  | k + 1, i, acc, h => match J.at_ i h with
    | none => .bad
    | some x => match g x (wipeD σ vs) h with
      | .ok σ2 h2 => match tt σ2 h2 with
        | .ok true h3 => match tk σ2 h3 with
          | .ok (.int z) h4 => match te σ2 h4 with
            | .ok y h5 => compD J g tt tk te vs σ k (i + 1) (dcPut acc z y) h5
            | _ => .bad
          | _ => .bad
        | .ok false h3 => compD J g tt tk te vs σ k (i + 1) acc h3
        | _ => .bad
      | _ => .bad
def mDc (it : MI) (g : MG) (tt : MT) (tk te : ME) (vs : List Nat) : ME := fun σ h => bindR (it σ h) fun J h => if J.lim = true then (bindR (compD J g tt tk te vs σ J.n 0 [] h) fun kvs h => .ok (.dct (kvs.map (·.1)) (kvs.map (·.2))) h) else .bad
/-! ### d[k], k in d -/
def mDget (md my : ME) : ME := fun σ h => bindR (md σ h) fun x h => bindR (my σ h) fun y h => match x, y with
  | .dct ks xs, .int k => match valD ks xs k with
    | some d => .ok d h
    | none => .bad
  | _, _ => .bad
def mDin (my md : ME) : ME := fun σ h => bindR (my σ h) fun y h => bindR (md σ h) fun x h => match x, y with
  | .dct ks xs, .int k => .ok (.bl (valD ks xs k).isSome) h
  | _, _ => .bad
def mDnotin (my md : ME) : ME := fun σ h => bindR (my σ h) fun y h => bindR (md σ h) fun x h => match x, y with
  | .dct ks xs, .int k => .ok (.bl (!(valD ks xs k).isSome)) h
  | _, _ => .bad
end Ds

set_option Elab.async false
set_option linter.all false
set_option maxRecDepth 100000
namespace L2
open PySem PyProof.Rows PyProof.Rows.G
/-! ### sorted of a list of pairs of numbers -/
def rSortedP (K : PySem.W.Frag) : List V → Hp → VK → Prop := fun vs H Q => ∃ (a : Addr) (ps : List (Addr × Int × Int)), vs = [V.ref a] ∧ SqL K H a (ps.map fun q => V.ref q.1) ∧ (∀ q ∈ ps, SqT K H q.1 [V.int q.2.1, V.int q.2.2]) ∧ ps.length ≤ sizeLine ∧
  ∀ (qs : List (Addr × Int × Int)) (p : Addr), qs.Perm ps → qs.Pairwise (fun x y => x.2.1 ≤ y.2.1) → H p = none → Q (.ref p) (upd H p (.lst (qs.map fun q => V.ref q.1)))
section
variable {X : Cx}
end
end L2
namespace Ds
open PySem L2
variable {G : Gx} {E : XK}
def dpr (q : Int × Int) : Dv := .tup [.int q.1, .int q.2]
def prsOf : List Dv → Option (List (Int × Int))
  | [] => some []
  | .tup [.int a, .int b] :: r => (prsOf r).map ((a, b) :: ·)
  | _ => none
def sortP (ns : List (Int × Int)) : List (Int × Int) := ns.mergeSort (fun a b => decide (a.1 ≤ b.1))
def fSortedP (mu : Bool) : FA := on1 fun x h => match getL h x with
  | some xs => match prsOf xs with
    | some ns => if (ns.map (·.1)).Nodup then mkL mu ((sortP ns).map dpr) h else .bad
    | none => .bad
  | none => .bad
end Ds

set_option Elab.async false
set_option linter.all false
set_option maxRecDepth 100000
namespace L2
open PySem PySem.Spec PyProof.Rows
/-! ### products of wide numbers -/
def CMulB (i j : Int) : Prop := (0 ≤ i ∧ i < 2 ^ 1000) ∧ (0 ≤ j ∧ j < 2 ^ 1000)
section
variable {X : Cx}
end
end L2
namespace Ds
open PySem L2
variable {G : Gx} {E : XK}
def cMulB (i j : Int) : Bool := (decide (0 ≤ i) && decide (i < big1000)) && (decide (0 ≤ j) && decide (j < big1000))
def fMulB : F2 := fIC cMulB fun i j => .int (i * j)
end Ds

set_option Elab.async false
set_option linter.all false
set_option maxRecDepth 100000
set_option maxHeartbeats 1000000
namespace Mw
/-! ### pairs of a guest and a seat, all at once -/
abbrev Prs := List (Int × Int)
def gs (ps : Prs) : List Int := ps.map (·.1)
def sts (ps : Prs) : List Int := ps.map (·.2)
def EvG (ps : Prs) (g s : Int) : Prop := (g ∈ gs ps → (g, s) ∈ ps) ∧ (¬ g ∈ gs ps → ¬ s ∈ sts ps)
instance (ps : Prs) (g s : Int) : Decidable (EvG ps g s) := inferInstanceAs (Decidable (_ ∧ _))
def Ev (order : List Int) (ps : Prs) (ss : List Int) : Prop := ∀ (j : Nat) (g s : Int), order[j]? = some g → ss[j]? = some s → EvG ps g s
open Classical in
noncomputable def evR (order : List Int) (ps : Prs) (ss : List Int) : Rat := if Ev order ps ss then 1 else 0
def utc (order : List Int) (ps : Prs) (t : Nat) : Nat := ((order.drop t).filter fun g => decide (¬ g ∈ gs ps)).length
def unt (order lost : List Int) (ps : Prs) (t : Nat) : Nat := ((alikeM order lost t).filter fun s => decide (¬ s ∈ sts ps)).length
def gOn (ps : Prs) (s : Int) : Int := match ps.find? (fun q => decide (q.2 = s)) with
  | some q => q.1
  | none => 0
def dueM (order lost : List Int) (ps : Prs) (t : Nat) (g : Int) : Nat × Nat :=
  if g ∈ lost then (0, 1) else if g ∈ sts ps then (if t ≤ order.idxOf (gOn ps g) then (1, 1) else (0, 1)) else (utc order ps t, unt order lost ps t)
def fitM (order : List Int) (ps : Prs) (t : Nat) (g : Int) : Nat := if g ∈ gs ps then 1 else utc order ps t
def turnM (order lost : List Int) (ps : Prs) (t : Nat) (g : Int) : Int × Int :=
  ((if EvG ps g g then ((dueM order lost ps t g).1 : Int) else 0) * ((order.length - t : Nat) : Int) + (((dueM order lost ps t g).2 : Int) - (dueM order lost ps t g).1) * (fitM order ps t g : Int), ((dueM order lost ps t g).2 : Int) * ((order.length - t : Nat) : Int))
def rR (order lost : List Int) (ps : Prs) (t : Nat) (g : Int) : Rat := ((turnM order lost ps t g).1 : Rat) / ((turnM order lost ps t g).2 : Rat)
def RT (order lost : List Int) (ps : Prs) : Nat → Rat
  | 0 => 1
  | t + 1 => RT order lost ps t * rR order lost ps t (order.getD t 0)
theorem Ev_snoc {order ss : List Int} {ps : Prs} {g s : Int} (h : order[ss.length]? = some g) : Ev order ps (ss ++ [s]) ↔ Ev order ps ss ∧ EvG ps g s := by
  constructor
  · intro e
    refine ⟨fun j g' s' h1 h2 => e j g' s' h1 ?_, e ss.length g s h (by simp)⟩
    rw [List.getElem?_append_left (List.getElem?_eq_some_iff.mp h2).1]; exact h2
  · rintro ⟨e, f⟩ j g' s' h1 h2
    by_cases hj : j < ss.length
    · rw [List.getElem?_append_left hj] at h2; exact e j g' s' h1 h2
    · rw [List.getElem?_append_right (by omega)] at h2
      have : j - ss.length = 0 := by
        have := (List.getElem?_eq_some_iff.mp h2).1
        simp at this; omega
      rw [this] at h2
      have ej : j = ss.length := by omega
      rw [ej, h] at h1
      simp at h2
      cases h1
      rw [← h2]; exact f
theorem evR_snoc {order ss : List Int} {ps : Prs} {g s : Int} (h : order[ss.length]? = some g) : evR order ps (ss ++ [s]) = evR order ps ss * (if EvG ps g s then 1 else 0) := by
  unfold evR
  by_cases h1 : Ev order ps ss <;> by_cases h2 : EvG ps g s
  · rw [if_pos ((Ev_snoc h).mpr ⟨h1, h2⟩), if_pos h1, if_pos h2]; grind
  · rw [if_neg (fun z => h2 ((Ev_snoc h).mp z).2), if_neg h2]; grind
  · rw [if_neg (fun z => h1 ((Ev_snoc h).mp z).1), if_neg h1]; grind
  · rw [if_neg (fun z => h1 ((Ev_snoc h).mp z).1), if_neg h1]; grind
theorem evR_nil (order : List Int) (ps : Prs) : evR order ps [] = 1 := if_pos fun j g s _ h => by simp at h
structure PrsOk (order : List Int) (ps : Prs) : Prop where
  g : (gs ps).Nodup
  s : (sts ps).Nodup
  gi : ∀ q ∈ ps, 0 ≤ q.1 ∧ q.1 < (order.length : Int)
  si : ∀ q ∈ ps, 0 ≤ q.2 ∧ q.2 < (order.length : Int)
theorem map_inj {α β : Type} {f : α → β} {l : List α} (h : (l.map f).Nodup) : ∀ {x y : α}, x ∈ l → y ∈ l → f x = f y → x = y := by
  induction l with
  | nil => intro x y hx; cases hx
  | cons a l ih =>
    intro x y hx hy e
    rw [List.map_cons] at h
    obtain ⟨h1, h2⟩ := List.nodup_cons.mp h
    rcases List.mem_cons.mp hx with hx | hx <;> rcases List.mem_cons.mp hy with hy | hy
    · rw [hx, hy]
    · rw [hx] at e; exact absurd (List.mem_map.mpr ⟨y, hy, e.symm⟩) h1
    · rw [hy] at e; exact absurd (List.mem_map.mpr ⟨x, hx, e⟩) h1
    · exact ih h2 hx hy e
theorem PrsOk.seat {order : List Int} {ps : Prs} (k : PrsOk order ps) {g s s' : Int} (h : (g, s) ∈ ps) (h' : (g, s') ∈ ps) : s = s' := by
  have := map_inj k.g h h' rfl
  cases this; rfl
theorem PrsOk.guest {order : List Int} {ps : Prs} (k : PrsOk order ps) {g g' s : Int} (h : (g, s) ∈ ps) (h' : (g', s) ∈ ps) : g = g' := by
  have := map_inj k.s h h' rfl
  cases this; rfl
theorem mem_gs {ps : Prs} {g : Int} : g ∈ gs ps ↔ ∃ s, (g, s) ∈ ps := by
  unfold gs
  rw [List.mem_map]
  exact ⟨fun ⟨q, h, e⟩ => ⟨q.2, by rw [← e]; exact h⟩, fun ⟨s, h⟩ => ⟨_, h, rfl⟩⟩
theorem mem_sts {ps : Prs} {s : Int} : s ∈ sts ps ↔ ∃ g, (g, s) ∈ ps := by
  unfold sts
  rw [List.mem_map]
  exact ⟨fun ⟨q, h, e⟩ => ⟨q.1, by rw [← e]; exact h⟩, fun ⟨s, h⟩ => ⟨_, h, rfl⟩⟩
theorem PrsOk.gOn {order : List Int} {ps : Prs} (k : PrsOk order ps) {g s : Int} (h : (g, s) ∈ ps) : gOn ps s = g := by
  unfold Mw.gOn
  cases e : ps.find? (fun q => decide (q.2 = s)) with
  | none => exact absurd (decide_eq_true rfl) (List.find?_eq_none.mp e (g, s) h)
  | some q =>
    have h1 := List.mem_of_find?_eq_some e
    have h2 : q.2 = s := by simpa using List.find?_some e
    have h3 : (q.1, s) ∈ ps := by rw [← h2]; exact h1
    exact k.guest h3 h
section
variable {order lost : List Int} {ps : Prs}
theorem Ev.free (ho : order.Nodup) (k : PrsOk order ps) {ss : List Int} (e : Ev order ps ss) (hl : ss.length ≤ order.length) {h s : Int} (hp : (h, s) ∈ ps) (ht : ss.length ≤ order.idxOf h) : ¬ s ∈ ss := fun q => by
  obtain ⟨j, hj, ej⟩ := List.mem_iff_getElem.mp q
  have e1 : ss[j]? = some s := by rw [List.getElem?_eq_getElem hj, ej]
  have e2 : order[j]? = some order[j] := List.getElem?_eq_getElem (by omega)
  have z := e j _ s e2 e1
  by_cases hg : order[j] ∈ gs ps
  · have := k.guest (z.1 hg) hp
    have i := idx_eq ho e2
    rw [this] at i
    omega
  · exact z.2 hg (mem_sts.mpr ⟨h, hp⟩)
theorem Ev.took (ho : order.Nodup) (hi : ∀ x ∈ order, 0 ≤ x ∧ x < (order.length : Int)) (k : PrsOk order ps) {ss : List Int} (e : Ev order ps ss) {h s : Int} (hp : (h, s) ∈ ps) (ht : order.idxOf h < ss.length) : s ∈ ss := by
  have hm := full ho hi (k.gi _ hp).1 (k.gi _ hp).2
  have e1 := idx_at hm
  have e2 : ss[order.idxOf h]? = some ss[order.idxOf h] := List.getElem?_eq_getElem ht
  have z := (e _ _ _ e1 e2).1 (mem_gs.mpr ⟨s, hp⟩)
  rw [k.seat hp z]
  exact List.getElem_mem ht
theorem idx_drop (ho : order.Nodup) {h : Int} (hm : h ∈ order) (t : Nat) : h ∈ order.drop t ↔ t ≤ order.idxOf h := by
  constructor
  · intro q
    obtain ⟨j, hj, e⟩ := List.mem_iff_getElem.mp q
    rw [List.getElem_drop] at e
    have : order[t + j]? = some h := by rw [List.getElem?_eq_getElem (by rw [List.length_drop] at hj; omega), e]
    rw [idx_eq ho this]; omega
  · intro q
    have e := idx_at hm
    obtain ⟨hl, e'⟩ := List.getElem?_eq_some_iff.mp e
    rw [List.mem_iff_getElem]
    exact ⟨order.idxOf h - t, by rw [List.length_drop]; omega, by rw [List.getElem_drop]; simp only [Nat.add_sub_cancel' q]; exact e'⟩
theorem filter_not_len (l : List Int) (m : List Int) : (l.filter fun x => decide (x ∈ m)).length + (l.filter fun x => decide (¬ x ∈ m)).length = l.length := by
  have := filter_split l fun x => decide (x ∈ m)
  have e : (l.filter fun x => decide (¬ x ∈ m)) = l.filter fun x => !decide (x ∈ m) := by
    apply List.filter_congr
    intro x _
    by_cases q : x ∈ m <;> simp [q]
  rw [e]; exact this
theorem Ev.count (ho : order.Nodup) (hi : ∀ x ∈ order, 0 ≤ x ∧ x < (order.length : Int)) (k : PrsOk order ps) {t : Nat} {w : List Int × Int} (W : WOk order.length t w) (ht : t ≤ order.length) (e : Ev order ps w.1) :
    ((opens order.length w.1).filter fun s => decide (s ∈ sts ps)).length = ((order.drop t).filter fun g => decide (g ∈ gs ps)).length := by
  have f : ∀ q ∈ ps, q.1 ∈ order := fun q hq => full ho hi (k.gi q hq).1 (k.gi q hq).2
  have l1 : (ps.filter fun q => decide (t ≤ order.idxOf q.1)).length = ((opens order.length w.1).filter fun s => decide (s ∈ sts ps)).length := by
    have a : ((ps.filter fun q => decide (t ≤ order.idxOf q.1)).map (·.2)).Nodup := by
      exact k.s.sublist ((List.filter_sublist).map _)
    have b : ((opens order.length w.1).filter fun s => decide (s ∈ sts ps)).Nodup := (nodup_opens _ _).filter _
    rw [← List.length_map (·.2)]
    apply Nat.le_antisymm
    · refine sub_len a fun x hx => ?_
      obtain ⟨q, hq, rfl⟩ := List.mem_map.mp hx
      obtain ⟨h1, h2⟩ := List.mem_filter.mp hq
      have h2 := of_decide_eq_true h2
      exact List.mem_filter.mpr ⟨mem_opens.mpr ⟨k.si q h1, e.free ho k (by rw [W.len]; exact ht) (h := q.1) h1 (by rw [W.len]; exact h2)⟩, decide_eq_true (List.mem_map.mpr ⟨q, h1, rfl⟩)⟩
    · refine sub_len b fun x hx => ?_
      obtain ⟨h1, h2⟩ := List.mem_filter.mp hx
      obtain ⟨h, hp⟩ := mem_sts.mp (of_decide_eq_true h2)
      refine List.mem_map.mpr ⟨(h, x), List.mem_filter.mpr ⟨hp, decide_eq_true ?_⟩, rfl⟩
      apply Nat.le_of_not_lt
      intro z
      exact (mem_opens.mp h1).2 (e.took ho hi k hp (by rw [W.len]; exact z))
  have l2 : (ps.filter fun q => decide (t ≤ order.idxOf q.1)).length = ((order.drop t).filter fun g => decide (g ∈ gs ps)).length := by
    have a : ((ps.filter fun q => decide (t ≤ order.idxOf q.1)).map (·.1)).Nodup := k.g.sublist ((List.filter_sublist).map _)
    have b : ((order.drop t).filter fun g => decide (g ∈ gs ps)).Nodup := (ho.sublist (List.drop_sublist _ _)).filter _
    rw [← List.length_map (·.1)]
    apply Nat.le_antisymm
    · refine sub_len a fun x hx => ?_
      obtain ⟨q, hq, rfl⟩ := List.mem_map.mp hx
      obtain ⟨h1, h2⟩ := List.mem_filter.mp hq
      exact List.mem_filter.mpr ⟨(idx_drop ho (f q h1) t).mpr (of_decide_eq_true h2), decide_eq_true (List.mem_map.mpr ⟨q, h1, rfl⟩)⟩
    · refine sub_len b fun x hx => ?_
      obtain ⟨h1, h2⟩ := List.mem_filter.mp hx
      obtain ⟨s, hp⟩ := mem_gs.mp (of_decide_eq_true h2)
      exact List.mem_map.mpr ⟨(x, s), List.mem_filter.mpr ⟨hp, decide_eq_true ((idx_drop ho (f _ hp) t).mp h1)⟩, rfl⟩
  rw [← l1, l2]
theorem sum_evT {ss : List Int} {g : Int} (h : order[ss.length]? = some g) (T : List Int) : ∀ op : List Int,
    (op.map fun s => evR order ps (ss ++ [s]) * ind T (ss ++ [s])).sum = (evR order ps ss * ind T ss) * ((op.filter fun s => decide (EvG ps g s ∧ ¬ s ∈ T)).length : Nat)
  | [] => by simp
  | a :: op => by
    rw [List.map_cons, List.sum_cons, sum_evT h T op, evR_snoc h, ind_snoc]
    by_cases h1 : EvG ps g a <;> by_cases h2 : a ∈ T
    · rw [if_pos h1, if_pos h2, List.filter_cons, if_neg (by simp [h2])]; grind
    · rw [if_pos h1, if_neg h2, List.filter_cons, if_pos (by simp [h1, h2]), List.length_cons]; push_cast; grind
    · rw [if_neg h1, List.filter_cons_of_neg (p := fun s => decide (EvG ps g s ∧ ¬ s ∈ T)) (fun z => h1 (of_decide_eq_true z).1)]; grind
    · rw [if_neg h1, List.filter_cons_of_neg (p := fun s => decide (EvG ps g s ∧ ¬ s ∈ T)) (fun z => h1 (of_decide_eq_true z).1)]; grind

theorem len_one {l : List Int} (nd : l.Nodup) {x : Int} (hx : x ∈ l) (p : Int → Bool) (h : ∀ y, p y = true ↔ y = x) : (l.filter p).length = 1 := by
  have e : (l.filter p).length = [x].length := by
    apply Nat.le_antisymm
    · exact sub_len (nd.filter _) fun y hy => by rw [(h y).mp (List.mem_filter.mp hy).2]; exact List.mem_singleton.mpr rfl
    · exact sub_len (List.nodup_cons.mpr ⟨by simp, List.nodup_nil⟩) fun y hy => by rw [List.mem_singleton.mp hy]; exact List.mem_filter.mpr ⟨hx, (h x).mpr rfl⟩
  rw [e]; rfl
noncomputable def cR (order : List Int) (ps : Prs) (t : Nat) (g : Int) (j : Nat) : Rat := if g ∈ gs ps then 1 / ((order.length - t : Nat) : Rat) else ((utc order ps t : Nat) - (j : Nat)) / ((order.length - t : Nat) : Rat)
theorem turn_open (ho : order.Nodup) (hi : ∀ x ∈ order, 0 ≤ x ∧ x < (order.length : Int)) (k : PrsOk order ps) {t : Nat} {g : Int} (hg : order[t]? = some g) {w : List Int × Int} (W : WOk order.length t w) {T : List Int} (hT : T.Nodup) (hTi : ∀ s ∈ T, 0 ≤ s ∧ s < (order.length : Int)) (hTs : ∀ s ∈ T, ¬ s ∈ sts ps) :
    ((opens order.length w.1).map fun s => evR order ps (w.1 ++ [s]) * ind T (w.1 ++ [s])).sum / ((opens order.length w.1).length : Rat) = cR order ps t g T.length * (evR order ps w.1 * ind T w.1) := by
  have ht : t < order.length := (List.getElem?_eq_some_iff.mp hg).1
  have hg' : order[w.1.length]? = some g := by rw [W.len]; exact hg
  have gm : g ∈ order := List.mem_of_getElem? hg
  rw [sum_evT hg', W.opens_len]
  by_cases he : Ev order ps w.1
  · by_cases hf : ∀ s ∈ T, ¬ s ∈ w.1
    · unfold cR
      by_cases hgg : g ∈ gs ps
      · rw [if_pos hgg]
        obtain ⟨σ, hp⟩ := mem_gs.mp hgg
        have fr := he.free ho k (by rw [W.len]; omega) hp (by rw [W.len, idx_eq ho hg]; exact Nat.le_refl _)
        have e1 : ((opens order.length w.1).filter fun s => decide (EvG ps g s ∧ ¬ s ∈ T)).length = 1 := by
          refine len_one (nodup_opens _ _) (mem_opens.mpr ⟨k.si _ hp, fr⟩) _ fun y => ?_
          rw [decide_eq_true_iff]
          constructor
          · intro z; exact (k.seat hp (z.1.1 hgg)).symm
          · rintro rfl; exact ⟨⟨fun _ => hp, fun z => absurd hgg z⟩, fun z => hTs _ z (mem_sts.mpr ⟨g, hp⟩)⟩
        rw [e1]
        push_cast
        grind
      · rw [if_neg hgg]
        have c1 := he.count ho hi k W (by omega)
        have c2 := filter_not_len (opens order.length w.1) (sts ps)
        have c3 := filter_not_len (order.drop t) (gs ps)
        rw [W.opens_len] at c2
        rw [List.length_drop] at c3
        have c4 : utc order ps t = ((opens order.length w.1).filter fun s => decide (¬ s ∈ sts ps)).length := by
          unfold utc; omega
        have ee : ((opens order.length w.1).filter fun s => decide (EvG ps g s ∧ ¬ s ∈ T)) = ((opens order.length w.1).filter fun s => decide (¬ s ∈ sts ps)).filter fun s => decide (¬ s ∈ T) := by
          rw [List.filter_filter]
          apply List.filter_congr
          intro x _
          have : EvG ps g x ↔ ¬ x ∈ sts ps := ⟨fun z => z.2 hgg, fun z => ⟨fun y => absurd y hgg, fun _ => z⟩⟩
          have q : decide (EvG ps g x ∧ ¬ x ∈ T) = decide (¬ x ∈ sts ps ∧ ¬ x ∈ T) := decide_eq_decide.mpr (and_congr_left fun _ => this)
          show decide (EvG ps g x ∧ ¬ x ∈ T) = _
          rw [q]
          by_cases a : x ∈ sts ps <;> by_cases b : x ∈ T <;> simp [a, b]
        have nd2 : ((opens order.length w.1).filter fun s => decide (¬ s ∈ sts ps)).Nodup := (nodup_opens _ _).filter _
        have c5 := filter_not_len ((opens order.length w.1).filter fun s => decide (¬ s ∈ sts ps)) T
        have c6 := filter_mem_len nd2 hT fun x hx => List.mem_filter.mpr ⟨mem_opens.mpr ⟨hTi x hx, hf x hx⟩, decide_eq_true (hTs x hx)⟩
        rw [ee]
        have c7 : ((((opens order.length w.1).filter fun s => decide (¬ s ∈ sts ps)).filter fun s => decide (¬ s ∈ T)).length : Rat) = (utc order ps t : Nat) - (T.length : Nat) := by
          have : ((((opens order.length w.1).filter fun s => decide (¬ s ∈ sts ps)).filter fun s => decide (¬ s ∈ T)).length + T.length : Nat) = utc order ps t := by omega
          have : (((((opens order.length w.1).filter fun s => decide (¬ s ∈ sts ps)).filter fun s => decide (¬ s ∈ T)).length + T.length : Nat) : Rat) = ((utc order ps t : Nat) : Rat) := by rw [this]
          push_cast at this
          push_cast
          grind
        rw [c7]
        grind
    · have : ind T w.1 = 0 := by unfold ind; rw [if_neg hf]
      rw [this]; grind
  · have : evR order ps w.1 = 0 := by unfold evR; rw [if_neg he]
    rw [this]; grind
theorem turn_own {t : Nat} {g : Int} (hg : order[t]? = some g) {w : List Int × Int} (W : WOk order.length t w) {T : List Int} (gT : ¬ g ∈ T) :
    (([g] : List Int).map fun s => evR order ps (w.1 ++ [s]) * ind T (w.1 ++ [s])).sum / ((([g] : List Int).length : Nat) : Rat) = (if EvG ps g g then 1 else 0) * (evR order ps w.1 * ind T w.1) := by
  have hg' : order[w.1.length]? = some g := by rw [W.len]; exact hg
  rw [List.map_singleton, List.sum_singleton, List.length_singleton, evR_snoc hg', ind_snoc, if_neg gT]
  push_cast
  grind
theorem utc_step {t : Nat} {g : Int} (hg : order[t]? = some g) : utc order ps t = utc order ps (t + 1) + if g ∈ gs ps then 0 else 1 := by
  obtain ⟨hl, e⟩ := List.getElem?_eq_some_iff.mp hg
  unfold utc
  rw [List.drop_eq_getElem_cons hl, e, List.filter_cons]
  by_cases h : g ∈ gs ps
  · rw [if_pos h, if_neg (by simp [h])]; omega
  · rw [if_neg h, if_pos (by simp [h]), List.length_cons]
theorem unt_lost {t : Nat} {g : Int} (hg : order[t]? = some g) (h : g ∈ lost) : unt order lost ps (t + 1) = unt order lost ps t := by
  unfold unt; rw [alike_lost hg h]
theorem unt_own {t : Nat} {g : Int} (hg : order[t]? = some g) (h : ¬ g ∈ lost) : unt order lost ps t = unt order lost ps (t + 1) + if g ∈ sts ps then 0 else 1 := by
  have pm := alike_own hg h
  unfold unt
  rw [(pm.filter _).length_eq, List.filter_cons]
  by_cases h : g ∈ sts ps
  · rw [if_pos h, if_neg (by simp [h])]; omega
  · rw [if_neg h, if_pos (by simp [h]), List.length_cons]
theorem mnz {a b : Rat} (h : a ≠ 0) (k : b ≠ 0) : a * b ≠ 0 := by
  intro z
  rcases Rat.mul_eq_zero.mp z with z | z
  · exact h z
  · exact k z
theorem alg2 {N R kk a u j fk fA fk1 fa1 : Rat} (kz : kk ≠ 0) (az : a ≠ 0) (uz : u ≠ 0) (fz : fA ≠ 0) (haj : a - j ≠ 0) (f1 : fa1 ≠ 0) (h1 : u * fk1 = fk * (u - j)) (h2 : a * fa1 = fA * (a - j)) :
    (1 - (u - j) / kk) * (N * (R * (fk * (u - j) / (fA * (a - j))))) + (u - j) / kk * (N * (R * (fk / fA))) = N * (R * ((u * kk + (a - u) * u) / (a * kk)) * (fk1 / fa1)) := by
  have e1 : fk * (u - j) / (fA * (a - j)) = u * fk1 / (a * fa1) := by rw [h1, h2]
  have e2 : fk / fA * ((u - j) / (a - j)) = u * fk1 / (a * fa1) := by rw [← e1]; have := mnz fz haj; grind
  have e3 : (u - j) * (fk / fA) = (a - j) * (u * fk1 / (a * fa1)) := by rw [← e2]; grind
  have e4 : (u - j) / kk * (N * (R * (fk / fA))) = N * R / kk * ((a - j) * (u * fk1 / (a * fa1))) := by rw [← e3]; grind
  rw [e4, e1]
  have p1 := mnz az f1
  have p2 := mnz az kz
  clear e1 e2 e3 e4 h1 h2
  grind
theorem dueM_lost {t : Nat} {g : Int} (h : g ∈ lost) : dueM order lost ps t g = (0, 1) := if_pos h
theorem rR_open {t : Nat} {g : Int} (h : dueM order lost ps t g = (0, 1)) : rR order lost ps t g = ((fitM order ps t g : Nat) : Rat) / ((order.length - t : Nat) : Rat) := by
  unfold rR turnM
  rw [h]
  have : (if EvG ps g g then ((0 : Nat) : Int) else 0) = 0 := by split <;> rfl
  dsimp only
  rw [this]
  push_cast
  grind
theorem joint (ho : order.Nodup) (hi : ∀ x ∈ order, 0 ≤ x ∧ x < (order.length : Int)) (k : PrsOk order ps) : ∀ t, t ≤ order.length → ∀ T : List Int, T.Nodup → (∀ s ∈ T, s ∈ alikeM order lost t) → (∀ s ∈ T, ¬ s ∈ sts ps) →
    EW (wayT order lost t) (fun ss => evR order ps ss * ind T ss) = (fact order.length : Nat) * (RT order lost ps t * (ff (utc order ps t : Nat) T.length / ff (unt order lost ps t : Nat) T.length))
  | 0, _, T, hT, hs, hd => by
    have e : wayT order lost 0 = [([], ((fact order.length : Nat) : Int))] := rfl
    have ea : alikeM order lost 0 = order := rfl
    rw [e, EW_cons, EW_nil]
    have hu : unt order lost ps 0 = ((order.filter fun s => decide (¬ s ∈ sts ps)).length) := rfl
    have hu2 : utc order ps 0 = ((order.filter fun s => decide (¬ s ∈ gs ps)).length) := rfl
    have f : ∀ q ∈ ps, q.1 ∈ order := fun q hq => full ho hi (k.gi q hq).1 (k.gi q hq).2
    have f2 : ∀ q ∈ ps, q.2 ∈ order := fun q hq => full ho hi (k.si q hq).1 (k.si q hq).2
    have l1 := filter_mem_len ho k.s fun x hx => by
      obtain ⟨q, hq, rfl⟩ := List.mem_map.mp hx
      exact f2 q hq
    have l2 := filter_mem_len ho k.g fun x hx => by
      obtain ⟨q, hq, rfl⟩ := List.mem_map.mp hx
      exact f q hq
    have l3 := filter_not_len order (sts ps)
    have l4 := filter_not_len order (gs ps)
    have l5 : (gs ps).length = (sts ps).length := by unfold gs sts; rw [List.length_map, List.length_map]
    have eq : unt order lost ps 0 = utc order ps 0 := by omega
    have hle : T.length ≤ utc order ps 0 := by
      rw [← eq, hu]
      exact sub_len hT fun s hs' => List.mem_filter.mpr ⟨hs s hs', decide_eq_true (hd s hs')⟩
    have h1 := ff_ne (a := utc order ps 0) hle
    have h2 : ind T [] = 1 := by unfold ind; rw [if_pos fun _ _ => (by simp)]
    show (((fact order.length : Nat) : Int) : Rat) * (evR order ps [] * ind T []) + 0 = (fact order.length : Nat) * (1 * _)
    rw [h2, evR_nil, eq]
    push_cast
    grind
  | t + 1, ht, T, hT, hs, hd => by
    have hl : t < order.length := ht
    obtain ⟨g, hg⟩ : ∃ g, order[t]? = some g := ⟨_, List.getElem?_eq_getElem hl⟩
    have gD : order.getD t 0 = g := by rw [List.getD_eq_getElem?_getD, hg]; rfl
    have W := wayT_ok order lost t (by omega)
    rw [wayT_succ hg, EW_flat hl _ W]
    have hTi : ∀ s ∈ T, 0 ≤ s ∧ s < (order.length : Int) := fun s h => hi s (alike_sub.subset (hs s h))
    have kz : ((order.length - t : Nat) : Rat) ≠ 0 := natR_ne (by omega)
    have hRT : RT order lost ps (t + 1) = RT order lost ps t * rR order lost ps t g := by
      show RT order lost ps t * rR order lost ps t (order.getD t 0) = _
      rw [gD]
    have us := utc_step (ps := ps) hg
    have fl := ff_less ((utc order ps t : Nat) : Rat) T.length
    have hgi := hi g (List.mem_of_getElem? hg)
    have gm : g ∈ order := List.mem_of_getElem? hg
    -- all free seats alike
    have opn : (EW (wayT order lost t) (fun ss => ((pick lost g (opens order.length ss)).map fun s => evR order ps (ss ++ [s]) * ind T (ss ++ [s])).sum / ((pick lost g (opens order.length ss)).length : Rat)) =
        cR order ps t g T.length * EW (wayT order lost t) (fun ss => evR order ps ss * ind T ss)) → dueM order lost ps t g = (0, 1) → unt order lost ps (t + 1) = unt order lost ps t → (∀ s ∈ T, s ∈ alikeM order lost t) →
        EW (wayT order lost t) (fun ss => ((pick lost g (opens order.length ss)).map fun s => evR order ps (ss ++ [s]) * ind T (ss ++ [s])).sum / ((pick lost g (opens order.length ss)).length : Rat)) =
        (fact order.length : Nat) * (RT order lost ps (t + 1) * (ff (utc order ps (t + 1) : Nat) T.length / ff (unt order lost ps (t + 1) : Nat) T.length)) := by
      intro e1 hdue hun hsT
      rw [e1, joint ho hi k t (by omega) T hT hsT hd, hRT, rR_open hdue, hun]
      have hle : T.length ≤ unt order lost ps t := sub_len hT fun s h => List.mem_filter.mpr ⟨hsT s h, decide_eq_true (hd s h)⟩
      have fz := ff_ne hle
      unfold cR fitM
      by_cases hgg : g ∈ gs ps
      · rw [if_pos hgg, if_pos hgg]
        rw [if_pos hgg, Nat.add_zero] at us
        rw [us]
        push_cast
        grind
      · rw [if_neg hgg, if_neg hgg]
        rw [if_neg hgg] at us
        have uz : ((utc order ps t : Nat) : Rat) ≠ 0 := natR_ne (by omega)
        have e2 : ((utc order ps (t + 1) : Nat) : Rat) = ((utc order ps t : Nat) : Rat) - 1 := by rw [us]; push_cast; grind
        rw [e2]
        grind
    by_cases hgl : g ∈ lost
    · refine opn ?_ (dueM_lost hgl) (unt_lost hg hgl) (by rw [← alike_lost hg hgl]; exact hs)
      rw [← EW_mul]
      apply EW_congr
      intro w hw
      have ep : pick lost g (opens order.length w.1) = opens order.length w.1 := by unfold pick; rw [if_neg fun q => q.1 hgl]
      rw [ep]
      exact turn_open ho hi k hg (W w hw) hT hTi hd
    · have pm := alike_own hg hgl
      have nda : (alikeM order lost t).Nodup := ho.sublist alike_sub
      have ndg := List.nodup_cons.mp (pm.nodup_iff.mp nda)
      have gT : ¬ g ∈ T := fun q => ndg.1 (hs g q)
      have hsT : ∀ s ∈ T, s ∈ alikeM order lost t := fun s h => pm.mem_iff.mpr (List.mem_cons_of_mem _ (hs s h))
      have un := unt_own (ps := ps) hg hgl
      by_cases hgs : g ∈ sts ps
      · rw [if_pos hgs, Nat.add_zero] at un
        obtain ⟨h, hp⟩ := mem_sts.mp hgs
        have go := k.gOn hp
        by_cases hh : t ≤ order.idxOf h
        · -- the own seat is free
          have hdue : dueM order lost ps t g = (1, 1) := by unfold dueM; rw [if_neg hgl, if_pos hgs, go, if_pos hh]
          have e1 : EW (wayT order lost t) (fun ss => ((pick lost g (opens order.length ss)).map fun s => evR order ps (ss ++ [s]) * ind T (ss ++ [s])).sum / ((pick lost g (opens order.length ss)).length : Rat)) =
              EW (wayT order lost t) (fun ss => (if EvG ps g g then 1 else 0) * (evR order ps ss * ind T ss)) := by
            apply EW_congr
            intro w hw
            have Ww := W w hw
            by_cases he : Ev order ps w.1
            · have fr := he.free ho k (by rw [Ww.len]; omega) hp (by rw [Ww.len]; exact hh)
              have ep : pick lost g (opens order.length w.1) = [g] := by unfold pick; rw [if_pos ⟨hgl, mem_opens.mpr ⟨hgi, fr⟩⟩]
              rw [ep]
              exact turn_own hg Ww gT
            · have z : evR order ps w.1 = 0 := by unfold evR; rw [if_neg he]
              have : ∀ op : List Int, (op.map fun s => evR order ps (w.1 ++ [s]) * ind T (w.1 ++ [s])).sum = 0 := fun op => by
                rw [sum_evT (g := g) (by rw [Ww.len]; exact hg), z]; grind
              rw [this, z]
              grind
          rw [e1, EW_mul, joint ho hi k t (by omega) T hT hsT hd, hRT, ← un]
          have er : rR order lost ps t g = if EvG ps g g then 1 else 0 := by
            unfold rR turnM
            rw [hdue]
            split <;> (push_cast; grind)
          rw [er]
          by_cases hE : EvG ps g g
          · have hgg : g ∈ gs ps := by
              apply Classical.byContradiction
              intro z
              exact hE.2 z hgs
            rw [if_pos hgg, Nat.add_zero] at us
            rw [if_pos hE, us]
            grind
          · rw [if_neg hE]; grind
        · -- the own seat is taken
          refine opn ?_ (by unfold dueM; rw [if_neg hgl, if_pos hgs, go, if_neg hh]) un.symm hsT
          rw [← EW_mul]
          apply EW_congr
          intro w hw
          have Ww := W w hw
          by_cases he : Ev order ps w.1
          · have tk := he.took ho hi k hp (by rw [Ww.len]; omega)
            have ep : pick lost g (opens order.length w.1) = opens order.length w.1 := by unfold pick; rw [if_neg fun q => (mem_opens.mp q.2).2 tk]
            rw [ep]
            exact turn_open ho hi k hg Ww hT hTi hd
          · have z : evR order ps w.1 = 0 := by unfold evR; rw [if_neg he]
            have : ∀ op : List Int, (op.map fun s => evR order ps (w.1 ++ [s]) * ind T (w.1 ++ [s])).sum = 0 := fun op => by
              rw [sum_evT (g := g) (by rw [Ww.len]; exact hg), z]; grind
            rw [this, z]
            grind
      · rw [if_neg hgs] at un
        have hdue : dueM order lost ps t g = (utc order ps t, unt order lost ps t) := by unfold dueM; rw [if_neg hgl, if_neg hgs]
        have e1 : EW (wayT order lost t) (fun ss => ((pick lost g (opens order.length ss)).map fun s => evR order ps (ss ++ [s]) * ind T (ss ++ [s])).sum / ((pick lost g (opens order.length ss)).length : Rat)) =
            EW (wayT order lost t) (fun ss => ((if EvG ps g g then 1 else 0) - cR order ps t g T.length) * (evR order ps ss * ind (g :: T) ss) + cR order ps t g T.length * (evR order ps ss * ind T ss)) := by
          apply EW_congr
          intro w hw
          have Ww := W w hw
          by_cases gf : g ∈ w.1
          · have ep : pick lost g (opens order.length w.1) = opens order.length w.1 := by unfold pick; rw [if_neg fun q => (mem_opens.mp q.2).2 gf]
            rw [ep, turn_open ho hi k hg Ww hT hTi hd, ind_cons, if_pos gf]
            grind
          · have ep : pick lost g (opens order.length w.1) = [g] := by unfold pick; rw [if_pos ⟨hgl, mem_opens.mpr ⟨hgi, gf⟩⟩]
            rw [ep, turn_own hg Ww gT, ind_cons, if_neg gf]
            grind
        have hsg : ∀ s ∈ g :: T, s ∈ alikeM order lost t := fun s h => by
          rcases List.mem_cons.mp h with e | e
          · rw [e]; exact pm.mem_iff.mpr (List.mem_cons_self ..)
          · exact hsT s e
        have hdg : ∀ s ∈ g :: T, ¬ s ∈ sts ps := fun s h => by
          rcases List.mem_cons.mp h with e | e
          · rw [e]; exact hgs
          · exact hd s e
        rw [e1, EW_add, EW_mul, EW_mul, joint ho hi k t (by omega) T hT hsT hd, joint ho hi k t (by omega) (g :: T) (List.nodup_cons.mpr ⟨gT, hT⟩) hsg hdg, List.length_cons, hRT]
        have hle : T.length ≤ unt order lost ps (t + 1) := sub_len hT fun s h => List.mem_filter.mpr ⟨hs s h, decide_eq_true (hd s h)⟩
        have er : rR order lost ps t g = ((if EvG ps g g then ((utc order ps t : Nat) : Rat) else 0) * ((order.length - t : Nat) : Rat) + (((unt order lost ps t : Nat) : Rat) - (utc order ps t : Nat)) * ((fitM order ps t g : Nat) : Rat)) / (((unt order lost ps t : Nat) : Rat) * ((order.length - t : Nat) : Rat)) := by
          unfold rR turnM
          rw [hdue]
          by_cases hE : EvG ps g g
          · rw [if_pos hE, if_pos hE]; push_cast; rfl
          · rw [if_neg hE, if_neg hE]; push_cast; rfl
        rw [er, un]
        have f1 := ff_ne (a := unt order lost ps (t + 1)) hle
        have f2 := ff_ne (a := unt order lost ps (t + 1) + 1) (j := T.length) (by omega)
        have f3 := ff_ne (a := unt order lost ps (t + 1) + 1) (j := T.length + 1) (by omega)
        have fa := ff_less ((unt order lost ps (t + 1) + 1 : Nat) : Rat) T.length
        have az : ((unt order lost ps (t + 1) + 1 : Nat) : Rat) ≠ 0 := natR_ne (by omega)
        have ea : ((unt order lost ps (t + 1) + 1 : Nat) : Rat) - 1 = (unt order lost ps (t + 1) : Nat) := by push_cast; grind
        rw [ea] at fa
        simp only [ff] at f3 ⊢
        unfold cR fitM
        by_cases hgg : g ∈ gs ps
        · have hE : ¬ EvG ps g g := fun z => hgs (mem_sts.mpr ⟨g, z.1 hgg⟩)
          rw [if_neg hE, if_pos hgg, if_pos hgg, if_neg hE]
          rw [if_pos hgg, Nat.add_zero] at us
          rw [← us]
          generalize ((order.length - t : Nat) : Rat) = kk at *
          generalize ((unt order lost ps (t + 1) + 1 : Nat) : Rat) = a at *
          generalize ((unt order lost ps (t + 1) : Nat) : Rat) = a' at *
          generalize ((utc order ps t : Nat) : Rat) = u at *
          generalize (T.length : Rat) = j at *
          generalize ff u T.length = fk at *
          generalize ff a T.length = fA at *
          generalize ff a' T.length = fa1 at *
          generalize ((fact order.length : Nat) : Rat) = N at *
          generalize RT order lost ps t = R at *
          have haj : a - j ≠ 0 := by grind
          clear e1 opn er
          have h2 : fa1 = fA * (a - j) / a := by grind
          rw [h2]
          have fz : fA ≠ 0 := f2
          clear us un hle ea f1 f2 f3 fl fa h2
          push_cast
          grind
        · have hE : EvG ps g g := ⟨fun z => absurd z hgg, fun _ => hgs⟩
          rw [if_pos hE, if_neg hgg, if_neg hgg, if_pos hE]
          rw [if_neg hgg] at us
          have e2 : ((utc order ps (t + 1) : Nat) : Rat) = ((utc order ps t : Nat) : Rat) - 1 := by rw [us]; push_cast; grind
          have uz : ((utc order ps t : Nat) : Rat) ≠ 0 := natR_ne (by omega)
          rw [e2]
          generalize ((order.length - t : Nat) : Rat) = kk at *
          generalize ((unt order lost ps (t + 1) + 1 : Nat) : Rat) = a at *
          generalize ((unt order lost ps (t + 1) : Nat) : Rat) = a' at *
          generalize ((utc order ps t : Nat) : Rat) = u at *
          generalize (T.length : Rat) = j at *
          generalize ff u T.length = fk at *
          generalize ff (u - 1) T.length = fk1 at *
          generalize ff a T.length = fA at *
          generalize ff a' T.length = fa1 at *
          generalize ((fact order.length : Nat) : Rat) = N at *
          generalize RT order lost ps t = R at *
          have haj : a - j ≠ 0 := by grind
          clear e1 opn er
          exact alg2 kz az uz f2 haj f1 fl fa
end
end Mw

set_option Elab.async false
set_option linter.all false
set_option maxRecDepth 100000
set_option maxHeartbeats 1000000
namespace Ds
open PySem L2 Mw Ls
/-! ### specs by a relation -/
open Classical in
noncomputable def c_of {α : Type} (P : α → List Dv → OH → Prop) (f : α → Dv) : Fn := fun ds h => if q : ∃ a, P a ds h then .ok (f (Classical.choose q)) h else .bad
theorem c_of_eq {α : Type} {P : α → List Dv → OH → Prop} {f : α → Dv} {a : α} {ds : List Dv} {h : OH} (p : P a ds h) (u : ∀ b, P b ds h → f b = f a) : c_of P f ds h = .ok (f a) h := by
  unfold c_of
  have q : ∃ a, P a ds h := ⟨a, p⟩
  rw [dif_pos q, u _ (Classical.choose_spec q)]
@[simp] theorem mDget_eq {md my : ME} {σ : DSt} {h : OH} : mDget md my σ h = bindR (md σ h) fun x h => bindR (my σ h) fun y h => (match x, y with
  | .dct ks xs, .int k => (match valD ks xs k with
    | some d => .ok d h
    | none => .bad)
  | _, _ => .bad) := id rfl
@[simp] theorem mDin_eq {md my : ME} {σ : DSt} {h : OH} : mDin my md σ h = bindR (my σ h) fun y h => bindR (md σ h) fun x h => (match x, y with
  | .dct ks xs, .int k => .ok (.bl (valD ks xs k).isSome) h
  | _, _ => .bad) := id rfl
@[simp] theorem mDnotin_eq {md my : ME} {σ : DSt} {h : OH} : mDnotin my md σ h = bindR (my σ h) fun y h => bindR (md σ h) fun x h => (match x, y with
  | .dct ks xs, .int k => .ok (.bl (!(valD ks xs k).isSome)) h
  | _, _ => .bad) := id rfl
@[simp] theorem mDc_eq {it : MI} {g : MG} {tt : MT} {tk te : ME} {vs : List Nat} {σ : DSt} {h : OH} : mDc it g tt tk te vs σ h = bindR (it σ h) fun J h => if J.lim = true then (bindR (compD J g tt tk te vs σ J.n 0 [] h) fun kvs h => .ok (.dct (kvs.map (·.1)) (kvs.map (·.2))) h) else .bad := id rfl
/-! ### what is told of whom, and of which seat -/
def sw (ps : Prs) : Prs := ps.map fun q => (q.2, q.1)
def dS (ps : Prs) : Dv := .dct (gs ps) (di (sts ps))
def dG (ps : Prs) : Dv := .dct (sts ps) (di (gs ps))
/-! ### dicts made of pairs -/
def foldD (l : List (Int × Int)) : List (Int × Dv) := l.foldl (fun acc q => dcPut acc q.1 (.int q.2)) []
end Ds

set_option Elab.async false
set_option linter.all false
set_option maxRecDepth 100000
set_option maxHeartbeats 1000000
namespace Ds
open PySem L2 Mw Ls
noncomputable def m_is_pair : MS := (mRet (mAndV (mCB fIsi (mCons (mVar 0) (mCons (mC (.ty "tuple")) mNil))) (mAndV (mOp fEq (mCB fLen (mCons (mVar 0) mNil)) (mC (.int 2))) (mCB fAll (mCons (mLc (mItT (mVar 0)) (mgN 2) mYes (mCall 2 c_is_counted (mCons (mVar 2) (mCons (mVar 1) mNil))) [2]) mNil)))))
def c_is_pair : Fn := fun ds h => match ds with
  | [.tup [.int a, .int b], .int n] => .ok (.bl (decide (0 ≤ a ∧ a < n) && decide (0 ≤ b ∧ b < n))) h
  | _ => .bad
/-! ### pairs that are told -/
structure PrsIn (n : Nat) (ps : Prs) : Prop where
  r : (gs ps).Pairwise (· < ·)
  i : ∀ q ∈ ps, (0 ≤ q.1 ∧ q.1 < (n : Int)) ∧ (0 ≤ q.2 ∧ q.2 < (n : Int))
theorem PrsIn.nd {n : Nat} {ps : Prs} (k : PrsIn n ps) : (gs ps).Nodup := by
  rw [List.nodup_iff_pairwise_ne]
  exact k.r.imp fun h e => by omega
noncomputable def m_are_pairs : MS := (mSeq (mIf (mOr (mNot (mTest (mCB fIsi (mCons (mVar 0) (mCons (mC (.ty "list")) mNil))))) (mNot (mTest (mCB fAll (mCons (mLc (mItL (mVar 0)) (mgN 4) mYes (mCall 2 c_is_pair (mCons (mVar 4) (mCons (mVar 1) mNil))) [4]) mNil))))) (mRet (mC (.bl false))) mNext)
    (mRet (mCall 2 c_is_rising (mCons (mLc (mItL (mVar 0)) (mgTup 2 (mgCons (mgN 2) (mgCons (mgN 3) mgNil))) mYes (mVar 2) [2, 3]) (mCons (mVar 1) mNil)))))
noncomputable def c_are_pairs : Fn := c_of (α := Nat × Prs) (fun a ds h => ∃ d, ds = [d, .int (a.1 : Nat)] ∧ getL h d = some (dp a.2) ∧ PrsIn a.1 a.2) fun _ => .bl true
noncomputable def m_untold_to_come : MS := (mRet (mCB fLen (mCons (mLc (mItL (mSl false (mVar 0) (mPart (mVar 1)) mNoPart)) (mgN 3) (mTest (mDnotin (mVar 3) (mVar 2))) (mVar 3) [3]) mNil)))
noncomputable def c_untold_to_come : Fn := c_of (α := List Int × Nat × Prs) (fun a ds h => ∃ o, ds = [o, .int (a.2.1 : Nat), dS a.2.2] ∧ getL h o = some (di a.1)) fun a => .int (utc a.1 a.2.2 a.2.1 : Nat)
theorem fm_di (l : List Int) (p : Int → Bool) (f : Dv → Option Dv) (hf : ∀ g ∈ l, f (.int g) = if p g = true then some (.int g) else none) : (di l).filterMap f = di (l.filter p) := by
  unfold di
  rw [List.filterMap_map]
  induction l with
  | nil => rfl
  | cons g l ih =>
    have ih := ih fun x hx => hf x (List.mem_cons_of_mem _ hx)
    have h0 : (f ∘ Dv.int) g = if p g = true then some (.int g) else none := hf g (List.mem_cons_self ..)
    rw [List.filter_cons]
    by_cases c : p g = true
    · rw [if_pos c] at h0
      rw [if_pos c, List.filterMap_cons_some (b := Dv.int g) h0, ih, List.map_cons]
    · rw [if_neg c] at h0
      rw [if_neg c, List.filterMap_cons_none h0, ih]
/-! ### is the own seat free? -/
def ownM (order lost : List Int) (ps : Prs) (t : Nat) (g : Int) : Nat × Nat :=
  if g ∈ sts ps then (if t ≤ order.idxOf (gOn ps g) then (1, 1) else (0, 1)) else (utc order ps t, unt order lost ps t)
structure TgIn (h : OH) (o l : Dv) (order lost : List Int) (ps : Prs) (t : Nat) : Prop where
  eo : getL h o = some (di order)
  el : getL h l = some (di lost)
  ok : NightOk 40 order lost
  pk : PrsOk order ps
  lt : t < order.length
theorem TgIn.same {h : OH} {o l : Dv} {order lost order' lost' : List Int} {ps ps' : Prs} {t t' : Nat} (a : TgIn h o l order lost ps t) (b : TgIn h o l order' lost' ps' t') : order = order' ∧ lost = lost' :=
  ⟨di_inj' (Option.some.inj (a.eo.symm.trans b.eo)), di_inj' (Option.some.inj (a.el.symm.trans b.el))⟩
noncomputable def m_own_is_free : MS := (mSeq (mSet 4 (mOp fIxT (mVar 0) (mC (.int 0))))
    (mSeq (mSet 5 (mOp fIxL (mVar 4) (mVar 1)))
    (mSeq (mIf (mTest (mDin (mVar 5) (mVar 3))) (mSeq (mSet 6 (mOp fGe (mBM fIndex (mVar 4) (mCons (mDget (mVar 3) (mVar 5)) mNil)) (mVar 1)))
    (mRet (mIfE (mTest (mVar 6)) (mTup (mCons (mC (.int 1)) (mCons (mC (.int 1)) mNil))) (mTup (mCons (mC (.int 0)) (mCons (mC (.int 1)) mNil)))))) mNext)
    (mSeq (mSet 7 (mLc (mItL (mCall 2 c_alike_seats (mCons (mVar 0) (mCons (mVar 1) mNil)))) (mgN 8) (mTest (mDnotin (mVar 8) (mVar 3))) (mVar 8) [8]))
    (mRet (mTup (mCons (mCall 3 c_untold_to_come (mCons (mVar 4) (mCons (mVar 1) (mCons (mVar 2) mNil)))) (mCons (mCB fLen (mCons (mVar 7) mNil)) mNil))))))))
noncomputable def c_own_is_free : Fn := c_of (α := List Int × List Int × Nat × Prs) (fun a ds h => ∃ o l, ds = [.tup [o, l], .int (a.2.2.1 : Nat), dS a.2.2.2, dG a.2.2.2] ∧ TgIn h o l a.1 a.2.1 a.2.2.2 a.2.2.1) fun a => .tup [.int ((ownM a.1 a.2.1 a.2.2.2 a.2.2.1 (a.1.getD a.2.2.1 0)).1 : Nat), .int ((ownM a.1 a.2.1 a.2.2.2 a.2.2.1 (a.1.getD a.2.2.1 0)).2 : Nat)]
end Ds

set_option Elab.async false
set_option linter.all false
set_option maxRecDepth 100000
set_option maxHeartbeats 1000000
namespace Ds
open PySem L2 Mw Ls
/-! ### the share of a turn -/
noncomputable def m_share_of_turn : MS := (mSeq (mAsg (mVar 0) (mgTup 2 (mgCons (mgN 4) (mgCons (mgN 5) mgNil))))
    (mSeq (mSet 6 (mOp fIxL (mVar 4) (mVar 1)))
    (mSeq (mSet 7 (mOp fSub (mCB fLen (mCons (mVar 4) mNil)) (mVar 1)))
    (mSeq (mIf (mTest (mDin (mVar 6) (mVar 2))) (mPar 8 9 (mCons (mC (.int 1)) (mCons (mOp fEq (mDget (mVar 2) (mVar 6)) (mVar 6)) mNil))) (mPar 8 9 (mCons (mCall 3 c_untold_to_come (mCons (mVar 4) (mCons (mVar 1) (mCons (mVar 2) mNil)))) (mCons (mDnotin (mVar 6) (mVar 3)) mNil))))
    (mSeq (mAsg (mIfE (mTest (mOp (fIn false) (mVar 6) (mVar 5))) (mTup (mCons (mC (.int 0)) (mCons (mC (.int 1)) mNil))) (mCall 4 c_own_is_free (mCons (mVar 0) (mCons (mVar 1) (mCons (mVar 2) (mCons (mVar 3) mNil)))))) (mgTup 2 (mgCons (mgN 10) (mgCons (mgN 11) mgNil))))
    (mSeq (mSet 12 (mIfE (mTest (mVar 9)) (mVar 10) (mC (.int 0))))
    (mRet (mTup (mCons (mOp fAdd (mOp fMul (mVar 12) (mVar 7)) (mOp fMul (mOp fSub (mVar 11) (mVar 10)) (mVar 8))) (mCons (mOp fMul (mVar 11) (mVar 7)) mNil))))))))))
noncomputable def c_share_of_turn : Fn := c_of (α := List Int × List Int × Nat × Prs) (fun a ds h => ∃ o l, ds = [.tup [o, l], .int (a.2.2.1 : Nat), dS a.2.2.2, dG a.2.2.2] ∧ TgIn h o l a.1 a.2.1 a.2.2.2 a.2.2.1) fun a => .tup [.int (turnM a.1 a.2.1 a.2.2.2 a.2.2.1 (a.1.getD a.2.2.1 0)).1, .int (turnM a.1 a.2.1 a.2.2.2 a.2.2.1 (a.1.getD a.2.2.1 0)).2]
end Ds

set_option Elab.async false
set_option linter.all false
set_option maxRecDepth 100000
set_option maxHeartbeats 1000000
namespace Mw
section
variable {order lost : List Int} {ps : Prs}
theorem ind_nil (ss : List Int) : ind [] ss = 1 := if_pos fun _ h => by cases h
theorem joint0 (ho : order.Nodup) (hi : ∀ x ∈ order, 0 ≤ x ∧ x < (order.length : Int)) (k : PrsOk order ps) {t : Nat} (ht : t ≤ order.length) : EW (wayT order lost t) (evR order ps) = (fact order.length : Nat) * RT order lost ps t := by
  have h := joint (lost := lost) ho hi k t ht [] List.nodup_nil (fun _ h => by cases h) (fun _ h => by cases h)
  have e : EW (wayT order lost t) (fun ss => evR order ps ss * ind [] ss) = EW (wayT order lost t) (evR order ps) := EW_congr fun w _ => by rw [ind_nil]; grind
  rw [e] at h
  rw [h]
  simp only [ff, List.length_nil]
  grind
def TP (order lost : List Int) (ps : Prs) : Nat → Int
  | 0 => 1
  | t + 1 => TP order lost ps t * (turnM order lost ps t (order.getD t 0)).1
def BP (order lost : List Int) (ps : Prs) : Nat → Int
  | 0 => 1
  | t + 1 => BP order lost ps t * (turnM order lost ps t (order.getD t 0)).2
/-! ### how much of all ways -/
def Fits (order : List Int) (ps : Prs) (ss : List Int) : Prop := ∀ q ∈ ps, ss[order.idxOf q.1]? = some q.2
instance (order : List Int) (ps : Prs) (ss : List Int) : Decidable (Fits order ps ss) := inferInstanceAs (Decidable (∀ q ∈ ps, ss[order.idxOf q.1]? = some q.2))
def cntI (order : List Int) (ps : Prs) (V : List (List Int × Int)) : Int := (V.map fun w => if Fits order ps w.1 then w.2 else 0).sum
def fitR (order : List Int) (ps : Prs) (ss : List Int) : Rat := if Fits order ps ss then 1 else 0
theorem cntI_cast (order : List Int) (ps : Prs) : ∀ V : List (List Int × Int), ((cntI order ps V : Int) : Rat) = EW V (fitR order ps)
  | [] => rfl
  | w :: V => by
    rw [EW_cons, ← cntI_cast order ps V]
    unfold cntI fitR
    rw [List.map_cons, List.sum_cons]
    push_cast
    by_cases c : Fits order ps w.1
    · rw [if_pos c, if_pos c]; grind
    · rw [if_neg c, if_neg c]; push_cast; grind
def togR (order lost : List Int) (ps : Prs) : Rat := ((cntI order ps (wayT order lost order.length) : Int) : Rat) / (((fact order.length : Nat) : Int) : Rat)
theorem Ev_fits (ho : order.Nodup) (hi : ∀ x ∈ order, 0 ≤ x ∧ x < (order.length : Int)) (k : PrsOk order ps) {w : List Int × Int} (W : WOk order.length order.length w) : Ev order ps w.1 ↔ Fits order ps w.1 := by
  constructor
  · intro e q hq
    have hm := full ho hi (k.gi q hq).1 (k.gi q hq).2
    have e1 := idx_at hm
    have hl : order.idxOf q.1 < w.1.length := by rw [W.len]; exact (List.getElem?_eq_some_iff.mp e1).1
    have e2 : w.1[order.idxOf q.1]? = some w.1[order.idxOf q.1] := List.getElem?_eq_getElem hl
    have z := (e _ _ _ e1 e2).1 (mem_gs.mpr ⟨q.2, hq⟩)
    rw [e2, k.seat z hq]
  · intro f j g s h1 h2
    have ij := idx_eq ho h1
    refine ⟨fun hg => ?_, fun hg hs => ?_⟩
    · obtain ⟨σ, hp⟩ := mem_gs.mp hg
      have := f _ hp
      dsimp only at this
      rw [ij, h2] at this
      cases this
      exact hp
    · obtain ⟨h, hp⟩ := mem_sts.mp hs
      have := f _ hp
      dsimp only at this
      have hm := full ho hi (k.gi _ hp).1 (k.gi _ hp).2
      have e3 := idx_at hm
      obtain ⟨l1, q1⟩ := List.getElem?_eq_some_iff.mp this
      obtain ⟨l2, q2⟩ := List.getElem?_eq_some_iff.mp h2
      have : order.idxOf h = j := (List.getElem_inj W.nd).mp (q1.trans q2.symm)
      rw [this, h1] at e3
      cases e3
      exact hg (mem_gs.mpr ⟨s, hp⟩)
theorem tog_RT (ho : order.Nodup) (hi : ∀ x ∈ order, 0 ≤ x ∧ x < (order.length : Int)) (k : PrsOk order ps) : togR order lost ps = RT order lost ps order.length := by
  have h := joint0 (lost := lost) ho hi k (Nat.le_refl _)
  have W := wayT_ok order lost order.length (Nat.le_refl _)
  have e : EW (wayT order lost order.length) (evR order ps) = EW (wayT order lost order.length) (fitR order ps) := EW_congr fun w hw => by
    unfold evR fitR
    by_cases c : Fits order ps w.1
    · rw [if_pos c, if_pos ((Ev_fits ho hi k (W w hw)).mpr c)]
    · rw [if_neg c, if_neg fun z => c ((Ev_fits ho hi k (W w hw)).mp z)]
  unfold togR
  rw [cntI_cast, ← e, h]
  have fp : ((fact order.length : Nat) : Rat) ≠ 0 := natR_ne (by have := fact_pos order.length; omega)
  push_cast
  grind
end
end Mw

set_option Elab.async false
set_option linter.all false
set_option maxRecDepth 100000
set_option maxHeartbeats 1000000
namespace Ds
open PySem L2 Mw Ls
noncomputable def m_together : MS := (mSeq (mDrop (mCall 1 c_check_night (mCons (mVar 0) mNil)))
    (mSeq (mSet 2 (mCB fLen (mCons (mOp fIxT (mVar 0) (mC (.int 0))) mNil)))
    (mSeq (mIf (mNot (mTest (mCall 2 c_are_pairs (mCons (mVar 1) (mCons (mVar 2) mNil))))) (mRaise "BadPairs") mNext)
    (mSeq (mSet 3 (mDc (mItL (mVar 1)) (mgTup 2 (mgCons (mgN 10) (mgCons (mgN 11) mgNil))) mYes (mVar 10) (mVar 11) [10, 11]))
    (mSeq (mSet 4 (mDc (mItL (mVar 1)) (mgTup 2 (mgCons (mgN 10) (mgCons (mgN 11) mgNil))) mYes (mVar 11) (mVar 10) [10, 11]))
    (mSeq (mIf (mTest (mOp fLt (mCB fLenD (mCons (mVar 4) mNil)) (mCB fLenD (mCons (mVar 3) mNil)))) (mRet (mTup (mCons (mC (.int 0)) (mCons (mC (.int 1)) mNil)))) mNext)
    (mSeq (mAsg (mTup (mCons (mC (.int 1)) (mCons (mC (.int 1)) mNil))) (mgTup 2 (mgCons (mgN 5) (mgCons (mgN 6) mgNil))))
    (mSeq (mFor (mRg1 (mCons (mVar 2) mNil)) (mgN 7)
    (mSeq (mAsg (mCall 4 c_share_of_turn (mCons (mVar 0) (mCons (mVar 7) (mCons (mVar 3) (mCons (mVar 4) mNil))))) (mgTup 2 (mgCons (mgN 8) (mgCons (mgN 9) mgNil))))
    (mSeq (mIf (mTest (mOp fEq (mVar 8) (mC (.int 0)))) (mRet (mTup (mCons (mC (.int 0)) (mCons (mC (.int 1)) mNil)))) mNext)
    (mSeq (mAug 5 (mVar 8) fMul)
    (mAug 6 (mVar 9) fMul)))))
    (mRet (mCall 2 c_lowest (mCons (mVar 5) (mCons (mVar 6) mNil))))))))))))
structure TgOk (h : OH) (v d : Dv) (order lost : List Int) (ps : Prs) : Prop where
  n : Ni h v order lost
  ok : NightOk 40 order lost
  e : getL h d = some (dp ps)
  k : PrsIn order.length ps
noncomputable def c_together : Fn := c_of (α := List Int × List Int × Prs) (fun a ds h => ∃ v d, ds = [v, d] ∧ TgOk h v d a.1 a.2.1 a.2.2) fun a => shD (togR a.1 a.2.1 a.2.2)
theorem c_tog {h : OH} {v d : Dv} {order lost : List Int} {ps : Prs} (T : TgOk h v d order lost ps) : c_together [v, d] h = .ok (shD (togR order lost ps)) h := by
  refine c_of_eq (P := fun (a : List Int × List Int × Prs) ds h => ∃ v d, ds = [v, d] ∧ TgOk h v d a.1 a.2.1 a.2.2) (f := fun a => shD (togR a.1 a.2.1 a.2.2)) (a := (order, lost, ps)) ⟨v, d, rfl, T⟩ ?_
  rintro ⟨b1, b2, b3⟩ ⟨v', d', e1, T'⟩
  dsimp only at e1 T'
  injection e1 with e3 e4
  injection e4 with e4 _
  subst e3 e4
  obtain ⟨o, l, rfl, eo, el⟩ := T.n.ex
  obtain ⟨o', l', q, eo', el'⟩ := T'.n.ex
  injection q with q
  injection q with q1 q2
  injection q2 with q2 _
  subst q1 q2
  have := di_inj' (Option.some.inj (eo.symm.trans eo'))
  subst this
  have := di_inj' (Option.some.inj (el.symm.trans el'))
  subst this
  have := dp_inj (Option.some.inj (T.e.symm.trans T'.e))
  subst this
  rfl
theorem PrsIn.ok {order : List Int} {ps : Prs} (k : PrsIn order.length ps) (hs : (sts ps).Nodup) : PrsOk order ps := ⟨k.nd, hs, fun q hq => (k.i q hq).1, fun q hq => (k.i q hq).2⟩
theorem pow_big {t : Nat} (h : t ≤ 40) : ((1600 ^ t : Nat) : Int) < big1000 := by
  have h1 : (1600 ^ t : Nat) ≤ 1600 ^ 40 := Nat.pow_le_pow_right (by decide) h
  have h2 : (1600 ^ 40 : Nat) < 2 ^ 1000 := by decide +kernel
  have h3 : ((1600 ^ t : Nat) : Int) < ((2 ^ 1000 : Nat) : Int) := by exact_mod_cast Nat.lt_of_le_of_lt h1 h2
  have e : ((2 ^ 1000 : Nat) : Int) = big1000 := by decide +kernel
  rw [e] at h3
  exact h3
inductive IvTg (v d : Dv) (h : OH) (order lost : List Int) (ps : Prs) : Nat → DSt → OH → Prop
  | mk (i : Nat) (nz : RT order lost ps i ≠ 0) (v7 v8 v9 : Option Dv) : IvTg v d h order lost ps i [some v, some d, some (.int (order.length : Nat)), some (dS ps), some (dG ps), some (.int (TP order lost ps i)), some (.int (BP order lost ps i)), v7, v8, v9, none, none] h
end Ds

set_option Elab.async false
set_option linter.all false
set_option maxRecDepth 100000
set_option maxHeartbeats 1000000
namespace Ds
open PySem L2 Mw Ls
section
variable {order lost : List Int}
theorem factR_ne (n : Nat) : (((fact n : Nat) : Int) : Rat) ≠ 0 := by
  have := fact_pos n
  intro z
  have : ((fact n : Nat) : Int) = 0 := by exact_mod_cast z
  omega
/-! ### all at once: a seating -/
def pre (order seats : List Int) (t : Nat) : List Int := (order.take t).map fun g => seats.getD g.toNat 0
def sR (order lost seats : List Int) : Nat → Rat
  | 0 => 1
  | t + 1 => sR order lost seats t * (if seats.getD (order.getD t 0).toNat 0 ∈ pick lost (order.getD t 0) (opens order.length (pre order seats t)) then 1 / ((pick lost (order.getD t 0) (opens order.length (pre order seats t))).length : Rat) else 0)
theorem pre_succ {seats : List Int} {t : Nat} {g : Int} (hg : order[t]? = some g) : pre order seats (t + 1) = pre order seats t ++ [seats.getD g.toNat 0] := by
  obtain ⟨hl, e⟩ := List.getElem?_eq_some_iff.mp hg
  unfold pre
  rw [List.take_succ_eq_append_getElem hl, List.map_append, e]; rfl
theorem EW_pre (seats : List Int) : ∀ t, t ≤ order.length → EW (wayT order lost t) (fun ss => if ss = pre order seats t then 1 else 0) = (fact order.length : Nat) * sR order lost seats t
  | 0, _ => by
    have e : wayT order lost 0 = [([], ((fact order.length : Nat) : Int))] := rfl
    rw [e, EW_cons, EW_nil]
    show (((fact order.length : Nat) : Int) : Rat) * (if ([] : List Int) = pre order seats 0 then 1 else 0) + 0 = (fact order.length : Nat) * 1
    rw [if_pos (show ([] : List Int) = pre order seats 0 from rfl)]
    push_cast
    grind
  | t + 1, ht => by
    have hl : t < order.length := ht
    obtain ⟨g, hg⟩ : ∃ g, order[t]? = some g := ⟨_, List.getElem?_eq_getElem hl⟩
    have gD : order.getD t 0 = g := by rw [List.getD_eq_getElem?_getD, hg]; rfl
    have W := wayT_ok order lost t (by omega)
    rw [wayT_succ hg, EW_flat hl _ W]
    show _ = (fact order.length : Nat) * (sR order lost seats t * _)
    rw [gD]
    have ih := EW_pre seats t (by omega)
    generalize hC : (if seats.getD g.toNat 0 ∈ pick lost g (opens order.length (pre order seats t)) then 1 / ((pick lost g (opens order.length (pre order seats t))).length : Rat) else 0) = C at *
    have e : EW (wayT order lost t) (fun ss => ((pick lost g (opens order.length ss)).map fun s => if ss ++ [s] = pre order seats (t + 1) then (1 : Rat) else 0).sum / ((pick lost g (opens order.length ss)).length : Rat)) =
        EW (wayT order lost t) (fun ss => C * (if ss = pre order seats t then 1 else 0)) := by
      refine EW_congr fun w hw => ?_
      rw [pre_succ hg]
      by_cases c : w.1 = pre order seats t
      · rw [if_pos c, ← hC, c]
        have e2 : ((pick lost g (opens order.length (pre order seats t))).map fun s => if pre order seats t ++ [s] = pre order seats t ++ [seats.getD g.toNat 0] then (1 : Rat) else 0) = (pick lost g (opens order.length (pre order seats t))).map fun u => if u = seats.getD g.toNat 0 then (1 : Rat) else 0 := by
          apply List.map_congr_left
          intro s _
          by_cases q : s = seats.getD g.toNat 0
          · rw [if_pos q, if_pos (by rw [q])]
          · rw [if_neg q, if_neg fun z => q (by simpa using z)]
        rw [e2, sum_is _ _ (pick_nodup _ _ _ _)]
        split <;> grind
      · rw [if_neg c]
        have e2 : ((pick lost g (opens order.length w.1)).map fun s => if w.1 ++ [s] = pre order seats t ++ [seats.getD g.toNat 0] then (1 : Rat) else 0) = (pick lost g (opens order.length w.1)).map fun _ => (0 : Rat) := by
          apply List.map_congr_left
          intro s _
          rw [if_neg]
          intro z
          exact c (List.append_inj_left' z rfl)
        rw [e2, sum_const]
        grind
    rw [e, EW_mul, ih]
    grind
theorem wk_sR (ho : order.Nodup) (hi : ∀ x ∈ order, 0 ≤ x ∧ x < (order.length : Int)) {seats : List Int} (S : Seat order seats) : ∀ (k t : Nat) (acc : List Int), t + k = order.length → (∀ x ∈ acc, 0 < x) → sR order lost seats t = 1 / ((prodI acc : Int) : Rat) →
    sR order lost seats order.length = (match (wk order.length lost seats (order.drop t) t (pre order seats t) acc).2 with
      | none => 1 / ((prodI (wk order.length lost seats (order.drop t) t (pre order seats t) acc).1 : Int) : Rat)
      | some _ => 0)
  | 0, t, acc, h, _, e => by
    have : t = order.length := by omega
    subst this
    rw [List.drop_length]
    exact e
  | k + 1, t, acc, h, ha, e => by
    have hl : t < order.length := by omega
    obtain ⟨g, hg⟩ : ∃ g, order[t]? = some g := ⟨_, List.getElem?_eq_getElem hl⟩
    have gD : order.getD t 0 = g := by rw [List.getD_eq_getElem?_getD, hg]; rfl
    have hgi := hi g (List.mem_of_getElem? hg)
    have ed : order.drop t = g :: order.drop (t + 1) := by
      rw [List.drop_eq_getElem_cons hl, (List.getElem?_eq_some_iff.mp hg).2]
    rw [ed]
    have hs : sR order lost seats (t + 1) = sR order lost seats t * (if seats.getD g.toNat 0 ∈ pick lost g (opens order.length (pre order seats t)) then 1 / ((pick lost g (opens order.length (pre order seats t))).length : Rat) else 0) := by
      show sR order lost seats t * _ = _
      rw [gD]
    have p0 : 0 < prodI acc := prodI_pos ha
    have pz : ((prodI acc : Int) : Rat) ≠ 0 := by
      intro z
      have : prodI acc = 0 := by exact_mod_cast z
      omega
    -- seats told so far are others
    have pnd : ∀ j, j ≤ order.length → (pre order seats j).Nodup := fun j _ => by
      unfold pre
      have : ∀ l : List Int, l.Nodup → (∀ x ∈ l, x ∈ order) → (l.map fun g => seats.getD g.toNat 0).Nodup := by
        intro l
        induction l with
        | nil => intro _ _; exact List.nodup_nil
        | cons a l ih =>
          intro nd hm
          obtain ⟨n1, n2⟩ := List.nodup_cons.mp nd
          rw [List.map_cons, List.nodup_cons]
          refine ⟨fun q => ?_, ih n2 fun x hx => hm x (List.mem_cons_of_mem _ hx)⟩
          obtain ⟨b, hb, eb⟩ := List.mem_map.mp q
          have := seat_inj S (hi b (hm b (List.mem_cons_of_mem _ hb))) (hi a (hm a (List.mem_cons_self ..))) eb
          exact n1 (this ▸ hb)
      exact this _ (ho.sublist (List.take_sublist _ _)) fun x hx => List.mem_of_mem_take hx
    have pin : ∀ x ∈ pre order seats t, 0 ≤ x ∧ x < (order.length : Int) := fun x hx => by
      obtain ⟨b, hb, rfl⟩ := List.mem_map.mp hx
      have hb' := hi b (List.mem_of_mem_take hb)
      exact S.ins _ (getD_mem hb'.1 (by rw [S.len]; exact hb'.2))
    have plen : (pre order seats t).length = t := by unfold pre; rw [List.length_map, List.length_take]; omega
    have ol := length_opens (n := order.length) (pnd t (by omega)) pin
    rw [plen] at ol
    have nin : ¬ seats.getD g.toNat 0 ∈ pre order seats t := fun z => by
      have := pnd (t + 1) (by omega)
      rw [pre_succ hg] at this
      exact absurd rfl ((List.nodup_append.mp this).2.2 _ z _ (List.mem_singleton.mpr rfl))
    have sin : 0 ≤ seats.getD g.toNat 0 ∧ seats.getD g.toNat 0 < (order.length : Int) := S.ins _ (getD_mem hgi.1 (by rw [S.len]; exact hgi.2))
    by_cases c : g ∈ lost ∨ g ∈ pre order seats t
    · have ep : pick lost g (opens order.length (pre order seats t)) = opens order.length (pre order seats t) := by
        unfold pick
        rw [if_neg]
        rintro ⟨a, b⟩
        rcases c with c | c
        · exact a c
        · exact (mem_opens.mp b).2 c
      rw [ep, if_pos (mem_opens.mpr ⟨sin, nin⟩)] at hs
      have w1 : wk order.length lost seats (g :: order.drop (t + 1)) t (pre order seats t) acc = wk order.length lost seats (order.drop (t + 1)) (t + 1) (pre order seats (t + 1)) (acc ++ [(order.length : Int) - (t : Int)]) := by
        rw [pre_succ hg]
        show (if _ then _ else _) = _
        rw [if_pos c]
      rw [w1]
      refine wk_sR ho hi S k (t + 1) _ (by omega) (fun x hx => ?_) ?_
      · rcases List.mem_append.mp hx with h | h
        · exact ha x h
        · rw [List.mem_singleton.mp h]; omega
      · rw [hs, e, prodI_snoc, show ((order.length : Int) - (t : Int)) = (((opens order.length (pre order seats t)).length : Nat) : Int) by omega]
        have : (((opens order.length (pre order seats t)).length : Nat) : Rat) ≠ 0 := natR_ne (by omega)
        push_cast
        have := mnz pz this
        grind
    · have hno : ¬ g ∈ lost ∧ ¬ g ∈ pre order seats t := ⟨fun z => c (.inl z), fun z => c (.inr z)⟩
      have ep : pick lost g (opens order.length (pre order seats t)) = [g] := by
        unfold pick
        rw [if_pos ⟨hno.1, mem_opens.mpr ⟨hgi, hno.2⟩⟩]
      rw [ep] at hs
      by_cases c2 : seats.getD g.toNat 0 = g
      · rw [if_pos (by rw [c2]; exact List.mem_singleton.mpr rfl)] at hs
        have w1 : wk order.length lost seats (g :: order.drop (t + 1)) t (pre order seats t) acc = wk order.length lost seats (order.drop (t + 1)) (t + 1) (pre order seats (t + 1)) (acc ++ [1]) := by
          rw [pre_succ hg]
          show (if _ then _ else if _ then _ else _) = _
          rw [if_neg c, if_pos c2]
        rw [w1]
        refine wk_sR ho hi S k (t + 1) _ (by omega) (fun x hx => ?_) ?_
        · rcases List.mem_append.mp hx with h | h
          · exact ha x h
          · rw [List.mem_singleton.mp h]; decide
        · rw [hs, e, prodI_snoc, List.length_singleton]
          push_cast
          grind
      · rw [if_neg (fun z => c2 (List.mem_singleton.mp z))] at hs
        have w1 : wk order.length lost seats (g :: order.drop (t + 1)) t (pre order seats t) acc = (acc, some t) := by
          show (if _ then _ else if _ then _ else _) = _
          rw [if_neg c, if_neg c2]
        rw [w1]
        have z1 : sR order lost seats (t + 1) = 0 := by rw [hs]; grind
        have gone : ∀ d, sR order lost seats (t + 1 + d) = 0 := by
          intro d
          induction d with
          | zero => exact z1
          | succ d ih =>
            show sR order lost seats (t + 1 + d) * _ = 0
            rw [ih]; grind
        have := gone k
        rwa [show t + 1 + k = order.length by omega] at this
def allP (n : Nat) (seats : List Int) : Prs := (List.range n).map fun g : Nat => ((g : Int), seats.getD g 0)
theorem tog_all (ok : NightOk 40 order lost) {seats : List Int} (S : Seat order seats) : togR order lost (allP order.length seats) = seatR order lost seats := by
  have W := wayT_ok order lost order.length (Nat.le_refl _)
  have e1 := EW_pre (order := order) (lost := lost) seats order.length (Nat.le_refl _)
  have e2 := wk_sR (lost := lost) ok.nd ok.ins S order.length 0 [] (by omega) (fun _ h => by cases h) (by show (1 : Rat) = 1 / ((prodI [] : Int) : Rat); decide +kernel)
  have e3 : seatR order lost seats = sR order lost seats order.length := by
    rw [e2]
    rfl
  have e4 : EW (wayT order lost order.length) (fitR order (allP order.length seats)) = EW (wayT order lost order.length) (fun ss => if ss = pre order seats order.length then 1 else 0) := EW_congr fun w hw => by
    have Ww := W w hw
    have : Fits order (allP order.length seats) w.1 ↔ w.1 = pre order seats order.length := by
      constructor
      · intro f
        apply List.ext_getElem?
        intro j
        by_cases hj : j < order.length
        · have hg : order[j]? = some order[j] := List.getElem?_eq_getElem hj
          have hgi := ok.ins _ (List.getElem_mem hj)
          have := f ((order[j].toNat : Int), seats.getD order[j].toNat 0) (List.mem_map.mpr ⟨order[j].toNat, List.mem_range.mpr (by omega), rfl⟩)
          dsimp only at this
          rw [Int.toNat_of_nonneg hgi.1, idx_eq ok.nd hg] at this
          rw [this]
          unfold pre
          rw [List.take_length, List.getElem?_map, hg]; rfl
        · rw [List.getElem?_eq_none (by rw [Ww.len]; omega), List.getElem?_eq_none (by unfold pre; rw [List.length_map, List.take_length]; omega)]
      · intro e q hq
        obtain ⟨g, hg, rfl⟩ := List.mem_map.mp hq
        have hm := full ok.nd ok.ins (g := (g : Int)) (by omega) (by have := List.mem_range.mp hg; omega)
        rw [e]
        unfold pre
        dsimp only
        rw [List.take_length, List.getElem?_map, idx_at hm]
        rfl
    unfold fitR
    by_cases c : w.1 = pre order seats order.length
    · rw [if_pos c, if_pos (this.mpr c)]
    · rw [if_neg c, if_neg fun z => c (this.mp z)]
  unfold togR
  rw [cntI_cast, e4, e1, e3]
  have := factR_ne order.length
  push_cast at this ⊢
  grind
end
end Ds

set_option Elab.async false
set_option linter.all false
set_option maxRecDepth 100000
set_option maxHeartbeats 1000000
namespace Ds
open PySem L2 Mw Ls
/-! ### pairs from a row -/
def prT (p : Nat → Bool) (row : Nat → Int) (i : Nat) : Prs := ((List.range i).filter p).map fun g : Nat => ((g : Int), row g)
theorem prT_succ (p : Nat → Bool) (row : Nat → Int) (i : Nat) : prT p row (i + 1) = if p i = true then prT p row i ++ [((i : Int), row i)] else prT p row i := by
  unfold prT
  rw [List.range_succ, List.filter_append, List.map_append]
  by_cases c : p i = true
  · rw [if_pos c]; simp [c]
  · rw [if_neg c]; simp [c]
theorem prT_in {p : Nat → Bool} {row : Nat → Int} {n : Nat} (h : ∀ g : Nat, g < n → 0 ≤ row g ∧ row g < (n : Int)) : PrsIn n (prT p row n) := by
  constructor
  · unfold gs prT
    rw [List.map_map, List.pairwise_map]
    exact (List.pairwise_lt_range.filter _).imp fun {a b} h => by show ((a : Nat) : Int) < ((b : Nat) : Int); omega
  · intro q hq
    unfold prT at hq
    obtain ⟨g, hg, rfl⟩ := List.mem_map.mp hq
    have := List.mem_range.mp (List.mem_filter.mp hg).1
    exact ⟨⟨by show (0 : Int) ≤ _; omega, by show (_ : Int) < _; omega⟩, h g this⟩
section
variable {order lost : List Int}
def unlP (order lost : List Int) : Prs := prT (fun g => decide (¬ (g : Int) ∈ lost)) (fun g => (g : Int)) order.length
theorem mem_unlP {a b : Int} : (a, b) ∈ unlP order lost ↔ a = b ∧ (0 ≤ a ∧ a < (order.length : Int)) ∧ ¬ a ∈ lost := by
  unfold unlP prT
  rw [List.mem_map]
  constructor
  · rintro ⟨g, hg, e⟩
    obtain ⟨h1, h2⟩ := List.mem_filter.mp hg
    have h1 := List.mem_range.mp h1
    cases e
    exact ⟨rfl, ⟨by omega, by omega⟩, of_decide_eq_true h2⟩
  · rintro ⟨rfl, h, k⟩
    refine ⟨a.toNat, List.mem_filter.mpr ⟨List.mem_range.mpr (by omega), decide_eq_true (by rw [Int.toNat_of_nonneg h.1]; exact k)⟩, by dsimp only; rw [Int.toNat_of_nonneg h.1]⟩
theorem unl_in : PrsIn order.length (unlP order lost) := prT_in fun g h => ⟨by omega, by omega⟩
theorem unl_ok : PrsOk order (unlP order lost) := by
  refine unl_in.ok ?_
  have e : sts (unlP order lost) = gs (unlP order lost) := by
    unfold sts gs unlP prT
    rw [List.map_map, List.map_map]; rfl
  rw [e]
  exact unl_in.nd
theorem gs_unl {g : Int} : g ∈ gs (unlP order lost) ↔ (0 ≤ g ∧ g < (order.length : Int)) ∧ ¬ g ∈ lost := by
  rw [mem_gs]
  constructor
  · rintro ⟨s, h⟩
    exact (mem_unlP.mp h).2
  · intro h
    exact ⟨g, mem_unlP.mpr ⟨rfl, h⟩⟩
def AI (order lost : List Int) : Nat → Int
  | 0 => 1
  | t + 1 => if order.getD t 0 ∈ lost then AI order lost t else AI order lost t * ((order.length : Int) - (t : Int))
def BI (order lost : List Int) : Nat → Int
  | 0 => 1
  | t + 1 => if order.getD t 0 ∈ lost then BI order lost t else BI order lost t * (((order.length : Int) - (t : Int)) + (cameL order lost t : Int))
theorem ff_add (x : Rat) (i : Nat) : ∀ j, ff x (i + j) = ff x i * ff (x - (i : Nat)) j
  | 0 => by simp only [ff, Nat.add_zero]; grind
  | j + 1 => by
    show ff x (i + j) * (x - ((i + j : Nat) : Rat)) = ff x i * (ff (x - (i : Nat)) j * (x - (i : Nat) - (j : Nat)))
    rw [ff_add x i j]
    push_cast
    grind
theorem came_le (t : Nat) : cameL order lost t ≤ t := by
  unfold cameL
  refine Nat.le_trans (List.length_filter_le ..) ?_
  rw [List.length_take]; omega
theorem utc_unl (ho : order.Nodup) (hi : ∀ x ∈ order, 0 ≤ x ∧ x < (order.length : Int)) (t : Nat) : utc order (unlP order lost) t + cameL order lost t = cameL order lost order.length := by
  unfold utc cameL
  rw [List.take_length]
  have e : ((order.drop t).filter fun g => decide (¬ g ∈ gs (unlP order lost))) = (order.drop t).filter fun g => decide (g ∈ lost) := by
    apply List.filter_congr
    intro x hx
    apply decide_eq_decide.mpr
    rw [gs_unl]
    have := hi x (List.mem_of_mem_drop hx)
    constructor
    · intro z
      apply Classical.byContradiction
      intro y
      exact z ⟨this, y⟩
    · intro z y; exact y.2 z
  rw [e, Nat.add_comm, ← List.length_append, ← List.filter_append, List.take_append_drop]
theorem RT_unl (ho : order.Nodup) (hi : ∀ x ∈ order, 0 ≤ x ∧ x < (order.length : Int)) : ∀ t, t ≤ order.length →
    RT order lost (unlP order lost) t * ff (order.length : Nat) t = ff (cameL order lost order.length : Nat) (cameL order lost t) * (AI order lost t : Rat) ∧ (BI order lost t : Rat) = ff (order.length : Nat) (t - cameL order lost t)
  | 0, _ => by
    show (1 : Rat) * 1 = ff _ (cameL order lost 0) * ((1 : Int) : Rat) ∧ ((1 : Int) : Rat) = ff _ (0 - cameL order lost 0)
    have : cameL order lost 0 = 0 := rfl
    rw [this]
    exact ⟨rfl, rfl⟩
  | t + 1, h => by
    have hl : t < order.length := h
    obtain ⟨g, hg⟩ : ∃ g, order[t]? = some g := ⟨_, List.getElem?_eq_getElem hl⟩
    have gD : order.getD t 0 = g := by rw [List.getD_eq_getElem?_getD, hg]; rfl
    obtain ⟨i1, i2⟩ := RT_unl ho hi t (by omega)
    have hgi := hi g (List.mem_of_getElem? hg)
    have cs := cameL_succ (lost := lost) hg
    have cl := came_le (order := order) (lost := lost) t
    have kz : ((order.length - t : Nat) : Rat) ≠ 0 := natR_ne (by omega)
    have ek : ((order.length - t : Nat) : Rat) = ((order.length : Nat) : Rat) - (t : Nat) := by
      have : ((order.length - t + t : Nat) : Rat) = ((order.length : Nat) : Rat) := by rw [Nat.sub_add_cancel (by omega)]
      push_cast at this
      push_cast
      grind
    show RT order lost (unlP order lost) t * rR order lost (unlP order lost) t (order.getD t 0) * (ff (order.length : Nat) t * (((order.length : Nat) : Rat) - (t : Nat))) = _ * ((if order.getD t 0 ∈ lost then AI order lost t else AI order lost t * ((order.length : Int) - (t : Int)) : Int) : Rat) ∧
      ((if order.getD t 0 ∈ lost then BI order lost t else BI order lost t * (((order.length : Int) - (t : Int)) + (cameL order lost t : Int)) : Int) : Rat) = _
    rw [gD]
    by_cases c : g ∈ lost
    · rw [if_pos c, if_pos c, rR_open (dueM_lost c)]
      rw [if_pos c] at cs
      have f1 : fitM order (unlP order lost) t g = utc order (unlP order lost) t := by unfold fitM; rw [if_neg fun z => (gs_unl.mp z).2 c]
      have u := utc_unl (lost := lost) ho hi t
      rw [f1, cs]
      have eu : ((utc order (unlP order lost) t : Nat) : Rat) = ((cameL order lost order.length : Nat) : Rat) - (cameL order lost t : Nat) := by
        have : ((utc order (unlP order lost) t + cameL order lost t : Nat) : Rat) = ((cameL order lost order.length : Nat) : Rat) := by rw [u]
        push_cast at this
        push_cast
        grind
      constructor
      · show _ = ff _ (cameL order lost t) * (((cameL order lost order.length : Nat) : Rat) - (cameL order lost t : Nat)) * _
        rw [eu]
        rw [ek] at kz ⊢
        grind
      · rw [i2]
        congr 1
        omega
    · rw [if_neg c, if_neg c]
      rw [if_neg c] at cs
      have cs : cameL order lost (t + 1) = cameL order lost t := cs
      have gp : (g, g) ∈ unlP order lost := mem_unlP.mpr ⟨rfl, hgi, c⟩
      have gst : g ∈ sts (unlP order lost) := mem_sts.mpr ⟨g, gp⟩
      have hE : EvG (unlP order lost) g g := ⟨fun _ => gp, fun z => absurd (mem_gs.mpr ⟨g, gp⟩) z⟩
      have hd : dueM order lost (unlP order lost) t g = (1, 1) := by
        unfold dueM
        rw [if_neg c, if_pos gst, unl_ok.gOn gp, idx_eq ho hg, if_pos (Nat.le_refl _)]
      have er : rR order lost (unlP order lost) t g = 1 := by
        unfold rR turnM
        rw [hd, if_pos hE]
        push_cast
        grind
      rw [er, cs]
      constructor
      · push_cast
        grind
      · have e5 : t + 1 - cameL order lost t = t - cameL order lost t + 1 := by omega
        rw [e5]
        show _ = ff _ (t - cameL order lost t) * (((order.length : Nat) : Rat) - ((t - cameL order lost t : Nat) : Rat))
        rw [← i2]
        have e6 : ((t - cameL order lost t : Nat) : Rat) = (t : Nat) - (cameL order lost t : Nat) := by
          have : ((t - cameL order lost t + cameL order lost t : Nat) : Rat) = ((t : Nat) : Rat) := by rw [Nat.sub_add_cancel cl]
          push_cast at this
          push_cast
          grind
        rw [e6]
        push_cast
        grind
theorem tog_unl (ok : NightOk 40 order lost) : togR order lost (unlP order lost) = (AI order lost order.length : Rat) / (BI order lost order.length : Rat) := by
  rw [tog_RT ok.nd ok.ins unl_ok]
  obtain ⟨h1, h2⟩ := RT_unl (lost := lost) ok.nd ok.ins order.length (Nat.le_refl _)
  have cl := came_le (order := order) (lost := lost) order.length
  have ad := ff_add ((order.length : Nat) : Rat) (order.length - cameL order lost order.length) (cameL order lost order.length)
  rw [Nat.sub_add_cancel cl] at ad
  have e6 : ((order.length : Nat) : Rat) - ((order.length - cameL order lost order.length : Nat) : Rat) = (cameL order lost order.length : Nat) := by
    have : ((order.length - cameL order lost order.length + cameL order lost order.length : Nat) : Rat) = ((order.length : Nat) : Rat) := by rw [Nat.sub_add_cancel cl]
    push_cast at this
    push_cast
    grind
  rw [e6, ← h2] at ad
  have f1 := ff_ne (a := order.length) (j := order.length) (Nat.le_refl _)
  have f2 := ff_ne (a := cameL order lost order.length) (j := cameL order lost order.length) (Nat.le_refl _)
  have bz : ((BI order lost order.length : Int) : Rat) ≠ 0 := by
    intro z
    rw [z] at ad
    grind
  grind
theorem AB_pos (hm : order.length ≤ 40) : ∀ t, t ≤ order.length → 0 ≤ AI order lost t ∧ 0 < BI order lost t ∧ BI order lost t ≤ ((1600 ^ t : Nat) : Int)
  | 0, _ => ⟨by show (0 : Int) ≤ 1; decide, by show (0 : Int) < 1; decide, by show (1 : Int) ≤ 1; decide⟩
  | t + 1, h => by
    obtain ⟨a, b, c⟩ := AB_pos hm t (by omega)
    have cl := came_le (order := order) (lost := lost) t
    unfold AI BI
    rw [Nat.pow_succ]
    push_cast at c ⊢
    split
    · refine ⟨a, b, ?_⟩
      have : (1600 : Int) ^ t ≤ 1600 ^ t * 1600 := by
        have : (0 : Int) ≤ 1600 ^ t := by omega
        omega
      omega
    · refine ⟨Int.mul_nonneg a (by omega), Int.mul_pos b (by omega), Int.mul_le_mul c (by omega) (by omega) (by omega)⟩
end
end Ds

set_option Elab.async false
set_option linter.all false
set_option maxRecDepth 100000
set_option maxHeartbeats 1000000
namespace Ds
open PySem L2 Mw Ls
def rowF (row : List Int) : Nat → Int := fun g => row.getD g 0
def bitF (v : Int) : Nat → Bool := fun g => decide (Builtin.bitAnd (v / 2 ^ g) 1 = 1)
noncomputable def m__law_pairs : MS := (mRet (mLc (mItE (mCons (mVar 0) mNil)) (mgTup 2 (mgCons (mgN 2) (mgCons (mgN 3) mgNil))) (mTest (mOp fEq (mOp fBand (mOp fShr (mVar 1) (mVar 2)) (mC (.int 1))) (mC (.int 1)))) (mTup (mCons (mVar 2) (mCons (mVar 3) mNil))) [2, 3]))
noncomputable def c__law_pairs : Fn := c_of (α := List Int × Int) (fun a ds h => ∃ d, ds = [d, .int a.2] ∧ getL h d = some (di a.1)) fun a => .lst (dp (prT (bitF a.2) (rowF a.1) a.1.length))
theorem dp_snoc (ps : Prs) (a b : Int) : dp (ps ++ [(a, b)]) = dp ps ++ [.tup [.int a, .int b]] := dp_app
/-! ### shares summed up -/
structure SmIn (n : Nat) (ps : Prs) : Prop where
  le : n ≤ 24
  l : ps.length ≤ 40
  p : ∀ q ∈ ps, 0 ≤ q.1 ∧ q.1 ≤ ((fact n : Nat) : Int) ∧ 0 < q.2 ∧ q.2 ∣ ((fact n : Nat) : Int)
noncomputable def m_k11_summed : MS := (mSeq (mAsg (mTup (mCons (mC (.int 0)) (mCons (mC (.int 1)) mNil))) (mgTup 2 (mgCons (mgN 1) (mgCons (mgN 2) mgNil))))
    (mSeq (mFor (mItL (mVar 0)) (mgTup 2 (mgCons (mgN 3) (mgCons (mgN 4) mgNil)))
    (mAsg (mCall 2 c__law_part (mCons (mOp fAdd (mOp fMulB (mVar 1) (mVar 4)) (mOp fMulB (mVar 3) (mVar 2))) (mCons (mOp fMulB (mVar 2) (mVar 4)) mNil))) (mgTup 2 (mgCons (mgN 1) (mgCons (mgN 2) mgNil)))))
    (mRet (mTup (mCons (mVar 1) (mCons (mVar 2) mNil))))))
open Classical in
noncomputable def c_k11_summed : Fn := c_of (α := Nat × Prs) (fun a ds h => ∃ d, ds = [d] ∧ getL h d = some (dp a.2) ∧ SmIn a.1 a.2) fun a => shD (sumP a.2)
end Ds

set_option Elab.async false
set_option linter.all false
set_option maxRecDepth 100000
set_option maxHeartbeats 2000000
namespace Ds
open PySem L2 Mw Ls
/-! ### lists of pairs compared -/
def pP (q : Int × Int) : PyData := .tuple [.int q.1, .int q.2]
/-! ### the rows of all ways -/
def rowsL (order : List Int) (W : List (List Int × Int)) : List (List Int × Int) := W.map fun w => (seatsG order w.1 order.length, w.2)
def shiftP (v : Int) (n : Nat) (ps : Prs) : Prs := ps.map fun q => (q.1, (q.2 + v) % (n : Int))
def mixR (seats : List Int) (i : Nat) : List Int := (List.range i).map fun g : Nat => if (g : Int) % 2 = 0 then (g : Int) else seats.getD g 0
def dps (Ps : List Prs) : List Dv := Ps.map fun ps => .lst (dp ps)
@[simp] theorem dps_length {Ps : List Prs} : (dps Ps).length = Ps.length := List.length_map _
end Ds

set_option Elab.async false
set_option linter.all false
set_option maxRecDepth 100000
set_option maxHeartbeats 2000000
namespace Ds
open PySem L2 Mw Ls
noncomputable def m_k11_right : MS := (mSeq (mAsg (mCall 1 c__law_ways (mCons (mVar 0) mNil)) (mgTup 2 (mgCons (mgN 2) (mgCons (mgN 3) mgNil))))
    (mSeq (mPar 6 7 (mCons (mLc (mItL (mVar 2)) (mgTup 2 (mgCons (mgN 4) (mgCons (mgN 5) mgNil))) mYes (mTup (mCons (mCall 2 c__law_seats (mCons (mVar 0) (mCons (mVar 4) mNil))) (mCons (mVar 5) mNil))) [4, 5]) (mCons (mCall 1 c__law_copied (mCons (mVar 0) mNil)) mNil)))
    (mSeq (mSet 8 (mCB fLen (mCons (mOp fIxT (mVar 0) (mC (.int 0))) mNil)))
    (mSeq (mSet 9 (mOp fIxT (mOp fIxL (mVar 6) (mOp fMod (mVar 1) (mCB fLen (mCons (mVar 6) mNil)))) (mC (.int 0))))
    (mSeq (mSet 10 (mOp fIxT (mOp fIxL (mVar 6) (mOp fMod (mOp fDiv (mVar 1) (mC (.int 720))) (mCB fLen (mCons (mVar 6) mNil)))) (mC (.int 0))))
    (mSeq (mSet 11 (mLst true (mCons (mCall 2 c__law_pairs (mCons (mVar 9) (mCons (mOp fDiv (mVar 1) (mC (.int 64))) mNil))) (mCons (mCall 2 c__law_pairs (mCons (mVar 9) (mCons (mC (.int 63)) mNil))) (mCons (mLst false mNil) (mCons (mCall 2 c__law_pairs (mCons (mVar 10) (mCons (mOp fDiv (mVar 1) (mC (.int 4096))) mNil))) mNil))))))
    (mSeq (mDrop (mBM fAppend (mVar 11) (mCons (mLc (mItL (mCall 2 c__law_pairs (mCons (mVar 9) (mCons (mOp fDiv (mVar 1) (mC (.int 9))) mNil)))) (mgTup 2 (mgCons (mgN 16) (mgCons (mgN 17) mgNil))) mYes (mTup (mCons (mVar 16) (mCons (mOp fMod (mOp fAdd (mVar 17) (mVar 1)) (mVar 8)) mNil))) [16, 17]) mNil)))
    (mSeq (mDrop (mBM fAppend (mVar 11) (mCons (mCall 2 c__law_pairs (mCons (mLc (mItE (mCons (mVar 10) mNil)) (mgTup 2 (mgCons (mgN 16) (mgCons (mgN 17) mgNil))) mYes (mIfE (mTest (mOp fEq (mOp fMod (mVar 16) (mC (.int 2))) (mC (.int 0)))) (mVar 16) (mVar 17)) [16, 17]) (mCons (mOp fDiv (mVar 1) (mC (.int 7))) mNil))) mNil)))
    (mSeq (mDrop (mBM fAppend (mVar 11) (mCons (mSl false (mLst false (mCons (mTup (mCons (mC (.int 0)) (mCons (mC (.int 0)) mNil))) (mCons (mTup (mCons (mOp fSub (mVar 8) (mC (.int 1))) (mCons (mC (.int 0)) mNil))) mNil))) mNoPart (mPart (mVar 8))) mNil)))
    (mSeq (mFor (mItL (mVar 11)) (mgN 12)
    (mSeq (mPar 13 14 (mCons (mCB (fList false) (mCons (mVar 12) mNil)) (mCons (mC (.int 0)) mNil)))
    (mSeq (mFor (mItL (mVar 6)) (mgTup 2 (mgCons (mgN 4) (mgCons (mgN 5) mgNil)))
    (mIf (mTest (mCB fAll (mCons (mLc (mItL (mVar 12)) (mgTup 2 (mgCons (mgN 16) (mgCons (mgN 17) mgNil))) mYes (mOp fEq (mOp fIxL (mVar 4) (mVar 16)) (mVar 17)) [16, 17]) mNil))) (mSet 14 (mOp fAdd (mVar 14) (mVar 5))) mNext))
    (mSeq (mSet 15 (mCall 2 c_together (mCons (mVar 7) (mCons (mVar 13) mNil))))
    (mSeq (mIf (mOr (mNot (mTest (mCB fIsi (mCons (mVar 15) (mCons (mC (.ty "tuple")) mNil))))) (mOr (mTest (mOp fNe (mVar 15) (mCall 2 c__law_part (mCons (mVar 14) (mCons (mVar 3) mNil))))) (mOr (mTest (mOp fNe (mVar 13) (mVar 12))) (mTest (mOp fNe (mVar 7) (mVar 0)))))) (mRet (mC (.bl false))) mNext)
    (mIf (mNot (mTest (mCB fAll (mCons (mLc (mItT (mVar 15)) (mgN 18) mYes (mCall 1 c__law_whole (mCons (mVar 18) mNil)) [18]) mNil)))) (mRet (mC (.bl false))) mNext))))))
    (mRet (mC (.bl true)))))))))))))
noncomputable def c_k11_right : Fn := c_of (α := List Int × List Int × Int) (fun a ds h => ∃ n, ds = [n, .int a.2.2] ∧ Ni h n a.1 a.2.1 ∧ NightOk 6 a.1 a.2.1) fun _ => .bl true
theorem c_krt {h : OH} {n : Dv} {order lost : List Int} {v : Int} (N : Ni h n order lost) (ok : NightOk 6 order lost) : c_k11_right [n, .int v] h = .ok (.bl true) h := c_of_eq (P := fun (a : List Int × List Int × Int) ds h => ∃ n, ds = [n, .int a.2.2] ∧ Ni h n a.1 a.2.1 ∧ NightOk 6 a.1 a.2.1) (a := (order, lost, v)) ⟨n, rfl, N, ok⟩ fun _ _ => rfl
inductive Iv11a (H : OH) (n v ws wh ls hd m on ot tr : Dv) : Nat → DSt → OH → Prop
  | mk (i : Nat) (v4 v5 v12 v13 v14 v15 : Option Dv) : Iv11a H n v ws wh ls hd m on ot tr i [some n, some v, some ws, some wh, v4, v5, some ls, some hd, some m, some on, some ot, some tr, v12, v13, v14, v15, none, none, none] H
inductive Iv11b (H : OH) (n v ws wh ls hd m on ot tr ph mi : Dv) (v15 : Option Dv) (order : List Int) (ps : Prs) (W : List (List Int × Int)) : Nat → DSt → OH → Prop
  | mk (i : Nat) (v4 v5 : Option Dv) : Iv11b H n v ws wh ls hd m on ot tr ph mi v15 order ps W i [some n, some v, some ws, some wh, v4, v5, some ls, some hd, some m, some on, some ot, some tr, some ph, some mi, some (.int (cntI order ps (W.take i))), v15, none, none, none] H
end Ds

set_option Elab.async false
set_option linter.all false
set_option maxRecDepth 100000
set_option maxHeartbeats 2000000
namespace Ds
open PySem L2 Mw Ls
/-! ### shares of at most 24 guests -/
def shP (r : Rat) : Int × Int := (r.num, ((r.den : Nat) : Int))
end Ds

set_option Elab.async false
set_option linter.all false
set_option maxRecDepth 100000
set_option maxHeartbeats 2000000
namespace Ds
open PySem L2 Mw Ls
noncomputable def m_k11_great : MS := (mSeq (mPar 2 3 (mCons (mCB fLen (mCons (mOp fIxT (mVar 0) (mC (.int 0))) mNil)) (mCons (mMake "Door" 2 c_Door___init__ (mCons (mVar 0) mNil)) mNil)))
    (mSeq (mFor (mRg1 (mCons (mVar 2) mNil)) (mgN 4)
    (mSeq (mSet 5 (mMeth "Door" 1 "open_seats" c_Door_open_seats (mVar 3) mNil))
    (mDrop (mMeth "Door" 2 "come" c_Door_come (mVar 3) (mCons (mOp fIxL (mVar 5) (mOp fMod (mOp fDiv (mVar 1) (mOp fAdd (mVar 4) (mC (.int 1)))) (mCB fLen (mCons (mVar 5) mNil)))) mNil)))))
    (mSeq (mSet 6 (mMeth "Door" 1 "taken" c_Door_taken (mVar 3) mNil))
    (mSeq (mSet 8 (mLc (mItE (mCons (mVar 6) mNil)) (mgTup 2 (mgCons (mgN 7) (mgCons (mgN 13) mgNil))) (mTest (mOp fEq (mOp fMod (mOp fDiv (mVar 1) (mOp fAdd (mVar 7) (mC (.int 3)))) (mC (.int 3))) (mC (.int 0)))) (mTup (mCons (mVar 7) (mCons (mVar 13) mNil))) [7, 13]))
    (mSeq (mSet 7 (mOp fMod (mOp fDiv (mVar 1) (mC (.int 5))) (mVar 2)))
    (mSeq (mSet 9 (mLc (mItL (mVar 8)) (mgN 14) (mTest (mOp fNe (mOp fIxT (mVar 14) (mC (.int 0))) (mVar 7))) (mVar 14) [14]))
    (mSeq (mSet 10 (mLc (mRg1 (mCons (mVar 2) mNil)) (mgN 13) mYes (mCall 2 c_together (mCons (mVar 0) (mCons (mCB (fSortedP false) (mCons (mOp (fCat false) (mVar 9) (mLst false (mCons (mTup (mCons (mVar 7) (mCons (mVar 13) mNil))) mNil))) mNil)) mNil))) [13]))
    (mSeq (mIf (mTest (mOp fNe (mCall 1 c_k11_summed (mCons (mVar 10) mNil)) (mCall 2 c_together (mCons (mVar 0) (mCons (mVar 9) mNil))))) (mRet (mC (.bl false))) mNext)
    (mSeq (mIf (mTest (mOp fNe (mCall 2 c_together (mCons (mVar 0) (mCons (mLc (mItE (mCons (mVar 6) mNil)) (mgTup 2 (mgCons (mgN 15) (mgCons (mgN 13) mgNil))) mYes (mTup (mCons (mVar 15) (mCons (mVar 13) mNil))) [15, 13]) mNil))) (mCall 2 c_seating (mCons (mVar 0) (mCons (mVar 6) mNil))))) (mRet (mC (.bl false))) mNext)
    (mSeq (mPar 11 12 (mCons (mCall 1 c__law_copied (mCons (mVar 0) mNil)) (mCons (mLst true (mCons (mTup (mCons (mVar 7) (mCons (mOp fIxL (mVar 6) (mVar 7)) mNil))) mNil)) mNil)))
    (mSeq (mIf (mTest (mOp fNe (mCall 2 c_together (mCons (mVar 11) (mCons (mVar 12) mNil))) (mCall 3 c_share (mCons (mVar 0) (mCons (mVar 7) (mCons (mOp fIxL (mVar 6) (mVar 7)) mNil)))))) (mRet (mC (.bl false))) mNext)
    (mSeq (mDrop (mBM0 fReverse (mOp fIxT (mVar 11) (mC (.int 0)))))
    (mSeq (mIf (mTest (mOp fNe (mCall 2 c_together (mCons (mVar 11) (mCons (mVar 12) mNil))) (mCall 3 c_share (mCons (mTup (mCons (mRev false (mOp fIxT (mVar 0) (mC (.int 0))) (mUn fNeg (mC (.int 1)))) (mCons (mOp fIxT (mVar 0) (mC (.int 1))) mNil))) (mCons (mVar 7) (mCons (mOp fIxL (mVar 6) (mVar 7)) mNil)))))) (mRet (mC (.bl false))) mNext)
    (mSeq (mDrop (mBM0 fClear (mVar 12)))
    (mRet (mOp fEq (mCall 2 c_together (mCons (mVar 11) (mCons (mVar 12) mNil))) (mTup (mCons (mC (.int 1)) (mCons (mC (.int 1)) mNil)))))))))))))))))))
noncomputable def c_k11_great : Fn := c_of (α := List Int × List Int × Int) (fun a ds h => ∃ n, ds = [n, .int a.2.2] ∧ Ni h n a.1 a.2.1 ∧ NightOk 24 a.1 a.2.1) fun _ => .bl true
theorem c_kgr {h : OH} {n : Dv} {order lost : List Int} {v : Int} (N : Ni h n order lost) (ok : NightOk 24 order lost) : c_k11_great [n, .int v] h = .ok (.bl true) h := c_of_eq (P := fun (a : List Int × List Int × Int) ds h => ∃ n, ds = [n, .int a.2.2] ∧ Ni h n a.1 a.2.1 ∧ NightOk 24 a.1 a.2.1) (a := (order, lost, v)) ⟨n, rfl, N, ok⟩ fun _ _ => rfl
inductive IvGr (h : OH) (n v : Dv) (order lost : List Int) : Nat → DSt → OH → Prop
  | mk (t : Nat) (ss : List Int) (m : Int) (x : Dr) (g : OH) (v4 v5 : Option Dv) (D : DoorW (h ++ g) (.ref h.length) x order lost ss m) (hx : ss.length = t) (a1 : x.i = h.length) (a2 : x.j = h.length + 1) :
    IvGr h n v order lost t [some n, some v, some (.int (order.length : Nat)), some (.ref h.length), v4, v5, none, none, none, none, none, none, none, none, none, none] (h ++ g)
def thr (v : Int) : Nat → Bool := fun g => decide (v / ((g : Int) + 3) % 3 = 0)
end Ds

set_option Elab.async false
set_option linter.all false
set_option maxRecDepth 100000
set_option maxHeartbeats 2000000
namespace Ds
open PySem L2 Mw Ls
end Ds

set_option Elab.async false
set_option linter.all false
set_option maxRecDepth 100000
set_option maxHeartbeats 2000000
namespace Ds
open PySem L2 Mw Ls
noncomputable def m_k11_law : MS := (mSeq (mSet 0 (mSl false (mVar 0) mNoPart (mPart (mC (.int 63)))))
    (mSeq (mFor (mRg3 (mCons (mC (.int 0)) (mCons (mCB fMax (mCons (mC (.int 1)) (mCons (mCB fMin (mCons (mC (.int 4)) (mCons (mCB fLen (mCons (mVar 0) mNil)) mNil))) mNil))) (mCons (mC (.int 2)) mNil)))) (mgN 1)
    (mSeq (mPar 2 3 (mCons (mCall 2 c__law_value (mCons (mCall 2 c__law_cell_at (mCons (mVar 0) (mCons (mVar 1) mNil))) (mCons (mC (.int 7)) mNil))) (mCons (mCall 3 c__law_night (mCons (mVar 0) (mCons (mVar 1) (mCons (mC (.int 6)) mNil)))) mNil)))
    (mSeq (mIf (mAnd (mTest (mOp fGt (mCB fLen (mCons (mOp fIxT (mVar 3) (mC (.int 1))) mNil)) (mC (.int 4)))) (mTest (mOp fGt (mCB fLen (mCons (mOp fIxT (mVar 3) (mC (.int 0))) mNil)) (mC (.int 5))))) (mSet 3 (mTup (mCons (mOp fIxT (mVar 3) (mC (.int 0))) (mCons (mSl false (mOp fIxT (mVar 3) (mC (.int 1))) mNoPart (mPart (mC (.int 4)))) mNil)))) mNext)
    (mSeq (mIf (mOr (mNot (mTest (mCall 2 c_k11_right (mCons (mVar 3) (mCons (mVar 2) mNil))))) (mNot (mTest (mCall 2 c_k11_great (mCons (mCall 3 c__law_night (mCons (mVar 0) (mCons (mOp fAdd (mVar 1) (mC (.int 1))) (mCons (mC (.int 24)) mNil)))) (mCons (mVar 2) mNil)))))) (mRet (mC (.bl false))) mNext)
    (mSeq (mSet 4 (mCall 3 c__law_night (mCons (mVar 0) (mCons (mOp fAdd (mVar 1) (mC (.int 2))) (mCons (mC (.int 40)) mNil)))))
    (mSeq (mSet 6 (mLc (mRg1 (mCons (mCB fLen (mCons (mOp fIxT (mVar 4) (mC (.int 0))) mNil)) mNil)) (mgN 5) (mTest (mOp (fIn true) (mVar 5) (mOp fIxT (mVar 4) (mC (.int 1))))) (mTup (mCons (mVar 5) (mCons (mVar 5) mNil))) [5]))
    (mSeq (mIf (mTest (mOp fNe (mCall 2 c_together (mCons (mVar 4) (mCons (mLc (mRg1 (mCons (mCB fLen (mCons (mOp fIxT (mVar 4) (mC (.int 0))) mNil)) mNil)) (mgN 12) mYes (mTup (mCons (mVar 12) (mCons (mVar 12) mNil))) [12]) mNil))) (mCall 2 c_seating (mCons (mVar 4) (mCons (mCB (fListRg false) (mCons (mCB fRg1 (mCons (mCB fLen (mCons (mOp fIxT (mVar 4) (mC (.int 0))) mNil)) mNil)) mNil)) mNil))))) (mRet (mC (.bl false))) mNext)
    (mSeq (mAsg (mTup (mCons (mC (.int 1)) (mCons (mC (.int 1)) mNil))) (mgTup 2 (mgCons (mgN 7) (mgCons (mgN 8) mgNil))))
    (mSeq (mFor (mItE (mCons (mOp fIxT (mVar 4) (mC (.int 0))) mNil)) (mgTup 2 (mgCons (mgN 9) (mgCons (mgN 5) mgNil)))
    (mSeq (mSet 10 (mCB fLen (mCons (mLc (mItL (mSl false (mOp fIxT (mVar 4) (mC (.int 0))) mNoPart (mPart (mVar 9)))) (mgN 13) (mTest (mOp (fIn false) (mVar 13) (mOp fIxT (mVar 4) (mC (.int 1))))) (mVar 13) [13]) mNil)))
    (mIf (mTest (mOp (fIn true) (mVar 5) (mOp fIxT (mVar 4) (mC (.int 1))))) (mSeq (mSet 11 (mOp fSub (mCB fLen (mCons (mOp fIxT (mVar 4) (mC (.int 0))) mNil)) (mVar 9)))
    (mSeq (mSet 7 (mOp fMul (mVar 7) (mVar 11)))
    (mSet 8 (mOp fMul (mVar 8) (mOp fAdd (mVar 11) (mVar 10)))))) mNext)))
    (mIf (mTest (mOp fNe (mCall 2 c_together (mCons (mVar 4) (mCons (mVar 6) mNil))) (mCall 2 c__law_part (mCons (mVar 7) (mCons (mVar 8) mNil))))) (mRet (mC (.bl false))) mNext))))))))))
    (mSeq (mSet 3 (mTup (mCons (mLst false (mCons (mC (.int 0)) (mCons (mC (.int 1)) (mCons (mC (.int 2)) (mCons (mC (.int 3)) mNil))))) (mCons (mLst false (mCons (mC (.int 0)) mNil)) mNil))))
    (mSeq (mIf (mOr (mTest (mOp fNe (mCall 2 c_together (mCons (mVar 3) (mCons (mLst false (mCons (mTup (mCons (mC (.int 0)) (mCons (mC (.int 2)) mNil))) (mCons (mTup (mCons (mC (.int 2)) (mCons (mC (.int 3)) mNil))) mNil))) mNil))) (mTup (mCons (mC (.int 1)) (mCons (mC (.int 8)) mNil))))) (mTest (mOp fNe (mCall 2 c_together (mCons (mVar 3) (mCons (mLst false (mCons (mTup (mCons (mC (.int 1)) (mCons (mC (.int 1)) mNil))) (mCons (mTup (mCons (mC (.int 2)) (mCons (mC (.int 2)) mNil))) mNil))) mNil))) (mTup (mCons (mC (.int 1)) (mCons (mC (.int 2)) mNil)))))) (mRet (mC (.bl false))) mNext)
    (mRet (mAndV (mOp fEq (mCall 2 c_together (mCons (mVar 3) (mCons (mLst false (mCons (mTup (mCons (mC (.int 1)) (mCons (mC (.int 3)) mNil))) (mCons (mTup (mCons (mC (.int 3)) (mCons (mC (.int 0)) mNil))) mNil))) mNil))) (mTup (mCons (mC (.int 1)) (mCons (mC (.int 12)) mNil)))) (mOp fEq (mCall 2 c_together (mCons (mVar 3) (mCons (mLst false (mCons (mTup (mCons (mC (.int 0)) (mCons (mC (.int 1)) mNil))) (mCons (mTup (mCons (mC (.int 3)) (mCons (mC (.int 1)) mNil))) mNil))) mNil))) (mTup (mCons (mC (.int 0)) (mCons (mC (.int 1)) mNil))))))))))
inductive IvK11 (s : Dv) : Nat → DSt → OH → Prop
  | mk (i : Nat) (g : OH) (v1 v2 v3 v4 v5 v6 v7 v8 v9 v10 v11 : Option Dv) : IvK11 s i [some s, v1, v2, v3, v4, v5, v6, v7, v8, v9, v10, v11, none, none] g
inductive IvK11a (g : OH) (s b v n gt pp : Dv) (order lost : List Int) : Nat → DSt → OH → Prop
  | mk (i : Nat) (v5 v9 v10 v11 : Option Dv) : IvK11a g s b v n gt pp order lost i [some s, some b, some v, some n, some gt, v5, some pp, some (.int (AI order lost i)), some (.int (BI order lost i)), v9, v10, v11, none, none] g
def selfP (n : Nat) : Prs := (List.range n).map fun g : Nat => ((g : Int), (g : Int))
theorem self_all (n : Nat) : allP n (rg n) = selfP n := by
  unfold allP selfP
  apply List.map_congr_left
  intro g hg
  have := List.mem_range.mp hg
  rw [List.getD_eq_getElem?_getD, rg_get this]
  rfl
theorem self_in (n : Nat) : PrsIn n (selfP n) := by
  have := prT_in (p := fun _ => true) (row := fun g => (g : Int)) (n := n) fun g h => ⟨by omega, by omega⟩
  have e : prT (fun _ => true) (fun g => (g : Int)) n = selfP n := by
    unfold prT selfP
    rw [List.filter_eq_self.mpr (fun _ _ => rfl)]
  rwa [e] at this
theorem came_comp {order lost : List Int} (t : Nat) : ((order.take t).filter fun g => decide (g ∈ lost)).length = cameL order lost t := rfl
theorem k11_true (ns : List Int) (hl : ns.length ≤ 63) : ∃ h, mDef 14 m_k11_law [.frz (ns.map Dv.int)] [] = .ok (.bl true) h := by
  rw [mDef_eq]
  have c1 : cutD (ns.map Dv.int) none (some 63) = di (ns.take 63) := cut_di ns (i := 63) (by decide)
  have l1 := fLen_eq (h := ([] : OH)) (getS_lst (xs := di (ns.take 63)))
  rw [di_length] at l1
  obtain ⟨J, eJ, J0, J1⟩ := minmax_bd ((ns.take 63).length : Int) 4 (by decide)
  generalize hms : ns.take 63 = ms at *
  have r3 := rgJ_ok J0 (by omega) (c := 2) (by decide) (by decide)
  simp only [bindF_nx, bindF_rt, bindF_exc, bindF_ct, bindF_bk, bindS_ok, bindS_exc, bindR_ok, bindR_exc, fin_rt, fin_nx, fin_exc, Stp_nx, Stp_ct, mC_eq, mVar_eq, mOp_eq, mUn_eq, mNil_eq, mCons_eq, mLits_eq, mTest_eq, mTru_eq, mAnd_eq, mOr_eq, mNot_eq, mAndV_eq, mOrV_eq, mNotV_eq, mIfE_eq, mChain_eq, mNext_eq, mSeq_eq, mDrop_eq, mRet_eq, mRetN_eq, mIf_eq, mRaise_eq, mgN_eq, mgNil_eq, mgCons_eq, mgTup_eq, mAsg_eq, mSet_eq, mPar_eq, mPar3_eq, mAug_eq, mTup_eq, mLst_eq, mkL_t, mkL_f, mCB_eq, mCall_eq, mNoPart_eq, mPart_eq, mSl_eq, mBM_eq, mBM0_eq, mgSub_eq, mItL_eq, mItT_eq, mItE_eq, mItZ_eq, mRg1_eq, mRg2_eq, mRg3_eq, mFor_eq, mLc_eq, mYes_eq, mRev_eq, mStep_eq, fAdd_eq, fSub_eq, fNeg_eq, fLt_eq, fLe_eq, fGt_eq, fGe_eq, fEq_int, fNe_int, fIsN_eq, fNotN_eq, isNon_non, isNon_int, isNon_ref, fIsB_eq, fIsntB_eq, fInt_bl, fMax_eq, fMin_eq, fIxT_0, fIxT_1, getL_lst, getL_tup, getL_int, getL_non, getS_tup, getS_lst, getF_lst, getF_frz, List.map_cons, List.map_nil, List.cons_append, List.nil_append, List.length_cons, List.length_nil, Nat.zero_add, Nat.reduceAdd, Nat.reduceSub, Nat.reduceLeDiff, List.replicate_succ, List.replicate_zero, List.getElem?_cons_zero, List.getElem?_cons_succ, List.set_cons_zero, List.set_cons_succ, if_true, if_false, Bool.not_true, Bool.not_false, Bool.false_eq_true, Bool.true_eq_false, decide_true, decide_false, Int.toNat_natCast, Bool.and_true, Bool.true_and, Bool.and_false, Bool.false_and, m_k11_law, c1, l1, eJ, if_pos r3]
  rw [show (itR 0 2 (rgN 0 J 2)).n = rgN 0 J 2 from rfl]
  refine for_R_o (IvK11 (.lst (di ms))) (.mk 0 [] none none none none none none none none none none none) ?_ ?_
  · rintro i σ g hi ⟨_, v1, v2, v3, v4, v5, v6, v7, v8, v9, v10, v11⟩
    refine ⟨_, _, rfl, ?_⟩
    have hb : (0 : Int) ≤ 0 + (i : Int) * 2 := by omega
    generalize hbb : (0 : Int) + (i : Int) * 2 = b at *
    have ce := c_cell (h := g) (s := .lst (di ms)) (k := b) getL_lst hb
    generalize ms.getD b.toNat 0 = cc at *
    have va := c_val (h := g) (c := cc) (t := 7) (by decide) (by decide)
    generalize valM cc 7 = vv at *
    have e1 := c_ngt (h := g) (s := .lst (di ms)) (b := b) (m := 6) getL_lst hb (by omega) (by omega)
    have ok6 : NightOk 6 (nightM ms b 6).1 (nightM ms b 6).2 := night_ok ms b (most := 6) (by decide)
    generalize hA : (nightM ms b 6).1 = order at *
    generalize hB : (nightM ms b 6).2 = lost at *
    have st : ∃ lost2, NightOk 6 order lost2 ∧ (mIf (mAnd (mTest (mOp fGt (mCB fLen (mCons (mOp fIxT (mVar 3) (mC (.int 1))) mNil)) (mC (.int 4)))) (mTest (mOp fGt (mCB fLen (mCons (mOp fIxT (mVar 3) (mC (.int 0))) mNil)) (mC (.int 5))))) (mSet 3 (mTup (mCons (mOp fIxT (mVar 3) (mC (.int 0))) (mCons (mSl false (mOp fIxT (mVar 3) (mC (.int 1))) mNoPart (mPart (mC (.int 4)))) mNil)))) mNext) [some (.lst (di ms)), some (.int b), some (.int vv), some (.tup [.lst (di order), .lst (di lost)]), v4, v5, v6, v7, v8, v9, v10, v11, none, none] g = .nx [some (.lst (di ms)), some (.int b), some (.int vv), some (.tup [.lst (di order), .lst (di lost2)]), v4, v5, v6, v7, v8, v9, v10, v11, none, none] g := by
      have l1 := fLen_eq (h := g) (getS_lst (xs := di order))
      have l2 := fLen_eq (h := g) (getS_lst (xs := di lost))
      rw [di_length] at l1 l2
      have c2 := cut_di lost (i := 4) (by decide)
      by_cases c3 : 4 < (lost.length : Int)
      · by_cases c4 : 5 < (order.length : Int)
        · refine ⟨_, ok6.lessm (List.take_sublist (4 : Int).toNat _), ?_⟩
          simp only [bindF_nx, bindF_rt, bindF_exc, bindF_ct, bindF_bk, bindS_ok, bindS_exc, bindR_ok, bindR_exc, fin_rt, fin_nx, fin_exc, Stp_nx, Stp_ct, mC_eq, mVar_eq, mOp_eq, mUn_eq, mNil_eq, mCons_eq, mLits_eq, mTest_eq, mTru_eq, mAnd_eq, mOr_eq, mNot_eq, mAndV_eq, mOrV_eq, mNotV_eq, mIfE_eq, mChain_eq, mNext_eq, mSeq_eq, mDrop_eq, mRet_eq, mRetN_eq, mIf_eq, mRaise_eq, mgN_eq, mgNil_eq, mgCons_eq, mgTup_eq, mAsg_eq, mSet_eq, mPar_eq, mPar3_eq, mAug_eq, mTup_eq, mLst_eq, mkL_t, mkL_f, mCB_eq, mCall_eq, mNoPart_eq, mPart_eq, mSl_eq, mBM_eq, mBM0_eq, mgSub_eq, mItL_eq, mItT_eq, mItE_eq, mItZ_eq, mRg1_eq, mRg2_eq, mRg3_eq, mFor_eq, mLc_eq, mYes_eq, mRev_eq, mStep_eq, fAdd_eq, fSub_eq, fNeg_eq, fLt_eq, fLe_eq, fGt_eq, fGe_eq, fEq_int, fNe_int, fIsN_eq, fNotN_eq, isNon_non, isNon_int, isNon_ref, fIsB_eq, fIsntB_eq, fInt_bl, fMax_eq, fMin_eq, fIxT_0, fIxT_1, getL_lst, getL_tup, getL_int, getL_non, getS_tup, getS_lst, getF_lst, getF_frz, List.map_cons, List.map_nil, List.cons_append, List.nil_append, List.length_cons, List.length_nil, Nat.zero_add, Nat.reduceAdd, Nat.reduceSub, Nat.reduceLeDiff, List.replicate_succ, List.replicate_zero, List.getElem?_cons_zero, List.getElem?_cons_succ, List.set_cons_zero, List.set_cons_succ, if_true, if_false, Bool.not_true, Bool.not_false, Bool.false_eq_true, Bool.true_eq_false, decide_true, decide_false, Int.toNat_natCast, Bool.and_true, Bool.true_and, Bool.and_false, Bool.false_and, l1, l2, decide_eq_true c3, decide_eq_true c4, c2]
        · refine ⟨lost, ok6, ?_⟩
          simp only [bindF_nx, bindF_rt, bindF_exc, bindF_ct, bindF_bk, bindS_ok, bindS_exc, bindR_ok, bindR_exc, fin_rt, fin_nx, fin_exc, Stp_nx, Stp_ct, mC_eq, mVar_eq, mOp_eq, mUn_eq, mNil_eq, mCons_eq, mLits_eq, mTest_eq, mTru_eq, mAnd_eq, mOr_eq, mNot_eq, mAndV_eq, mOrV_eq, mNotV_eq, mIfE_eq, mChain_eq, mNext_eq, mSeq_eq, mDrop_eq, mRet_eq, mRetN_eq, mIf_eq, mRaise_eq, mgN_eq, mgNil_eq, mgCons_eq, mgTup_eq, mAsg_eq, mSet_eq, mPar_eq, mPar3_eq, mAug_eq, mTup_eq, mLst_eq, mkL_t, mkL_f, mCB_eq, mCall_eq, mNoPart_eq, mPart_eq, mSl_eq, mBM_eq, mBM0_eq, mgSub_eq, mItL_eq, mItT_eq, mItE_eq, mItZ_eq, mRg1_eq, mRg2_eq, mRg3_eq, mFor_eq, mLc_eq, mYes_eq, mRev_eq, mStep_eq, fAdd_eq, fSub_eq, fNeg_eq, fLt_eq, fLe_eq, fGt_eq, fGe_eq, fEq_int, fNe_int, fIsN_eq, fNotN_eq, isNon_non, isNon_int, isNon_ref, fIsB_eq, fIsntB_eq, fInt_bl, fMax_eq, fMin_eq, fIxT_0, fIxT_1, getL_lst, getL_tup, getL_int, getL_non, getS_tup, getS_lst, getF_lst, getF_frz, List.map_cons, List.map_nil, List.cons_append, List.nil_append, List.length_cons, List.length_nil, Nat.zero_add, Nat.reduceAdd, Nat.reduceSub, Nat.reduceLeDiff, List.replicate_succ, List.replicate_zero, List.getElem?_cons_zero, List.getElem?_cons_succ, List.set_cons_zero, List.set_cons_succ, if_true, if_false, Bool.not_true, Bool.not_false, Bool.false_eq_true, Bool.true_eq_false, decide_true, decide_false, Int.toNat_natCast, Bool.and_true, Bool.true_and, Bool.and_false, Bool.false_and, l1, l2, decide_eq_true c3, decide_eq_false c4]
      · refine ⟨lost, ok6, ?_⟩
        simp only [bindF_nx, bindF_rt, bindF_exc, bindF_ct, bindF_bk, bindS_ok, bindS_exc, bindR_ok, bindR_exc, fin_rt, fin_nx, fin_exc, Stp_nx, Stp_ct, mC_eq, mVar_eq, mOp_eq, mUn_eq, mNil_eq, mCons_eq, mLits_eq, mTest_eq, mTru_eq, mAnd_eq, mOr_eq, mNot_eq, mAndV_eq, mOrV_eq, mNotV_eq, mIfE_eq, mChain_eq, mNext_eq, mSeq_eq, mDrop_eq, mRet_eq, mRetN_eq, mIf_eq, mRaise_eq, mgN_eq, mgNil_eq, mgCons_eq, mgTup_eq, mAsg_eq, mSet_eq, mPar_eq, mPar3_eq, mAug_eq, mTup_eq, mLst_eq, mkL_t, mkL_f, mCB_eq, mCall_eq, mNoPart_eq, mPart_eq, mSl_eq, mBM_eq, mBM0_eq, mgSub_eq, mItL_eq, mItT_eq, mItE_eq, mItZ_eq, mRg1_eq, mRg2_eq, mRg3_eq, mFor_eq, mLc_eq, mYes_eq, mRev_eq, mStep_eq, fAdd_eq, fSub_eq, fNeg_eq, fLt_eq, fLe_eq, fGt_eq, fGe_eq, fEq_int, fNe_int, fIsN_eq, fNotN_eq, isNon_non, isNon_int, isNon_ref, fIsB_eq, fIsntB_eq, fInt_bl, fMax_eq, fMin_eq, fIxT_0, fIxT_1, getL_lst, getL_tup, getL_int, getL_non, getS_tup, getS_lst, getF_lst, getF_frz, List.map_cons, List.map_nil, List.cons_append, List.nil_append, List.length_cons, List.length_nil, Nat.zero_add, Nat.reduceAdd, Nat.reduceSub, Nat.reduceLeDiff, List.replicate_succ, List.replicate_zero, List.getElem?_cons_zero, List.getElem?_cons_succ, List.set_cons_zero, List.set_cons_succ, if_true, if_false, Bool.not_true, Bool.not_false, Bool.false_eq_true, Bool.true_eq_false, decide_true, decide_false, Int.toNat_natCast, Bool.and_true, Bool.true_and, Bool.and_false, Bool.false_and, l1, l2, decide_eq_false c3]
    obtain ⟨lost2, ok2, st⟩ := st
    have u1 := c_krt (h := g) (n := .tup [.lst (di order), .lst (di lost2)]) (v := vv) (Ni.mk' rfl rfl) ok2
    have e2 := c_ngt (h := g) (s := .lst (di ms)) (b := b + 1) (m := 24) getL_lst (by omega) (by omega) (by omega)
    have ok24 : NightOk 24 (nightM ms (b + 1) 24).1 (nightM ms (b + 1) 24).2 := night_ok ms (b + 1) (most := 24) (by decide)
    have u2 := c_kgr (h := g) (n := .tup [.lst (di (nightM ms (b + 1) 24).1), .lst (di (nightM ms (b + 1) 24).2)]) (v := vv) (Ni.mk' rfl rfl) ok24
    generalize (nightM ms (b + 1) 24).1 = o24 at *
    generalize (nightM ms (b + 1) 24).2 = l24 at *
    have e3 := c_ngt (h := g) (s := .lst (di ms)) (b := b + 2) (m := 40) getL_lst (by omega) (by omega) (by omega)
    have okg : NightOk 40 (nightM ms (b + 2) 40).1 (nightM ms (b + 2) 40).2 := night_ok ms (b + 2) (most := 40) (by decide)
    generalize hC : (nightM ms (b + 2) 40).1 = og at *
    generalize hD : (nightM ms (b + 2) 40).2 = lg at *
    have h1 := okg.len1
    have h2 := okg.lenm
    have l3 := fLen_eq (h := g) (getS_lst (xs := di og))
    rw [di_length] at l3
    have b3 : bd (og.length : Int) = true := by unfold bd; simp; omega
    have n3 : (itR 0 1 og.length).lim = true := decide_eq_true (by omega)
    have n4 : (itR 0 1 og.length).n = og.length := rfl
    have cn : ∀ x5 x6 : Option Dv, compN (itR 0 1 og.length) (mgN 5) (mTest (mOp (fIn true) (mVar 5) (mOp fIxT (mVar 4) (mC (.int 1))))) (mTup (mCons (mVar 5) (mCons (mVar 5) mNil))) [5] [some (.lst (di ms)), some (.int b), some (.int vv), some (.tup [.lst (di order), .lst (di lost2)]), some (.tup [.lst (di og), .lst (di lg)]), x5, x6, v7, v8, v9, v10, v11, none, none] og.length 0 [] g = .ok (dp (unlP og lg)) g := fun x5 x6 => by
      refine comp_inv (A := fun i => dp (prT (fun g => decide (¬ (g : Int) ∈ lg)) (fun g => (g : Int)) i)) rfl (fun i hi => ?_) og.length 0 rfl
      refine ⟨.int (i : Nat), ?_, _, rfl, ?_⟩
      · show (if i < og.length then some (Dv.int (0 + (i : Int) * 1)) else none) = _
        rw [if_pos hi, Int.mul_one, Int.zero_add]
      · rw [prT_succ]
        have i1 := fIn_di (h := g) (neg := true) (i := (i : Int)) (getS_of_L (getL_lst (xs := di lg)))
        by_cases c : (i : Int) ∈ lg
        · rw [if_neg (by simp [c])]
          exact .inl ⟨rfl, by simp [wipeD, i1, c]⟩
        · rw [if_pos (by simp [c]), dp_snoc]
          exact .inr ⟨_, rfl, by simp [wipeD, i1, c], by simp [wipeD]⟩
    have cs : ∀ x5 x6 : Option Dv, compN (itR 0 1 og.length) (mgN 12) mYes (mTup (mCons (mVar 12) (mCons (mVar 12) mNil))) [12] [some (.lst (di ms)), some (.int b), some (.int vv), some (.tup [.lst (di order), .lst (di lost2)]), some (.tup [.lst (di og), .lst (di lg)]), x5, x6, v7, v8, v9, v10, v11, none, none] og.length 0 [] g = .ok (dp (selfP og.length)) g := fun x5 x6 => by
      refine comp_inv (A := fun i => dp (selfP i)) rfl (fun i hi => ?_) og.length 0 rfl
      refine ⟨.int (i : Nat), ?_, _, rfl, .inr ⟨.tup [.int (i : Nat), .int (i : Nat)], ?_, rfl, by simp [wipeD]⟩⟩
      · show (if i < og.length then some (Dv.int (0 + (i : Int) * 1)) else none) = _
        rw [if_pos hi, Int.mul_one, Int.zero_add]
      · unfold selfP
        rw [List.range_succ, List.map_append, List.map_singleton]
        exact dp_snoc _ _ _
    have Ng : Ni g (.tup [.lst (di og), .lst (di lg)]) og lg := Ni.mk' rfl rfl
    have tS := c_tog (h := g) (v := .tup [.lst (di og), .lst (di lg)]) (d := .lst (dp (selfP og.length))) ⟨Ng, okg, getL_lst, self_in _⟩
    have Sg := seat_rg okg
    rw [← self_all, tog_all okg Sg, self_all] at tS
    have w4 : fRg1 [.int (og.length : Nat)] g = .ok (.rng 0 (og.length : Nat) 1) g := rfl
    have w5 := listRg (h := g) (mu := false) (m := og.length) (by omega)
    have se := c_sea Ng okg (getL_lst (h := g) (xs := di (rg og.length))) Sg
    have tU := c_tog (h := g) (v := .tup [.lst (di og), .lst (di lg)]) (d := .lst (dp (unlP og lg))) ⟨Ng, okg, getL_lst, unl_in⟩
    rw [tog_unl okg] at tU
    rw [mSeq_eq]
    simp only [bindF_nx, bindF_rt, bindF_exc, bindF_ct, bindF_bk, bindS_ok, bindS_exc, bindR_ok, bindR_exc, fin_rt, fin_nx, fin_exc, Stp_nx, Stp_ct, mC_eq, mVar_eq, mOp_eq, mUn_eq, mNil_eq, mCons_eq, mLits_eq, mTest_eq, mTru_eq, mAnd_eq, mOr_eq, mNot_eq, mAndV_eq, mOrV_eq, mNotV_eq, mIfE_eq, mChain_eq, mNext_eq, mDrop_eq, mRet_eq, mRetN_eq, mIf_eq, mRaise_eq, mgN_eq, mgNil_eq, mgCons_eq, mgTup_eq, mAsg_eq, mSet_eq, mPar_eq, mPar3_eq, mAug_eq, mTup_eq, mLst_eq, mkL_t, mkL_f, mCB_eq, mCall_eq, mNoPart_eq, mPart_eq, mSl_eq, mBM_eq, mBM0_eq, mgSub_eq, mItL_eq, mItT_eq, mItE_eq, mItZ_eq, mRg1_eq, mRg2_eq, mRg3_eq, mFor_eq, mLc_eq, mYes_eq, mRev_eq, mStep_eq, fAdd_eq, fSub_eq, fNeg_eq, fLt_eq, fLe_eq, fGt_eq, fGe_eq, fEq_int, fNe_int, fIsN_eq, fNotN_eq, isNon_non, isNon_int, isNon_ref, fIsB_eq, fIsntB_eq, fInt_bl, fMax_eq, fMin_eq, fIxT_0, fIxT_1, getL_lst, getL_tup, getL_int, getL_non, getS_tup, getS_lst, getF_lst, getF_frz, List.map_cons, List.map_nil, List.cons_append, List.nil_append, List.length_cons, List.length_nil, Nat.zero_add, Nat.reduceAdd, Nat.reduceSub, Nat.reduceLeDiff, List.replicate_succ, List.replicate_zero, List.getElem?_cons_zero, List.getElem?_cons_succ, List.set_cons_zero, List.set_cons_succ, if_true, if_false, Bool.not_true, Bool.not_false, Bool.false_eq_true, Bool.true_eq_false, decide_true, decide_false, Int.toNat_natCast, Bool.and_true, Bool.true_and, Bool.and_false, Bool.false_and, ce, va, e1]
    rw [mSeq_eq, st]
    simp only [bindF_nx, bindF_rt, bindF_exc, bindF_ct, bindF_bk, bindS_ok, bindS_exc, bindR_ok, bindR_exc, fin_rt, fin_nx, fin_exc, Stp_nx, Stp_ct, mC_eq, mVar_eq, mOp_eq, mUn_eq, mNil_eq, mCons_eq, mLits_eq, mTest_eq, mTru_eq, mAnd_eq, mOr_eq, mNot_eq, mAndV_eq, mOrV_eq, mNotV_eq, mIfE_eq, mChain_eq, mNext_eq, mDrop_eq, mRet_eq, mRetN_eq, mIf_eq, mRaise_eq, mgN_eq, mgNil_eq, mgCons_eq, mgTup_eq, mAsg_eq, mSet_eq, mPar_eq, mPar3_eq, mAug_eq, mTup_eq, mLst_eq, mkL_t, mkL_f, mCB_eq, mCall_eq, mNoPart_eq, mPart_eq, mSl_eq, mBM_eq, mBM0_eq, mgSub_eq, mItL_eq, mItT_eq, mItE_eq, mItZ_eq, mRg1_eq, mRg2_eq, mRg3_eq, mFor_eq, mLc_eq, mYes_eq, mRev_eq, mStep_eq, fAdd_eq, fSub_eq, fNeg_eq, fLt_eq, fLe_eq, fGt_eq, fGe_eq, fEq_int, fNe_int, fIsN_eq, fNotN_eq, isNon_non, isNon_int, isNon_ref, fIsB_eq, fIsntB_eq, fInt_bl, fMax_eq, fMin_eq, fIxT_0, fIxT_1, getL_lst, getL_tup, getL_int, getL_non, getS_tup, getS_lst, getF_lst, getF_frz, List.map_cons, List.map_nil, List.cons_append, List.nil_append, List.length_cons, List.length_nil, Nat.zero_add, Nat.reduceAdd, Nat.reduceSub, Nat.reduceLeDiff, List.replicate_succ, List.replicate_zero, List.getElem?_cons_zero, List.getElem?_cons_succ, List.set_cons_zero, List.set_cons_succ, if_true, if_false, Bool.not_true, Bool.not_false, Bool.false_eq_true, Bool.true_eq_false, decide_true, decide_false, Int.toNat_natCast, Bool.and_true, Bool.true_and, Bool.and_false, Bool.false_and, ]
    rw [mSeq_eq]
    simp only [bindF_nx, bindF_rt, bindF_exc, bindF_ct, bindF_bk, bindS_ok, bindS_exc, bindR_ok, bindR_exc, fin_rt, fin_nx, fin_exc, Stp_nx, Stp_ct, mC_eq, mVar_eq, mOp_eq, mUn_eq, mNil_eq, mCons_eq, mLits_eq, mTest_eq, mTru_eq, mAnd_eq, mOr_eq, mNot_eq, mAndV_eq, mOrV_eq, mNotV_eq, mIfE_eq, mChain_eq, mNext_eq, mDrop_eq, mRet_eq, mRetN_eq, mIf_eq, mRaise_eq, mgN_eq, mgNil_eq, mgCons_eq, mgTup_eq, mAsg_eq, mSet_eq, mPar_eq, mPar3_eq, mAug_eq, mTup_eq, mLst_eq, mkL_t, mkL_f, mCB_eq, mCall_eq, mNoPart_eq, mPart_eq, mSl_eq, mBM_eq, mBM0_eq, mgSub_eq, mItL_eq, mItT_eq, mItE_eq, mItZ_eq, mRg1_eq, mRg2_eq, mRg3_eq, mFor_eq, mLc_eq, mYes_eq, mRev_eq, mStep_eq, fAdd_eq, fSub_eq, fNeg_eq, fLt_eq, fLe_eq, fGt_eq, fGe_eq, fEq_int, fNe_int, fIsN_eq, fNotN_eq, isNon_non, isNon_int, isNon_ref, fIsB_eq, fIsntB_eq, fInt_bl, fMax_eq, fMin_eq, fIxT_0, fIxT_1, getL_lst, getL_tup, getL_int, getL_non, getS_tup, getS_lst, getF_lst, getF_frz, List.map_cons, List.map_nil, List.cons_append, List.nil_append, List.length_cons, List.length_nil, Nat.zero_add, Nat.reduceAdd, Nat.reduceSub, Nat.reduceLeDiff, List.replicate_succ, List.replicate_zero, List.getElem?_cons_zero, List.getElem?_cons_succ, List.set_cons_zero, List.set_cons_succ, if_true, if_false, Bool.not_true, Bool.not_false, Bool.false_eq_true, Bool.true_eq_false, decide_true, decide_false, Int.toNat_natCast, Bool.and_true, Bool.true_and, Bool.and_false, Bool.false_and, u1, e2, u2]
    rw [mSeq_eq]
    simp only [bindF_nx, bindF_rt, bindF_exc, bindF_ct, bindF_bk, bindS_ok, bindS_exc, bindR_ok, bindR_exc, fin_rt, fin_nx, fin_exc, Stp_nx, Stp_ct, mC_eq, mVar_eq, mOp_eq, mUn_eq, mNil_eq, mCons_eq, mLits_eq, mTest_eq, mTru_eq, mAnd_eq, mOr_eq, mNot_eq, mAndV_eq, mOrV_eq, mNotV_eq, mIfE_eq, mChain_eq, mNext_eq, mDrop_eq, mRet_eq, mRetN_eq, mIf_eq, mRaise_eq, mgN_eq, mgNil_eq, mgCons_eq, mgTup_eq, mAsg_eq, mSet_eq, mPar_eq, mPar3_eq, mAug_eq, mTup_eq, mLst_eq, mkL_t, mkL_f, mCB_eq, mCall_eq, mNoPart_eq, mPart_eq, mSl_eq, mBM_eq, mBM0_eq, mgSub_eq, mItL_eq, mItT_eq, mItE_eq, mItZ_eq, mRg1_eq, mRg2_eq, mRg3_eq, mFor_eq, mLc_eq, mYes_eq, mRev_eq, mStep_eq, fAdd_eq, fSub_eq, fNeg_eq, fLt_eq, fLe_eq, fGt_eq, fGe_eq, fEq_int, fNe_int, fIsN_eq, fNotN_eq, isNon_non, isNon_int, isNon_ref, fIsB_eq, fIsntB_eq, fInt_bl, fMax_eq, fMin_eq, fIxT_0, fIxT_1, getL_lst, getL_tup, getL_int, getL_non, getS_tup, getS_lst, getF_lst, getF_frz, List.map_cons, List.map_nil, List.cons_append, List.nil_append, List.length_cons, List.length_nil, Nat.zero_add, Nat.reduceAdd, Nat.reduceSub, Nat.reduceLeDiff, List.replicate_succ, List.replicate_zero, List.getElem?_cons_zero, List.getElem?_cons_succ, List.set_cons_zero, List.set_cons_succ, if_true, if_false, Bool.not_true, Bool.not_false, Bool.false_eq_true, Bool.true_eq_false, decide_true, decide_false, Int.toNat_natCast, Bool.and_true, Bool.true_and, Bool.and_false, Bool.false_and, e3]
    rw [mSeq_eq]
    simp only [bindF_nx, bindF_rt, bindF_exc, bindF_ct, bindF_bk, bindS_ok, bindS_exc, bindR_ok, bindR_exc, fin_rt, fin_nx, fin_exc, Stp_nx, Stp_ct, mC_eq, mVar_eq, mOp_eq, mUn_eq, mNil_eq, mCons_eq, mLits_eq, mTest_eq, mTru_eq, mAnd_eq, mOr_eq, mNot_eq, mAndV_eq, mOrV_eq, mNotV_eq, mIfE_eq, mChain_eq, mNext_eq, mDrop_eq, mRet_eq, mRetN_eq, mIf_eq, mRaise_eq, mgN_eq, mgNil_eq, mgCons_eq, mgTup_eq, mAsg_eq, mSet_eq, mPar_eq, mPar3_eq, mAug_eq, mTup_eq, mLst_eq, mkL_t, mkL_f, mCB_eq, mCall_eq, mNoPart_eq, mPart_eq, mSl_eq, mBM_eq, mBM0_eq, mgSub_eq, mItL_eq, mItT_eq, mItE_eq, mItZ_eq, mRg1_eq, mRg2_eq, mRg3_eq, mFor_eq, mLc_eq, mYes_eq, mRev_eq, mStep_eq, fAdd_eq, fSub_eq, fNeg_eq, fLt_eq, fLe_eq, fGt_eq, fGe_eq, fEq_int, fNe_int, fIsN_eq, fNotN_eq, isNon_non, isNon_int, isNon_ref, fIsB_eq, fIsntB_eq, fInt_bl, fMax_eq, fMin_eq, fIxT_0, fIxT_1, getL_lst, getL_tup, getL_int, getL_non, getS_tup, getS_lst, getF_lst, getF_frz, List.map_cons, List.map_nil, List.cons_append, List.nil_append, List.length_cons, List.length_nil, Nat.zero_add, Nat.reduceAdd, Nat.reduceSub, Nat.reduceLeDiff, List.replicate_succ, List.replicate_zero, List.getElem?_cons_zero, List.getElem?_cons_succ, List.set_cons_zero, List.set_cons_succ, if_true, if_false, Bool.not_true, Bool.not_false, Bool.false_eq_true, Bool.true_eq_false, decide_true, decide_false, Int.toNat_natCast, Bool.and_true, Bool.true_and, Bool.and_false, Bool.false_and, l3, b3, n3, n4, cn]
    rw [mSeq_eq]
    simp only [bindF_nx, bindF_rt, bindF_exc, bindF_ct, bindF_bk, bindS_ok, bindS_exc, bindR_ok, bindR_exc, fin_rt, fin_nx, fin_exc, Stp_nx, Stp_ct, mC_eq, mVar_eq, mOp_eq, mUn_eq, mNil_eq, mCons_eq, mLits_eq, mTest_eq, mTru_eq, mAnd_eq, mOr_eq, mNot_eq, mAndV_eq, mOrV_eq, mNotV_eq, mIfE_eq, mChain_eq, mNext_eq, mDrop_eq, mRet_eq, mRetN_eq, mIf_eq, mRaise_eq, mgN_eq, mgNil_eq, mgCons_eq, mgTup_eq, mAsg_eq, mSet_eq, mPar_eq, mPar3_eq, mAug_eq, mTup_eq, mLst_eq, mkL_t, mkL_f, mCB_eq, mCall_eq, mNoPart_eq, mPart_eq, mSl_eq, mBM_eq, mBM0_eq, mgSub_eq, mItL_eq, mItT_eq, mItE_eq, mItZ_eq, mRg1_eq, mRg2_eq, mRg3_eq, mFor_eq, mLc_eq, mYes_eq, mRev_eq, mStep_eq, fAdd_eq, fSub_eq, fNeg_eq, fLt_eq, fLe_eq, fGt_eq, fGe_eq, fEq_int, fNe_int, fIsN_eq, fNotN_eq, isNon_non, isNon_int, isNon_ref, fIsB_eq, fIsntB_eq, fInt_bl, fMax_eq, fMin_eq, fIxT_0, fIxT_1, getL_lst, getL_tup, getL_int, getL_non, getS_tup, getS_lst, getF_lst, getF_frz, List.map_cons, List.map_nil, List.cons_append, List.nil_append, List.length_cons, List.length_nil, Nat.zero_add, Nat.reduceAdd, Nat.reduceSub, Nat.reduceLeDiff, List.replicate_succ, List.replicate_zero, List.getElem?_cons_zero, List.getElem?_cons_succ, List.set_cons_zero, List.set_cons_succ, if_true, if_false, Bool.not_true, Bool.not_false, Bool.false_eq_true, Bool.true_eq_false, decide_true, decide_false, Int.toNat_natCast, Bool.and_true, Bool.true_and, Bool.and_false, Bool.false_and, l3, b3, n3, n4, cs, tS, w4, w5, se, fNe_shD]
    rw [mSeq_eq]
    simp only [bindF_nx, bindF_rt, bindF_exc, bindF_ct, bindF_bk, bindS_ok, bindS_exc, bindR_ok, bindR_exc, fin_rt, fin_nx, fin_exc, Stp_nx, Stp_ct, mC_eq, mVar_eq, mOp_eq, mUn_eq, mNil_eq, mCons_eq, mLits_eq, mTest_eq, mTru_eq, mAnd_eq, mOr_eq, mNot_eq, mAndV_eq, mOrV_eq, mNotV_eq, mIfE_eq, mChain_eq, mNext_eq, mDrop_eq, mRet_eq, mRetN_eq, mIf_eq, mRaise_eq, mgN_eq, mgNil_eq, mgCons_eq, mgTup_eq, mAsg_eq, mSet_eq, mPar_eq, mPar3_eq, mAug_eq, mTup_eq, mLst_eq, mkL_t, mkL_f, mCB_eq, mCall_eq, mNoPart_eq, mPart_eq, mSl_eq, mBM_eq, mBM0_eq, mgSub_eq, mItL_eq, mItT_eq, mItE_eq, mItZ_eq, mRg1_eq, mRg2_eq, mRg3_eq, mFor_eq, mLc_eq, mYes_eq, mRev_eq, mStep_eq, fAdd_eq, fSub_eq, fNeg_eq, fLt_eq, fLe_eq, fGt_eq, fGe_eq, fEq_int, fNe_int, fIsN_eq, fNotN_eq, isNon_non, isNon_int, isNon_ref, fIsB_eq, fIsntB_eq, fInt_bl, fMax_eq, fMin_eq, fIxT_0, fIxT_1, getL_lst, getL_tup, getL_int, getL_non, getS_tup, getS_lst, getF_lst, getF_frz, List.map_cons, List.map_nil, List.cons_append, List.nil_append, List.length_cons, List.length_nil, Nat.zero_add, Nat.reduceAdd, Nat.reduceSub, Nat.reduceLeDiff, List.replicate_succ, List.replicate_zero, List.getElem?_cons_zero, List.getElem?_cons_succ, List.set_cons_zero, List.set_cons_succ, if_true, if_false, Bool.not_true, Bool.not_false, Bool.false_eq_true, Bool.true_eq_false, decide_true, decide_false, Int.toNat_natCast, Bool.and_true, Bool.true_and, Bool.and_false, Bool.false_and, ]
    rw [mSeq_eq]
    simp only [bindF_nx, bindF_rt, bindF_exc, bindF_ct, bindF_bk, bindS_ok, bindS_exc, bindR_ok, bindR_exc, fin_rt, fin_nx, fin_exc, Stp_nx, Stp_ct, mC_eq, mVar_eq, mOp_eq, mUn_eq, mNil_eq, mCons_eq, mLits_eq, mTest_eq, mTru_eq, mAnd_eq, mOr_eq, mNot_eq, mAndV_eq, mOrV_eq, mNotV_eq, mIfE_eq, mChain_eq, mNext_eq, mDrop_eq, mRet_eq, mRetN_eq, mIf_eq, mRaise_eq, mgN_eq, mgNil_eq, mgCons_eq, mgTup_eq, mAsg_eq, mSet_eq, mPar_eq, mPar3_eq, mAug_eq, mTup_eq, mLst_eq, mkL_t, mkL_f, mCB_eq, mCall_eq, mNoPart_eq, mPart_eq, mSl_eq, mBM_eq, mBM0_eq, mgSub_eq, mItL_eq, mItT_eq, mItE_eq, mItZ_eq, mRg1_eq, mRg2_eq, mRg3_eq, mFor_eq, mLc_eq, mYes_eq, mRev_eq, mStep_eq, fAdd_eq, fSub_eq, fNeg_eq, fLt_eq, fLe_eq, fGt_eq, fGe_eq, fEq_int, fNe_int, fIsN_eq, fNotN_eq, isNon_non, isNon_int, isNon_ref, fIsB_eq, fIsntB_eq, fInt_bl, fMax_eq, fMin_eq, fIxT_0, fIxT_1, getL_lst, getL_tup, getL_int, getL_non, getS_tup, getS_lst, getF_lst, getF_frz, List.map_cons, List.map_nil, List.cons_append, List.nil_append, List.length_cons, List.length_nil, Nat.zero_add, Nat.reduceAdd, Nat.reduceSub, Nat.reduceLeDiff, List.replicate_succ, List.replicate_zero, List.getElem?_cons_zero, List.getElem?_cons_succ, List.set_cons_zero, List.set_cons_succ, if_true, if_false, Bool.not_true, Bool.not_false, Bool.false_eq_true, Bool.true_eq_false, decide_true, decide_false, Int.toNat_natCast, Bool.and_true, Bool.true_and, Bool.and_false, Bool.false_and, ]
    rw [show (itE (.lst (di og)) (di og).length).n = (di og).length from rfl]
    refine for_E_s (xs := di og) (IvK11a g (.lst (di ms)) (.int b) (.int vv) (.tup [.lst (di order), .lst (di lost2)]) (.tup [.lst (di og), .lst (di lg)]) (.lst (dp (unlP og lg))) og lg) (.mk 0 v5 v9 v10 v11) (fun i σ h' _ q => by cases q; rfl) ?_ ?_
    · rintro t x σ h' hx ⟨v5, v9, v10, v11⟩
      obtain ⟨gu, rfl, hg⟩ := di_at hx
      have ht := (List.getElem?_eq_some_iff.mp hg).1
      have gD : og.getD t 0 = gu := by rw [List.getD_eq_getElem?_getD, hg]; rfl
      refine ⟨_, _, rfl, ?_⟩
      have ct := cut_di og (i := (t : Nat)) (by omega)
      rw [Int.toNat_natCast] at ct
      have ca : ∀ x10 : Option Dv, compN (itL (.lst (di (og.take t))) (di (og.take t)).length) (mgN 13) (mTest (mOp (fIn false) (mVar 13) (mOp fIxT (mVar 4) (mC (.int 1))))) (mVar 13) [13] [some (.lst (di ms)), some (.int b), some (.int vv), some (.tup [.lst (di order), .lst (di lost2)]), some (.tup [.lst (di og), .lst (di lg)]), some (.int gu), some (.lst (dp (unlP og lg))), some (.int (AI og lg t)), some (.int (BI og lg t)), some (.int (t : Nat)), x10, v11, none, none] (di (og.take t)).length 0 [] g = .ok (di ((og.take t).filter fun z => decide (z ∈ lg))) g := fun x10 => by
        have := comp_L (d := .lst (di (og.take t))) (xs := di (og.take t)) (h := g) (σ := [some (.lst (di ms)), some (.int b), some (.int vv), some (.tup [.lst (di order), .lst (di lost2)]), some (.tup [.lst (di og), .lst (di lg)]), some (.int gu), some (.lst (dp (unlP og lg))), some (.int (AI og lg t)), some (.int (BI og lg t)), some (.int (t : Nat)), x10, v11, none, none]) (g := mgN 13) (tt := mTest (mOp (fIn false) (mVar 13) (mOp fIxT (mVar 4) (mC (.int 1))))) (te := mVar 13) (vs := [13]) (fun x => match x with | .int z => if decide (z ∈ lg) = true then some (.int z) else none | _ => none) getL_lst (fun i x hx => by
          obtain ⟨z, rfl, hz⟩ := di_at hx
          have i1 := fIn_di (h := g) (neg := false) (i := z) (getS_of_L (getL_lst (xs := di lg)))
          refine ⟨_, rfl, ?_⟩
          by_cases c : z ∈ lg
          · exact .inr ⟨.int z, by simp [c], by simp [wipeD, i1, c], by simp [wipeD]⟩
          · exact .inl ⟨by simp [c], by simp [wipeD, i1, c]⟩)
        rw [fm_di (og.take t) (fun z => decide (z ∈ lg)) _ fun _ _ => rfl] at this
        exact this
      have ln := fLen_eq (h := g) (getS_lst (xs := di ((og.take t).filter fun z => decide (z ∈ lg))))
      rw [di_length, came_comp] at ln
      have q3 : ∀ xs : List Dv, (itL (.lst xs) xs.length).lim = true := fun _ => rfl
      have q4 : ∀ xs : List Dv, (itL (.lst xs) xs.length).n = xs.length := fun _ => rfl
      have i2 := fIn_di (h := g) (neg := true) (i := gu) (getS_of_L (getL_lst (xs := di lg)))
      have cl := came_le (order := og) (lost := lg) t
      have key := fun v5 v9 v10 v11 => IvK11a.mk (g := g) (s := .lst (di ms)) (b := .int b) (v := .int vv) (n := .tup [.lst (di order), .lst (di lost2)]) (gt := .tup [.lst (di og), .lst (di lg)]) (pp := .lst (dp (unlP og lg))) (order := og) (lost := lg) (t + 1) v5 v9 v10 v11
      unfold AI BI at key
      rw [gD] at key
      have m1 := fMul_r (h := g) (i := AI og lg t) (j := (og.length : Int) - (t : Int)) (by omega) (by omega)
      have m2 := fMul_r (h := g) (i := BI og lg t) (j := (og.length : Int) - (t : Int) + (cameL og lg t : Int)) (by omega) (by omega)
      by_cases c : gu ∈ lg
      · rw [if_pos c, if_pos c] at key
        simp only [decide_eq_true c, if_true, Bool.not_true] at i2
        simp only [bindF_nx, bindF_rt, bindF_exc, bindF_ct, bindF_bk, bindS_ok, bindS_exc, bindR_ok, bindR_exc, fin_rt, fin_nx, fin_exc, Stp_nx, Stp_ct, mC_eq, mVar_eq, mOp_eq, mUn_eq, mNil_eq, mCons_eq, mLits_eq, mTest_eq, mTru_eq, mAnd_eq, mOr_eq, mNot_eq, mAndV_eq, mOrV_eq, mNotV_eq, mIfE_eq, mChain_eq, mNext_eq, mSeq_eq, mDrop_eq, mRet_eq, mRetN_eq, mIf_eq, mRaise_eq, mgN_eq, mgNil_eq, mgCons_eq, mgTup_eq, mAsg_eq, mSet_eq, mPar_eq, mPar3_eq, mAug_eq, mTup_eq, mLst_eq, mkL_t, mkL_f, mCB_eq, mCall_eq, mNoPart_eq, mPart_eq, mSl_eq, mBM_eq, mBM0_eq, mgSub_eq, mItL_eq, mItT_eq, mItE_eq, mItZ_eq, mRg1_eq, mRg2_eq, mRg3_eq, mFor_eq, mLc_eq, mYes_eq, mRev_eq, mStep_eq, fAdd_eq, fSub_eq, fNeg_eq, fLt_eq, fLe_eq, fGt_eq, fGe_eq, fEq_int, fNe_int, fIsN_eq, fNotN_eq, isNon_non, isNon_int, isNon_ref, fIsB_eq, fIsntB_eq, fInt_bl, fMax_eq, fMin_eq, fIxT_0, fIxT_1, getL_lst, getL_tup, getL_int, getL_non, getS_tup, getS_lst, getF_lst, getF_frz, List.map_cons, List.map_nil, List.cons_append, List.nil_append, List.length_cons, List.length_nil, Nat.zero_add, Nat.reduceAdd, Nat.reduceSub, Nat.reduceLeDiff, List.replicate_succ, List.replicate_zero, List.getElem?_cons_zero, List.getElem?_cons_succ, List.set_cons_zero, List.set_cons_succ, if_true, if_false, Bool.not_true, Bool.not_false, Bool.false_eq_true, Bool.true_eq_false, decide_true, decide_false, Int.toNat_natCast, Bool.and_true, Bool.true_and, Bool.and_false, Bool.false_and, ct, q3, q4, ca, ln, i2]
        exact key _ _ _ _
      · rw [if_neg c, if_neg c] at key
        simp only [decide_eq_false c, if_true, Bool.not_false] at i2
        simp only [bindF_nx, bindF_rt, bindF_exc, bindF_ct, bindF_bk, bindS_ok, bindS_exc, bindR_ok, bindR_exc, fin_rt, fin_nx, fin_exc, Stp_nx, Stp_ct, mC_eq, mVar_eq, mOp_eq, mUn_eq, mNil_eq, mCons_eq, mLits_eq, mTest_eq, mTru_eq, mAnd_eq, mOr_eq, mNot_eq, mAndV_eq, mOrV_eq, mNotV_eq, mIfE_eq, mChain_eq, mNext_eq, mSeq_eq, mDrop_eq, mRet_eq, mRetN_eq, mIf_eq, mRaise_eq, mgN_eq, mgNil_eq, mgCons_eq, mgTup_eq, mAsg_eq, mSet_eq, mPar_eq, mPar3_eq, mAug_eq, mTup_eq, mLst_eq, mkL_t, mkL_f, mCB_eq, mCall_eq, mNoPart_eq, mPart_eq, mSl_eq, mBM_eq, mBM0_eq, mgSub_eq, mItL_eq, mItT_eq, mItE_eq, mItZ_eq, mRg1_eq, mRg2_eq, mRg3_eq, mFor_eq, mLc_eq, mYes_eq, mRev_eq, mStep_eq, fAdd_eq, fSub_eq, fNeg_eq, fLt_eq, fLe_eq, fGt_eq, fGe_eq, fEq_int, fNe_int, fIsN_eq, fNotN_eq, isNon_non, isNon_int, isNon_ref, fIsB_eq, fIsntB_eq, fInt_bl, fMax_eq, fMin_eq, fIxT_0, fIxT_1, getL_lst, getL_tup, getL_int, getL_non, getS_tup, getS_lst, getF_lst, getF_frz, List.map_cons, List.map_nil, List.cons_append, List.nil_append, List.length_cons, List.length_nil, Nat.zero_add, Nat.reduceAdd, Nat.reduceSub, Nat.reduceLeDiff, List.replicate_succ, List.replicate_zero, List.getElem?_cons_zero, List.getElem?_cons_succ, List.set_cons_zero, List.set_cons_succ, if_true, if_false, Bool.not_true, Bool.not_false, Bool.false_eq_true, Bool.true_eq_false, decide_true, decide_false, Int.toNat_natCast, Bool.and_true, Bool.true_and, Bool.and_false, Bool.false_and, ct, q3, q4, ca, ln, i2, l3, m1, m2]
        exact key _ _ _ _
    · rw [di_length]
      rintro σ h' ⟨v5, v9, v10, v11⟩
      obtain ⟨p1, p2, p3⟩ := AB_pos (order := og) (lost := lg) h2 og.length (Nat.le_refl _)
      have pt := c_part (h := g) p1 p2 (Int.lt_of_le_of_lt p3 (pow_big h2))
      simp only [bindF_nx, bindF_rt, bindF_exc, bindF_ct, bindF_bk, bindS_ok, bindS_exc, bindR_ok, bindR_exc, fin_rt, fin_nx, fin_exc, Stp_nx, Stp_ct, mC_eq, mVar_eq, mOp_eq, mUn_eq, mNil_eq, mCons_eq, mLits_eq, mTest_eq, mTru_eq, mAnd_eq, mOr_eq, mNot_eq, mAndV_eq, mOrV_eq, mNotV_eq, mIfE_eq, mChain_eq, mNext_eq, mSeq_eq, mDrop_eq, mRet_eq, mRetN_eq, mIf_eq, mRaise_eq, mgN_eq, mgNil_eq, mgCons_eq, mgTup_eq, mAsg_eq, mSet_eq, mPar_eq, mPar3_eq, mAug_eq, mTup_eq, mLst_eq, mkL_t, mkL_f, mCB_eq, mCall_eq, mNoPart_eq, mPart_eq, mSl_eq, mBM_eq, mBM0_eq, mgSub_eq, mItL_eq, mItT_eq, mItE_eq, mItZ_eq, mRg1_eq, mRg2_eq, mRg3_eq, mFor_eq, mLc_eq, mYes_eq, mRev_eq, mStep_eq, fAdd_eq, fSub_eq, fNeg_eq, fLt_eq, fLe_eq, fGt_eq, fGe_eq, fEq_int, fNe_int, fIsN_eq, fNotN_eq, isNon_non, isNon_int, isNon_ref, fIsB_eq, fIsntB_eq, fInt_bl, fMax_eq, fMin_eq, fIxT_0, fIxT_1, getL_lst, getL_tup, getL_int, getL_non, getS_tup, getS_lst, getF_lst, getF_frz, List.map_cons, List.map_nil, List.cons_append, List.nil_append, List.length_cons, List.length_nil, Nat.zero_add, Nat.reduceAdd, Nat.reduceSub, Nat.reduceLeDiff, List.replicate_succ, List.replicate_zero, List.getElem?_cons_zero, List.getElem?_cons_succ, List.set_cons_zero, List.set_cons_succ, if_true, if_false, Bool.not_true, Bool.not_false, Bool.false_eq_true, Bool.true_eq_false, decide_true, decide_false, Int.toNat_natCast, Bool.and_true, Bool.true_and, Bool.and_false, Bool.false_and, tU, pt, fNe_shD]
      exact .mk (i + 1) _ _ _ _ _ _ _ _ _ _ _ _
  · rintro σ h' ⟨_, v1, v2, v3, v4, v5, v6, v7, v8, v9, v10, v11⟩
    have NN : Ni h' (.tup [.lst [.int 0, .int 1, .int 2, .int 3], .lst [.int 0]]) [0, 1, 2, 3] [0] := Ni.mk' (order := [0, 1, 2, 3]) (lost := [0]) rfl rfl
    have ok : NightOk 40 [0, 1, 2, 3] [0] := ⟨by decide, by decide, by decide, by decide, by decide, by decide⟩
    have a1 := c_tog (h := h') (v := .tup [.lst [.int 0, .int 1, .int 2, .int 3], .lst [.int 0]]) (d := .lst [.tup [.int 0, .int 2], .tup [.int 2, .int 3]]) (ps := [(0, 2), (2, 3)]) ⟨NN, ok, rfl, ⟨by decide, by decide⟩⟩
    have a2 := c_tog (h := h') (v := .tup [.lst [.int 0, .int 1, .int 2, .int 3], .lst [.int 0]]) (d := .lst [.tup [.int 1, .int 1], .tup [.int 2, .int 2]]) (ps := [(1, 1), (2, 2)]) ⟨NN, ok, rfl, ⟨by decide, by decide⟩⟩
    have a3 := c_tog (h := h') (v := .tup [.lst [.int 0, .int 1, .int 2, .int 3], .lst [.int 0]]) (d := .lst [.tup [.int 1, .int 3], .tup [.int 3, .int 0]]) (ps := [(1, 3), (3, 0)]) ⟨NN, ok, rfl, ⟨by decide, by decide⟩⟩
    have a4 := c_tog (h := h') (v := .tup [.lst [.int 0, .int 1, .int 2, .int 3], .lst [.int 0]]) (d := .lst [.tup [.int 0, .int 1], .tup [.int 3, .int 1]]) (ps := [(0, 1), (3, 1)]) ⟨NN, ok, rfl, ⟨by decide, by decide⟩⟩
    rw [show togR [0, 1, 2, 3] [0] [(0, 2), (2, 3)] = 1 / ((8 : Int) : Rat) by decide +kernel, shD_oneI (by decide)] at a1
    rw [show togR [0, 1, 2, 3] [0] [(1, 1), (2, 2)] = 1 / ((2 : Int) : Rat) by decide +kernel, shD_oneI (by decide)] at a2
    rw [show togR [0, 1, 2, 3] [0] [(1, 3), (3, 0)] = 1 / ((12 : Int) : Rat) by decide +kernel, shD_oneI (by decide)] at a3
    rw [show togR [0, 1, 2, 3] [0] [(0, 1), (3, 1)] = 0 by decide +kernel, shD_zero] at a4
    simp only [bindF_nx, bindF_rt, bindF_exc, bindF_ct, bindF_bk, bindS_ok, bindS_exc, bindR_ok, bindR_exc, fin_rt, fin_nx, fin_exc, Stp_nx, Stp_ct, mC_eq, mVar_eq, mOp_eq, mUn_eq, mNil_eq, mCons_eq, mLits_eq, mTest_eq, mTru_eq, mAnd_eq, mOr_eq, mNot_eq, mAndV_eq, mOrV_eq, mNotV_eq, mIfE_eq, mChain_eq, mNext_eq, mSeq_eq, mDrop_eq, mRet_eq, mRetN_eq, mIf_eq, mRaise_eq, mgN_eq, mgNil_eq, mgCons_eq, mgTup_eq, mAsg_eq, mSet_eq, mPar_eq, mPar3_eq, mAug_eq, mTup_eq, mLst_eq, mkL_t, mkL_f, mCB_eq, mCall_eq, mNoPart_eq, mPart_eq, mSl_eq, mBM_eq, mBM0_eq, mgSub_eq, mItL_eq, mItT_eq, mItE_eq, mItZ_eq, mRg1_eq, mRg2_eq, mRg3_eq, mFor_eq, mLc_eq, mYes_eq, mRev_eq, mStep_eq, fAdd_eq, fSub_eq, fNeg_eq, fLt_eq, fLe_eq, fGt_eq, fGe_eq, fEq_int, fNe_int, fIsN_eq, fNotN_eq, isNon_non, isNon_int, isNon_ref, fIsB_eq, fIsntB_eq, fInt_bl, fMax_eq, fMin_eq, fIxT_0, fIxT_1, getL_lst, getL_tup, getL_int, getL_non, getS_tup, getS_lst, getF_lst, getF_frz, List.map_cons, List.map_nil, List.cons_append, List.nil_append, List.length_cons, List.length_nil, Nat.zero_add, Nat.reduceAdd, Nat.reduceSub, Nat.reduceLeDiff, List.replicate_succ, List.replicate_zero, List.getElem?_cons_zero, List.getElem?_cons_succ, List.set_cons_zero, List.set_cons_succ, if_true, if_false, Bool.not_true, Bool.not_false, Bool.false_eq_true, Bool.true_eq_false, decide_true, decide_false, Int.toNat_natCast, Bool.and_true, Bool.true_and, Bool.and_false, Bool.false_and, a1, a2, a3, a4, fNe_sh, fEq_sh]
    exact ⟨_, rfl⟩
end Ds

set_option Elab.async false
set_option linter.all false
set_option maxRecDepth 100000
namespace Lw
open PySem L2
def top (i : Nat) : Stmt := PySem.Challenge.pw_lostseat_k11_whole_together.main.body.getD i (.Pass ⟨0, 0, 0, 0⟩)
abbrev s__wall : Stmt := top 0
abbrev s_is_number : Stmt := top 11
abbrev s_is_counted : Stmt := top 12
abbrev s_is_rising : Stmt := top 13
abbrev s_is_each_once : Stmt := top 14
abbrev s_is_order : Stmt := top 15
abbrev s_is_night : Stmt := top 16
abbrev s_check_night : Stmt := top 17
abbrev s_check_guest_and_seat : Stmt := top 18
abbrev s_check_seating : Stmt := top 19
abbrev s_lowest : Stmt := top 20
abbrev s_choosable : Stmt := top 21
abbrev s_walk : Stmt := top 22
abbrev s_share : Stmt := top 24
abbrev s_seating : Stmt := top 25
abbrev s_alike_seats : Stmt := top 26
abbrev s_share_at : Stmt := top 27
abbrev s_together : Stmt := top 29
abbrev s_are_pairs : Stmt := top 30
abbrev s_is_pair : Stmt := top 31
abbrev s_share_of_turn : Stmt := top 32
abbrev s_own_is_free : Stmt := top 33
abbrev s_untold_to_come : Stmt := top 34
abbrev s_Door___init__ : Stmt := inClass (top 36) 0
abbrev s_Door_come : Stmt := inClass (top 36) 1
abbrev s_Door_next_guest : Stmt := inClass (top 36) 2
abbrev s_Door_open_seats : Stmt := inClass (top 36) 3
abbrev s_Door_taken : Stmt := inClass (top 36) 4
abbrev s_Door_so_far : Stmt := inClass (top 36) 5
abbrev s__law_cell_at : Stmt := top 38
abbrev s__law_draw : Stmt := top 39
abbrev s__law_value : Stmt := top 40
abbrev s__law_whole : Stmt := top 41
abbrev s__law_night : Stmt := top 42
abbrev s__law_copied : Stmt := top 43
abbrev s__law_part : Stmt := top 44
abbrev s__law_ways : Stmt := top 45
abbrev s__law_seats : Stmt := top 46
abbrev s__law_pairs : Stmt := top 47
abbrev s__law_right : Stmt := top 48
abbrev s__law_summed : Stmt := top 49
abbrev s__law_great_right : Stmt := top 50
abbrev s_law : Stmt := top 51
end Lw

set_option Elab.async false
set_option linter.all false
set_option maxRecDepth 100000
namespace Lw
open PySem PySem.Spec PyProof.Rows L2 Ds
section
variable {G : Gx} {mg : Str → Option Value} {base : Heap}
abbrev NL__law_draw : List Str := ["_law_cell", "_law_k", "_law_many", "_law_primes"]
def tupOf (s : Stmt) : List Expr := match s with
  | .Assign _ (.Tuple es _ _) _ => es
  | _ => []
abbrev NL__law_value : List Str := ["_law_cell", "_law_turn", "_law_rest", "_law_blend"]
abbrev NL__law_cell_at : List Str := ["_law_script", "_law_k"]
abbrev NL__law_night : List Str := ["_law_script", "_law_by", "_law_most", "_law_value_here", "_law_order", "_law_lost", "_law_kind", "_law_guest", "_law_number"]
abbrev NL__law_ways : List Str := ["_law_night_here", "_law_order", "_law_lost", "_law_whole_here", "_law_many", "_law_found", "_law_turn", "_law_guest", "_law_longer", "_law_seats_here", "_law_much", "_law_open_ones", "_law_seat"]
abbrev NL__law_seats : List Str := ["_law_night_here", "_law_seats_here", "_law_found", "_law_guest", "_law_seat"]
abbrev NL__law_copied : List Str := ["_law_night_here"]
abbrev NL__law_pairs : List Str := ["_law_seats_here", "_law_value_here", "_law_guest", "_law_seat"]
abbrev NL_is_number : List Str := ["value"]
abbrev NL_is_counted : List Str := ["value", "many"]
abbrev NL_is_each_once : List Str := ["values", "many", "met", "value"]
abbrev NL_is_order : List Str := ["order"]
abbrev NL_is_rising : List Str := ["values", "many", "least", "value"]
abbrev NL_is_night : List Str := ["night", "order", "lost"]
end
end Lw

set_option Elab.async false
set_option linter.all false
set_option maxRecDepth 100000
namespace Lw
open PySem PySem.Spec PyProof.Rows L2 Ds
section
variable {G : Gx} {mg : Str → Option Value} {base : Heap}
abbrev NL_check_night : List Str := ["night"]
abbrev NL_is_pair : List Str := ["pair", "many", "number"]
abbrev NL_are_pairs : List Str := ["pairs", "many", "guest", "seat", "pair"]
abbrev NL_untold_to_come : List Str := ["order", "turn", "seat_of", "guest"]
abbrev NL_alike_seats : List Str := ["night", "turn", "order", "lost", "at", "guest"]
abbrev NL_own_is_free : List Str := ["night", "turn", "seat_of", "guest_on", "order", "guest", "is_to_come", "untold", "seat"]
abbrev NL_share_of_turn : List Str := ["night", "turn", "seat_of", "guest_on", "order", "lost", "guest", "free", "fitting", "own_fits", "due", "cases", "due_and_fits"]
abbrev NL_lowest : List Str := ["top", "bottom", "whole", "rest"]
abbrev NL_together : List Str := ["night", "pairs", "many", "seat_of", "guest_on", "top", "bottom", "turn", "more_top", "more_bottom", "guest", "seat"]
abbrev NL__law_part : List Str := ["_law_top", "_law_bottom", "_law_one", "_law_other"]
abbrev NL__law_whole : List Str := ["_law_number"]
abbrev NL__law_right : List Str := ["_law_night_here", "_law_value_here", "_law_ways_here", "_law_whole_here", "_law_seats_here", "_law_much", "_law_listed", "_law_handed", "_law_many", "_law_one", "_law_other", "_law_tries", "_law_pairs_here", "_law_mine", "_law_top", "_law_told", "_law_guest", "_law_seat", "_law_number"]
abbrev NL_Door___init__ : List Str := ["self", "night", "order", "lost"]
abbrev NL_choosable : List Str := ["guest", "lost", "free"]
end
end Lw

set_option Elab.async false
set_option linter.all false
set_option maxRecDepth 100000
namespace Lw
open PySem PySem.Spec PyProof.Rows L2 Ds
section
variable {G : Gx} {mg : Str → Option Value} {base : Heap}
abbrev NL_Door_next_guest : List Str := ["self"]
abbrev NL_Door_open_seats : List Str := ["self", "free", "seat"]
abbrev NL_Door_come : List Str := ["self", "seat", "guest", "to_choose"]
abbrev NL_Door_taken : List Str := ["self"]
abbrev NL__law_summed : List Str := ["_law_shares", "_law_top", "_law_bottom", "_law_one", "_law_other"]
abbrev NL_check_seating : List Str := ["seats", "many"]
abbrev NL_walk : List Str := ["night", "seats", "order", "lost", "free", "choices", "turn", "guest", "to_choose"]
abbrev NL_seating : List Str := ["night", "seats", "choices", "barring", "bottom", "choice"]
abbrev NL_check_guest_and_seat : List Str := ["guest", "seat", "many"]
abbrev NL_share_at : List Str := ["night", "turn", "seat", "order", "lost", "guest", "alike", "many", "free"]
abbrev NL_share : List Str := ["night", "guest", "seat"]
abbrev NL__law_great_right : List Str := ["_law_night_here", "_law_value_here", "_law_many", "_law_door", "_law_turn", "_law_some", "_law_seats_here", "_law_guest", "_law_pairs_here", "_law_fewer", "_law_shares", "_law_handed", "_law_mine", "_law_seat", "_law_pair", "_law_at"]
abbrev NL_law : List Str := ["_law_script", "_law_by", "_law_value_here", "_law_night_here", "_law_great", "_law_guest", "_law_pairs_here", "_law_whole_here", "_law_bottom", "_law_turn", "_law_ahead", "_law_rest", "_law_at", "_law_one"]
theorem sc_law : FnScope NL_law ["_law_script"] (defScope s_law) := ⟨rfl, rfl, rfl, by decide +kernel, rfl, by decide +kernel, by decide +kernel⟩
set_option maxHeartbeats 4000000 in
theorem ok_law {f : Addr} {fd : FuncData} (F : Fun G.K "law" "law" s_law f fd) (Tb : Bt mg)
    {f__law_value : Addr} {fd__law_value : FuncData} (C__law_value : Cal G mg base CX0 2 ["_law_cell", "_law_turn"] (sp0 G 2 c__law_value) f__law_value fd__law_value)
    (m__law_value : mg "_law_value" = some (.ref f__law_value))
    {f__law_cell_at : Addr} {fd__law_cell_at : FuncData} (C__law_cell_at : Cal G mg base CX0 1 ["_law_script", "_law_k"] (sp0 G 2 c__law_cell_at) f__law_cell_at fd__law_cell_at)
    (m__law_cell_at : mg "_law_cell_at" = some (.ref f__law_cell_at))
    {f__law_night : Addr} {fd__law_night : FuncData} (C__law_night : Cal G mg base CX0 3 ["_law_script", "_law_by", "_law_most"] (sp0 G 3 c__law_night) f__law_night fd__law_night)
    (m__law_night : mg "_law_night" = some (.ref f__law_night))
    {f__law_right : Addr} {fd__law_right : FuncData} (C__law_right : Cal G mg base CX0 8 ["_law_night_here", "_law_value_here"] (sp0 G 2 c_k11_right) f__law_right fd__law_right)
    (m__law_right : mg "_law_right" = some (.ref f__law_right))
    {f__law_great_right : Addr} {fd__law_great_right : FuncData} (C__law_great_right : Cal G mg base CX0 9 ["_law_night_here", "_law_value_here"] (sp0 G 2 c_k11_great) f__law_great_right fd__law_great_right)
    (m__law_great_right : mg "_law_great_right" = some (.ref f__law_great_right))
    {f_together : Addr} {fd_together : FuncData} (C_together : Cal G mg base CX0 7 ["night", "pairs"] (sp0 G 2 c_together) f_together fd_together)
    (m_together : mg "together" = some (.ref f_together))
    {f_seating : Addr} {fd_seating : FuncData} (C_seating : Cal G mg base CX0 7 ["night", "seats"] (sp0 G 2 c_seating) f_seating fd_seating)
    (m_seating : mg "seating" = some (.ref f_seating))
    {f__law_part : Addr} {fd__law_part : FuncData} (C__law_part : Cal G mg base CX0 1 ["_law_top", "_law_bottom"] (sp0 G 2 c__law_part) f__law_part fd__law_part)
    (m__law_part : mg "_law_part" = some (.ref f__law_part)) :
    FnOk G.P G.w G.K mg base CX0 10 f fd ["_law_script"] (sp0 G 1 (mDef 14 m_k11_law)) := by
  have nd : NL_law.Nodup := sc_law.nd
  obtain ⟨G__law_value, k__law_value, b__law_value⟩ := C__law_value
  obtain ⟨G__law_cell_at, k__law_cell_at, b__law_cell_at⟩ := C__law_cell_at
  obtain ⟨G__law_night, k__law_night, b__law_night⟩ := C__law_night
  obtain ⟨G__law_right, k__law_right, b__law_right⟩ := C__law_right
  obtain ⟨G__law_great_right, k__law_great_right, b__law_great_right⟩ := C__law_great_right
  obtain ⟨G_together, k_together, b_together⟩ := C_together
  obtain ⟨G_seating, k_seating, b_seating⟩ := C_seating
  obtain ⟨G__law_part, k__law_part, b__law_part⟩ := C__law_part
  refine fn1 (m := m_k11_law) F sc_law rfl (fun cdv A outer s H E hr => ⟨_, (pss_cons (ps_set (i := 0) nd rfl (Or.inl rfl) (pe_slice (r := rSlL G.K) sl_list (pv 0) po_none (po_some pe_int)))
      (pss_cons (ps_for PassesOwn.never rfl (pi_range3 rfl Tb.range (pa_cons pe_int (pa_cons (pe_callB (call_max2 rfl) (by rfl) Tb.max (by decide +kernel) (pa_cons pe_int (pa_cons (pe_callB (call_min2 rfl) (by rfl) Tb.min (by decide +kernel) (pa_cons pe_int (pa_cons (pe_callB call_len_seq (by rfl) Tb.len PySem.boot_len (pa_cons (pv 0) pa_nil)) pa_nil))) pa_nil))) (pa_cons pe_int pa_nil)))) (pg_name (i := 1) nd rfl (Or.inl rfl)) (pss_cons (ps_par (i := 2) (j := 3) (by rfl) nd rfl rfl (by decide) rfl rfl (pa_cons (pe_call G__law_value (hr.mono (by decide)) rfl m__law_value k__law_value b__law_value .nil pass0 (pa_cons (pe_call G__law_cell_at (hr.mono (by decide)) rfl m__law_cell_at k__law_cell_at b__law_cell_at .nil pass0 (pa_cons (pv 0) (pa_cons (pv 1) pa_nil))) (pa_cons pe_int pa_nil))) (pa_cons (pe_call G__law_night (hr.mono (by decide)) rfl m__law_night k__law_night b__law_night .nil pass0 (pa_cons (pv 0) (pa_cons (pv 1) (pa_cons pe_int pa_nil)))) pa_nil)) (by rfl))
      (pss_cons (ps_if (PW.pt (pw_and (pt_cmpR op_gt (pe_callB call_len_seq (by rfl) Tb.len PySem.boot_len (pa_cons (pe_ix (r := rIxT G.K) ix_tup (pv 3) pe_int (fun _ _ => rfl)) pa_nil)) pe_int (nomark _)) (pw_and1 (pt_cmpR op_gt (pe_callB call_len_seq (by rfl) Tb.len PySem.boot_len (pa_cons (pe_ix (r := rIxT G.K) ix_tup (pv 3) pe_int (fun _ _ => rfl)) pa_nil)) pe_int (nomark _))))) (pss_one (ps_set (i := 3) nd rfl (Or.inl rfl) (pe_tup (pa_cons (pe_ix (r := rIxT G.K) ix_tup (pv 3) pe_int (fun _ _ => rfl)) (pa_cons (pe_slice (r := rSlL G.K) sl_list (pe_ix (r := rIxT G.K) ix_tup (pv 3) pe_int (fun _ _ => rfl)) po_none (po_some pe_int)) pa_nil))))) pss_nil)
      (pss_cons (ps_if (PW.pt (pw_or (pt_not (pt_val (pe_call G__law_right (hr.mono (by decide)) rfl m__law_right k__law_right b__law_right .nil pass0 (pa_cons (pv 3) (pa_cons (pv 2) pa_nil))))) (pw_or1 (pt_not (pt_val (pe_call G__law_great_right (hr.mono (by decide)) rfl m__law_great_right k__law_great_right b__law_great_right .nil pass0 (pa_cons (pe_call G__law_night (hr.mono (by decide)) rfl m__law_night k__law_night b__law_night .nil pass0 (pa_cons (pv 0) (pa_cons (pe_op op_add (pv 1) pe_int) (pa_cons pe_int pa_nil)))) (pa_cons (pv 2) pa_nil)))))))) (pss_one (ps_ret pe_bl)) pss_nil)
      (pss_cons (ps_set (i := 4) nd rfl (Or.inr rfl) (pe_call G__law_night (hr.mono (by decide)) rfl m__law_night k__law_night b__law_night .nil pass0 (pa_cons (pv 0) (pa_cons (pe_op op_add (pv 1) pe_int) (pa_cons pe_int pa_nil)))))
      (pss_cons (ps_setLc (i := 6) (own := [("_law_guest", 5)]) (g := gName 5) (by rfl) nd rfl rfl (sw_true rfl rfl rfl (by decide +kernel)) (pi_range1 rfl Tb.range (pa_cons (pe_callB call_len_seq (by rfl) Tb.len PySem.boot_len (pa_cons (pe_ix (r := rIxT G.K) ix_tup (pv 4) pe_int (fun _ _ => rfl)) pa_nil)) pa_nil)) (blkOk_by (own := [("_law_guest", 5)]) (N := NL_law) (sc := defScope s_law) (by decide +kernel)) (fun _ _ _ _ _ => (pg_name (i := 5) nd rfl (Or.inl rfl))) (fun _ _ _ _ _ => (pts_one (pt_cmpR (r := rIn G.K true) op_notIn_seq (pv 5) (pe_ix (r := rIxT G.K) ix_tup (pv 4) pe_int (fun _ _ => rfl)) (by rfl)))) (fun _ _ _ _ _ => (pe_tup (pa_cons (pv 5) (pa_cons (pv 5) pa_nil)))))
      (pss_cons (ps_if (pt_cmpR (r := rNeD G.K) (op_neD hr.units) (pe_call G_together (hr.mono (by decide)) rfl m_together k_together b_together .nil pass0 (pa_cons (pv 4) (pa_cons (pe_lc (own := [("_law_at", 12)]) (g := gName 12) (by rfl) nd (pi_range1 rfl Tb.range (pa_cons (pe_callB call_len_seq (by rfl) Tb.len PySem.boot_len (pa_cons (pe_ix (r := rIxT G.K) ix_tup (pv 4) pe_int (fun _ _ => rfl)) pa_nil)) pa_nil)) (blkOk_by (own := [("_law_at", 12)]) (N := NL_law) (sc := defScope s_law) (by decide +kernel)) (fun _ _ _ _ _ => (pg_name (i := 12) nd rfl (Or.inl rfl))) (fun _ _ _ _ _ => pts_nil) (fun _ _ _ _ _ => (pe_tup (pa_cons (pv 12) (pa_cons (pv 12) pa_nil))))) pa_nil))) (pe_call G_seating (hr.mono (by decide)) rfl m_seating k_seating b_seating .nil pass0 (pa_cons (pv 4) (pa_cons (pe_callTy (call_listRg rfl) (by rfl) Tb.list (by decide +kernel) (pa_cons (pe_callTy call_rg1 (by rfl) Tb.range (by decide +kernel) (pa_cons (pe_callB call_len_seq (by rfl) Tb.len PySem.boot_len (pa_cons (pe_ix (r := rIxT G.K) ix_tup (pv 4) pe_int (fun _ _ => rfl)) pa_nil)) pa_nil)) pa_nil)) pa_nil))) (nomark _)) (pss_one (ps_ret pe_bl)) pss_nil)
      (pss_cons (ps_asg (pe_tup (pa_cons pe_int (pa_cons pe_int pa_nil))) (pg_tup (by rfl) (pgs_cons (pg_name (i := 7) nd rfl (Or.inl rfl)) (pgs_cons (pg_name (i := 8) nd rfl (Or.inl rfl)) pgs_nil))))
      (pss_cons (ps_for PassesOwn.never rfl (pi_enum (by rfl) Tb.enumerate (pa_cons (pe_ix (r := rIxT G.K) ix_tup (pv 4) pe_int (fun _ _ => rfl)) pa_nil)) (pg_tup (by rfl) (pgs_cons (pg_name (i := 9) nd rfl (Or.inl rfl)) (pgs_cons (pg_name (i := 5) nd rfl (Or.inl rfl)) pgs_nil))) (pss_cons (ps_set (i := 10) nd rfl (Or.inl rfl) (pe_callB call_len_seq (by rfl) Tb.len PySem.boot_len (pa_cons (pe_lc (own := [("_law_one", 13)]) (g := gName 13) (by rfl) nd (pi_list (pe_slice (r := rSlL G.K) sl_list (pe_ix (r := rIxT G.K) ix_tup (pv 4) pe_int (fun _ _ => rfl)) po_none (po_some (pv 9)))) (blkOk_by (own := [("_law_one", 13)]) (N := NL_law) (sc := defScope s_law) (by decide +kernel)) (fun _ _ _ _ _ => (pg_name (i := 13) nd rfl (Or.inl rfl))) (fun _ _ _ _ _ => (pts_one (pt_cmpR (r := rIn G.K false) op_in_seq (pv 13) (pe_ix (r := rIxT G.K) ix_tup (pv 4) pe_int (fun _ _ => rfl)) (by rfl)))) (fun _ _ _ _ _ => (pv 13))) pa_nil)))
      (pss_one (ps_if (pt_cmpR (r := rIn G.K true) op_notIn_seq (pv 5) (pe_ix (r := rIxT G.K) ix_tup (pv 4) pe_int (fun _ _ => rfl)) (by rfl)) (pss_cons (ps_set (i := 11) nd rfl (Or.inl rfl) (pe_op op_sub (pe_callB call_len_seq (by rfl) Tb.len PySem.boot_len (pa_cons (pe_ix (r := rIxT G.K) ix_tup (pv 4) pe_int (fun _ _ => rfl)) pa_nil)) (pv 9)))
      (pss_cons (ps_set (i := 7) nd rfl (Or.inl rfl) (pe_op op_mul (pv 7) (pv 11)))
      (pss_one (ps_set (i := 8) nd rfl (Or.inl rfl) (pe_op op_mul (pv 8) (pe_op op_add (pv 11) (pv 10))))))) pss_nil))))
      (pss_one (ps_if (pt_cmpR (r := rNeD G.K) (op_neD hr.units) (pe_call G_together (hr.mono (by decide)) rfl m_together k_together b_together .nil pass0 (pa_cons (pv 4) (pa_cons (pv 6) pa_nil))) (pe_call G__law_part (hr.mono (by decide)) rfl m__law_part k__law_part b__law_part .nil pass0 (pa_cons (pv 7) (pa_cons (pv 8) pa_nil))) (nomark _)) (pss_one (ps_ret pe_bl)) pss_nil)))))))))))
      (pss_cons (ps_set (i := 3) nd rfl (Or.inl rfl) (pe_tup (pa_cons (pe_lst (pa_cons pe_int (pa_cons pe_int (pa_cons pe_int (pa_cons pe_int pa_nil))))) (pa_cons (pe_lst (pa_cons pe_int pa_nil)) pa_nil))))
      (pss_cons (ps_if (PW.pt (pw_or (pt_cmpR (r := rNeD G.K) (op_neD hr.units) (pe_call G_together (hr.mono (by decide)) rfl m_together k_together b_together .nil pass0 (pa_cons (pv 3) (pa_cons (pe_lst (pa_cons (pe_tup (pa_cons pe_int (pa_cons pe_int pa_nil))) (pa_cons (pe_tup (pa_cons pe_int (pa_cons pe_int pa_nil))) pa_nil))) pa_nil))) (pe_tup (pa_cons pe_int (pa_cons pe_int pa_nil))) (nomark _)) (pw_or1 (pt_cmpR (r := rNeD G.K) (op_neD hr.units) (pe_call G_together (hr.mono (by decide)) rfl m_together k_together b_together .nil pass0 (pa_cons (pv 3) (pa_cons (pe_lst (pa_cons (pe_tup (pa_cons pe_int (pa_cons pe_int pa_nil))) (pa_cons (pe_tup (pa_cons pe_int (pa_cons pe_int pa_nil))) pa_nil))) pa_nil))) (pe_tup (pa_cons pe_int (pa_cons pe_int pa_nil))) (nomark _))))) (pss_one (ps_ret pe_bl)) pss_nil)
      (pss_one (ps_ret (pe_and (pe_cmpR (r := rEqD G.K) (op_eqD hr.units) (pe_call G_together (hr.mono (by decide)) rfl m_together k_together b_together .nil pass0 (pa_cons (pv 3) (pa_cons (pe_lst (pa_cons (pe_tup (pa_cons pe_int (pa_cons pe_int pa_nil))) (pa_cons (pe_tup (pa_cons pe_int (pa_cons pe_int pa_nil))) pa_nil))) pa_nil))) (pe_tup (pa_cons pe_int (pa_cons pe_int pa_nil))) (nomark _)) (pe_one (pe_cmpR (r := rEqD G.K) (op_eqD hr.units) (pe_call G_together (hr.mono (by decide)) rfl m_together k_together b_together .nil pass0 (pa_cons (pv 3) (pa_cons (pe_lst (pa_cons (pe_tup (pa_cons pe_int (pa_cons pe_int pa_nil))) (pa_cons (pe_tup (pa_cons pe_int (pa_cons pe_int pa_nil))) pa_nil))) pa_nil))) (pe_tup (pa_cons pe_int (pa_cons pe_int pa_nil))) (nomark _)))))))))), ?_⟩)
  exact (s_seq (s_set (i := 0) (s_sl (mu := false) (s_var 0) s_noPart (s_part s_int)))
      (s_seq (s_for (s_iRg3 (s_cons s_int (s_cons (s_cb s_max (s_cons s_int (s_cons (s_cb s_min (s_cons s_int (s_cons (s_cb s_len (s_cons (s_var 0) s_nil)) s_nil))) s_nil))) (s_cons s_int s_nil)))) (s_gN 1) (s_seq (s_par (s_cons (s_call0 (s_cons (s_call0 (s_cons (s_var 0) (s_cons (s_var 1) s_nil))) (s_cons s_int s_nil))) (s_cons (s_call0 (s_cons (s_var 0) (s_cons (s_var 1) (s_cons s_int s_nil)))) s_nil)))
      (s_seq (s_if (s_and (s_test (s_op s_gt (s_cb s_len (s_cons (s_op s_ixT (s_var 3) s_int) s_nil)) s_int)) (s_test (s_op s_gt (s_cb s_len (s_cons (s_op s_ixT (s_var 3) s_int) s_nil)) s_int))) (s_set (i := 3) (s_tup (s_cons (s_op s_ixT (s_var 3) s_int) (s_cons (s_sl (mu := false) (s_op s_ixT (s_var 3) s_int) s_noPart (s_part s_int)) s_nil)))) s_next)
      (s_seq (s_if (s_or (s_not (s_tB (s_call0 (s_cons (s_var 3) (s_cons (s_var 2) s_nil))))) (s_not (s_tB (s_call0 (s_cons (s_call0 (s_cons (s_var 0) (s_cons (s_op s_add (s_var 1) s_int) (s_cons s_int s_nil)))) (s_cons (s_var 2) s_nil)))))) (s_ret s_bl) s_next)
      (s_seq (s_set (i := 4) (s_call0 (s_cons (s_var 0) (s_cons (s_op s_add (s_var 1) s_int) (s_cons s_int s_nil)))))
      (s_seq (s_set (i := 6) (s_lc (wg_name (by decide)) (s_iRg1 (s_cons (s_cb s_len (s_cons (s_op s_ixT (s_var 4) s_int) s_nil)) s_nil)) (s_gN 5) (s_test (s_op (s_in (neg := true)) (s_var 5) (s_op s_ixT (s_var 4) s_int))) (s_tup (s_cons (s_var 5) (s_cons (s_var 5) s_nil)))))
      (s_seq (s_if (s_test (s_op s_ne (s_call0 (s_cons (s_var 4) (s_cons (s_lc (wg_name (by decide)) (s_iRg1 (s_cons (s_cb s_len (s_cons (s_op s_ixT (s_var 4) s_int) s_nil)) s_nil)) (s_gN 12) s_yes (s_tup (s_cons (s_var 12) (s_cons (s_var 12) s_nil)))) s_nil))) (s_call0 (s_cons (s_var 4) (s_cons (s_cb (s_listRg (mu := false)) (s_cons (s_cb s_rg1 (s_cons (s_cb s_len (s_cons (s_op s_ixT (s_var 4) s_int) s_nil)) s_nil)) s_nil)) s_nil))))) (s_ret s_bl) s_next)
      (s_seq (s_asg (s_tup (s_cons s_int (s_cons s_int s_nil))) (s_gTup (s_gCons (s_gN 7) (s_gCons (s_gN 8) s_gNil))))
      (s_seq (s_for (s_itE (s_cons (s_op s_ixT (s_var 4) s_int) s_nil)) (s_gTup (s_gCons (s_gN 9) (s_gCons (s_gN 5) s_gNil))) (s_seq (s_set (i := 10) (s_cb s_len (s_cons (s_lc (wg_name (by decide)) (s_itL (s_sl (mu := false) (s_op s_ixT (s_var 4) s_int) s_noPart (s_part (s_var 9)))) (s_gN 13) (s_test (s_op (s_in (neg := false)) (s_var 13) (s_op s_ixT (s_var 4) s_int))) (s_var 13)) s_nil)))
      (s_if (s_test (s_op (s_in (neg := true)) (s_var 5) (s_op s_ixT (s_var 4) s_int))) (s_seq (s_set (i := 11) (s_op s_sub (s_cb s_len (s_cons (s_op s_ixT (s_var 4) s_int) s_nil)) (s_var 9)))
      (s_seq (s_set (i := 7) (s_op s_mul (s_var 7) (s_var 11)))
      (s_set (i := 8) (s_op s_mul (s_var 8) (s_op s_add (s_var 11) (s_var 10)))))) s_next)))
      (s_if (s_test (s_op s_ne (s_call0 (s_cons (s_var 4) (s_cons (s_var 6) s_nil))) (s_call0 (s_cons (s_var 7) (s_cons (s_var 8) s_nil))))) (s_ret s_bl) s_next))))))))))
      (s_seq (s_set (i := 3) (s_tup (s_cons (s_lst (mu := false) (s_cons s_int (s_cons s_int (s_cons s_int (s_cons s_int s_nil))))) (s_cons (s_lst (mu := false) (s_cons s_int s_nil)) s_nil))))
      (s_seq (s_if (s_or (s_test (s_op s_ne (s_call0 (s_cons (s_var 3) (s_cons (s_lst (mu := false) (s_cons (s_tup (s_cons s_int (s_cons s_int s_nil))) (s_cons (s_tup (s_cons s_int (s_cons s_int s_nil))) s_nil))) s_nil))) (s_tup (s_cons s_int (s_cons s_int s_nil))))) (s_test (s_op s_ne (s_call0 (s_cons (s_var 3) (s_cons (s_lst (mu := false) (s_cons (s_tup (s_cons s_int (s_cons s_int s_nil))) (s_cons (s_tup (s_cons s_int (s_cons s_int s_nil))) s_nil))) s_nil))) (s_tup (s_cons s_int (s_cons s_int s_nil)))))) (s_ret s_bl) s_next)
      (s_ret (s_andV (s_op s_eq (s_call0 (s_cons (s_var 3) (s_cons (s_lst (mu := false) (s_cons (s_tup (s_cons s_int (s_cons s_int s_nil))) (s_cons (s_tup (s_cons s_int (s_cons s_int s_nil))) s_nil))) s_nil))) (s_tup (s_cons s_int (s_cons s_int s_nil)))) (s_op s_eq (s_call0 (s_cons (s_var 3) (s_cons (s_lst (mu := false) (s_cons (s_tup (s_cons s_int (s_cons s_int s_nil))) (s_cons (s_tup (s_cons s_int (s_cons s_int s_nil))) s_nil))) s_nil))) (s_tup (s_cons s_int (s_cons s_int s_nil))))))))))
end
end Lw

set_option Elab.async false
set_option linter.all false
set_option maxRecDepth 100000
namespace Lw
open PySem PySem.Spec PyProof.Rows L2 Ds
set_option maxHeartbeats 8000000 in
theorem all_mk {l : PySem.W.OpenLaw} {w : World} {K : PySem.W.Frag} {h : Heap} {mg : Str → Option Value} {fa f_law_draw f_law_value f_law_cell_at f_law_night f_law_ways f_law_seats f_law_copied f_law_pairs fis_number fis_counted fis_each_once fis_order fis_rising fis_night fcheck_night fis_pair fare_pairs funtold_to_come falike_seats fown_is_free fshare_of_turn flowest ftogether f_law_part f_law_whole f_law_right fDoor___init__ fchoosable fDoor_next_guest fDoor_open_seats fDoor_come fDoor_taken f_law_summed fcheck_seating fwalk fseating fcheck_guest_and_seat fshare_at fshare f_law_great_right flaw a_AllCame a_BadGuest a_BadNight a_BadPairs a_BadSeat a_BadSeating a_Door : Addr} (X : K.In h) (GN : h.Ns mainGlobals mg) (hfa : mg "law" = some (.ref fa))
    {od_law_draw an_law_draw od_law_value an_law_value od_law_cell_at an_law_cell_at od_law_night an_law_night od_law_ways an_law_ways od_law_seats an_law_seats od_law_copied an_law_copied od_law_pairs an_law_pairs odis_number anis_number odis_counted anis_counted odis_each_once anis_each_once odis_order anis_order odis_rising anis_rising odis_night anis_night odcheck_night ancheck_night odis_pair anis_pair odare_pairs anare_pairs oduntold_to_come anuntold_to_come odalike_seats analike_seats odown_is_free anown_is_free odshare_of_turn anshare_of_turn odlowest anlowest odtogether antogether od_law_part an_law_part od_law_whole an_law_whole od_law_right an_law_right odDoor___init__ anDoor___init__ odchoosable anchoosable odDoor_next_guest anDoor_next_guest odDoor_open_seats anDoor_open_seats odDoor_come anDoor_come odDoor_taken anDoor_taken od_law_summed an_law_summed odcheck_seating ancheck_seating odwalk anwalk odseating anseating odcheck_guest_and_seat ancheck_guest_and_seat odshare_at anshare_at odshare anshare od_law_great_right an_law_great_right odlaw anlaw : Option Addr} {sl_law_draw sl_law_value sl_law_cell_at sl_law_night sl_law_ways sl_law_seats sl_law_copied sl_law_pairs slis_number slis_counted slis_each_once slis_order slis_rising slis_night slcheck_night slis_pair slare_pairs sluntold_to_come slalike_seats slown_is_free slshare_of_turn sllowest sltogether sl_law_part sl_law_whole sl_law_right slDoor___init__ slchoosable slDoor_next_guest slDoor_open_seats slDoor_come slDoor_taken sl_law_summed slcheck_seating slwalk slseating slcheck_guest_and_seat slshare_at slshare sl_law_great_right sllaw : Array (Option Value)}
    {oc_law_draw kV_law_draw dc_law_draw pm_law_draw cd_law_draw ct_law_draw oc_law_value kV_law_value dc_law_value pm_law_value cd_law_value ct_law_value oc_law_cell_at kV_law_cell_at dc_law_cell_at pm_law_cell_at cd_law_cell_at ct_law_cell_at oc_law_night kV_law_night dc_law_night pm_law_night cd_law_night ct_law_night oc_law_ways kV_law_ways dc_law_ways pm_law_ways cd_law_ways ct_law_ways oc_law_seats kV_law_seats dc_law_seats pm_law_seats cd_law_seats ct_law_seats oc_law_copied kV_law_copied dc_law_copied pm_law_copied cd_law_copied ct_law_copied oc_law_pairs kV_law_pairs dc_law_pairs pm_law_pairs cd_law_pairs ct_law_pairs ocis_number kVis_number dcis_number pmis_number cdis_number ctis_number ocis_counted kVis_counted dcis_counted pmis_counted cdis_counted ctis_counted ocis_each_once kVis_each_once dcis_each_once pmis_each_once cdis_each_once ctis_each_once ocis_order kVis_order dcis_order pmis_order cdis_order ctis_order ocis_rising kVis_rising dcis_rising pmis_rising cdis_rising ctis_rising ocis_night kVis_night dcis_night pmis_night cdis_night ctis_night occheck_night kVcheck_night dccheck_night pmcheck_night cdcheck_night ctcheck_night ocis_pair kVis_pair dcis_pair pmis_pair cdis_pair ctis_pair ocare_pairs kVare_pairs dcare_pairs pmare_pairs cdare_pairs ctare_pairs ocuntold_to_come kVuntold_to_come dcuntold_to_come pmuntold_to_come cduntold_to_come ctuntold_to_come ocalike_seats kValike_seats dcalike_seats pmalike_seats cdalike_seats ctalike_seats ocown_is_free kVown_is_free dcown_is_free pmown_is_free cdown_is_free ctown_is_free ocshare_of_turn kVshare_of_turn dcshare_of_turn pmshare_of_turn cdshare_of_turn ctshare_of_turn oclowest kVlowest dclowest pmlowest cdlowest ctlowest octogether kVtogether dctogether pmtogether cdtogether cttogether oc_law_part kV_law_part dc_law_part pm_law_part cd_law_part ct_law_part oc_law_whole kV_law_whole dc_law_whole pm_law_whole cd_law_whole ct_law_whole oc_law_right kV_law_right dc_law_right pm_law_right cd_law_right ct_law_right ocDoor___init__ kVDoor___init__ dcDoor___init__ pmDoor___init__ cdDoor___init__ ctDoor___init__ occhoosable kVchoosable dcchoosable pmchoosable cdchoosable ctchoosable ocDoor_next_guest kVDoor_next_guest dcDoor_next_guest pmDoor_next_guest cdDoor_next_guest ctDoor_next_guest ocDoor_open_seats kVDoor_open_seats dcDoor_open_seats pmDoor_open_seats cdDoor_open_seats ctDoor_open_seats ocDoor_come kVDoor_come dcDoor_come pmDoor_come cdDoor_come ctDoor_come ocDoor_taken kVDoor_taken dcDoor_taken pmDoor_taken cdDoor_taken ctDoor_taken oc_law_summed kV_law_summed dc_law_summed pm_law_summed cd_law_summed ct_law_summed occheck_seating kVcheck_seating dccheck_seating pmcheck_seating cdcheck_seating ctcheck_seating ocwalk kVwalk dcwalk pmwalk cdwalk ctwalk ocseating kVseating dcseating pmseating cdseating ctseating occheck_guest_and_seat kVcheck_guest_and_seat dccheck_guest_and_seat pmcheck_guest_and_seat cdcheck_guest_and_seat ctcheck_guest_and_seat ocshare_at kVshare_at dcshare_at pmshare_at cdshare_at ctshare_at ocshare kVshare dcshare pmshare cdshare ctshare oc_law_great_right kV_law_great_right dc_law_great_right pm_law_great_right cd_law_great_right ct_law_great_right oclaw kVlaw dclaw pmlaw cdlaw ctlaw : Value}
    {tk_MOST_GUESTS : Tok}
    (n_AllCame : PySem.W.nsIn K mainGlobals "AllCame" = some (some (.ref a_AllCame)))
    (n_BadGuest : PySem.W.nsIn K mainGlobals "BadGuest" = some (some (.ref a_BadGuest)))
    (n_BadNight : PySem.W.nsIn K mainGlobals "BadNight" = some (some (.ref a_BadNight)))
    (n_BadPairs : PySem.W.nsIn K mainGlobals "BadPairs" = some (some (.ref a_BadPairs)))
    (n_BadSeat : PySem.W.nsIn K mainGlobals "BadSeat" = some (some (.ref a_BadSeat)))
    (n_BadSeating : PySem.W.nsIn K mainGlobals "BadSeating" = some (some (.ref a_BadSeating)))
    (n_Door : PySem.W.nsIn K mainGlobals "Door" = some (some (.ref a_Door)))
    (a_law_draw : PySem.W.nsIn K mainGlobals "_law_draw" = some (some (.ref f_law_draw)))
    (l_law_draw : K.lookup f_law_draw = some ⟨oc_law_draw, od_law_draw, .func (PySem.W.fnOf "_law_draw" "_law_draw" (defArgs s__law_draw) (defBody s__law_draw) (defScope s__law_draw) .none kV_law_draw dc_law_draw pm_law_draw an_law_draw cd_law_draw ct_law_draw), sl_law_draw⟩) (c_law_draw : PySem.W.codeIn K cd_law_draw "_law_draw" = true) (k_law_draw : PySem.W.keepIn K (.ref f_law_draw) = true)
    (a_law_value : PySem.W.nsIn K mainGlobals "_law_value" = some (some (.ref f_law_value)))
    (l_law_value : K.lookup f_law_value = some ⟨oc_law_value, od_law_value, .func (PySem.W.fnOf "_law_value" "_law_value" (defArgs s__law_value) (defBody s__law_value) (defScope s__law_value) .none kV_law_value dc_law_value pm_law_value an_law_value cd_law_value ct_law_value), sl_law_value⟩) (c_law_value : PySem.W.codeIn K cd_law_value "_law_value" = true) (k_law_value : PySem.W.keepIn K (.ref f_law_value) = true)
    (a_law_cell_at : PySem.W.nsIn K mainGlobals "_law_cell_at" = some (some (.ref f_law_cell_at)))
    (l_law_cell_at : K.lookup f_law_cell_at = some ⟨oc_law_cell_at, od_law_cell_at, .func (PySem.W.fnOf "_law_cell_at" "_law_cell_at" (defArgs s__law_cell_at) (defBody s__law_cell_at) (defScope s__law_cell_at) .none kV_law_cell_at dc_law_cell_at pm_law_cell_at an_law_cell_at cd_law_cell_at ct_law_cell_at), sl_law_cell_at⟩) (c_law_cell_at : PySem.W.codeIn K cd_law_cell_at "_law_cell_at" = true) (k_law_cell_at : PySem.W.keepIn K (.ref f_law_cell_at) = true)
    (a_law_night : PySem.W.nsIn K mainGlobals "_law_night" = some (some (.ref f_law_night)))
    (l_law_night : K.lookup f_law_night = some ⟨oc_law_night, od_law_night, .func (PySem.W.fnOf "_law_night" "_law_night" (defArgs s__law_night) (defBody s__law_night) (defScope s__law_night) .none kV_law_night dc_law_night pm_law_night an_law_night cd_law_night ct_law_night), sl_law_night⟩) (c_law_night : PySem.W.codeIn K cd_law_night "_law_night" = true) (k_law_night : PySem.W.keepIn K (.ref f_law_night) = true)
    (a_law_ways : PySem.W.nsIn K mainGlobals "_law_ways" = some (some (.ref f_law_ways)))
    (l_law_ways : K.lookup f_law_ways = some ⟨oc_law_ways, od_law_ways, .func (PySem.W.fnOf "_law_ways" "_law_ways" (defArgs s__law_ways) (defBody s__law_ways) (defScope s__law_ways) .none kV_law_ways dc_law_ways pm_law_ways an_law_ways cd_law_ways ct_law_ways), sl_law_ways⟩) (c_law_ways : PySem.W.codeIn K cd_law_ways "_law_ways" = true) (k_law_ways : PySem.W.keepIn K (.ref f_law_ways) = true)
    (a_law_seats : PySem.W.nsIn K mainGlobals "_law_seats" = some (some (.ref f_law_seats)))
    (l_law_seats : K.lookup f_law_seats = some ⟨oc_law_seats, od_law_seats, .func (PySem.W.fnOf "_law_seats" "_law_seats" (defArgs s__law_seats) (defBody s__law_seats) (defScope s__law_seats) .none kV_law_seats dc_law_seats pm_law_seats an_law_seats cd_law_seats ct_law_seats), sl_law_seats⟩) (c_law_seats : PySem.W.codeIn K cd_law_seats "_law_seats" = true) (k_law_seats : PySem.W.keepIn K (.ref f_law_seats) = true)
    (a_law_copied : PySem.W.nsIn K mainGlobals "_law_copied" = some (some (.ref f_law_copied)))
    (l_law_copied : K.lookup f_law_copied = some ⟨oc_law_copied, od_law_copied, .func (PySem.W.fnOf "_law_copied" "_law_copied" (defArgs s__law_copied) (defBody s__law_copied) (defScope s__law_copied) .none kV_law_copied dc_law_copied pm_law_copied an_law_copied cd_law_copied ct_law_copied), sl_law_copied⟩) (c_law_copied : PySem.W.codeIn K cd_law_copied "_law_copied" = true) (k_law_copied : PySem.W.keepIn K (.ref f_law_copied) = true)
    (a_law_pairs : PySem.W.nsIn K mainGlobals "_law_pairs" = some (some (.ref f_law_pairs)))
    (l_law_pairs : K.lookup f_law_pairs = some ⟨oc_law_pairs, od_law_pairs, .func (PySem.W.fnOf "_law_pairs" "_law_pairs" (defArgs s__law_pairs) (defBody s__law_pairs) (defScope s__law_pairs) .none kV_law_pairs dc_law_pairs pm_law_pairs an_law_pairs cd_law_pairs ct_law_pairs), sl_law_pairs⟩) (c_law_pairs : PySem.W.codeIn K cd_law_pairs "_law_pairs" = true) (k_law_pairs : PySem.W.keepIn K (.ref f_law_pairs) = true)
    (ais_number : PySem.W.nsIn K mainGlobals "is_number" = some (some (.ref fis_number)))
    (lis_number : K.lookup fis_number = some ⟨ocis_number, odis_number, .func (PySem.W.fnOf "is_number" "is_number" (defArgs s_is_number) (defBody s_is_number) (defScope s_is_number) .none kVis_number dcis_number pmis_number anis_number cdis_number ctis_number), slis_number⟩) (cis_number : PySem.W.codeIn K cdis_number "is_number" = true) (kis_number : PySem.W.keepIn K (.ref fis_number) = true)
    (ais_counted : PySem.W.nsIn K mainGlobals "is_counted" = some (some (.ref fis_counted)))
    (lis_counted : K.lookup fis_counted = some ⟨ocis_counted, odis_counted, .func (PySem.W.fnOf "is_counted" "is_counted" (defArgs s_is_counted) (defBody s_is_counted) (defScope s_is_counted) .none kVis_counted dcis_counted pmis_counted anis_counted cdis_counted ctis_counted), slis_counted⟩) (cis_counted : PySem.W.codeIn K cdis_counted "is_counted" = true) (kis_counted : PySem.W.keepIn K (.ref fis_counted) = true)
    (ais_each_once : PySem.W.nsIn K mainGlobals "is_each_once" = some (some (.ref fis_each_once)))
    (lis_each_once : K.lookup fis_each_once = some ⟨ocis_each_once, odis_each_once, .func (PySem.W.fnOf "is_each_once" "is_each_once" (defArgs s_is_each_once) (defBody s_is_each_once) (defScope s_is_each_once) .none kVis_each_once dcis_each_once pmis_each_once anis_each_once cdis_each_once ctis_each_once), slis_each_once⟩) (cis_each_once : PySem.W.codeIn K cdis_each_once "is_each_once" = true) (kis_each_once : PySem.W.keepIn K (.ref fis_each_once) = true)
    (ais_order : PySem.W.nsIn K mainGlobals "is_order" = some (some (.ref fis_order)))
    (lis_order : K.lookup fis_order = some ⟨ocis_order, odis_order, .func (PySem.W.fnOf "is_order" "is_order" (defArgs s_is_order) (defBody s_is_order) (defScope s_is_order) .none kVis_order dcis_order pmis_order anis_order cdis_order ctis_order), slis_order⟩) (cis_order : PySem.W.codeIn K cdis_order "is_order" = true) (kis_order : PySem.W.keepIn K (.ref fis_order) = true)
    (ais_rising : PySem.W.nsIn K mainGlobals "is_rising" = some (some (.ref fis_rising)))
    (lis_rising : K.lookup fis_rising = some ⟨ocis_rising, odis_rising, .func (PySem.W.fnOf "is_rising" "is_rising" (defArgs s_is_rising) (defBody s_is_rising) (defScope s_is_rising) .none kVis_rising dcis_rising pmis_rising anis_rising cdis_rising ctis_rising), slis_rising⟩) (cis_rising : PySem.W.codeIn K cdis_rising "is_rising" = true) (kis_rising : PySem.W.keepIn K (.ref fis_rising) = true)
    (ais_night : PySem.W.nsIn K mainGlobals "is_night" = some (some (.ref fis_night)))
    (lis_night : K.lookup fis_night = some ⟨ocis_night, odis_night, .func (PySem.W.fnOf "is_night" "is_night" (defArgs s_is_night) (defBody s_is_night) (defScope s_is_night) .none kVis_night dcis_night pmis_night anis_night cdis_night ctis_night), slis_night⟩) (cis_night : PySem.W.codeIn K cdis_night "is_night" = true) (kis_night : PySem.W.keepIn K (.ref fis_night) = true)
    (acheck_night : PySem.W.nsIn K mainGlobals "check_night" = some (some (.ref fcheck_night)))
    (lcheck_night : K.lookup fcheck_night = some ⟨occheck_night, odcheck_night, .func (PySem.W.fnOf "check_night" "check_night" (defArgs s_check_night) (defBody s_check_night) (defScope s_check_night) .none kVcheck_night dccheck_night pmcheck_night ancheck_night cdcheck_night ctcheck_night), slcheck_night⟩) (ccheck_night : PySem.W.codeIn K cdcheck_night "check_night" = true) (kcheck_night : PySem.W.keepIn K (.ref fcheck_night) = true)
    (ais_pair : PySem.W.nsIn K mainGlobals "is_pair" = some (some (.ref fis_pair)))
    (lis_pair : K.lookup fis_pair = some ⟨ocis_pair, odis_pair, .func (PySem.W.fnOf "is_pair" "is_pair" (defArgs s_is_pair) (defBody s_is_pair) (defScope s_is_pair) .none kVis_pair dcis_pair pmis_pair anis_pair cdis_pair ctis_pair), slis_pair⟩) (cis_pair : PySem.W.codeIn K cdis_pair "is_pair" = true) (kis_pair : PySem.W.keepIn K (.ref fis_pair) = true)
    (aare_pairs : PySem.W.nsIn K mainGlobals "are_pairs" = some (some (.ref fare_pairs)))
    (lare_pairs : K.lookup fare_pairs = some ⟨ocare_pairs, odare_pairs, .func (PySem.W.fnOf "are_pairs" "are_pairs" (defArgs s_are_pairs) (defBody s_are_pairs) (defScope s_are_pairs) .none kVare_pairs dcare_pairs pmare_pairs anare_pairs cdare_pairs ctare_pairs), slare_pairs⟩) (care_pairs : PySem.W.codeIn K cdare_pairs "are_pairs" = true) (kare_pairs : PySem.W.keepIn K (.ref fare_pairs) = true)
    (auntold_to_come : PySem.W.nsIn K mainGlobals "untold_to_come" = some (some (.ref funtold_to_come)))
    (luntold_to_come : K.lookup funtold_to_come = some ⟨ocuntold_to_come, oduntold_to_come, .func (PySem.W.fnOf "untold_to_come" "untold_to_come" (defArgs s_untold_to_come) (defBody s_untold_to_come) (defScope s_untold_to_come) .none kVuntold_to_come dcuntold_to_come pmuntold_to_come anuntold_to_come cduntold_to_come ctuntold_to_come), sluntold_to_come⟩) (cuntold_to_come : PySem.W.codeIn K cduntold_to_come "untold_to_come" = true) (kuntold_to_come : PySem.W.keepIn K (.ref funtold_to_come) = true)
    (aalike_seats : PySem.W.nsIn K mainGlobals "alike_seats" = some (some (.ref falike_seats)))
    (lalike_seats : K.lookup falike_seats = some ⟨ocalike_seats, odalike_seats, .func (PySem.W.fnOf "alike_seats" "alike_seats" (defArgs s_alike_seats) (defBody s_alike_seats) (defScope s_alike_seats) .none kValike_seats dcalike_seats pmalike_seats analike_seats cdalike_seats ctalike_seats), slalike_seats⟩) (calike_seats : PySem.W.codeIn K cdalike_seats "alike_seats" = true) (kalike_seats : PySem.W.keepIn K (.ref falike_seats) = true)
    (aown_is_free : PySem.W.nsIn K mainGlobals "own_is_free" = some (some (.ref fown_is_free)))
    (lown_is_free : K.lookup fown_is_free = some ⟨ocown_is_free, odown_is_free, .func (PySem.W.fnOf "own_is_free" "own_is_free" (defArgs s_own_is_free) (defBody s_own_is_free) (defScope s_own_is_free) .none kVown_is_free dcown_is_free pmown_is_free anown_is_free cdown_is_free ctown_is_free), slown_is_free⟩) (cown_is_free : PySem.W.codeIn K cdown_is_free "own_is_free" = true) (kown_is_free : PySem.W.keepIn K (.ref fown_is_free) = true)
    (ashare_of_turn : PySem.W.nsIn K mainGlobals "share_of_turn" = some (some (.ref fshare_of_turn)))
    (lshare_of_turn : K.lookup fshare_of_turn = some ⟨ocshare_of_turn, odshare_of_turn, .func (PySem.W.fnOf "share_of_turn" "share_of_turn" (defArgs s_share_of_turn) (defBody s_share_of_turn) (defScope s_share_of_turn) .none kVshare_of_turn dcshare_of_turn pmshare_of_turn anshare_of_turn cdshare_of_turn ctshare_of_turn), slshare_of_turn⟩) (cshare_of_turn : PySem.W.codeIn K cdshare_of_turn "share_of_turn" = true) (kshare_of_turn : PySem.W.keepIn K (.ref fshare_of_turn) = true)
    (alowest : PySem.W.nsIn K mainGlobals "lowest" = some (some (.ref flowest)))
    (llowest : K.lookup flowest = some ⟨oclowest, odlowest, .func (PySem.W.fnOf "lowest" "lowest" (defArgs s_lowest) (defBody s_lowest) (defScope s_lowest) .none kVlowest dclowest pmlowest anlowest cdlowest ctlowest), sllowest⟩) (clowest : PySem.W.codeIn K cdlowest "lowest" = true) (klowest : PySem.W.keepIn K (.ref flowest) = true)
    (atogether : PySem.W.nsIn K mainGlobals "together" = some (some (.ref ftogether)))
    (ltogether : K.lookup ftogether = some ⟨octogether, odtogether, .func (PySem.W.fnOf "together" "together" (defArgs s_together) (defBody s_together) (defScope s_together) .none kVtogether dctogether pmtogether antogether cdtogether cttogether), sltogether⟩) (ctogether : PySem.W.codeIn K cdtogether "together" = true) (ktogether : PySem.W.keepIn K (.ref ftogether) = true)
    (a_law_part : PySem.W.nsIn K mainGlobals "_law_part" = some (some (.ref f_law_part)))
    (l_law_part : K.lookup f_law_part = some ⟨oc_law_part, od_law_part, .func (PySem.W.fnOf "_law_part" "_law_part" (defArgs s__law_part) (defBody s__law_part) (defScope s__law_part) .none kV_law_part dc_law_part pm_law_part an_law_part cd_law_part ct_law_part), sl_law_part⟩) (c_law_part : PySem.W.codeIn K cd_law_part "_law_part" = true) (k_law_part : PySem.W.keepIn K (.ref f_law_part) = true)
    (a_law_whole : PySem.W.nsIn K mainGlobals "_law_whole" = some (some (.ref f_law_whole)))
    (l_law_whole : K.lookup f_law_whole = some ⟨oc_law_whole, od_law_whole, .func (PySem.W.fnOf "_law_whole" "_law_whole" (defArgs s__law_whole) (defBody s__law_whole) (defScope s__law_whole) .none kV_law_whole dc_law_whole pm_law_whole an_law_whole cd_law_whole ct_law_whole), sl_law_whole⟩) (c_law_whole : PySem.W.codeIn K cd_law_whole "_law_whole" = true) (k_law_whole : PySem.W.keepIn K (.ref f_law_whole) = true)
    (a_law_right : PySem.W.nsIn K mainGlobals "_law_right" = some (some (.ref f_law_right)))
    (l_law_right : K.lookup f_law_right = some ⟨oc_law_right, od_law_right, .func (PySem.W.fnOf "_law_right" "_law_right" (defArgs s__law_right) (defBody s__law_right) (defScope s__law_right) .none kV_law_right dc_law_right pm_law_right an_law_right cd_law_right ct_law_right), sl_law_right⟩) (c_law_right : PySem.W.codeIn K cd_law_right "_law_right" = true) (k_law_right : PySem.W.keepIn K (.ref f_law_right) = true)
    (aDoor___init__ : PySem.W.findIn K (.ref a_Door) "__init__" = some (some (.ref fDoor___init__))) (iDoor___init__ : PySem.W.isFn K (.ref fDoor___init__) = true)
    (lDoor___init__ : K.lookup fDoor___init__ = some ⟨ocDoor___init__, odDoor___init__, .func (PySem.W.fnOf "__init__" "Door.__init__" (defArgs s_Door___init__) (defBody s_Door___init__) (defScope s_Door___init__) .none kVDoor___init__ dcDoor___init__ pmDoor___init__ anDoor___init__ cdDoor___init__ ctDoor___init__), slDoor___init__⟩) (cDoor___init__ : PySem.W.codeIn K cdDoor___init__ "Door.__init__" = true) (kDoor___init__ : PySem.W.keepIn K (.ref fDoor___init__) = true)
    (achoosable : PySem.W.nsIn K mainGlobals "choosable" = some (some (.ref fchoosable)))
    (lchoosable : K.lookup fchoosable = some ⟨occhoosable, odchoosable, .func (PySem.W.fnOf "choosable" "choosable" (defArgs s_choosable) (defBody s_choosable) (defScope s_choosable) .none kVchoosable dcchoosable pmchoosable anchoosable cdchoosable ctchoosable), slchoosable⟩) (cchoosable : PySem.W.codeIn K cdchoosable "choosable" = true) (kchoosable : PySem.W.keepIn K (.ref fchoosable) = true)
    (aDoor_next_guest : PySem.W.findIn K (.ref a_Door) "next_guest" = some (some (.ref fDoor_next_guest))) (iDoor_next_guest : PySem.W.isFn K (.ref fDoor_next_guest) = true)
    (lDoor_next_guest : K.lookup fDoor_next_guest = some ⟨ocDoor_next_guest, odDoor_next_guest, .func (PySem.W.fnOf "next_guest" "Door.next_guest" (defArgs s_Door_next_guest) (defBody s_Door_next_guest) (defScope s_Door_next_guest) .none kVDoor_next_guest dcDoor_next_guest pmDoor_next_guest anDoor_next_guest cdDoor_next_guest ctDoor_next_guest), slDoor_next_guest⟩) (cDoor_next_guest : PySem.W.codeIn K cdDoor_next_guest "Door.next_guest" = true) (kDoor_next_guest : PySem.W.keepIn K (.ref fDoor_next_guest) = true)
    (aDoor_open_seats : PySem.W.findIn K (.ref a_Door) "open_seats" = some (some (.ref fDoor_open_seats))) (iDoor_open_seats : PySem.W.isFn K (.ref fDoor_open_seats) = true)
    (lDoor_open_seats : K.lookup fDoor_open_seats = some ⟨ocDoor_open_seats, odDoor_open_seats, .func (PySem.W.fnOf "open_seats" "Door.open_seats" (defArgs s_Door_open_seats) (defBody s_Door_open_seats) (defScope s_Door_open_seats) .none kVDoor_open_seats dcDoor_open_seats pmDoor_open_seats anDoor_open_seats cdDoor_open_seats ctDoor_open_seats), slDoor_open_seats⟩) (cDoor_open_seats : PySem.W.codeIn K cdDoor_open_seats "Door.open_seats" = true) (kDoor_open_seats : PySem.W.keepIn K (.ref fDoor_open_seats) = true)
    (aDoor_come : PySem.W.findIn K (.ref a_Door) "come" = some (some (.ref fDoor_come))) (iDoor_come : PySem.W.isFn K (.ref fDoor_come) = true)
    (lDoor_come : K.lookup fDoor_come = some ⟨ocDoor_come, odDoor_come, .func (PySem.W.fnOf "come" "Door.come" (defArgs s_Door_come) (defBody s_Door_come) (defScope s_Door_come) .none kVDoor_come dcDoor_come pmDoor_come anDoor_come cdDoor_come ctDoor_come), slDoor_come⟩) (cDoor_come : PySem.W.codeIn K cdDoor_come "Door.come" = true) (kDoor_come : PySem.W.keepIn K (.ref fDoor_come) = true)
    (aDoor_taken : PySem.W.findIn K (.ref a_Door) "taken" = some (some (.ref fDoor_taken))) (iDoor_taken : PySem.W.isFn K (.ref fDoor_taken) = true)
    (lDoor_taken : K.lookup fDoor_taken = some ⟨ocDoor_taken, odDoor_taken, .func (PySem.W.fnOf "taken" "Door.taken" (defArgs s_Door_taken) (defBody s_Door_taken) (defScope s_Door_taken) .none kVDoor_taken dcDoor_taken pmDoor_taken anDoor_taken cdDoor_taken ctDoor_taken), slDoor_taken⟩) (cDoor_taken : PySem.W.codeIn K cdDoor_taken "Door.taken" = true) (kDoor_taken : PySem.W.keepIn K (.ref fDoor_taken) = true)
    (a_law_summed : PySem.W.nsIn K mainGlobals "_law_summed" = some (some (.ref f_law_summed)))
    (l_law_summed : K.lookup f_law_summed = some ⟨oc_law_summed, od_law_summed, .func (PySem.W.fnOf "_law_summed" "_law_summed" (defArgs s__law_summed) (defBody s__law_summed) (defScope s__law_summed) .none kV_law_summed dc_law_summed pm_law_summed an_law_summed cd_law_summed ct_law_summed), sl_law_summed⟩) (c_law_summed : PySem.W.codeIn K cd_law_summed "_law_summed" = true) (k_law_summed : PySem.W.keepIn K (.ref f_law_summed) = true)
    (acheck_seating : PySem.W.nsIn K mainGlobals "check_seating" = some (some (.ref fcheck_seating)))
    (lcheck_seating : K.lookup fcheck_seating = some ⟨occheck_seating, odcheck_seating, .func (PySem.W.fnOf "check_seating" "check_seating" (defArgs s_check_seating) (defBody s_check_seating) (defScope s_check_seating) .none kVcheck_seating dccheck_seating pmcheck_seating ancheck_seating cdcheck_seating ctcheck_seating), slcheck_seating⟩) (ccheck_seating : PySem.W.codeIn K cdcheck_seating "check_seating" = true) (kcheck_seating : PySem.W.keepIn K (.ref fcheck_seating) = true)
    (awalk : PySem.W.nsIn K mainGlobals "walk" = some (some (.ref fwalk)))
    (lwalk : K.lookup fwalk = some ⟨ocwalk, odwalk, .func (PySem.W.fnOf "walk" "walk" (defArgs s_walk) (defBody s_walk) (defScope s_walk) .none kVwalk dcwalk pmwalk anwalk cdwalk ctwalk), slwalk⟩) (cwalk : PySem.W.codeIn K cdwalk "walk" = true) (kwalk : PySem.W.keepIn K (.ref fwalk) = true)
    (aseating : PySem.W.nsIn K mainGlobals "seating" = some (some (.ref fseating)))
    (lseating : K.lookup fseating = some ⟨ocseating, odseating, .func (PySem.W.fnOf "seating" "seating" (defArgs s_seating) (defBody s_seating) (defScope s_seating) .none kVseating dcseating pmseating anseating cdseating ctseating), slseating⟩) (cseating : PySem.W.codeIn K cdseating "seating" = true) (kseating : PySem.W.keepIn K (.ref fseating) = true)
    (acheck_guest_and_seat : PySem.W.nsIn K mainGlobals "check_guest_and_seat" = some (some (.ref fcheck_guest_and_seat)))
    (lcheck_guest_and_seat : K.lookup fcheck_guest_and_seat = some ⟨occheck_guest_and_seat, odcheck_guest_and_seat, .func (PySem.W.fnOf "check_guest_and_seat" "check_guest_and_seat" (defArgs s_check_guest_and_seat) (defBody s_check_guest_and_seat) (defScope s_check_guest_and_seat) .none kVcheck_guest_and_seat dccheck_guest_and_seat pmcheck_guest_and_seat ancheck_guest_and_seat cdcheck_guest_and_seat ctcheck_guest_and_seat), slcheck_guest_and_seat⟩) (ccheck_guest_and_seat : PySem.W.codeIn K cdcheck_guest_and_seat "check_guest_and_seat" = true) (kcheck_guest_and_seat : PySem.W.keepIn K (.ref fcheck_guest_and_seat) = true)
    (ashare_at : PySem.W.nsIn K mainGlobals "share_at" = some (some (.ref fshare_at)))
    (lshare_at : K.lookup fshare_at = some ⟨ocshare_at, odshare_at, .func (PySem.W.fnOf "share_at" "share_at" (defArgs s_share_at) (defBody s_share_at) (defScope s_share_at) .none kVshare_at dcshare_at pmshare_at anshare_at cdshare_at ctshare_at), slshare_at⟩) (cshare_at : PySem.W.codeIn K cdshare_at "share_at" = true) (kshare_at : PySem.W.keepIn K (.ref fshare_at) = true)
    (ashare : PySem.W.nsIn K mainGlobals "share" = some (some (.ref fshare)))
    (lshare : K.lookup fshare = some ⟨ocshare, odshare, .func (PySem.W.fnOf "share" "share" (defArgs s_share) (defBody s_share) (defScope s_share) .none kVshare dcshare pmshare anshare cdshare ctshare), slshare⟩) (cshare : PySem.W.codeIn K cdshare "share" = true) (kshare : PySem.W.keepIn K (.ref fshare) = true)
    (a_law_great_right : PySem.W.nsIn K mainGlobals "_law_great_right" = some (some (.ref f_law_great_right)))
    (l_law_great_right : K.lookup f_law_great_right = some ⟨oc_law_great_right, od_law_great_right, .func (PySem.W.fnOf "_law_great_right" "_law_great_right" (defArgs s__law_great_right) (defBody s__law_great_right) (defScope s__law_great_right) .none kV_law_great_right dc_law_great_right pm_law_great_right an_law_great_right cd_law_great_right ct_law_great_right), sl_law_great_right⟩) (c_law_great_right : PySem.W.codeIn K cd_law_great_right "_law_great_right" = true) (k_law_great_right : PySem.W.keepIn K (.ref f_law_great_right) = true)
    (alaw : PySem.W.nsIn K mainGlobals "law" = some (some (.ref flaw)))
    (llaw : K.lookup flaw = some ⟨oclaw, odlaw, .func (PySem.W.fnOf "law" "law" (defArgs s_law) (defBody s_law) (defScope s_law) .none kVlaw dclaw pmlaw anlaw cdlaw ctlaw), sllaw⟩) (claw : PySem.W.codeIn K cdlaw "law" = true) (klaw : PySem.W.keepIn K (.ref flaw) = true)
    (pgDoor : PySem.W.plainGet K a_Door Str.empty = true) (hdDoor : PySem.W.hasDictIn K a_Door = true) (poDoor : PySem.W.plainOver K a_Door = true) (saDoor : PySem.W.findIn K (.ref a_Door) "__setattr__" = some (some (.builtin "object.__setattr__")))
    (mkDoor : PySem.W.makesIn K a_Door = true) (kcDoor : PySem.W.keepIn K (.ref a_Door) = true)
    (nfDoorbottom : PySem.W.findIn K (.ref a_Door) "bottom" = some none)
    (nfDoorlost : PySem.W.findIn K (.ref a_Door) "lost" = some none)
    (nfDoororder : PySem.W.findIn K (.ref a_Door) "order" = some none)
    (nfDoorseats : PySem.W.findIn K (.ref a_Door) "seats" = some none)
    (nfDoorturn : PySem.W.findIn K (.ref a_Door) "turn" = some none)
    (nc_MOST_GUESTS : PySem.W.nsIn K mainGlobals "MOST_GUESTS" = some (some (.int 40 tk_MOST_GUESTS)))
    (z_isinstance : PySem.W.nsIn K mainGlobals "isinstance" = some none)
    (z_int : PySem.W.nsIn K mainGlobals "int" = some none)
    (z_bool : PySem.W.nsIn K mainGlobals "bool" = some none)
    (z_list : PySem.W.nsIn K mainGlobals "list" = some none)
    (z_tuple : PySem.W.nsIn K mainGlobals "tuple" = some none)
    (z_str : PySem.W.nsIn K mainGlobals "str" = some none)
    (z_all : PySem.W.nsIn K mainGlobals "all" = some none)
    (z_any : PySem.W.nsIn K mainGlobals "any" = some none)
    (z_len : PySem.W.nsIn K mainGlobals "len" = some none)
    (z_enumerate : PySem.W.nsIn K mainGlobals "enumerate" = some none)
    (z_zip : PySem.W.nsIn K mainGlobals "zip" = some none)
    (z_range : PySem.W.nsIn K mainGlobals "range" = some none)
    (z_sorted : PySem.W.nsIn K mainGlobals "sorted" = some none)
    (z_set : PySem.W.nsIn K mainGlobals "set" = some none)
    (z_max : PySem.W.nsIn K mainGlobals "max" = some none)
    (z_min : PySem.W.nsIn K mainGlobals "min" = some none)
    : ∃ fd : FuncData, (∀ (s : Shared) (v : Value), BindsTo s fd ⟨[v], []⟩ [("_law_script", v)]) ∧ ∀ base : Heap, K.In base → base.Ns mainGlobals mg → FnOk l.prog w K mg base CX0 10 fa fd ["_law_script"] (Ds.spLaw K) := by
  have e := hfa.symm.trans (PySem.W.mg_of X GN alaw)
  cases e
  have Tb : Ds.Bt mg := ⟨PySem.W.mg_none_of X GN z_isinstance, PySem.W.mg_none_of X GN z_int, PySem.W.mg_none_of X GN z_bool, PySem.W.mg_none_of X GN z_list, PySem.W.mg_none_of X GN z_tuple, PySem.W.mg_none_of X GN z_str, PySem.W.mg_none_of X GN z_all, PySem.W.mg_none_of X GN z_any, PySem.W.mg_none_of X GN z_len, PySem.W.mg_none_of X GN z_enumerate, PySem.W.mg_none_of X GN z_zip, PySem.W.mg_none_of X GN z_range, PySem.W.mg_none_of X GN z_sorted, PySem.W.mg_none_of X GN z_set, PySem.W.mg_none_of X GN z_max, PySem.W.mg_none_of X GN z_min⟩
  obtain ⟨G, hG⟩ : ∃ G : Gx, G = ⟨l.prog, w, K, fun x => List.lookup x [(("AllCame" : Str), a_AllCame), (("BadGuest" : Str), a_BadGuest), (("BadNight" : Str), a_BadNight), (("BadPairs" : Str), a_BadPairs), (("BadSeat" : Str), a_BadSeat), (("BadSeating" : Str), a_BadSeating), (("Door" : Str), a_Door)]⟩ := ⟨_, rfl⟩
  have gP : l.prog = G.P := by rw [hG]
  have gw : w = G.w := by rw [hG]
  have gK : K = G.K := by rw [hG]
  have ca_AllCame : G.ca "AllCame" = some a_AllCame := by rw [hG]; rfl
  have ca_BadGuest : G.ca "BadGuest" = some a_BadGuest := by rw [hG]; rfl
  have ca_BadNight : G.ca "BadNight" = some a_BadNight := by rw [hG]; rfl
  have ca_BadPairs : G.ca "BadPairs" = some a_BadPairs := by rw [hG]; rfl
  have ca_BadSeat : G.ca "BadSeat" = some a_BadSeat := by rw [hG]; rfl
  have ca_BadSeating : G.ca "BadSeating" = some a_BadSeating := by rw [hG]; rfl
  have ca_Door : G.ca "Door" = some a_Door := by rw [hG]; rfl
  have gcls : True := trivial
  have gc0_Door : Cls K a_Door := ⟨pgDoor, hdDoor, poDoor, saDoor⟩
  have hgf_bottom_Door : GF G ["Door"] "bottom" := by
    intro C hC a hca
    have e : C = "Door" := List.mem_singleton.mp hC
    subst e; rw [ca_Door] at hca; cases hca; rw [← gK]; exact ⟨gc0_Door, nfDoorbottom⟩
  have hgf_lost_Door : GF G ["Door"] "lost" := by
    intro C hC a hca
    have e : C = "Door" := List.mem_singleton.mp hC
    subst e; rw [ca_Door] at hca; cases hca; rw [← gK]; exact ⟨gc0_Door, nfDoorlost⟩
  have hgf_order_Door : GF G ["Door"] "order" := by
    intro C hC a hca
    have e : C = "Door" := List.mem_singleton.mp hC
    subst e; rw [ca_Door] at hca; cases hca; rw [← gK]; exact ⟨gc0_Door, nfDoororder⟩
  have hgf_seats_Door : GF G ["Door"] "seats" := by
    intro C hC a hca
    have e : C = "Door" := List.mem_singleton.mp hC
    subst e; rw [ca_Door] at hca; cases hca; rw [← gK]; exact ⟨gc0_Door, nfDoorseats⟩
  have hgf_turn_Door : GF G ["Door"] "turn" := by
    intro C hC a hca
    have e : C = "Door" := List.mem_singleton.mp hC
    subst e; rw [ca_Door] at hca; cases hca; rw [← gK]; exact ⟨gc0_Door, nfDoorturn⟩
  have gc_Door : Cls G.K a_Door := by rw [← gK]; exact gc0_Door
  have mc_AllCame := PySem.W.mg_of X GN n_AllCame
  have mc_BadGuest := PySem.W.mg_of X GN n_BadGuest
  have mc_BadNight := PySem.W.mg_of X GN n_BadNight
  have mc_BadPairs := PySem.W.mg_of X GN n_BadPairs
  have mc_BadSeat := PySem.W.mg_of X GN n_BadSeat
  have mc_BadSeating := PySem.W.mg_of X GN n_BadSeating
  have mc_Door := PySem.W.mg_of X GN n_Door
  have hc_MOST_GUESTS := PySem.W.mg_of X GN nc_MOST_GUESTS
  have F__law_draw := fun_mk (st := s__law_draw) l_law_draw c_law_draw k_law_draw
  have b__law_draw := F__law_draw.binds (ps := ["_law_cell", "_law_k", "_law_many"]) fun _ _ _ _ _ _ us hl => match us, hl with | [_, _, _], _ => rfl
  have m__law_draw := PySem.W.mg_of X GN a_law_draw
  have F__law_value := fun_mk (st := s__law_value) l_law_value c_law_value k_law_value
  have b__law_value := F__law_value.binds (ps := ["_law_cell", "_law_turn"]) fun _ _ _ _ _ _ us hl => match us, hl with | [_, _], _ => rfl
  have m__law_value := PySem.W.mg_of X GN a_law_value
  have F__law_cell_at := fun_mk (st := s__law_cell_at) l_law_cell_at c_law_cell_at k_law_cell_at
  have b__law_cell_at := F__law_cell_at.binds (ps := ["_law_script", "_law_k"]) fun _ _ _ _ _ _ us hl => match us, hl with | [_, _], _ => rfl
  have m__law_cell_at := PySem.W.mg_of X GN a_law_cell_at
  have F__law_night := fun_mk (st := s__law_night) l_law_night c_law_night k_law_night
  have b__law_night := F__law_night.binds (ps := ["_law_script", "_law_by", "_law_most"]) fun _ _ _ _ _ _ us hl => match us, hl with | [_, _, _], _ => rfl
  have m__law_night := PySem.W.mg_of X GN a_law_night
  have F__law_ways := fun_mk (st := s__law_ways) l_law_ways c_law_ways k_law_ways
  have b__law_ways := F__law_ways.binds (ps := ["_law_night_here"]) fun _ _ _ _ _ _ us hl => match us, hl with | [_], _ => rfl
  have m__law_ways := PySem.W.mg_of X GN a_law_ways
  have F__law_seats := fun_mk (st := s__law_seats) l_law_seats c_law_seats k_law_seats
  have b__law_seats := F__law_seats.binds (ps := ["_law_night_here", "_law_seats_here"]) fun _ _ _ _ _ _ us hl => match us, hl with | [_, _], _ => rfl
  have m__law_seats := PySem.W.mg_of X GN a_law_seats
  have F__law_copied := fun_mk (st := s__law_copied) l_law_copied c_law_copied k_law_copied
  have b__law_copied := F__law_copied.binds (ps := ["_law_night_here"]) fun _ _ _ _ _ _ us hl => match us, hl with | [_], _ => rfl
  have m__law_copied := PySem.W.mg_of X GN a_law_copied
  have F__law_pairs := fun_mk (st := s__law_pairs) l_law_pairs c_law_pairs k_law_pairs
  have b__law_pairs := F__law_pairs.binds (ps := ["_law_seats_here", "_law_value_here"]) fun _ _ _ _ _ _ us hl => match us, hl with | [_, _], _ => rfl
  have m__law_pairs := PySem.W.mg_of X GN a_law_pairs
  have F_is_number := fun_mk (st := s_is_number) lis_number cis_number kis_number
  have b_is_number := F_is_number.binds (ps := ["value"]) fun _ _ _ _ _ _ us hl => match us, hl with | [_], _ => rfl
  have m_is_number := PySem.W.mg_of X GN ais_number
  have F_is_counted := fun_mk (st := s_is_counted) lis_counted cis_counted kis_counted
  have b_is_counted := F_is_counted.binds (ps := ["value", "many"]) fun _ _ _ _ _ _ us hl => match us, hl with | [_, _], _ => rfl
  have m_is_counted := PySem.W.mg_of X GN ais_counted
  have F_is_each_once := fun_mk (st := s_is_each_once) lis_each_once cis_each_once kis_each_once
  have b_is_each_once := F_is_each_once.binds (ps := ["values", "many"]) fun _ _ _ _ _ _ us hl => match us, hl with | [_, _], _ => rfl
  have m_is_each_once := PySem.W.mg_of X GN ais_each_once
  have F_is_order := fun_mk (st := s_is_order) lis_order cis_order kis_order
  have b_is_order := F_is_order.binds (ps := ["order"]) fun _ _ _ _ _ _ us hl => match us, hl with | [_], _ => rfl
  have m_is_order := PySem.W.mg_of X GN ais_order
  have F_is_rising := fun_mk (st := s_is_rising) lis_rising cis_rising kis_rising
  have b_is_rising := F_is_rising.binds (ps := ["values", "many"]) fun _ _ _ _ _ _ us hl => match us, hl with | [_, _], _ => rfl
  have m_is_rising := PySem.W.mg_of X GN ais_rising
  have F_is_night := fun_mk (st := s_is_night) lis_night cis_night kis_night
  have b_is_night := F_is_night.binds (ps := ["night"]) fun _ _ _ _ _ _ us hl => match us, hl with | [_], _ => rfl
  have m_is_night := PySem.W.mg_of X GN ais_night
  have F_check_night := fun_mk (st := s_check_night) lcheck_night ccheck_night kcheck_night
  have b_check_night := F_check_night.binds (ps := ["night"]) fun _ _ _ _ _ _ us hl => match us, hl with | [_], _ => rfl
  have m_check_night := PySem.W.mg_of X GN acheck_night
  have F_is_pair := fun_mk (st := s_is_pair) lis_pair cis_pair kis_pair
  have b_is_pair := F_is_pair.binds (ps := ["pair", "many"]) fun _ _ _ _ _ _ us hl => match us, hl with | [_, _], _ => rfl
  have m_is_pair := PySem.W.mg_of X GN ais_pair
  have F_are_pairs := fun_mk (st := s_are_pairs) lare_pairs care_pairs kare_pairs
  have b_are_pairs := F_are_pairs.binds (ps := ["pairs", "many"]) fun _ _ _ _ _ _ us hl => match us, hl with | [_, _], _ => rfl
  have m_are_pairs := PySem.W.mg_of X GN aare_pairs
  have F_untold_to_come := fun_mk (st := s_untold_to_come) luntold_to_come cuntold_to_come kuntold_to_come
  have b_untold_to_come := F_untold_to_come.binds (ps := ["order", "turn", "seat_of"]) fun _ _ _ _ _ _ us hl => match us, hl with | [_, _, _], _ => rfl
  have m_untold_to_come := PySem.W.mg_of X GN auntold_to_come
  have F_alike_seats := fun_mk (st := s_alike_seats) lalike_seats calike_seats kalike_seats
  have b_alike_seats := F_alike_seats.binds (ps := ["night", "turn"]) fun _ _ _ _ _ _ us hl => match us, hl with | [_, _], _ => rfl
  have m_alike_seats := PySem.W.mg_of X GN aalike_seats
  have F_own_is_free := fun_mk (st := s_own_is_free) lown_is_free cown_is_free kown_is_free
  have b_own_is_free := F_own_is_free.binds (ps := ["night", "turn", "seat_of", "guest_on"]) fun _ _ _ _ _ _ us hl => match us, hl with | [_, _, _, _], _ => rfl
  have m_own_is_free := PySem.W.mg_of X GN aown_is_free
  have F_share_of_turn := fun_mk (st := s_share_of_turn) lshare_of_turn cshare_of_turn kshare_of_turn
  have b_share_of_turn := F_share_of_turn.binds (ps := ["night", "turn", "seat_of", "guest_on"]) fun _ _ _ _ _ _ us hl => match us, hl with | [_, _, _, _], _ => rfl
  have m_share_of_turn := PySem.W.mg_of X GN ashare_of_turn
  have F_lowest := fun_mk (st := s_lowest) llowest clowest klowest
  have b_lowest := F_lowest.binds (ps := ["top", "bottom"]) fun _ _ _ _ _ _ us hl => match us, hl with | [_, _], _ => rfl
  have m_lowest := PySem.W.mg_of X GN alowest
  have F_together := fun_mk (st := s_together) ltogether ctogether ktogether
  have b_together := F_together.binds (ps := ["night", "pairs"]) fun _ _ _ _ _ _ us hl => match us, hl with | [_, _], _ => rfl
  have m_together := PySem.W.mg_of X GN atogether
  have F__law_part := fun_mk (st := s__law_part) l_law_part c_law_part k_law_part
  have b__law_part := F__law_part.binds (ps := ["_law_top", "_law_bottom"]) fun _ _ _ _ _ _ us hl => match us, hl with | [_, _], _ => rfl
  have m__law_part := PySem.W.mg_of X GN a_law_part
  have F__law_whole := fun_mk (st := s__law_whole) l_law_whole c_law_whole k_law_whole
  have b__law_whole := F__law_whole.binds (ps := ["_law_number"]) fun _ _ _ _ _ _ us hl => match us, hl with | [_], _ => rfl
  have m__law_whole := PySem.W.mg_of X GN a_law_whole
  have F__law_right := fun_mk (st := s__law_right) l_law_right c_law_right k_law_right
  have b__law_right := F__law_right.binds (ps := ["_law_night_here", "_law_value_here"]) fun _ _ _ _ _ _ us hl => match us, hl with | [_, _], _ => rfl
  have m__law_right := PySem.W.mg_of X GN a_law_right
  have F_Door___init__ := fun_mk (st := s_Door___init__) lDoor___init__ cDoor___init__ kDoor___init__
  have b_Door___init__ := F_Door___init__.binds (ps := ["self", "night"]) fun _ _ _ _ _ _ us hl => match us, hl with | [_, _], _ => rfl
  have mk_Door : Mk K a_Door fDoor___init__ := ⟨mkDoor, aDoor___init__, iDoor___init__, kcDoor⟩
  have F_choosable := fun_mk (st := s_choosable) lchoosable cchoosable kchoosable
  have b_choosable := F_choosable.binds (ps := ["guest", "lost", "free"]) fun _ _ _ _ _ _ us hl => match us, hl with | [_, _, _], _ => rfl
  have m_choosable := PySem.W.mg_of X GN achoosable
  have F_Door_next_guest := fun_mk (st := s_Door_next_guest) lDoor_next_guest cDoor_next_guest kDoor_next_guest
  have b_Door_next_guest := F_Door_next_guest.binds (ps := ["self"]) fun _ _ _ _ _ _ us hl => match us, hl with | [_], _ => rfl
  have mt_Door_next_guest : Meth K a_Door "next_guest" fDoor_next_guest := ⟨aDoor_next_guest, iDoor_next_guest, kDoor_next_guest⟩
  have F_Door_open_seats := fun_mk (st := s_Door_open_seats) lDoor_open_seats cDoor_open_seats kDoor_open_seats
  have b_Door_open_seats := F_Door_open_seats.binds (ps := ["self"]) fun _ _ _ _ _ _ us hl => match us, hl with | [_], _ => rfl
  have mt_Door_open_seats : Meth K a_Door "open_seats" fDoor_open_seats := ⟨aDoor_open_seats, iDoor_open_seats, kDoor_open_seats⟩
  have F_Door_come := fun_mk (st := s_Door_come) lDoor_come cDoor_come kDoor_come
  have b_Door_come := F_Door_come.binds (ps := ["self", "seat"]) fun _ _ _ _ _ _ us hl => match us, hl with | [_, _], _ => rfl
  have mt_Door_come : Meth K a_Door "come" fDoor_come := ⟨aDoor_come, iDoor_come, kDoor_come⟩
  have F_Door_taken := fun_mk (st := s_Door_taken) lDoor_taken cDoor_taken kDoor_taken
  have b_Door_taken := F_Door_taken.binds (ps := ["self"]) fun _ _ _ _ _ _ us hl => match us, hl with | [_], _ => rfl
  have mt_Door_taken : Meth K a_Door "taken" fDoor_taken := ⟨aDoor_taken, iDoor_taken, kDoor_taken⟩
  have F__law_summed := fun_mk (st := s__law_summed) l_law_summed c_law_summed k_law_summed
  have b__law_summed := F__law_summed.binds (ps := ["_law_shares"]) fun _ _ _ _ _ _ us hl => match us, hl with | [_], _ => rfl
  have m__law_summed := PySem.W.mg_of X GN a_law_summed
  have F_check_seating := fun_mk (st := s_check_seating) lcheck_seating ccheck_seating kcheck_seating
  have b_check_seating := F_check_seating.binds (ps := ["seats", "many"]) fun _ _ _ _ _ _ us hl => match us, hl with | [_, _], _ => rfl
  have m_check_seating := PySem.W.mg_of X GN acheck_seating
  have F_walk := fun_mk (st := s_walk) lwalk cwalk kwalk
  have b_walk := F_walk.binds (ps := ["night", "seats"]) fun _ _ _ _ _ _ us hl => match us, hl with | [_, _], _ => rfl
  have m_walk := PySem.W.mg_of X GN awalk
  have F_seating := fun_mk (st := s_seating) lseating cseating kseating
  have b_seating := F_seating.binds (ps := ["night", "seats"]) fun _ _ _ _ _ _ us hl => match us, hl with | [_, _], _ => rfl
  have m_seating := PySem.W.mg_of X GN aseating
  have F_check_guest_and_seat := fun_mk (st := s_check_guest_and_seat) lcheck_guest_and_seat ccheck_guest_and_seat kcheck_guest_and_seat
  have b_check_guest_and_seat := F_check_guest_and_seat.binds (ps := ["guest", "seat", "many"]) fun _ _ _ _ _ _ us hl => match us, hl with | [_, _, _], _ => rfl
  have m_check_guest_and_seat := PySem.W.mg_of X GN acheck_guest_and_seat
  have F_share_at := fun_mk (st := s_share_at) lshare_at cshare_at kshare_at
  have b_share_at := F_share_at.binds (ps := ["night", "turn", "seat"]) fun _ _ _ _ _ _ us hl => match us, hl with | [_, _, _], _ => rfl
  have m_share_at := PySem.W.mg_of X GN ashare_at
  have F_share := fun_mk (st := s_share) lshare cshare kshare
  have b_share := F_share.binds (ps := ["night", "guest", "seat"]) fun _ _ _ _ _ _ us hl => match us, hl with | [_, _, _], _ => rfl
  have m_share := PySem.W.mg_of X GN ashare
  have F__law_great_right := fun_mk (st := s__law_great_right) l_law_great_right c_law_great_right k_law_great_right
  have b__law_great_right := F__law_great_right.binds (ps := ["_law_night_here", "_law_value_here"]) fun _ _ _ _ _ _ us hl => match us, hl with | [_, _], _ => rfl
  have m__law_great_right := PySem.W.mg_of X GN a_law_great_right
  have F_law := fun_mk (st := s_law) llaw claw klaw
  have b_law := F_law.binds (ps := ["_law_script"]) fun _ _ _ _ _ _ us hl => match us, hl with | [_], _ => rfl
  have m_law := PySem.W.mg_of X GN alaw
  refine ⟨PySem.W.fnOf "law" "law" (defArgs s_law) (defBody s_law) (defScope s_law) .none kVlaw dclaw pmlaw anlaw cdlaw ctlaw, fun s v => .of_eq rfl, fun base _ _ => ?_⟩
  clear hG
  rw [gP, gw]
  clear gP gw
  subst gK
  have C__law_draw : Cal G mg base CX0 1 _ _ _ _ := ⟨ok__law_draw F__law_draw Tb , k_law_draw, b__law_draw⟩
  have C__law_value : Cal G mg base CX0 2 _ _ _ _ := ⟨ok__law_value F__law_value Tb C__law_draw m__law_draw, k_law_value, b__law_value⟩
  have C__law_cell_at : Cal G mg base CX0 1 _ _ _ _ := ⟨ok__law_cell_at F__law_cell_at Tb , k_law_cell_at, b__law_cell_at⟩
  have C__law_night : Cal G mg base CX0 3 _ _ _ _ := ⟨ok__law_night F__law_night Tb C__law_value m__law_value C__law_cell_at m__law_cell_at, k_law_night, b__law_night⟩
  have C__law_ways : Cal G mg base CX0 1 _ _ _ _ := ⟨ok__law_ways F__law_ways Tb , k_law_ways, b__law_ways⟩
  have C__law_seats : Cal G mg base CX0 1 _ _ _ _ := ⟨ok__law_seats F__law_seats Tb , k_law_seats, b__law_seats⟩
  have C__law_copied : Cal G mg base CX0 1 _ _ _ _ := ⟨ok__law_copied F__law_copied Tb , k_law_copied, b__law_copied⟩
  have C__law_pairs : Cal G mg base CX0 1 _ _ _ _ := ⟨ok__law_pairs F__law_pairs Tb , k_law_pairs, b__law_pairs⟩
  have C_is_number : Cal G mg base CX0 1 _ _ _ _ := ⟨ok_is_number F_is_number Tb , kis_number, b_is_number⟩
  have C_is_counted : Cal G mg base CX0 2 _ _ _ _ := ⟨ok_is_counted F_is_counted Tb C_is_number m_is_number, kis_counted, b_is_counted⟩
  have C_is_each_once : Cal G mg base CX0 3 _ _ _ _ := ⟨ok_is_each_once F_is_each_once Tb C_is_counted m_is_counted, kis_each_once, b_is_each_once⟩
  have C_is_order : Cal G mg base CX0 4 _ _ _ _ := ⟨ok_is_order F_is_order Tb C_is_each_once m_is_each_once hc_MOST_GUESTS, kis_order, b_is_order⟩
  have C_is_rising : Cal G mg base CX0 3 _ _ _ _ := ⟨ok_is_rising F_is_rising Tb C_is_counted m_is_counted, kis_rising, b_is_rising⟩
  have C_is_night : Cal G mg base CX0 5 _ _ _ _ := ⟨ok_is_night F_is_night Tb C_is_order m_is_order C_is_rising m_is_rising, kis_night, b_is_night⟩
  have C_check_night : Cal G mg base CX0 6 _ _ _ _ := ⟨ok_check_night F_check_night Tb C_is_night m_is_night ca_BadNight, kcheck_night, b_check_night⟩
  have C_is_pair : Cal G mg base CX0 3 _ _ _ _ := ⟨ok_is_pair F_is_pair Tb C_is_counted m_is_counted, kis_pair, b_is_pair⟩
  have C_are_pairs : Cal G mg base CX0 4 _ _ _ _ := ⟨ok_are_pairs F_are_pairs Tb C_is_pair m_is_pair C_is_rising m_is_rising, kare_pairs, b_are_pairs⟩
  have C_untold_to_come : Cal G mg base CX0 1 _ _ _ _ := ⟨ok_untold_to_come F_untold_to_come Tb , kuntold_to_come, b_untold_to_come⟩
  have C_alike_seats : Cal G mg base CX0 1 _ _ _ _ := ⟨ok_alike_seats F_alike_seats Tb , kalike_seats, b_alike_seats⟩
  have C_own_is_free : Cal G mg base CX0 2 _ _ _ _ := ⟨ok_own_is_free F_own_is_free Tb C_alike_seats m_alike_seats C_untold_to_come m_untold_to_come, kown_is_free, b_own_is_free⟩
  have C_share_of_turn : Cal G mg base CX0 3 _ _ _ _ := ⟨ok_share_of_turn F_share_of_turn Tb C_untold_to_come m_untold_to_come C_own_is_free m_own_is_free, kshare_of_turn, b_share_of_turn⟩
  have C_lowest : Cal G mg base CX0 1 _ _ _ _ := ⟨ok_lowest F_lowest Tb , klowest, b_lowest⟩
  have C_together : Cal G mg base CX0 7 _ _ _ _ := ⟨ok_together F_together Tb C_check_night m_check_night C_are_pairs m_are_pairs C_share_of_turn m_share_of_turn C_lowest m_lowest ca_BadPairs, ktogether, b_together⟩
  have C__law_part : Cal G mg base CX0 1 _ _ _ _ := ⟨ok__law_part F__law_part Tb , k_law_part, b__law_part⟩
  have C__law_whole : Cal G mg base CX0 1 _ _ _ _ := ⟨ok__law_whole F__law_whole Tb , k_law_whole, b__law_whole⟩
  have C__law_right : Cal G mg base CX0 8 _ _ _ _ := ⟨ok__law_right F__law_right Tb C__law_ways m__law_ways C__law_seats m__law_seats C__law_copied m__law_copied C__law_pairs m__law_pairs C_together m_together C__law_part m__law_part C__law_whole m__law_whole, k_law_right, b__law_right⟩
  have C_Door___init__ : Cal G mg base CX0 7 _ _ _ _ := ⟨ok_Door___init__ F_Door___init__ Tb C_check_night m_check_night hgf_bottom_Door hgf_lost_Door hgf_order_Door hgf_seats_Door hgf_turn_Door, kDoor___init__, b_Door___init__⟩
  have C_choosable : Cal G mg base CX0 1 _ _ _ _ := ⟨ok_choosable F_choosable Tb , kchoosable, b_choosable⟩
  have C_Door_next_guest : Cal G mg base CX0 1 _ _ _ _ := ⟨ok_Door_next_guest F_Door_next_guest Tb hgf_order_Door hgf_turn_Door, kDoor_next_guest, b_Door_next_guest⟩
  have C_Door_open_seats : Cal G mg base CX0 2 _ _ _ _ := ⟨ok_Door_open_seats F_Door_open_seats Tb C_choosable m_choosable C_Door_next_guest mt_Door_next_guest ca_Door gc_Door hgf_lost_Door hgf_order_Door hgf_seats_Door, kDoor_open_seats, b_Door_open_seats⟩
  have C_Door_come : Cal G mg base CX0 3 _ _ _ _ := ⟨ok_Door_come F_Door_come Tb C_Door_next_guest mt_Door_next_guest C_Door_open_seats mt_Door_open_seats C_is_number m_is_number ca_AllCame ca_BadSeat ca_Door gc_Door hgf_bottom_Door hgf_seats_Door hgf_turn_Door, kDoor_come, b_Door_come⟩
  have C_Door_taken : Cal G mg base CX0 1 _ _ _ _ := ⟨ok_Door_taken F_Door_taken Tb hgf_seats_Door, kDoor_taken, b_Door_taken⟩
  have C__law_summed : Cal G mg base CX0 2 _ _ _ _ := ⟨ok__law_summed F__law_summed Tb C__law_part m__law_part, k_law_summed, b__law_summed⟩
  have C_check_seating : Cal G mg base CX0 4 _ _ _ _ := ⟨ok_check_seating F_check_seating Tb C_is_each_once m_is_each_once ca_BadSeating, kcheck_seating, b_check_seating⟩
  have C_walk : Cal G mg base CX0 2 _ _ _ _ := ⟨ok_walk F_walk Tb C_choosable m_choosable, kwalk, b_walk⟩
  have C_seating : Cal G mg base CX0 7 _ _ _ _ := ⟨ok_seating F_seating Tb C_check_night m_check_night C_check_seating m_check_seating C_walk m_walk, kseating, b_seating⟩
  have C_check_guest_and_seat : Cal G mg base CX0 3 _ _ _ _ := ⟨ok_check_guest_and_seat F_check_guest_and_seat Tb C_is_counted m_is_counted ca_BadGuest ca_BadSeat, kcheck_guest_and_seat, b_check_guest_and_seat⟩
  have C_share_at : Cal G mg base CX0 2 _ _ _ _ := ⟨ok_share_at F_share_at Tb C_alike_seats m_alike_seats C_lowest m_lowest, kshare_at, b_share_at⟩
  have C_share : Cal G mg base CX0 7 _ _ _ _ := ⟨ok_share F_share Tb C_check_night m_check_night C_check_guest_and_seat m_check_guest_and_seat C_share_at m_share_at, kshare, b_share⟩
  have C__law_great_right : Cal G mg base CX0 9 _ _ _ _ := ⟨ok__law_great_right F__law_great_right Tb C_Door___init__ mk_Door C_Door_open_seats mt_Door_open_seats C_Door_come mt_Door_come C_Door_taken mt_Door_taken C_together m_together C__law_summed m__law_summed C_seating m_seating C__law_copied m__law_copied C_share m_share ca_Door mc_Door gc_Door, k_law_great_right, b__law_great_right⟩
  exact law_of (ok_law F_law Tb C__law_value m__law_value C__law_cell_at m__law_cell_at C__law_night m__law_night C__law_right m__law_right C__law_great_right m__law_great_right C_together m_together C_seating m_seating C__law_part m__law_part) k11_true
theorem walkO {l : PySem.W.OpenLaw} {q : Program} {loose : List Str} {XP : (Str → Option Value) → Heap → Prop} {YP : World → Heap → Prop} {d : DefRec} {K : Params → PySem.W.Frag} (hn : l.most = some 63) (hdf : d.params.defaults = [])
    (hY : ∀ (w : World) (h : Heap), YP w h → (K w.params).In h)
    (F : ∀ (w : World) (mg : Str → Option Value) (fa : Addr) (h : Heap), (K w.params).In h → h.Ns mainGlobals mg → mg d.name = some (.ref fa) →
      ∃ fd : FuncData, (∀ (s : Shared) (u : Value), BindsTo s fd ⟨[u], []⟩ [("_law_script", u)]) ∧ ∀ base : Heap, (K w.params).In base → base.Ns mainGlobals mg → FnOk l.prog w (K w.params) mg base CX0 10 fa fd ["_law_script"] (Ds.spLaw (K w.params))) :
    PySem.W.WalkO q loose XP YP l.row.toRowW d [] (fun f vs => PySem.call f vs) :=
  L2.walk_of (n := 63) (k := 10) (x := "_law_script") (CX := fun _ => CX0) (sp := fun w => Ds.spLaw (K w.params)) hn (by decide) hdf ⟨rfl, by decide, by decide⟩ hY F (fun _ _ a ns hl _ hS => ⟨a, ns, rfl, hS, hl, fun _ => rfl⟩) fun _ _ _ _ _ z => z
end Lw
open PySem PySem.W PyProof.Rows
set_option maxRecDepth 100000 in
set_option maxHeartbeats 0 in
theorem PySem.Challenge.cw_lostseat_k11_whole_together_holds : PySem.Challenge.rw_lostseat_k11_whole_together.Holds := by
  w_on; o_law; k_head; (case hw => w_witness2)
  k_fill
  refine Lw.walkO (l := PySem.Challenge.rw_lostseat_k11_whole_together) rfl rfl (fun w h Y => PySem.W.kIn_of Y) ?F
  case F =>
    intro w mg fa h KX G hmg
    refine' Lw.all_mk KX G hmg ?n_AllCame ?n_BadGuest ?n_BadNight ?n_BadPairs ?n_BadSeat ?n_BadSeating ?n_Door ?a_law_draw ?l_law_draw ?c_law_draw ?k_law_draw ?a_law_value ?l_law_value ?c_law_value ?k_law_value ?a_law_cell_at ?l_law_cell_at ?c_law_cell_at ?k_law_cell_at ?a_law_night ?l_law_night ?c_law_night ?k_law_night ?a_law_ways ?l_law_ways ?c_law_ways ?k_law_ways ?a_law_seats ?l_law_seats ?c_law_seats ?k_law_seats ?a_law_copied ?l_law_copied ?c_law_copied ?k_law_copied ?a_law_pairs ?l_law_pairs ?c_law_pairs ?k_law_pairs ?ais_number ?lis_number ?cis_number ?kis_number ?ais_counted ?lis_counted ?cis_counted ?kis_counted ?ais_each_once ?lis_each_once ?cis_each_once ?kis_each_once ?ais_order ?lis_order ?cis_order ?kis_order ?ais_rising ?lis_rising ?cis_rising ?kis_rising ?ais_night ?lis_night ?cis_night ?kis_night ?acheck_night ?lcheck_night ?ccheck_night ?kcheck_night ?ais_pair ?lis_pair ?cis_pair ?kis_pair ?aare_pairs ?lare_pairs ?care_pairs ?kare_pairs ?auntold_to_come ?luntold_to_come ?cuntold_to_come ?kuntold_to_come ?aalike_seats ?lalike_seats ?calike_seats ?kalike_seats ?aown_is_free ?lown_is_free ?cown_is_free ?kown_is_free ?ashare_of_turn ?lshare_of_turn ?cshare_of_turn ?kshare_of_turn ?alowest ?llowest ?clowest ?klowest ?atogether ?ltogether ?ctogether ?ktogether ?a_law_part ?l_law_part ?c_law_part ?k_law_part ?a_law_whole ?l_law_whole ?c_law_whole ?k_law_whole ?a_law_right ?l_law_right ?c_law_right ?k_law_right ?aDoor___init__ ?iDoor___init__ ?lDoor___init__ ?cDoor___init__ ?kDoor___init__ ?achoosable ?lchoosable ?cchoosable ?kchoosable ?aDoor_next_guest ?iDoor_next_guest ?lDoor_next_guest ?cDoor_next_guest ?kDoor_next_guest ?aDoor_open_seats ?iDoor_open_seats ?lDoor_open_seats ?cDoor_open_seats ?kDoor_open_seats ?aDoor_come ?iDoor_come ?lDoor_come ?cDoor_come ?kDoor_come ?aDoor_taken ?iDoor_taken ?lDoor_taken ?cDoor_taken ?kDoor_taken ?a_law_summed ?l_law_summed ?c_law_summed ?k_law_summed ?acheck_seating ?lcheck_seating ?ccheck_seating ?kcheck_seating ?awalk ?lwalk ?cwalk ?kwalk ?aseating ?lseating ?cseating ?kseating ?acheck_guest_and_seat ?lcheck_guest_and_seat ?ccheck_guest_and_seat ?kcheck_guest_and_seat ?ashare_at ?lshare_at ?cshare_at ?kshare_at ?ashare ?lshare ?cshare ?kshare ?a_law_great_right ?l_law_great_right ?c_law_great_right ?k_law_great_right ?alaw ?llaw ?claw ?klaw ?pgDoor ?hdDoor ?poDoor ?saDoor ?mkDoor ?kcDoor ?nfDoorbottom ?nfDoorlost ?nfDoororder ?nfDoorseats ?nfDoorturn ?nc_MOST_GUESTS ?z_isinstance ?z_int ?z_bool ?z_list ?z_tuple ?z_str ?z_all ?z_any ?z_len ?z_enumerate ?z_zip ?z_range ?z_sorted ?z_set ?z_max ?z_min
    (case n_AllCame => k_is)
    (case n_BadGuest => k_is)
    (case n_BadNight => k_is)
    (case n_BadPairs => k_is)
    (case n_BadSeat => k_is)
    (case n_BadSeating => k_is)
    (case n_Door => k_is)
    (case a_law_draw => k_is)
    (case l_law_draw => k_is)
    (case c_law_draw => k_is)
    (case k_law_draw => k_is)
    (case a_law_value => k_is)
    (case l_law_value => k_is)
    (case c_law_value => k_is)
    (case k_law_value => k_is)
    (case a_law_cell_at => k_is)
    (case l_law_cell_at => k_is)
    (case c_law_cell_at => k_is)
    (case k_law_cell_at => k_is)
    (case a_law_night => k_is)
    (case l_law_night => k_is)
    (case c_law_night => k_is)
    (case k_law_night => k_is)
    (case a_law_ways => k_is)
    (case l_law_ways => k_is)
    (case c_law_ways => k_is)
    (case k_law_ways => k_is)
    (case a_law_seats => k_is)
    (case l_law_seats => k_is)
    (case c_law_seats => k_is)
    (case k_law_seats => k_is)
    (case a_law_copied => k_is)
    (case l_law_copied => k_is)
    (case c_law_copied => k_is)
    (case k_law_copied => k_is)
    (case a_law_pairs => k_is)
    (case l_law_pairs => k_is)
    (case c_law_pairs => k_is)
    (case k_law_pairs => k_is)
    (case ais_number => k_is)
    (case lis_number => k_is)
    (case cis_number => k_is)
    (case kis_number => k_is)
    (case ais_counted => k_is)
    (case lis_counted => k_is)
    (case cis_counted => k_is)
    (case kis_counted => k_is)
    (case ais_each_once => k_is)
    (case lis_each_once => k_is)
    (case cis_each_once => k_is)
    (case kis_each_once => k_is)
    (case ais_order => k_is)
    (case lis_order => k_is)
    (case cis_order => k_is)
    (case kis_order => k_is)
    (case ais_rising => k_is)
    (case lis_rising => k_is)
    (case cis_rising => k_is)
    (case kis_rising => k_is)
    (case ais_night => k_is)
    (case lis_night => k_is)
    (case cis_night => k_is)
    (case kis_night => k_is)
    (case acheck_night => k_is)
    (case lcheck_night => k_is)
    (case ccheck_night => k_is)
    (case kcheck_night => k_is)
    (case ais_pair => k_is)
    (case lis_pair => k_is)
    (case cis_pair => k_is)
    (case kis_pair => k_is)
    (case aare_pairs => k_is)
    (case lare_pairs => k_is)
    (case care_pairs => k_is)
    (case kare_pairs => k_is)
    (case auntold_to_come => k_is)
    (case luntold_to_come => k_is)
    (case cuntold_to_come => k_is)
    (case kuntold_to_come => k_is)
    (case aalike_seats => k_is)
    (case lalike_seats => k_is)
    (case calike_seats => k_is)
    (case kalike_seats => k_is)
    (case aown_is_free => k_is)
    (case lown_is_free => k_is)
    (case cown_is_free => k_is)
    (case kown_is_free => k_is)
    (case ashare_of_turn => k_is)
    (case lshare_of_turn => k_is)
    (case cshare_of_turn => k_is)
    (case kshare_of_turn => k_is)
    (case alowest => k_is)
    (case llowest => k_is)
    (case clowest => k_is)
    (case klowest => k_is)
    (case atogether => k_is)
    (case ltogether => k_is)
    (case ctogether => k_is)
    (case ktogether => k_is)
    (case a_law_part => k_is)
    (case l_law_part => k_is)
    (case c_law_part => k_is)
    (case k_law_part => k_is)
    (case a_law_whole => k_is)
    (case l_law_whole => k_is)
    (case c_law_whole => k_is)
    (case k_law_whole => k_is)
    (case a_law_right => k_is)
    (case l_law_right => k_is)
    (case c_law_right => k_is)
    (case k_law_right => k_is)
    (case aDoor___init__ => k_is)
    (case iDoor___init__ => k_is)
    (case lDoor___init__ => k_is)
    (case cDoor___init__ => k_is)
    (case kDoor___init__ => k_is)
    (case achoosable => k_is)
    (case lchoosable => k_is)
    (case cchoosable => k_is)
    (case kchoosable => k_is)
    (case aDoor_next_guest => k_is)
    (case iDoor_next_guest => k_is)
    (case lDoor_next_guest => k_is)
    (case cDoor_next_guest => k_is)
    (case kDoor_next_guest => k_is)
    (case aDoor_open_seats => k_is)
    (case iDoor_open_seats => k_is)
    (case lDoor_open_seats => k_is)
    (case cDoor_open_seats => k_is)
    (case kDoor_open_seats => k_is)
    (case aDoor_come => k_is)
    (case iDoor_come => k_is)
    (case lDoor_come => k_is)
    (case cDoor_come => k_is)
    (case kDoor_come => k_is)
    (case aDoor_taken => k_is)
    (case iDoor_taken => k_is)
    (case lDoor_taken => k_is)
    (case cDoor_taken => k_is)
    (case kDoor_taken => k_is)
    (case a_law_summed => k_is)
    (case l_law_summed => k_is)
    (case c_law_summed => k_is)
    (case k_law_summed => k_is)
    (case acheck_seating => k_is)
    (case lcheck_seating => k_is)
    (case ccheck_seating => k_is)
    (case kcheck_seating => k_is)
    (case awalk => k_is)
    (case lwalk => k_is)
    (case cwalk => k_is)
    (case kwalk => k_is)
    (case aseating => k_is)
    (case lseating => k_is)
    (case cseating => k_is)
    (case kseating => k_is)
    (case acheck_guest_and_seat => k_is)
    (case lcheck_guest_and_seat => k_is)
    (case ccheck_guest_and_seat => k_is)
    (case kcheck_guest_and_seat => k_is)
    (case ashare_at => k_is)
    (case lshare_at => k_is)
    (case cshare_at => k_is)
    (case kshare_at => k_is)
    (case ashare => k_is)
    (case lshare => k_is)
    (case cshare => k_is)
    (case kshare => k_is)
    (case a_law_great_right => k_is)
    (case l_law_great_right => k_is)
    (case c_law_great_right => k_is)
    (case k_law_great_right => k_is)
    (case alaw => k_is)
    (case llaw => k_is)
    (case claw => k_is)
    (case klaw => k_is)
    (case pgDoor => k_is)
    (case hdDoor => k_is)
    (case poDoor => k_is)
    (case saDoor => k_is)
    (case mkDoor => k_is)
    (case kcDoor => k_is)
    (case nfDoorbottom => k_is)
    (case nfDoorlost => k_is)
    (case nfDoororder => k_is)
    (case nfDoorseats => k_is)
    (case nfDoorturn => k_is)
    (case nc_MOST_GUESTS => k_is)
    (case z_isinstance => k_is)
    (case z_int => k_is)
    (case z_bool => k_is)
    (case z_list => k_is)
    (case z_tuple => k_is)
    (case z_str => k_is)
    (case z_all => k_is)
    (case z_any => k_is)
    (case z_len => k_is)
    (case z_enumerate => k_is)
    (case z_zip => k_is)
    (case z_range => k_is)
    (case z_sorted => k_is)
    (case z_set => k_is)
    (case z_max => k_is)
    (case z_min => k_is)
#print axioms PySem.Challenge.cw_lostseat_k11_whole_together_holds

