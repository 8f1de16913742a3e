import PyProof.Rows.All
import Wide.All
import OpenK.AllK
import Wide.FinOn
import Lean
import PyProof.EqAt
import PyProof.EqKinds
import PyProof.TupleCall
import PySem.Challenge.RW_fourtell_k01_packs
set_option Elab.async false
set_option linter.all false
set_option maxRecDepth 100000
/-! THE HAND LAYER, for ints, bools, texts, own classes, LISTS and tuples (index, slices, in, append, pop ..), calls, loops. Paste it whole ahead of your own text; what your proof does not reach may be deleted. -/
namespace L2
open PySem PySem.Spec PyProof.Rows

/-- a key: an int or a str -/
abbrev Key := Sum Int Str
def keyIs : Key → Value → Bool
  | .inl k, v => Value.isInt k v
  | .inr x, v => Value.isStrOf x v
def keyH (w : World) : Key → Int
  | .inl k => hashInt k
  | .inr x => hashStr w x
theorem keyIs_shape : ∀ {k : Key} {v : Value}, keyIs k v = true → (∃ i t, k = Sum.inl i ∧ v = Value.int i t) ∨ (∃ x t, k = Sum.inr x ∧ v = Value.str x t)
  | .inl i, v, h => by
    obtain ⟨t, e⟩ := Value.isInt_shape (k := i) (v := v) h
    exact .inl ⟨i, t, rfl, e⟩
  | .inr x, v, h => by
    obtain ⟨t, e⟩ := Value.isStrOf_shape (x := x) (v := v) h
    exact .inr ⟨x, t, rfl, e⟩
theorem key_ll (a b : Int) : decide ((Sum.inl a : Key) = Sum.inl b) = (a == b) := by
  by_cases e : a = b
  · subst e; simp
  · have h : ¬ (Sum.inl a : Key) = Sum.inl b := fun q => e (Sum.inl.inj q)
    rw [decide_eq_false h]
    exact (beq_eq_false_iff_ne.mpr e).symm
theorem key_rr (a b : Str) : decide ((Sum.inr a : Key) = Sum.inr b) = decide (a = b) := by
  by_cases e : a = b
  · subst e; simp
  · have h : ¬ (Sum.inr a : Key) = Sum.inr b := fun q => e (Sum.inr.inj q)
    rw [decide_eq_false h, decide_eq_false e]
theorem key_lr (a : Int) (b : Str) : decide ((Sum.inl a : Key) = Sum.inr b) = false := decide_eq_false (fun q => nomatch q)
theorem key_rl (a : Str) (b : Int) : decide ((Sum.inr a : Key) = Sum.inl b) = false := decide_eq_false (fun q => nomatch q)

def mixKind (prog : Program) (w : World) : PySem.KeyKind prog w Key where
  is := keyIs
  hash := keyH w
  inj := fun v a b ha hb => by
    rcases keyIs_shape ha with ⟨i, t, rfl, rfl⟩ | ⟨x, t, rfl, rfl⟩
    · rcases keyIs_shape hb with ⟨j, u, rfl, e⟩ | ⟨y, u, rfl, e⟩
      · injection e with e1 _; rw [e1]
      · exact nomatch e
    · rcases keyIs_shape hb with ⟨j, u, rfl, e⟩ | ⟨y, u, rfl, e⟩
      · exact nomatch e
      · injection e with e1 _; rw [e1]
  byValue := fun k v h => by
    rcases keyIs_shape h with ⟨i, t, rfl, rfl⟩ | ⟨x, t, rfl, rfl⟩ <;> rfl
  pyHash := fun hv h => by
    rcases keyIs_shape hv with ⟨i, t, rfl, rfl⟩ | ⟨x, t, rfl, rfl⟩
    · exact wpAny_pyHash_int h
    · exact wpAny_pyHash_str h
  eqBool := fun hu hv h => by
    rcases keyIs_shape hu with ⟨i, t, rfl, rfl⟩ | ⟨x, t, rfl, rfl⟩
    · rcases keyIs_shape hv with ⟨j, u, rfl, rfl⟩ | ⟨y, u, rfl, rfl⟩
      · rw [key_ll] at h; exact wpAny_eqBool_int h
      · rw [key_lr] at h; exact SeqAt.EqAt.int_str i t y u _ _ _ _ h
    · rcases keyIs_shape hv with ⟨j, u, rfl, rfl⟩ | ⟨y, u, rfl, rfl⟩
      · rw [key_rl] at h; exact SeqAt.EqAt.str_int x t j u _ _ _ _ h
      · rw [key_rr] at h; exact wpAny_eqBool_str h
  «strs» := fun k x t v h => by
    rcases keyIs_shape h with ⟨i, u, rfl, e⟩ | ⟨y, u, rfl, e⟩
    · exact nomatch e
    · injection e with e1 _
      subst e1
      cases v <;> rfl

end L2

namespace L2
open PySem PySem.Spec PyProof.Rows

/-- a value, without the heap -/
inductive V where
  | non | bl (b : Bool) | int (i : Int) | str (x : Str) | byt (b : Array UInt8) | flt (b : UInt64) | ref (a : Addr) | ty (n : String)
  deriving DecidableEq

def RelV : V → Value → Prop
  | .non, u => u = Value.none
  | .bl b, u => u = Value.bool b
  | .int i, u => ∃ t, u = Value.int i t
  | .str x, u => ∃ t, u = Value.str x t
  | .byt b, u => ∃ t, u = Value.bytes b t
  | .flt b, u => ∃ t, u = Value.float b t
  | .ref a, u => u = Value.ref a
  | .ty n, u => u = Value.type n

abbrev Vals : List V → List Value → Prop := Paired RelV
theorem Vals.length {xs : List V} {us : List Value} (r : Vals xs us) : xs.length = us.length := Paired.length r
theorem Vals.get : ∀ {xs : List V} {us : List Value} {i : Nat} {x : V}, Vals xs us → xs[i]? = some x → ∃ u, us[i]? = some u ∧ RelV x u
  | _, _, _, _, .nil, e => by simp at e
  | _, _, 0, _, .cons r _, e => by simp at e; subst e; exact ⟨_, rfl, r⟩
  | _, _, i + 1, x, .cons _ t, e => by
    obtain ⟨u, h1, h2⟩ := Vals.get (i := i) (x := x) t (by simpa using e)
    exact ⟨u, by simpa using h1, h2⟩
theorem Vals.set {x : V} {u : Value} (r : RelV x u) : ∀ {xs : List V} {us : List Value} (i : Nat), Vals xs us → Vals (xs.set i x) (us.set i u)
  | _, _, _, .nil => .nil
  | _, _, 0, .cons _ t => .cons r t
  | _, _, i + 1, .cons q t => .cons q (Vals.set r i t)
theorem Vals.append : ∀ {xs ys : List V} {us ws : List Value}, Vals xs us → Vals ys ws → Vals (xs ++ ys) (us ++ ws)
  | _, _, _, _, .nil, s => s
  | _, _, _, _, .cons r t, s => .cons r (Vals.append t s)
theorem Vals.take : ∀ {xs : List V} {us : List Value} (n : Nat), Vals xs us → Vals (xs.take n) (us.take n)
  | _, _, 0, _ => .nil
  | _, _, _ + 1, .nil => .nil
  | _, _, n + 1, .cons r t => .cons r (Vals.take n t)
theorem Vals.drop : ∀ {xs : List V} {us : List Value} (n : Nat), Vals xs us → Vals (xs.drop n) (us.drop n)
  | _, _, 0, r => r
  | _, _, _ + 1, .nil => .nil
  | _, _, n + 1, .cons _ t => Vals.drop n t
def RelO : Option V → Option Value → Prop
  | some v, some u => RelV v u
  | none, none => True
  | _, _ => False
def KV {κ : Type} : List (κ × V) → List (κ × Value) → Prop := Paired fun (p : κ × V) (q : κ × Value) => p.1 = q.1 ∧ RelV p.2 q.2

/-- a key of a dict (00_mix): an int or a text -/
def kV : Key → V
  | .inl i => .int i
  | .inr x => .str x

/-- what stands at a tracked address -/
inductive HO where
  /-- a list -/
  | lst (xs : List V)
  /-- a tuple (never changes) -/
  | tup (xs : List V)
  /-- a dict whose keys are ints and texts; one whose keys are tuples of ints and texts (the empty one is both) -/
  | dK (kvs : List (Key × V)) | dT (kvs : List (List Key × V))
  /-- a set of ints: its members, its size -/
  | set (S : Int → Bool) (n : Nat)
  /-- an instance of the class at C, its dict at dx, its attributes -/
  | ins (C dx : Addr) (fs : List (Str × V))
  /-- the dict of the instance at x -/
  | own (x : Addr)
  /-- the dict of an exception -/
  | xd (fs : List (Str × V))
  /-- a bound method, f of x -/
  | met (f x : Addr)
  /-- a range object lo, lo + 1, .. below hi -/
  | rng (lo hi : Int)
  /-- a thing that is known to the object (the script; a dict while a loop walks it): read, never written while it is so -/
  | frz (o : Obj) (u : HO)
  /-- a code object's table -/
  | tbl (ps : Array Value)
  /-- any other thing, by what is true of its one object (a def of one's own: SetO a S n := HO.ext fun h => ..) -/
  | ext (φ : Heap → Prop)

abbrev Hp := Addr → Option HO
def upd (H : Hp) (a : Addr) (o : HO) : Hp := fun b => if b = a then some o else H b
theorem upd_same {H : Hp} {a : Addr} {o : HO} : upd H a o a = some o := by unfold upd; rw [if_pos rfl]
theorem upd_ne {H : Hp} {a b : Addr} {o : HO} (h : b ≠ a) : upd H a o b = H b := by unfold upd; rw [if_neg h]
theorem upd_upd {H : Hp} {a : Addr} {o u : HO} : upd (upd H a o) a u = upd H a u := by
  funext b; unfold upd; split <;> rfl
theorem ne_of_none {H : Hp} {a b : Addr} {o : HO} (h : H a = some o) (h' : H b = none) : a ≠ b := by
  intro e; subst e; rw [h] at h'; cases h'

section
variable (P : Program) (w : World)
def ObjOk (H : Hp) (h : Heap) (a : Addr) : HO → Prop
  | .lst xs => xs.length ≤ sizeLine ∧ ∃ (its : List Value) (n : Nat), Vals xs its ∧ h.get? a = some { cls := .type "list", data := .seq its.toArray n }
  | .tup xs => xs.length ≤ sizeLine ∧ ∃ its : List Value, Vals xs its ∧ IsTup h a its.toArray
  | .dK kvs => kvs.length ≤ sizeLine ∧ (a == sysModules) = false ∧ ∃ vs, KV kvs vs ∧ h.DictOf (mixKind P w) a vs
  | .dT kvs => kvs.length ≤ sizeLine ∧ (a == sysModules) = false ∧ ∃ xs : List (List Key × Addr × Value),
      Paired (fun (p : List Key × V) (q : List Key × Addr × Value) => p.1 = q.1 ∧ H q.2.1 = some (.tup (p.1.map kV)) ∧ RelV p.2 q.2.2) kvs xs ∧
      ∃ o es ep, h.get? a = some o ∧ o.ExactDict ∧ o.data = .dict es ep ∧ es.toList = xs.map (entryOfKey (tupleKind (mixKind P w))) ∧ (xs.map (·.1)).Nodup
  | .set S n => h.SetOf (intKind P w) a S n
  | .ins C dx fs => H dx = some (.own a) ∧ fs.length ≤ 1000 ∧ dx ≠ a ∧ h.get? a = some (PySem.W.instObj C dx) ∧
      ∃ mA, h.Ns1 dx mA ∧ (∀ f, RelO (fs.lookup f) (mA f)) ∧ PySem.Within mA (fs.map (·.1))
  | .own _ => ∃ o, h.get? a = some o
  | .xd fs => ∃ mA, h.Ns1 a mA ∧ ∀ f, RelO (fs.lookup f) (mA f)
  | .rng lo hi => ∃ t u v, h.get? a = some { cls := .type "range", data := .fields #[.int lo t, .int hi u, .int 1 v] }
  | .frz o u => h.get? a = some o ∧ ObjOk H h a u
  | .tbl ps => h.get? a = some { cls := .none, data := .fields ps }
  | .met f x => h.get? a = some (PySem.W.methodObj (.ref f) (.ref x))
  | .ext φ => φ h ∧ (∃ o, h.get? a = some o) ∧ ∀ h1 h2 : Heap, φ h1 → (∀ o, h1.get? a = some o → h2.get? a = some o) → φ h2
/-- the abstract heap is held -/
def HOk (H : Hp) (h : Heap) : Prop := ∀ a o, H a = some o → ObjOk P w H h a o
end

section
variable {P : Program} {w : World} {H H' : Hp} {h h' : Heap} {a : Addr} {o : HO}
theorem ObjOk.lt (x : ObjOk P w H h a o) : a < h.objs.size := by
  cases o with
  | lst xs => obtain ⟨_, _, _, _, e⟩ := x; exact Heap.lt_size e
  | tup xs => obtain ⟨_, _, _, p⟩ := x; exact p.lt
  | dK kvs => obtain ⟨_, _, _, _, o, _, _, e, _⟩ := x; exact Heap.lt_size e
  | dT kvs => obtain ⟨_, _, _, _, o, _, _, e, _⟩ := x; exact Heap.lt_size e
  | set S n => obtain ⟨o, _, _, _, e, _⟩ := x; exact Heap.lt_size e
  | ins C dx fs => obtain ⟨_, _, _, e, _⟩ := x; exact Heap.lt_size e
  | own y => obtain ⟨_, e⟩ := x; exact Heap.lt_size e
  | xd fs => obtain ⟨_, ⟨_, _, _, e, _⟩, _⟩ := x; exact Heap.lt_size e
  | rng lo hi => obtain ⟨_, _, _, e⟩ := x; exact Heap.lt_size e
  | frz ob u => obtain ⟨e, _⟩ := x; exact Heap.lt_size e
  | tbl ps => exact Heap.lt_size (show h.get? a = some _ from x)
  | met f y => exact Heap.lt_size (show h.get? a = some _ from x)
  | ext φ => obtain ⟨_, ⟨_, e⟩, _⟩ := x; exact Heap.lt_size e
theorem Paired.mapP {α β : Type} {F G : α → β → Prop} : ∀ {l₁ : List α} {l₂ : List β}, Paired F l₁ l₂ → (∀ a b, F a b → G a b) → Paired G l₁ l₂
  | _, _, .nil, _ => .nil
  | _, _, .cons r t, f => .cons (f _ _ r) (Paired.mapP t f)
/-- what an object's description leans on: its own object, its own dict, the tuples -/
theorem ObjOk.stay (x : ObjOk P w H h a o) (k : ∀ b u, (b = a ∨ H b = some (.own a)) → h.get? b = some u → h'.get? b = some u)
    (ho : ∀ b, H b = some (.own a) → H' b = some (.own a)) (ht : ∀ b xs, H b = some (.tup xs) → H' b = some (.tup xs)) : ObjOk P w H' h' a o := by
  induction o with
  | lst xs => obtain ⟨z, its, n, r, e⟩ := x; exact ⟨z, its, n, r, k _ _ (.inl rfl) e⟩
  | tup xs => obtain ⟨z, its, r, ob, e, c⟩ := x; exact ⟨z, its, r, ob, k _ _ (.inl rfl) e, c⟩
  | dK kvs => obtain ⟨z, y, vs, r, ob, es, ep, e, c⟩ := x; exact ⟨z, y, vs, r, ob, es, ep, k _ _ (.inl rfl) e, c⟩
  | dT kvs =>
    obtain ⟨z, y, xs, r, ob, es, ep, e, c⟩ := x
    exact ⟨z, y, xs, Paired.mapP r fun p q z => ⟨z.1, ht _ _ z.2.1, z.2.2⟩, ob, es, ep, k _ _ (.inl rfl) e, c⟩
  | set S n => obtain ⟨ob, es, ep, t, e, c⟩ := x; exact ⟨ob, es, ep, t, k _ _ (.inl rfl) e, c⟩
  | ins C dx fs =>
    obtain ⟨d, z, ne, e, mA, ⟨od, es, ep, e2, c⟩, r⟩ := x
    exact ⟨ho _ d, z, ne, k _ _ (.inl rfl) e, mA, ⟨od, es, ep, k _ _ (.inr d) e2, c⟩, r⟩
  | own y => obtain ⟨ob, e⟩ := x; exact ⟨ob, k _ _ (.inl rfl) e⟩
  | xd fs => obtain ⟨mA, ⟨od, es, ep, e, c⟩, r⟩ := x; exact ⟨mA, ⟨od, es, ep, k _ _ (.inl rfl) e, c⟩, r⟩
  | rng lo hi => obtain ⟨t, u, v, e⟩ := x; exact ⟨t, u, v, k _ _ (.inl rfl) e⟩
  | frz ob u ih => obtain ⟨e, q⟩ := x; exact ⟨k _ _ (.inl rfl) e, ih q⟩
  | tbl ps =>
    have e : h.get? a = some { cls := .none, data := .fields ps } := x
    show h'.get? a = some { cls := .none, data := .fields ps }
    exact k a _ (.inl rfl) e
  | met f y =>
    have e : h.get? a = some (PySem.W.methodObj (.ref f) (.ref y)) := x
    show h'.get? a = some (PySem.W.methodObj (.ref f) (.ref y))
    exact k a _ (.inl rfl) e
  | ext φ => obtain ⟨p, ⟨o, e⟩, st⟩ := x; exact ⟨st _ _ p fun o q => k _ _ (.inl rfl) q, ⟨o, k _ _ (.inl rfl) e⟩, st⟩
theorem HOk.lt (x : HOk P w H h) (e : H a = some o) : a < h.objs.size := (x a o e).lt
theorem HOk.fresh (x : HOk P w H h) (e : h.objs.size ≤ a) : H a = none := by
  cases q : H a with
  | none => rfl
  | some u => exact absurd (Nat.lt_of_lt_of_le (x.lt q) e) (Nat.lt_irrefl _)
/-- every object of the heap is kept -/
theorem HOk.kept (x : HOk P w H h) (k : ∀ b u, h.get? b = some u → h'.get? b = some u) : HOk P w H h' := fun a o e =>
  (x a o e).stay (fun b u _ q => k b u q) (fun _ q => q) fun _ _ q => q
/-- a new object is laid and tracked -/
theorem HOk.laid (x : HOk P w H h) (k : ∀ b u, h.get? b = some u → h'.get? b = some u) (hp : h.objs.size ≤ a) (new : ObjOk P w (upd H a o) h' a o) : HOk P w (upd H a o) h' := fun b u e => by
  have hn := x.fresh hp
  by_cases hb : b = a
  · subst hb; rw [upd_same] at e; cases e; exact new
  · rw [upd_ne hb] at e
    exact (x b u e).stay (fun c v _ q => k c v q) (fun c q => by rw [upd_ne (ne_of_none q hn)]; exact q) fun c xs q => by rw [upd_ne (ne_of_none q hn)]; exact q
end

/-- what may be read as u: it is u, or a known u -/
def Rd (H : Hp) (a : Addr) (u : HO) : Prop := H a = some u ∨ ∃ o, H a = some (.frz o u)
theorem Rd.of {H : Hp} {a : Addr} {u : HO} (h : H a = some u) : Rd H a u := .inl h
theorem Rd.ok {P : Program} {w : World} {H : Hp} {h : Heap} {a : Addr} {u : HO} (r : Rd H a u) (x : HOk P w H h) : ObjOk P w H h a u := by
  rcases r with r | ⟨o, r⟩
  · exact x a u r
  · obtain ⟨_, q⟩ := x a _ r
    exact q
/-- what may be written -/
def Mut : Option HO → Prop
  | some (.lst _) => True
  | some (.dK _) => True
  | some (.dT _) => True
  | some (.set _ _) => True
  | some (.ins _ _ _) => True
  | some (.ext _) => True
  | _ => False
section
variable {P : Program} {w : World} {H : Hp} {h h' : Heap} {x e : Addr} {o' : HO}
/-- the object at e is changed: x itself, or the dict of the instance x -/
theorem HOk.write (ok : HOk P w H h) (mu : Mut (H x)) (he : e = x ∨ H e = some (.own x)) (k : ∀ b u, b ≠ e → h.get? b = some u → h'.get? b = some u) (heo : ∃ u, h'.get? e = some u)
    (new : ObjOk P w (upd H x o') h' x o') : HOk P w (upd H x o') h' := fun b u q => by
  have nown : ∀ c y, H c = some (.own y) → c ≠ x := fun c y r z => by subst z; rw [r] at mu; exact mu
  have ntup : ∀ c xs, H c = some (.tup xs) → c ≠ x := fun c xs r z => by subst z; rw [r] at mu; exact mu
  by_cases hb : b = x
  · subst hb; rw [upd_same] at q; cases q; exact new
  · rw [upd_ne hb] at q
    by_cases hbe : b = e
    · have q' : H b = some (.own x) := by
        rcases he with z | z
        · exact absurd (hbe.trans z) hb
        · rw [hbe]; exact z
      rw [q] at q'; cases q'
      obtain ⟨v, hv⟩ := heo
      exact ⟨v, by rw [hbe]; exact hv⟩
    · refine (ok b u q).stay (fun c v hc r => k c v ?_ r) (fun c r => by rw [upd_ne (nown c b r)]; exact r) fun c xs r => by rw [upd_ne (ntup c xs r)]; exact r
      rcases hc with rfl | hc
      · exact hbe
      · rintro rfl
        rcases he with z | z
        · exact nown c b hc z
        · rw [hc] at z; cases z; exact hb rfl
end

/-! ### kept unless tracked; of the frames at fs (the callers') the slots may change (an exception that passes writes there); of the records at ex (iterators) nothing is said -/
structure Un (fs ex : List Addr) (H H' : Hp) (h h' : Heap) : Prop where
  keep : ∀ b o, h.get? b = some o → H b = none → b ∉ fs → b ∉ ex → h'.get? b = some o
  slot : ∀ b o, h.get? b = some o → H b = none → b ∈ fs → b ∉ ex → ∃ sl, h'.get? b = some { o with slots := sl }
  free : ∀ b o, h.get? b = some o → H b = none → b ∉ ex → H' b = none
  there : ∀ b o, h.get? b = some o → b ∉ ex → ∃ o', h'.get? b = some o'
  tups : ∀ b xs, H b = some (.tup xs) → H' b = some (.tup xs)
  frzs : ∀ b o u, H b = some (.frz o u) → H' b = some (.frz o u)
  tbls : ∀ b ps, H b = some (.tbl ps) → ∃ more, H' b = some (.tbl (ps ++ more))
section
variable {fs fs' ex ex' : List Addr} {H H1 H2 : Hp} {h h1 h2 h' : Heap} {a x e : Addr} {o : HO}
theorem Un.any (u : Un fs ex H H1 h h1) {b : Addr} {ob : Obj} (q : h.get? b = some ob) (n : H b = none) (hx : b ∉ ex) : ∃ sl, h1.get? b = some { ob with slots := sl } := by
  by_cases hb : b ∈ fs
  · exact u.slot b ob q n hb hx
  · exact ⟨ob.slots, u.keep b ob q n hb hx⟩
theorem Un.trans (a : Un fs ex H H1 h h1) (b : Un fs ex H1 H2 h1 h2) : Un fs ex H H2 h h2 where
  keep := fun c ob q n hc hx => b.keep c ob (a.keep c ob q n hc hx) (a.free c ob q n hx) hc hx
  slot := fun c ob q n hc hx => by
    obtain ⟨sl, e1⟩ := a.slot c ob q n hc hx
    obtain ⟨sl', e2⟩ := b.slot c _ e1 (a.free c ob q n hx) hc hx
    exact ⟨sl', e2⟩
  free := fun c ob q n hx => by
    obtain ⟨o', e1⟩ := a.there c ob q hx
    exact b.free c o' e1 (a.free c ob q n hx) hx
  there := fun c ob q hx => by
    obtain ⟨o', e1⟩ := a.there c ob q hx
    exact b.there c o' e1 hx
  tups := fun c xs q => b.tups c xs (a.tups c xs q)
  frzs := fun c ob xs q => b.frzs c ob xs (a.frzs c ob xs q)
  tbls := fun c ps q => by
    obtain ⟨m1, e1⟩ := a.tbls c ps q
    obtain ⟨m2, e2⟩ := b.tbls c _ e1
    exact ⟨m1 ++ m2, by rw [e2, Array.append_assoc]⟩
theorem Un.kept (k : ∀ b u, h.get? b = some u → h'.get? b = some u) : Un fs ex H H h h' :=
  ⟨fun b ob q _ _ _ => k b ob q, fun b ob q _ _ _ => ⟨ob.slots, k b ob q⟩, fun _ _ _ n _ => n, fun b ob q _ => ⟨ob, k b ob q⟩, fun _ _ q => q, fun _ _ _ q => q, fun _ ps q => ⟨#[], by rw [q]; simp⟩⟩
theorem Un.refl : Un fs ex H H h h := Un.kept fun _ _ q => q
theorem Un.laid (k : ∀ b u, h.get? b = some u → h'.get? b = some u) (hp : h.objs.size ≤ a) (hn : H a = none) : Un fs ex H (upd H a o) h h' where
  keep := fun b u q _ _ _ => k b u q
  slot := fun b u q _ _ _ => ⟨u.slots, k b u q⟩
  free := fun b u q n _ => by rw [upd_ne (Nat.ne_of_lt (Nat.lt_of_lt_of_le (Heap.lt_size q) hp))]; exact n
  there := fun b u q _ => ⟨u, k b u q⟩
  tups := fun b xs q => by rw [upd_ne (ne_of_none q hn)]; exact q
  frzs := fun b u xs q => by rw [upd_ne (ne_of_none q hn)]; exact q
  tbls := fun b ps q => ⟨#[], by rw [upd_ne (ne_of_none q hn), q]; simp⟩
theorem Un.write (mu : Mut (H x)) (he : e = x ∨ H e = some (.own x)) (k : ∀ b u, b ≠ e → h.get? b = some u → h'.get? b = some u) (heo : ∃ u, h'.get? e = some u) : Un fs ex H (upd H x o) h h' := by
  have hx : ∀ b, H b = none → b ≠ x := fun b n z => by subst z; rw [n] at mu; exact mu
  have hb : ∀ b, H b = none → b ≠ e := fun b n z => by
    subst z
    rcases he with r | r
    · exact hx b n r
    · rw [n] at r; cases r
  have hm : ∀ b u, H b = some u → ¬ Mut (some u) → b ≠ x := fun b u q nm z => by subst z; rw [q] at mu; exact nm mu
  refine ⟨fun b u q n _ _ => k b u (hb b n) q, fun b u q n _ _ => ⟨u.slots, k b u (hb b n) q⟩, fun b u q n _ => by rw [upd_ne (hx b n)]; exact n, fun b u q _ => ?_,
    fun b xs q => by rw [upd_ne (hm b _ q fun z => z)]; exact q, fun b u xs q => by rw [upd_ne (hm b _ q fun z => z)]; exact q, fun b ps q => ⟨#[], by rw [upd_ne (hm b _ q fun z => z), q]; simp⟩⟩
  by_cases hbe : b = e
  · subst hbe; exact heo
  · exact ⟨u, k b u hbe q⟩
theorem Un.mono (u : Un fs ex H H1 h h1) (hs : ∀ b ∈ fs, b ∈ fs') (hx : ∀ b ∈ ex, b ∈ ex') : Un fs' ex' H H1 h h1 :=
  ⟨fun b ob q n hb he => u.keep b ob q n (fun z => hb (hs b z)) fun z => he (hx b z), fun _ _ q n _ he => u.any q n fun z => he (hx _ z), fun b ob q n he => u.free b ob q n fun z => he (hx b z), fun b ob q he => u.there b ob q fun z => he (hx b z), u.tups, u.frzs, u.tbls⟩
end

/-! ### the heap without what is tracked -/
def trk (h : Heap) (H : Hp) : List Addr := (List.range h.objs.size).filter fun a => (H a).isSome
def hidT (h : Heap) (H : Hp) : Heap := PySem.W.hideAll h (trk h H)
theorem hidT_size (h : Heap) (H : Hp) : (hidT h H).objs.size = h.objs.size := PySem.W.hideAll_size _ _
theorem hidT_get {h : Heap} {H : Hp} {b : Addr} {o : Obj} (e : h.get? b = some o) (n : H b = none) : (hidT h H).get? b = some o :=
  PySem.W.hideAll_get _ e fun hm => by
    have q : (H b).isSome = true := (List.mem_filter.mp hm).2
    rw [n] at q; simp at q
theorem of_hidT {h : Heap} {H : Hp} {b : Addr} {o : Obj} (e : (hidT h H).get? b = some o) : h.get? b = some o ∧ H b = none := by
  have e' : h.get? b = some o := PySem.W.of_hideAll (trk h H) e
  refine ⟨e', ?_⟩
  cases q : H b with
  | none => rfl
  | some x =>
    have hm : b ∈ trk h H := List.mem_filter.mpr ⟨List.mem_range.mpr (Heap.lt_size e'), by simp [q]⟩
    have z : (hidT h H).get? b = none := PySem.W.hideAll_none (trk h H) hm
    rw [z] at e; cases e

/-! ### OpenK's ledger, filled with every new object but one -/
def allNews (g h : Heap) (L : Addr) : List (Addr × Obj) := (List.range h.objs.size).filterMap fun a => if a = L ∨ (g.get? a).isSome = true then none else (h.get? a).map fun o => (a, o)
def rest (g h : Heap) (L d : Addr) : List (Addr × Obj) := (allNews g h L).filter fun p => decide (p.1 ≠ d)
end L2

namespace L2
open PySem PySem.Spec PyProof.Rows

/-- the module's facts, over the base: the heap at the law's entry without what is tracked there -/
structure Mod (K : PySem.W.Frag) (mg : Str → Option Value) (base : Heap) : Prop where
  kin : K.In base
  glob : base.Ns mainGlobals mg
  blt : ∃ mb, base.Ns builtinsNs mb ∧ ∀ x : Str, x ≠ "__name__" → mb x = bootBuiltins x
  nolimit : base.NoLimit

/-- the context: a def's body (or a comprehension's block) running. base: fixed through the whole law; s₀, H₀: the entry; outer: the frames whose slots others may change (a def's callers); stack: all frames that run;
   ex: iterators that were made ahead of the entry and are walked here (a comprehension's); fn: the names whose cells were made at the entry (a def: all; a comprehension's block: its own); calm: not within an except suite; pn: pins that every state bears; xe: what is wanted of an exception that leaves the code -/
structure Cx where
  prog : Program
  w : World
  K : PySem.W.Frag
  mg : Str → Option Value
  base : Heap
  A : Around
  N : List Str
  s₀ : Shared
  H₀ : Hp
  env : Env
  outer : List Env
  stack : List Env
  ex : List Addr
  fn : Str → Bool
  calm : Bool
  pn : List (Addr × Obj)
  xe : Value → Shared → Prop
/-- the callers' frames -/
def frs (l : List Env) : List Addr := l.filterMap (·.frame)
abbrev Cx.fs (X : Cx) : List Addr := frs X.outer

def Vis (sc : Scope) (x : Str) : Prop := sc.names.lookup x = some .local ∨ sc.names.lookup x = some .cell ∨ sc.names.lookup x = some .free
def Loc (sc : Scope) (x : Str) : Prop := sc.names.lookup x = some .local ∨ sc.names.lookup x = some .cell
def Look (env : Env) (h : Heap) (m : Str → Option Value) (x : Str) (u : Value) : Prop :=
  (env.kindOf x = some .local ∧ m x = some u) ∨ ((env.kindOf x = some .cell ∨ env.kindOf x = some .free) ∧ ∃ c, env.cells.lookup x = some c ∧ h.IsCell c (some u))

structure Cx.Ok (X : Cx) : Prop where
  mod : Mod X.K X.mg X.base
  kind : X.env.scope.kind = .function
  glob : X.env.globals = mainGlobals
  blt : X.env.builtins = builtinsNs
  above : X.s₀.heap.objs.size ≤ X.env.locals
  inj : ∀ x y c, X.env.cells.lookup x = some c → X.env.cells.lookup y = some c → x = y
  has : ∀ x, (X.env.kindOf x = some .cell ∨ X.env.kindOf x = some .free) → ∃ c, X.env.cells.lookup x = some c
  cab : ∀ x c, X.fn x = true → X.env.cells.lookup x = some c → X.s₀.heap.objs.size ≤ c
  hd : X.calm = true → X.A.handled = none
  frames : X.A.frames = some X.stack
  stk : X.stack = X.outer ∨ (X.stack = X.env :: X.outer ∧ X.env.frame = some X.env.locals)
  exf : ∀ b ∈ X.ex, b ≠ X.env.locals ∧ ∀ x c, X.env.cells.lookup x = some c → c ≠ b
  bs : ∀ b o, X.base.get? b = some o → X.s₀.heap.get? b = some o ∧ X.H₀ b = none
  bsz : X.base.objs.size ≤ X.s₀.heap.objs.size
  noex : ∀ b o, X.base.get? b = some o → b ∉ X.ex
  exfs : ∀ b ∈ X.ex, b ∉ X.fs
  funs : X.s₀.heap.FunFrames X.base X.outer
  frf : ∀ b ∈ X.fs, X.H₀ b = none

structure Inv (X : Cx) (pins : List (Addr × Obj)) (σ : List (Option V)) (H : Hp) (s : Shared) : Prop where
  ok : X.Ok
  os : s.os = X.s₀.os
  bare : AllBare s.gens
  base : Un X.fs X.ex X.H₀ H X.s₀.heap s.heap
  loc : ∃ m, s.heap.Ns X.env.locals m ∧ ∀ (i : Nat) (x : Str) (v : V), X.N[i]? = some x → σ[i]? = some (some v) → Vis X.env.scope x → ∃ u, RelV v u ∧ Look X.env s.heap m x u
  cell : ∀ x c, X.env.cells.lookup x = some c → ∃ v, s.heap.IsCell c v
  free : H X.env.locals = none
  freeC : ∀ x c, X.env.cells.lookup x = some c → H c = none
  pin : ∀ p ∈ X.pn ++ pins, s.heap.get? p.1 = some p.2 ∧ H p.1 = none ∧ p.1 ≠ X.env.locals ∧ p.1 ∉ X.fs ∧ ∀ v, p.2.data ≠ .cell v
  hok : HOk X.prog X.w H s.heap
  len : σ.length = X.N.length

section
variable {X : Cx} {pins : List (Addr × Obj)} {σ : List (Option V)} {H H' : Hp} {s : Shared} {h' : Heap}

theorem Cx.Ok.nofr (ok : X.Ok) {b : Addr} {o : Obj} (e : X.base.get? b = some o) : b ∉ X.fs := fun hb => by
  have := (ok.funs.mem hb).1
  rw [e] at this; cases this
theorem Inv.bs (I : Inv X pins σ H s) : ∀ b o, X.base.get? b = some o → s.heap.get? b = some o ∧ H b = none := fun b o e =>
  ⟨I.base.keep b o (I.ok.bs b o e).1 (I.ok.bs b o e).2 (I.ok.nofr e) (I.ok.noex b o e), I.base.free b o (I.ok.bs b o e).1 (I.ok.bs b o e).2 (I.ok.noex b o e)⟩
theorem Inv.bk (I : Inv X pins σ H s) : ∀ b o, X.base.get? b = some o → s.heap.get? b = some o := fun b o e => (I.bs b o e).1
theorem Inv.mod (I : Inv X pins σ H s) : Mod X.K X.mg X.base := I.ok.mod
theorem Inv.kIn (I : Inv X pins σ H s) : X.K.In s.heap := I.ok.mod.kin.keeps I.bk
theorem Inv.nolimit (I : Inv X pins σ H s) : s.heap.NoLimit := I.ok.mod.nolimit.keeps I.bk
/-- the frame over the base: for OpenK's rules (K.In X.base is I.mod.kin) -/
theorem Inv.fr (I : Inv X pins σ H s) : ∃ m, Fr X.base X.env.locals s.heap m :=
  let ⟨m, hn, _⟩ := I.loc
  ⟨m, hn, I.bk, Nat.le_trans I.ok.bsz I.ok.above⟩
theorem Inv.lt (I : Inv X pins σ H s) : X.env.locals < s.heap.objs.size := let ⟨_, hn, _⟩ := I.loc; hn.lt
theorem Inv.sz (I : Inv X pins σ H s) : X.s₀.heap.objs.size ≤ s.heap.objs.size := Nat.le_trans I.ok.above (Nat.le_of_lt I.lt)
theorem Inv.nofs (I : Inv X pins σ H s) {a : Addr} (h : s.heap.objs.size ≤ a) : a ∉ X.fs := fun hb => by
  obtain ⟨_, o, ho, _⟩ := I.ok.funs.mem hb
  exact absurd (Nat.lt_of_lt_of_le (Heap.lt_size ho) (Nat.le_trans I.sz h)) (Nat.lt_irrefl _)
theorem Inv.cne (I : Inv X pins σ H s) : ∀ x c, X.env.cells.lookup x = some c → c ≠ X.env.locals := fun x c e z => by
  obtain ⟨v, o, ho, hd⟩ := I.cell x c e
  obtain ⟨m, ⟨o', es, ep, ho', hd', _⟩, _⟩ := I.loc
  rw [z, ho'] at ho; cases ho; rw [hd'] at hd; cases hd
theorem Inv.funs (I : Inv X pins σ H s) : s.heap.FunFrames X.base X.outer := by
  have all : ∀ (l : List Env), (∀ b ∈ frs l, b ∈ X.fs) → X.s₀.heap.FunFrames X.base l → s.heap.FunFrames X.base l := by
    intro l
    induction l with
    | nil => intro _ _; trivial
    | cons env r ih =>
      intro hs hl
      obtain ⟨hk, ⟨L, o, hf, hn, ho, hd⟩, hr⟩ := hl
      have hL : L ∈ X.fs := hs L (by unfold frs; rw [List.filterMap_cons, hf]; exact List.mem_cons_self)
      obtain ⟨sl, e⟩ := I.base.slot L o ho (I.ok.frf L hL) hL fun z => I.ok.exfs L z hL
      exact ⟨hk, ⟨L, _, hf, hn, e, hd⟩, ih (fun b hb => hs b (by unfold frs; rw [List.filterMap_cons, hf]; exact List.mem_cons_of_mem _ hb)) hr⟩
  exact all X.outer (fun _ hb => hb) I.ok.funs

/-- the frames that run, for a call -/
theorem Inv.stack (I : Inv X pins σ H s) : s.heap.FunFrames X.base X.stack := by
  rcases I.ok.stk with e | ⟨e, hf⟩
  · rw [e]; exact I.funs
  · rw [e]
    obtain ⟨m, hn, _⟩ := I.loc
    refine .cons (by rw [I.ok.kind]; decide) hf hn ?_ I.funs
    exact Heap.get?_none_of_le (Nat.le_trans I.ok.bsz I.ok.above)
theorem Inv.stkSub (I : Inv X pins σ H s) : ∀ b ∈ frs X.stack, b ∈ X.env.locals :: X.fs := fun b hb => by
  rcases I.ok.stk with e | ⟨e, hf⟩
  · rw [e] at hb; exact List.mem_cons_of_mem _ hb
  · rw [e] at hb
    unfold frs at hb
    rw [List.filterMap_cons, hf] at hb
    exact hb
theorem Inv.stkFree (I : Inv X pins σ H s) : ∀ b ∈ frs X.stack, H b = none := fun b hb => by
  rcases List.mem_cons.mp (I.stkSub b hb) with e | hb
  · rw [e]; exact I.free
  · obtain ⟨_, o, ho, _⟩ := I.ok.funs.mem hb
    exact I.base.free b o ho (I.ok.frf b hb) fun z => I.ok.exfs b z hb

/-- THE STEP: the untracked objects but the frame and the records at ch are kept (the callers' frames up to slots), the frame's map is kept, the new abstract heap is held -/
theorem Inv.step {g' : Array GenState} {t' : Nat} {d' : Drawn} {ch : List Addr} (I : Inv X pins σ H s)
    (hch : ∀ b ∈ ch, (b ∈ X.ex ∨ X.s₀.heap.objs.size ≤ b) ∧ b ≠ X.env.locals ∧ (∀ x c, X.env.cells.lookup x = some c → c ≠ b) ∧ ∀ p ∈ X.pn ++ pins, p.1 ≠ b)
    (keep : ∀ b o, b ≠ X.env.locals → b ∉ X.fs → b ∉ ch → s.heap.get? b = some o → H b = none → h'.get? b = some o)
    (slot : ∀ b o, b ≠ X.env.locals → b ∈ X.fs → b ∉ ch → s.heap.get? b = some o → H b = none → ∃ sl, h'.get? b = some { o with slots := sl }) (free : ∀ b o, b ∉ ch → s.heap.get? b = some o → H b = none → H' b = none)
    (there : ∀ b o, b ∉ ch → s.heap.get? b = some o → ∃ o', h'.get? b = some o')
    (tups : ∀ b xs, H b = some (.tup xs) → H' b = some (.tup xs)) (frzs : ∀ b o u, H b = some (.frz o u) → H' b = some (.frz o u)) (tbls : ∀ b ps, H b = some (.tbl ps) → ∃ more, H' b = some (.tbl (ps ++ more)))
    (ns : ∀ m, s.heap.Ns X.env.locals m → h'.Ns X.env.locals m) (hok : HOk X.prog X.w H' h') (hg : AllBare g') :
    Inv X pins σ H' { s with heap := h', gens := g', drawn := d', toks := t' } := by
  have neL : ∀ b o, X.s₀.heap.get? b = some o → b ≠ X.env.locals := fun b o e => Nat.ne_of_lt (Nat.lt_of_lt_of_le (Heap.lt_size e) I.ok.above)
  have neC : ∀ b o, X.s₀.heap.get? b = some o → b ∉ X.ex → b ∉ ch := fun b o e hx hb => by
    rcases (hch b hb).1 with z | z
    · exact hx z
    · exact absurd (Nat.lt_of_lt_of_le (Heap.lt_size e) z) (Nat.lt_irrefl _)
  have cellK : ∀ x c, X.env.cells.lookup x = some c → ∀ v, s.heap.IsCell c v → h'.IsCell c v := fun x c e v ⟨o, ho, hd⟩ => by
    have nch : c ∉ ch := fun z => (hch c z).2.2.1 x c e rfl
    by_cases hc : c ∈ X.fs
    · obtain ⟨sl, q⟩ := slot c o (I.cne x c e) hc nch ho (I.freeC x c e)
      exact ⟨_, q, hd⟩
    · exact ⟨o, keep c o (I.cne x c e) hc nch ho (I.freeC x c e), hd⟩
  refine ⟨I.ok, I.os, hg, ⟨fun b o e n hb hx => ?_, fun b o e n hb hx => ?_, fun b o e n hx => ?_, fun b o e hx => ?_, fun b xs e => tups b xs (I.base.tups b xs e), fun b o xs e => frzs b o xs (I.base.frzs b o xs e), fun b ps e => ?_⟩, ?_, fun x c e => ?_, ?_, fun x c e => ?_, fun p hp => ?_, hok, I.len⟩
  · exact keep b o (neL b o e) hb (neC b o e hx) (I.base.keep b o e n hb hx) (I.base.free b o e n hx)
  · obtain ⟨sl, e1⟩ := I.base.slot b o e n hb hx
    obtain ⟨sl', e2⟩ := slot b _ (neL b o e) hb (neC b o e hx) e1 (I.base.free b o e n hx)
    exact ⟨sl', e2⟩
  · obtain ⟨o', e1⟩ := I.base.there b o e hx
    exact free b o' (neC b o e hx) e1 (I.base.free b o e n hx)
  · obtain ⟨o', e1⟩ := I.base.there b o e hx
    exact there b o' (neC b o e hx) e1
  · obtain ⟨m1, e1⟩ := I.base.tbls b ps e
    obtain ⟨m2, e2⟩ := tbls b _ e1
    exact ⟨m1 ++ m2, by rw [e2, Array.append_assoc]⟩
  · obtain ⟨m, hn, hl⟩ := I.loc
    refine ⟨m, ns m hn, fun i x v e1 e2 e3 => ?_⟩
    obtain ⟨u, r, l⟩ := hl i x v e1 e2 e3
    refine ⟨u, r, ?_⟩
    rcases l with l | ⟨k, c, e, z⟩
    · exact .inl l
    · exact .inr ⟨k, c, e, cellK x c e _ z⟩
  · obtain ⟨v, z⟩ := I.cell x c e
    exact ⟨v, cellK x c e v z⟩
  · obtain ⟨m, ⟨o, _, _, ho, _⟩, _⟩ := I.loc
    exact free _ o (fun z => (hch _ z).2.1 rfl) ho I.free
  · obtain ⟨v, o, ho, hd⟩ := I.cell x c e
    exact free c o (fun z => (hch c z).2.2.1 x c e rfl) ho (I.freeC x c e)
  · obtain ⟨e, n, ne, nf, d⟩ := I.pin p hp
    have nch : p.1 ∉ ch := fun z => (hch p.1 z).2.2.2 p hp rfl
    exact ⟨keep p.1 p.2 ne nf nch e n, free p.1 p.2 nch e n, ne, nf, d⟩
/-- .. where the frame's own object is kept too -/
theorem Inv.un {t' : Nat} (I : Inv X pins σ H s) (u : Un X.fs [] H H' s.heap h') (hok : HOk X.prog X.w H' h') : Inv X pins σ H' { s with heap := h', toks := t' } := by
  obtain ⟨m, ⟨o, es, ep, ho, r⟩, _⟩ := id I.loc
  obtain ⟨sl, hL⟩ := u.any ho I.free (by simp)
  exact I.step (g' := s.gens) (d' := s.drawn) (ch := []) (fun _ z => nomatch z) (fun b o _ hb _ e n => u.keep b o e n hb (by simp)) (fun b o _ hb _ e n => u.slot b o e n hb (by simp)) (fun b o _ e n => u.free b o e n (by simp)) (fun b o _ e => u.there b o e (by simp)) u.tups u.frzs u.tbls (fun m' hm => by
    obtain ⟨o', es', ep', ho', r'⟩ := hm
    rw [ho] at ho'; cases ho'
    exact ⟨_, es', ep', hL, r'⟩) hok I.bare
/-- behind a call (or a comprehension's block): the slots of this frame may have changed too, the records at ch may have turned -/
theorem Inv.call {g' : Array GenState} {t' : Nat} {d' : Drawn} {ch : List Addr} (I : Inv X pins σ H s) (u : Un (frs X.stack) ch H H' s.heap h') (hok : HOk X.prog X.w H' h') (hg : AllBare g')
    (hch : ∀ b ∈ ch, (b ∈ X.ex ∨ X.s₀.heap.objs.size ≤ b) ∧ b ≠ X.env.locals ∧ (∀ x c, X.env.cells.lookup x = some c → c ≠ b) ∧ ∀ p ∈ X.pn ++ pins, p.1 ≠ b) :
    Inv X pins σ H' { s with heap := h', gens := g', drawn := d', toks := t' } := by
  obtain ⟨m, ⟨o, es, ep, ho, r⟩, _⟩ := id I.loc
  obtain ⟨sl, hL⟩ := u.any ho I.free fun z => (hch _ z).2.1 rfl
  exact I.step (ch := ch) hch (fun b o hL hb hc e n => u.keep b o e n (fun z => (List.mem_cons.mp (I.stkSub b z)).elim hL hb) hc) (fun b o _ _ hc e n => u.any e n hc) (fun b o hc e n => u.free b o e n hc) (fun b o hc e => u.there b o e hc) u.tups u.frzs u.tbls (fun m' hm => by
    obtain ⟨o', es', ep', ho', r'⟩ := hm
    rw [ho] at ho'; cases ho'
    exact ⟨_, es', ep', hL, r'⟩) hok hg
/-- an untracked record of ours (an iterator) has turned -/
theorem Inv.turned {t' : Nat} {it : Addr} (I : Inv X pins σ H s) (k : ∀ b o, b ≠ it → s.heap.get? b = some o → h'.get? b = some o) (hn : H it = none) (hL : it ≠ X.env.locals)
    (h1 : it ∈ X.ex ∨ X.s₀.heap.objs.size ≤ it) (h2 : ∀ x c, X.env.cells.lookup x = some c → c ≠ it) (h3 : ∀ p ∈ X.pn ++ pins, p.1 ≠ it) : Inv X pins σ H { s with heap := h', toks := t' } := by
  have nit : ∀ b u, H b = some u → b ≠ it := fun b u e z => by rw [z, hn] at e; cases e
  refine I.step (g' := s.gens) (d' := s.drawn) (ch := [it]) (fun b hb => ?_) (fun b o _ _ hc e _ => k b o (fun z => hc (by simp [z])) e) (fun b o _ _ hc e _ => ⟨o.slots, k b o (fun z => hc (by simp [z])) e⟩) (fun _ _ _ _ n => n)
    (fun b o hc e => ⟨o, k b o (fun z => hc (by simp [z])) e⟩) (fun _ _ e => e) (fun _ _ _ e => e) (fun b ps e => ⟨#[], by rw [e]; simp⟩) (fun m hm => ?_) (fun b u e => ?_) I.bare
  · have e : b = it := by simpa using hb
    subst e
    exact ⟨h1, hL, h2, h3⟩
  · obtain ⟨o, es, ep, ho, r⟩ := hm
    exact ⟨o, es, ep, k _ o (Ne.symm hL) ho, r⟩
  · refine (I.hok b u e).stay (fun c v hc q => k c v ?_ q) (fun _ q => q) fun _ _ q => q
    rcases hc with z | z
    · rw [z]; exact nit b u e
    · exact nit c _ z
theorem Inv.tok (I : Inv X pins σ H s) (t : Nat) : Inv X pins σ H { s with toks := t } := I.un (h' := s.heap) (t' := t) Un.refl I.hok
/-- all objects kept -/
theorem Inv.kept {t' : Nat} (I : Inv X pins σ H s) (k : ∀ b u, s.heap.get? b = some u → h'.get? b = some u) : Inv X pins σ H { s with heap := h', toks := t' } := I.un (Un.kept k) (I.hok.kept k)
/-- a new object laid and tracked -/
theorem Inv.laid {a : Addr} {o : HO} {t' : Nat} (I : Inv X pins σ H s) (k : ∀ b u, s.heap.get? b = some u → h'.get? b = some u) (hp : s.heap.objs.size ≤ a) (new : ObjOk X.prog X.w (upd H a o) h' a o) :
    Inv X pins σ (upd H a o) { s with heap := h', toks := t' } := I.un (Un.laid k hp (I.hok.fresh hp)) (I.hok.laid k hp new)
/-- an object written -/
theorem Inv.write {x e : Addr} {o : HO} {t' : Nat} (I : Inv X pins σ H s) (mu : Mut (H x)) (he : e = x ∨ H e = some (.own x)) (k : ∀ b u, b ≠ e → s.heap.get? b = some u → h'.get? b = some u) (heo : ∃ u, h'.get? e = some u)
    (new : ObjOk X.prog X.w (upd H x o) h' x o) : Inv X pins σ (upd H x o) { s with heap := h', toks := t' } := I.un (Un.write mu he k heo) (I.hok.write mu he k heo new)
/-- forgetting slots, pins -/
theorem Inv.weak {σ' : List (Option V)} (I : Inv X pins σ H s) (hl : σ'.length = σ.length) (w : ∀ (i : Nat) v, σ'[i]? = some (some v) → σ[i]? = some (some v)) : Inv X pins σ' H s :=
  ⟨I.ok, I.os, I.bare, I.base, let ⟨m, hn, hl'⟩ := I.loc; ⟨m, hn, fun i x v e1 e2 e3 => hl' i x v e1 (w i v e2) e3⟩, I.cell, I.free, I.freeC, I.pin, I.hok, hl.trans I.len⟩
theorem Inv.pins_of {pins' : List (Addr × Obj)} (I : Inv X pins σ H s) (h : ∀ p ∈ pins', s.heap.get? p.1 = some p.2 ∧ H p.1 = none ∧ p.1 ≠ X.env.locals ∧ p.1 ∉ X.fs ∧ ∀ v, p.2.data ≠ .cell v) : Inv X pins' σ H s :=
  ⟨I.ok, I.os, I.bare, I.base, I.loc, I.cell, I.free, I.freeC, fun p hp => (List.mem_append.mp hp).elim (fun z => I.pin p (List.mem_append_left _ z)) (h p), I.hok, I.len⟩

theorem nodup_ix {N : List Str} (hN : N.Nodup) {i j : Nat} {x : Str} (a : N[i]? = some x) (b : N[j]? = some x) : i = j := by
  obtain ⟨h1, e1⟩ := List.getElem?_eq_some_iff.mp a
  obtain ⟨h2, e2⟩ := List.getElem?_eq_some_iff.mp b
  exact (List.getElem_inj hN).mp (e1.trans e2.symm)

/-- a name is stored; what changed -/
theorem store_ok2 {M : Model} {A : Around} {E : Value → Shared → Prop} {i : Nat} {x : Str} {v : V} {u : Value} {Q : Unit → Shared → Prop} (I : Inv X pins σ H s) (hN : X.N.Nodup) (hi : X.N[i]? = some x) (hx : Loc X.env.scope x) (r : RelV v u)
    (h : ∀ s', Inv X pins (σ.set i (some v)) H s' → (∃ a, Heap.SameBut a s.heap s'.heap ∧ (a = X.env.locals ∨ X.env.cells.lookup x = some a)) → Q () s') (hf : X.fn x = true ∨ X.env.scope.names.lookup x = some .local := by first | exact .inl rfl | exact .inr rfl | assumption) : wpAny M A (storeName X.env x u) Q E s := by
  obtain ⟨m, hn, hl⟩ := id I.loc
  have hcls : (X.env.scope.kind == .class || (X.env.scope.kind == .module && X.env.locals != X.env.globals)) = false := by rw [I.ok.kind]; rfl
  have hiσ : i < σ.length := by rw [I.len]; exact (List.getElem?_eq_some_iff.mp hi).1
  have cne := I.cne
  have tracked : ∀ {a : Addr} {h' : Heap}, (∃ o, s.heap.get? a = some o ∧ H a = none) → Heap.SameBut a s.heap h' → HOk X.prog X.w H h' := fun {a h'} ha hs b ob e => by
    obtain ⟨_, _, hfree⟩ := ha
    refine (I.hok b ob e).stay (fun c w' hc q => (hs.2 c ?_).trans q) (fun _ q => q) fun _ _ q => q
    rintro rfl
    rcases hc with rfl | hc
    · rw [hfree] at e; cases e
    · rw [hfree] at hc; cases hc
  rcases hx with hk | hk
  · refine wpAny_storeName_local hk hn (fun h' hn' hs => ?_) hcls
    obtain ⟨oL, _, _, hoL, _⟩ := id hn
    refine h _ ⟨I.ok, I.os, I.bare, ⟨fun b o e n hb hx => ?_, fun b o e n hb hx => ?_, I.base.free, fun b o e hx => ?_, I.base.tups, I.base.frzs, I.base.tbls⟩, ⟨_, hn', fun j y v' e1 e2 e3 => ?_⟩, fun y c e => ?_, I.free, I.freeC, fun p hp => ?_, tracked ⟨oL, hoL, I.free⟩ hs, by simpa using I.len⟩ ⟨_, hs, .inl rfl⟩
    · exact (hs.2 b (Nat.ne_of_lt (Nat.lt_of_lt_of_le (Heap.lt_size e) I.ok.above))).trans (I.base.keep b o e n hb hx)
    · obtain ⟨sl, e1⟩ := I.base.slot b o e n hb hx
      exact ⟨sl, (hs.2 b (Nat.ne_of_lt (Nat.lt_of_lt_of_le (Heap.lt_size e) I.ok.above))).trans e1⟩
    · obtain ⟨o', e1⟩ := I.base.there b o e hx
      exact ⟨o', (hs.2 b (Nat.ne_of_lt (Nat.lt_of_lt_of_le (Heap.lt_size e) I.ok.above))).trans e1⟩
    · by_cases hj : j = i
      · subst hj
        rw [hi] at e1; cases e1
        rw [List.getElem?_set_self hiσ] at e2
        cases e2
        exact ⟨u, r, .inl ⟨hk, by simp⟩⟩
      · rw [List.getElem?_set_ne (Ne.symm hj)] at e2
        obtain ⟨u', r', q⟩ := hl j y v' e1 e2 e3
        refine ⟨u', r', ?_⟩
        rcases q with ⟨k, e⟩ | ⟨k, c, e, z⟩
        · refine .inl ⟨k, ?_⟩
          have : y ≠ x := fun e => hj (nodup_ix hN e1 (e ▸ hi))
          simp [this, e]
        · exact .inr ⟨k, c, e, z.sameBut hs (cne y c e)⟩
    · obtain ⟨w', z⟩ := I.cell y c e
      exact ⟨w', z.sameBut hs (cne y c e)⟩
    · obtain ⟨e, n, ne, nf, d⟩ := I.pin p hp
      exact ⟨(hs.2 p.1 ne).trans e, n, ne, nf, d⟩
  · have hfn : X.fn x = true := by
      rcases hf with z | z
      · exact z
      · rw [z] at hk; cases hk
    obtain ⟨c, hc⟩ := I.ok.has x (.inl hk)
    obtain ⟨w', z⟩ := I.cell x c hc
    refine wpAny_storeName_cell I.ok.kind hk hc z (fun h' hc' hs => ?_)
    obtain ⟨oc, hoc, hocd⟩ := id z
    refine h { s with heap := h' } ⟨I.ok, I.os, I.bare, ⟨fun b o e n hb hx => ?_, fun b o e n hb hx => ?_, I.base.free, fun b o e hx => ?_, I.base.tups, I.base.frzs, I.base.tbls⟩, ⟨m, hn.sameBut hs (Ne.symm (cne x c hc)), fun j y v' e1 e2 e3 => ?_⟩, fun y c' e => ?_, I.free, I.freeC, fun p hp => ?_, tracked ⟨oc, hoc, I.freeC x c hc⟩ hs, by simpa using I.len⟩ ⟨c, hs, .inr hc⟩
    · exact (hs.2 b (Nat.ne_of_lt (Nat.lt_of_lt_of_le (Heap.lt_size e) (I.ok.cab x c hfn hc)))).trans (I.base.keep b o e n hb hx)
    · obtain ⟨sl, e1⟩ := I.base.slot b o e n hb hx
      exact ⟨sl, (hs.2 b (Nat.ne_of_lt (Nat.lt_of_lt_of_le (Heap.lt_size e) (I.ok.cab x c hfn hc)))).trans e1⟩
    · obtain ⟨o', e1⟩ := I.base.there b o e hx
      exact ⟨o', (hs.2 b (Nat.ne_of_lt (Nat.lt_of_lt_of_le (Heap.lt_size e) (I.ok.cab x c hfn hc)))).trans e1⟩
    · by_cases hj : j = i
      · subst hj
        rw [hi] at e1; cases e1
        rw [List.getElem?_set_self hiσ] at e2
        cases e2
        exact ⟨u, r, .inr ⟨.inl hk, c, hc, hc'⟩⟩
      · rw [List.getElem?_set_ne (Ne.symm hj)] at e2
        obtain ⟨u', r', q⟩ := hl j y v' e1 e2 e3
        refine ⟨u', r', ?_⟩
        rcases q with q | ⟨k, c', e, z'⟩
        · exact .inl q
        · refine .inr ⟨k, c', e, z'.sameBut hs ?_⟩
          rintro rfl
          exact hj (nodup_ix hN e1 (I.ok.inj _ _ _ e hc ▸ hi))
    · by_cases hcc : c' = c
      · subst hcc; exact ⟨_, hc'⟩
      · obtain ⟨w2, z2⟩ := I.cell y c' e
        exact ⟨w2, z2.sameBut hs hcc⟩
    · obtain ⟨e, n, ne, nf, d⟩ := I.pin p hp
      refine ⟨(hs.2 p.1 ?_).trans e, n, ne, nf, d⟩
      intro q
      rw [q, hoc] at e
      have q' : oc = p.2 := Option.some.inj e
      exact d w' (by rw [← q']; exact hocd)
theorem store_ok {M : Model} {A : Around} {E : Value → Shared → Prop} {i : Nat} {x : Str} {v : V} {u : Value} {Q : Unit → Shared → Prop} (I : Inv X pins σ H s) (hN : X.N.Nodup) (hi : X.N[i]? = some x) (hx : Loc X.env.scope x) (r : RelV v u)
    (h : ∀ s', Inv X pins (σ.set i (some v)) H s' → Q () s') (hf : X.fn x = true ∨ X.env.scope.names.lookup x = some .local := by first | exact .inl rfl | exact .inr rfl | assumption) : wpAny M A (storeName X.env x u) Q E s :=
  store_ok2 I hN hi hx r (fun s' I' _ => h s' I') hf
/-- behind a call or a block, the state as it is -/
theorem Inv.call' {s' : Shared} {ch : List Addr} (I : Inv X pins σ H s) (ho : s'.os = s.os) (u : Un (frs X.stack) ch H H' s.heap s'.heap) (hok : HOk X.prog X.w H' s'.heap) (hg : AllBare s'.gens)
    (hch : ∀ b ∈ ch, (b ∈ X.ex ∨ X.s₀.heap.objs.size ≤ b) ∧ b ≠ X.env.locals ∧ (∀ x c, X.env.cells.lookup x = some c → c ≠ b) ∧ ∀ p ∈ X.pn ++ pins, p.1 ≠ b) : Inv X pins σ H' s' := by
  obtain ⟨h', g', d', t', o'⟩ := s'
  have e : o' = s.os := ho
  subst e
  exact I.call (g' := g') (t' := t') (d' := d') u hok hg hch
end

/-! ### the judgements -/
/-- an exception: its class, its own dict's address (where it has one), the abstract heap behind it -/
abbrev XK := Value → Option Addr → Hp → Prop
abbrev St := List (Option V)
abbrev VK := V → Hp → Prop
/-- an expression's reading; a test's; an argument list's -/
abbrev TE := St → Hp → VK → Prop
abbrev TT := St → Hp → (Bool → Hp → Prop) → Prop
abbrev TA := St → Hp → (List V → Hp → Prop) → Prop
/-- what is wanted behind a statement -/
structure Ends where
  nx : St → Hp → Prop
  rt : VK
  bk : St → Hp → Prop := fun _ _ => False
  ct : St → Hp → Prop := fun _ _ => False
abbrev TS := Ends → St → Hp → Prop

def EP (X : Cx) (pins : List (Addr × Obj)) (σ : St) (Q : VK) (u : Value) (s' : Shared) : Prop := ∃ v H', Inv X pins σ H' s' ∧ RelV v u ∧ Q v H'
def TP (X : Cx) (pins : List (Addr × Obj)) (σ : St) (Q : Bool → Hp → Prop) (b : Bool) (s' : Shared) : Prop := ∃ H', Inv X pins σ H' s' ∧ Q b H'
def AP (X : Cx) (pins : List (Addr × Obj)) (σ : St) (Q : List V → Hp → Prop) (us : List Value) (s' : Shared) : Prop := ∃ vs H', Inv X pins σ H' s' ∧ Vals vs us ∧ Q vs H'
def SP (X : Cx) (pins : List (Addr × Obj)) (D : Ends) (f : Flow) (s' : Shared) : Prop :=
  match f with
  | .next => ∃ σ' H', Inv X pins σ' H' s' ∧ D.nx σ' H'
  | .brk => ∃ σ' H', Inv X pins σ' H' s' ∧ D.bk σ' H'
  | .cont => ∃ σ' H', Inv X pins σ' H' s' ∧ D.ct σ' H'
  | .ret u => ∃ v σ' H', Inv X pins σ' H' s' ∧ RelV v u ∧ D.rt v H'

def PE (X : Cx) (e : Expr) (t : TE) : Prop :=
  ∀ (pins : List (Addr × Obj)) (s : Shared) (σ : St) (H : Hp) (Q : VK), Inv X pins σ H s → t σ H Q → wpAny (model X.prog X.w) X.A (eval e X.env) (EP X pins σ Q) X.xe s
def PT (X : Cx) (e : Expr) (t : TT) : Prop :=
  ∀ (pins : List (Addr × Obj)) (s : Shared) (σ : St) (H : Hp) (Q : Bool → Hp → Prop), Inv X pins σ H s → t σ H Q → wpAny (model X.prog X.w) X.A (isTrue e X.env (eval e X.env)) (TP X pins σ Q) X.xe s
/-- a test whatever its 'whole' is (and, or) -/
def PW (X : Cx) (e : Expr) (t : TT) : Prop :=
  ∀ (whole : Sem Value) (pins : List (Addr × Obj)) (s : Shared) (σ : St) (H : Hp) (Q : Bool → Hp → Prop), Inv X pins σ H s → t σ H Q → wpAny (model X.prog X.w) X.A (isTrue e X.env whole) (TP X pins σ Q) X.xe s
theorem PW.pt {X : Cx} {e : Expr} {t : TT} (h : PW X e t) : PT X e t := h _
/-- an argument list (no star), from the left -/
def PA (X : Cx) (es : List Expr) (t : TA) : Prop :=
  ∀ (pos : Pos) (pins : List (Addr × Obj)) (s : Shared) (σ : St) (H : Hp) (Q : List V → Hp → Prop), Inv X pins σ H s → t σ H Q → wpAny (model X.prog X.w) X.A (spliced (backTo pos (starEach es X.env))) (AP X pins σ Q) X.xe s
def PS (X : Cx) (st : Stmt) (t : TS) : Prop :=
  ∀ (pins : List (Addr × Obj)) (s : Shared) (σ : St) (H : Hp) (D : Ends), Inv X pins σ H s → t D σ H → wpAny (model X.prog X.w) X.A (exec st X.env) (SP X pins D) X.xe s
def PSs (X : Cx) (st : List Stmt) (t : TS) : Prop :=
  ∀ (pins : List (Addr × Obj)) (s : Shared) (σ : St) (H : Hp) (D : Ends), Inv X pins σ H s → t D σ H → wpAny (model X.prog X.w) X.A (execs st X.env) (SP X pins D) X.xe s
/-- weaken the end -/
theorem thn {α : Type} {t : Sem α} {Q Q' : α → Shared → Prop} {M : Model} {A : Around} {E : Value → Shared → Prop} {s : Shared} (h : wpAny M A t Q E s) (hQ : ∀ a s, Q a s → Q' a s) : wpAny M A t Q' E s := wpAny_mono h hQ fun _ _ x => x
end L2

namespace L2
open PySem PySem.Spec PyProof.Rows
section
variable {X : Cx}

/-- two expressions in a row -/
theorem bin {a b : Expr} {ta tb : TE} (ha : PE X a ta) (hb : PE X b tb) {pins : List (Addr × Obj)} {s : Shared} {σ : St} {H : Hp} {R : V → V → Hp → Prop} (I : Inv X pins σ H s) (h : ta σ H fun x H1 => tb σ H1 fun y H2 => R x y H2)
    {α : Type} {Q : α → Shared → Prop} {f : Value → Value → Sem α}
    (hf : ∀ v u s2 x y H2, Inv X pins σ H2 s2 → RelV x v → RelV y u → R x y H2 → wpAny (model X.prog X.w) X.A (f v u) Q X.xe s2) :
    wpAny (model X.prog X.w) X.A (eval a X.env) (fun v s₁ => wpAny (model X.prog X.w) X.A (eval b X.env) (fun u s₂ => wpAny (model X.prog X.w) X.A (f v u) Q X.xe s₂) X.xe s₁) X.xe s := by
  refine thn (ha pins s σ H _ I h) fun v s1 ⟨x, H1, I1, r1, q1⟩ => ?_
  refine thn (hb pins s1 σ H1 _ I1 q1) fun u s2 ⟨y, H2, I2, r2, q2⟩ => ?_
  exact hf v u s2 x y H2 I2 r1 r2 q2

/-! ### names and constants -/
def tVar (i : Nat) : TE := fun σ H Q => ∃ v, σ[i]? = some (some v) ∧ Q v H
def tC (v : V) : TE := fun _ H Q => Q v H
theorem pe_var {i : Nat} {x : Str} {pos : Pos} (hN : X.N[i]? = some x) (hv : Vis X.env.scope x) (hd : (x == ("__debug__" : Str)) = false := by decide) (hcd : (x == ("__classdict__" : Str)) = false := by decide) : PE X (.Name x pos) (tVar i) := by
  intro pins s σ H Q I h
  obtain ⟨v, e, h⟩ := h
  obtain ⟨m, hn, hl⟩ := I.loc
  obtain ⟨u, r, l⟩ := hl i x v hN e hv
  have fin : EP X pins σ Q u s := ⟨v, H, I, r, h⟩
  rcases l with ⟨hk, hm⟩ | ⟨hk, c, hc, hcell⟩
  · exact wpAny_Name (wpAny_loadName_local I.ok.kind hk hn hm fin) hd
  · rcases hk with hk | hk
    · exact wpAny_Name (wpAny_loadName_cell I.ok.kind hk hc hcell fin) hd
    · exact wpAny_Name (wpAny_loadName_free I.ok.kind hk hc hcell fin hcd) hd
theorem pe_int {i j pos} : PE X (.Constant (.int i) j pos) (tC (.int i)) := fun _ _ _ H _ I h => wpAny_Constant_int ⟨.int i, H, I.tok _, ⟨_, rfl⟩, h⟩
theorem pe_bl {b j pos} : PE X (.Constant (.bool b) j pos) (tC (.bl b)) := fun _ _ _ H _ I h => Constant_bool ⟨.bl b, H, I, rfl, h⟩
theorem pe_non {j pos} : PE X (.Constant .none j pos) (tC .non) := fun _ _ _ H _ I h => Constant_none ⟨.non, H, I, rfl, h⟩
/-- a global name of the def -/
def Gl (X : Cx) (x : Str) : Prop := X.env.kindOf x = some .globalImplicit
theorem ld_glob {E : Value → Shared → Prop} {pins : List (Addr × Obj)} {s : Shared} {σ : St} {H : Hp} {x : Str} {u : Value} {pos : Pos} {Q : Value → Shared → Prop} (I : Inv X pins σ H s) (hg : Gl X x) (hm : X.mg x = some u) (h : Q u s)
    (hd : (x == ("__debug__" : Str)) = false := by decide) : wpAny (model X.prog X.w) X.A (eval (.Name x pos) X.env) Q E s :=
  Calls.Name_function_global I.ok.kind hg (Calls.loadGlobal_global (by rw [I.ok.glob]; exact I.mod.glob.keeps I.bk) hm h) hd
theorem ld_blt {E : Value → Shared → Prop} {pins : List (Addr × Obj)} {s : Shared} {σ : St} {H : Hp} {x : Str} {u : Value} {pos : Pos} {Q : Value → Shared → Prop} (I : Inv X pins σ H s) (hg : Gl X x) (hm : X.mg x = none) (hv : bootBuiltins x = some u) (h : Q u s)
    (hn : x ≠ "__name__" := by decide) (hd : (x == ("__debug__" : Str)) = false := by decide) : wpAny (model X.prog X.w) X.A (eval (.Name x pos) X.env) Q E s := by
  obtain ⟨mb, h1, h2⟩ := I.mod.blt
  exact Calls.Name_function_global I.ok.kind hg (Calls.loadGlobal_builtin (by rw [I.ok.glob]; exact I.mod.glob.keeps I.bk) hm (by rw [I.ok.blt]; exact h1.keeps I.bk) ((h2 x hn).trans hv) h) hd
/-- a module's constant, a class, a function, as a value -/
theorem pe_glob {x : Str} {v : V} {u : Value} {pos : Pos} (hg : Gl X x) (hm : X.mg x = some u) (r : RelV v u) (hd : (x == ("__debug__" : Str)) = false := by decide) : PE X (.Name x pos) (tC v) :=
  fun _ _ _ H _ I h => ld_glob I hg hm ⟨v, H, I, r, h⟩ hd
theorem pe_bltn {x : Str} {v : V} {u : Value} {pos : Pos} (hg : Gl X x) (hm : X.mg x = none) (hv : bootBuiltins x = some u) (r : RelV v u) (hn : x ≠ "__name__" := by decide) (hd : (x == ("__debug__" : Str)) = false := by decide) : PE X (.Name x pos) (tC v) :=
  fun _ _ _ H _ I h => ld_blt I hg hm hv ⟨v, H, I, r, h⟩ hn hd

/-! ### arithmetic -/
/-- two ints -/
def t2I (ta tb : TE) (k : Int → Int → Hp → Prop) : St → Hp → Prop := fun σ H => ta σ H fun x H1 => tb σ H1 fun y H2 => ∃ i j, x = .int i ∧ y = .int j ∧ k i j H2
def tAdd (ta tb : TE) : TE := fun σ H Q => t2I ta tb (fun i j H2 => Q (.int (i + j)) H2) σ H
def tSub (ta tb : TE) : TE := fun σ H Q => t2I ta tb (fun i j H2 => Q (.int (i - j)) H2) σ H
/-- the left factor below 2^64 -/
def tMul (ta tb : TE) : TE := fun σ H Q => t2I ta tb (fun i j H2 => (-(2 ^ 64) < i ∧ i < 2 ^ 64) ∧ Q (.int (i * j)) H2) σ H
variable {a b : Expr} {ta tb : TE} {pos : Pos}
/-! ### comparisons -/
def PC (X : Cx) (op : CmpOp) (a b : Expr) (t : TE) : Prop :=
  ∀ (pins : List (Addr × Obj)) (s : Shared) (σ : St) (H : Hp) (Q : VK), Inv X pins σ H s → t σ H Q →
    wpAny (model X.prog X.w) X.A (eval a X.env) (fun v s₁ => wpAny (model X.prog X.w) X.A (eval b X.env) (fun u s₂ => wpAny (model X.prog X.w) X.A (compareOp op v u) (EP X pins σ Q) X.xe s₂) X.xe s₁) X.xe s
theorem nobehind (b : Expr) {op : CmpOp} (h : op ≠ .In) (h2 : op ≠ .NotIn) : behindInMarks op b = false := by
  have e1 : (op == CmpOp.In) = false := by cases op <;> first | rfl | exact absurd rfl h
  have e2 : (op == CmpOp.NotIn) = false := by cases op <;> first | rfl | exact absurd rfl h2
  cases b <;> simp [behindInMarks, e1, e2]
def tCmp (p : Int → Int → Bool) (ta tb : TE) : TE := fun σ H Q => t2I ta tb (fun i j H2 => Q (.bl (p i j)) H2) σ H
abbrev tLt : TE → TE → TE := tCmp fun i j => decide (i < j)
abbrev tLe : TE → TE → TE := tCmp fun i j => decide (i ≤ j)
abbrev tGt : TE → TE → TE := tCmp fun i j => decide (j < i)
abbrev tGe : TE → TE → TE := tCmp fun i j => decide (j ≤ i)
abbrev tEqI : TE → TE → TE := tCmp fun i j => decide (i = j)
abbrev tNeI : TE → TE → TE := tCmp fun i j => !decide (i = j)
/-- is None -/
def tIsN (ta : TE) : TE := fun σ H Q => ta σ H fun x H1 => Q (.bl (decide (x = .non))) H1
def tNotN (ta : TE) : TE := fun σ H Q => ta σ H fun x H1 => Q (.bl (!decide (x = .non))) H1
/-- a comparison as a value, as a test -/
def tB (t : TE) : TT := fun σ H Q => t σ H fun x H1 => ∃ c, x = .bl c ∧ Q c H1
theorem pt_cmp {op : CmpOp} {t : TE} (h : PC X op a b t) (h1 : behindInMarks op b = false := by first | exact nobehind _ (by decide) (by decide) | rfl) : PT X (.Compare a [op] [b] pos) (tB t) := by
  intro pins s σ H Q I hw
  refine wpAny_isTrue_Compare1 (thn (h pins s σ H _ I hw) fun v s1 h1 => thn h1 fun u s2 h2 => thn h2 fun c s3 ⟨x, H1, I1, r1, q1⟩ => ?_) h1
  obtain ⟨d, rfl, q⟩ := q1
  cases r1
  exact wpAny_truthy_bool ⟨H1, I1, q⟩
/-- an expression whose value is a bool, as a test -/
theorem pt_val {e : Expr} {t : TE} (h : PE X e t) (he : ∀ whole, isTrue e X.env whole = (do let v ← whole; standAt e.pos; holding [v] (truthy v)) := by intro _; rfl) : PT X e (tB t) := by
  intro pins s σ H Q I hw
  refine isTrue_plain (thn (h pins s σ H _ I hw) fun v s1 ⟨x, H1, I1, r1, q1⟩ => ?_) (he _)
  obtain ⟨d, rfl, q⟩ := q1
  cases r1
  exact wpAny_truthy_bool ⟨H1, I1, q⟩

/-! ### and, or, not -/
variable {tA tB' : TT} {rest : List Expr}
def tAnd (t u : TT) : TT := fun σ H Q => t σ H fun c H1 => if c = true then u σ H1 Q else Q false H1
def tOr (t u : TT) : TT := fun σ H Q => t σ H fun c H1 => if c = true then Q true H1 else u σ H1 Q
def tNot (t : TT) : TT := fun σ H Q => t σ H fun c H1 => Q (!c) H1
theorem pw_and1 (ha : PT X a tA) : PW X (.BoolOp .And [a] pos) tA := by
  intro wh pins s σ H Q I h
  refine isTrue_and (thn (ha pins s σ H Q I h) fun c s1 e => ?_)
  cases c with
  | true => exact isTrue_and_nil e
  | false => exact e
theorem pw_or1 (ha : PT X a tA) : PW X (.BoolOp .Or [a] pos) tA := by
  intro wh pins s σ H Q I h
  refine isTrue_or (thn (ha pins s σ H Q I h) fun c s1 e => ?_)
  cases c with
  | false => exact isTrue_or_nil e
  | true => exact e
theorem pw_and (ha : PT X a tA) (hb : PW X (.BoolOp .And (b :: rest) pos) tB') : PW X (.BoolOp .And (a :: b :: rest) pos) (tAnd tA tB') := by
  intro wh pins s σ H Q I h
  refine isTrue_and (thn (ha pins s σ H _ I h) fun c s1 ⟨H1, I1, q1⟩ => ?_)
  cases c with
  | true => exact hb wh pins s1 σ H1 Q I1 q1
  | false => exact ⟨H1, I1, q1⟩
theorem pw_or (ha : PT X a tA) (hb : PW X (.BoolOp .Or (b :: rest) pos) tB') : PW X (.BoolOp .Or (a :: b :: rest) pos) (tOr tA tB') := by
  intro wh pins s σ H Q I h
  refine isTrue_or (thn (ha pins s σ H _ I h) fun c s1 ⟨H1, I1, q1⟩ => ?_)
  cases c with
  | true => exact ⟨H1, I1, q1⟩
  | false => exact hb wh pins s1 σ H1 Q I1 q1
theorem pt_not (ha : PT X a tA) : PT X (.UnaryOp .Not a pos) (tNot tA) := by
  intro pins s σ H Q I h
  exact isTrue_not (ha pins s σ H (fun c H1 => Q (!c) H1) I h)
/-- .. as values (bools) -/
def tAndV (ta tb : TE) : TE := fun σ H Q => ta σ H fun x H1 => ∃ c, x = .bl c ∧ if c = true then tb σ H1 Q else Q (.bl false) H1
def tOrV (ta tb : TE) : TE := fun σ H Q => ta σ H fun x H1 => ∃ c, x = .bl c ∧ if c = true then Q (.bl true) H1 else tb σ H1 Q
def tNotV (ta : TE) : TE := fun σ H Q => ta σ H fun x H1 => ∃ c, x = .bl c ∧ Q (.bl (!c)) H1
theorem pe_one {op} {t : TE} (h : PE X a t) : PE X (.BoolOp op [a] pos) t := fun pins s σ H Q I hw => BoolOp_one (h pins s σ H Q I hw)
theorem pe_and (ha : PE X a ta) (hb : PE X (.BoolOp .And (b :: rest) pos) tb) : PE X (.BoolOp .And (a :: b :: rest) pos) (tAndV ta tb) := by
  intro pins s σ H Q I h
  refine BoolOp_and (thn (ha pins s σ H _ I h) fun v s1 ⟨x, H1, I1, r1, q1⟩ => ?_)
  obtain ⟨c, rfl, q1⟩ := q1
  cases r1
  refine wpAny_truthy_bool ?_
  cases c with
  | true => exact hb pins s1 σ H1 Q I1 q1
  | false => exact ⟨.bl false, H1, I1, rfl, q1⟩
theorem pe_not (ha : PE X a ta) : PE X (.UnaryOp .Not a pos) (tNotV ta) := by
  intro pins s σ H Q I h
  refine UnaryOp_ (thn (ha pins s σ H _ I h) fun v s1 ⟨x, H1, I1, r1, q1⟩ => ?_)
  obtain ⟨c, rfl, q1⟩ := q1
  cases r1
  exact not_of (wpAny_truthy_bool ⟨.bl (!c), H1, I1, rfl, q1⟩)
/-- a if t else b -/
def tIf (t : TT) (ta tb : TE) : TE := fun σ H Q => t σ H fun c H1 => if c = true then ta σ H1 Q else tb σ H1 Q
end
end L2

namespace L2
open PySem PySem.Spec PyProof.Rows

/-! ### a list, a tuple that is read: tracked, frozen, or an object of the module -/
def SqL (K : PySem.W.Frag) (H : Hp) (a : Addr) (xs : List V) : Prop :=
  Rd H a (.lst xs) ∨
    ∃ (o : Obj) (its : Array Value) (n : Nat), K.lookup a = some o ∧ o.cls = .type "list" ∧ o.dict = none ∧ o.data = .seq its n ∧ its.size ≤ sizeLine ∧ Vals xs its.toList
def SqT (K : PySem.W.Frag) (H : Hp) (a : Addr) (xs : List V) : Prop :=
  Rd H a (.tup xs) ∨
    ∃ (o : Obj) (its : Array Value) (n : Nat), K.lookup a = some o ∧ o.cls = .type "tuple" ∧ o.data = .seq its n ∧ its.size ≤ sizeLine ∧ Vals xs its.toList
def absV : Value → Option V
  | .none => some .non
  | .bool b => some (.bl b)
  | .int i _ => some (.int i)
  | .str x _ => some (.str x)
  | .bytes b _ => some (.byt b)
  | .float b _ => some (.flt b)
  | .ref a => some (.ref a)
  | .type n => some (.ty n)
  | _ => none
theorem RelV.abs {x : V} {u : Value} (r : RelV x u) : absV u = some x := by
  cases x with
  | non => cases r; rfl
  | bl _ => cases r; rfl
  | int _ => obtain ⟨t, rfl⟩ := r; rfl
  | str _ => obtain ⟨t, rfl⟩ := r; rfl
  | byt _ => obtain ⟨t, rfl⟩ := r; rfl
  | flt _ => obtain ⟨t, rfl⟩ := r; rfl
  | ref _ => cases r; rfl
  | ty _ => cases r; rfl
theorem RelV.inj {x y : V} {u : Value} (r : RelV x u) (q : RelV y u) : x = y := Option.some.inj (r.abs.symm.trans q.abs)
theorem Vals.inj : ∀ {xs ys : List V} {us : List Value}, Vals xs us → Vals ys us → xs = ys
  | _, _, _, .nil, .nil => rfl
  | _, _, _, .cons r t, .cons r' t' => by rw [r.inj r', Vals.inj t t']
section
variable {X : Cx} {pins : List (Addr × Obj)} {σ : St} {H : Hp} {s : Shared} {a : Addr} {xs ys : List V}
theorem SqL.of {K : PySem.W.Frag} (h : H a = some (.lst xs)) : SqL K H a xs := .inl (.inl h)
theorem SqT.of {K : PySem.W.Frag} (h : H a = some (.tup xs)) : SqT K H a xs := .inl (.inl h)
theorem Inv.list (I : Inv X pins σ H s) (h : SqL X.K H a xs) : ∃ its : List Value, Vals xs its ∧ PlainL s.heap a its.toArray ∧ xs.length ≤ sizeLine := by
  rcases h with h | ⟨o, its, n, hk, hc, hd, hs, hz, r⟩
  · obtain ⟨z, its, n, r, e⟩ := h.ok I.hok
    exact ⟨its, r, ⟨_, n, e, rfl, rfl, rfl⟩, z⟩
  · refine ⟨its.toList, r, ⟨o, n, I.kIn a o hk, hc, hd, by simpa using hs⟩, ?_⟩
    have e := r.length
    simp only [Array.length_toList] at e
    omega
theorem Inv.tuple (I : Inv X pins σ H s) (h : SqT X.K H a xs) : ∃ its : List Value, Vals xs its ∧ IsTup s.heap a its.toArray ∧ xs.length ≤ sizeLine := by
  rcases h with h | ⟨o, its, n, hk, hc, hs, hz, r⟩
  · obtain ⟨z, its, r, p⟩ := h.ok I.hok
    exact ⟨its, r, p, z⟩
  · refine ⟨its.toList, r, ⟨o, I.kIn a o hk, hc, n, by simpa using hs⟩, ?_⟩
    have e := r.length
    simp only [Array.length_toList] at e
    omega
theorem Inv.list_inj (I : Inv X pins σ H s) (h : SqL X.K H a xs) (h' : SqL X.K H a ys) : xs = ys := by
  obtain ⟨its, r, ⟨o, n, e, _, _, d⟩, _⟩ := I.list h
  obtain ⟨its', r', ⟨o', n', e', _, _, d'⟩, _⟩ := I.list h'
  rw [e] at e'; cases e'
  rw [d] at d'
  injection d' with d1 _
  have : its = its' := by simpa using congrArg Array.toList d1
  subst this
  exact r.inj r'
end

/-! ### another wish about exceptions -/
abbrev Cx.wish (X : Cx) (E : Value → Shared → Prop) : Cx := { X with xe := E }
/-- no exception leaves -/
abbrev Cx.nox (X : Cx) : Cx := X.wish fun _ _ => False
theorem Cx.Ok.wish {X : Cx} (ok : X.Ok) (E : Value → Shared → Prop) : (X.wish E).Ok :=
  ⟨ok.mod, ok.kind, ok.glob, ok.blt, ok.above, ok.inj, ok.has, ok.cab, ok.hd, ok.frames, ok.stk, ok.exf, ok.bs, ok.bsz, ok.noex, ok.exfs, ok.funs, ok.frf⟩
theorem Cx.Ok.unwish {X : Cx} {E : Value → Shared → Prop} (ok : (X.wish E).Ok) : X.Ok :=
  ⟨ok.mod, ok.kind, ok.glob, ok.blt, ok.above, ok.inj, ok.has, ok.cab, ok.hd, ok.frames, ok.stk, ok.exf, ok.bs, ok.bsz, ok.noex, ok.exfs, ok.funs, ok.frf⟩
section
variable {X : Cx} {pins : List (Addr × Obj)} {σ : St} {H : Hp} {s : Shared} {E : Value → Shared → Prop}
theorem Inv.wish (I : Inv X pins σ H s) (E : Value → Shared → Prop) : Inv (X.wish E) pins σ H s := ⟨I.ok.wish E, I.os, I.bare, I.base, I.loc, I.cell, I.free, I.freeC, I.pin, I.hok, I.len⟩
theorem Inv.unwish (I : Inv (X.wish E) pins σ H s) : Inv X pins σ H s := ⟨I.ok.unwish, I.os, I.bare, I.base, I.loc, I.cell, I.free, I.freeC, I.pin, I.hok, I.len⟩
theorem SP.unwish {D : Ends} {f : Flow} {s' : Shared} (h : SP (X.wish E) pins D f s') : SP X pins D f s' := by
  cases f with
  | next => obtain ⟨σ', H', I, q⟩ := h; exact ⟨σ', H', I.unwish, q⟩
  | brk => obtain ⟨σ', H', I, q⟩ := h; exact ⟨σ', H', I.unwish, q⟩
  | cont => obtain ⟨σ', H', I, q⟩ := h; exact ⟨σ', H', I.unwish, q⟩
  | ret u => obtain ⟨v, σ', H', I, r, q⟩ := h; exact ⟨v, σ', H', I.unwish, r, q⟩
theorem PE.nox {e : Expr} {t : TE} (h : PE X.nox e t) : PE X e t := fun pins s σ H Q I hw =>
  wpAny_mono (h pins s σ H Q (I.wish _) hw) (fun _ _ ⟨v, H', I', r, q⟩ => ⟨v, H', I'.unwish, r, q⟩) fun _ _ z => False.elim z
theorem PT.nox {e : Expr} {t : TT} (h : PT X.nox e t) : PT X e t := fun pins s σ H Q I hw =>
  wpAny_mono (h pins s σ H Q (I.wish _) hw) (fun _ _ ⟨H', I', q⟩ => ⟨H', I'.unwish, q⟩) fun _ _ z => False.elim z
theorem PSs.nox {st : List Stmt} {t : TS} (h : PSs X.nox st t) : PSs X st t := fun pins s σ H D I hw =>
  wpAny_mono (h pins s σ H D (I.wish _) hw) (fun _ _ q => q.unwish) fun _ _ z => False.elim z
end

/-! ### blocks and small statements -/
section
variable {X : Cx} {st : Stmt} {rest : List Stmt} {t u : TS} {e : Expr} {te : TE} {pos : Pos}
def tNext : TS := fun D σ H => D.nx σ H
def tSeq (t u : TS) : TS := fun D σ H => t { D with nx := u D } σ H
theorem pss_nil : PSs X [] tNext := fun _ _ σ H _ I h => wpAny_execs_nil ⟨σ, H, I, h⟩
theorem pss_cons (h1 : PS X st t) (h2 : PSs X rest u) : PSs X (st :: rest) (tSeq t u) := by
  intro pins s σ H D I h
  refine wpAny_execs_cons (thn (h1 pins s σ H { D with nx := u D } I h) fun f s1 q => ?_)
  cases f with
  | next =>
    obtain ⟨σ', H', I', q⟩ := q
    exact h2 pins s1 σ' H' D I' q
  | ret v => exact q
  | brk => exact q
  | cont => exact q
theorem pss_one (h1 : PS X st t) : PSs X [st] t := by
  intro pins s σ H D I h
  refine wpAny_execs_cons (thn (h1 pins s σ H D I h) fun f s1 q => ?_)
  cases f with
  | next => exact wpAny_execs_nil q
  | ret v => exact q
  | brk => exact q
  | cont => exact q
def tBreak : TS := fun D σ H => D.bk σ H
def tCont : TS := fun D σ H => D.ct σ H
/-- in a def's body nothing is shown -/
theorem Inv.quiet {pins : List (Addr × Obj)} {σ : St} {H : Hp} {s : Shared} (I : Inv X pins σ H s) : interactive X.env = false := by simp [interactive, I.ok.kind]
/-- an expression whose value is dropped -/
def tDrop (te : TE) : TS := fun D σ H => te σ H fun _ H1 => D.nx σ H1
theorem ps_expr (he : PE X e te) (hs : swapsWith e none pos.line X.env = pure false := by rfl) : PS X (.Expr e pos) (tDrop te) := by
  intro pins s σ H D I h
  exact wpAny_Expr_any (thn (he pins s σ H _ I h) fun v s1 ⟨x, H1, I1, r1, q1⟩ => ⟨σ, H1, I1, q1⟩) I.quiet hs
def tRet (te : TE) : TS := fun D σ H => te σ H D.rt
theorem ps_ret (he : PE X e te) : PS X (.Return (some e) pos) (tRet te) := by
  intro pins s σ H D I h
  exact wpAny_Return_some (thn (he pins s σ H _ I h) fun v s1 ⟨x, H1, I1, r1, q1⟩ => ⟨x, σ, H1, I1, r1, q1⟩)
def tRetN : TS := fun D _ H => D.rt .non H
def tIfS (c : TT) (t u : TS) : TS := fun D σ H => c σ H fun b H1 => if b = true then t D σ H1 else u D σ H1
theorem ps_if {c : Expr} {a b : List Stmt} {tc : TT} (hc : PT X c tc) (ha : PSs X a t) (hb : PSs X b u) : PS X (.If c a b pos) (tIfS tc t u) := by
  intro pins s σ H D I h
  refine wpAny_If (thn (hc pins s σ H _ I h) fun d s1 ⟨H1, I1, q1⟩ => ?_)
  cases d with
  | true => exact ha pins s1 σ H1 D I1 q1
  | false => exact hb pins s1 σ H1 D I1 q1
/-- code that the proof never comes to -/
def tNever : TS := fun _ _ _ => False
end

/-! ### targets -/
abbrev TG := V → St → Hp → (St → Hp → Prop) → Prop
abbrev TGs := List V → St → Hp → (St → Hp → Prop) → Prop
def PG (X : Cx) (target : Expr) (t : TG) : Prop :=
  ∀ (pins : List (Addr × Obj)) (s : Shared) (σ : St) (H : Hp) (v : V) (u : Value) (Q : St → Hp → Prop), Inv X pins σ H s → RelV v u → t v σ H Q →
    wpAny (model X.prog X.w) X.A (assign target X.env u) (fun _ s' => ∃ σ' H', Inv X pins σ' H' s' ∧ Q σ' H') X.xe s
/-- several targets, one after another -/
def PGs (X : Cx) (ts : List Expr) (t : TGs) : Prop :=
  ∀ (pins : List (Addr × Obj)) (s : Shared) (σ : St) (H : Hp) (vs : List V) (us : List Value) (Q : St → Hp → Prop), Inv X pins σ H s → Vals vs us → t vs σ H Q →
    wpAny (model X.prog X.w) X.A (assignInOrder ((assignEach ts X.env).map (·.2)) us) (fun _ s' => ∃ σ' H', Inv X pins σ' H' s' ∧ Q σ' H') X.xe s
/-- o[i] = v, by values -/
abbrev TSet := V → V → V → Hp → (Hp → Prop) → Prop
def PSet (X : Cx) (t : TSet) : Prop :=
  ∀ (pins : List (Addr × Obj)) (s : Shared) (σ : St) (H : Hp) (o i v : V) (ov iv u : Value) (Q : Hp → Prop), Inv X pins σ H s → RelV o ov → RelV i iv → RelV v u → t o i v H Q →
    wpAny (model X.prog X.w) X.A (setItem ov iv u) (fun _ s' => ∃ H', Inv X pins σ H' s' ∧ Q H') X.xe s
/-- a op= b, by values -/
abbrev TIp := V → V → Hp → VK → Prop
def PIp (X : Cx) (op : Operator) (t : TIp) : Prop :=
  ∀ (pins : List (Addr × Obj)) (s : Shared) (σ : St) (H : Hp) (x y : V) (v u : Value) (Q : VK), Inv X pins σ H s → RelV x v → RelV y u → t x y H Q →
    wpAny (model X.prog X.w) X.A (inplaceOp op v u) (EP X pins σ Q) X.xe s
section
variable {X : Cx} {pos : Pos}
def gName (i : Nat) : TG := fun v σ H Q => Q (σ.set i (some v)) H
theorem pg_name {i : Nat} {x : Str} (hN : X.N.Nodup) (hi : X.N[i]? = some x) (hx : Loc X.env.scope x) (hf : X.fn x = true ∨ X.env.scope.names.lookup x = some .local := by first | exact .inl rfl | exact .inr rfl | assumption) : PG X (.Name x pos) (gName i) := by
  intro pins s σ H v u Q I r h
  exact wpAny_assign_Name (store_ok I hN hi hx r (fun s' I' => ⟨_, H, I', h⟩) hf)
def gNil : TGs := fun vs σ H Q => vs = [] ∧ Q σ H
def gCons (t : TG) (u : TGs) : TGs := fun vs σ H Q => ∃ v r, vs = v :: r ∧ t v σ H fun σ' H' => u r σ' H' Q
theorem pgs_nil : PGs X [] gNil := by
  intro pins s σ H vs us Q I r h
  obtain ⟨e, h⟩ := h
  subst e
  cases r
  exact assignInOrder_nil ⟨σ, H, I, h⟩
theorem pgs_cons {e : Expr} {es : List Expr} {t : TG} {u : TGs} (h1 : PG X e t) (h2 : PGs X es u)
    (hs : (assignEach (e :: es) X.env).map (·.2) = assign e X.env :: (assignEach es X.env).map (·.2) := by rfl) : PGs X (e :: es) (gCons t u) := by
  intro pins s σ H vs us Q I r h
  obtain ⟨v, vr, e1, h⟩ := h
  subst e1
  cases r with
  | cons r rr =>
    rw [hs]
    refine assignInOrder_cons (thn (h1 pins s σ H _ _ _ I r h) fun _ s1 ⟨σ1, H1, I1, q1⟩ => ?_)
    exact h2 pins s1 σ1 H1 _ _ Q I1 rr q1
/-- (a, b, ..) = a tuple of that length -/
def gTup (K : PySem.W.Frag) (n : Nat) (t : TGs) : TG := fun v σ H Q => ∃ a xs, v = .ref a ∧ SqT K H a xs ∧ xs.length = n ∧ t xs σ H Q
theorem pg_tup {es : List Expr} {k : Nat} {t : TGs} {n : Nat} (hc : X.calm = true) (h : PGs X es t)
    (hn : (assignEach es X.env).length = n := by rfl) (hst : (assignEach es X.env).findIdx? (·.1) = none := by rfl) : PG X (.Tuple es k pos) (gTup X.K n t) := by
  intro pins s σ H v u Q I r hw
  obtain ⟨a, xs, e1, hq, hl, hw⟩ := hw
  subst e1
  cases r
  obtain ⟨its, rv, ht, hz⟩ := I.tuple hq
  refine assign_Tuple_tuple (I.ok.hd hc) ht (by simp [hn, ← hl, rv.length]) hst fun h' hx => ?_
  have I1 : Inv X pins σ H { s with heap := h' } := I.kept (t' := s.toks) fun b o e => hx b o (Nat.ne_of_lt (Heap.lt_size e)) e
  exact h pins _ σ H xs _ Q I1 (by simpa using rv) hw
/-- o[i] = .. -/
def gSub (to ti : TE) (t : TSet) : TG := fun v σ H Q => to σ H fun o H1 => ti σ H1 fun i H2 => t o i v H2 fun H3 => Q σ H3
/-- target = value -/
def tAsg (te : TE) (g : TG) : TS := fun D σ H => te σ H fun x H1 => g x σ H1 D.nx
theorem ps_asg {tg e : Expr} {te : TE} {g : TG} (he : PE X e te) (hg : PG X tg g) (hs : swapsWithSole [tg] e pos.line X.env = pure false := by rfl) (hw : swappedStores [tg] e X.env = pure none := by rfl)
    (h1 : (assignEach [tg] X.env).map (·.2) = [assign tg X.env] := by rfl) : PS X (.Assign [tg] e pos) (tAsg te g) := by
  intro pins s σ H D I h
  refine wpAny_Assign_stores (thn (he pins s σ H _ I h) fun v s1 ⟨x, H1, I1, r1, q1⟩ => ?_) hs hw
  rw [h1]
  exact thn (hg pins s1 σ H1 x v _ I1 r1 q1) fun _ s2 q => q
/-- name = value -/
theorem ps_set {i : Nat} {x : Str} {e : Expr} {te : TE} {pos' : Pos} (hN : X.N.Nodup) (hi : X.N[i]? = some x) (hx : Loc X.env.scope x) (he : PE X e te) (hs : swapsWith e (some (.Name x pos')) pos.line X.env = pure false := by rfl) (hf : X.fn x = true ∨ X.env.scope.names.lookup x = some .local := by first | exact .inl rfl | exact .inr rfl | assumption) :
    PS X (.Assign [.Name x pos'] e pos) (tAsg te (gName i)) := by
  intro pins s σ H D I h
  refine wpAny_Assign_Name (thn (he pins s σ H _ I h) fun v s1 ⟨y, H1, I1, r1, q1⟩ => ?_) hs
  exact store_ok I1 hN hi hx r1 (fun s2 I2 => ⟨_, H1, I2, q1⟩) hf
/-- a, b = x, y with plain local names: stored from the right; the pair itself is not tracked (the opening rows as in PyProof/Rows/TupAssign.lean:23) -/
def tPar (i j : Nat) (ta : TA) : TS := fun D σ H => ta σ H fun vs H1 => ∃ v w, vs = [v, w] ∧ D.nx ((σ.set i (some v)).set j (some w)) H1
/-- name op= e -/
def tAug (i : Nat) (te : TE) (ti : TIp) : TS := fun D σ H => ∃ x, σ[i]? = some (some x) ∧ te σ H fun y H1 => ti x y H1 fun z H2 => D.nx (σ.set i (some z)) H2
/-- o[i] op= e -/
def tAugS (to ti te : TE) (tget : V → V → Hp → VK → Prop) (tip : TIp) (tset : TSet) : TS := fun D σ H => to σ H fun o H1 => ti σ H1 fun i H2 => tget o i H2 fun x H3 => te σ H3 fun y H4 => tip x y H4 fun z H5 => tset o i z H5 fun H6 => D.nx σ H6
/-- o[i], by values -/
def PGet (X : Cx) (t : V → V → Hp → VK → Prop) : Prop :=
  ∀ (pins : List (Addr × Obj)) (s : Shared) (σ : St) (H : Hp) (o i : V) (ov iv : Value) (Q : VK), Inv X pins σ H s → RelV o ov → RelV i iv → t o i H Q →
    wpAny (model X.prog X.w) X.A (getItem ov iv) (EP X pins σ Q) X.xe s
/-- ints -/
def ipI (f : Int → Int → Int) : TIp := fun x y H Q => ∃ i j, x = .int i ∧ y = .int j ∧ Q (.int (f i j)) H
end

/-! ### while -/
section
variable {X : Cx} {pos : Pos}
/-- the invariant W with its measure -/
def tWhile (c : TT) (tb : TS) : TS := fun D σ H => ∃ W : Nat → St → Hp → Prop, (∃ m, W m σ H) ∧ ∀ m σ H, W m σ H →
  c σ H fun b H1 => if b = true then ∃ N : St → Hp → Prop, (∀ σ' H', N σ' H' → ∃ m', m' < m ∧ W m' σ' H') ∧ tb { D with nx := N, ct := N, bk := D.nx } σ H1 else D.nx σ H1
theorem ps_while {c : Expr} {body : List Stmt} {tc : TT} {tb : TS} (hp : PassesOwn (model X.prog X.w) X.A X.env X.xe) (hc : PT X c tc) (hb : PSs X body tb) : PS X (.While c body [] pos) (tWhile tc tb) := by
  intro pins s σ H D I h
  obtain ⟨W, ⟨m0, w0⟩, turn⟩ := h
  refine wpAny_While (codeAny_whileLoop (fun n s' => ∃ σ' H', Inv X pins σ' H' s' ∧ W n σ' H') ?_ m0 ⟨σ, H, I, w0⟩)
  rintro n s1 ⟨σ1, H1, I1, w1⟩
  refine wpAny_passesOwn hp (thn (hc pins s1 σ1 H1 _ I1 (turn n σ1 H1 w1)) fun b s2 ⟨H2, I2, q2⟩ => ?_)
  cases b with
  | true =>
    obtain ⟨N, hN, q2⟩ := q2
    rw [if_pos rfl]
    refine wpAny_passesOwn hp (thn (hb pins s2 σ1 H2 _ I2 q2) fun f s3 q3 => ?_)
    cases f with
    | next =>
      obtain ⟨σ3, H3, I3, n3⟩ := q3
      obtain ⟨m', hm, w3⟩ := hN σ3 H3 n3
      exact ⟨m', hm, σ3, H3, I3, w3⟩
    | cont =>
      obtain ⟨σ3, H3, I3, n3⟩ := q3
      obtain ⟨m', hm, w3⟩ := hN σ3 H3 n3
      exact ⟨m', hm, σ3, H3, I3, w3⟩
    | brk => exact q3
    | ret v => exact q3
  | false =>
    rw [if_neg Bool.false_ne_true]
    exact wpAny_execs_nil ⟨σ1, H2, I2, q2⟩
end

/-! ### what a loop or a comprehension walks -/
/-- at turn i: it yields x (the heap may grow), or it stops -/
structure It where
  go : Nat → Hp → Prop
  yld : Nat → Hp → V → Hp → Prop
  stop : Nat → Hp → Prop
/-- the iterator's own objects may turn: they are not the frame's, not pinned, younger than the entry (or a comprehension's own) -/
def FpOk (X : Cx) (pins : List (Addr × Obj)) (H : Hp) (b : Addr) : Prop :=
  H b = none ∧ b ≠ X.env.locals ∧ b ∉ X.fs ∧ (b ∈ X.ex ∨ X.s₀.heap.objs.size ≤ b) ∧ (∀ x c, X.env.cells.lookup x = some c → c ≠ b) ∧ ∀ p ∈ X.pn ++ pins, p.1 ≠ b
theorem Inv.fpOk {X : Cx} {pins : List (Addr × Obj)} {σ : St} {H H' : Hp} {s : Shared} {b : Addr} (I : Inv X pins σ H s) (hb : s.heap.objs.size ≤ b) (hn : H' b = none) : FpOk X pins H' b := by
  refine ⟨hn, Nat.ne_of_gt (Nat.lt_of_lt_of_le I.lt hb), I.nofs hb, .inr (Nat.le_trans I.sz hb), fun x c e z => ?_, fun p hp z => ?_⟩
  · obtain ⟨v, q⟩ := I.cell x c e
    exact absurd (Nat.lt_of_lt_of_le q.lt (by rw [z]; exact hb)) (Nat.lt_irrefl _)
  · exact absurd (Nat.lt_of_lt_of_le (Heap.lt_size (I.pin p hp).1) (by rw [z]; exact hb)) (Nat.lt_irrefl _)
structure Turn (P : Program) (w : World) (K : PySem.W.Frag) (tg : Expr) (J : It) (fp : List Addr) (it : Addr) (tn : Nat → Heap → Prop) : Prop where
  mem : it ∈ fp
  obj : ∀ i h, tn i h → ∀ b ∈ fp, ∃ o, h.get? b = some o ∧ ∀ v, o.data ≠ .cell v
  keep : ∀ i h h', tn i h → (∀ b ∈ fp, ∀ o, h.get? b = some o → h'.get? b = some o) → tn i h'
  item : ∀ (X : Cx), X.prog = P → X.w = w → X.K = K → X.calm = true → ∀ (i : Nat) (pins : List (Addr × Obj)) (s : Shared) (σ : St) (H : Hp) (E : Value → Shared → Prop), Inv X pins σ H s → (∀ b ∈ fp, FpOk X pins H b) → tn i s.heap → J.go i H →
    wpAny (model P w) X.A (pyNext (.ref it)) (fun r s1 => ∃ u, r = some u ∧
      wpAny (model P w) X.A (letOwnedTupleGo tg (.ref it) u) (fun _ s2 => ∃ x H', Inv X pins σ H' s2 ∧ RelV x u ∧ J.yld i H x H' ∧ tn (i + 1) s2.heap ∧ ∀ b ∈ fp, H' b = none) E s1) E s
  done : ∀ (X : Cx), X.prog = P → X.w = w → X.K = K → X.calm = true → ∀ (i : Nat) (pins : List (Addr × Obj)) (s : Shared) (σ : St) (H : Hp) (E : Value → Shared → Prop), Inv X pins σ H s → (∀ b ∈ fp, FpOk X pins H b) → tn i s.heap → J.stop i H →
    wpAny (model P w) X.A (pyNext (.ref it)) (fun r s1 => r = none ∧ Inv X pins σ H s1) E s
  self : ∀ (A : Around) (i : Nat) (s : Shared) (Q : Value → Shared → Prop) (E : Value → Shared → Prop), tn i s.heap → Q (.ref it) s → wpAny (model P w) A (pyIter (.ref it)) Q E s
abbrev TI := St → Hp → (It → Hp → Prop) → Prop
/-- an iterator has come -/
def PIE (X : Cx) (pins : List (Addr × Obj)) (σ : St) (tg : Expr) (R : It → Hp → Prop) (itv : Value) (s2 : Shared) : Prop :=
  ∃ (it : Addr) (fp : List Addr) (tn : Nat → Heap → Prop) (J : It) (H' : Hp), itv = .ref it ∧ Inv X pins σ H' s2 ∧ Turn X.prog X.w X.K tg J fp it tn ∧ tn 0 s2.heap ∧ (∀ b ∈ fp, FpOk X pins H' b) ∧ R J H'
def PI (X : Cx) (tg iter : Expr) (wi : TI) : Prop :=
  ∀ (pins : List (Addr × Obj)) (s : Shared) (σ : St) (H : Hp) (R : It → Hp → Prop), Inv X pins σ H s → wi σ H R →
    wpAny (model X.prog X.w) X.A (eval iter X.env) (fun v s1 => wpAny (model X.prog X.w) X.A (pyIter v) (PIE X pins σ tg R) X.xe s1) X.xe s

/-- the step ahead of the store is nothing for an iterator that keeps no tuple -/
theorem go_of {M : Model} {A : Around} {E : Value → Shared → Prop} {s : Shared} {tg : Expr} {it : Addr} {u : Value} {o : Obj} {n : String} {vs : Array Value} {Q : Unit → Shared → Prop} (ho : s.heap.get? it = some o) (hc : o.cls = .type n) (hd : o.data = .fields vs)
    (hn : ["enumerate", "zip", "dict_itemiterator", "dict_reverseitemiterator", "odict_iterator", "itertools.zip_longest", "itertools.pairwise"].contains n = false) (hQ : Q () s) : wpAny M A (letOwnedTupleGo tg (.ref it) u) Q E s := by
  unfold letOwnedTupleGo
  cases tg <;> first
    | exact wpAny_pure hQ
    | (cases u <;> first
        | exact wpAny_pure hQ
        | (refine wpAny_bind (wpAny_load ho ?_)
           rw [hc, hd]
           show wpAny M A (if (["enumerate", "zip", "dict_itemiterator", "dict_reverseitemiterator", "odict_iterator", "itertools.zip_longest", "itertools.pairwise"].contains n && vs[0]? == some (rawInt _)) = true then _ else _) Q E s
           rw [if_neg (by intro h; rw [hn, Bool.false_and] at h; cases h)]
           exact wpAny_pure hQ))

/-- the list at a, as it stands at each turn (a loop may append to it) -/
def Itl (K : PySem.W.Frag) (a : Addr) : It :=
  ⟨fun i H => ∃ xs x, SqL K H a xs ∧ xs[i]? = some x, fun i H x H' => H' = H ∧ ∀ xs, SqL K H a xs → xs[i]? = some x, fun i H => ∃ xs, SqL K H a xs ∧ xs.length ≤ i⟩
def Itt (K : PySem.W.Frag) (a : Addr) : It :=
  ⟨fun i H => ∃ xs x, SqT K H a xs ∧ xs[i]? = some x, fun i H x H' => H' = H ∧ ∀ xs, SqT K H a xs → xs[i]? = some x, fun i H => ∃ xs, SqT K H a xs ∧ xs.length ≤ i⟩
/-- lo, lo + 1, .. (n of them) -/
def Itr (lo : Int) (n : Nat) : It := ⟨fun i _ => i < n, fun i H x H' => H' = H ∧ x = .int (lo + i), fun i _ => n ≤ i⟩
theorem turn_list {P : Program} {w : World} {K : PySem.W.Frag} {tg : Expr} (a it : Addr) : Turn P w K tg (Itl K a) [it] it (fun i h => h.IsListIter it a i) where
  mem := by simp
  obj := fun i h st b hb => by
    have e : b = it := by simpa using hb
    subst e
    obtain ⟨o, e, c, d⟩ := st
    exact ⟨o, e, fun v z => by rw [d] at z; cases z⟩
  keep := fun i h h' st k => st.at fun o e => k it (by simp) o e
  item := by
    intro X hP hw hK hc i pins s σ H E I hf st hg
    subst hP hw hK
    obtain ⟨xs, x, hq, hx⟩ := hg
    obtain ⟨its, rv, p, hz⟩ := I.list hq
    obtain ⟨u, hu, ru⟩ := rv.get hx
    obtain ⟨f0, f1, f2, f3, f4, f5⟩ := hf it (by simp)
    refine wpAny_pyNext_list_item st p.isList (x := u) (by simpa using hu) fun h' st' sb => ?_
    have I1 : Inv X pins σ H { s with heap := h' } := I.turned (t' := s.toks) (fun b o hb e => (sb.2 b hb).trans e) f0 f1 f3 f4 f5
    obtain ⟨o, e, c, d⟩ := id st'
    exact ⟨u, rfl, go_of (s := { s with heap := h' }) e c d (by decide) ⟨x, H, I1, ru, ⟨rfl, fun ys hy => by rw [I.list_inj hy hq]; exact hx⟩, st', fun b hb => (hf b hb).1⟩⟩
  done := by
    intro X hP hw hK hc i pins s σ H E I hf st hg
    subst hP hw hK
    obtain ⟨xs, hq, hx⟩ := hg
    obtain ⟨its, rv, p, hz⟩ := I.list hq
    obtain ⟨f0, f1, f2, f3, f4, f5⟩ := hf it (by simp)
    have hl := rv.length
    exact wpAny_pyNext_list_end (I.ok.hd hc) st p.isList (by simp; omega) fun h' eb => ⟨rfl, I.turned (t' := s.toks) (fun b o hb e => eb b o hb e) f0 f1 f3 f4 f5⟩
  self := fun _ _ _ _ _ st h => wpAny_pyIter_listiter st h
theorem turn_range {P : Program} {w : World} {K : PySem.W.Frag} {tg : Expr} (it : Addr) (lo : Int) (n : Nat) : Turn P w K tg (Itr lo n) [it] it (fun i h => IsRangeIter h it (lo + (i : Nat) * 1) ((n : Int) - (i : Nat)) 1) where
  mem := by simp
  obj := fun i h st b hb => by
    have e : b = it := by simpa using hb
    subst e
    exact ⟨_, st, fun v z => by
      have z' : Data.fields _ = Data.cell v := z
      cases z'⟩
  keep := fun i h h' st k => k it (by simp) _ st
  item := by
    intro X hP hw hK hc i pins s σ H E I hf st hg
    subst hP hw hK
    obtain ⟨f0, f1, f2, f3, f4, f5⟩ := hf it (by simp)
    have W := Walks.range (prog := X.prog) (w := X.w) (I.ok.hd hc) it lo 1 n
    refine W.item i s _ _ hg st fun v h' tk hv st' kk => ?_
    obtain ⟨t, rfl⟩ := hv
    have I1 : Inv X pins σ H { s with heap := h', toks := tk } := I.turned (fun b o hb e => kk b o (by simpa using hb) e) f0 f1 f3 f4 f5
    refine ⟨_, rfl, go_of (s := { s with heap := h', toks := tk }) (n := "range_iterator") st' rfl rfl (by decide) ⟨.int (lo + i), H, I1, ⟨t, ?_⟩, ⟨rfl, rfl⟩, st', fun b hb => (hf b hb).1⟩⟩
    rw [Int.mul_one]
  done := by
    intro X hP hw hK hc i pins s σ H E I hf st hg
    subst hP hw hK
    obtain ⟨f0, f1, f2, f3, f4, f5⟩ := hf it (by simp)
    exact wpAny_pyNext_range_end (I.ok.hd hc) st (by have : n ≤ i := hg; omega) fun h' eb => ⟨rfl, I.turned (t' := s.toks) (fun b o hb e => eb b o hb e) f0 f1 f3 f4 f5⟩
  self := fun _ _ _ _ _ st h => wpAny_pyIter_rangeiter st h
end L2

namespace L2
open PySem PySem.Spec PyProof.Rows
section
variable {X : Cx} {tg : Expr}
def iList (K : PySem.W.Frag) (tl : TE) : TI := fun σ H R => tl σ H fun x H1 => ∃ a, x = .ref a ∧ (∃ xs, SqL K H1 a xs) ∧ R (Itl K a) H1
def iTup (K : PySem.W.Frag) (tl : TE) : TI := fun σ H R => tl σ H fun x H1 => ∃ a, x = .ref a ∧ (∃ xs, SqT K H1 a xs) ∧ R (Itt K a) H1
theorem pi_list {l : Expr} {tl : TE} (hl : PE X l tl) : PI X tg l (iList X.K tl) := by
  intro pins s σ H R I h
  refine thn (hl pins s σ H _ I h) fun v s1 ⟨x, H1, I1, r1, q1⟩ => ?_
  obtain ⟨a, e, ⟨xs, hq⟩, q⟩ := q1
  subst e
  cases r1
  obtain ⟨its, rv, p, hz⟩ := I1.list hq
  refine wpAny_pyIter_list p.isList ?_
  refine ⟨s1.heap.objs.size, [s1.heap.objs.size], _, _, H1, rfl, I1.kept (t' := s1.toks) fun b o e => Heap.get?_push_of_some _ e, turn_list a _, ⟨_, Heap.get?_push_size _ rfl, rfl, rfl⟩, fun b hb => ?_, q⟩
  have e : b = s1.heap.objs.size := by simpa using hb
  subst e
  exact I1.fpOk (Nat.le_refl _) (I1.hok.fresh (Nat.le_refl _))
/-- a range object just made, walked -/
theorem range_it {pins : List (Addr × Obj)} {σ : St} {H : Hp} {s : Shared} {R : It → Hp → Prop} {E : Value → Shared → Prop} {lo hi : Int} {t u v : Tok} {tk : Nat} (I : Inv X pins σ H s) (h1 : -(2 ^ 62) ≤ lo) (h2 : lo < 2 ^ 62) (h3 : -(2 ^ 62) ≤ hi) (h4 : hi < 2 ^ 62)
    (q : R (Itr lo (hi - lo).toNat) H) : wpAny (model X.prog X.w) X.A (pyIter (.ref s.heap.objs.size)) (PIE X pins σ tg R) E { s with heap := s.heap.push { cls := .type "range", data := .fields #[.int lo t, .int hi u, .int 1 v] }, toks := tk } := by
  refine wpAny_pyIter_range (IsRange.new ..) (small_one h1 h2 h3 h4) ?_
  have I1 : Inv X pins σ H { s with heap := s.heap.push { cls := .type "range", data := .fields #[.int lo t, .int hi u, .int 1 v] }, toks := tk } := I.kept fun b o e => Heap.get?_push_of_some _ e
  refine ⟨(s.heap.push { cls := .type "range", data := .fields #[.int lo t, .int hi u, .int 1 v] }).objs.size, [(s.heap.push { cls := .type "range", data := .fields #[.int lo t, .int hi u, .int 1 v] }).objs.size], _, _, H, rfl,
    I1.kept (t' := tk) fun b o e => Heap.get?_push_of_some _ e, turn_range _ lo (hi - lo).toNat, ?_, fun b hb => ?_, q⟩
  · have e1 : lo + ((0 : Nat) : Int) * 1 = lo := by simp
    have e2 : (((hi - lo).toNat : Nat) : Int) - ((0 : Nat) : Int) = Builtin.Range.rangeSize lo hi 1 := by rw [rangeSize_one]; split <;> omega
    show IsRangeIter _ _ (lo + ((0 : Nat) : Int) * 1) ((((hi - lo).toNat : Nat) : Int) - ((0 : Nat) : Int)) 1
    rw [e1, e2]
    exact Heap.get?_push_size _ rfl
  · have e : b = (s.heap.push { cls := .type "range", data := .fields #[.int lo t, .int hi u, .int 1 v] }).objs.size := by simpa using hb
    subst e
    exact I1.fpOk (Nat.le_refl _) (I1.hok.fresh (Nat.le_refl _))
def iRng1 (ta : TA) : TI := fun σ H R => ta σ H fun vs H1 => ∃ j : Int, vs = [.int j] ∧ -(2 ^ 62) ≤ j ∧ j < 2 ^ 62 ∧ R (Itr 0 j.toNat) H1
def iRng2 (ta : TA) : TI := fun σ H R => ta σ H fun vs H1 => ∃ i j : Int, vs = [.int i, .int j] ∧ (-(2 ^ 62) ≤ i ∧ i < 2 ^ 62 ∧ -(2 ^ 62) ≤ j ∧ j < 2 ^ 62) ∧ R (Itr i (j - i).toNat) H1
theorem pi_range1 {a : Expr} {ta : TA} {p pos : Pos} (hg : Gl X "range") (hm : X.mg "range" = none) (ha : PA X [a] ta) (hs : starEach [a] X.env = [(false, eval a X.env)] := by rfl) : PI X tg (.Call (.Name "range" p) [a] [] pos) (iRng1 ta) := by
  intro pins s σ H R I h
  refine Call_ (ld_blt I hg hm boot_range (PyProof.Rows.callWith_type1 (thn (ha pos pins s σ H _ I h) fun us s1 ⟨vs, H1, I1, r1, q1⟩ => ?_) hs rfl))
  obtain ⟨j, e, q1, q2, q⟩ := q1
  subst e
  cases r1 with
  | cons r rr =>
    cases rr
    obtain ⟨t, rfl⟩ := r
    exact call_range_1 (range_it I1 (by omega) (by omega) q1 q2 (by simpa using q))
theorem pi_range2 {a b : Expr} {ta : TA} {p pos : Pos} (hg : Gl X "range") (hm : X.mg "range" = none) (ha : PA X [a, b] ta) (hs : starEach [a, b] X.env = [(false, eval a X.env), (false, eval b X.env)] := by rfl) (hs2 : starEach [b] X.env = [(false, eval b X.env)] := by rfl) :
    PI X tg (.Call (.Name "range" p) [a, b] [] pos) (iRng2 ta) := by
  intro pins s σ H R I h
  refine Call_ (ld_blt I hg hm boot_range (PyProof.Rows.callWith_type1 (thn (ha pos pins s σ H _ I h) fun us s1 ⟨vs, H1, I1, r1, q1⟩ => ?_) (by rw [hs, hs2]) (by rw [hs2]; rfl)))
  obtain ⟨i, j, e, ⟨q1, q2, q3, q4⟩, q⟩ := q1
  subst e
  cases r1 with
  | cons r rr =>
    cases rr with
    | cons r' rr =>
      cases rr
      obtain ⟨t, rfl⟩ := r
      obtain ⟨t', rfl⟩ := r'
      exact call_range_2 (range_it I1 q1 q2 q3 q4 q)

/-! ### for -/
/-- W: the invariant by the turn and a measure; N: what the body is to reach -/
def tFor (wi : TI) (g : TG) (tb : TS) : TS := fun D σ H => wi σ H fun J H1 => ∃ W : Nat → Nat → St → Hp → Prop, (∃ m, W 0 m σ H1) ∧ ∀ i m σ H, W i m σ H →
  (J.stop i H ∧ D.nx σ H) ∨ (J.go i H ∧ ∃ N : St → Hp → Prop, (∀ σ' H', N σ' H' → ∃ m', m' < m ∧ W (i + 1) m' σ' H') ∧ ∀ x H', J.yld i H x H' → g x σ H' fun σ2 H2 => tb { D with nx := N, ct := N, bk := D.nx } σ2 H2)
/-- the records at fp as they stand -/
def pinsAt (fp : List Addr) (h : Heap) : List (Addr × Obj) := fp.filterMap fun b => (h.get? b).map fun o => (b, o)
theorem mem_pinsAt {fp : List Addr} {h : Heap} {b : Addr} {o : Obj} (hb : b ∈ fp) (e : h.get? b = some o) : (b, o) ∈ pinsAt fp h := List.mem_filterMap.mpr ⟨b, hb, by rw [e]; rfl⟩
theorem of_pinsAt {fp : List Addr} {h : Heap} {p : Addr × Obj} (hp : p ∈ pinsAt fp h) : p.1 ∈ fp ∧ h.get? p.1 = some p.2 := by
  obtain ⟨b, hb, e⟩ := List.mem_filterMap.mp hp
  cases q : h.get? b with
  | none => rw [q] at e; cases e
  | some o =>
    rw [q] at e
    have e' : (b, o) = p := Option.some.inj e
    subst e'
    exact ⟨hb, q⟩
theorem Inv.pinned {pins : List (Addr × Obj)} {σ : St} {H : Hp} {s : Shared} {fp : List Addr} (I : Inv X pins σ H s) (hf : ∀ b ∈ fp, FpOk X pins H b) (ho : ∀ b ∈ fp, ∃ o, s.heap.get? b = some o ∧ ∀ v, o.data ≠ .cell v) : Inv X (pins ++ pinsAt fp s.heap) σ H s :=
  I.pins_of fun p hp => (List.mem_append.mp hp).elim (fun z => I.pin p (List.mem_append_right _ z)) fun z => by
    obtain ⟨hb, e⟩ := of_pinsAt z
    obtain ⟨f0, f1, f2, _⟩ := hf p.1 hb
    obtain ⟨o, e', d⟩ := ho p.1 hb
    rw [e] at e'; cases e'
    exact ⟨e, f0, f1, f2, d⟩
theorem Inv.unpinned {pins pl : List (Addr × Obj)} {σ : St} {H : Hp} {s : Shared} (I : Inv X (pins ++ pl) σ H s) : Inv X pins σ H s := I.pins_of fun p hp => I.pin p (List.mem_append_right _ (List.mem_append_left _ hp))
theorem ps_for {iter : Expr} {body : List Stmt} {wi : TI} {g : TG} {tb : TS} {pos : Pos} (hp : PassesOwn (model X.prog X.w) X.A X.env X.xe) (hc : X.calm = true) (hi : PI X tg iter wi) (hg : PG X tg g) (hb : PSs X body tb)
    (hs : ∀ x, foldedSetIterable iter X.env x = pure x := by intro _; rfl) : PS X (.For tg iter body [] pos) (tFor wi g tb) := by
  intro pins s σ H D I h
  refine wpAny_For (thn (hi pins s σ H _ I h) fun v s1 h1 => thn h1 fun itv s2 h2 => ?_) hs
  obtain ⟨it, fp, tn, J, H2, e, I2, T, st2, f2, W, ⟨m0, w0⟩, turn⟩ := h2
  subst e
  -- what stays true of the iterator's objects through the loop
  have stat : ∀ {H' : Hp}, (∀ b ∈ fp, H' b = none) → ∀ b ∈ fp, FpOk X pins H' b := fun hn b hb => ⟨hn b hb, (f2 b hb).2⟩
  refine codeAny_forLoop_any (fun n s' => ∃ i σ' H', Inv X pins σ' H' s' ∧ tn i s'.heap ∧ (∀ b ∈ fp, H' b = none) ∧ W i n σ' H') ?_ m0 ⟨0, σ, H2, I2, st2, fun b hb => (f2 b hb).1, w0⟩
  rintro n s3 ⟨i, σ3, H3, I3, st3, fr3, w3⟩
  rcases turn i n σ3 H3 w3 with ⟨stop, qn⟩ | ⟨go, N, hN, step⟩
  · refine wpAny_passesOwn hp (thn (T.done X rfl rfl rfl hc i pins s3 σ3 H3 X.xe I3 (stat fr3) st3 stop) fun r s4 ⟨hr, I4⟩ => ?_)
    subst hr
    exact wpAny_execs_nil ⟨σ3, H3, I4, qn⟩
  · refine wpAny_passesOwn hp (thn (T.item X rfl rfl rfl hc i pins s3 σ3 H3 X.xe I3 (stat fr3) st3 go) fun r s4 ⟨u, hr, h4⟩ => ?_)
    subst hr
    refine wpAny_passesOwn hp (thn h4 fun _ s5 ⟨x, H5, I5, r5, y5, st5, fr5⟩ => ?_)
    have I5' := I5.pinned (stat fr5) (T.obj _ _ st5)
    refine wpAny_passesOwn hp (thn (hg _ s5 σ3 H5 x u _ I5' r5 (step x H5 y5)) fun _ s6 ⟨σ6, H6, I6, q6⟩ => ?_)
    refine wpAny_passesOwn hp (thn (hb _ s6 σ6 H6 _ I6 q6) fun f s7 q7 => ?_)
    have again : ∀ {σ7 : St} {H7 : Hp}, Inv X (pins ++ pinsAt fp s5.heap) σ7 H7 s7 → N σ7 H7 → ∃ m, m < n ∧ ∃ i σ' H', Inv X pins σ' H' s7 ∧ tn i s7.heap ∧ (∀ b ∈ fp, H' b = none) ∧ W i m σ' H' := fun {σ7 H7} I7 n7 => by
      obtain ⟨m', hm, w7⟩ := hN σ7 H7 n7
      refine ⟨m', hm, i + 1, σ7, H7, I7.unpinned, T.keep _ _ _ st5 fun b hb o e => (I7.pin (b, o) (List.mem_append_right _ (List.mem_append_right _ (mem_pinsAt hb e)))).1, fun b hb => ?_, w7⟩
      obtain ⟨o, e, d⟩ := T.obj _ _ st5 b hb
      exact (I7.pin (b, o) (List.mem_append_right _ (List.mem_append_right _ (mem_pinsAt hb e)))).2.1
    cases f with
    | next => obtain ⟨σ7, H7, I7, n7⟩ := q7; exact again I7 n7
    | cont => obtain ⟨σ7, H7, I7, n7⟩ := q7; exact again I7 n7
    | brk => obtain ⟨σ7, H7, I7, q7⟩ := q7; exact ⟨σ7, H7, I7.unpinned, q7⟩
    | ret v => obtain ⟨x7, σ7, H7, I7, r7, q7⟩ := q7; exact ⟨x7, σ7, H7, I7.unpinned, r7, q7⟩
end

/-! ### the forms one uses -/
theorem for_range {lo : Int} {n : Nat} {g : TG} {tb : TS} {D : Ends} {σ : St} {H : Hp} (Pv : Nat → St → Hp → Prop) (h0 : Pv 0 σ H)
    (hs : ∀ i σ H, i < n → Pv i σ H → g (.int (lo + i)) σ H fun σ2 H2 => tb { D with nx := Pv (i + 1), ct := Pv (i + 1), bk := D.nx } σ2 H2) (hd : ∀ σ H, Pv n σ H → D.nx σ H) :
    ∃ W : Nat → Nat → St → Hp → Prop, (∃ m, W 0 m σ H) ∧ ∀ i m σ H, W i m σ H →
      ((Itr lo n).stop i H ∧ D.nx σ H) ∨ ((Itr lo n).go i H ∧ ∃ N : St → Hp → Prop, (∀ σ' H', N σ' H' → ∃ m', m' < m ∧ W (i + 1) m' σ' H') ∧ ∀ x H', (Itr lo n).yld i H x H' → g x σ H' fun σ2 H2 => tb { D with nx := N, ct := N, bk := D.nx } σ2 H2) := by
  refine ⟨fun i m σ H => m = n - i ∧ i ≤ n ∧ Pv i σ H, ⟨n, by simp, Nat.zero_le _, h0⟩, ?_⟩
  rintro i m σ H ⟨rfl, hi, p⟩
  by_cases hlt : i < n
  · refine .inr ⟨hlt, Pv (i + 1), fun σ' H' p' => ⟨n - (i + 1), by omega, rfl, hlt, p'⟩, fun x H' y => ?_⟩
    obtain ⟨e, y⟩ := y
    subst e y
    exact hs i σ _ hlt p
  · have e : i = n := by omega
    subst e
    exact .inl ⟨Nat.le_refl _, hd σ H p⟩
end L2

namespace L2
open PySem PySem.Spec PyProof.Rows

abbrev R2 := V → V → Hp → VK → Prop
/-- a two-place operation on values: f is binaryOp op, inplaceOp op or compareOp op -/
def OpR (X : Cx) (f : Value → Value → Sem Value) (r : R2) : Prop :=
  ∀ (pins : List (Addr × Obj)) (s : Shared) (σ : St) (H : Hp) (x y : V) (v u : Value) (Q : VK), Inv X pins σ H s → RelV x v → RelV y u → r x y H Q →
    wpAny (model X.prog X.w) X.A (f v u) (EP X pins σ Q) X.xe s
/-- a one-place operation -/
def UnR (X : Cx) (f : Value → Sem Value) (r : V → Hp → VK → Prop) : Prop :=
  ∀ (pins : List (Addr × Obj)) (s : Shared) (σ : St) (H : Hp) (x : V) (v : Value) (Q : VK), Inv X pins σ H s → RelV x v → r x H Q →
    wpAny (model X.prog X.w) X.A (f v) (EP X pins σ Q) X.xe s
/-- a call of a value that is known (a builtin, a type) with values -/
def CallR (X : Cx) (f : Value) (r : List V → Hp → VK → Prop) : Prop :=
  ∀ (pins : List (Addr × Obj)) (s : Shared) (σ : St) (H : Hp) (xs : List V) (us : List Value) (Q : VK), Inv X pins σ H s → Vals xs us → r xs H Q →
    wpAny (model X.prog X.w) X.A (call f us) (EP X pins σ Q) X.xe s
/-- a value's truth -/
def TruR (X : Cx) (r : V → Hp → (Bool → Hp → Prop) → Prop) : Prop :=
  ∀ (pins : List (Addr × Obj)) (s : Shared) (σ : St) (H : Hp) (x : V) (v : Value) (Q : Bool → Hp → Prop), Inv X pins σ H s → RelV x v → r x H Q →
    wpAny (model X.prog X.w) X.A (truthy v) (TP X pins σ Q) X.xe s

def tOp (r : R2) (ta tb : TE) : TE := fun σ H Q => ta σ H fun x H1 => tb σ H1 fun y H2 => r x y H2 Q
def tUn (r : V → Hp → VK → Prop) (ta : TE) : TE := fun σ H Q => ta σ H fun x H1 => r x H1 Q
/-- ints in, under C, and a value out -/
def rI (C : Int → Int → Prop) (g : Int → Int → V) : R2 := fun x y H Q => ∃ i j, x = .int i ∧ y = .int j ∧ C i j ∧ Q (g i j) H
def rI0 (g : Int → Int → V) : R2 := fun x y H Q => ∃ i j, x = .int i ∧ y = .int j ∧ Q (g i j) H
def rU (g : Int → V) : V → Hp → VK → Prop := fun x H Q => ∃ i, x = .int i ∧ Q (g i) H

section
variable {X : Cx} {a b c : Expr} {ta tb tc : TE} {pos : Pos}

theorem binT (ha : PE X a ta) (hb : PE X b tb) {pins : List (Addr × Obj)} {s : Shared} {σ : St} {H : Hp} {R : V → V → Hp → Prop} (I : Inv X pins σ H s)
    (h : ta σ H fun x H1 => tb σ H1 fun y H2 => R x y H2) {Q : Value → Shared → Prop} {f : Value → Value → Sem Value}
    (hf : ∀ v u s2 x y H2, Inv X pins σ H2 s2 → RelV x v → RelV y u → R x y H2 → wpAny (model X.prog X.w) X.A (f v u) Q X.xe s2) :
    wpAny (model X.prog X.w) X.A (eval a X.env) (fun v s₁ => wpAny (model X.prog X.w) X.A (eval b X.env) (fun u s₂ => wpAny (model X.prog X.w) X.A (f v u) Q X.xe s₂) X.xe s₁) X.xe s := by
  refine thn (ha pins s σ H _ I h) fun v s1 ⟨x, H1, I1, r1, q1⟩ => ?_
  refine thn (hb pins s1 σ H1 _ I1 q1) fun u s2 ⟨y, H2, I2, r2, q2⟩ => ?_
  exact hf v u s2 x y H2 I2 r1 r2 q2

theorem pe_op {op : Operator} {r : R2} (ho : OpR X (binaryOp op) r) (ha : PE X a ta) (hb : PE X b tb) : PE X (.BinOp a op b pos) (tOp r ta tb) := by
  intro pins s σ H Q I h
  exact wpAny_BinOp (binT ha hb I h fun v u s2 x y H2 I2 rx ry q => ho pins s2 σ H2 x y v u Q I2 rx ry q)
theorem pe_un {op : UnaryOp} {r : V → Hp → VK → Prop} (ho : UnR X (unaryOp op) r) (ha : PE X a ta) : PE X (.UnaryOp op a pos) (tUn r ta) := by
  intro pins s σ H Q I h
  exact UnaryOp_ (thn (ha pins s σ H _ I h) fun v s1 ⟨x, H1, I1, r1, q1⟩ => ho pins s1 σ H1 x v Q I1 r1 q1)
/-! ### ints -/
theorem opI {f : Value → Value → Sem Value} {C : Int → Int → Prop} {g : Int → Int → Int}
    (rule : ∀ (i j : Int) (t u : Tok) (s : Shared) (Q : Value → Shared → Prop) (E : Value → Shared → Prop), C i j → Q (.int (g i j) s.toks) { s with toks := s.toks + 1 } → wpAny (model X.prog X.w) X.A (f (.int i t) (.int j u)) Q E s) :
    OpR X f (rI C fun i j => .int (g i j)) := by
  intro pins s σ H x y v u Q I rx ry h
  obtain ⟨i, j, rfl, rfl, hc, q⟩ := h
  obtain ⟨t, rfl⟩ := rx
  obtain ⟨t', rfl⟩ := ry
  exact rule i j t t' s _ _ hc ⟨.int (g i j), H, I.tok _, ⟨_, rfl⟩, q⟩
theorem opI0 {f : Value → Value → Sem Value} {g : Int → Int → Int}
    (rule : ∀ (i j : Int) (t u : Tok) (s : Shared) (Q : Value → Shared → Prop) (E : Value → Shared → Prop), Q (.int (g i j) s.toks) { s with toks := s.toks + 1 } → wpAny (model X.prog X.w) X.A (f (.int i t) (.int j u)) Q E s) :
    OpR X f (rI0 fun i j => .int (g i j)) := by
  intro pins s σ H x y v u Q I rx ry h
  obtain ⟨i, j, rfl, rfl, q⟩ := h
  obtain ⟨t, rfl⟩ := rx
  obtain ⟨t', rfl⟩ := ry
  exact rule i j t t' s _ _ ⟨.int (g i j), H, I.tok _, ⟨_, rfl⟩, q⟩
theorem opB0 {f : Value → Value → Sem Value} {g : Int → Int → Bool}
    (rule : ∀ (i j : Int) (t u : Tok) (s : Shared) (Q : Value → Shared → Prop) (E : Value → Shared → Prop), Q (.bool (g i j)) s → wpAny (model X.prog X.w) X.A (f (.int i t) (.int j u)) Q E s) :
    OpR X f (rI0 fun i j => .bl (g i j)) := by
  intro pins s σ H x y v u Q I rx ry h
  obtain ⟨i, j, rfl, rfl, q⟩ := h
  obtain ⟨t, rfl⟩ := rx
  obtain ⟨t', rfl⟩ := ry
  exact rule i j t t' s _ _ ⟨.bl (g i j), H, I, rfl, q⟩

def CDiv (i j : Int) : Prop := 0 < j ∧ j < 1073741824
def CDivN (i j : Int) : Prop := j ≠ 0 ∧ j.natAbs < 1073741824
def CPow (i j : Int) : Prop := 0 ≤ j ∧ j ≤ 1000000 ∧ i.natAbs < 2 ^ 64
def CMul (i j : Int) : Prop := (-(2 ^ 64) < i ∧ i < 2 ^ 64) ∨ (-(2 ^ 64) < j ∧ j < 2 ^ 64)
theorem CMul.ok {i j : Int} (h : CMul i j) : IntMulOk i j := by
  rcases h with ⟨h1, h2⟩ | ⟨h1, h2⟩
  · exact .of_left (intBits_le_64 h1 h2)
  · exact .of_right (intBits_le_64 h1 h2)
theorem op_add : OpR X (binaryOp .Add) (rI0 fun i j => .int (i + j)) := opI0 fun _ _ _ _ _ _ _ q => add_int q
theorem op_sub : OpR X (binaryOp .Sub) (rI0 fun i j => .int (i - j)) := opI0 fun _ _ _ _ _ _ _ q => sub_int q
theorem op_mul : OpR X (binaryOp .Mult) (rI CMul fun i j => .int (i * j)) := opI fun _ _ _ _ _ _ _ hc q => mul_int q hc.ok
/-- // by a positive divisor -/
theorem op_fdiv : OpR X (binaryOp .FloorDiv) (rI CDiv fun i j => .int (i / j)) := opI fun i j _ _ _ _ _ hc q => by
  have h1 : (0 : Int) < j := hc.1
  have h2 : j < 1073741824 := hc.2
  exact floordiv_int (by omega) (by rw [Int.fdiv_eq_ediv_of_nonneg i (by omega)]; exact q) (.inl (PyProof.noPylong_small (by omega)))
/-- % by a positive divisor of any size -/
theorem op_mod : OpR X (binaryOp .Mod) (rI (fun _ j => 0 < j) fun i j => .int (i % j)) := opI fun i j _ _ _ _ _ hc q => by
  have h1 : (0 : Int) < j := hc
  exact mod_int' (by omega) (by rw [Int.fmod_eq_emod_of_nonneg i (by omega)]; exact q)
theorem op_pow : OpR X (binaryOp .Pow) (rI CPow fun i j => .int (i ^ j.toNat)) := opI fun _ _ _ _ _ _ _ hc q => pow_int_small hc.1 hc.2.1 hc.2.2 q
theorem unI {f : Value → Sem Value} {g : Int → Int}
    (rule : ∀ (i : Int) (t : Tok) (s : Shared) (Q : Value → Shared → Prop) (E : Value → Shared → Prop), Q (.int (g i) s.toks) { s with toks := s.toks + 1 } → wpAny (model X.prog X.w) X.A (f (.int i t)) Q E s) :
    UnR X f (rU fun i => .int (g i)) := by
  intro pins s σ H x v Q I rx h
  obtain ⟨i, rfl, q⟩ := h
  obtain ⟨t, rfl⟩ := rx
  exact rule i t s _ _ ⟨.int (g i), H, I.tok _, ⟨_, rfl⟩, q⟩
theorem un_neg : UnR X (unaryOp .USub) (rU fun i => .int (-i)) := unI fun _ _ _ _ _ q => neg_int q
/-! ### bools among ints: n += (a < b) -/
end

/-! ### comparisons -/
/-- the scalars that == tells apart as data does -/
def scal : V → V → Bool
  | .non, .non => true | .non, .int _ => true | .int _, .non => true | .non, .bl _ => true | .bl _, .non => true | .non, .str _ => true | .str _, .non => true
  | .int _, .int _ => true | .bl _, .bl _ => true | .str _, .str _ => true | .byt _, .byt _ => true
  | .int _, .str _ => true | .str _, .int _ => true | .bl _, .str _ => true | .str _, .bl _ => true
  | _, _ => false
def rEq : R2 := fun x y H Q => scal x y = true ∧ Q (.bl (decide (x = y))) H
def rNe : R2 := fun x y H Q => scal x y = true ∧ Q (.bl (!decide (x = y))) H

theorem dec_int {i j : Int} : decide (V.int i = V.int j) = (i == j) := by
  rw [Bool.eq_iff_iff]
  simp
theorem dec_bl {i j : Bool} : decide (V.bl i = V.bl j) = (i == j) := by
  rw [Bool.eq_iff_iff]
  simp
theorem dec_str {i j : Str} : decide (V.str i = V.str j) = (i == j) := by
  rw [Bool.eq_iff_iff]
  simp
theorem dec_byt {i j : Array UInt8} : decide (V.byt i = V.byt j) = (i.toList == j.toList) := by
  rw [Bool.eq_iff_iff]
  cases i
  cases j
  simp

section
variable {X : Cx} {a b c : Expr} {ta tb tc : TE} {pos : Pos}
theorem fin_bl {pins : List (Addr × Obj)} {σ : St} {H : Hp} {s : Shared} {Q : VK} {k k' : Bool} (I : Inv X pins σ H s) (q : Q (.bl k) H) (e : k = k') : EP X pins σ Q (.bool k') s := by
  subst e
  exact ⟨.bl k, H, I, rfl, q⟩
theorem op_eq : OpR X (compareOp .Eq) rEq := by
  intro pins s σ H x y v u Q I rx ry h
  obtain ⟨hs, q⟩ := h
  cases x with
  | non =>
    cases rx
    cases y with
    | non => cases ry; exact PySem.EqNone.eq_none_none (fin_bl I q (by simp))
    | bl j => cases ry; exact PySem.EqNone.eq_none_bool (fin_bl I q (by simp))
    | int j => obtain ⟨t', rfl⟩ := ry; exact PySem.EqNone.eq_none_int (fin_bl I q (by simp))
    | str j => obtain ⟨t', rfl⟩ := ry; exact PySem.EqNone.eq_none_str (fin_bl I q (by simp))
    | _ => exact absurd (show false = true from hs) Bool.false_ne_true
  | bl i =>
    cases rx
    cases y with
    | non => cases ry; exact PySem.EqNone.eq_bool_none (fin_bl I q (by simp))
    | bl j => cases ry; exact eq_bool (fin_bl I q dec_bl)
    | str j => obtain ⟨t', rfl⟩ := ry; exact PySem.EqMixed.eq_bool_str (fin_bl I q (by simp))
    | _ => exact absurd (show false = true from hs) Bool.false_ne_true
  | int i =>
    obtain ⟨t, rfl⟩ := rx
    cases y with
    | non => cases ry; exact PySem.EqNone.eq_int_none (fin_bl I q (by simp))
    | int j => obtain ⟨t', rfl⟩ := ry; exact eq_int (fin_bl I q dec_int)
    | str j => obtain ⟨t', rfl⟩ := ry; exact PySem.EqMixed.eq_int_str (fin_bl I q (by simp))
    | _ => exact absurd (show false = true from hs) Bool.false_ne_true
  | str i =>
    obtain ⟨t, rfl⟩ := rx
    cases y with
    | non => cases ry; exact PySem.EqNone.eq_str_none (fin_bl I q (by simp))
    | bl j => cases ry; exact PySem.EqMixed.eq_str_bool (fin_bl I q (by simp))
    | int j => obtain ⟨t', rfl⟩ := ry; exact PySem.EqMixed.eq_str_int (fin_bl I q (by simp))
    | str j => obtain ⟨t', rfl⟩ := ry; exact eq_str (fin_bl I q dec_str)
    | _ => exact absurd (show false = true from hs) Bool.false_ne_true
  | byt i =>
    obtain ⟨t, rfl⟩ := rx
    cases y with
    | byt j => obtain ⟨t', rfl⟩ := ry; exact PySem.W.eq_bytes (fin_bl I q dec_byt)
    | _ => exact absurd (show false = true from hs) Bool.false_ne_true
  | _ => cases y <;> exact absurd (show false = true from hs) Bool.false_ne_true
theorem op_ne : OpR X (compareOp .NotEq) rNe := by
  intro pins s σ H x y v u Q I rx ry h
  obtain ⟨hs, q⟩ := h
  cases x with
  | non =>
    cases rx
    cases y with
    | non => cases ry; exact PySem.EqNone.ne_none_none (fin_bl I q (by simp))
    | bl j => cases ry; exact PySem.EqNone.ne_none_bool (fin_bl I q (by simp))
    | int j => obtain ⟨t', rfl⟩ := ry; exact PySem.EqNone.ne_none_int (fin_bl I q (by simp))
    | str j => obtain ⟨t', rfl⟩ := ry; exact PySem.EqNone.ne_none_str (fin_bl I q (by simp))
    | _ => exact absurd (show false = true from hs) Bool.false_ne_true
  | bl i =>
    cases rx
    cases y with
    | non => cases ry; exact PySem.EqNone.ne_bool_none (fin_bl I q (by simp))
    | bl j => cases ry; exact ne_bool (fin_bl I q (congrArg not dec_bl))
    | str j => obtain ⟨t', rfl⟩ := ry; exact PySem.EqMixed.ne_bool_str (fin_bl I q (by simp))
    | _ => exact absurd (show false = true from hs) Bool.false_ne_true
  | int i =>
    obtain ⟨t, rfl⟩ := rx
    cases y with
    | non => cases ry; exact PySem.EqNone.ne_int_none (fin_bl I q (by simp))
    | int j => obtain ⟨t', rfl⟩ := ry; exact ne_int (fin_bl I q (congrArg not dec_int))
    | str j => obtain ⟨t', rfl⟩ := ry; exact PySem.EqMixed.ne_int_str (fin_bl I q (by simp))
    | _ => exact absurd (show false = true from hs) Bool.false_ne_true
  | str i =>
    obtain ⟨t, rfl⟩ := rx
    cases y with
    | non => cases ry; exact PySem.EqNone.ne_str_none (fin_bl I q (by simp))
    | bl j => cases ry; exact PySem.EqMixed.ne_str_bool (fin_bl I q (by simp))
    | int j => obtain ⟨t', rfl⟩ := ry; exact PySem.EqMixed.ne_str_int (fin_bl I q (by simp))
    | str j => obtain ⟨t', rfl⟩ := ry; exact ne_str (fin_bl I q (congrArg not dec_str))
    | _ => exact absurd (show false = true from hs) Bool.false_ne_true
  | byt i =>
    obtain ⟨t, rfl⟩ := rx
    cases y with
    | byt j => obtain ⟨t', rfl⟩ := ry; exact PySem.W.ne_bytes (fin_bl I q (congrArg not dec_byt))
    | _ => exact absurd (show false = true from hs) Bool.false_ne_true
  | _ => cases y <;> exact absurd (show false = true from hs) Bool.false_ne_true

theorem op_lt : OpR X (compareOp .Lt) (rI0 fun i j => .bl (decide (i < j))) := opB0 fun _ _ _ _ _ _ _ q => lt_int q
theorem op_le : OpR X (compareOp .LtE) (rI0 fun i j => .bl (decide (i ≤ j))) := opB0 fun _ _ _ _ _ _ _ q => le_int q
theorem op_gt : OpR X (compareOp .Gt) (rI0 fun i j => .bl (decide (j < i))) := opB0 fun _ _ _ _ _ _ _ q => gt_int q
theorem op_ge : OpR X (compareOp .GtE) (rI0 fun i j => .bl (decide (j ≤ i))) := opB0 fun _ _ _ _ _ _ _ q => ge_int q
/-- is, is not of two objects that are tracked lists or instances -/
def isObj : HO → Bool
  | .lst _ => true
  | .ins _ _ _ => true
  | _ => false
/-- two rules for one operation: by cases -/
theorem OpR.or {f : Value → Value → Sem Value} {r r' : R2} (h : OpR X f r) (h' : OpR X f r') : OpR X f (fun x y H Q => r x y H Q ∨ r' x y H Q) := by
  intro pins s σ H x y v u Q I rx ry q
  rcases q with q | q
  · exact h pins s σ H x y v u Q I rx ry q
  · exact h' pins s σ H x y v u Q I rx ry q

theorem nomark (b : Expr) {op : CmpOp} (h : op ≠ .In := by decide) (h2 : op ≠ .NotIn := by decide) : behindInMarks op b = false := by
  have e1 : (op == CmpOp.In) = false := by cases op <;> first | rfl | exact absurd rfl h
  have e2 : (op == CmpOp.NotIn) = false := by cases op <;> first | rfl | exact absurd rfl h2
  cases b <;> simp [behindInMarks, e1, e2]
/-- a comparison as a value; hm: nomark b, or (for in, not in) by with_unfolding_all rfl -/
theorem pe_cmpR {op : CmpOp} {r : R2} (ho : OpR X (compareOp op) r) (ha : PE X a ta) (hb : PE X b tb) (hm : behindInMarks op b = false) : PE X (.Compare a [op] [b] pos) (tOp r ta tb) := by
  intro pins s σ H Q I h
  exact wpAny_Compare1 (binT ha hb I h fun v u s2 x y H2 I2 rx ry q => ho pins s2 σ H2 x y v u Q I2 rx ry q) hm
/-- a reading of a value as a test -/
def tTest (t : TE) : TT := fun σ H Q => t σ H fun x H' => ∃ k, x = .bl k ∧ Q k H'
theorem pt_cmpR {op : CmpOp} {r : R2} (ho : OpR X (compareOp op) r) (ha : PE X a ta) (hb : PE X b tb) (hm : behindInMarks op b = false) : PT X (.Compare a [op] [b] pos) (tTest (tOp r ta tb)) := by
  intro pins s σ H Q I h
  refine wpAny_isTrue_Compare1 (thn (ha pins s σ H _ I h) fun v s1 ⟨x, H1, I1, r1, q1⟩ => thn (hb pins s1 σ H1 _ I1 q1) fun u s2 ⟨y, H2, I2, r2, q2⟩ =>
    thn (ho pins s2 σ H2 x y v u _ I2 r1 r2 q2) fun c s3 ⟨z, H3, I3, r3, k, e, q3⟩ => ?_) hm
  subst e
  cases r3
  exact wpAny_truthy_bool ⟨H3, I3, q3⟩
/-- a op1 b op2 c -/
def tChain (r r' : R2) (ta tb tc : TE) : TE := fun σ H Q => ta σ H fun x H1 => tb σ H1 fun y H2 => r x y H2 fun z H3 => ∃ k, z = .bl k ∧
  (if k = true then tc σ H3 fun w' H4 => r' y w' H4 Q else Q (.bl false) H3)
theorem pt_chain {op op' : CmpOp} {r r' : R2} (ho : OpR X (compareOp op) r) (ho' : OpR X (compareOp op') r') (ha : PE X a ta) (hb : PE X b tb) (hc : PE X c tc)
    (hm : lastMarks [op, op'] [b, c] = false := by with_unfolding_all rfl) : PT X (.Compare a [op, op'] [b, c] pos) (tTest (tChain r r' ta tb tc)) := by
  intro pins s σ H Q I h
  refine isTrue_chain (thn (ha pins s σ H _ I h) fun v s1 ⟨x, H1, I1, r1, q1⟩ => test_link (thn (hb pins s1 σ H1 _ I1 q1) fun u s2 ⟨y, H2, I2, r2, q2⟩ =>
    thn (ho pins s2 σ H2 x y v u _ I2 r1 r2 q2) fun d s3 ⟨z, H3, I3, r3, k, e, q3⟩ => ?_)) hm
  subst e
  cases r3
  refine wpAny_truthy_bool ?_
  cases k with
  | false =>
    obtain ⟨k', e', q'⟩ := q3
    cases e'
    exact ite_ff ⟨H3, I3, q'⟩
  | true =>
    refine ite_tt (test_last (thn (hc pins s3 σ H3 _ I3 q3) fun w' s4 ⟨z', H4, I4, r4, q4⟩ => thn (ho' pins s4 σ H4 y z' u w' _ I4 r2 r4 q4) fun d' s5 ⟨z2, H5, I5, r5, k2, e2, q5⟩ => ?_))
    subst e2
    cases r5
    exact wpAny_truthy_bool ⟨H5, I5, q5⟩

/-! ### truth -/
/-- a value's truth by the abstract heap -/
def TruV (K : PySem.W.Frag) (x : V) (H : Hp) (k : Bool) : Prop :=
  match x with
  | .non => k = false
  | .bl b => k = b
  | .int i => k = (i != 0)
  | .str y => y.length ≤ sizeLine ∧ k = ((y.length : Int) != 0)
  | .byt y => y.size ≤ sizeLine ∧ k = ((y.size : Int) != 0)
  | .ref p => (∃ xs, SqL K H p xs ∧ k = !xs.isEmpty) ∨ (∃ xs, SqT K H p xs ∧ k = !xs.isEmpty) ∨ ∃ kvs, H p = some (.dK kvs) ∧ k = !kvs.isEmpty
  | _ => False
theorem line63 : (sizeLine : Nat) < 2 ^ 63 := by rw [sizeLine_eq]; decide
/-! ### strs and bytes -/
def PlainIxT (b : Expr) : Prop := ∀ o i, subscripted b false o i = operate [o, i] (getItem o i)
/-! ### scalar builtins, by CallR -/
theorem vals1 {x : V} {us : List Value} (r : Vals [x] us) : ∃ u, us = [u] ∧ RelV x u := by
  cases r with
  | cons r1 r2 => cases r2; exact ⟨_, rfl, r1⟩
theorem vals2 {x y : V} {us : List Value} (r : Vals [x, y] us) : ∃ u w', us = [u, w'] ∧ RelV x u ∧ RelV y w' := by
  cases r with
  | cons r1 r2 =>
    cases r2 with
    | cons r3 r4 => cases r4; exact ⟨_, _, rfl, r1, r3⟩
/-- len of a str, a bytes, a list, a tuple -/
def LenV (K : PySem.W.Frag) (x : V) (H : Hp) (n : Nat) : Prop :=
  match x with
  | .str y => y.length ≤ sizeLine ∧ n = y.length
  | .byt y => y.size ≤ sizeLine ∧ n = y.size
  | .ref p => (∃ xs, SqL K H p xs ∧ n = xs.length) ∨ ∃ xs, SqT K H p xs ∧ n = xs.length
  | _ => False
end
end L2

namespace L2
open PySem PySem.Spec PyProof.Rows

/-! ### an instance, its attributes a map -/
structure ObjM (h : Heap) (x dx C : Addr) (mA : Str → Option Value) : Prop where
  obj : h.get? x = some (PySem.W.instObj C dx)
  ns : h.Ns1 dx mA
  ne : dx ≠ x

theorem lookIn_ns {h : Heap} {dx : Addr} {mA : Str → Option Value} (n : h.Ns1 dx mA) : ∃ od, h.get? dx = some od ∧ ∀ name, PySem.W.lookIn name od = some (mA name) := by
  obtain ⟨o, es, ep, ho, hd, hk, _, hm⟩ := n
  refine ⟨o, ho, fun name => ?_⟩
  have e := hm name
  unfold nsFind findBy at e
  rw [← Array.find?_toList] at e
  unfold PySem.W.lookIn
  rw [hd]
  dsimp only
  split
  · rename_i y q
    rw [q] at e
    exact congrArg some e
  · rename_i q
    rw [q] at e
    have a : es.toList.any (·.refKey) = false := by
      rw [List.any_eq_false]
      intro y hy
      obtain ⟨z, t, hkey⟩ := hk y (Array.mem_toList_iff.mp hy)
      simp [DictEntry.refKey, hkey]
    have a' : ¬ es.toList.any (·.refKey) = true := by rw [a]; exact Bool.false_ne_true
    rw [if_neg a']
    exact congrArg some e

theorem ObjM.look {h : Heap} {x dx C : Addr} {mA : Str → Option Value} (I : ObjM h x dx C mA) : ∃ od, PySem.W.InstAt h x (PySem.W.instObj C dx) C (some od) ∧ ∀ name, PySem.W.lookIn name od = some (mA name) :=
  let ⟨od, ho, hl⟩ := lookIn_ns I.ns
  ⟨od, ⟨I.obj, rfl, rfl, ho⟩, hl⟩

section
variable {prog : Program} {w : World} {A : Around} {E : Value → Shared → Prop} {s : Shared} {K : PySem.W.Frag} {x dx C f : Addr} {mA : Str → Option Value} {name : Str} {v : Value}

end

/-! ### the attributes as a list of pairs -/
def putF (f : Str) (v : V) : List (Str × V) → List (Str × V)
  | [] => [(f, v)]
  | (g, x) :: r => if g = f then (g, v) :: r else (g, x) :: putF f v r
section
variable {P : Program} {w : World} {H H' : Hp} {h h' : Heap} {a C dx : Addr} {fs fs' : List (Str × V)}
theorem ins_get (hok : HOk P w H h) (e : H a = some (.ins C dx fs)) : ∃ mA, ObjM h a dx C mA ∧ (∀ f, RelO (fs.lookup f) (mA f)) ∧ PySem.Within mA (fs.map (·.1)) ∧ fs.length ≤ 1000 ∧ H dx = some (.own a) := by
  obtain ⟨d, z, ne, ob, mA, n, r, q⟩ := (show ObjOk P w H h a (.ins C dx fs) from hok a _ e)
  exact ⟨mA, ⟨ob, n, ne⟩, r, q, z, d⟩
end

/-! ### what of the text a class must have -/
structure Cls (K : PySem.W.Frag) (C : Addr) : Prop where
  pg : PySem.W.plainGet K C Str.empty = true
  hd : PySem.W.hasDictIn K C = true
  po : PySem.W.plainOver K C = true
  sa : PySem.W.findIn K (.ref C) "__setattr__" = some (some (.builtin "object.__setattr__"))
theorem Cls.get {K : PySem.W.Frag} {C : Addr} (c : Cls K C) (f : Str) : PySem.W.plainGet K C f = true := c.pg
/-- no class of it has the name -/
def NoAttr (K : PySem.W.Frag) (C : Addr) (f : Str) : Prop := PySem.W.findIn K (.ref C) f = some none
/-- a constant of the class -/
structure Con (K : PySem.W.Frag) (C : Addr) (f : Str) (v : V) (u : Value) : Prop where
  at_ : PySem.W.findIn K (.ref C) f = some (some u)
  rel : RelV v u
  get : PySem.W.specialIn K u "__get__" = some none
  cp : PySem.W.copiedNames.contains f = false
/-- a method: a plain def of the class or of one above it -/
structure Meth (K : PySem.W.Frag) (C : Addr) (m : Str) (f : Addr) : Prop where
  at_ : PySem.W.findIn K (.ref C) m = some (some (.ref f))
  fn : PySem.W.isFn K (.ref f) = true
  kp : PySem.W.keepIn K (.ref f) = true

section
variable {X : Cx} {pins : List (Addr × Obj)} {σ : St} {H : Hp} {s : Shared} {a C dx : Addr} {fs : List (Str × V)} {f : Str} {v : V} {A : Around} {E : Value → Shared → Prop}

/-- a new instance, tracked, without attributes -/
theorem Inv.made (I : Inv X pins σ H s) : Inv X pins σ (upd (upd H s.heap.objs.size (.own (s.heap.objs.size + 1))) (s.heap.objs.size + 1) (.ins C s.heap.objs.size []))
    { s with heap := (s.heap.push PySem.W.emptyDict).push (PySem.W.instObj C s.heap.objs.size) } := by
  have e1 : (s.heap.push PySem.W.emptyDict).get? s.heap.objs.size = some PySem.W.emptyDict := Heap.get?_push_size s.heap rfl
  have e2 : ((s.heap.push PySem.W.emptyDict).push (PySem.W.instObj C s.heap.objs.size)).get? (s.heap.objs.size + 1) = some (PySem.W.instObj C s.heap.objs.size) := by
    have := Heap.get?_push_size (s.heap.push PySem.W.emptyDict) (o := PySem.W.instObj C s.heap.objs.size) rfl
    rwa [Heap.size_push] at this
  have e3 : (s.heap.push PySem.W.emptyDict).Ns s.heap.objs.size (fun _ => none) := ⟨PySem.W.emptyDict, #[], _, e1, rfl, (fun e he => absurd he (by simp)), fun _ => rfl⟩
  have I1 := I.laid (a := s.heap.objs.size) (o := .own (s.heap.objs.size + 1)) (h' := s.heap.push PySem.W.emptyDict) (t' := s.toks) (fun b u q => Heap.get?_push_of_some _ q) (Nat.le_refl _) ⟨_, e1⟩
  refine I1.laid (a := s.heap.objs.size + 1) (o := .ins C s.heap.objs.size []) (t' := s.toks) (fun b u q => Heap.get?_push_of_some _ q) (Nat.le_of_eq (Heap.size_push _ _)) ?_
  have ne : s.heap.objs.size ≠ s.heap.objs.size + 1 := Nat.ne_of_lt (Nat.lt_succ_self _)
  refine ⟨by rw [upd_ne ne, upd_same], Nat.zero_le _, ne, e2, fun _ => none, (Heap.Ns1.of_empty e3).at fun o q => Heap.get?_push_of_some _ q, fun _ => True.intro, fun y hy => absurd rfl hy⟩

end

/-! ### readings and rules -/
/-- e.f, an attribute of the instance -/
def tFld (K : PySem.W.Frag) (ta : TE) (f : Str) : TE := fun σ H Q => ta σ H fun x H1 => ∃ a C dx fs v, x = .ref a ∧ H1 a = some (.ins C dx fs) ∧ Cls K C ∧ NoAttr K C f ∧ fs.lookup f = some v ∧ Q v H1
/-- e.f, a constant of the class -/
def tCon (K : PySem.W.Frag) (ta : TE) (f : Str) : TE := fun σ H Q => ta σ H fun x H1 => ∃ a C dx fs v u, x = .ref a ∧ H1 a = some (.ins C dx fs) ∧ Cls K C ∧ Con K C f v u ∧ fs.lookup f = none ∧ Q v H1
/-- e.f = value -/
def sFld (K : PySem.W.Frag) (ta tv : TE) (f : Str) : TS := fun D σ H => tv σ H fun y H1 => ta σ H1 fun x H2 => ∃ a C dx fs, x = .ref a ∧ H2 a = some (.ins C dx fs) ∧ Cls K C ∧ NoAttr K C f ∧ fs.length < 1000 ∧
  D.nx σ (upd H2 a (.ins C dx (putF f y fs)))
/-- an augmented operator on two values -/
def InOp (X : Cx) (op : Operator) (rd : V → V → Hp → VK → Prop) : Prop :=
  ∀ (pins : List (Addr × Obj)) (s : Shared) (σ : St) (H : Hp) (x y : V) (u v : Value) (Q : VK), Inv X pins σ H s → RelV x u → RelV y v → rd x y H Q → wpAny (model X.prog X.w) X.A (inplaceOp op u v) (EP X pins σ Q) X.xe s
/-- e.f op= value -/
def sFldAug (K : PySem.W.Frag) (ta tv : TE) (rd : V → V → Hp → VK → Prop) (f : Str) : TS := fun D σ H => ta σ H fun x H1 => ∃ a C dx fs v, x = .ref a ∧ H1 a = some (.ins C dx fs) ∧ Cls K C ∧ NoAttr K C f ∧ fs.lookup f = some v ∧
  tv σ H1 fun y H2 => rd v y H2 fun z H3 => ∃ dx' fs', H3 a = some (.ins C dx' fs') ∧ fs'.length < 1000 ∧ D.nx σ (upd H3 a (.ins C dx' (putF f z fs')))

section
variable {X : Cx} {o e value : Expr} {f : Str} {pos pos' tpos : Pos} {ta tv : TE}
def rAdd : V → V → Hp → VK → Prop := fun x y H Q => ∃ i j, x = .int i ∧ y = .int j ∧ Q (.int (i + j)) H
def rSub : V → V → Hp → VK → Prop := fun x y H Q => ∃ i j, x = .int i ∧ y = .int j ∧ Q (.int (i - j)) H
end

/-! ### isinstance -/
section
variable {X : Cx} {pins : List (Addr × Obj)} {σ : St} {H : Hp} {s : Shared} {A : Around} {E : Value → Shared → Prop} {Q : Value → Shared → Prop} {c : Value} {b : Bool}
/-- the type of a value, as the fragment's deciders take it; for an instance its class -/
inductive TyOf (K : PySem.W.Frag) (H : Hp) : V → Value → Prop where
  | non : TyOf K H .non (.type "NoneType")
  | bl (x : Bool) : TyOf K H (.bl x) (.type "bool")
  | int (i : Int) : TyOf K H (.int i) (.type "int")
  | str (x : Str) : TyOf K H (.str x) (.type "str")
  | flt (x : UInt64) : TyOf K H (.flt x) (.type "float")
  | lst {a : Addr} {xs : List V} (e : H a = some (.lst xs)) : TyOf K H (.ref a) (.type "list")
  | frz {a : Addr} {o : Obj} {xs : List V} (e : H a = some (.frz o (.lst xs))) : TyOf K H (.ref a) (.type "list")
  | tup {a : Addr} {xs : List V} (e : H a = some (.tup xs)) : TyOf K H (.ref a) (.type "tuple")
  | dK {a : Addr} {kvs : List (Key × V)} (e : H a = some (.dK kvs)) : TyOf K H (.ref a) (.type "dict")
  | dT {a : Addr} {kvs : List (List Key × V)} (e : H a = some (.dT kvs)) : TyOf K H (.ref a) (.type "dict")
  | ins {a C dx : Addr} {fs : List (Str × V)} (e : H a = some (.ins C dx fs)) (cl : Cls K C) (ha : PySem.W.findIn K (.ref C) "__class__" = some (some (.builtin "object.__class__")))
      (hn : PySem.W.specialIn K (.builtin "object.__class__") "__get__" = some (some (.builtin "getset_descriptor.__get__"))) (htk : PySem.W.takesIn K (.builtin "object.__class__") = some true)
      (hm : PySem.W.mroIn K C (.type "object") = some true) : TyOf K H (.ref a) (.ref C)
/-- isinstance(x, c) for one class c, a built-in or an own one: kitOne's answer -/
theorem isinst_ok {x : V} {u t : Value} (I : Inv X pins σ H s) (rx : RelV x u) (ty : TyOf X.K H x t) (e : PySem.W.kitOne X.K t c = some b) (h : ∀ tk, Q (.bool b) { s with toks := tk }) :
    wpAny (model X.prog X.w) A (call (.builtin "isinstance") [u, c]) Q E s := by
  cases ty with
  | non => cases (show u = Value.none from rx); exact PySem.W.kia_one PySem.W.kitx_none I.kIn True.intro e (fun z => nomatch z) h
  | bl y => cases (show u = Value.bool y from rx); exact PySem.W.kia_one PySem.W.kitx_bool I.kIn True.intro e (fun z => nomatch z) h
  | int i => obtain ⟨t, q⟩ := (show ∃ t, u = Value.int i t from rx); cases q; exact PySem.W.kia_one PySem.W.kitx_int I.kIn True.intro e (fun z => nomatch z) h
  | str y => obtain ⟨t, q⟩ := (show ∃ t, u = Value.str y t from rx); cases q; exact PySem.W.kia_one PySem.W.kitx_str I.kIn True.intro e (fun z => nomatch z) h
  | flt y => obtain ⟨t, q⟩ := (show ∃ t, u = Value.float y t from rx); cases q; exact PySem.W.kia_one PySem.W.kitx_float I.kIn True.intro e (fun z => nomatch z) h
  | @lst a xs ea =>
    cases (show u = Value.ref a from rx)
    obtain ⟨_, _, n, _, h1⟩ := (show ObjOk X.prog X.w H s.heap a (.lst xs) from I.hok a _ ea)
    exact PySem.W.kia_one PySem.W.kitx_list I.kIn ⟨_, h1, rfl⟩ e (fun z => nomatch z) h
  | @frz a ob xs ea =>
    cases (show u = Value.ref a from rx)
    obtain ⟨_, _, _, n, _, h1⟩ := (show ObjOk X.prog X.w H s.heap a (.frz ob (.lst xs)) from I.hok a _ ea)
    exact PySem.W.kia_one PySem.W.kitx_list I.kIn ⟨_, h1, rfl⟩ e (fun z => nomatch z) h
  | @tup a xs ea =>
    cases (show u = Value.ref a from rx)
    obtain ⟨_, _, _, p⟩ := (show ObjOk X.prog X.w H s.heap a (.tup xs) from I.hok a _ ea)
    obtain ⟨o, h1, h2, _⟩ := p
    exact PySem.W.kia_one PySem.W.kitx_tuple I.kIn ⟨o, h1, h2⟩ e (fun z => nomatch z) h
  | @dK a kvs ea =>
    cases (show u = Value.ref a from rx)
    obtain ⟨_, _, vs, _, p⟩ := (show ObjOk X.prog X.w H s.heap a (.dK kvs) from I.hok a _ ea)
    obtain ⟨o, es, ep, h1, h2, _⟩ := p
    exact PySem.W.kia_one PySem.W.kitx_dict I.kIn ⟨o, h1, h2.1⟩ e (fun z => nomatch z) h
  | @dT a kvs ea =>
    cases (show u = Value.ref a from rx)
    obtain ⟨_, _, xs, _, o, es, ep, h1, h2, _⟩ := (show ObjOk X.prog X.w H s.heap a (.dT kvs) from I.hok a _ ea)
    exact PySem.W.kia_one PySem.W.kitx_dict I.kIn ⟨o, h1, h2.1⟩ e (fun z => nomatch z) h
  | @ins a C dx fs ea cl ha hn htk hm =>
    cases (show u = Value.ref a from rx)
    obtain ⟨mA, O, _⟩ := ins_get I.hok ea
    obtain ⟨od, J, _⟩ := O.look
    exact PySem.W.kia_one (PySem.W.kitx_own (cl.get _) cl.hd ha hn htk hm) I.kIn J e (fun z => nomatch z) h
end
end L2

namespace L2
open PySem PySem.Spec PyProof.Rows

/-! ### room -/
structure Room (k : Nat) (A : Around) : Prop where
  hd : A.handled = none
  dp : A.depth + 3 * k + 5 < recursionLimit
  un : A.units + 16 * k + 200 < cLine
  gd : A.guards = some []
theorem Room.mono {j k : Nat} {A : Around} (r : Room k A) (h : j ≤ k) : Room j A := ⟨r.hd, by have := r.dp; omega, by have := r.un; omega, r.gd⟩
theorem Room.deeper {k : Nat} {A : Around} (r : Room (k + 1) A) (env : Env) : Room k (A.deeper env) :=
  ⟨r.hd, by have := r.dp; show A.depth + 1 + 3 * k + 5 < _; omega, by have := r.un; show A.units + 3 + 16 * k + 200 < _; omega, r.gd⟩
theorem Room.in1 {k : Nat} {A : Around} (r : Room (k + 1) A) : Room k A.in1 :=
  ⟨r.hd, by have := r.dp; show A.depth + 3 * k + 5 < _; omega, by have := r.un; show A.units + 1 + 16 * k + 200 < _; omega, r.gd⟩
theorem Room.depth {k : Nat} {A : Around} (r : Room k A) : A.depth < recursionLimit := by have := r.dp; omega
theorem Room.units {k : Nat} {A : Around} (r : Room k A) : A.units + 64 < cLine := by have := r.un; omega
/-! ### argument lists and displays -/
def tNil : TA := fun _ H Q => Q [] H
def tCons (ta : TE) (tr : TA) : TA := fun σ H Q => ta σ H fun x H1 => tr σ H1 fun xs H2 => Q (x :: xs) H2
section
variable {X : Cx} {e : Expr} {es : List Expr} {te : TE} {t : TA} {pos : Pos}
theorem pa_nil : PA X [] tNil := fun _ _ _ _ H Q I h => Calls.spliced_nil ⟨[], H, I, .nil, h⟩
theorem pa_cons (ha : PE X e te) (hr : PA X es t) (hs : starEach (e :: es) X.env = (false, eval e X.env) :: starEach es X.env := by rfl) : PA X (e :: es) (tCons te t) := by
  intro pos pins s σ H Q I h
  rw [hs]
  show wpAny _ _ (spliced ((false, eval e X.env) :: backTo pos (starEach es X.env))) _ _ s
  refine Calls.spliced_cons (thn (ha pins s σ H _ I h) fun u s1 ⟨x, H1, I1, r1, q1⟩ => ?_)
  exact thn (hr pos pins s1 σ H1 _ I1 q1) fun us s2 ⟨xs, H2, I2, r2, q2⟩ => ⟨x :: xs, H2, I2, .cons r1 r2, q2⟩

/-- a tuple, a list of written items -/
def tTup (t : TA) : TE := fun σ H Q => t σ H fun xs H1 => xs.length ≤ sizeLine ∧ ∀ p, H1 p = none → Q (.ref p) (upd H1 p (.tup xs))
def tLst (t : TA) : TE := fun σ H Q => t σ H fun xs H1 => xs.length ≤ sizeLine ∧ ∀ p, H1 p = none → Q (.ref p) (upd H1 p (.lst xs))
theorem pe_tup {x1} (h : PA X es t) : PE X (.Tuple es x1 pos) (tTup t) := by
  intro pins s σ H Q I hq
  refine wpAny_Tuple_spliced (thn (h pos pins s σ H _ I hq) fun us s1 ⟨xs, H1, I1, r, z, q⟩ => ⟨by rw [← r.length]; exact z, ?_⟩)
  have hf : H1 s1.heap.objs.size = none := I1.hok.fresh (Nat.le_refl _)
  refine ⟨.ref s1.heap.objs.size, upd H1 s1.heap.objs.size (.tup xs), I1.laid (t' := s1.toks) (fun b u e => Heap.get?_push_of_some _ e) (Nat.le_refl _) ?_, rfl, q _ hf⟩
  exact ⟨z, us, r, ⟨_, Heap.get?_push_size _ rfl, rfl, _, rfl⟩⟩
theorem pe_lst (h : PA X es t) : PE X (.List es pos) (tLst t) := by
  intro pins s σ H Q I hq
  refine wpAny_List_spliced (thn (h pos pins s σ H _ I hq) fun us s1 ⟨xs, H1, I1, r, z, q⟩ => ⟨by rw [← r.length]; exact z, ?_⟩)
  have hf : H1 s1.heap.objs.size = none := I1.hok.fresh (Nat.le_refl _)
  refine ⟨.ref s1.heap.objs.size, upd H1 s1.heap.objs.size (.lst xs), I1.laid (t' := s1.toks) (fun b u e => Heap.get?_push_of_some _ e) (Nat.le_refl _) ?_, rfl, q _ hf⟩
  exact ⟨z, us, 0, r, Heap.get?_push_size _ rfl⟩
end

/-! ### what a def promises -/
/-- a def's promise: the bound arguments in the parameters' order, the heap, the wanted end, the wanted exception -/
abbrev Sp := List V → Hp → VK → XK → Prop
/-- how an exception lies behind a call (file 08 gives it): the callers' frames, abstract heap and state ahead of the call, the wish, the exception, the state -/
abbrev CXT := List Env → Hp → Shared → XK → Value → Shared → Prop

/-- the state at a call -/
structure Env0 (P : Program) (w : World) (K : PySem.W.Frag) (mg : Str → Option Value) (base : Heap) (A : Around) (outer : List Env) (s : Shared) (H : Hp) : Prop where
  frames : A.frames = some outer
  mod : Mod K mg base
  bs : ∀ b o, base.get? b = some o → s.heap.get? b = some o ∧ H b = none
  bsz : base.objs.size ≤ s.heap.objs.size
  funs : s.heap.FunFrames base outer
  frf : ∀ b ∈ frs outer, H b = none
  hok : HOk P w H s.heap
  bare : AllBare s.gens
/-- a call's end -/
def CE (outer : List Env) (P : Program) (w : World) (H : Hp) (s : Shared) (Q : VK) (u : Value) (s' : Shared) : Prop :=
  ∃ v H', s'.os = s.os ∧ AllBare s'.gens ∧ Un (frs outer) [] H H' s.heap s'.heap ∧ HOk P w H' s'.heap ∧ RelV v u ∧ Q v H'
def CR (CX : CXT) (outer : List Env) (P : Program) (w : World) (H : Hp) (s : Shared) (Q : VK) (E : XK) (r : Result) (s' : Shared) : Prop :=
  match r with
  | .ok (.ret u) => CE outer P w H s Q u s'
  | .ok _ => False
  | .error e => CX outer H s E e s'
structure FnOk (P : Program) (w : World) (K : PySem.W.Frag) (mg : Str → Option Value) (base : Heap) (CX : CXT) (k : Nat) (f : Addr) (fd : FuncData) (ps : List Str) (sp : Sp) : Prop where
  len : ∀ vs H Q E, sp vs H Q E → vs.length = ps.length
  run : ∀ (A : Around) (outer : List Env) (s : Shared) (H : Hp) (args : Args) (us : List Value) (vs : List V) (Q : VK) (E : XK), Room k A → Env0 P w K mg base A outer s H → BindsTo s fd args (ps.zip us) → Vals vs us → sp vs H Q E →
    codeAny (model P w) A (.call (.ref f) args) (CR CX outer P w H s Q E) s
theorem FnOk.mono {P : Program} {w : World} {K : PySem.W.Frag} {mg : Str → Option Value} {base : Heap} {CX : CXT} {j k : Nat} {f : Addr} {fd : FuncData} {ps : List Str} {sp : Sp} (F : FnOk P w K mg base CX j f fd ps sp) (h : j ≤ k) :
    FnOk P w K mg base CX k f fd ps sp := ⟨F.len, fun A outer s H args us vs Q E hr => F.run A outer s H args us vs Q E (hr.mono h)⟩
/-- a weaker promise -/
theorem FnOk.imp {P : Program} {w : World} {K : PySem.W.Frag} {mg : Str → Option Value} {base : Heap} {CX : CXT} {k : Nat} {f : Addr} {fd : FuncData} {ps : List Str} {sp sp' : Sp} (F : FnOk P w K mg base CX k f fd ps sp)
    (h : ∀ vs H Q E, sp' vs H Q E → sp vs H Q E) : FnOk P w K mg base CX k f fd ps sp' :=
  ⟨fun vs H Q E q => F.len vs H Q E (h _ _ _ _ q), fun A outer s H args us vs Q E hr he hb hv hs => F.run A outer s H args us vs Q E hr he hb hv (h _ _ _ _ hs)⟩

theorem Env0.in1 {P : Program} {w : World} {K : PySem.W.Frag} {mg : Str → Option Value} {base : Heap} {A : Around} {outer : List Env} {s : Shared} {H : Hp} (e : Env0 P w K mg base A outer s H) :
    Env0 P w K mg base A.in1 outer s H := ⟨e.frames, e.mod, e.bs, e.bsz, e.funs, e.frf, e.hok, e.bare⟩

section
variable {X : Cx} {pins : List (Addr × Obj)} {σ : St} {H : Hp} {s s' : Shared}
/-- from a body: what a callee wants -/
theorem Inv.env0 (I : Inv X pins σ H s) : Env0 X.prog X.w X.K X.mg X.base X.A X.stack s H :=
  ⟨I.ok.frames, I.ok.mod, I.bs, Nat.le_trans I.ok.bsz I.sz, I.stack, I.stkFree, I.hok, I.bare⟩
/-- behind a call -/
theorem Inv.after {Q : VK} {u : Value} (I : Inv X pins σ H s) (h : CE X.stack X.prog X.w H s Q u s') : EP X pins σ Q u s' := by
  obtain ⟨v, H', os, bare, un, hok, r, q⟩ := h
  obtain ⟨hh, g, d, t, os'⟩ := s'
  obtain rfl : os' = s.os := os
  exact ⟨v, H', I.call (h' := hh) (g' := g) (d' := d) (t' := t) (ch := []) un hok bare (fun b z => absurd z (by simp)), r, q⟩
end

/-! ### calls -/
/-- f(..): the written arguments, then the defaults dvs; E: what is wanted of an exception -/
def tCall (sp : Sp) (dvs : List V) (E : XK) (t : TA) : TE := fun σ H Q => t σ H fun vs H1 => sp (vs ++ dvs) H1 Q E
/-- o.m(..) of an instance of the class at C -/
def tMeth (C : Addr) (m : Str) (sp : Sp) (dvs : List V) (E : XK) (ta : TE) (t : TA) : TE := fun σ H Q => ta σ H fun x H1 => ∃ a dx fs, x = .ref a ∧ H1 a = some (.ins C dx fs) ∧ fs.lookup m = none ∧
  t σ H1 fun vs H2 => sp (x :: (vs ++ dvs)) H2 Q E
/-- C(..): a new instance and its dict, then __init__ -/
def tMake (C : Addr) (sp : Sp) (dvs : List V) (E : XK) (t : TA) : TE := fun σ H Q => t σ H fun vs H1 => ∀ x dx, H1 x = none → H1 dx = none → dx ≠ x →
  sp (.ref x :: (vs ++ dvs)) (upd (upd H1 dx (.own x)) x (.ins C dx [])) (fun v H2 => v = .non ∧ Q (.ref x) H2) E

/-- how the parameters are bound: us the positional arguments, kw the keywords' values by name, ds the defaults that fill up -/
def Binds (K : PySem.W.Frag) (fd : FuncData) (ps : List Str) (ds : List Value) : Prop :=
  ∀ (s : Shared) (us : List Value), K.In s.heap → (us ++ ds).length = ps.length → BindsTo s fd ⟨us, []⟩ (ps.zip (us ++ ds))
/-- every parameter is given -/
theorem Binds.all {K : PySem.W.Frag} {fd : FuncData} {ps : List Str} (h : ∀ us : List Value, us.length = ps.length → bindArgs fd ⟨us, []⟩ = pure (ps.zip us)) : Binds K fd ps [] := fun s us _ hl => by
  rw [List.append_nil] at hl ⊢
  exact .of_eq (h us hl)

/-- an exception of a callee reaches what this body wants of exceptions -/
def Passes (CX : CXT) (X : Cx) (E : XK) : Prop := ∀ (pins : List (Addr × Obj)) (σ : St) (H : Hp) (s : Shared) (e : Value) (s' : Shared), Inv X pins σ H s → CX X.stack H s E e s' → X.xe e s'

section
variable {X : Cx} {CX : CXT} {k : Nat} {f C : Addr} {fd : FuncData} {ps : List Str} {sp : Sp} {dvs : List V} {ds : List Value} {E : XK} {x m : Str} {p pos apos : Pos} {e o : Expr} {es : List Expr} {ta : TE} {t : TA}

/-- the callee runs -/
theorem run_fn {pins : List (Addr × Obj)} {σ : St} {H : Hp} {s : Shared} {Q : VK} {us : List Value} {vs : List V} (F : FnOk X.prog X.w X.K X.mg X.base CX k f fd ps sp) (hr : Room k X.A) (hb : Binds X.K fd ps ds) (hd : Vals dvs ds) (hx : Passes CX X E)
    (I : Inv X pins σ H s) (r : Vals vs us) (h : sp (vs ++ dvs) H Q E) : wpAny (model X.prog X.w) X.A (call (.ref f) us) (EP X pins σ Q) X.xe s := by
  have r2 : Vals (vs ++ dvs) (us ++ ds) := r.append hd
  have hl : (us ++ ds).length = ps.length := by rw [← r2.length]; exact F.len _ _ _ _ h
  refine wpAny_call (codeAny_mono (F.run X.A X.stack s H ⟨us, []⟩ (us ++ ds) (vs ++ dvs) Q E hr I.env0 (hb s us I.kIn hl) r2 h) fun r s' hq => ?_)
  cases r with
  | error e => exact hx pins σ H s e s' I hq
  | ok fl =>
    cases fl with
    | ret u => exact I.after hq
    | next => exact False.elim hq
    | brk => exact False.elim hq
    | cont => exact False.elim hq

theorem pe_call (F : FnOk X.prog X.w X.K X.mg X.base CX k f fd ps sp) (hr : Room k X.A) (hg : Gl X x) (hm : X.mg x = some (.ref f)) (hk : PySem.W.keepIn X.K (.ref f) = true) (hb : Binds X.K fd ps ds) (hd : Vals dvs ds) (hx : Passes CX X E)
    (ha : PA X (e :: es) t) (hdb : (x == ("__debug__" : Str)) = false := by decide) (he : starEach (e :: es) X.env = (false, eval e X.env) :: starEach es X.env := by rfl) (hpl : (backTo pos (starEach es X.env)).any (·.1) = false := by rfl) :
    PE X (.Call (.Name x p) (e :: es) [] pos) (tCall sp dvs E t) := by
  intro pins s σ H Q I h
  refine wpAny_Call_Name_kw (ld_glob I hg hm ?_ hdb)
  refine PySem.W.callWith_K (h₀ := X.base) I.ok.mod.kin hk (thn (ha pos pins s σ H _ I h) fun us s1 ⟨vs, H1, I1, r, q⟩ => ⟨I1.kIn, ?_⟩) he hpl
  exact run_fn F hr hb hd hx I1 r q
/-- what a class must have to be made -/
structure Mk (K : PySem.W.Frag) (C f : Addr) : Prop where
  makes : PySem.W.makesIn K C = true
  init : PySem.W.findIn K (.ref C) "__init__" = some (some (.ref f))
  fn : PySem.W.isFn K (.ref f) = true
  kp : PySem.W.keepIn K (.ref C) = true

end

/-! ### keywords -/
/-- the values of the keywords, from the left -/
def PK (X : Cx) (kws : List Keyword) (t : TA) : Prop :=
  ∀ (pos : Pos) (pins : List (Addr × Obj)) (s : Shared) (σ : St) (H : Hp) (Q : List V → Hp → Prop), Inv X pins σ H s → t σ H Q → wpAny (model X.prog X.w) X.A (evalAll ((backToKw pos (keywordEach kws X.env)).map (·.2))) (AP X pins σ Q) X.xe s
section
variable {X : Cx} {CX : CXT} {k : Nat} {f C : Addr} {fd : FuncData} {ps ks : List Str} {sp : Sp} {E : XK} {x m : Str} {p pos apos kpos : Pos} {e o : Expr} {es : List Expr} {kws : List Keyword} {te ta : TE} {t tk : TA} {nm : Option Str}
/-- how a call with keywords binds: g puts the positional values us and the keywords' values ws (names ks) in the parameters' order, defaults among them -/
structure KBinds (K : PySem.W.Frag) (fd : FuncData) (ps ks : List Str) (g : List Value → List Value → List Value) (gV : List V → List V → List V) : Prop where
  to : ∀ (s : Shared) (us ws : List Value), K.In s.heap → (g us ws).length = ps.length → BindsTo s fd ⟨us, ks.zip ws⟩ (ps.zip (g us ws))
  rel : ∀ {vs : List V} {us : List Value} {zs : List V} {ws : List Value}, Vals vs us → Vals zs ws → Vals (gV vs zs) (g us ws)
def tCallK (sp : Sp) (gV : List V → List V → List V) (E : XK) (t tk : TA) : TE := fun σ H Q => t σ H fun vs H1 => tk σ H1 fun zs H2 => sp (gV vs zs) H2 Q E
variable {g : List Value → List Value → List Value} {gV : List V → List V → List V}
end

/-! ### a def's body keeps its promise -/
/-- names: the parameters first -/
structure FnScope (N P : List Str) (sc : Scope) : Prop where
  kind : sc.kind = .function
  co : sc.isCoroutine = false
  gen : sc.isGenerator = false
  nd : N.Nodup
  pre : N.take P.length = P
  par : ∀ x ∈ P, sc.names.lookup x = some .local ∨ sc.names.lookup x = some .cell
  nofree : ∀ y ∈ sc.names, y.2 ≠ .free

theorem bindL_out {kindOf : Str → Option NameKind} {x : Str} : ∀ {binds : List (Str × Value)} {m : Str → Option Value}, (∀ v, (x, v) ∉ binds) → bindL kindOf binds m x = m x
  | [], _, _ => rfl
  | (n, v) :: r, m, h => by
    unfold bindL
    rw [bindL_out fun w hw => h w (List.mem_cons_of_mem _ hw)]
    split
    · have : x ≠ n := by rintro rfl; exact h v List.mem_cons_self
      simp [this]
    · rfl
theorem bindC_out {kindOf : Str → Option NameKind} {x : Str} : ∀ {binds : List (Str × Value)} {m : Str → Option Value}, (∀ v, (x, v) ∉ binds) → bindC kindOf binds m x = m x
  | [], _, _ => rfl
  | (n, v) :: r, m, h => by
    unfold bindC
    rw [bindC_out fun w hw => h w (List.mem_cons_of_mem _ hw)]
    split
    · rfl
    · have : x ≠ n := by rintro rfl; exact h v List.mem_cons_self
      simp [this]
theorem bindL_get {kindOf : Str → Option NameKind} {x : Str} {v : Value} : ∀ {P : List Str} {vs : List Value} {i : Nat} {m : Str → Option Value}, P.Nodup → P[i]? = some x → vs[i]? = some v → kindOf x = some .local →
    bindL kindOf (P.zip vs) m x = some v
  | [], _, _, _, _, h, _, _ => by simp at h
  | _ :: _, [], _, _, _, _, h, _ => by simp at h
  | p :: P, w :: vs, 0, m, nd, h1, h2, hk => by
    simp at h1 h2; subst h1; subst h2
    show bindL kindOf ((p, w) :: P.zip vs) m p = _
    unfold bindL
    rw [bindL_out fun v hv => (List.nodup_cons.mp nd).1 (List.of_mem_zip hv).1, if_pos hk]
    simp
  | p :: P, w :: vs, i + 1, m, nd, h1, h2, hk => by
    show bindL kindOf ((p, w) :: P.zip vs) m x = _
    unfold bindL
    exact bindL_get (i := i) (List.nodup_cons.mp nd).2 (by simpa using h1) (by simpa using h2) hk
theorem bindC_get {kindOf : Str → Option NameKind} {x : Str} {v : Value} : ∀ {P : List Str} {vs : List Value} {i : Nat} {m : Str → Option Value}, P.Nodup → P[i]? = some x → vs[i]? = some v → kindOf x ≠ some .local →
    bindC kindOf (P.zip vs) m x = some v
  | [], _, _, _, _, h, _, _ => by simp at h
  | _ :: _, [], _, _, _, _, h, _ => by simp at h
  | p :: P, w :: vs, 0, m, nd, h1, h2, hk => by
    simp at h1 h2; subst h1; subst h2
    show bindC kindOf ((p, w) :: P.zip vs) m p = _
    unfold bindC
    rw [bindC_out fun v hv => (List.nodup_cons.mp nd).1 (List.of_mem_zip hv).1, if_neg hk]
    simp
  | p :: P, w :: vs, i + 1, m, nd, h1, h2, hk => by
    show bindC kindOf ((p, w) :: P.zip vs) m x = _
    unfold bindC
    exact bindC_get (i := i) (List.nodup_cons.mp nd).2 (by simpa using h1) (by simpa using h2) hk

/-- the names' values at the entry -/
def start (N : List Str) (vs : List V) : St := vs.map some ++ List.replicate (N.length - vs.length) none

/-- the context of a def's body, at its entry; an exception leaves the frame, then lies as CX says -/
def cxOf (CX : CXT) (P : Program) (w : World) (K : PySem.W.Frag) (mg : Str → Option Value) (base : Heap) (N : List Str) (qual : Str) (scope : Scope) (f : Addr) (cd : Value) (A : Around) (outer : List Env) (s : Shared) (H : Hp) (E : XK) : Cx where
  prog := P
  w := w
  K := K
  mg := mg
  base := base
  A := A.deeper (envOfC qual scope s.heap.objs.size f cd)
  N := N
  s₀ := s
  H₀ := H
  env := envOfC qual scope s.heap.objs.size f cd
  outer := outer
  stack := envOfC qual scope s.heap.objs.size f cd :: outer
  ex := []
  calm := true
  fn := fun _ => true
  pn := []
  xe := fun e s' => wpAny (model P w) (A.deeper (envOfC qual scope s.heap.objs.size f cd)) (leaving (envOfC qual scope s.heap.objs.size f cd) e) (fun _ s'' => CX outer H s E e s'') (fun e' s'' => CX outer H s E e' s'') s'

theorem cell_has {sc : Scope} {n : Nat} {x : Str} (h : sc.names.lookup x = some .cell) : ∃ c, (cellsFrom n sc.names []).lookup x = some c := by
  have q := PySem.W.cellsFrom_some sc.names n [] (.inl h)
  exact Option.isSome_iff_exists.mp q

theorem inv_start {CX : CXT} {P : Program} {w : World} {K : PySem.W.Frag} {mg : Str → Option Value} {base : Heap} {N ps : List Str} {qual : Str} {scope : Scope} {f : Addr} {cd : Value} {A : Around} {outer : List Env} {s s1 : Shared} {H : Hp} {E : XK} {us : List Value} {vs : List V}
    (S : FnScope N ps scope) (hd : A.handled = none) (e0 : Env0 P w K mg base A outer s H) (hl : vs.length = ps.length) (r : Vals vs us)
    (x : InCallC s s.heap.objs.size (bindL (envOfC qual scope s.heap.objs.size f cd).kindOf (ps.zip us) fun _ => none) (cellsFrom (s.heap.objs.size + 1) scope.names []) (bindC (envOfC qual scope s.heap.objs.size f cd).kindOf (ps.zip us) fun _ => none) s1) :
    Inv (cxOf CX P w K mg base N qual scope f cd A outer s H E) [] (start N vs) H s1 := by
  have hpl : ps.length ≤ N.length := by have := congrArg List.length S.pre; rw [List.length_take] at this; omega
  obtain ⟨h1, tk, rfl, hk⟩ := x.done
  have noA : ∀ b : Addr, b ∉ (cxOf CX P w K mg base N qual scope f cd A outer s H E).ex := fun b z => absurd (show b ∈ ([] : List Addr) from z) (by simp)
  refine ⟨⟨e0.mod, S.kind, rfl, rfl, Nat.le_refl _, fun y z c h1 h2 => ?_, fun y hy => ?_, fun y c _ h => ?_, fun _ => hd, Around.frames_deeper e0.frames, .inr ⟨rfl, rfl⟩, fun b z => absurd z (noA b), e0.bs, e0.bsz, fun b _ _ => noA b, fun b z => absurd z (noA b), e0.funs, e0.frf⟩,
    rfl, e0.bare, Un.kept hk, ⟨_, x.toInCall.ns, fun i y v h1 h2 h3 => ?_⟩, fun y c h => ⟨_, x.cell y c h⟩, e0.hok.fresh (Nat.le_refl _), fun y c h => ?_, fun p hp => absurd (show p ∈ ([] : List (Addr × Obj)) from hp) (by simp), e0.hok.kept hk, ?_⟩
  · exact name_of_addr x.apart (PySem.mem_of_lookup h1) (PySem.mem_of_lookup h2)
  · have hy : scope.names.lookup y = some .cell ∨ scope.names.lookup y = some .free := hy
    rcases hy with hy | hy
    · exact cell_has hy
    · exact absurd rfl (S.nofree _ (PySem.mem_of_lookup hy))
  · exact Nat.le_of_lt (x.above y c (PySem.mem_of_lookup h))
  · have hi : i < vs.length := by
      unfold start at h2
      by_cases hi : i < vs.length
      · exact hi
      · rw [List.getElem?_append_right (by simpa using hi)] at h2
        rw [List.getElem?_replicate] at h2
        split at h2 <;> cases h2
    have ha : vs[i]? = some v := by
      unfold start at h2
      rw [List.getElem?_append_left (by simpa using hi), List.getElem?_map] at h2
      cases e : vs[i]? with
      | none => rw [e] at h2; cases h2
      | some a => rw [e] at h2; cases h2; rfl
    obtain ⟨u, hu, rv⟩ := r.get ha
    have hp : ps[i]? = some y := by
      rw [← S.pre, List.getElem?_take_of_lt (by omega)]; exact h1
    have ndP : ps.Nodup := by rw [← S.pre]; exact S.nd.sublist (List.take_sublist _ _)
    refine ⟨u, rv, ?_⟩
    rcases S.par y (List.mem_of_getElem? hp) with k | k
    · exact .inl ⟨k, bindL_get ndP hp hu k⟩
    · obtain ⟨c, e⟩ := cell_has (n := s.heap.objs.size + 1) k
      refine .inr ⟨.inl k, c, e, ?_⟩
      have q := x.cell y c e
      rw [bindC_get ndP hp hu (by show scope.names.lookup y ≠ _; rw [k]; decide)] at q
      exact q
  · exact e0.hok.fresh (Nat.le_of_lt (x.above y c (PySem.mem_of_lookup h)))
  · unfold start
    show _ = N.length
    rw [List.length_append, List.length_map, List.length_replicate]
    omega

/-- THE RULE: a def (or a method) of the text, by its body. The body's reading t is chosen for each entry; it is run at the parameters' values -/
theorem fn_of {CX : CXT} {P : Program} {w : World} {K : PySem.W.Frag} {mg : Str → Option Value} {base : Heap} {k : Nat} {f : Addr} {name qual : Str} {params : Arguments} {body : List Stmt} {scope : Scope} {dV kV doc pm cdv ct oc : Value} {an od : Option Addr}
    {osl : Array (Option Value)} {N ps : List Str} {sp : Sp} (lk : K.lookup f = some ⟨oc, od, .func (PySem.W.fnOf name qual params body scope dV kV doc pm an cdv ct), osl⟩) (hcd : PySem.W.codeIn K cdv qual = true) (S : FnScope N ps scope)
    (len : ∀ vs H Q E, sp vs H Q E → vs.length = ps.length)
    (hbody : ∀ (A : Around) (outer : List Env) (s : Shared) (H : Hp) (vs : List V) (Q : VK) (E : XK), Room k (A.deeper (envOfC qual scope s.heap.objs.size f cdv)) → sp vs H Q E →
      ∃ t, PSs (cxOf CX P w K mg base N qual scope f cdv A outer s H E) body t ∧ t { nx := fun _ H' => Q .non H', rt := Q } (start N vs) H) :
    FnOk P w K mg base CX (k + 1) f (PySem.W.fnOf name qual params body scope dV kV doc pm an cdv ct) ps sp := by
  refine ⟨len, fun A outer s H args us vs Q E hr e0 hb r hsp => ?_⟩
  have hl := len _ _ _ _ hsp
  have KX : K.In s.heap := e0.mod.kin.keeps fun b o e => (e0.bs b o e).1
  have lim : s.heap.NoLimit := e0.mod.nolimit.keeps fun b o e => (e0.bs b o e).1
  have hkind : ∀ y ∈ ps.zip us, scope.names.lookup y.1 = some .local ∨ (scope.names.lookup y.1 = some .cell ∧ ((cellsFrom (s.heap.objs.size + 1) scope.names []).lookup y.1).isSome = true) := fun ⟨n, v⟩ hy => by
    rcases S.par n (List.of_mem_zip hy).1 with q | q
    · exact .inl q
    · exact .inr ⟨q, PySem.W.cellsFrom_some _ _ _ (.inl q)⟩
  refine codeAny_call_function hr.depth (KX _ _ lk) rfl S.co S.gen rfl (PySem.W.codeRec_of KX hcd) (hb _ _ _ _ ?_)
  refine wpAny_newFunctionEnv_cells S.kind hkind fun env he s1 x => ?_
  subst he
  refine ⟨lim.keeps x.toInCall.keep, codeAny_func ?_⟩
  obtain ⟨t, ht, hq⟩ := hbody A outer s H vs Q E (hr.deeper _) hsp
  have I : Inv (cxOf CX P w K mg base N qual scope f cdv A outer s H E) [] (start N vs) H s1 := inv_start S hr.hd e0 hl r x
  refine wpAny_mono (ht [] s1 (start N vs) H _ I hq) (fun fl s' hs => ?_) fun e s' hs => hs
  have fin : ∀ {σ' : St} {H' : Hp} {v : V} {u : Value}, Inv (cxOf CX P w K mg base N qual scope f cdv A outer s H E) [] σ' H' s' → RelV v u → Q v H' → CE outer P w H s Q u s' :=
    fun {σ' H' v u} J rv q => ⟨v, H', J.os, J.bare, J.base, J.hok, rv, q⟩
  cases fl with
  | ret u =>
    obtain ⟨v, σ', H', J, rv, q⟩ := hs
    exact fin J rv q
  | next =>
    obtain ⟨σ', H', J, q⟩ := hs
    exact fin (v := V.non) (u := Value.none) J rfl q
  | brk =>
    obtain ⟨_, _, _, q⟩ := hs
    exact False.elim q
  | cont =>
    obtain ⟨_, _, _, q⟩ := hs
    exact False.elim q
end L2

namespace L2
open PySem PySem.Spec PyProof.Rows
section
variable {X : Cx} {x : Str} {p pos : Pos} {e : Expr} {es : List Expr} {t : TA} {id T : String} {r : List V → Hp → VK → Prop}

def tCB (r : List V → Hp → VK → Prop) (t : TA) : TE := fun σ H Q => t σ H fun vs H1 => r vs H1 Q
/-- f(e, ..), f a built-in function -/
theorem pe_callB (hc : CallR X (.builtin id) r) (hg : Gl X x) (hm : X.mg x = none) (hv : bootBuiltins x = some (.builtin id)) (ha : PA X (e :: es) t) (hn : x ≠ "__name__" := by decide) (hdb : (x == ("__debug__" : Str)) = false := by decide)
    (he : starEach (e :: es) X.env = (false, eval e X.env) :: starEach es X.env := by rfl) (hpl : (backTo pos (starEach es X.env)).any (·.1) = false := by rfl) : PE X (.Call (.Name x p) (e :: es) [] pos) (tCB r t) := by
  intro pins s σ H Q I h
  refine wpAny_Call_Name_kw (ld_blt I hg hm hv ?_ hn hdb)
  exact PyProof.Rows.callWith_builtin1 (thn (ha pos pins s σ H _ I h) fun us s1 ⟨vs, H1, I1, r1, q1⟩ => hc pins s1 σ H1 vs us Q I1 r1 q1) he hpl
/-- T(e, ..), T a built-in type -/
theorem pe_callTy (hc : CallR X (.type T) r) (hg : Gl X x) (hm : X.mg x = none) (hv : bootBuiltins x = some (.type T)) (ha : PA X (e :: es) t) (hn : x ≠ "__name__" := by decide) (hdb : (x == ("__debug__" : Str)) = false := by decide)
    (he : starEach (e :: es) X.env = (false, eval e X.env) :: starEach es X.env := by rfl) (hpl : (backTo pos (starEach es X.env)).any (·.1) = false := by rfl) : PE X (.Call (.Name x p) (e :: es) [] pos) (tCB r t) := by
  intro pins s σ H Q I h
  refine wpAny_Call_Name_kw (ld_blt I hg hm hv ?_ hn hdb)
  exact PyProof.Rows.callWith_type1 (thn (ha pos pins s σ H _ I h) fun us s1 ⟨vs, H1, I1, r1, q1⟩ => hc pins s1 σ H1 vs us Q I1 r1 q1) he hpl
end
end L2

namespace HT
open PySem PyProof.Rows

/-- t < u of tuples of ints -/
def lexLt : List Int → List Int → Bool
  | [], [] => false
  | [], _ :: _ => true
  | _ :: _, [] => false
  | x :: xs, y :: ys => if x = y then lexLt xs ys else decide (x < y)
section
open PySem.SeqAt
open PySem.AutoSeq1 (wpAny_loadPart')
open PySem.MeetsSeq PySem.MeetsSeq2 PySem.MeetsSeq3

end

section
variable {prog : Program} {w : World} {A : Around} {E : Value → Shared → Prop} {s : Shared}

/-! ### t[a:b], not the whole -/
/-- a slice's bound as a place among n (d where it is left out) -/
def sIx (n d : Nat) : Option Int → Nat
  | none => d
  | some v => if v < 0 then (v + (n : Int)).toNat else min v.toNat n
end
end HT

namespace L2
open PySem PySem.Spec PyProof.Rows

/-! ### the parts of a slice -/
abbrev TO := St → Hp → (Option Int → Hp → Prop) → Prop
/-- a slice's part (left out, or an int) -/
def PO (X : Cx) (e : Option Expr) (t : TO) : Prop :=
  ∀ (pins : List (Addr × Obj)) (s : Shared) (σ : St) (H : Hp) (Q : Option Int → Hp → Prop), Inv X pins σ H s → t σ H Q →
    wpAny (model X.prog X.w) X.A (evalPart e X.env) (fun u s' => ∃ o H', Inv X pins σ H' s' ∧ IsPart u o ∧ Q o H') X.xe s
def tNoPart : TO := fun _ H Q => Q none H
def tPart (t : TE) : TO := fun σ H Q => t σ H fun x H1 => ∃ i, x = .int i ∧ Q (some i) H1

theorem intsAre_of {ns : List Int} : ∀ {us : List Value}, Vals (ns.map V.int) us → IntsAre us ns := by
  induction ns with
  | nil => intro us r; rw [List.map_nil] at r; cases r; exact .nil
  | cons n ns ih =>
    intro us r
    rw [List.map_cons] at r
    cases r with
    | cons r1 r2 =>
      obtain ⟨t, e⟩ := r1
      subst e
      exact .cons n t (ih r2)

section
variable {X : Cx} {e : Expr} {te : TE} {lo hi : Option Expr} {tl th : TO} {pos p2 : Pos}

theorem po_none : PO X none tNoPart := by
  intro pins s σ H Q I h
  rw [evalPart_none]
  exact wpAny_pure ⟨none, H, I, .none, h⟩
theorem po_some (h : PE X e te) : PO X (some e) (tPart te) := by
  intro pins s σ H Q I hw
  rw [evalPart_some]
  refine thn (h pins s σ H _ I hw) fun u s1 ⟨x, H1, I1, r1, q1⟩ => ?_
  obtain ⟨i, rfl, q⟩ := q1
  obtain ⟨t, rfl⟩ := r1
  exact ⟨some i, H1, I1, .int i t, q⟩

/-- what a slice of a value is, by values: the slice object stands at sl -/
def SlR (X : Cx) (r : V → Option Int → Option Int → Hp → VK → Prop) : Prop :=
  ∀ (pins : List (Addr × Obj)) (s : Shared) (σ : St) (H : Hp) (x : V) (v vl vu : Value) (lo hi : Option Int) (sl : Addr) (Q : VK), Inv X pins σ H s → RelV x v → s.heap.IsSliceOf sl vl vu .none → IsPart vl lo → IsPart vu hi → r x lo hi H Q →
    ∃ T id, typeLookup (.type T) "__getitem__" = pure (some (.builtin id)) ∧ s.TypeIs v T ∧ wpAny (model X.prog X.w) X.A (getItem v (.ref sl)) (EP X pins σ Q) X.xe s
theorem SlR.or {r r' : V → Option Int → Option Int → Hp → VK → Prop} (h : SlR X r) (h' : SlR X r') : SlR X (fun x lo hi H Q => r x lo hi H Q ∨ r' x lo hi H Q) := by
  intro pins s σ H x v vl vu lo hi sl Q I rx hs pl pu q
  rcases q with q | q
  · exact h pins s σ H x v vl vu lo hi sl Q I rx hs pl pu q
  · exact h' pins s σ H x v vl vu lo hi sl Q I rx hs pl pu q
def tSl (r : V → Option Int → Option Int → Hp → VK → Prop) (te : TE) (tl th : TO) : TE := fun σ H Q => te σ H fun x H1 => tl σ H1 fun l H2 => th σ H2 fun u H3 => r x l u H3 Q
/-- a[lo:hi], any a -/
theorem pe_slice {r : V → Option Int → Option Int → Hp → VK → Prop} (hr : SlR X r) (he : PE X e te) (hl : PO X lo tl) (hu : PO X hi th) : PE X (.Subscript e (.Slice lo hi none p2) pos) (tSl r te tl th) := by
  intro pins s σ H Q I h
  refine Subscript_ (thn (he pins s σ H _ I h) fun v s1 ⟨x, H1, I1, r1, q1⟩ => ?_)
  refine wpAny_Slice (thn (hl pins s1 σ H1 _ I1 q1) fun vl s2 ⟨l, H2, I2, pl, q2⟩ => thn (hu pins s2 σ H2 _ I2 q2) fun vu s3 ⟨u, H3, I3, pu, q3⟩ => ?_)
  rw [evalPart_none]
  refine wpAny_pure ?_
  have I4 : Inv X pins σ H3 { s3 with heap := s3.heap.push { cls := .type "slice", data := .fields #[vl, vu, .none] } } := I3.kept (t' := s3.toks) fun b ob q => Heap.get?_push_of_some _ q
  obtain ⟨T, id, hT, ht, hg⟩ := hr pins { s3 with heap := s3.heap.push { cls := .type "slice", data := .fields #[vl, vu, .none] } } σ H3 x v vl vu l u s3.heap.objs.size Q I4 r1 (Heap.IsSliceOf.new ..) pl pu q3
  show wpAny (model X.prog X.w) X.A (subscriptTail e (.Slice lo hi none p2) v (.ref s3.heap.objs.size)) (EP X pins σ Q) X.xe { s3 with heap := s3.heap.push { cls := .type "slice", data := .fields #[vl, vu, .none] } }
  exact tail_any (ops := [.ref s3.heap.objs.size, v]) ht hT hg (by with_unfolding_all rfl)

/-- the items of xs[lo:hi] -/
def cutV (xs : List V) (lo hi : Option Int) : List V := (xs.drop (HT.sIx xs.length 0 lo)).take (HT.sIx xs.length xs.length hi - HT.sIx xs.length 0 lo)
theorem cutV_length (xs : List V) (lo hi : Option Int) : (cutV xs lo hi).length ≤ xs.length := by
  unfold cutV
  rw [List.length_take, List.length_drop]
  omega
/-- t[lo:hi], not the whole of it (the whole would be t itself) -/
def rSlT (K : PySem.W.Frag) : V → Option Int → Option Int → Hp → VK → Prop := fun x lo hi H Q => ∃ a xs, x = .ref a ∧ SqT K H a xs ∧
  ¬ (HT.sIx xs.length 0 lo = 0 ∧ HT.sIx xs.length xs.length hi = xs.length) ∧ ∀ p, H p = none → Q (.ref p) (upd H p (.tup (cutV xs lo hi)))
/-! ### t < u, t + u -/
def rLtT (K : PySem.W.Frag) : R2 := fun x y H Q => ∃ a b ns ms, x = .ref a ∧ y = .ref b ∧ SqT K H a (ns.map V.int) ∧ SqT K H b (ms.map V.int) ∧ Q (.bl (HT.lexLt ns ms)) H
/-- t + u, t not empty: u empty gives t itself -/
def rCatT (K : PySem.W.Frag) : R2 := fun x y H Q => ∃ a b xs ys, x = .ref a ∧ y = .ref b ∧ SqT K H a xs ∧ SqT K H b ys ∧ xs ≠ [] ∧ xs.length + ys.length ≤ sizeLine ∧
  (ys = [] → Q (.ref a) H) ∧ (ys ≠ [] → ∀ p, H p = none → Q (.ref p) (upd H p (.tup (xs ++ ys))))
end
end L2

namespace L2
open PySem PySem.Spec PyProof.Rows

/-! ### places -/
/-- the place that an index of any sign means -/
def ixN (n : Nat) (i : Int) : Option Nat := if 0 ≤ i then (if i < n then some i.toNat else none) else if -(n : Int) ≤ i then some (i + n).toNat else none
def atI {α : Type} (xs : List α) (i : Int) : Option α := (ixN xs.length i).bind fun j => xs[j]?
theorem ixN_seq {n : Nat} {i : Int} {j : Nat} (h : ixN n i = some j) : seqIndex? i n = some j ∧ j < n ∧ -(n : Int) ≤ i ∧ i < n := by
  unfold ixN at h
  by_cases h0 : 0 ≤ i
  · rw [if_pos h0] at h
    by_cases h1 : i < n
    · rw [if_pos h1] at h
      have e : i.toNat = j := Option.some.inj h
      exact ⟨by rw [seqIndex_of h0 h1, e], by omega, by omega, h1⟩
    · rw [if_neg h1] at h; cases h
  · rw [if_neg h0] at h
    by_cases h1 : -(n : Int) ≤ i
    · rw [if_pos h1] at h
      have e : (i + n).toNat = j := Option.some.inj h
      exact ⟨by rw [seqIndex_neg (by omega) h1, e], by omega, h1, by omega⟩
    · rw [if_neg h1] at h; cases h
theorem atI_get {α : Type} {xs : List α} {i : Int} {v : α} (h : atI xs i = some v) : ∃ j, seqIndex? i xs.length = some j ∧ xs[j]? = some v ∧ j < xs.length ∧ -(xs.length : Int) ≤ i ∧ i < xs.length := by
  unfold atI at h
  cases e : ixN xs.length i with
  | none => rw [e] at h; cases h
  | some j =>
    rw [e] at h
    obtain ⟨h1, h2, h3, h4⟩ := ixN_seq e
    exact ⟨j, h1, h, h2, h3, h4⟩
theorem atI_nat {α : Type} {xs : List α} {j : Nat} {v : α} (h : xs[j]? = some v) : atI xs (j : Int) = some v := by
  have hj : j < xs.length := (List.getElem?_eq_some_iff.mp h).1
  have e : ixN xs.length (j : Int) = some j := by
    unfold ixN
    rw [if_pos (by omega), if_pos (by omega)]; simp
  unfold atI; rw [e]; exact h
/-! ### what may be subscripted -/
/-- what stands as an index of a plain subscript -/
def PlainIx (b : Expr) : Prop := ∀ o i, subscripted b false o i = operate [o, i] (getItem o i)
/-- a subscript by values -/
def IxR (X : Cx) (r : R2) : Prop :=
  ∀ (value slice : Expr) (pins : List (Addr × Obj)) (s : Shared) (σ : St) (H : Hp) (x y : V) (v u : Value) (Q : VK), Inv X pins σ H s → RelV x v → RelV y u → r x y H Q →
    subscripted slice false v u = operate [v, u] (getItem v u) → wpAny (model X.prog X.w) X.A (subscriptTail value slice v u) (EP X pins σ Q) X.xe s
/-- a call of a builtin's method by values: the receiver, the arguments -/
def MtR (X : Cx) (id : String) (r : V → List V → Hp → VK → Prop) : Prop :=
  ∀ (pins : List (Addr × Obj)) (s : Shared) (σ : St) (H : Hp) (x : V) (xs : List V) (v : Value) (us : List Value) (Q : VK), Inv X pins σ H s → RelV x v → Vals xs us → r x xs H Q →
    wpAny (model X.prog X.w) X.A (call (.builtin id) (v :: us)) (EP X pins σ Q) X.xe s
section
variable {X : Cx} {a b : Expr} {ta tb : TE} {pos : Pos}
theorem IxR.or {r r' : R2} (h : IxR X r) (h' : IxR X r') : IxR X (fun x y H Q => r x y H Q ∨ r' x y H Q) := by
  intro value slice pins s σ H x y v u Q I rx ry q hs
  rcases q with q | q
  · exact h value slice pins s σ H x y v u Q I rx ry q hs
  · exact h' value slice pins s σ H x y v u Q I rx ry q hs
theorem MtR.or {id : String} {r r' : V → List V → Hp → VK → Prop} (h : MtR X id r) (h' : MtR X id r') : MtR X id (fun x xs H Q => r x xs H Q ∨ r' x xs H Q) := by
  intro pins s σ H x xs v us Q I rx rs q
  rcases q with q | q
  · exact h pins s σ H x xs v us Q I rx rs q
  · exact h' pins s σ H x xs v us Q I rx rs q
/-- a[b] -/
theorem pe_ix {r : R2} (hr : IxR X r) (ha : PE X a ta) (hb : PE X b tb) (hs : PlainIx b) : PE X (.Subscript a b pos) (tOp r ta tb) := by
  intro pins s σ H Q I h
  exact Subscript_ (binT ha hb I h fun v u s2 x y H2 I2 rx ry q => hr a b pins s2 σ H2 x y v u Q I2 rx ry q (hs _ _))

def rIxL (K : PySem.W.Frag) : R2 := fun x y H Q => ∃ p xs i v, x = .ref p ∧ y = .int i ∧ SqL K H p xs ∧ atI xs i = some v ∧ Q v H
def rIxT (K : PySem.W.Frag) : R2 := fun x y H Q => ∃ p xs i v, x = .ref p ∧ y = .int i ∧ SqT K H p xs ∧ atI xs i = some v ∧ Q v H
def rIxS : R2 := fun x y H Q => ∃ z i c, x = .str z ∧ y = .int i ∧ z.length ≤ sizeLine ∧ atI z.cps.toList i = some c ∧ Q (.str ⟨#[c]⟩) H
theorem ix_list : IxR X (rIxL X.K) := by
  intro value slice pins s σ H x y v u Q I rx ry h hs
  obtain ⟨p, xs, i, z, rfl, rfl, hq, he, q⟩ := h
  cases rx
  obtain ⟨t, rfl⟩ := ry
  obtain ⟨its, r, pl, hz⟩ := I.list hq
  obtain ⟨j, h1, h2, h3, h4, h5⟩ := atI_get he
  obtain ⟨w, ew, rw'⟩ := r.get h2
  have hl := r.length
  have hn := line63
  have fin : EP X pins σ Q w s := ⟨z, H, I, rw', q⟩
  by_cases h0 : 0 ≤ i
  · have hj : i.toNat = j := by
      rw [seqIndex_of h0 h5] at h1
      exact Option.some.inj h1
    exact item_listR pl.isList h0 (by omega) (by rw [hj]; simpa using ew) fin hs
  · have hj : (i + (its.toArray.size : Int)).toNat = j := by
      rw [seqIndex_neg (by omega) h4] at h1
      rw [List.size_toArray, ← hl]
      exact Option.some.inj h1
    exact subscriptTail_builtinR (x := w) pl.isList.typeIs slot_list_getitem.lookup
      (wpAny_getItem_list_neg (Q := fun r s' => r = w ∧ EP X pins σ Q r s') pl.isList (by omega) (by rw [List.size_toArray] <;> omega) (by omega) (by rw [hj]; simpa using ew) ⟨rfl, fin⟩) hs
theorem ix_tup : IxR X (rIxT X.K) := by
  intro value slice pins s σ H x y v u Q I rx ry h hs
  obtain ⟨p, xs, i, z, rfl, rfl, hq, he, q⟩ := h
  cases rx
  obtain ⟨t, rfl⟩ := ry
  obtain ⟨its, r, pl, hz⟩ := I.tuple hq
  obtain ⟨j, h1, h2, h3, h4, h5⟩ := atI_get he
  obtain ⟨w, ew, rw'⟩ := r.get h2
  have hl := r.length
  have hn := line63
  have fin : EP X pins σ Q w s := ⟨z, H, I, rw', q⟩
  exact subscriptTail_builtinR (x := w) pl.typeIs slot_tuple_getitem.lookup
    (getItem_tuple (j := j) (Q := fun r s' => r = w ∧ EP X pins σ Q r s') pl (by omega) (by omega) (by rw [List.size_toArray, ← hl]; exact h1) (by simpa using ew) ⟨rfl, fin⟩) hs
/-- list, tuple or str -/
def rIx (K : PySem.W.Frag) : R2 := fun x y H Q => rIxL K x y H Q ∨ rIxT K x y H Q ∨ rIxS x y H Q
/-! ### xs[i] = v, any sign -/
theorem Inv.lst {pins : List (Addr × Obj)} {σ : St} {H : Hp} {s : Shared} {p : Addr} {xs : List V} (I : Inv X pins σ H s) (h : H p = some (.lst xs)) :
    ∃ (its : List Value) (n : Nat), Vals xs its ∧ s.heap.get? p = some { cls := .type "list", data := .seq its.toArray n } ∧ xs.length ≤ sizeLine := by
  obtain ⟨z, its, n, r, e⟩ := I.hok p _ h
  exact ⟨its, n, r, e, z⟩
def rSetL : V → V → V → Hp → (Hp → Prop) → Prop := fun o i v H Q => ∃ p xs k j, o = .ref p ∧ i = .int k ∧ H p = some (.lst xs) ∧ ixN xs.length k = some j ∧ Q (upd H p (.lst (xs.set j v)))
/-! ### slices -/
theorem slice_bounds (lo hi : Option Int) (n : Nat) : (sliceBounds lo hi none n).1 = ((HT.sIx n 0 lo : Nat) : Int) ∧ (sliceBounds lo hi none n).2.1 = ((HT.sIx n n hi : Nat) : Int) ∧ (sliceBounds lo hi none n).2.2 = 1 := by
  refine ⟨?_, ?_, rfl⟩
  · cases lo with
    | none => simp [sliceBounds, HT.sIx]
    | some i =>
      simp only [sliceBounds, HT.sIx, Option.getD_none, show (1 : Int) > 0 by decide, if_true]
      by_cases h : i < 0
      · simp only [h, if_true] <;> omega
      · simp only [h, if_false] <;> omega
  · cases hi with
    | none => simp [sliceBounds, HT.sIx]
    | some i =>
      simp only [sliceBounds, HT.sIx, Option.getD_none, show (1 : Int) > 0 by decide, if_true]
      by_cases h : i < 0
      · simp only [h, if_true] <;> omega
      · simp only [h, if_false] <;> omega
theorem slicePick_cut (its : List Value) (lo hi : Option Int) : slicePick its.toArray lo hi none = ((its.drop (HT.sIx its.length 0 lo)).take (HT.sIx its.length its.length hi - HT.sIx its.length 0 lo)).toArray := by
  obtain ⟨h1, h2, h3⟩ := slice_bounds lo hi its.toArray.size
  unfold slicePick
  rw [h1, h2, h3]
  simp only [sliceRange_one, pick_run, List.size_toArray] <;> rfl
/-- xs[lo:hi] of a list: a new list -/
def rSlL (K : PySem.W.Frag) : V → Option Int → Option Int → Hp → VK → Prop := fun x lo hi H Q => ∃ a xs, x = .ref a ∧ SqL K H a xs ∧ ∀ p, H p = none → Q (.ref p) (upd H p (.lst (cutV xs lo hi)))
theorem sl_list : SlR X (rSlL X.K) := by
  intro pins s σ H x v vl vu lo hi sl Q I rx hs pl pu h
  obtain ⟨a, xs, rfl, hx, q⟩ := h
  cases rx
  obtain ⟨its, r, ht, hz⟩ := I.list hx
  have hlen := r.length
  refine ⟨"list", _, slot_list_getitem.lookup, ht.isList.typeIs, ?_⟩
  refine wpAny_getItem_list_slice ht.isList hs pl pu .none (by simp) ?_ (by rw [List.size_toArray] <;> omega)
  rw [slicePick_cut, ← hlen]
  refine ⟨.ref s.heap.objs.size, _, I.laid (t' := s.toks) (o := .lst (cutV xs lo hi)) (fun b ob q => Heap.get?_push_of_some _ q) (Nat.le_refl _) ?_, rfl, q _ (I.hok.fresh (Nat.le_refl _))⟩
  exact ⟨Nat.le_trans (cutV_length xs lo hi) hz, _, 0, (r.drop (HT.sIx xs.length 0 lo)).take (HT.sIx xs.length xs.length hi - HT.sIx xs.length 0 lo), Heap.get?_push_size _ rfl⟩

/-! ### in, not in: flat items -/
def flatV : V → Bool
  | .non => true
  | .bl _ => true
  | .int _ => true
  | .str _ => true
  | _ => false
/-- == of flat values -/
def eqV : V → V → Bool
  | .non, .non => true
  | .bl a, .bl b => a == b
  | .bl a, .int b => (if a then 1 else 0) == b
  | .int a, .bl b => a == (if b then 1 else 0)
  | .int a, .int b => a == b
  | .str a, .str b => a == b
  | _, _ => false
theorem eqAt_V {A : Around} {s : Shared} {y x : V} {u v : Value} (ry : RelV y u) (rx : RelV x v) (fy : flatV y = true) (fx : flatV x = true) : SeqAt.EqAt A s u v (eqV y x) := by
  cases y with
  | non =>
    cases ry
    cases x with
    | non => cases rx; exact SeqAt.EqAt.same _
    | bl b => cases rx; exact SeqAt.EqAt.none_bool b
    | int b => obtain ⟨t, rfl⟩ := rx; exact SeqAt.EqAt.none_int b t
    | str b => obtain ⟨t, rfl⟩ := rx; exact SeqAt.EqAt.none_str b t
    | _ => exact absurd (show false = true from fx) Bool.false_ne_true
  | bl a =>
    cases ry
    cases x with
    | non => cases rx; exact SeqAt.EqAt.bool_none a
    | bl b => cases rx; exact SeqAt.EqAt.bool_bool a b
    | int b => obtain ⟨t, rfl⟩ := rx; exact SeqAt.EqAt.bool_int a b t
    | str b => obtain ⟨t, rfl⟩ := rx; exact SeqAt.EqAt.bool_str a b t
    | _ => exact absurd (show false = true from fx) Bool.false_ne_true
  | int a =>
    obtain ⟨t', rfl⟩ := ry
    cases x with
    | non => cases rx; exact SeqAt.EqAt.int_none a t'
    | bl b => cases rx; exact SeqAt.EqAt.int_bool a t' b
    | int b => obtain ⟨t, rfl⟩ := rx; exact SeqAt.EqAt.int_int a t' b t
    | str b => obtain ⟨t, rfl⟩ := rx; exact SeqAt.EqAt.int_str a t' b t
    | _ => exact absurd (show false = true from fx) Bool.false_ne_true
  | str a =>
    obtain ⟨t', rfl⟩ := ry
    cases x with
    | non => cases rx; exact SeqAt.EqAt.str_none a t'
    | bl b => cases rx; exact SeqAt.EqAt.str_bool a t' b
    | int b => obtain ⟨t, rfl⟩ := rx; exact SeqAt.EqAt.str_int a t' b t
    | str b => obtain ⟨t, rfl⟩ := rx; exact SeqAt.EqAt.str_str a t' b t
    | _ => exact absurd (show false = true from fx) Bool.false_ne_true
  | _ => exact absurd (show false = true from fy) Bool.false_ne_true
/-- the items' answers, read off the values (a value's own answer does not lean on its token) -/
def eqU (x : V) (u : Value) : Bool := match u with
  | .none => eqV .non x
  | .bool b => eqV (.bl b) x
  | .int i _ => eqV (.int i) x
  | .str z _ => eqV (.str z) x
  | _ => false
theorem eqU_of {x y : V} {u : Value} (r : RelV y u) (f : flatV y = true) : eqU x u = eqV y x := by
  cases y with
  | non => cases r; rfl
  | bl b => cases r; rfl
  | int i => obtain ⟨t, rfl⟩ := r; rfl
  | str z => obtain ⟨t, rfl⟩ := r; rfl
  | _ => exact absurd (show false = true from f) Bool.false_ne_true
theorem any_eqU {x : V} : ∀ {xs : List V} {us : List Value}, Vals xs us → xs.all flatV = true → us.any (eqU x) = xs.any fun y => eqV y x
  | _, _, .nil, _ => rfl
  | y :: xs, u :: us, .cons r t, f => by
    rw [List.all_cons, Bool.and_eq_true] at f
    rw [List.any_cons, List.any_cons, eqU_of r f.1, any_eqU t f.2]
theorem mem_eqAt {A : Around} {s : Shared} {x : V} {v : Value} (rx : RelV x v) (fx : flatV x = true) : ∀ {xs : List V} {us : List Value}, Vals xs us → xs.all flatV = true → ∀ u ∈ us, SeqAt.EqAt A s u v (eqU x u)
  | _, _, .nil, _ => fun u hu => by cases hu
  | y :: xs, u :: us, .cons r t, f => fun u' hu => by
    rw [List.all_cons, Bool.and_eq_true] at f
    rcases List.mem_cons.mp hu with rfl | hu
    · rw [eqU_of r f.1]; exact eqAt_V r rx f.1 fx
    · exact mem_eqAt rx fx t f.2 u' hu
def inV (x : V) (xs : List V) : Bool := xs.any fun y => eqV y x
/-- x in a list or tuple of flat items -/
def rIn (K : PySem.W.Frag) (neg : Bool) : R2 := fun x y H Q => ∃ p xs, y = .ref p ∧ (SqL K H p xs ∨ SqT K H p xs) ∧ flatV x = true ∧ xs.all flatV = true ∧ Q (.bl (if neg then !inV x xs else inV x xs)) H
theorem op_notIn_seq : OpR X (compareOp .NotIn) (rIn X.K true) := by
  intro pins s σ H x y v u Q I rx ry h
  obtain ⟨p, xs, rfl, hq, fx, fs, q⟩ := h
  cases ry
  rcases hq with hq | hq
  · obtain ⟨its, r, pl, hz⟩ := I.list hq
    refine SeqAt.notIn_listAt (eqU x) pl.isList (fun w hw => mem_eqAt rx fx r fs w (by simpa using hw)) ⟨.bl _, H, I, rfl, ?_⟩
    rw [show its.toArray.any (eqU x) = its.any (eqU x) by simp, any_eqU r fs]
    exact q
  · obtain ⟨its, r, pl, hz⟩ := I.tuple hq
    refine SeqAt.notIn_tupleAt (eqU x) pl (fun w hw => mem_eqAt rx fx r fs w (by simpa using hw)) ⟨.bl _, H, I, rfl, ?_⟩
    rw [show its.toArray.any (eqU x) = its.any (eqU x) by simp, any_eqU r fs]
    exact q
/-! ### len, list(x), tuple(x) of any list or tuple that is read -/
theorem call_len_seq : CallR X (.builtin "len") (fun xs H Q => ∃ p ys, xs = [.ref p] ∧ (SqL X.K H p ys ∨ SqT X.K H p ys) ∧ Q (.int ys.length) H) := by
  intro pins s σ H xs us Q I r h
  obtain ⟨p, ys, rfl, hq, q⟩ := h
  obtain ⟨u, rfl, rx⟩ := vals1 r
  cases rx
  have hn := line63
  rcases hq with hq | hq
  · obtain ⟨its, r', pl, hz⟩ := I.list hq
    have hlen := r'.length
    exact Calls.call_len_list pl.isList (by simp only [List.size_toArray] <;> omega) ⟨.int ys.length, H, I.tok _, ⟨s.toks + 1, by rw [List.size_toArray, hlen]⟩, q⟩
  · obtain ⟨its, r', pl, hz⟩ := I.tuple hq
    have hlen := r'.length
    exact len_tuple pl (by simp only [List.size_toArray] <;> omega) ⟨.int ys.length, H, I.tok _, ⟨s.toks + 1, by rw [List.size_toArray, hlen]⟩, q⟩
theorem CallR.or {f : Value} {r r' : List V → Hp → VK → Prop} (h : CallR X f r) (h' : CallR X f r') : CallR X f (fun xs H Q => r xs H Q ∨ r' xs H Q) := by
  intro pins s σ H xs us Q I rs q
  rcases q with q | q
  · exact h pins s σ H xs us Q I rs q
  · exact h' pins s σ H xs us Q I rs q
/-! ### the call of a builtin's method: o.m(..) -/
/-- the value is of that builtin type -/
def tyV (K : PySem.W.Frag) (T : String) (x : V) (H : Hp) : Prop := match x with
  | .str _ => T = "str"
  | .int _ => T = "int"
  | .ref p => (T = "list" ∧ ∃ xs, SqL K H p xs) ∨ (T = "tuple" ∧ ∃ o, K.lookup p = some o ∧ o.cls = .type "tuple" ∧ o.dict = none) ∨
      (T = "dict" ∧ ((∃ kvs, H p = some (.dK kvs)) ∨ ∃ kvs, H p = some (.dT kvs))) ∨ (T = "set" ∧ ∃ S n, H p = some (.set S n))
  | _ => False
theorem tyV_is {pins : List (Addr × Obj)} {σ : St} {H : Hp} {s : Shared} {T : String} {x : V} {v : Value} (I : Inv X pins σ H s) (r : RelV x v) (ty : tyV X.K T x H) :
    s.TypeIs v T ∧ ∀ a, v = .ref a → ∃ ob, s.heap.get? a = some ob ∧ ob.dict = none := by
  cases x with
  | str z =>
    obtain ⟨t, rfl⟩ := r
    cases (show T = "str" from ty)
    exact ⟨typeIs_str s z t, fun _ e => nomatch e⟩
  | int i =>
    obtain ⟨t, rfl⟩ := r
    cases (show T = "int" from ty)
    exact ⟨typeIs_int s i t, fun _ e => nomatch e⟩
  | ref p =>
    cases r
    rcases ty with ⟨rfl, xs, hq⟩ | ⟨rfl, o, hk, hc, hd⟩ | ⟨rfl, hk⟩ | ⟨rfl, S, n, hk⟩
    · obtain ⟨its, _, pl, _⟩ := I.list hq
      refine ⟨pl.isList.typeIs, fun a e => ?_⟩
      cases e
      obtain ⟨o, n, e, c, hd, _⟩ := pl
      exact ⟨o, e, hd⟩
    · refine ⟨⟨o, I.kIn p o hk, hc⟩, fun a e => ?_⟩
      cases e
      exact ⟨o, I.kIn _ o hk, hd⟩
    · have z : ∃ o, s.heap.get? p = some o ∧ o.ExactDict := by
        rcases hk with ⟨kvs, hk⟩ | ⟨kvs, hk⟩
        · obtain ⟨_, _, _, _, o, _, _, e, ex, _⟩ := I.hok p _ hk
          exact ⟨o, e, ex⟩
        · obtain ⟨_, _, _, _, o, _, _, e, ex, _⟩ := I.hok p _ hk
          exact ⟨o, e, ex⟩
      obtain ⟨o, e, ex⟩ := z
      refine ⟨⟨o, e, ex.1⟩, fun a e2 => ?_⟩
      cases e2
      exact ⟨o, e, ex.2.1⟩
    · obtain ⟨o, _, _, _, e, ex, _⟩ := I.hok p _ hk
      refine ⟨⟨o, e, ex.1⟩, fun a e2 => ?_⟩
      cases e2
      exact ⟨o, e, ex.2.1⟩
  | _ => exact False.elim ty
def tBM0 (K : PySem.W.Frag) (T : String) (r : V → List V → Hp → VK → Prop) (to : TE) : TE := fun σ H Q => to σ H fun x H1 => tyV K T x H1 ∧ r x [] H1 Q
def tBM (K : PySem.W.Frag) (T : String) (r : V → List V → Hp → VK → Prop) (to : TE) (t : TA) : TE := fun σ H Q => to σ H fun x H1 => tyV K T x H1 ∧ t σ H1 fun xs H2 => r x xs H2 Q
variable {o e : Expr} {es : List Expr} {to : TE} {t : TA} {name : Str} {apos cpos : Pos} {T id : String} {r : V → List V → Hp → VK → Prop}
theorem pe_bm (pa : PlainAttrs T) (slot : Slot T name id) (hty : typeOf (.builtin id) = pure (.type "method_descriptor")) (hm : MtR X id r) (ho : PE X o to) (ha : PA X (e :: es) t)
    (hbase : attributeBase o name X.env (eval o X.env) = eval o X.env := by rfl)
    (hfew : ((backTo cpos (starEach (e :: es) X.env)).all (fun x => !x.1) && (backToKw cpos (keywordEach [] X.env)).all (fun x => x.1.isSome)
      && decide ((e :: es).length + ([] : List Keyword).length + (if ([] : List Keyword).isEmpty then 0 else 1) < 30)) = true := by rfl)
    (hline : (apos.endLine == cpos.line) = true := by rfl) (hs : starEach (e :: es) X.env = (false, eval e X.env) :: starEach es X.env := by rfl) (hplain : (backTo cpos (starEach es X.env)).any (·.1) = false := by rfl) :
    PE X (.Call (.Attribute o name apos) (e :: es) [] cpos) (tBM X.K T r to t) := by
  intro pins s σ H Q I h
  refine wpAny_Call_method_late hbase hfew hline rfl (thn (ho pins s σ H _ I h) fun v s1 ⟨x, H1, I1, r1, ty, q1⟩ => ?_)
  obtain ⟨h1, h2⟩ := tyV_is I1 r1 ty
  refine ⟨T, id, pa, slot, hty, h1, h2, ?_⟩
  have hA := ha cpos pins s1 σ H1 _ I1 q1
  rw [hs] at hA ⊢
  refine Calls.callWith_builtin (by show (false || (backTo cpos (starEach es X.env)).any (·.1)) = false; rw [hplain] <;> rfl) (Calls.evalArgs_plain ?_)
  exact thn hA fun us s2 ⟨vs, H2, I2, r2, q2⟩ => hm pins s2 σ H2 x vs v us Q I2 r1 r2 q2
/- xs.append(e), list.index on a module's tuple .. are MtR facts of 06m -/
end
end L2

namespace L2
open PySem PySem.Spec PyProof.Rows

def MtM (X : Cx) (id : String) (r : V → List V → Hp → VK → Prop) : Prop :=
  ∀ (pins : List (Addr × Obj)) (s : Shared) (σ : St) (H : Hp) (x : V) (xs : List V) (v : Value) (us : List Value) (Q : VK), Inv X pins σ H s → RelV x v → Vals xs us → r x xs H Q →
    wpAny (model X.prog X.w) X.A (call (.builtin id) (v :: us)) (EP X pins σ Q) X.xe s

/-! ### lists of values -/
theorem Vals.one : ∀ {x : V} {us : List Value}, Vals [x] us → ∃ u, us = [u] ∧ RelV x u
  | _, _, .cons r .nil => ⟨_, rfl, r⟩
theorem Vals.two : ∀ {x y : V} {us : List Value}, Vals [x, y] us → ∃ u v, us = [u, v] ∧ RelV x u ∧ RelV y v
  | _, _, _, .cons r (.cons q .nil) => ⟨_, _, rfl, r, q⟩
theorem Vals.zero : ∀ {us : List Value}, Vals [] us → us = []
  | _, .nil => rfl
theorem Vals.dropLast {xs : List V} {us : List Value} (h : Vals xs us) : Vals xs.dropLast us.dropLast := by
  induction h with
  | nil => exact .nil
  | cons r t ih =>
    cases t with
    | nil => exact .nil
    | cons q t' => exact .cons r ih
theorem Vals.eraseIdx : ∀ {xs : List V} {us : List Value} (i : Nat), Vals xs us → Vals (xs.eraseIdx i) (us.eraseIdx i)
  | _, _, _, .nil => .nil
  | _, _, 0, .cons _ t => t
  | _, _, i + 1, .cons r t => .cons r (Vals.eraseIdx i t)
theorem Vals.reverse {xs : List V} {us : List Value} (h : Vals xs us) : Vals xs.reverse us.reverse := by
  induction h with
  | nil => exact .nil
  | cons r t ih => rw [List.reverse_cons, List.reverse_cons]; exact Vals.append ih (.cons r .nil)
theorem len_erase {α : Type} : ∀ (l : List α) (i : Nat), (l.eraseIdx i).length ≤ l.length
  | [], _ => Nat.le_refl _
  | _ :: _, 0 => Nat.le_succ _
  | _ :: r, i + 1 => Nat.succ_le_succ (len_erase r i)
section
variable {X : Cx} {pins : List (Addr × Obj)} {σ : St} {H : Hp} {s : Shared} {l b : Addr} {xs ys zs : List V}

/-! ### the two steps: a tracked list is rewritten, a new list is laid -/
theorem Inv.lset {its its' : List Value} {n : Nat} {f : Array Value → Array Value} {t' : Nat} (I : Inv X pins σ H s) (hH : H l = some (.lst xs))
    (e : s.heap.get? l = some { cls := .type "list", data := .seq its.toArray n }) (hf : f its.toArray = its'.toArray) (hv : Vals ys its') (hz : ys.length ≤ sizeLine) :
    Inv X pins σ (upd H l (.lst ys)) { s with heap := s.heap.update l (Obj.mapSeq f), toks := t' } := by
  have q := PySem.IsL.update e f
  rw [hf] at q
  refine I.write (x := l) (e := l) (by rw [hH]; exact trivial) (.inl rfl) (fun b' u hb hu => (Heap.get?_update_other s.heap (Obj.mapSeq f) (Ne.symm hb)).trans hu) ⟨_, q⟩ ?_
  exact ⟨hz, its', _, hv, q⟩
theorem Inv.lnew {its : List Value} {t' : Nat} (I : Inv X pins σ H s) (hv : Vals ys its) (hz : ys.length ≤ sizeLine) :
    Inv X pins σ (upd H s.heap.objs.size (.lst ys)) { s with heap := s.heap.push { cls := .type "list", data := .seq its.toArray }, toks := t' } :=
  I.laid (fun _ _ q => Heap.get?_push_of_some _ q) (Nat.le_refl _) ⟨hz, its, 0, hv, Heap.get?_push_size _ rfl⟩
theorem Inv.fresh (I : Inv X pins σ H s) : H s.heap.objs.size = none := I.hok.fresh (Nat.le_refl _)
theorem Inv.lstM (I : Inv X pins σ H s) (hH : H l = some (.lst xs)) : xs.length ≤ sizeLine ∧ ∃ (its : List Value) (n : Nat), Vals xs its ∧ xs.length = its.length ∧ s.heap.get? l = some { cls := .type "list", data := .seq its.toArray n } := by
  obtain ⟨z, its, n, r, e⟩ := I.hok l _ hH
  exact ⟨z, its, n, r, r.length, e⟩

theorem notLongL {n : Nat} (h : n ≤ sizeLine) : Builtin.List.listTooLong n = false := by
  unfold Builtin.List.listTooLong
  exact decide_eq_false (by omega)
end

section
variable {X : Cx}

/-! ### methods -/
def rAppend : V → List V → Hp → VK → Prop := fun x vs H Q => ∃ l xs y, x = .ref l ∧ vs = [y] ∧ H l = some (.lst xs) ∧ xs.length < sizeLine ∧ Q .non (upd H l (.lst (xs ++ [y])))
theorem mt_append : MtM X "list.append" rAppend := by
  intro pins s σ H x vs v us Q I rx rv h
  obtain ⟨l, xs, y, rfl, rfl, hH, hz, q⟩ := h
  cases rx
  obtain ⟨u, rfl, ru⟩ := rv.one
  obtain ⟨z, its, n, r, hl, e⟩ := I.lstM hH
  refine call_meets F.slot_list_append ⟨_, e, rfl⟩ F.entry_list_append (F.args_list_append_2 _ _) (PySem.list_append l its.toArray n u (by rw [List.size_toArray]; omega)) ⟨e, ?_⟩
  refine ⟨.non, _, I.lset (its' := its ++ [u]) hH e (by simp) (r.append (.cons ru .nil)) ?_, rfl, q⟩
  rw [List.length_append, List.length_singleton]
  omega

def rExtend : V → List V → Hp → VK → Prop := fun x vs H Q => ∃ l b xs zs, x = .ref l ∧ vs = [.ref b] ∧ H l = some (.lst xs) ∧ H b = some (.lst zs) ∧ xs.length + zs.length ≤ sizeLine ∧ Q .non (upd H l (.lst (xs ++ zs)))
theorem mt_extend : MtM X "list.extend" rExtend := by
  intro pins s σ H x vs v us Q I rx rv h
  obtain ⟨l, b, xs, zs, rfl, rfl, hH, hB, hz, q⟩ := h
  cases rx
  obtain ⟨u, rfl, ru⟩ := rv.one
  cases ru
  obtain ⟨z, its, n, r, hl, e⟩ := I.lstM hH
  obtain ⟨z2, its2, n2, r2, hl2, e2⟩ := I.lstM hB
  have hsz : its.toArray.size + its2.toArray.size ≤ sizeLine := by rw [List.size_toArray, List.size_toArray]; omega
  have hlong : ¬ (!its.toArray.isEmpty && Builtin.List.listTooLong (its.toArray.size + its2.toArray.size)) = true := by
    rw [notLongL hsz, Bool.and_false]
    exact Bool.false_ne_true
  refine call_meets F.slot_list_extend ⟨_, e, rfl⟩ F.entry_list_extend (F.args_list_extend_2 _ _)
    (AutoSeq1.list_extend_list_list_0 l its.toArray n b its2.toArray n2 hlong (by rw [List.size_toArray]; omega) (by omega)) ⟨e, e2, ?_⟩
  refine ⟨.non, _, I.lset (its' := its ++ its2) hH e (by simp) (r.append r2) ?_, rfl, q⟩
  rw [List.length_append]
  omega

def rPop : V → List V → Hp → VK → Prop := fun x vs H Q => ∃ l xs y, x = .ref l ∧ vs = [] ∧ H l = some (.lst xs) ∧ xs[xs.length - 1]? = some y ∧ Q y (upd H l (.lst xs.dropLast))
def rPopAt : V → List V → Hp → VK → Prop := fun x vs H Q => ∃ l xs i k y, x = .ref l ∧ vs = [.int i] ∧ H l = some (.lst xs) ∧ -(2 ^ 63) ≤ i ∧ i < 2 ^ 63 ∧ seqIndex? i xs.length = some k ∧ xs[k]? = some y ∧ Q y (upd H l (.lst (xs.eraseIdx k)))
theorem mt_popAt : MtM X "list.pop" rPopAt := by
  intro pins s σ H x vs v us Q I rx rv h
  obtain ⟨l, xs, i, k, y, rfl, rfl, hH, h1, h2, hk, hy, q⟩ := h
  cases rx
  obtain ⟨u, rfl, ru⟩ := rv.one
  obtain ⟨t, rfl⟩ := ru
  obtain ⟨z, its, n, r, hl, e⟩ := I.lstM hH
  obtain ⟨w, hw, rw'⟩ := r.get hy
  refine call_meets F.slot_list_pop ⟨_, e, rfl⟩ F.entry_list_pop (F.args_list_pop_2 _ _)
    (MeetsSeq.list_pop_at l its.toArray n i t k w (fitsIndex_both h1 h2) (by rw [List.size_toArray, ← hl]; exact hk) (by rw [← Array.getElem?_toList]; exact hw) (by rw [List.size_toArray]; omega)) ⟨e, ?_⟩
  refine ⟨y, _, I.lset (its' := its.eraseIdx k) hH e ?_ (r.eraseIdx k) ?_, rw', q⟩
  · show its.toArray.eraseIdxIfInBounds k = (its.eraseIdx k).toArray
    rw [List.eraseIdxIfInBounds_toArray]
  · have := len_erase xs k
    omega

def rReverse : V → List V → Hp → VK → Prop := fun x vs H Q => ∃ l xs, x = .ref l ∧ vs = [] ∧ H l = some (.lst xs) ∧ Q .non (upd H l (.lst xs.reverse))
def rClear : V → List V → Hp → VK → Prop := fun x vs H Q => ∃ l xs, x = .ref l ∧ vs = [] ∧ H l = some (.lst xs) ∧ Q .non (upd H l (.lst []))
/-! ### list + list, list += list, list * int -/
def rCat : R2 := fun x y H Q => ∃ l b xs zs, x = .ref l ∧ y = .ref b ∧ H l = some (.lst xs) ∧ H b = some (.lst zs) ∧ xs.length + zs.length ≤ sizeLine ∧ ∀ p, H p = none → Q (.ref p) (upd H p (.lst (xs ++ zs)))
theorem op_cat : OpR X (binaryOp .Add) rCat := by
  intro pins s σ H x y v u Q I rx ry h
  obtain ⟨l, b, xs, zs, rfl, rfl, hH, hB, hz, q⟩ := h
  cases rx
  cases ry
  obtain ⟨z, its, n, r, hl, e⟩ := I.lstM hH
  obtain ⟨z2, its2, n2, r2, hl2, e2⟩ := I.lstM hB
  refine PySem.P.add_list e e2 ?_ (by rw [List.size_toArray, List.size_toArray]; omega)
  have ea : its.toArray ++ its2.toArray = (its ++ its2).toArray := by simp
  rw [ea]
  exact ⟨.ref _, _, I.lnew (t' := s.toks) (r.append r2) (by rw [List.length_append]; omega), rfl, q _ I.fresh⟩
/-- a list times an int (a negative one is nothing) -/
def rRep : R2 := fun x y H Q => ∃ l k xs, x = .ref l ∧ y = .int k ∧ H l = some (.lst xs) ∧ -(2 ^ 63) ≤ k ∧ k < 2 ^ 63 ∧ xs.length * k.toNat ≤ sizeLine ∧
  ∀ p, H p = none → Q (.ref p) (upd H p (.lst (List.replicate k.toNat xs).flatten))
/-! ### del xs[i] -/
end

/-! ### xs[a:b] = ys -/
section
variable {prog : Program} {w : World} {A : Around} {E : Value → Shared → Prop} {s : Shared}
end

section
variable {X : Cx}
end
end L2

namespace Att
open PySem PySem.W PySem.Calls PyProof.Rows

/-! ### the script -/
theorem ints_of_wellAll {P : Params} {h : Heap} : ∀ (ns : List Int) (vs : List Value), WellAll P h vs (ns.map WData.int) → IntsAre vs ns := by
  intro ns
  induction ns with
  | nil =>
    intro vs w
    rw [List.map_nil] at w
    cases w
    exact .nil
  | cons n ns ih =>
    intro vs w
    rw [List.map_cons] at w
    cases w with
    | cons a b =>
      cases a
      exact .cons _ _ (ih _ b)

theorem script_of {l : OpenLaw} {n : Nat} (hn : l.most = some n) {P : Params} {h : Heap} {args : List WData} {vals : List Value}
    (hpre : l.row.toRowW.claim.pre args = true) (hwl : WellAll P h vals args) :
    ∃ a vs ns, vals = [Value.ref a] ∧ args = [WData.list (ns.map WData.int)] ∧ h.get? a = some { cls := .type "list", data := .seq vs.toArray } ∧ IntsAre vs ns ∧ ns.length ≤ n := by
  have hsh : WShape.hasAll [] args [.list .int] = true := (pre_splitW hpre).1
  have hc : l.pre.holds [] { args := args } = true := (pre_splitW hpre).2
  obtain ⟨d, r, rfl, h1, h2⟩ := hasAllW_cons hsh
  obtain rfl := hasAllW_nil h2
  obtain ⟨xs, rfl, h3⟩ := hasW_list h1
  obtain ⟨ns, rfl⟩ := items_int h3
  have hlen : ns.length ≤ n := by
    unfold OpenLaw.pre at hc
    have h4 : (WTm.not (.lt (.lit (.int (n : Int))) (.len (.arg 0)))).holds [] { args := [.list (ns.map .int)] } = true := by
      have h4 := (holds_andW hc).1
      rw [hn] at h4
      exact h4
    have h5 := condW_of h4 (w_not (w_lt w_lit (w_len_list (w_arg rfl))))
    rw [List.length_map] at h5
    refine Nat.le_of_not_lt fun q => ?_
    have q' : (n : Int) < ((ns.length : Nat) : Int) := by omega
    first
      | (rw [decide_eq_true q'] at h5; exact absurd h5 (by decide))
      | (simp at h5; omega)
  cases hwl with
  | cons w1 w2 =>
    cases w2
    cases w1 with
    | list ho hall => exact ⟨_, _, ns, rfl, rfl, ho, ints_of_wellAll ns _ hall, hlen⟩

theorem post_true (l : OpenLaw) (args : List WData) : l.row.toRowW.claim.post args (.bool true) args = true :=
  postW_of (r := l.row.toRowW) (X := (true == true))
    (show WShape.has [] (.bool true) .bool = true by first | rfl | decide | simp [WShape.has, WShape.arms, WShape.armsAll])
    (show (WTm.eq .res (.lit (.bool true))).value [] { args := args, res := some (.bool true), after := args } = some (.bool (true == true)) from w_eq_bool (w_res rfl) w_lit) rfl

/-! ### the attachment: holds_open's last premise (the goal 'hc' behind k_head) from a wpAny of the law's body -/
/-- the same from a codeAny of the CALL (for a layer whose function contracts speak of calls) -/
theorem attach_call {l : OpenLaw} {n : Nat} {q : Program} {loose : List Str} {XP : (Str → Option Value) → Heap → Prop} {YP : World → Heap → Prop} {d : DefRec}
    (hn : l.most = some n) (hdf : d.params.defaults = [])
    (call : ∀ (w : World) (s₀ s₁ : Shared) (mg mb : Str → Option Value) (fa : Addr) (o : Obj) (pm cd doc : Value) (a : Addr) (vs : List Value) (ns : List Int),
      Ground q loose [] XP w s₀ mg mb s₁.heap → YP w s₁.heap →
      s₁.heap.get? fa = some o → o.data = .func (docDef d.name d.params d.body d.scope pm cd doc) → s₁.heap.CodeRec cd d.name → mg d.name = some (.ref fa) →
      s₁.heap.get? a = some { cls := .type "list", data := .seq vs.toArray } → IntsAre vs ns → ns.length ≤ n → s₁.gens = #[] →
      codeAny (model l.prog w) callerA (.call (.ref fa) ⟨[.ref a], []⟩) (fun r s' => r = .ok (.ret (.bool true)) ∧ OldK s₁.heap s'.heap ∧ s'.os = s₁.os ∧ AllBare s'.gens) s₁) :
    WalkO q loose XP YP l.row.toRowW d [] (fun f vs => PySem.call f vs) := by
  intro w s₀ s₁ mg mb G Y fa o pm cd doc dV kV ho hd hcd hD hmg hg args vals as hpre hlay hrd hwl hlo
  obtain rfl : dV = .none := Dflts.none hD hdf
  obtain rfl : kV = .none := Dflts.noKw hD
  obtain ⟨a, vs, ns, rfl, rfl, hobj, hints, hlen⟩ := script_of hn hpre hwl
  refine enter_call (codeAny_mono (call w s₀ s₁ mg mb fa o pm cd doc a vs ns G Y ho (fd_plain hd) hcd hmg hobj hints hlen hg) fun r s' hq => ?_)
  obtain ⟨rfl, h2, h3, h4⟩ := hq
  exact ⟨.inl ⟨.bool true, .bool true, [], rfl, fun _ => rfl, .bool true, post_true l _, fun _ => ⟨List.Pairwise.nil, fun _ hm => (nomatch hm)⟩⟩, h2, h3, h4⟩

/-! ### rules over ANY heap (no ledger) from facts about the written part K: the library's own take a ledger (News) for what they write -/
section
variable {prog : Program} {w : World} {A : Around} {E : Value → Shared → Prop} {s : Shared} {K : Frag}

/-! the whole heap as the ledger: makes every rule that writes through a ledger a rule over any heap -/
def noObjs (h : Heap) : Heap := { h with objs := #[] }
def ledger (h : Heap) (L d : Addr) : List (Addr × Obj) := (List.range h.objs.size).filterMap fun a => if a = L ∨ a = d then none else (h.get? a).map fun o => (a, o)
end
end Att

namespace L2
open PySem PySem.Spec PyProof.Rows

theorem vals_ints : ∀ {vs : List Value} {ns : List Int}, IntsAre vs ns → Vals (ns.map V.int) vs
  | _, _, .nil => .nil
  | _, _, .cons n t h => .cons ⟨t, rfl⟩ (vals_ints h)

/-- nothing is tracked but the script, known to the object (or it is an object of the module) -/
def Only (H : Hp) : Prop := ∀ b, H b = none ∨ ∃ o xs, H b = some (.frz o (.lst xs))

/-- THE HEAD: the law's promise, at the heap behind the top. F, the promise of the law's def, may use that base is part of the heap (so K.In base, base.Ns mainGlobals mg stand in Mod) -/
theorem law_call {P : Program} {w : World} {K : PySem.W.Frag} {mg mb : Str → Option Value} {CX : CXT} {k : Nat} {fa a : Addr} {fd : FuncData} {x : Str} {sp : Sp} {s₁ : Shared} {vs : List Value} {ns : List Int}
    (KX : K.In s₁.heap) (hns : s₁.heap.Ns mainGlobals mg) (hb : s₁.heap.Ns builtinsNs mb) (hbb : ∀ x : Str, x ≠ "__name__" → mb x = bootBuiltins x) (hlim : s₁.heap.NoLimit) (hg : s₁.gens = #[])
    (ha : s₁.heap.get? a = some { cls := .type "list", data := .seq vs.toArray }) (hi : IntsAre vs ns) (hl : ns.length ≤ sizeLine) (hr : Room k callerA)
    (F : ∀ base : Heap, K.In base → base.Ns mainGlobals mg → FnOk P w K mg base CX k fa fd [x] sp) (hbind : ∀ (s : Shared) (u : Value), BindsTo s fd ⟨[u], []⟩ [(x, u)])
    (hsp : ∀ H : Hp, Only H → SqL K H a (ns.map V.int) → sp [.ref a] H (fun v _ => v = .bl true) fun _ _ _ => False)
    (hCX : ∀ H e s', CX [] H s₁ (fun _ _ _ => False) e s' → False) :
    codeAny (model P w) callerA (.call (.ref fa) ⟨[.ref a], []⟩) (fun r s' => r = .ok (.ret (.bool true)) ∧ OldK s₁.heap s'.heap ∧ s'.os = s₁.os ∧ AllBare s'.gens) s₁ := by
  have rv := vals_ints hi
  have lenV := hi.length
  -- from an abstract heap in which nothing but the script may be tracked
  have core : ∀ H : Hp, Only H → SqL K H a (ns.map V.int) → HOk P w H s₁.heap → (∀ b, H b ≠ none → b = a) → (H a ≠ none → K.lookup a = none) →
      codeAny (model P w) callerA (.call (.ref fa) ⟨[.ref a], []⟩) (fun r s' => r = .ok (.ret (.bool true)) ∧ OldK s₁.heap s'.heap ∧ s'.os = s₁.os ∧ AllBare s'.gens) s₁ := by
    intro H hO hS hok hA hK
    have base_of : ∀ {b : Addr} {o : Obj}, s₁.heap.get? b = some o → H b = none → (hidT s₁.heap H).get? b = some o := fun e n => hidT_get e n
    have noA : ∀ {b : Addr} {o : Obj} {es : Array DictEntry} {ep : Nat}, s₁.heap.get? b = some o → o.data = .dict es ep → H b = none := fun {b o es ep} e d => by
      cases q : H b with
      | none => rfl
      | some u =>
        have e' : b = a := hA b (by rw [q]; simp)
        subst e'
        rw [ha] at e; cases e
        have d' : Data.seq vs.toArray _ = Data.dict es ep := d
        cases d'
    have nsK : ∀ {b : Addr} {m : Str → Option Value}, s₁.heap.Ns b m → (hidT s₁.heap H).Ns b m := fun {b m} ⟨o, es, ep, e, d, r⟩ => ⟨o, es, ep, base_of e (noA e d), d, r⟩
    have hKb : K.In (hidT s₁.heap H) := fun b o e => base_of (KX b o e) (by
      cases q : H b with
      | none => rfl
      | some u =>
        have e' : b = a := hA b (by rw [q]; simp)
        subst e'
        rw [hK (by rw [q]; simp)] at e; cases e)
    have hM : Mod K mg (hidT s₁.heap H) := ⟨hKb, nsK hns, ⟨mb, nsK hb, hbb⟩, let ⟨mc, h1, h2⟩ := hlim; ⟨mc, nsK h1, h2⟩⟩
    have e0 : Env0 P w K mg (hidT s₁.heap H) callerA [] s₁ H := ⟨rfl, hM, fun b o e => of_hidT e, Nat.le_of_eq (hidT_size _ _), trivial, fun b hb => absurd (show b ∈ ([] : List Addr) from hb) (by simp), hok, .of_eq hg⟩
    refine codeAny_mono ((F _ hKb (nsK hns)).run callerA [] s₁ H ⟨[.ref a], []⟩ [.ref a] [.ref a] _ _ hr e0 (hbind s₁ (.ref a)) (.cons rfl .nil) (hsp H hO hS)) fun r s' h => ?_
    cases r with
    | error e => exact (hCX H e s' h).elim
    | ok fl =>
      cases fl with
      | next => exact False.elim h
      | brk => exact False.elim h
      | cont => exact False.elim h
      | ret u =>
        obtain ⟨v, H', os, bare, un, hok', r', q⟩ := h
        have q' : v = .bl true := q
        subst q'
        obtain rfl : u = Value.bool true := r'
        refine ⟨rfl, OldK.of_keep fun b o e => ?_, os, bare⟩
        cases q : H b with
        | none => exact un.keep b o e q (by intro z; exact absurd (show b ∈ ([] : List Addr) from z) (by simp)) (by simp)
        | some u =>
          rcases hO b with z | ⟨ob, xs, z⟩
          · rw [q] at z; cases z
          · have z2 := un.frzs b ob _ z
            obtain ⟨e1, _⟩ := hok b _ z
            obtain ⟨e2, _⟩ := hok' b _ z2
            rw [e] at e1; cases e1
            exact e2
  cases hk : K.lookup a with
  | some o =>
    -- the script is one of the module's own objects
    have e := KX a o hk
    rw [ha] at e
    cases e
    refine core (fun _ => none) (fun _ => .inl rfl) (.inr ⟨_, vs.toArray, _, hk, rfl, rfl, rfl, by rw [List.size_toArray, lenV]; exact hl, by simpa using rv⟩) (fun b u z => by have z' : (none : Option HO) = some u := z; cases z') (fun b z => absurd rfl z) fun z => absurd rfl z
  | none =>
    refine core (fun b => if b = a then some (.frz { cls := .type "list", data := .seq vs.toArray } (.lst (ns.map V.int))) else none) (fun b => ?_) (.inl (.inr ⟨{ cls := .type "list", data := .seq vs.toArray }, if_pos rfl⟩)) (fun b u z => ?_) (fun b z => ?_) fun _ => hk
    · by_cases hb : b = a
      · exact .inr ⟨_, _, if_pos hb⟩
      · exact .inl (if_neg hb)
    · by_cases hb : b = a
      · have z' := (if_pos hb).symm.trans z
        cases z'
        subst hb
        exact ⟨ha, by rw [List.length_map]; exact hl, vs, _, rv, ha⟩
      · have z' := (if_neg hb).symm.trans z
        cases z'
    · by_cases hb : b = a
      · exact hb
      · exact absurd (if_neg hb) z
end L2

namespace L2
open PySem PySem.Spec PyProof.Rows

abbrev KOf {K : PySem.W.Frag} {h : Heap} (_ : K.In h) : PySem.W.Frag := K

/-- the goal that k_head leaves (case hc), from the law's promise. F gives the function object fd (K's own) once, then the promise over every base -/
theorem walk_of {l : PySem.W.OpenLaw} {n k : Nat} {q : Program} {loose : List Str} {XP : (Str → Option Value) → Heap → Prop} {YP : World → Heap → Prop} {d : DefRec} {K : Params → PySem.W.Frag} {CX : World → CXT} {sp : World → Sp} {x : Str}
    (hn : l.most = some n) (hn2 : n ≤ sizeLine) (hdf : d.params.defaults = []) (hr : Room k callerA)
    (hY : ∀ (w : World) (h : Heap), YP w h → (K w.params).In h)
    (F : ∀ (w : World) (mg : Str → Option Value) (fa : Addr) (h : Heap), (K w.params).In h → h.Ns mainGlobals mg → mg d.name = some (.ref fa) →
      ∃ fd : FuncData, (∀ (s : Shared) (u : Value), BindsTo s fd ⟨[u], []⟩ [(x, u)]) ∧
        ∀ base : Heap, (K w.params).In base → base.Ns mainGlobals mg → FnOk l.prog w (K w.params) mg base (CX w) k fa fd [x] (sp w))
    (hsp : ∀ (w : World) (H : Hp) (a : Addr) (ns : List Int), ns.length ≤ n → Only H → SqL (K w.params) H a (ns.map V.int) → sp w [.ref a] H (fun v _ => v = .bl true) fun _ _ _ => False)
    (hCX : ∀ (w : World) (H : Hp) (s : Shared) (e : Value) (s' : Shared), CX w [] H s (fun _ _ _ => False) e s' → False) :
    PySem.W.WalkO q loose XP YP l.row.toRowW d [] (fun f vs => PySem.call f vs) := by
  refine Att.attach_call hn hdf fun w s₀ s₁ mg mb fa o pm cd doc a vs ns G Y ho hd hcd hmg hobj hints hlen hg => ?_
  have KX := hY w _ Y
  obtain ⟨fd, hb, hF⟩ := F w mg fa _ KX G.T.g hmg
  exact law_call KX G.T.g G.T.b G.T.builtins G.T.nolimit hg hobj hints (Nat.le_trans hlen hn2) hr hF hb (fun H hO hS => hsp w H a ns hlen hO hS) fun H e s' => hCX w H s₁ e s'
end L2

/- THE LAST THEOREM (shape; LID, My.* are yours):
   My.Adr: a structure of the addresses that your layer names (classes, functions); My.Txt K t: a structure (Prop) of the equations over K;
   My.txt_mk : {K} {implicit addresses ..} (e1 : nsIn K mainGlobals "law" = some (some (.ref f))) (e2 : K.lookup f = some ⟨oc, od, .func (fnOf "law" "law" params body scope dV kV doc pm an cdv ct), sl⟩) (e3 : codeIn K cdv "law" = true) .. : ∃ t, My.Txt K t

set_option maxRecDepth 100000 in
set_option maxHeartbeats 0 in
theorem PySem.Challenge.cw_LID_holds : PySem.Challenge.rw_LID.Holds := by
  w_on; o_law; k_head; (case hw => w_witness2)
  k_fill
  refine L2.walk_of (l := PySem.Challenge.rw_LID) (n := 63) (k := 40) (x := "script") (CX := fun w => ..) (sp := fun _ => My.sp_law) rfl (by decide) rfl ⟨rfl, by decide, by decide⟩ (fun w h Y => PySem.W.kIn_of Y) ?F ?S ?C
  case F =>
    intro w mg fa h KX G hmg
    have T : ∃ t, My.Txt (L2.KOf KX) t := by
      dsimp only [L2.KOf]                          -- K must stand as «<heap const> w.params» for k_is
      refine' My.txt_mk ?e1 ?e2 ?e3 ..
      (case e1 => PySem.W.k_is)                    -- in the order: a name -> its address -> its object -> its parts
      (case e2 => PySem.W.k_is)
      ..
    obtain ⟨t, T⟩ := T
    have e0 := hmg.symm.trans (PySem.W.mg_of KX G T.law)
    cases e0                                       -- fa is the law's own address
    exact ⟨_, fun s u => .of_eq rfl, fun base kb nb => My.law_fn T kb nb⟩     -- if «.of_eq rfl» comes too early: refine' ⟨_, ?b, fun base kb nb => My.law_fn T kb nb⟩; exact fun s u => .of_eq rfl
  case S => exact fun w H a ns hl hO hS => ..
  case C => exact ..
(the tactic k_is has no namespace: write k_is) -/

/-! SHORT WORDS over the layer: a def of the text, its body, what a loop and a test want. -/
namespace L2
open PySem PySem.Spec PyProof.Rows

/-! ### the text by places -/
/-- the j-th statement of a class's body -/
def inClass (s : Stmt) (j : Nat) : Stmt := match s with
  | .ClassDef _ _ _ body _ _ _ _ _ _ _ => body.getD j (.Pass ⟨0, 0, 0, 0⟩)
  | _ => .Pass ⟨0, 0, 0, 0⟩
def defArgs (s : Stmt) : Arguments := match s with
  | .FunctionDef _ a _ _ _ _ _ _ _ _ => a
  | _ => { posonlyargs := [], args := [], vararg := none, kwonlyargs := [], kw_defaults := [], kwarg := none, defaults := [] }
def defBody (s : Stmt) : List Stmt := match s with
  | .FunctionDef _ _ b _ _ _ _ _ _ _ => b
  | _ => []
def defScope (s : Stmt) : Scope := match s with
  | .FunctionDef _ _ _ _ _ _ sc _ _ _ => sc
  | _ => { kind := .function, names := [], isGenerator := false, isCoroutine := false }

/-! ### no exception leaves a def -/
abbrev CX0 : CXT := fun _ _ _ _ _ _ => False
abbrev E0 : XK := fun _ _ _ => False
theorem pass0 {X : Cx} : Passes CX0 X E0 := fun _ _ _ _ _ _ _ h => h.elim

/-! ### a def (or method) of the text as it stands behind the top -/
structure Fun (K : PySem.W.Frag) (x qual : Str) (st : Stmt) (f : Addr) (fd : FuncData) : Prop where
  ex : ∃ (oc : Value) (od : Option Addr) (kV doc pm : Value) (an : Option Addr) (cdv ct : Value) (osl : Array (Option Value)),
    fd = PySem.W.fnOf x qual (defArgs st) (defBody st) (defScope st) .none kV doc pm an cdv ct ∧ K.lookup f = some ⟨oc, od, .func fd, osl⟩ ∧ PySem.W.codeIn K cdv qual = true
  kp : PySem.W.keepIn K (.ref f) = true
section
variable {P : Program} {w : World} {K : PySem.W.Frag} {mg : Str → Option Value} {base : Heap}
/-- THE RULE for a def: its body as a term of rules, and the reading of that term -/
theorem Fun.ok {x qual : Str} {st : Stmt} {f : Addr} {fd : FuncData} {N ps : List Str} {k : Nat} {sp : Sp} (F : Fun K x qual st f fd) (S : FnScope N ps (defScope st)) (len : ∀ vs H Q E, sp vs H Q E → vs.length = ps.length)
    (hbody : ∀ (cdv : Value) (A : Around) (outer : List Env) (s : Shared) (H : Hp) (vs : List V) (Q : VK) (E : XK), Room k (A.deeper (envOfC qual (defScope st) s.heap.objs.size f cdv)) → sp vs H Q E →
      ∃ t, PSs (cxOf CX0 P w K mg base N qual (defScope st) f cdv A outer s H E).nox (defBody st) t ∧ t { nx := fun _ H' => Q .non H', rt := Q } (start N vs) H) : FnOk P w K mg base CX0 (k + 1) f fd ps sp := by
  obtain ⟨oc, od, kV, doc, pm, an, cdv, ct, osl, rfl, lk, hcd⟩ := F.ex
  refine fn_of lk hcd S len fun A outer s H vs Q E hr hsp => ?_
  obtain ⟨t, h, q⟩ := hbody cdv A outer s H vs Q E hr hsp
  exact ⟨t, h.nox, q⟩
/-- how its arguments bind (no defaults): h is «fun _ _ _ _ _ _ us hl => match us, hl with | [_, _], _ => rfl», one _ a parameter -/
theorem Fun.binds {x qual : Str} {st : Stmt} {f : Addr} {fd : FuncData} {ps : List Str} (F : Fun K x qual st f fd)
    (h : ∀ (kV doc pm : Value) (an : Option Addr) (cdv ct : Value) (us : List Value), us.length = ps.length → bindArgs (PySem.W.fnOf x qual (defArgs st) (defBody st) (defScope st) .none kV doc pm an cdv ct) ⟨us, []⟩ = pure (ps.zip us)) : Binds K fd ps [] := by
  obtain ⟨oc, od, kV, doc, pm, an, cdv, ct, osl, rfl, lk, hcd⟩ := F.ex
  exact .all (h kV doc pm an cdv ct)
theorem fun_mk {x qual : Str} {st : Stmt} {f : Addr} {oc : Value} {od an : Option Addr} {osl : Array (Option Value)} {kV doc pm cdv ct : Value} (l : K.lookup f = some ⟨oc, od, .func (PySem.W.fnOf x qual (defArgs st) (defBody st) (defScope st) .none kV doc pm an cdv ct), osl⟩)
    (c : PySem.W.codeIn K cdv qual = true) (k : PySem.W.keepIn K (.ref f) = true) : Fun K x qual st f (PySem.W.fnOf x qual (defArgs st) (defBody st) (defScope st) .none kV doc pm an cdv ct) := ⟨⟨oc, od, kV, doc, pm, an, cdv, ct, osl, rfl, l, c⟩, k⟩
end
/-! ### expressions in short: the name that stands in the i-th slot -/
section
variable {X : Cx}
theorem pv (i : Nat) {x : Str} {pos : Pos} (hN : X.N[i]? = some x := by rfl) (hv : Vis X.env.scope x := by first | exact Or.inl rfl | exact Or.inr (Or.inl rfl) | exact Or.inr (Or.inr rfl)) (hd : (x == ("__debug__" : Str)) = false := by decide)
    (hcd : (x == ("__classdict__" : Str)) = false := by decide) : PE X (.Name x pos) (tVar i) := pe_var hN hv hd hcd
end

/-! ### tests -/
theorem iteF {A B : Prop} (h : B) : if false = true then A else B := by
  rw [if_neg Bool.false_ne_true]
  exact h
theorem iteT {A B : Prop} (h : A) : if true = true then A else B := by
  rw [if_pos rfl]
  exact h
theorem ite2 {c A B : Prop} [Decidable c] (h1 : c → A) (h2 : ¬ c → B) : if c then A else B := by
  by_cases h : c
  · rw [if_pos h]
    exact h1 h
  · rw [if_neg h]
    exact h2 h
theorem iteNS {c A B : Prop} [Decidable c] (hc : c) (h : B) : if (!decide c) = true then A else B := by
  rw [decide_eq_true hc]
  exact iteF h

/-! ### heaps -/
/-- all that was tracked is as it was -/
def Same (H H' : Hp) : Prop := ∀ b o, H b = some o → H' b = some o
theorem Same.refl (H : Hp) : Same H H := fun _ _ h => h
theorem Same.trans {H H1 H2 : Hp} (a : Same H H1) (b : Same H1 H2) : Same H H2 := fun c o h => b c o (a c o h)
theorem Same.free {H H' : Hp} (e : Same H H') {l : Addr} (h : H' l = Option.none) : H l = Option.none := by
  cases q : H l with
  | none => rfl
  | some o =>
    rw [e l o q] at h
    cases h
theorem Same.seq {K : PySem.W.Frag} {H H' : Hp} {a : Addr} {xs : List V} (e : Same H H') (h : SqL K H a xs) : SqL K H' a xs := by
  rcases h with (h | ⟨o, h⟩) | h
  · exact .inl (.inl (e _ _ h))
  · exact .inl (.inr ⟨o, e _ _ h⟩)
  · exact .inr h

end L2

set_option Elab.async false
set_option linter.all false
set_option maxRecDepth 100000
/-! what the hand layer lacks: comprehensions, enumerate, ranges by a step, sorted, lists compared, isinstance, count, index -/
namespace L2
open PySem PySem.Spec PyProof.Rows
theorem closure_go {env : Env} : ∀ (names : List (Str × NameKind)) (acc : List (Str × Addr)), (∀ y, (y, NameKind.free) ∈ names → ∃ c, env.cells.lookup y = some c) → (∀ y c, acc.lookup y = some c → env.cells.lookup y = some c) →
    ∃ cl : List (Str × Addr), (forIn names acc fun (x : Str × NameKind) (r : List (Str × Addr)) => if (x.2 == NameKind.free) = true then (do let a ← cellOf env x.1; pure (ForInStep.yield ((x.1, a) :: r))) else (pure (ForInStep.yield r) : Sem (ForInStep (List (Str × Addr))))) = (pure cl : Sem _) ∧
      (∀ y c, cl.lookup y = some c → env.cells.lookup y = some c) ∧ (∀ y, (y, NameKind.free) ∈ names ∨ (acc.lookup y).isSome = true → (cl.lookup y).isSome = true)
  | [], acc, _, ha => ⟨acc, rfl, ha, fun y h => by rcases h with h | h; cases h; exact h⟩
  | (n, k) :: r, acc, hn, ha => by
    have hn' : ∀ y, (y, NameKind.free) ∈ r → ∃ c, env.cells.lookup y = some c := fun y h => hn y (List.mem_cons_of_mem _ h)
    by_cases hk : k = .free
    · subst hk
      obtain ⟨c, hc⟩ := hn n List.mem_cons_self
      obtain ⟨cl, e, h1, h2⟩ := closure_go r ((n, c) :: acc) hn' (fun y d h => by
        rw [List.lookup_cons] at h
        split at h
        · rename_i q
          have : y = n := by simpa using q
          cases h
          rw [this]
          exact hc
        · exact ha y d h)
      refine ⟨cl, ?_, h1, fun y h => h2 y ?_⟩
      · rw [List.forIn_cons]
        have ec : cellOf env n = pure c := by unfold cellOf; rw [hc]
        simp only [beq_self_eq_true, if_true, ec]
        exact e
      · rcases h with h | h
        · rcases List.mem_cons.mp h with q | q
          · cases q
            right
            simp [List.lookup_cons]
          · exact .inl q
        · right
          rw [List.lookup_cons]
          split
          · rfl
          · exact h
    · obtain ⟨cl, e, h1, h2⟩ := closure_go r acc hn' ha
      refine ⟨cl, ?_, h1, fun y h => h2 y ?_⟩
      · rw [List.forIn_cons]
        have : (k == NameKind.free) = false := by simpa using hk
        simp only [this, Bool.false_eq_true, if_false]
        exact e
      · rcases h with h | h
        · rcases List.mem_cons.mp h with q | q
          · cases q
            exact absurd rfl hk
          · exact .inl q
        · exact .inr h
theorem closure_of {scope : Scope} {env : Env} (h : ∀ y, (y, NameKind.free) ∈ scope.names → ∃ c, env.cells.lookup y = some c) :
    ∃ cl, closureFor scope env = pure cl ∧ (∀ y c, cl.lookup y = some c → env.cells.lookup y = some c) ∧ (∀ y, (y, NameKind.free) ∈ scope.names → ∃ c, cl.lookup y = some c) := by
  obtain ⟨cl, e, h1, h2⟩ := closure_go scope.names [] h (fun y c q => by simp at q)
  refine ⟨cl, ?_, h1, fun y hy => Option.isSome_iff_exists.mp (h2 y (.inl hy))⟩
  unfold closureFor
  show (forIn scope.names [] _ >>= _) = _
  rw [show (forIn scope.names ([] : List (Str × Addr)) fun (x : Str × NameKind) (r : List (Str × Addr)) => _) = pure cl from e]
  rfl
theorem relabel_kind {scope : Scope} {env : Env} {y : Str} (h : (relabel scope env).names.lookup y = some .cell ∨ (relabel scope env).names.lookup y = some .free) (hc : ∀ z ∈ scope.names, z.2 ≠ .cell) : (y, NameKind.free) ∈ scope.names := by
  have go : ∀ names : List (Str × NameKind), (∀ z ∈ names, z.2 ≠ .cell) → ((names.map fun (n, k) => if (k == NameKind.free && env.scope.kind == .function && env.kindOf n == some .cell) then (n, NameKind.cell) else (n, k)).lookup y = some .cell ∨
      (names.map fun (n, k) => if (k == NameKind.free && env.scope.kind == .function && env.kindOf n == some .cell) then (n, NameKind.cell) else (n, k)).lookup y = some .free) → (y, NameKind.free) ∈ names := by
    intro names
    induction names with
    | nil => intro _ h; rcases h with h | h <;> cases h
    | cons p r ih =>
      obtain ⟨n, k⟩ := p
      intro hz h
      rw [List.map_cons] at h
      by_cases hq : (k == NameKind.free && env.scope.kind == .function && env.kindOf n == some .cell) = true
      · have hk : k = .free := by
          simp only [Bool.and_eq_true, beq_iff_eq] at hq
          exact hq.1.1
        simp only [hq, if_true] at h
        by_cases hy : y = n
        · subst hy; subst hk; exact List.mem_cons_self
        · have : (y == n) = false := by simpa using hy
          simp only [List.lookup_cons, this] at h
          exact List.mem_cons_of_mem _ (ih (fun z hz' => hz z (List.mem_cons_of_mem _ hz')) h)
      · simp only [hq] at h
        by_cases hy : y = n
        · subst hy
          simp only [List.lookup_cons, beq_self_eq_true, Bool.false_eq_true, if_false] at h
          rcases h with h | h
          · exact absurd (Option.some.inj h) (hz (y, k) List.mem_cons_self)
          · rw [Option.some.inj h]; exact List.mem_cons_self
        · have : (y == n) = false := by simpa using hy
          simp only [List.lookup_cons, this, Bool.false_eq_true, if_false] at h
          exact List.mem_cons_of_mem _ (ih (fun z hz' => hz z (List.mem_cons_of_mem _ hz')) h)
  exact go scope.names hc h
theorem relabel_free {scope : Scope} {env : Env} {y : Str} (h : scope.names.lookup y = some .free) : (relabel scope env).names.lookup y = some .cell ∨ (relabel scope env).names.lookup y = some .free := by
  have go : ∀ names : List (Str × NameKind), names.lookup y = some .free → ((names.map fun (n, k) => if (k == NameKind.free && env.scope.kind == .function && env.kindOf n == some .cell) then (n, NameKind.cell) else (n, k)).lookup y = some .cell ∨
      (names.map fun (n, k) => if (k == NameKind.free && env.scope.kind == .function && env.kindOf n == some .cell) then (n, NameKind.cell) else (n, k)).lookup y = some .free) := by
    intro names
    induction names with
    | nil => intro h; cases h
    | cons p r ih =>
      obtain ⟨n, k⟩ := p
      intro h
      rw [List.map_cons]
      by_cases hy : y = n
      · subst hy
        have hk : k = .free := by simpa [List.lookup_cons] using h
        subst hk
        by_cases hq : (NameKind.free == NameKind.free && env.scope.kind == .function && env.kindOf y == some .cell) = true
        · left; simp only [hq, if_true]; simp [List.lookup_cons]
        · right; simp only [hq]; simp [List.lookup_cons]
      · have hb : (y == n) = false := by simpa using hy
        have h' : r.lookup y = some .free := by simpa [List.lookup_cons, hb] using h
        by_cases hq : (k == NameKind.free && env.scope.kind == .function && env.kindOf n == some .cell) = true
        · simp only [hq, if_true, List.lookup_cons, hb]; exact ih h'
        · simp only [hq, List.lookup_cons, hb, Bool.false_eq_true, if_false]; exact ih h'
  exact go scope.names h
/-! ### a comprehension's loop, with the step ahead of the store -/
section
variable {prog : Program} {w : World} {A : Around} {R : Result → Shared → Prop} {s : Shared}
theorem compLoop_let {elt target iter : Expr} {ifs : List Expr} {scope : Scope} {pos : Pos} {it acc : Value} {env : Env} (I : Nat → Shared → Prop)
    (turn : ∀ n s, I n s → wpAny (model prog w) A (pyNext it) (fun r s₁ => match r with
      | none => R (.ok .next) s₁
      | some v => wpAny (model prog w) A (letOwnedTupleGo target it v) (fun _ s₀ => wpAny (model prog w) A (assign target env v) (fun _ s₂ =>
          wpAny (model prog w) A (forIn ifs true fun c r => if r = true then do let ok ← isTrue c env (eval c env); pure (ForInStep.yield ok) else pure (ForInStep.yield r)) (fun ok s₃ =>
            if ok = true then wpAny (model prog w) A (eval elt env) (fun x s₄ =>
              wpAny (model prog w) A (call (.builtin "list.append") [acc, x]) (fun _ s₅ => ∃ m, m < n ∧ I m s₅) (notedBy (model prog w) A env fun e s' => R (.error e) s') s₄) (notedBy (model prog w) A env fun e s' => R (.error e) s') s₃
            else ∃ m, m < n ∧ I m s₃) (notedBy (model prog w) A env fun e s' => R (.error e) s') s₂) (notedBy (model prog w) A env fun e s' => R (.error e) s') s₀) (notedBy (model prog w) A env fun e s' => R (.error e) s') s₁) (notedBy (model prog w) A env fun e s' => R (.error e) s') s)
    (n : Nat) (h : I n s) :
    codeAny (model prog w) A (.compLoop (.ListComp elt [⟨target, iter, ifs, 0⟩] scope pos) 0 it acc env) R s := by
  refine codeAny_loop rfl I (fun n s hI => ?_) n h
  show wpAny _ A ((compTurn (.ListComp elt [⟨target, iter, ifs, 0⟩] scope pos) 0 it acc env).onRaise (fun x => do noteFrame x env; theTreesLotGoes x)) _ _ s
  refine wpAny_noted ?_
  rw [compTurn_list]
  refine wpAny_bind (wpAny_standAt (wpAny_bind (wpAny_mono (turn n s hI) (fun r s₁ h₁ => ?_) fun _ _ h' => h')))
  cases r with
  | none => exact wpAny_pure h₁
  | some v =>
    refine wpAny_bind (wpAny_mono h₁ (fun _ s₀ h₀ => ?_) fun _ _ h' => h')
    refine wpAny_bind (wpAny_mono h₀ (fun _ s₂ h₂ => wpAny_bind (wpAny_mono h₂ (fun ok s₃ h₃ => ?_) fun _ _ h' => h')) fun _ _ h' => h')
    cases ok with
    | false => exact wpAny_pure ⟨rfl, h₃⟩
    | true =>
      exact wpAny_bind (wpAny_bind (wpAny_mono h₃ (fun x s₄ h₄ => wpAny_bind (wpAny_mono h₄ (fun _ s₅ h₅ => wpAny_pure (wpAny_pure ⟨rfl, h₅⟩)) fun _ _ h' => h')) fun _ _ h' => h'))
end

/-! ### a list comprehension of one clause -/
def cxComp (X : Cx) (scope : Scope) (N : List Str) (cl : List (Str × Addr)) (C : Addr) (s : Shared) (H : Hp) (ex : List Addr) : Cx where
  prog := X.prog
  w := X.w
  K := X.K
  mg := X.mg
  base := X.base
  A := X.A
  N := N
  s₀ := s
  H₀ := H
  env := compEnvC scope cl C X.env
  outer := X.stack
  stack := X.stack
  ex := ex
  fn := fun _ => false
  calm := X.calm
  pn := []
  xe := fun _ _ => False
/-- the tests, from the left -/
def PTs (X : Cx) (ifs : List Expr) (t : TT) : Prop :=
  ∀ (pins : List (Addr × Obj)) (s : Shared) (σ : St) (H : Hp) (Q : Bool → Hp → Prop), Inv X pins σ H s → t σ H Q →
    wpAny (model X.prog X.w) X.A (forIn ifs true fun c r => if r = true then do let ok ← isTrue c X.env (eval c X.env); pure (ForInStep.yield ok) else pure (ForInStep.yield r)) (TP X pins σ Q) X.xe s
def tYes : TT := fun _ H Q => Q true H
theorem pts_nil {X : Cx} : PTs X [] tYes := fun _ _ _ H _ I h => wpAny_tests_nil ⟨H, I, h⟩
theorem pts_one {X : Cx} {c : Expr} {t : TT} (h : PT X c t) : PTs X [c] t := fun pins s σ H Q I hq => wpAny_tests_one (h pins s σ H Q I hq)
/-- the slots of a block at a turn's start: its own names are free, the outer ones that it sees -/
def st0 (n : Nat) (ixs : List Nat) (σ : St) : St := List.replicate n none ++ ixs.map fun j => (σ[j]?).join
/-- what is asked of the block's turns: W the invariant by the turn, a measure, the items so far (D, a list of the block's own, bears them) -/
def CompW (J : It) (n : Nat) (ixs : List Nat) (g : TG) (tt : TT) (te : TE) (σ : St) (Q : VK) (H1 : Hp) (D : Addr) : Prop :=
  ∃ W : Nat → Nat → List V → Hp → Prop, (∃ m, W 0 m [] (upd H1 D (.lst []))) ∧ ∀ i m acc H2, W i m acc H2 → H2 D = some (.lst acc) →
    (J.stop i H2 ∧ Q (.ref D) H2) ∨
    (J.go i H2 ∧ ∃ N : List V → Hp → Prop, (∀ acc' H', N acc' H' → ∃ m', m' < m ∧ W (i + 1) m' acc' H') ∧ ∀ v H3, J.yld i H2 v H3 → g v (st0 n ixs σ) H3 fun σ1 H3' =>
      σ1.length = n + ixs.length ∧ σ1.drop n = (st0 n ixs σ).drop n ∧ tt σ1 H3' fun b H4 =>
        if b = true then te σ1 H4 fun y H5 => H5 D = some (.lst acc) ∧ acc.length < sizeLine ∧ N (acc ++ [y]) (upd H5 D (.lst (acc ++ [y])))
        else H4 D = some (.lst acc) ∧ N acc H4)
def tComp (wi : TI) (n : Nat) (ixs : List Nat) (g : TG) (tt : TT) (te : TE) : TE := fun σ H Q => wi σ H fun J H1 => ∀ D, H1 D = none → CompW J n ixs g tt te σ Q H1 D
theorem Un.off {fs ex : List Addr} {H H' : Hp} {h h1 h2 : Heap} {C : Addr} (u : Un fs ex H H' h h1) (hs : Heap.SameBut C h1 h2) (hC : h.get? C = none) : Un fs ex H H' h h2 := by
  have ne : ∀ b o, h.get? b = some o → b ≠ C := fun b o e z => by rw [z, hC] at e; cases e
  refine ⟨fun b o e n hb hx => (hs.2 b (ne b o e)).trans (u.keep b o e n hb hx), fun b o e n hb hx => ?_, u.free, fun b o e hx => ?_, u.tups, u.frzs, u.tbls⟩
  · obtain ⟨sl, q⟩ := u.slot b o e n hb hx
    exact ⟨sl, (hs.2 b (ne b o e)).trans q⟩
  · obtain ⟨o', q⟩ := u.there b o e hx
    exact ⟨o', (hs.2 b (ne b o e)).trans q⟩
theorem HOk.off {P : Program} {w : World} {H : Hp} {h h' : Heap} {C : Addr} (x : HOk P w H h) (hC : H C = none) (hs : Heap.SameBut C h h') : HOk P w H h' := fun b ob e => by
  refine (x b ob e).stay (fun c w' hc q => (hs.2 c ?_).trans q) (fun _ q => q) fun _ _ q => q
  rintro rfl
  rcases hc with rfl | hc
  · rw [hC] at e; cases e
  · rw [hC] at hc; cases hc
section
variable {X : Cx}
theorem st0_len (n : Nat) (ixs : List Nat) (σ : St) : (st0 n ixs σ).length = n + ixs.length := by unfold st0; simp
theorem st0_low {n : Nat} {ixs : List Nat} {σ : St} {i : Nat} {v : V} (h : (st0 n ixs σ)[i]? = some (some v)) : n ≤ i := by
  refine Nat.le_of_not_lt fun hi => ?_
  unfold st0 at h
  rw [List.getElem?_append_left (by simpa using hi), List.getElem?_replicate] at h
  rw [if_pos hi] at h
  cases h
/-- the block's start -/
theorem comp_start {pins : List (Addr × Obj)} {σ : St} {H : Hp} {s : Shared} {scope : Scope} {nl fr : List Str} {ixs : List Nat} {cl : List (Str × Addr)} {h' : Heap} {tk : Nat} {fp : List Addr} (I : Inv X pins σ H s)
    (hk : scope.kind = .function) (hcell : ∀ y ∈ scope.names, y.2 ≠ .cell) (hfr : ∀ y ∈ fr, scope.names.lookup y = some .free)
    (hfree : ∀ y, (y, NameKind.free) ∈ scope.names → X.env.kindOf y = some .cell ∨ X.env.kindOf y = some .free) (hix : fr.map some = ixs.map fun j => X.N[j]?)
    (h1 : ∀ y c, cl.lookup y = some c → X.env.cells.lookup y = some c) (h2 : ∀ y, (y, NameKind.free) ∈ scope.names → ∃ c, cl.lookup y = some c) (hf : ∀ b ∈ fp, FpOk X pins H b) (hfl : ∀ b ∈ fp, b < s.heap.objs.size)
    (hns : h'.Ns s.heap.objs.size fun _ => none) (hsb : ∀ b o, s.heap.get? b = some o → h'.get? b = some o) :
    Inv (cxComp X scope (nl ++ fr) cl s.heap.objs.size s H fp) [] (st0 nl.length ixs σ) H { s with heap := h', toks := tk } := by
  have fsub : ∀ b ∈ fp, b ∉ frs X.stack := fun b hb z => by
    obtain ⟨_, f1, f2, _⟩ := hf b hb
    rcases List.mem_cons.mp (I.stkSub b z) with e | e
    · exact f1 e
    · exact f2 e
  have hlen : fr.length = ixs.length := by simpa using congrArg List.length hix
  refine ⟨⟨I.ok.mod, hk, I.ok.glob, I.ok.blt, Nat.le_refl _, fun y z c q1 q2 => I.ok.inj y z c (h1 y c q1) (h1 z c q2), fun y hy => h2 y (relabel_kind hy hcell), fun y c q => ?_, I.ok.hd, I.ok.frames, .inl rfl, fun b hb => ⟨Nat.ne_of_lt (hfl b hb), fun y c q => ?_⟩, I.bs,
      Nat.le_trans I.ok.bsz I.sz, fun b o e hb => ?_, fun b hb => fsub b hb, I.stack, I.stkFree⟩, rfl, I.bare, Un.kept hsb, ⟨_, hns, fun i y v e1 e2 e3 => ?_⟩, fun y c q => ?_, I.fresh, fun y c q => I.freeC y c (h1 y c q), fun p hp => absurd (show p ∈ ([] : List (Addr × Obj)) from hp) (by simp), I.hok.kept hsb, ?_⟩
  · have q' : (fun _ : Str => false) y = true := q
    cases q'
  · exact (hf b hb).2.2.2.2.1 y c (h1 y c q)
  · rcases (hf b hb).2.2.2.1 with z | z
    · exact I.ok.noex b o e z
    · exact absurd (Nat.lt_of_lt_of_le (Heap.lt_size (I.ok.bs b o e).1) z) (Nat.lt_irrefl _)
  · have hi := st0_low e2
    have e1' : (nl ++ fr)[i]? = some y := e1
    rw [List.getElem?_append_right hi] at e1'
    have e2' := e2
    unfold st0 at e2'
    rw [List.getElem?_append_right (by simpa using hi), List.length_replicate, List.getElem?_map] at e2'
    have hy : y ∈ fr := List.mem_of_getElem? e1'
    have hfy := PySem.mem_of_lookup (hfr y hy)
    cases ej : ixs[i - nl.length]? with
    | none => rw [ej] at e2'; cases e2'
    | some j =>
      rw [ej] at e2'
      have e4 : (σ[j]?).join = some v := Option.some.inj e2'
      have e5 : σ[j]? = some (some v) := by
        cases q : σ[j]? with
        | none => rw [q] at e4; cases e4
        | some z => rw [q] at e4; rw [show z = some v from e4]
      have e6 : X.N[j]? = some y := by
        have q := congrArg (fun l => l[i - nl.length]?) hix
        simp only [List.getElem?_map, e1', ej, Option.map_some] at q
        exact (Option.some.inj q).symm
      have hv : Vis X.env.scope y := by
        rcases hfree y hfy with z | z
        · exact .inr (.inl z)
        · exact .inr (.inr z)
      obtain ⟨m, hn, hl⟩ := I.loc
      obtain ⟨u, r, l⟩ := hl j y v e6 e5 hv
      refine ⟨u, r, .inr ⟨relabel_free (hfr y hy), ?_⟩⟩
      obtain ⟨c, hc⟩ := h2 y hfy
      rcases l with ⟨z, _⟩ | ⟨_, c', hc', oc, hoc, hd⟩
      · rcases hfree y hfy with q | q <;> · rw [z] at q; cases q
      · have : c' = c := Option.some.inj (hc'.symm.trans (h1 y c hc))
        subst this
        exact ⟨c', hc, oc, hsb _ _ hoc, hd⟩
  · obtain ⟨v, oc, hoc, hd⟩ := I.cell y c (h1 y c q)
    exact ⟨v, oc, hsb _ _ hoc, hd⟩
  · show (st0 nl.length ixs σ).length = (nl ++ fr).length
    rw [st0_len, List.length_append, hlen]
/-- back from the block -/
theorem comp_back {pins : List (Addr × Obj)} {σ σ' : St} {H H' : Hp} {s s' : Shared} {scope : Scope} {N : List Str} {cl : List (Str × Addr)} {h' : Heap} {fp : List Addr} (I : Inv X pins σ H s)
    (J : Inv (cxComp X scope N cl s.heap.objs.size s H fp) [] σ' H' s') (hf : ∀ b ∈ fp, FpOk X pins H b) (hs : Heap.SameBut s.heap.objs.size s'.heap h') : Inv X pins σ H' { s' with heap := h' } := by
  have hC : s.heap.get? s.heap.objs.size = none := Heap.get?_none_of_le (Nat.le_refl _)
  refine I.call' (s' := { s' with heap := h' }) (ch := fp) J.os ?_ (J.hok.off J.free hs) J.bare fun b hb => ?_
  · have u : Un (frs X.stack) fp H H' s.heap s'.heap := J.base
    exact u.off hs hC
  · obtain ⟨_, f1, _, f3, f4, f5⟩ := hf b hb
    exact ⟨f3, f1, f4, f5⟩
theorem comp_run {pins : List (Addr × Obj)} {σ : St} {s₂ : Shared} {H₂ : Hp} {elt iter tg : Expr} {ifs : List Expr} {scope : Scope} {pos : Pos} {nl fr : List Str} {ixs : List Nat} {g : TG} {tt : TT} {te : TE} {cl : List (Str × Addr)}
    {it : Addr} {fp : List Addr} {tn : Nat → Heap → Prop} {J : It} {Q : VK} {E : Value → Shared → Prop} {RR : Value → Addr → Result → Shared → Prop} (hc : X.calm = true) (hk : scope.kind = .function)
    (hcell : ∀ y ∈ scope.names, y.2 ≠ .cell) (hfr : ∀ y ∈ fr, scope.names.lookup y = some .free) (hfree : ∀ y, (y, NameKind.free) ∈ scope.names → X.env.kindOf y = some .cell ∨ X.env.kindOf y = some .free)
    (hix : fr.map some = ixs.map fun j => X.N[j]?) (h1 : ∀ y c, cl.lookup y = some c → X.env.cells.lookup y = some c) (h2 : ∀ y, (y, NameKind.free) ∈ scope.names → ∃ c, cl.lookup y = some c)
    (hg : ∀ cl C s H ex, PG (cxComp X scope (nl ++ fr) cl C s H ex) tg g) (ht : ∀ cl C s H ex, PTs (cxComp X scope (nl ++ fr) cl C s H ex) ifs tt) (he : ∀ cl C s H ex, PE (cxComp X scope (nl ++ fr) cl C s H ex) elt te)
    (I2 : Inv X pins σ H₂ s₂) (T : Turn X.prog X.w X.K tg J fp it tn) (st2 : tn 0 s₂.heap) (f2 : ∀ b ∈ fp, FpOk X pins H₂ b)
    (hq : ∀ D, H₂ D = none → CompW J nl.length ixs g tt te σ Q H₂ D)
    (hRR : ∀ D s₃ H₃ H' σ' s', Inv X pins σ H₃ s₃ → (∀ b ∈ fp, FpOk X pins H₃ b) → Inv (cxComp X scope (nl ++ fr) cl s₃.heap.objs.size s₃ H₃ fp) [] σ' H' s' → Q (.ref D) H' → RR (.ref D) s₃.heap.objs.size (.ok .next) s') :
    wpAny (model X.prog X.w) X.A (newList []) (fun acc s₃ => wpAny (model X.prog X.w) X.A (newFunctionEnv scope X.env.globals cl [] X.env.qual none .none (some X.env)) (fun cenv s₄ =>
      codeAny (model X.prog X.w) X.A (.compStart (.ListComp elt [⟨tg, iter, ifs, 0⟩] scope pos) 0 (.ref it) acc { cenv with scope := relabel scope X.env }) (RR acc cenv.locals) s₄) E s₃) E s₂ := by
  refine wpAny_newList ?_
  have hD : H₂ s₂.heap.objs.size = none := I2.fresh
  obtain ⟨W, ⟨m0, w0⟩, turn⟩ := hq _ hD
  have I3 : Inv X pins σ (upd H₂ s₂.heap.objs.size (.lst [])) { s₂ with heap := s₂.heap.push { cls := .type "list", data := .seq ([] : List Value).toArray } } := I2.lnew (t' := s₂.toks) .nil (Nat.zero_le _)
  have st3 : tn 0 (s₂.heap.push { cls := .type "list", data := .seq ([] : List Value).toArray }) := T.keep _ _ _ st2 fun b _ o e => Heap.get?_push_of_some _ e
  have fl2 : ∀ b ∈ fp, b < s₂.heap.objs.size := fun b hb => by
    obtain ⟨o, e, _⟩ := T.obj _ _ st2 b hb
    exact Heap.lt_size e
  have f3 : ∀ b ∈ fp, FpOk X pins (upd H₂ s₂.heap.objs.size (.lst [])) b := fun b hb => ⟨by rw [upd_ne (Nat.ne_of_lt (fl2 b hb))]; exact (f2 b hb).1, (f2 b hb).2⟩
  have fl3 : ∀ b ∈ fp, b < (s₂.heap.push { cls := .type "list", data := .seq ([] : List Value).toArray }).objs.size := fun b hb => by rw [Heap.size_push]; exact Nat.lt_succ_of_lt (fl2 b hb)
  generalize hs3 : ({ s₂ with heap := s₂.heap.push { cls := .type "list", data := .seq ([] : List Value).toArray } } : Shared) = s₃ at I3 ⊢
  have hh3 : s₃.heap = s₂.heap.push { cls := .type "list", data := .seq ([] : List Value).toArray } := by rw [← hs3]
  rw [← hh3] at st3 fl3
  have hDl : upd H₂ s₂.heap.objs.size (.lst []) s₂.heap.objs.size = some (.lst []) := upd_same
  generalize s₂.heap.objs.size = D at I3 w0 turn f3 hDl ⊢
  generalize upd H₂ D (.lst []) = H₃ at I3 w0 f3 hDl ⊢
  refine wpAny_newFunctionEnv hcell (by intro y hy; simp at hy) (fun h₁ hns hsb => ?_) hk
  have old : ∀ b o, s₃.heap.get? b = some o → h₁.get? b = some o := fun b o e => (hsb.2 b (Nat.ne_of_lt (Heap.lt_size e))).trans (Heap.get?_push_of_some _ e)
  have J0 : Inv (cxComp X scope (nl ++ fr) cl s₃.heap.objs.size s₃ H₃ fp) [] (st0 nl.length ixs σ) H₃ { s₃ with heap := h₁, toks := s₃.toks + ([] : List (Str × Value)).length } :=
    comp_start I3 hk hcell hfr hfree hix h1 h2 f3 fl3 hns old
  have st4 : tn 0 h₁ := T.keep _ _ _ st3 fun b _ o e => old b o e
  -- what stays true of the iterator's objects
  have stat : ∀ {H' : Hp}, (∀ b ∈ fp, H' b = none) → ∀ b ∈ fp, FpOk (cxComp X scope (nl ++ fr) cl s₃.heap.objs.size s₃ H₃ fp) [] H' b := fun hn b hb => by
    refine ⟨hn b hb, Nat.ne_of_lt (fl3 b hb), fun z => ?_, .inl hb, fun y c q => (f3 b hb).2.2.2.2.1 y c (h1 y c q), fun p hp => absurd (show p ∈ ([] : List (Addr × Obj)) from hp) (by simp)⟩
    obtain ⟨_, q1, q2, _⟩ := f3 b hb
    rcases List.mem_cons.mp (I3.stkSub b z) with e | e
    · exact q1 e
    · exact q2 e
  have loop : ∀ s₄ : Shared, s₄ = { s₃ with heap := h₁, toks := s₃.toks + ([] : List (Str × Value)).length } →
      codeAny (model X.prog X.w) X.A (.compLoop (.ListComp elt [⟨tg, iter, ifs, 0⟩] scope pos) 0 (.ref it) (.ref D) (compEnvC scope cl s₃.heap.objs.size X.env)) (RR (.ref D) s₃.heap.objs.size) s₄ := by
    rintro s₄ rfl
    refine compLoop_let (fun n s' => ∃ i acc H', Inv (cxComp X scope (nl ++ fr) cl s₃.heap.objs.size s₃ H₃ fp) [] (st0 nl.length ixs σ) H' s' ∧ tn i s'.heap ∧ (∀ b ∈ fp, H' b = none) ∧ W i n acc H' ∧ H' D = some (.lst acc)) ?_ m0
      ⟨0, [], H₃, J0, st4, fun b hb => (f3 b hb).1, w0, hDl⟩
    rintro n s5 ⟨i, acc, H5, I5, st5, fr5, w5, hD5⟩
    rcases turn i n acc H5 w5 hD5 with ⟨stop, qn⟩ | ⟨go, Nx, hN, step⟩
    · refine wpAny_mono (T.done (cxComp X scope (nl ++ fr) cl s₃.heap.objs.size s₃ H₃ fp) rfl rfl rfl hc i [] s5 _ H5 (fun _ _ => False) I5 (stat fr5) st5 stop) (fun r s6 ⟨hr, I6⟩ => ?_) fun _ _ z => False.elim z
      subst hr
      exact hRR D s₃ H₃ H5 _ s6 I3 f3 I6 qn
    · refine wpAny_mono (T.item (cxComp X scope (nl ++ fr) cl s₃.heap.objs.size s₃ H₃ fp) rfl rfl rfl hc i [] s5 _ H5 (fun _ _ => False) I5 (stat fr5) st5 go) (fun r s6 ⟨u, hr, h6⟩ => ?_) fun _ _ z => False.elim z
      subst hr
      refine wpAny_mono h6 (fun _ s7 ⟨x, H7, I7, r7, y7, st7, fr7⟩ => ?_) fun _ _ z => False.elim z
      have I7' := I7.pinned (stat fr7) (T.obj _ _ st7)
      have again : ∀ {σ8 : St} {H8 : Hp} {s8 : Shared} {acc' : List V}, Inv (cxComp X scope (nl ++ fr) cl s₃.heap.objs.size s₃ H₃ fp) ([] ++ pinsAt fp s7.heap) σ8 H8 s8 → σ8.length = nl.length + ixs.length →
          σ8.drop nl.length = (st0 nl.length ixs σ).drop nl.length → Nx acc' H8 → H8 D = some (.lst acc') →
          ∃ m, m < n ∧ ∃ i acc H', Inv (cxComp X scope (nl ++ fr) cl s₃.heap.objs.size s₃ H₃ fp) [] (st0 nl.length ixs σ) H' s8 ∧ tn i s8.heap ∧ (∀ b ∈ fp, H' b = none) ∧ W i m acc H' ∧ H' D = some (.lst acc) := fun {σ8 H8 s8 acc'} I8 l8 d8 n8 hD8 => by
        obtain ⟨m', hm, w8⟩ := hN acc' H8 n8
        refine ⟨m', hm, i + 1, acc', H8, I8.unpinned.weak (by rw [st0_len, l8]) fun j v e => ?_, T.keep _ _ _ st7 fun b hb o e => (I8.pin (b, o) (List.mem_append_right _ (List.mem_append_right _ (mem_pinsAt hb e)))).1, fun b hb => ?_, w8, hD8⟩
        · have hj := st0_low e
          have q := congrArg (fun l => l[j - nl.length]?) d8
          simp only [List.getElem?_drop] at q
          rw [Nat.add_sub_cancel' hj] at q
          rw [q]; exact e
        · obtain ⟨o, e, d⟩ := T.obj _ _ st7 b hb
          exact (I8.pin (b, o) (List.mem_append_right _ (List.mem_append_right _ (mem_pinsAt hb e)))).2.1
      refine wpAny_mono (hg cl _ s₃ H₃ fp _ s7 _ H7 x u _ I7' r7 (step x H7 y7)) (fun _ s8 ⟨σ8, H8, I8, l8, d8, q8⟩ => ?_) fun _ _ z => False.elim z
      refine wpAny_mono (ht cl _ s₃ H₃ fp _ s8 σ8 H8 _ I8 q8) (fun b s9 ⟨H9, I9, q9⟩ => ?_) fun _ _ z => False.elim z
      cases b with
      | false =>
        rw [if_neg Bool.false_ne_true] at q9
        rw [if_neg Bool.false_ne_true]
        exact again I9 l8 d8 q9.2 q9.1
      | true =>
        rw [if_pos rfl] at q9
        rw [if_pos rfl]
        refine wpAny_mono (he cl _ s₃ H₃ fp _ s9 σ8 H9 _ I9 q9) (fun u10 s10 ⟨y, H10, I10, r10, hD10, hz10, n10⟩ => ?_) fun _ _ z => False.elim z
        refine wpAny_mono (mt_append (X := cxComp X scope (nl ++ fr) cl s₃.heap.objs.size s₃ H₃ fp) _ s10 σ8 H10 (.ref D) [y] (.ref D) [u10] (fun _ H' => H' = upd H10 D (.lst (acc ++ [y]))) I10 rfl (.cons r10 .nil) ⟨D, acc, y, rfl, rfl, hD10, hz10, rfl⟩) (fun _ s11 ⟨_, H11, I11, _, q11⟩ => ?_) fun _ _ z => False.elim z
        subst q11
        exact again I11 l8 d8 n10 upd_same
  exact codeAny_compStart_list (loop _ rfl) (T.self X.A 0 _ _ _ st4 (loop _ rfl))
theorem pe_comp {elt iter tg : Expr} {ifs : List Expr} {scope : Scope} {pos : Pos} {nl fr : List Str} {ixs : List Nat} {wi : TI} {g : TG} {tt : TT} {te : TE} (hc : X.calm = true) (hi : PI X tg iter wi)
    (hg : ∀ cl C s H ex, PG (cxComp X scope (nl ++ fr) cl C s H ex) tg g) (ht : ∀ cl C s H ex, PTs (cxComp X scope (nl ++ fr) cl C s H ex) ifs tt) (he : ∀ cl C s H ex, PE (cxComp X scope (nl ++ fr) cl C s H ex) elt te)
    (hfr : ∀ y ∈ fr, scope.names.lookup y = some .free) (hix : fr.map some = ixs.map fun j => X.N[j]?)
    (hfree : ∀ y, (y, NameKind.free) ∈ scope.names → X.env.kindOf y = some .cell ∨ X.env.kindOf y = some .free)
    (hnames : ∀ y ∈ scope.names, y.2 = .local → scope.names.lookup y.1 = some .local) (hcell : ∀ y ∈ scope.names, y.2 ≠ .cell)
    (hk : scope.kind = .function := by rfl) (hs : ∀ x, foldedSetIterable iter X.env x = pure x := by intro _; rfl) :
    PE X (.ListComp elt [⟨tg, iter, ifs, 0⟩] scope pos) (tComp wi nl.length ixs g tt te) := by
  intro pins s σ H Q I h
  obtain ⟨cl, hcl, h1, h2⟩ := closure_of (scope := scope) (env := X.env) fun y hy => I.ok.has y (hfree y hy)
  rw [eval_ListComp]
  refine wpAny_comprehension_free (use := none) rfl hs hcl hk hnames ?_
  refine thn (hi pins s σ H _ I h) fun v s1 q1 => thn q1 fun itv s2 q2 => ?_
  obtain ⟨it, fp, tn, J, H2, e, I2, T, st2, f2, hq⟩ := q2
  subst e
  refine comp_run (RR := fun acc C => compPost (model X.prog X.w) X.A X.xe none (EP X pins σ Q) acc C) hc hk hcell hfr hfree hix h1 h2 hg ht he I2 T st2 f2 hq fun D s3 H3 H' σ' s' I3 f3 J' q' => ?_
  obtain ⟨m, hn, _⟩ := J'.loc
  exact ⟨m, hn, fun h' hs' => ⟨.ref D, H', comp_back I3 J' f3 hs', rfl, q'⟩⟩
end
end L2

set_option Elab.async false
set_option linter.all false
set_option maxRecDepth 100000
namespace L2
open PySem PySem.Spec PyProof.Rows
/-! ### enumerate over a list, two names -/
/-- at turn i: a new pair of i and the item -/
def Ite (K : PySem.W.Frag) (a : Addr) : It :=
  ⟨fun i H => ∃ xs x, SqL K H a xs ∧ xs[i]? = some x, fun i H y H' => ∃ x p, y = .ref p ∧ H p = none ∧ H' = upd H p (.tup [.int i, x]) ∧ ∀ xs, SqL K H a xs → xs[i]? = some x, fun i H => ∃ xs, SqL K H a xs ∧ xs.length ≤ i⟩
theorem turn_enum {P : Program} {w : World} {K : PySem.W.Frag} {es : List Expr} {k : Nat} {pos : Pos} (a e it : Addr) (hne : e ≠ it) :
    Turn P w K (.Tuple es k pos) (Ite K a) [e, it] e (fun i h => (∃ old, IsEnum h e it ((i : Nat) : Int) old) ∧ h.IsListIter it a i) where
  mem := by simp
  obj := fun i h st b hb => by
    obtain ⟨⟨old, h1⟩, o, h2, c, d⟩ := st
    rcases List.mem_cons.mp hb with z | z
    · subst z
      exact ⟨_, h1, fun v z => by
        have z' : Data.fields _ = Data.cell v := z
        cases z'⟩
    · have z : b = it := by simpa using z
      subst z
      exact ⟨o, h2, fun v z => by rw [d] at z; cases z⟩
  keep := fun i h h' st k => by
    obtain ⟨⟨old, h1⟩, h2⟩ := st
    exact ⟨⟨old, k e (by simp) _ h1⟩, h2.at fun o q => k it (by simp) o q⟩
  item := by
    intro X hP hw hK hc i pins s σ H E I hf st hg
    subst hP hw hK
    obtain ⟨⟨old, he⟩, hit⟩ := st
    obtain ⟨xs, x, hq, hx⟩ := hg
    obtain ⟨its, rv, p, hz⟩ := I.list hq
    obtain ⟨u, hu, ru⟩ := rv.get hx
    obtain ⟨e0, e1, e2, e3, e4, e5⟩ := hf e (by simp)
    obtain ⟨f0, f1, f2, f3, f4, f5⟩ := hf it (by simp)
    refine wpAny_pyNext_enum_item he hit p.isList (x := u) (by simpa using hu) hne fun h' ho hit' htup hsz hk => ?_
    refine ⟨_, rfl, wpAny_letOwnedTupleGo_enum ho fun h2 he2 hs2 => ?_⟩
    have hel : e < s.heap.objs.size := Heap.lt_size he
    have hil : it < s.heap.objs.size := by obtain ⟨o, q, _⟩ := hit; exact Heap.lt_size q
    have up : ∀ b o, b ≠ e → b ≠ it → s.heap.get? b = some o → h2.get? b = some o := fun b o h1 h3 q => (hs2.2 b h1).trans (hk b o h1 h3 q)
    have hn : H s.heap.objs.size = none := I.fresh
    have htup2 : h2.get? s.heap.objs.size = some { cls := .type "tuple", data := .seq #[.int i s.toks, u] } := (hs2.2 _ (Nat.ne_of_gt hel)).trans htup
    have nit : ∀ b o, H b = some o → b ≠ e ∧ b ≠ it := fun b o q => ⟨fun z => (by rw [z, e0] at q; cases q), fun z => (by rw [z, f0] at q; cases q)⟩
    have hok : HOk X.prog X.w (upd H s.heap.objs.size (.tup [.int i, x])) h2 := fun b ob q => by
      by_cases hb : b = s.heap.objs.size
      · subst hb
        rw [upd_same] at q
        cases q
        exact ⟨by simp only [List.length_cons, List.length_nil]; rw [sizeLine_eq]; decide, [.int i s.toks, u], .cons ⟨_, rfl⟩ (.cons ru .nil), ⟨_, htup2, rfl, 0, rfl⟩⟩
      · rw [upd_ne hb] at q
        have nf : ∀ c y, H c = some y → c ≠ s.heap.objs.size := fun c y z1 z2 => by rw [z2, hn] at z1; cases z1
        refine (I.hok b ob q).stay (fun c w' hc' q' => ?_) (fun c q' => by rw [upd_ne (nf c _ q')]; exact q') fun c xs' q' => by rw [upd_ne (nf c _ q')]; exact q'
        have hc2 : c ≠ e ∧ c ≠ it := by
          rcases hc' with z | z
          · rw [z]; exact nit b ob q
          · exact nit c _ z
        exact up c w' hc2.1 hc2.2 q'
    have I1 : Inv X pins σ (upd H s.heap.objs.size (.tup [.int i, x])) { s with heap := h2, toks := s.toks + 1 } := by
      refine I.step (g' := s.gens) (d' := s.drawn) (ch := [e, it]) (fun b hb => ?_) (fun b o _ _ hc e' _ => up b o (fun z => hc (by simp [z])) (fun z => hc (by simp [z])) e')
        (fun b o _ _ hc e' _ => ⟨o.slots, up b o (fun z => hc (by simp [z])) (fun z => hc (by simp [z])) e'⟩) (fun b o _ e' n => by rw [upd_ne (Nat.ne_of_lt (Heap.lt_size e'))]; exact n)
        (fun b o hc e' => ⟨o, up b o (fun z => hc (by simp [z])) (fun z => hc (by simp [z])) e'⟩) (fun b xs' q => by rw [upd_ne (ne_of_none q hn)]; exact q) (fun b o u' q => by rw [upd_ne (ne_of_none q hn)]; exact q)
        (fun b ps q => ⟨#[], by rw [upd_ne (ne_of_none q hn), q]; simp⟩) (fun m hm => ?_) hok I.bare
      · rcases List.mem_cons.mp hb with z | z
        · subst z; exact ⟨e3, e1, e4, e5⟩
        · have z : b = it := by simpa using z
          subst z; exact ⟨f3, f1, f4, f5⟩
      · obtain ⟨o, es', ep, ho', r⟩ := hm
        exact ⟨o, es', ep, up _ o (Ne.symm e1) (Ne.symm f1) ho', r⟩
    have hc1 : ((i : Int) + 1) = (((i + 1 : Nat)) : Int) := by omega
    refine ⟨.ref s.heap.objs.size, _, I1, rfl, ⟨x, _, rfl, hn, rfl, fun ys hy => by rw [I.list_inj hy hq]; exact hx⟩, ⟨⟨u, by rw [← hc1]; exact he2⟩, ?_⟩, fun b hb => ?_⟩
    · exact hit'.extBut hs2.extBut (Ne.symm hne)
    · have hbl : b < s.heap.objs.size := by
        rcases List.mem_cons.mp hb with z | z
        · rw [z]; exact hel
        · rw [show b = it by simpa using z]; exact hil
      rw [upd_ne (Nat.ne_of_lt hbl)]
      exact (hf b hb).1
  done := by
    intro X hP hw hK hc i pins s σ H E I hf st hg
    subst hP hw hK
    obtain ⟨⟨old, he⟩, hit⟩ := st
    obtain ⟨xs, hq, hx⟩ := hg
    obtain ⟨its, rv, p, hz⟩ := I.list hq
    obtain ⟨f0, f1, f2, f3, f4, f5⟩ := hf it (by simp)
    have hl := rv.length
    exact wpAny_pyNext_enum_end (I.ok.hd hc) he hit p.isList (by simp; omega) fun h' eb => ⟨rfl, I.turned (t' := s.toks) (fun b o hb e => eb b o hb e) f0 f1 f3 f4 f5⟩
  self := fun _ _ _ _ _ st h => by
    obtain ⟨⟨old, he⟩, _⟩ := st
    exact wpAny_pyIter_enum he h
section
variable {X : Cx}
def iEnum (K : PySem.W.Frag) (ta : TA) : TI := fun σ H R => ta σ H fun vs H1 => ∃ a xs, vs = [.ref a] ∧ H1 a = some (.lst xs) ∧ R (Ite K a) H1
theorem pi_enum {es : List Expr} {k : Nat} {tpos : Pos} {a : Expr} {ta : TA} {p pos : Pos} (hg : Gl X "enumerate") (hm : X.mg "enumerate" = none) (ha : PA X [a] ta) (hs : starEach [a] X.env = [(false, eval a X.env)] := by rfl) :
    PI X (.Tuple es k tpos) (.Call (.Name "enumerate" p) [a] [] pos) (iEnum X.K ta) := by
  intro pins s σ H R I h
  refine Call_ (ld_blt I hg hm boot_enumerate (PyProof.Rows.callWith_type1 (thn (ha pos pins s σ H _ I h) fun us s1 ⟨vs, H1, I1, r1, q1⟩ => ?_) hs rfl))
  obtain ⟨l, xs, e, hl, q⟩ := q1
  subst e
  obtain ⟨u, rfl, ru⟩ := vals1 r1
  cases ru
  obtain ⟨its, n, rv, ho, hz⟩ := I1.lst hl
  refine call_enumerate_1 ho fun h' he hit hsz kp => ?_
  have I2 : Inv X pins σ H1 { s1 with heap := h' } := I1.kept (t' := s1.toks) kp
  refine wpAny_pyIter_enum he ?_
  refine ⟨s1.heap.objs.size + 1, [s1.heap.objs.size + 1, s1.heap.objs.size], _, _, H1, rfl, I2, turn_enum l _ _ (Nat.ne_of_gt (Nat.lt_succ_self _)), ⟨⟨_, he⟩, hit⟩, fun b hb => ?_, q⟩
  have hb' : s1.heap.objs.size ≤ b := by
    rcases List.mem_cons.mp hb with z | z
    · rw [z]; exact Nat.le_succ _
    · rw [show b = s1.heap.objs.size by simpa using z]; exact Nat.le_refl _
  exact I1.fpOk hb' (I1.hok.fresh hb')
theorem for_enum {K : PySem.W.Frag} {a : Addr} {xs : List V} {g : TG} {tb : TS} {D : Ends} {σ : St} {H : Hp} (Pv : Nat → St → Hp → Prop) (h0 : Pv 0 σ H) (hl : ∀ i σ H, i ≤ xs.length → Pv i σ H → SqL K H a xs)
    (hs : ∀ i x p σ H, xs[i]? = some x → Pv i σ H → H p = none → g (.ref p) σ (upd H p (.tup [.int i, x])) fun σ2 H2 => tb { D with nx := Pv (i + 1), ct := Pv (i + 1), bk := D.nx } σ2 H2) (hd : ∀ σ H, Pv xs.length σ H → D.nx σ H) :
    ∃ W : Nat → Nat → St → Hp → Prop, (∃ m, W 0 m σ H) ∧ ∀ i m σ H, W i m σ H →
      ((Ite K a).stop i H ∧ D.nx σ H) ∨ ((Ite K a).go i H ∧ ∃ N : St → Hp → Prop, (∀ σ' H', N σ' H' → ∃ m', m' < m ∧ W (i + 1) m' σ' H') ∧ ∀ x H', (Ite K a).yld i H x H' → g x σ H' fun σ2 H2 => tb { D with nx := N, ct := N, bk := D.nx } σ2 H2) := by
  refine ⟨fun i m σ H => m = xs.length - i ∧ i ≤ xs.length ∧ Pv i σ H, ⟨xs.length, by simp, Nat.zero_le _, h0⟩, ?_⟩
  rintro i m σ H ⟨rfl, hi, p⟩
  have q := hl i σ H hi p
  by_cases hlt : i < xs.length
  · refine .inr ⟨⟨xs, xs[i], q, by simp [hlt]⟩, Pv (i + 1), fun σ' H' p' => ⟨xs.length - (i + 1), by omega, rfl, hlt, p'⟩, fun y H' hy => ?_⟩
    obtain ⟨x, pa, e1, e2, e3, y⟩ := hy
    subst e1 e3
    exact hs i x pa σ _ (y xs q) p e2
  · have e : i = xs.length := by omega
    subst e
    exact .inl ⟨⟨xs, q, Nat.le_refl _⟩, hd σ H p⟩
/-! ### a range downward by ones -/
def Itd (lo : Int) (n : Nat) : It := ⟨fun i _ => i < n, fun i H x H' => H' = H ∧ x = .int (lo - i), fun i _ => n ≤ i⟩
theorem turn_down {P : Program} {w : World} {K : PySem.W.Frag} {tg : Expr} (it : Addr) (lo : Int) (n : Nat) : Turn P w K tg (Itd lo n) [it] it (fun i h => IsRangeIter h it (lo + (i : Nat) * (-1)) ((n : Int) - (i : Nat)) (-1)) where
  mem := by simp
  obj := fun i h st b hb => by
    have e : b = it := by simpa using hb
    subst e
    exact ⟨_, st, fun v z => by
      have z' : Data.fields _ = Data.cell v := z
      cases z'⟩
  keep := fun i h h' st k => k it (by simp) _ st
  item := by
    intro X hP hw hK hc i pins s σ H E I hf st hg
    subst hP hw hK
    obtain ⟨f0, f1, f2, f3, f4, f5⟩ := hf it (by simp)
    have W := Walks.range (prog := X.prog) (w := X.w) (I.ok.hd hc) it lo (-1) n
    refine W.item i s _ _ hg st fun v h' tk hv st' kk => ?_
    obtain ⟨t, rfl⟩ := hv
    have I1 : Inv X pins σ H { s with heap := h', toks := tk } := I.turned (fun b o hb e => kk b o (by simpa using hb) e) f0 f1 f3 f4 f5
    refine ⟨_, rfl, go_of (s := { s with heap := h', toks := tk }) (n := "range_iterator") st' rfl rfl (by decide) ⟨.int (lo - i), H, I1, ⟨t, ?_⟩, ⟨rfl, rfl⟩, st', fun b hb => (hf b hb).1⟩⟩
    rw [show lo + (i : Int) * (-1) = lo - i by omega]
  done := by
    intro X hP hw hK hc i pins s σ H E I hf st hg
    subst hP hw hK
    obtain ⟨f0, f1, f2, f3, f4, f5⟩ := hf it (by simp)
    exact wpAny_pyNext_range_end (I.ok.hd hc) st (by have : n ≤ i := hg; omega) fun h' eb => ⟨rfl, I.turned (t' := s.toks) (fun b o hb e => eb b o hb e) f0 f1 f3 f4 f5⟩
  self := fun _ _ _ _ _ st h => wpAny_pyIter_rangeiter st h
theorem rangeSize_down (a b : Int) : Builtin.Range.rangeSize a b (-1) = if b < a then a - b else 0 := by
  unfold Builtin.Range.rangeSize
  simp only [show ¬ ((-1 : Int) > 0) by decide, if_false, Int.neg_neg, Int.ediv_one]
  by_cases h : b < a
  · rw [if_pos (show a > b from h), if_pos h]; omega
  · rw [if_neg (show ¬ a > b from h), if_neg h]
theorem small_down {a b : Int} (ha : -(2 ^ 62) ≤ a) (ha' : a < 2 ^ 62) (hb : -(2 ^ 62) ≤ b) (hb' : b < 2 ^ 62) : Builtin.Range.small a b (-1) = true := by
  unfold Builtin.Range.small
  rw [rangeSize_down]
  simp only [Builtin.Range.rangeFitsLong, Bool.and_eq_true, Bool.or_eq_true, decide_eq_true_eq, beq_iff_eq, show ¬ ((-1 : Int) > 0) by decide, if_false]
  split <;> omega
def iDown (ta : TA) : TI := fun σ H R => ta σ H fun vs H1 => ∃ i j : Int, vs = [.int i, .int j, .int (-1)] ∧ (-(2 ^ 62) ≤ i ∧ i < 2 ^ 62 ∧ -(2 ^ 62) ≤ j ∧ j < 2 ^ 62) ∧ R (Itd i (i - j).toNat) H1
theorem pi_down {tg a b c : Expr} {ta : TA} {p pos : Pos} (hg : Gl X "range") (hm : X.mg "range" = none) (ha : PA X [a, b, c] ta) (hs : starEach [a, b, c] X.env = [(false, eval a X.env), (false, eval b X.env), (false, eval c X.env)] := by rfl)
    (hs2 : starEach [b, c] X.env = [(false, eval b X.env), (false, eval c X.env)] := by rfl) : PI X tg (.Call (.Name "range" p) [a, b, c] [] pos) (iDown ta) := by
  intro pins s σ H R I h
  refine Call_ (ld_blt I hg hm boot_range (PyProof.Rows.callWith_type1 (thn (ha pos pins s σ H _ I h) fun us s1 ⟨vs, H1, I1, r1, q1⟩ => ?_) (by rw [hs, hs2]) (by rw [hs2]; rfl)))
  obtain ⟨i, j, e, ⟨q1, q2, q3, q4⟩, q⟩ := q1
  subst e
  cases r1 with
  | cons r rr =>
    cases rr with
    | cons r' rr =>
      cases rr with
      | cons r'' rr =>
        cases rr
        obtain ⟨t, rfl⟩ := r
        obtain ⟨t', rfl⟩ := r'
        obtain ⟨t'', rfl⟩ := r''
        refine call_range_3 (by decide) ?_ (.inl (PyProof.noPylong_small (by decide)))
        refine wpAny_pyIter_range (IsRange.new ..) (small_down q1 q2 q3 q4) ?_
        have I2 : Inv X pins σ H1 { s1 with heap := s1.heap.push { cls := .type "range", data := .fields #[.int i t, .int j t', .int (-1) t''] }, toks := s1.toks } := I1.kept fun b o e => Heap.get?_push_of_some _ e
        refine ⟨(s1.heap.push { cls := .type "range", data := .fields #[.int i t, .int j t', .int (-1) t''] }).objs.size, [(s1.heap.push { cls := .type "range", data := .fields #[.int i t, .int j t', .int (-1) t''] }).objs.size], _, _, H1, rfl,
          I2.kept (t' := s1.toks) fun b o e => Heap.get?_push_of_some _ e, turn_down _ i (i - j).toNat, ?_, fun b hb => ?_, q⟩
        · have e1 : i + ((0 : Nat) : Int) * (-1) = i := by simp
          have e2 : (((i - j).toNat : Nat) : Int) - ((0 : Nat) : Int) = Builtin.Range.rangeSize i j (-1) := by rw [rangeSize_down]; split <;> omega
          show IsRangeIter _ _ (i + ((0 : Nat) : Int) * (-1)) ((((i - j).toNat : Nat) : Int) - ((0 : Nat) : Int)) (-1)
          rw [e1, e2]
          exact Heap.get?_push_size _ rfl
        · have e : b = (s1.heap.push { cls := .type "range", data := .fields #[.int i t, .int j t', .int (-1) t''] }).objs.size := by simpa using hb
          subst e
          exact I2.fpOk (Nat.le_refl _) (I2.hok.fresh (Nat.le_refl _))
theorem for_down {lo : Int} {n : Nat} {g : TG} {tb : TS} {D : Ends} {σ : St} {H : Hp} (Pv : Nat → St → Hp → Prop) (h0 : Pv 0 σ H)
    (hs : ∀ i σ H, i < n → Pv i σ H → g (.int (lo - i)) σ H fun σ2 H2 => tb { D with nx := Pv (i + 1), ct := Pv (i + 1), bk := D.nx } σ2 H2) (hd : ∀ σ H, Pv n σ H → D.nx σ H) :
    ∃ W : Nat → Nat → St → Hp → Prop, (∃ m, W 0 m σ H) ∧ ∀ i m σ H, W i m σ H →
      ((Itd lo n).stop i H ∧ D.nx σ H) ∨ ((Itd lo n).go i H ∧ ∃ N : St → Hp → Prop, (∀ σ' H', N σ' H' → ∃ m', m' < m ∧ W (i + 1) m' σ' H') ∧ ∀ x H', (Itd lo n).yld i H x H' → g x σ H' fun σ2 H2 => tb { D with nx := N, ct := N, bk := D.nx } σ2 H2) := by
  refine ⟨fun i m σ H => m = n - i ∧ i ≤ n ∧ Pv i σ H, ⟨n, by simp, Nat.zero_le _, h0⟩, ?_⟩
  rintro i m σ H ⟨rfl, hi, p⟩
  by_cases hlt : i < n
  · refine .inr ⟨hlt, Pv (i + 1), fun σ' H' p' => ⟨n - (i + 1), by omega, rfl, hlt, p'⟩, fun x H' y => ?_⟩
    obtain ⟨e, y⟩ := y
    subst e y
    exact hs i σ _ hlt p
  · have e : i = n := by omega
    subst e
    exact .inl ⟨Nat.le_refl _, hd σ H p⟩
/-! ### range(n) as a value, list(range(n)) -/
/-! ### sorted of a list of ints -/
theorem call_sorted : CallR X (.builtin "sorted") (fun xs H Q => ∃ (p : Addr) (ns : List Int), xs = [.ref p] ∧ SqL X.K H p (ns.map V.int) ∧ ns.length < 64 ∧ ∀ (l : Addr) (ms : List Int), H l = none → ms.Perm ns → ms.Pairwise (· ≤ ·) → Q (.ref l) (upd H l (.lst (ms.map V.int)))) := by
  intro pins s σ H xs us Q I r h
  obtain ⟨p, ns, rfl, hp, hz, q⟩ := h
  obtain ⟨u, rfl, ru⟩ := vals1 r
  cases ru
  obtain ⟨its, r', pl, hl⟩ := I.list hp
  have hI := intsAre_of r'
  have hlen := hI.length
  refine sorted_ints pl.isList hI (by omega) fun out ns' a1 a2 a3 => ?_
  obtain ⟨e, he⟩ := sortedAll_at s.heap its out
  have hn : s.heap.objs.size ≤ s.heap.objs.size + 1 := Nat.le_succ _
  have hml : ns'.length = ns.length := a2.length_eq
  refine ⟨.ref (s.heap.objs.size + 1), _, I.laid (o := .lst (ns'.map V.int)) (t' := s.toks) (fun b o e => sortedAll_old e) hn ⟨?_, out.toList, e, vals_ints a1, by simpa using he⟩, rfl, q _ ns' (I.hok.fresh hn) a2 a3⟩
  rw [List.length_map, hml, sizeLine_eq]
  omega
/-! ### two lists of ints compared -/
def rEqL (K : PySem.W.Frag) : R2 := fun x y H Q => ∃ (a b : Addr) (ns ms : List Int), x = .ref a ∧ y = .ref b ∧ SqL K H a (ns.map V.int) ∧ SqL K H b (ms.map V.int) ∧ Q (.bl (decide (ns = ms))) H
def rNeL (K : PySem.W.Frag) : R2 := fun x y H Q => ∃ (a b : Addr) (ns ms : List Int), x = .ref a ∧ y = .ref b ∧ SqL K H a (ns.map V.int) ∧ SqL K H b (ms.map V.int) ∧ Q (.bl (!decide (ns = ms))) H
theorem op_neL (hu : X.A.units + 64 < cLine) : OpR X (compareOp .NotEq) (rNeL X.K) := by
  intro pins s σ H x y v u Q I rx ry h
  obtain ⟨a, b, ns, ms, rfl, rfl, ha, hb, q⟩ := h
  cases rx
  cases ry
  obtain ⟨its, r1, p1, _⟩ := I.list ha
  obtain ⟨its2, r2, p2, _⟩ := I.list hb
  exact PySem.W.ke_ne_ints p1.isList p2.isList (intsAre_of r1) (intsAre_of r2) hu ⟨.bl _, H, I, rfl, q⟩
/-! ### isinstance(x, c): c a built-in type or a class of the module -/
theorem call_isi : CallR X (.builtin "isinstance") (fun xs H Q => ∃ x c t b, xs = [x, c] ∧ TyOf X.K H x t ∧ (∀ u, RelV c u → PySem.W.kitOne X.K t u = some b) ∧ Q (.bl b) H) := by
  intro pins s σ H xs us Q I r h
  obtain ⟨x, c, t, b, rfl, ty, e, q⟩ := h
  obtain ⟨u, w', rfl, r1, r2⟩ := vals2 r
  exact isinst_ok I r1 ty (e w' r2) fun tk => ⟨.bl b, H, I.tok tk, rfl, q⟩
/-! ### count, index of flat items -/
theorem mt_count : MtR X "list.count" (fun x vs H Q => ∃ l xs y, x = .ref l ∧ vs = [y] ∧ H l = some (.lst xs) ∧ flatV y = true ∧ xs.all flatV = true ∧ Q (.int (xs.countP fun z => eqV z y : Nat)) H) := by
  intro pins s σ H x vs v us Q I rx rv h
  obtain ⟨l, xs, y, rfl, rfl, hH, fy, fs, q⟩ := h
  cases rx
  obtain ⟨u, rfl, ru⟩ := rv.one
  obtain ⟨z, its, n, r, hl, e⟩ := I.lstM hH
  refine call_meets F.slot_list_count ⟨_, e, rfl⟩ F.entry_list_count (F.args_list_count_2 _ _) (SeqAt.list_countAt l its.toArray n none #[] u (eqU y)) ⟨e, fun w' hw => mem_eqAt ru fy r fs w' (by simpa using hw), ?_⟩
  have ec : ∀ {xs : List V} {us : List Value}, Vals xs us → xs.all flatV = true → us.countP (eqU y) = xs.countP fun z => eqV z y := by
    intro xs us r
    induction r with
    | nil => intro _; rfl
    | cons r1 _ ih =>
      intro f
      rw [List.all_cons, Bool.and_eq_true] at f
      rw [List.countP_cons, List.countP_cons, eqU_of r1 f.1, ih f.2]
  refine ⟨.int _, H, I.tok _, ⟨_, rfl⟩, ?_⟩
  have e2 : its.toArray.toList.countP (eqU y) = xs.countP fun z => eqV z y := by simpa using ec r fs
  rw [e2]
  exact q
theorem mt_index : MtR X "list.index" (fun x vs H Q => ∃ l xs y j, x = .ref l ∧ vs = [y] ∧ H l = some (.lst xs) ∧ flatV y = true ∧ xs.all flatV = true ∧ (xs.map fun z => eqV z y).idxOf? true = some j ∧ Q (.int (j : Nat)) H) := by
  intro pins s σ H x vs v us Q I rx rv h
  obtain ⟨l, xs, y, j, rfl, rfl, hH, fy, fs, hj, q⟩ := h
  cases rx
  obtain ⟨u, rfl, ru⟩ := rv.one
  obtain ⟨z, its, n, r, hl, e⟩ := I.lstM hH
  have em : its.map (eqU y) = xs.map fun z => eqV z y := by
    clear e hH hl z hj q
    induction r with
    | nil => rfl
    | cons r1 _ ih =>
      rw [List.all_cons, Bool.and_eq_true] at fs
      rw [List.map_cons, List.map_cons, eqU_of r1 fs.1, ih fs.2]
  rw [← em] at hj
  have ⟨hjl, hjt, hjn⟩ : ∃ h : j < its.length, eqU y its[j] = true ∧ ∀ k (hk : k < its.length), k < j → eqU y its[k] = false := by
    have := List.idxOf?_eq_some_iff.mp hj
    obtain ⟨h1, h2, h3⟩ := this
    have h1' : j < its.length := by simpa using h1
    refine ⟨h1', by simpa using h2, fun k hk hkj => ?_⟩
    have := h3 k hkj
    simpa using this
  have hs : sizeLine = 16777216 := sizeLine_eq
  refine call_meets F.slot_list_index ⟨_, e, rfl⟩ F.entry_list_index (F.args_list_index_2 _ _) (SeqAt.list_indexAt l its.toArray n none #[] u (eqU y) j (by simpa using hjl) (by omega) (by simpa using hjt) (fun m hm hlt => by simpa using hjn m (by simpa using hm) hlt)) ⟨e, fun w' hw => mem_eqAt ru fy r fs w' (by simpa using hw), ?_⟩
  exact ⟨.int _, H, I.tok _, ⟨_, rfl⟩, q⟩
end
end L2

set_option Elab.async false
set_option linter.all false
set_option maxRecDepth 100000
/-! exceptions of the module's own classes: raised, leaving a def, passing, caught -/
namespace L2
open PySem PySem.Spec PyProof.Rows
theorem ObjOk.there {P : Program} {w : World} {H : Hp} {h : Heap} {a : Addr} {o : HO} (x : ObjOk P w H h a o) : ∃ ob, h.get? a = some ob := by
  cases o with
  | lst xs => obtain ⟨_, _, _, _, e⟩ := x; exact ⟨_, e⟩
  | tup xs => obtain ⟨_, _, _, ob, e, _⟩ := x; exact ⟨_, e⟩
  | dK kvs => obtain ⟨_, _, _, _, o, _, _, e, _⟩ := x; exact ⟨_, e⟩
  | dT kvs => obtain ⟨_, _, _, _, o, _, _, e, _⟩ := x; exact ⟨_, e⟩
  | set S n => obtain ⟨o, _, _, _, e, _⟩ := x; exact ⟨_, e⟩
  | ins C dx fs => obtain ⟨_, _, _, e, _⟩ := x; exact ⟨_, e⟩
  | own y => obtain ⟨_, e⟩ := x; exact ⟨_, e⟩
  | xd fs => obtain ⟨_, ⟨_, _, _, e, _⟩, _⟩ := x; exact ⟨_, e⟩
  | rng lo hi => obtain ⟨_, _, _, e⟩ := x; exact ⟨_, e⟩
  | frz ob u => obtain ⟨e, _⟩ := x; exact ⟨_, e⟩
  | tbl ps => exact ⟨_, (show h.get? a = some _ from x)⟩
  | met f y => exact ⟨_, (show h.get? a = some _ from x)⟩
  | ext φ => obtain ⟨_, ⟨_, e⟩, _⟩ := x; exact ⟨_, e⟩
/-- how an exception of a class of the module lies behind a call. B: what stays as it is while it flies on: the tracked objects, and the older ones but the frames -/
def CXe (P : Program) (w : World) : CXT := fun outer H s E e s' => ∃ (a C : Addr) (a0 : Value) (B : Heap) (H' : Hp), e = .ref a ∧ s'.os = s.os ∧ AllBare s'.gens ∧ Un (frs outer) [] H H' s.heap s'.heap ∧ HOk P w H' s'.heap ∧ H' a = none ∧
  Heap.FlyingW B outer a (.ref C) a0 s'.heap ∧ (∀ b o, s'.heap.get? b = some o → b ∉ frs outer → (H' b ≠ none ∨ ∃ o', s.heap.get? b = some o') → B.get? b = some o) ∧ E (.ref C) none H'
/-- the wish by the frame's slots -/
abbrev XS := St → XK
def PassesE (CX : CXT) (X : Cx) (E : XS) : Prop := ∀ (pins : List (Addr × Obj)) (σ : St) (H : Hp) (s : Shared) (e : Value) (s' : Shared), Inv X pins σ H s → CX X.stack H s (E σ) e s' → X.xe e s'
/-- a body from which an exception may leave -/
structure Thr (X : Cx) (E : XS) : Prop where
  fresh : ∀ (pins : List (Addr × Obj)) (σ : St) (H : Hp) (s : Shared) (h' : Heap) (e C : Addr) (args : List Value), Inv X pins σ H s → Heap.MadeExcOf s.heap h' e (.ref C) args → E σ (.ref C) none H → X.xe (.ref e) { s with heap := h' }
  pass : PassesE (CXe X.prog X.w) X E
  own : PassesOwn (model X.prog X.w) X.A X.env X.xe
section
variable {X : Cx} {pins : List (Addr × Obj)} {σ : St} {H H' : Hp} {s s' : Shared}
theorem Inv.notFr (I : Inv X pins σ H s) {b : Addr} (h1 : b ∉ X.fs) (h2 : b ≠ X.env.locals) : b ∉ frs X.stack := fun z => by
  rcases List.mem_cons.mp (I.stkSub b z) with e | e
  · exact h2 e
  · exact h1 e
theorem Inv.trkFr (I : Inv X pins σ H s) {b : Addr} (h : H b ≠ none) : b ∉ frs X.stack := fun z => h (I.stkFree b z)
/-- an exception leaves the body -/
theorem leave_to {h2 B : Heap} {a C : Addr} {a0 : Value} {E : XK} (J : Inv X pins σ H' s') (hex : X.ex = [])
    (hB : ∀ b o, s'.heap.get? b = some o → b ∉ frs X.stack → (H' b ≠ none ∨ ∃ o', X.s₀.heap.get? b = some o') → B.get? b = some o) (hst : B.StaysIn h2)
    (hup : ∀ b o, s'.heap.get? b = some o → (∀ vs, o.data ≠ .fields vs) → ∃ sl, h2.get? b = some { o with slots := sl }) (hfl : Heap.FlyingW B X.outer a (.ref C) a0 h2) (ha : H' a = none) (hE : E (.ref C) none H') :
    CXe X.prog X.w X.outer X.H₀ X.s₀ E (.ref a) { s' with heap := h2 } := by
  have noX : ∀ b : Addr, b ∉ X.ex := fun b z => by rw [hex] at z; cases z
  have old : ∀ b o, X.s₀.heap.get? b = some o → b ≠ X.env.locals := fun b o e => Nat.ne_of_lt (Nat.lt_of_lt_of_le (Heap.lt_size e) J.ok.above)
  have atB : ∀ b o, s'.heap.get? b = some o → b ∉ X.fs → b ≠ X.env.locals → (H' b ≠ none ∨ ∃ o', X.s₀.heap.get? b = some o') → h2.get? b = some o := fun b o e h1 h3 h4 => hst b o (hB b o e (J.notFr h1 h3) h4)
  have fr : ∀ b o, s'.heap.get? b = some o → b ∈ X.fs → ∃ sl, h2.get? b = some { o with slots := sl } := fun b o e hb => by
    obtain ⟨_, o', ho', hd⟩ := J.funs.mem hb
    rw [e] at ho'
    cases ho'
    exact hup b o e hd
  have trk : ∀ b, H' b ≠ none → b ∉ X.fs ∧ b ≠ X.env.locals := fun b hb => by
    refine ⟨fun z => ?_, fun z => hb (by rw [z]; exact J.free)⟩
    obtain ⟨_, o, ho, _⟩ := J.ok.funs.mem z
    exact hb (J.base.free b o ho (J.ok.frf b z) (noX b))
  refine ⟨a, C, a0, B, H', rfl, J.os, J.bare, ⟨fun b o e n hb _ => ?_, fun b o e n hb _ => ?_, fun b o e n _ => J.base.free b o e n (noX b), fun b o e _ => ?_, J.base.tups, J.base.frzs, J.base.tbls⟩, fun b u e => ?_, ha, hfl, fun b o e hb hor => ?_, hE⟩
  · exact atB b o (J.base.keep b o e n hb (noX b)) hb (old b o e) (.inr ⟨o, e⟩)
  · obtain ⟨sl, q⟩ := J.base.slot b o e n hb (noX b)
    obtain ⟨sl', q'⟩ := fr b _ q hb
    exact ⟨sl', q'⟩
  · obtain ⟨o', q⟩ := J.base.there b o e (noX b)
    by_cases hb : b ∈ X.fs
    · obtain ⟨sl, q'⟩ := fr b o' q hb
      exact ⟨_, q'⟩
    · exact ⟨o', atB b o' q hb (old b o e) (.inr ⟨o, e⟩)⟩
  · refine (J.hok b u e).stay (fun c v hc q => ?_) (fun _ q => q) fun _ _ q => q
    have hn : H' c ≠ none := by
      rcases hc with z | z
      · rw [z, e]; simp
      · rw [z]; simp
    exact atB c v q (trk c hn).1 (trk c hn).2 (.inl hn)
  · have hx : ∃ ob, s'.heap.get? b = some ob := by
      rcases hor with z | ⟨o', z⟩
      · cases q : H' b with
        | none => exact absurd q z
        | some u => exact (J.hok b u q).there
      · exact J.base.there b o' z (noX b)
    obtain ⟨ob, q⟩ := hx
    have hl : b ≠ X.env.locals := by
      rcases hor with z | ⟨o', z⟩
      · exact (trk b z).2
      · exact old b o' z
    have q2 := hB b ob q (J.notFr hb hl) hor
    have q3 := hst b ob q2
    have q4 : h2.get? b = some o := e
    rw [q3] at q4
    cases q4
    exact q2
end
section
variable {P : Program} {w : World} {K : PySem.W.Frag} {mg : Str → Option Value} {base : Heap} {N : List Str} {qual : Str} {scope : Scope} {f : Addr} {cd : Value} {A : Around} {outer : List Env} {s₀ : Shared} {H₀ : Hp} {E : XK}
/-- a def's body is such a body -/
theorem thr_def : Thr (cxOf (CXe P w) P w K mg base N qual scope f cd A outer s₀ H₀ E) fun _ => E := by
  refine ⟨fun pins σ H s h' e C args I hx hE => ?_, fun pins σ H s e s' I h => ?_, PassesOwn.leaving⟩
  · have hin : ∀ env ∈ (cxOf (CXe P w) P w K mg base N qual scope f cd A outer s₀ H₀ E).stack, ∀ b, env.frame = some b → b ∈ frs (cxOf (CXe P w) P w K mg base N qual scope f cd A outer s₀ H₀ E).stack := fun env he b hb => List.mem_filterMap.mpr ⟨env, he, hb⟩
    have hen : H e = none := by
      cases q : H e with
      | none => rfl
      | some u =>
        obtain ⟨ob, z⟩ := (I.hok e u q).there
        rw [hx.new] at z
        cases z
    exact wpAny_leaves_madeW (base := PySem.W.hideAll s.heap (frs (cxOf (CXe P w) P w K mg base N qual scope f cd A outer s₀ H₀ E).stack)) (h := s.heap) (s := { s with heap := h' }) I.ok.frames rfl (fun b o q => PySem.W.of_hideAll _ q) (PySem.W.funFrames_hide I.stack hin) hx
      fun h2 t x1 x2 x3 x4 => leave_to I rfl (fun b o q hb _ => PySem.W.hideAll_get _ q hb) x1.1 (fun b o q hn => x4 b o (hx.keeps b o q) hn) x1 hen hE
  · obtain ⟨a, C, a0, B, H', rfl, os, bare, un, hok, ha, hfl, cov, hE⟩ := h
    have J := I.call' (ch := []) os un hok bare (fun b z => absurd z (by simp))
    exact wpAny_leaves_onW I.ok.frames rfl hfl fun h2 x1 x2 => leave_to J rfl (fun b o q hb hor => cov b o q hb (hor.imp id fun ⟨o', z⟩ => I.base.there b o' z (by intro y; cases y))) x1.1 x2 x1 ha hE
theorem Fun.okE {x qual : Str} {st : Stmt} {f : Addr} {fd : FuncData} {N ps : List Str} {k : Nat} {sp : Sp} (F : Fun K x qual st f fd) (S : FnScope N ps (defScope st)) (len : ∀ vs H Q E, sp vs H Q E → vs.length = ps.length)
    (hbody : ∀ (cdv : Value) (A : Around) (outer : List Env) (s : Shared) (H : Hp) (vs : List V) (Q : VK) (E : XK), Room k (A.deeper (envOfC qual (defScope st) s.heap.objs.size f cdv)) → sp vs H Q E →
      Thr (cxOf (CXe P w) P w K mg base N qual (defScope st) f cdv A outer s H E) (fun _ => E) →
      ∃ t, PSs (cxOf (CXe P w) P w K mg base N qual (defScope st) f cdv A outer s H E) (defBody st) t ∧ t { nx := fun _ H' => Q .non H', rt := Q } (start N vs) H) : FnOk P w K mg base (CXe P w) (k + 1) f fd ps sp := by
  obtain ⟨oc, od, kV, doc, pm, an, cdv, ct, osl, rfl, lk, hcd⟩ := F.ex
  refine fn_of lk hcd S len fun A outer s H vs Q E hr hsp => ?_
  exact hbody cdv A outer s H vs Q E hr hsp thr_def
end
/-! ### a call whose exceptions this body wants by its slots -/
def tCallE (sp : Sp) (dvs : List V) (E : XS) (t : TA) : TE := fun σ H Q => t σ H fun vs H1 => sp (vs ++ dvs) H1 Q (E σ)
section
variable {X : Cx} {CX : CXT} {k : Nat} {f : Addr} {fd : FuncData} {ps : List Str} {sp : Sp} {dvs : List V} {ds : List Value} {E : XS} {x : Str} {p pos : Pos} {e : Expr} {es : List Expr} {t : TA}
theorem run_fnE {pins : List (Addr × Obj)} {σ : St} {H : Hp} {s : Shared} {Q : VK} {us : List Value} {vs : List V} (F : FnOk X.prog X.w X.K X.mg X.base CX k f fd ps sp) (hr : Room k X.A) (hb : Binds X.K fd ps ds) (hd : Vals dvs ds) (hx : PassesE CX X E)
    (I : Inv X pins σ H s) (r : Vals vs us) (h : sp (vs ++ dvs) H Q (E σ)) : wpAny (model X.prog X.w) X.A (call (.ref f) us) (EP X pins σ Q) X.xe s := by
  have r2 : Vals (vs ++ dvs) (us ++ ds) := r.append hd
  have hl : (us ++ ds).length = ps.length := by rw [← r2.length]; exact F.len _ _ _ _ h
  refine wpAny_call (codeAny_mono (F.run X.A X.stack s H ⟨us, []⟩ (us ++ ds) (vs ++ dvs) Q (E σ) hr I.env0 (hb s us I.kIn hl) r2 h) fun r s' hq => ?_)
  cases r with
  | error e => exact hx pins σ H s e s' I hq
  | ok fl =>
    cases fl with
    | ret u => exact I.after hq
    | next => exact False.elim hq
    | brk => exact False.elim hq
    | cont => exact False.elim hq
theorem pe_callE (F : FnOk X.prog X.w X.K X.mg X.base CX k f fd ps sp) (hr : Room k X.A) (hg : Gl X x) (hm : X.mg x = some (.ref f)) (hk : PySem.W.keepIn X.K (.ref f) = true) (hb : Binds X.K fd ps ds) (hd : Vals dvs ds) (hx : PassesE CX X E)
    (ha : PA X (e :: es) t) (hdb : (x == ("__debug__" : Str)) = false := by decide) (he : starEach (e :: es) X.env = (false, eval e X.env) :: starEach es X.env := by rfl) (hpl : (backTo pos (starEach es X.env)).any (·.1) = false := by rfl) :
    PE X (.Call (.Name x p) (e :: es) [] pos) (tCallE sp dvs E t) := by
  intro pins s σ H Q I h
  refine wpAny_Call_Name_kw (ld_glob I hg hm ?_ hdb)
  refine PySem.W.callWith_K (h₀ := X.base) I.ok.mod.kin hk (thn (ha pos pins s σ H _ I h) fun us s1 ⟨vs, H1, I1, r, q⟩ => ⟨I1.kIn, ?_⟩) he hpl
  exact run_fnE F hr hb hd hx I1 r q
end
/-! ### raise C(..), C a class of the module -/
theorem own_K {K : PySem.W.Frag} {C : Addr} {bmB : List Value} {newId : String} {h : Heap} (q : PySem.W.excIn K C bmB newId = true) (X : K.In h) :
    ∃ bm N nm qn bs hdct sn sub ab col dd k0 k1 k2 k3 k5 mN, h.get? C = some (excClassObj nm qn C N bs bm hdct sn sub ab col dd k0 k1 k2 k3 k5 newId) ∧ h.Ns N mN ∧ mN "__init__" = none ∧ OwnTail h bmB bm := by
  unfold PySem.W.excIn at q
  split at q
  · rename_i dd cd sl ho
    split at q
    · rename_i C' bm k0 k1 k2 k3 n k5 hm hs
      simp only [Bool.and_eq_true, beq_iff_eq, Bool.not_eq_true'] at q
      obtain ⟨⟨⟨⟨⟨e1, e2⟩, hdel⟩, ht⟩, hok⟩, hni⟩ := q
      subst e1 e2
      obtain ⟨nm, bs, mro, ns, qn, hd, sn, sub, ab, col, del⟩ := cd
      dsimp only at hm hdel hok hni
      subst hm hdel
      have hsl : sl = #[k0, k1, k2, k3, some (.builtin n), k5] := by
        obtain ⟨l⟩ := sl
        simp only at hs
        rw [hs]
      subst hsl
      exact ⟨bm, ns, nm, qn, bs, hd, sn, sub, ab, col, dd, k0, k1, k2, k3, k5, _, X _ _ ho, .of_isNs (PySem.W.isNs_of_in X hok), PySem.W.nsMap_none_of_in X hok hni, PySem.W.tail_of_in X ht⟩
    · cases q
  · cases q
def tRaise (C : Addr) (E : XS) (ta : TA) : TS := fun _ σ H => ta σ H fun vs H1 => vs.length ≤ sizeLine ∧ E σ (.ref C) none H1
theorem ps_raise {X : Cx} {E : XS} {x : Str} {C : Addr} {bmB : List Value} {B newId initId : String} {ta : TA} {e : Expr} {es : List Expr} {np cpos pos : Pos} (th : Thr X E) (hc : X.calm = true) (hg : Gl X x) (hm : X.mg x = some (.ref C))
    (hk : PySem.W.excIn X.K C bmB newId = true) (FB : ExcBaseFacts B newId initId bmB) (ha : PA X (e :: es) ta) (hd : (x == ("__debug__" : Str)) = false := by decide)
    (he : starEach (e :: es) X.env = (false, eval e X.env) :: starEach es X.env := by rfl) (hpl : (backTo cpos (starEach es X.env)).any (·.1) = false := by rfl) :
    PS X (.Raise (some (.Call (.Name x np) (e :: es) [] cpos)) none pos) (tRaise C E ta) := by
  intro pins s σ H D I h
  obtain ⟨tl, N, nm, q, bs, hdct, sn, sub, ab, col, dd, k0, k1, k2, k3, k5, mN, hC, hN, hni, T⟩ := own_K hk I.ok.mod.kin
  refine wpAny_Raise_call_subT (C := C) (nm := nm) (q := q) (N := N) (bs := bs) (bm := tl) (hdct := hdct) (sn := sn) (sub := sub) (ab := ab) (col := col) (dd := dd) (k0 := k0) (k1 := k1) (k2 := k2) (k3 := k3) (k5 := k5)
    FB (mN := mN) (T.hasType FB.hasBase) (I.ok.hd hc) (by rw [he]; show (false || (backTo cpos (starEach es X.env)).any (·.1)) = false; rw [hpl]; rfl) hni (ld_glob I hg hm ⟨rfl, ?_⟩ hd)
  have hA := ha cpos pins s σ H _ I h
  rw [he] at hA ⊢
  refine Calls.evalArgs_plain (thn hA fun us s2 ⟨vs, H2, I2, r2, hz, q2⟩ => ⟨rfl, ?_, I2.bk _ _ hC, hN.keeps I2.bk, T.keeps I2.bk, fun h' a hx => th.fresh pins σ H2 s2 h' a C us I2 hx q2⟩)
  show us.length ≤ sizeLine
  rw [← r2.length]
  exact hz
/-! ### f-strings of written texts, texts and ints -/
/-- the parts, from the left, behind a text of at most n signs; the text itself is not told -/
abbrev TJ := Nat → St → Hp → (Hp → Prop) → Prop
def PJ (X : Cx) (es : List Expr) (t : TJ) : Prop := ∀ (acc : Str) (n : Nat) (pins : List (Addr × Obj)) (s : Shared) (σ : St) (H : Hp) (Q : Hp → Prop), acc.length ≤ n → Inv X pins σ H s → t n σ H Q →
  Joins (model X.prog X.w) X.A X.xe (evalEach es X.env) acc (fun out s₁ => out.length ≤ sizeLine ∧ EP X pins σ (fun v H' => (∃ x, v = .str x) ∧ Q H') (.str out s₁.toks) { s₁ with toks := s₁.toks + 1 }) s
def jEnd : TJ := fun n _ H Q => n ≤ sizeLine ∧ Q H
def jLit (k : Nat) (t : TJ) : TJ := fun n σ H Q => n + k ≤ sizeLine ∧ t (n + k) σ H Q
/-- {e}, an int of fewer than 1920 bits -/
def jInt (te : TE) (t : TJ) : TJ := fun n σ H Q => te σ H fun v H1 => ∃ i : Int, v = .int i ∧ i.natAbs.log2 < 1920 ∧ n + 1921 ≤ sizeLine ∧ t (n + 1921) σ H1 Q
section
variable {X : Cx} {es : List Expr} {t : TJ}
theorem pj_nil : PJ X [] jEnd := fun acc n pins s σ H Q hn I h => ⟨Nat.le_trans hn h.1, .str acc, H, I.tok _, ⟨_, rfl⟩, ⟨acc, rfl⟩, h.2⟩
theorem pj_lit {x : Str} {j pos} (h : PJ X es t) : PJ X (.Constant (.str x) j pos :: es) (jLit x.length t) := by
  intro acc n pins s σ H Q hn I hq
  have hl : (acc ++ x).length ≤ n + x.length := by rw [Str.length_append]; omega
  exact Calls.Constant_str ⟨x, _, rfl, Nat.le_trans hl hq.1, h _ _ pins _ σ H Q hl (I.tok _) hq.2⟩
theorem pj_int {e : Expr} {te : TE} {pos : Pos} (he : PE X e te) (h : PJ X es t) : PJ X (.FormattedValue e (-1) none pos :: es) (jInt te t) := by
  intro acc n pins s σ H Q hn I hq
  refine wpAny_FormattedValue_plain (thn (he pins s σ H _ I hq) fun v s1 ⟨y, H1, I1, r1, i, e1, hb, hz, q1⟩ => ?_)
  subst e1
  obtain ⟨tk, rfl⟩ := r1
  refine wpAny_formatField_int hb ?_
  have hl : (acc ++ Str.ofString (toString i)).length ≤ n + 1921 := by
    have := PyProof.Rows.int_text_len_1921 hb
    rw [Str.length_append]
    omega
  exact ⟨_, _, rfl, Nat.le_trans hl hz, h _ _ pins _ σ H1 Q hl (I1.tok _) q1⟩
theorem pe_fstr {v1 v2 : Expr} {rest : List Expr} {pos : Pos} (h : PJ X (v1 :: v2 :: rest) t) : PE X (.JoinedStr (v1 :: v2 :: rest) pos) (fun σ H Q => t 0 σ H fun H' => ∀ x, Q (.str x) H') := by
  intro pins s σ H Q I hq
  refine thn (wpAny_JoinedStr (h Str.empty 0 pins s σ H _ (Nat.le_refl _) I hq)) fun u s1 ⟨v, H1, I1, r1, ⟨x, e⟩, q1⟩ => ?_
  subst e
  exact ⟨.str x, H1, I1, r1, q1 x⟩
end
/-! ### try: .. except C as n: .. -/
abbrev Cx.tr (X : Cx) (pins : List (Addr × Obj)) (E : Value → Shared → Prop) : Cx := { X with pn := X.pn ++ pins, xe := E }
/-- within the suite of an except clause, the exception v in hand -/
abbrev Cx.inH (X : Cx) (pins : List (Addr × Obj)) (v : Value) : Cx := { X with A := X.A.mark (some v), calm := false, pn := X.pn ++ pins, xe := fun _ _ => False }
section
variable {X : Cx} {pins ps : List (Addr × Obj)} {σ : St} {H : Hp} {s : Shared} {E : Value → Shared → Prop} {v : Value}
theorem Cx.Ok.tr (ok : X.Ok) : (X.tr pins E).Ok :=
  ⟨ok.mod, ok.kind, ok.glob, ok.blt, ok.above, ok.inj, ok.has, ok.cab, ok.hd, ok.frames, ok.stk, ok.exf, ok.bs, ok.bsz, ok.noex, ok.exfs, ok.funs, ok.frf⟩
theorem Cx.Ok.untr (ok : (X.tr pins E).Ok) : X.Ok :=
  ⟨ok.mod, ok.kind, ok.glob, ok.blt, ok.above, ok.inj, ok.has, ok.cab, ok.hd, ok.frames, ok.stk, ok.exf, ok.bs, ok.bsz, ok.noex, ok.exfs, ok.funs, ok.frf⟩
theorem Inv.tr (I : Inv X pins σ H s) : Inv (X.tr pins E) [] σ H s :=
  ⟨I.ok.tr, I.os, I.bare, I.base, I.loc, I.cell, I.free, I.freeC, fun p hp => I.pin p (by simpa using hp), I.hok, I.len⟩
theorem Inv.untr (I : Inv (X.tr pins E) ps σ H s) : Inv X pins σ H s :=
  ⟨I.ok.untr, I.os, I.bare, I.base, I.loc, I.cell, I.free, I.freeC, fun p hp => I.pin p (List.mem_append_left _ hp), I.hok, I.len⟩
theorem Inv.inH (I : Inv X pins σ H s) (v : Value) : Inv (X.inH pins v) [] σ H s :=
  ⟨⟨I.ok.mod, I.ok.kind, I.ok.glob, I.ok.blt, I.ok.above, I.ok.inj, I.ok.has, I.ok.cab, fun z => (by cases z), I.ok.frames, I.ok.stk, I.ok.exf, I.ok.bs, I.ok.bsz, I.ok.noex, I.ok.exfs, I.ok.funs, I.ok.frf⟩,
    I.os, I.bare, I.base, I.loc, I.cell, I.free, I.freeC, fun p hp => I.pin p (by simpa using hp), I.hok, I.len⟩
theorem Inv.outH (ok : X.Ok) (I : Inv (X.inH pins v) ps σ H s) : Inv X pins σ H s :=
  ⟨ok, I.os, I.bare, I.base, I.loc, I.cell, I.free, I.freeC, fun p hp => I.pin p (List.mem_append_left _ hp), I.hok, I.len⟩
end
/-- an exception of the class at C -/
def HExc (C a : Addr) : HO := .ext fun h => ∃ oe vs, h.get? a = some oe ∧ oe.cls = .ref C ∧ oe.data = .fields vs
/-- what the class C of an exception, and D of a clause, must be -/
structure Clause (K : PySem.W.Frag) (C D : Addr) : Prop where
  exC : ∃ (bmB : List Value) (newId : String), PySem.W.excIn K C bmB newId = true
  exD : ∃ (bmB : List Value) (newId : String), PySem.W.excIn K D bmB newId = true ∧ bmB.contains (.type "BaseException") = true
  sub : PySem.W.mroIn K C (.ref D) = some true
theorem excMatches_own {M : Model} {A : Around} {E : Value → Shared → Prop} {K : PySem.W.Frag} {C D e : Addr} {oe : Obj} {s : Shared} {Q : Bool → Shared → Prop} (cl : Clause K C D) (X : K.In s.heap) (he : s.heap.get? e = some oe) (hcls : oe.cls = .ref C) (hq : Q true s) :
    wpAny M A (excMatches (.ref e) (.ref D)) Q E s := by
  obtain ⟨bmB, newId, qC⟩ := cl.exC
  obtain ⟨bmD, newD, qD, hbB⟩ := cl.exD
  obtain ⟨bm, N, nm, q, bs, hdct, sn, sub, ab, col, dd, k0, k1, k2, k3, k5, mN, hC, _, _, _⟩ := own_K qC X
  obtain ⟨bm', N', nm', q', bs', hdct', sn', sub', ab', col', dd', j0, j1, j2, j3, j5, mN', hD, _, _, T'⟩ := own_K qD X
  have hcB : (Value.ref D :: bm').contains (.type "BaseException") = true := by rw [List.contains_cons, T'.hasType hbB, Bool.or_true]
  have hsub := PySem.W.looks_mroIn (M := M) X cl.sub
  have f := tc_notTuple
  obtain ⟨h, g, d, t, os⟩ := s
  unfold excMatches
  repeat (first | (with_reducible refine wpAny_loadPart_at he ?_; rw [hcls]) | with_reducible refine wpAny_loadPart_at hD ?_ | (with_reducible refine wpAny_isSubtype_exc hD ?_; rw [hcB]) | with_reducible refine wpAny_bind (hsub.at ?_) | with_reducible refine hsub.at ?_ | wp_step)
  exact hq
section
variable {X : Cx} {pins : List (Addr × Obj)} {σ : St} {H H' : Hp} {s s' : Shared}
/-- the frame's state while an exception is looked at -/
theorem Inv.flies {B h2 : Heap} (I : Inv X pins σ H s) (J : Inv X pins σ H' s') (cov : ∀ b o, s'.heap.get? b = some o → b ∉ frs X.stack → (H' b ≠ none ∨ ∃ o', s.heap.get? b = some o') → B.get? b = some o)
    (hst : B.StaysIn h2) (hup : s'.heap.UpToSlots h2) : Inv X pins σ H' { s' with heap := h2 } := by
  have old : ∀ b o, X.s₀.heap.get? b = some o → b ≠ X.env.locals := fun b o e => Nat.ne_of_lt (Nat.lt_of_lt_of_le (Heap.lt_size e) J.ok.above)
  have kp : ∀ b o, s'.heap.get? b = some o → b ∉ X.fs → b ≠ X.env.locals → (H' b ≠ none ∨ ∃ o', s.heap.get? b = some o') → h2.get? b = some o := fun b o e h1 h3 h4 => hst b o (cov b o e (J.notFr h1 h3) h4)
  have fr : ∀ b o, s'.heap.get? b = some o → b ∈ X.fs → ∃ sl, h2.get? b = some { o with slots := sl } := fun b o e hb => by
    obtain ⟨_, o', ho', hd⟩ := J.funs.mem hb
    rw [e] at ho'
    cases ho'
    exact hup b o e hd
  have cellK : ∀ c v, s'.heap.IsCell c v → h2.IsCell c v := fun c v ⟨o, ho, hd⟩ => by
    obtain ⟨sl, q⟩ := hup c o ho fun vs z => by rw [hd] at z; cases z
    exact ⟨_, q, hd⟩
  obtain ⟨m, hn, hl⟩ := J.loc
  refine ⟨J.ok, J.os, J.bare, ⟨fun b o e n hb hx => ?_, fun b o e n hb hx => ?_, J.base.free, fun b o e hx => ?_, J.base.tups, J.base.frzs, J.base.tbls⟩, ⟨m, hup.ns hn, fun i y v e1 e2 e3 => ?_⟩, fun y c e => ?_, J.free, J.freeC, fun p hp => ?_, fun b u e => ?_, J.len⟩
  · obtain ⟨o', q⟩ := I.base.there b o e hx
    exact kp b o (J.base.keep b o e n hb hx) hb (old b o e) (.inr ⟨o', q⟩)
  · obtain ⟨sl, q⟩ := J.base.slot b o e n hb hx
    obtain ⟨sl', q'⟩ := fr b _ q hb
    exact ⟨sl', q'⟩
  · obtain ⟨o', q⟩ := J.base.there b o e hx
    by_cases hb : b ∈ X.fs
    · obtain ⟨sl, q'⟩ := fr b o' q hb
      exact ⟨_, q'⟩
    · exact ⟨o', kp b o' q hb (old b o e) (.inr (I.base.there b o e hx))⟩
  · obtain ⟨u, r, l⟩ := hl i y v e1 e2 e3
    refine ⟨u, r, ?_⟩
    rcases l with l | ⟨k, c, e, z⟩
    · exact .inl l
    · exact .inr ⟨k, c, e, cellK c _ z⟩
  · obtain ⟨v, z⟩ := J.cell y c e
    exact ⟨v, cellK c v z⟩
  · obtain ⟨e, n, ne, nf, d⟩ := J.pin p hp
    exact ⟨kp p.1 p.2 e nf ne (.inr ⟨_, (I.pin p hp).1⟩), n, ne, nf, d⟩
  · refine (J.hok b u e).stay (fun c v hc q => ?_) (fun _ q => q) fun _ _ q => q
    have hz : H' c ≠ none := by
      rcases hc with z | z
      · rw [z, e]; simp
      · rw [z]; simp
    have hc2 := J.trkFr hz
    exact hst c v (cov c v q hc2 (.inl hz))
/-- an object that nothing here knows is tracked -/
theorem Inv.adopt {a : Addr} {o : HO} (J : Inv X pins σ H s) (hn : H a = none) (hold : X.s₀.heap.get? a = none) (hL : a ≠ X.env.locals) (hcell : ∀ x c, X.env.cells.lookup x = some c → c ≠ a) (hpins : ∀ p ∈ X.pn ++ pins, p.1 ≠ a)
    (new : ObjOk X.prog X.w (upd H a o) s.heap a o) : Inv X pins σ (upd H a o) s := by
  have ne : ∀ b u, H b = some u → b ≠ a := fun b u e z => by rw [z, hn] at e; cases e
  have ne0 : ∀ b u, X.s₀.heap.get? b = some u → b ≠ a := fun b u e z => by rw [z, hold] at e; cases e
  refine ⟨J.ok, J.os, J.bare, ⟨J.base.keep, J.base.slot, fun b u e n hx => ?_, J.base.there, fun b xs e => ?_, fun b u xs e => ?_, fun b ps e => ?_⟩, J.loc, J.cell, ?_, fun x c e => ?_, fun p hp => ?_, fun b u e => ?_, J.len⟩
  · rw [upd_ne (ne0 b u e)]; exact J.base.free b u e n hx
  · have q := J.base.tups b xs e
    rw [upd_ne (ne b _ q)]; exact q
  · have q := J.base.frzs b u xs e
    rw [upd_ne (ne b _ q)]; exact q
  · obtain ⟨more, q⟩ := J.base.tbls b ps e
    exact ⟨more, by rw [upd_ne (ne b _ q)]; exact q⟩
  · rw [upd_ne (Ne.symm hL)]; exact J.free
  · rw [upd_ne (hcell x c e)]; exact J.freeC x c e
  · obtain ⟨e, n, r⟩ := J.pin p hp
    exact ⟨e, by rw [upd_ne (hpins p hp)]; exact n, r⟩
  · by_cases hb : b = a
    · subst hb
      rw [upd_same] at e
      cases e
      exact new
    · rw [upd_ne hb] at e
      exact (J.hok b u e).stay (fun _ _ _ q => q) (fun c q => by rw [upd_ne (ne c _ q)]; exact q) fun c xs q => by rw [upd_ne (ne c _ q)]; exact q
/-- a name goes -/
theorem Inv.forget {i : Nat} {n : Str} {m : Str → Option Value} {v : Option Value} {h2 : Heap} {t : Nat} (J : Inv X pins σ H s) (hN : X.N.Nodup) (hi : X.N[i]? = some n) (hm : s.heap.Ns X.env.locals m)
    (h1 : h2.Ns X.env.locals fun x => if x = n then v else m x) (hs : Heap.SameBut X.env.locals s.heap h2) : Inv X pins (σ.set i none) H { s with heap := h2, toks := t } := by
  obtain ⟨m', hm', hl⟩ := J.loc
  have em : m' = m := by
    obtain ⟨o, es, ep, ho, hd, hk, e1⟩ := hm
    obtain ⟨o', es', ep', ho', hd', hk', e2⟩ := hm'
    rw [ho] at ho'
    cases ho'
    rw [hd] at hd'
    cases hd'
    funext x
    rw [← e1 x, ← e2 x]
  subst em
  have neL : ∀ b o, X.s₀.heap.get? b = some o → b ≠ X.env.locals := fun b o e => Nat.ne_of_lt (Nat.lt_of_lt_of_le (Heap.lt_size e) J.ok.above)
  have kp : ∀ b o, b ≠ X.env.locals → s.heap.get? b = some o → h2.get? b = some o := fun b o hb e => (hs.2 b hb).trans e
  refine ⟨J.ok, J.os, J.bare, ⟨fun b o e n hb hx => kp b o (neL b o e) (J.base.keep b o e n hb hx), fun b o e n hb hx => ?_, J.base.free, fun b o e hx => ?_, J.base.tups, J.base.frzs, J.base.tbls⟩, ⟨_, h1, fun j y w' e1 e2 e3 => ?_⟩, fun y c e => ?_, J.free, J.freeC, fun p hp => ?_, J.hok.off J.free hs, by simpa using J.len⟩
  · obtain ⟨sl, q⟩ := J.base.slot b o e n hb hx
    exact ⟨sl, kp b _ (neL b o e) q⟩
  · obtain ⟨o', q⟩ := J.base.there b o e hx
    exact ⟨o', kp b _ (neL b o e) q⟩
  · by_cases hj : j = i
    · subst hj
      have hiσ : j < σ.length := by rw [J.len]; exact (List.getElem?_eq_some_iff.mp hi).1
      rw [List.getElem?_set_self hiσ] at e2
      cases e2
    · rw [List.getElem?_set_ne (Ne.symm hj)] at e2
      obtain ⟨u, r, l⟩ := hl j y w' e1 e2 e3
      refine ⟨u, r, ?_⟩
      have hy : y ≠ n := fun e => hj (nodup_ix hN e1 (e ▸ hi))
      rcases l with ⟨k, e⟩ | ⟨k, c, e, z⟩
      · exact .inl ⟨k, by simp [hy, e]⟩
      · exact .inr ⟨k, c, e, z.sameBut hs (J.cne y c e)⟩
  · obtain ⟨w2, z⟩ := J.cell y c e
    exact ⟨w2, z.sameBut hs (J.cne y c e)⟩
  · obtain ⟨e, n, ne, nf, d⟩ := J.pin p hp
    exact ⟨kp p.1 p.2 ne e, n, ne, nf, d⟩
end
def asD (i : Nat) (Dn : Ends) : Ends := { nx := fun σ H => Dn.nx (σ.set i none) H, rt := Dn.rt, bk := fun σ H => Dn.bk (σ.set i none) H, ct := fun σ H => Dn.ct (σ.set i none) H }
def tTry (i : Nat) (K : PySem.W.Frag) (D : Addr) (tb : XS → TS) (ts : TS) : TS := fun Dn σ H => ∃ E : XS, tb E Dn σ H ∧
  ∀ σ' C H', E σ' (.ref C) none H' → Clause K C D ∧ ∀ a, H' a = none → ts (asD i Dn) (σ'.set i (some (.ref a))) (upd H' a (HExc C a))
section
variable {X : Cx}
theorem ps_try {body suite : List Stmt} {b₀ : Stmt} {x n : Str} {i : Nat} {D : Addr} {tb : XS → TS} {ts : TS} {np hpos pos : Pos} (hst : X.stack = X.env :: X.outer) (hff : X.env.frame = some X.env.locals) (hex : X.ex = []) (hN : X.N.Nodup) (hi : X.N[i]? = some n)
    (hn : X.env.scope.names.lookup n = some .local) (hg : Gl X x) (hm : X.mg x = some (.ref D)) (hb : ∀ pins Ety E, PassesE (CXe X.prog X.w) (X.tr pins Ety) E → PSs (X.tr pins Ety) body (tb E)) (hs : ∀ pins v, PSs (X.inH pins v) (b₀ :: suite) ts)
    (hd : (x == ("__debug__" : Str)) = false := by decide) : PS X (.Try body [.ExceptHandler (some (.Name x np)) (some n) (b₀ :: suite) hpos] [] [] pos) (tTry i X.K D tb ts) := by
  intro pins s σ H Dn I h
  obtain ⟨E, hb1, hh⟩ := h
  refine wpAny_Try_except ?_
  refine wpAny_mono (hb pins _ E ?_ [] s σ H Dn I.tr hb1) (fun f s1 q => ?_) fun _ _ q => q
  · intro ps σ1 H1 s1 e s' I1 hx
    obtain ⟨a, C, a0, B, H', rfl, os, bare, un, hok, ha, hfl, cov, hE⟩ := hx
    have I1' : Inv X pins σ1 H1 s1 := I1.untr
    have J : Inv X pins σ1 H' s' := I1'.call' (ch := []) os un hok bare (fun b z => absurd z (by simp))
    obtain ⟨cl, hsuite⟩ := hh σ1 C H' hE
    have hfl' : Heap.FlyingW B (X.env :: X.outer) a (.ref C) a0 s'.heap := by rw [← hst]; exact hfl
    have hfrs : X.A.frames = some (X.env :: X.outer) := by rw [← hst]; exact I.ok.frames
    refine wpAny_looks_onW hfrs hff hfl' fun h4 hheld hsm4 => ?_
    refine wpAny_landsW hheld fun h5 hfl5 hsm5 => ?_
    have up5 := hsm4.trans hsm5
    have J5 : Inv X pins σ1 H' { s' with heap := h5 } := I1'.flies J cov hfl5.1 up5
    obtain ⟨oe, hoe, hcls⟩ := hfl5.there
    refine wpAny_handleBy_cons (codeAny_handlers_test ?_) (by intro q; cases q)
    refine ld_glob (X := X.inH pins (.ref a)) (J5.inH (.ref a)) hg hm ?_ hd
    refine excMatches_own cl (J5.kIn) hoe hcls ?_
    refine codeAny_handlers_suite_as ?_
    refine lands_againW hfl5 fun h6 hfl6 hsm6 => ?_
    have up6 := up5.trans hsm6
    have J6 : Inv X pins σ1 H' { s' with heap := h6 } := I1'.flies J cov hfl6.1 up6
    obtain ⟨oe6, vs6, hoe6, hcls6, hd6, _⟩ := hfl6.first
    have hBa : B.get? a = none := hfl6.2.1
    have nfr : a ∉ frs X.stack := fun z => by
      obtain ⟨_, o', ho', hd'⟩ := J6.stack.mem z
      rw [hoe6] at ho'
      cases ho'
      exact hd' _ hd6
    have nold : ∀ b o, s1.heap.get? b = some o → b ≠ a := fun b o e z => by
      subst z
      obtain ⟨o', q⟩ := un.there b o e (by simp)
      have := cov b o' q nfr (.inr ⟨o, e⟩)
      rw [hBa] at this
      cases this
    have J7 : Inv X pins σ1 (upd H' a (HExc C a)) { s' with heap := h6 } := by
      refine J6.adopt ha ?_ (fun z => ?_) (fun y c e z => ?_) (fun p hp z => ?_) ?_
      · cases q : X.s₀.heap.get? a with
        | none => rfl
        | some o =>
          obtain ⟨o', q'⟩ := I1'.base.there a o q (by rw [hex]; simp)
          exact absurd rfl (nold a o' q')
      · obtain ⟨m, ⟨o, _, _, ho, _⟩, _⟩ := I1'.loc
        exact nold _ o ho z.symm
      · obtain ⟨v, o, ho, _⟩ := I1'.cell y c e
        exact nold c o ho z
      · exact nold p.1 p.2 (I1'.pin p hp).1 z
      · exact ⟨⟨oe6, vs6, hoe6, hcls6, hd6⟩, ⟨oe6, hoe6⟩, fun h1 h2 ⟨o, vs, q1, q2, q3⟩ k => ⟨o, vs, k o q1, q2, q3⟩⟩
    refine store_ok (X := X.inH pins (.ref a)) (v := .ref a) (J7.inH (.ref a)) hN hi (.inl hn) rfl (fun s7 J8 => ?_) (.inr hn)
    refine wpAny_mono (hs pins (.ref a) [] s7 _ _ (asD i Dn) J8 (hsuite a ha)) (fun f s8 q => ?_) fun _ _ z => False.elim z
    have gone : ∀ {σ2 : St} {H2 : Hp}, Inv (X.inH pins (.ref a)) [] σ2 H2 s8 → (∀ s9, Inv X pins (σ2.set i none) H2 s9 → SP X pins Dn f s9) →
        wpAny (model X.prog X.w) X.A (do bindName X.env n .none; unbindBehindTheSuite X.env n hpos) (fun _ s9 => SP X pins Dn f s9) X.xe s8 := fun {σ2 H2} K2 k => by
      have K3 : Inv X pins σ2 H2 s8 := K2.outH I.ok
      obtain ⟨m, hm2, _⟩ := K3.loc
      exact wpAny_nameGoes_keeps hn hm2 (by rw [I.ok.kind]; rfl) fun h9 v n1 n2 => k _ (K3.forget hN hi hm2 n1 n2)
    cases f with
    | next => obtain ⟨σ2, H2, K2, q2⟩ := q; exact gone K2 fun s9 K9 => ⟨_, H2, K9, q2⟩
    | brk => obtain ⟨σ2, H2, K2, q2⟩ := q; exact gone K2 fun s9 K9 => ⟨_, H2, K9, q2⟩
    | cont => obtain ⟨σ2, H2, K2, q2⟩ := q; exact gone K2 fun s9 K9 => ⟨_, H2, K9, q2⟩
    | ret u => obtain ⟨v, σ2, H2, K2, r2, q2⟩ := q; exact gone K2 fun s9 K9 => ⟨v, _, H2, K9, r2, q2⟩
  · cases f with
    | next => obtain ⟨σ2, H2, K2, q2⟩ := q; exact wpAny_execs_nil ⟨σ2, H2, K2.untr, q2⟩
    | brk => obtain ⟨σ2, H2, K2, q2⟩ := q; exact ⟨σ2, H2, K2.untr, q2⟩
    | cont => obtain ⟨σ2, H2, K2, q2⟩ := q; exact ⟨σ2, H2, K2.untr, q2⟩
    | ret u => obtain ⟨v, σ2, H2, K2, r2, q2⟩ := q; exact ⟨v, σ2, H2, K2.untr, r2, q2⟩
end
end L2

set_option Elab.async false
set_option linter.all false
set_option maxRecDepth 100000
namespace LX
open PySem PySem.W PySem.Spec PySem.Calls PyProof.Rows Builtin Builtin.ObjectAttr Builtin.Getset_descriptor
section
variable {prog : Program} {w : World} {A : Around} {E : Value → Shared → Prop} {K : Frag} {C a : Addr} {oe : Obj} {h : Heap} {g : Array GenState} {d : Drawn} {t : Nat} {os : OsState}
theorem exc_ty {M : Model} (he : h.get? a = some oe) (hc : oe.cls = .ref C) : Looks M h (typeOf (.ref a)) (.ref C) := hc ▸ (Looks.ld he).andThen .now
theorem exc_cget {R : Result → Shared → Prop} {tp : Value} (X : K.In h) (he : h.get? a = some oe) (hc : oe.cls = .ref C) (hm : mroIn K C (.type "object") = some true)
    (hq : R (.ok (.ret (.ref C))) ⟨h, g, d, t, os⟩) : codeAny (model prog w) A (.call (.builtin "getset_descriptor.__get__") ⟨[.builtin "object.__class__", .ref a, tp], []⟩) R ⟨h, g, d, t, os⟩ := by
  have L0 := exc_ty (M := model prog w) he hc
  have L1 := looks_mroIn (M := model prog w) X hm
  refine codeAny_call_builtin KF.slot_gs.plain KF.entry_gs (KF.slot_gs.check _ _ _ _ _ _ _ _ KF.type_class (KF.args_gs _ _ _) ?_)
  unfold Builtin.«getset_descriptor.__get__» descrGet
  rw [dga_obj]
  refine wpAny_bind (wpAny_pure ?_)
  unfold descrGetter descrCheckInstance descrNameAndClass isInstance
  simp only [KF.owner_class]
  repeat lk
  refine ⟨Code.quiet_builtin _ (by decide +kernel), codeAny_builtin KF.entry_class ?_⟩
  unfold Builtin.«object.__class__» shownTypeOf
  repeat lk
  exact hq

theorem exc_check {M : Model} {nameV : Value} {Q : Unit → Shared → Prop} (X : K.In h) (he : h.get? a = some oe) (hc : oe.cls = .ref C) (hb : mroIn K C (.type "BaseException") = some true)
    (hq : Q () ⟨h, g, d, t, os⟩) : wpAny M A (checkBuiltinCall "BaseException.__getattribute__" ⟨[.ref a, nameV], []⟩) Q E ⟨h, g, d, t, os⟩ := by
  have hk : builtinKind "BaseException.__getattribute__" = some .slot := by decide +kernel
  have hsplit : splitId "BaseException.__getattribute__" = some ("BaseException", "__getattribute__") := by decide +kernel
  have L0 := exc_ty (M := M) he hc
  have L1 := looks_mroIn (M := M) X hb
  have LI : Looks M h (isInstance (.ref a) (.type "BaseException")) true := L0.andThen L1
  have ha := F.args_bexc_ga (.ref a) nameV
  simp only [checkBuiltinCall, hk, hsplit]
  refine wpAny_bind (LI.at ?_)
  repeat (any_goals (first | assumption | wp_step))
theorem exc_centry {tk : Tok} {Q : PySem.Fin → Shared → Prop} (X : K.In h) (he : h.get? a = some oe) (hc : oe.cls = .ref C) (hcl : findIn K (.ref C) "__class__" = some (some (.builtin "object.__class__"))) (hm : mroIn K C (.type "object") = some true)
    (hq : Q (.done (.ret (.ref C))) ⟨h, g, d, t, os⟩) : wpAny (model prog w) A (Builtin.«object.__getattribute__» ⟨[.ref a, .str "__class__" tk], []⟩) Q E ⟨h, g, d, t, os⟩ := by
  have hT5 : (⟨h, g, d, t, os⟩ : Shared).TypeIs (.builtin "object.__class__") "getset_descriptor" := F.typeOf_object_class
  have f5 := F.typeOf_object_class
  have f6 := F.slot_gs_get.lookup
  have f7 := F.slot_gs_set.lookup
  have LB := looks_findIn (M := model prog w) X hcl
  repeat (any_goals (first | assumption | (with_reducible refine wpAny_loadPart_at he ?_; rw [hc]) | with_reducible refine wpAny_bind (LB.at ?_) | wp_step))
  refine exc_cget X he hc hm ?_
  repeat (any_goals (first | assumption | wp_step))
theorem exc_by {tk : Tok} {Q : Value → Shared → Prop} (X : K.In h) (he : h.get? a = some oe) (hc : oe.cls = .ref C) (hga : findIn K (.ref C) "__getattribute__" = some (some (.builtin "BaseException.__getattribute__")))
    (hgt : findIn K (.ref C) "__getattr__" = some none) (hcl : findIn K (.ref C) "__class__" = some (some (.builtin "object.__class__"))) (hm : mroIn K C (.type "object") = some true) (hb : mroIn K C (.type "BaseException") = some true)
    (hq : Q (.ref C) ⟨h, g, d, t, os⟩) : wpAny (model prog w) A (getAttrBy (.ref a) (.str "__class__" tk) false) Q E ⟨h, g, d, t, os⟩ := by
  have hx2 : (Value.builtin "BaseException.__getattribute__" == Value.builtin "object.__getattribute__") = false := by decide +kernel
  have f3 := PySem.F.excAttr_ValueError.ga.bind (.ref a)
  have fp := PySem.F.excAttr_ValueError.ga.plain
  have L1 := looks_findIn (M := model prog w) X hga
  have LB := looks_findIn (M := model prog w) X hgt
  repeat (any_goals (first | assumption | (with_reducible refine wpAny_loadPart_at he ?_; rw [hc]) | with_reducible refine wpAny_bind (L1.at ?_) | with_reducible refine wpAny_bind (LB.at ?_) | wp_step))
  refine codeAny_call_builtin fp F.entry_bexc_ga (exc_check X he hc hb (exc_centry X he hc hcl hm ?_))
  repeat (any_goals (first | assumption | wp_step))
theorem exc_attr {Q : Option Value → Shared → Prop} (X : K.In h) (he : h.get? a = some oe) (hc : oe.cls = .ref C) (hga : findIn K (.ref C) "__getattribute__" = some (some (.builtin "BaseException.__getattribute__")))
    (hgt : findIn K (.ref C) "__getattr__" = some none) (hcl : findIn K (.ref C) "__class__" = some (some (.builtin "object.__class__"))) (hm : mroIn K C (.type "object") = some true) (hb : mroIn K C (.type "BaseException") = some true)
    (hq : Q (some (.ref C)) ⟨h, g, d, t + 1, os⟩) : wpAny (model prog w) A (getAttr? (.ref a) "__class__") Q E ⟨h, g, d, t, os⟩ := by
  unfold getAttr? getAttrBy?
  repeat (any_goals (first | assumption | with_reducible apply exc_by X he hc hga hgt hcl hm hb | wp_step))
end
end LX

/-! a def called within an except suite; isinstance of a caught exception; short words -/
namespace L2
open PySem PySem.Spec PyProof.Rows
structure RoomH (k : Nat) (A : Around) : Prop where
  dp : A.depth + 3 * k + 5 < recursionLimit
  un : A.units + 16 * k + 200 < cLine
theorem RoomH.mono {j k : Nat} {A : Around} (r : RoomH k A) (h : j ≤ k) : RoomH j A := ⟨by have := r.dp; omega, by have := r.un; omega⟩
theorem RoomH.deeper {k : Nat} {A : Around} (r : RoomH (k + 1) A) (env : Env) : RoomH k (A.deeper env) :=
  ⟨by have := r.dp; show A.depth + 1 + 3 * k + 5 < _; omega, by have := r.un; show A.units + 3 + 16 * k + 200 < _; omega⟩
theorem Room.toH {k : Nat} {A : Around} (r : Room k A) (v : Option Value) : RoomH k (A.mark v) := ⟨r.dp, r.un⟩
/-- as FnOk, whatever is handled -/
structure FnOkH (P : Program) (w : World) (K : PySem.W.Frag) (mg : Str → Option Value) (base : Heap) (k : Nat) (f : Addr) (fd : FuncData) (ps : List Str) (sp : Sp) : Prop where
  len : ∀ vs H Q E, sp vs H Q E → vs.length = ps.length
  run : ∀ (A : Around) (outer : List Env) (s : Shared) (H : Hp) (args : Args) (us : List Value) (vs : List V) (Q : VK) (E : XK), RoomH k A → Env0 P w K mg base A outer s H → BindsTo s fd args (ps.zip us) → Vals vs us → sp vs H Q E →
    codeAny (model P w) A (.call (.ref f) args) (CR CX0 outer P w H s Q E) s
abbrev cxOfH (P : Program) (w : World) (K : PySem.W.Frag) (mg : Str → Option Value) (base : Heap) (N : List Str) (qual : Str) (scope : Scope) (f : Addr) (cd : Value) (A : Around) (outer : List Env) (s : Shared) (H : Hp) : Cx :=
  { cxOf CX0 P w K mg base N qual scope f cd A outer s H E0 with calm := false, xe := fun _ _ => False }
theorem Fun.okH {P : Program} {w : World} {K : PySem.W.Frag} {mg : Str → Option Value} {base : Heap} {x qual : Str} {st : Stmt} {f : Addr} {fd : FuncData} {N ps : List Str} {k : Nat} {sp : Sp} (F : Fun K x qual st f fd) (S : FnScope N ps (defScope st))
    (len : ∀ vs H Q E, sp vs H Q E → vs.length = ps.length)
    (hbody : ∀ (cdv : Value) (A : Around) (outer : List Env) (s : Shared) (H : Hp) (vs : List V) (Q : VK) (E : XK), RoomH k (A.deeper (envOfC qual (defScope st) s.heap.objs.size f cdv)) → sp vs H Q E →
      ∃ t, PSs (cxOfH P w K mg base N qual (defScope st) f cdv A outer s H) (defBody st) t ∧ t { nx := fun _ H' => Q .non H', rt := Q } (start N vs) H) : FnOkH P w K mg base (k + 1) f fd ps sp := by
  obtain ⟨oc, od, kV, doc, pm, an, cdv, ct, osl, rfl, lk, hcd⟩ := F.ex
  refine ⟨len, fun A outer s H args us vs Q E hr e0 hb r hsp => ?_⟩
  have hl := len _ _ _ _ hsp
  have KX : K.In s.heap := e0.mod.kin.keeps fun b o e => (e0.bs b o e).1
  have lim : s.heap.NoLimit := e0.mod.nolimit.keeps fun b o e => (e0.bs b o e).1
  have hkind : ∀ y ∈ ps.zip us, (defScope st).names.lookup y.1 = some .local ∨ ((defScope st).names.lookup y.1 = some .cell ∧ ((cellsFrom (s.heap.objs.size + 1) (defScope st).names []).lookup y.1).isSome = true) := fun ⟨n, v⟩ hy => by
    rcases S.par n (List.of_mem_zip hy).1 with q | q
    · exact .inl q
    · exact .inr ⟨q, PySem.W.cellsFrom_some _ _ _ (.inl q)⟩
  have hdep : A.depth < recursionLimit := by have := hr.dp; omega
  refine codeAny_call_function hdep (KX _ _ lk) rfl S.co S.gen rfl (PySem.W.codeRec_of KX hcd) (hb _ _ _ _ ?_)
  refine wpAny_newFunctionEnv_cells S.kind hkind fun env he s1 x => ?_
  subst he
  refine ⟨lim.keeps x.toInCall.keep, codeAny_func ?_⟩
  obtain ⟨t, ht, hq⟩ := hbody cdv A outer s H vs Q E (hr.deeper _) hsp
  have e0' : Env0 P w K mg base { A with handled := none } outer s H := ⟨e0.frames, e0.mod, e0.bs, e0.bsz, e0.funs, e0.frf, e0.hok, e0.bare⟩
  have I0 : Inv (cxOf CX0 P w K mg base N qual (defScope st) f cdv { A with handled := none } outer s H E0) [] (start N vs) H s1 := inv_start S rfl e0' hl r x
  have I : Inv (cxOfH P w K mg base N qual (defScope st) f cdv A outer s H) [] (start N vs) H s1 :=
    ⟨⟨I0.ok.mod, I0.ok.kind, I0.ok.glob, I0.ok.blt, I0.ok.above, I0.ok.inj, I0.ok.has, I0.ok.cab, fun z => (by cases z), Around.frames_deeper e0.frames, I0.ok.stk, I0.ok.exf, I0.ok.bs, I0.ok.bsz, I0.ok.noex, I0.ok.exfs, I0.ok.funs, I0.ok.frf⟩,
      I0.os, I0.bare, I0.base, I0.loc, I0.cell, I0.free, I0.freeC, I0.pin, I0.hok, I0.len⟩
  refine wpAny_mono (ht [] s1 (start N vs) H _ I hq) (fun fl s' hs => ?_) fun e s' hs => False.elim hs
  have fin : ∀ {σ' : St} {H' : Hp} {v : V} {u : Value}, Inv (cxOfH P w K mg base N qual (defScope st) f cdv A outer s H) [] σ' H' s' → RelV v u → Q v H' → CE outer P w H s Q u s' :=
    fun {σ' H' v u} J rv q => ⟨v, H', J.os, J.bare, J.base, J.hok, rv, q⟩
  cases fl with
  | ret u =>
    obtain ⟨v, σ', H', J, rv, q⟩ := hs
    exact fin J rv q
  | next =>
    obtain ⟨σ', H', J, q⟩ := hs
    exact fin (v := V.non) (u := Value.none) J rfl q
  | brk =>
    obtain ⟨_, _, _, q⟩ := hs
    exact False.elim q
  | cont =>
    obtain ⟨_, _, _, q⟩ := hs
    exact False.elim q
section
variable {X : Cx} {k : Nat} {f : Addr} {fd : FuncData} {ps : List Str} {sp : Sp} {x : Str} {p pos : Pos} {e : Expr} {es : List Expr} {t : TA}
theorem pe_callH (F : FnOkH X.prog X.w X.K X.mg X.base k f fd ps sp) (hr : RoomH k X.A) (hg : Gl X x) (hm : X.mg x = some (.ref f)) (hk : PySem.W.keepIn X.K (.ref f) = true) (hb : Binds X.K fd ps [])
    (ha : PA X (e :: es) t) (hdb : (x == ("__debug__" : Str)) = false := by decide) (he : starEach (e :: es) X.env = (false, eval e X.env) :: starEach es X.env := by rfl) (hpl : (backTo pos (starEach es X.env)).any (·.1) = false := by rfl) :
    PE X (.Call (.Name x p) (e :: es) [] pos) (tCall sp [] E0 t) := by
  intro pins s σ H Q I h
  refine wpAny_Call_Name_kw (ld_glob I hg hm ?_ hdb)
  refine PySem.W.callWith_K (h₀ := X.base) I.ok.mod.kin hk (thn (ha pos pins s σ H _ I h) fun us s1 ⟨vs, H1, I1, r, q⟩ => ⟨I1.kIn, ?_⟩) he hpl
  have hl : (us ++ []).length = ps.length := by rw [List.append_nil, ← r.length]; have := F.len _ _ _ _ q; simpa using this
  have q2 : sp (vs ++ []) H1 Q E0 := q
  have q' : sp vs H1 Q E0 := by rw [List.append_nil] at q2; exact q2
  have hb' := hb s1 us I1.kIn hl
  rw [List.append_nil] at hb'
  refine wpAny_call (codeAny_mono (F.run X.A X.stack s1 H1 ⟨us, []⟩ us vs Q E0 hr I1.env0 hb' r q') fun r s' hq => ?_)
  cases r with
  | error e => exact False.elim hq
  | ok fl =>
    cases fl with
    | ret u => exact I1.after hq
    | next => exact False.elim hq
    | brk => exact False.elim hq
    | cont => exact False.elim hq
end
/-! ### isinstance of an exception -/
structure ExcK (K : PySem.W.Frag) (C : Addr) : Prop where
  ga : PySem.W.findIn K (.ref C) "__getattribute__" = some (some (.builtin "BaseException.__getattribute__"))
  gt : PySem.W.findIn K (.ref C) "__getattr__" = some none
  cl : PySem.W.findIn K (.ref C) "__class__" = some (some (.builtin "object.__class__"))
  ob : PySem.W.mroIn K C (.type "object") = some true
  be : PySem.W.mroIn K C (.type "BaseException") = some true
def ExcAt (C a : Addr) (h : Heap) : Prop := ∃ oe vs, h.get? a = some oe ∧ oe.cls = .ref C ∧ oe.data = .fields vs
theorem kitx_exc {K : PySem.W.Frag} {C a : Addr} (e : ExcK K C) : PySem.W.KitX K (.ref a) (.ref C) (ExcAt C a) where
  ty := fun _ _ _ ⟨_, _, h1, h2, _⟩ => LX.exc_ty h1 h2
  it := fun _ _ X _ => by
    obtain ⟨cd, hc, _⟩ := Option.bind_eq_some_iff.mp e.ob
    unfold PySem.W.clsIn at hc
    split at hc
    · rename_i c' d' cd' sl' ho
      intro A' Q' E' s' k q
      unfold isType loadHead
      exact wpAny_bind (wpAny_loadPart (k _ _ (X _ _ ho)) (wpAny_pure q))
    · cases hc
  ne := fun h tp dd its n sl X htp => by
    obtain ⟨cd, hc, _⟩ := Option.bind_eq_some_iff.mp e.ob
    refine Bool.eq_false_iff.mpr fun q => ?_
    have z : C = tp := Value.ref.inj (beq_iff_eq.mp q)
    subst z
    unfold PySem.W.clsIn at hc
    split at hc
    · rename_i c' d' cd' sl' ho
      have z := (X _ _ ho).symm.trans htp
      cases z
    · cases hc
  ca := fun {_ _ _ _ _ s} X p k => by
    obtain ⟨oe, vs, h1, h2, _⟩ := p
    obtain ⟨h, g, d, t, os⟩ := s
    exact LX.exc_attr X h1 h2 e.ga e.gt e.cl e.ob e.be k
/-- isinstance(e, c) of an exception e -/
theorem call_isiX {X : Cx} : CallR X (.builtin "isinstance") (fun xs H Q => ∃ (a C : Addr) (c : V) (b : Bool), xs = [.ref a, c] ∧ H a = some (HExc C a) ∧ ExcK X.K C ∧ (∀ u, RelV c u → PySem.W.kitOne X.K (.ref C) u = some b) ∧ Q (.bl b) H) := by
  intro pins s σ H xs us Q I r h
  obtain ⟨a, C, c, b, rfl, ha, ek, e, q⟩ := h
  obtain ⟨u, w', rfl, r1, r2⟩ := vals2 r
  cases r1
  obtain ⟨p, _, _⟩ := I.hok a _ ha
  exact PySem.W.kia_one (kitx_exc ek) I.kIn p (e w' r2) (fun z => nomatch z) fun tk => ⟨.bl b, H, I.tok tk, rfl, q⟩
/-! ### short words -/
/-- the names and what they stand for, for a call of a def of the module -/
structure DefAt (K : PySem.W.Frag) (mg : Str → Option Value) (x : Str) (st : Stmt) (f : Addr) (fd : FuncData) : Prop where
  fn : Fun K x x st f fd
  mg : mg x = some (.ref f)
theorem def_mk {K : PySem.W.Frag} {h : Heap} {mg : Str → Option Value} {x : Str} {st : Stmt} {f : Addr} {oc : Value} {od an : Option Addr} {osl : Array (Option Value)} {kV doc pm cdv ct : Value} (X : K.In h) (G : h.Ns mainGlobals mg) (a : PySem.W.nsIn K mainGlobals x = some (some (.ref f)))
    (l : K.lookup f = some ⟨oc, od, .func (PySem.W.fnOf x x (defArgs st) (defBody st) (defScope st) .none kV doc pm an cdv ct), osl⟩) (c : PySem.W.codeIn K cdv x = true) (k : PySem.W.keepIn K (.ref f) = true) :
    ∃ f fd, DefAt K mg x st f fd := ⟨f, _, fun_mk l c k, PySem.W.mg_of X G a⟩
end L2

set_option Elab.async false
set_option linter.all false
set_option maxRecDepth 100000
/-! comprehensions in the forms that one uses -/
namespace L2
open PySem PySem.Spec PyProof.Rows
/-- each of the names is a cell of this frame, or one that it has from outside -/
def AllCell (X : Cx) : List Str → Prop
  | [] => True
  | y :: r => (X.env.kindOf y = some .cell ∨ X.env.kindOf y = some .free) ∧ AllCell X r
theorem AllCell.get {X : Cx} : ∀ {l : List Str}, AllCell X l → ∀ y ∈ l, X.env.kindOf y = some .cell ∨ X.env.kindOf y = some .free
  | [], _, y, h => by cases h
  | z :: r, a, y, h => by
    rcases List.mem_cons.mp h with e | e
    · rw [e]; exact a.1
    · exact a.2.get y e
section
variable {X : Cx} {elt iter tg : Expr} {ifs : List Expr} {scope : Scope} {pos : Pos} {nl fr : List Str} {ixs : List Nat} {wi : TI} {g : TG} {tt : TT} {te : TE}
theorem free_of (hfree : (scope.names.filter fun p => p.2 == .free).map (·.1) = fr) (hcl : AllCell X fr) (y : Str) (hy : (y, NameKind.free) ∈ scope.names) : X.env.kindOf y = some .cell ∨ X.env.kindOf y = some .free :=
  hcl.get y (by rw [← hfree]; exact List.mem_map.mpr ⟨(y, .free), List.mem_filter.mpr ⟨hy, rfl⟩, rfl⟩)
theorem pe_compL (nl : List Str) (ixs : List Nat) (hc : X.calm = true) (hi : PI X tg iter wi) (hg : ∀ cl C s H ex, PG (cxComp X scope (nl ++ fr) cl C s H ex) tg g) (ht : ∀ cl C s H ex, PTs (cxComp X scope (nl ++ fr) cl C s H ex) ifs tt)
    (he : ∀ cl C s H ex, PE (cxComp X scope (nl ++ fr) cl C s H ex) elt te) (hcl : AllCell X fr) (hix : fr.map some = ixs.map fun j => X.N[j]?)
    (hfree : (scope.names.filter fun p => p.2 == .free).map (·.1) = fr) (hfr : (fr.all fun y => scope.names.lookup y == some .free) = true)
    (hnames : (scope.names.all fun y => y.2 != .local || scope.names.lookup y.1 == some .local) = true) (hcell : (scope.names.all fun y => y.2 != .cell) = true)
    (hk : scope.kind = .function := by rfl) (hs : ∀ x, foldedSetIterable iter X.env x = pure x := by intro _; rfl) :
    PE X (.ListComp elt [⟨tg, iter, ifs, 0⟩] scope pos) (tComp wi nl.length ixs g tt te) :=
  pe_comp hc hi hg ht he (fun y hy => by simpa using List.all_eq_true.mp hfr y hy) hix (free_of hfree hcl)
    (fun y hy hl => by
      have q := List.all_eq_true.mp hnames y hy
      rw [hl] at q
      simpa using q)
    (fun y hy z => by
      have q := List.all_eq_true.mp hcell y hy
      rw [z] at q
      simp at q) hk hs
/-- y = [..], y a plain local name on the same row: stored ahead of the block's end -/
theorem ps_setC (nl : List Str) (ixs : List Nat) {i : Nat} {y : Str} {py spos : Pos} (hsw : swapsWith (.ListComp elt [⟨tg, iter, ifs, 0⟩] scope pos) (some (.Name y py)) spos.line X.env = pure true) (hN : X.N.Nodup) (hiN : X.N[i]? = some y) (hy : X.env.scope.names.lookup y = some .local)
    (hc : X.calm = true) (hi : PI X tg iter wi) (hg : ∀ cl C s H ex, PG (cxComp X scope (nl ++ fr) cl C s H ex) tg g) (ht : ∀ cl C s H ex, PTs (cxComp X scope (nl ++ fr) cl C s H ex) ifs tt)
    (he : ∀ cl C s H ex, PE (cxComp X scope (nl ++ fr) cl C s H ex) elt te) (hcl : AllCell X fr) (hix : fr.map some = ixs.map fun j => X.N[j]?)
    (hfree : (scope.names.filter fun p => p.2 == .free).map (·.1) = fr) (hfr : (fr.all fun y => scope.names.lookup y == some .free) = true)
    (hnames : (scope.names.all fun y => y.2 != .local || scope.names.lookup y.1 == some .local) = true) (hcell : (scope.names.all fun y => y.2 != .cell) = true)
    (hk : scope.kind = .function := by rfl) (hs : ∀ x, foldedSetIterable iter X.env x = pure x := by intro _; rfl) :
    PS X (.Assign [.Name y py] (.ListComp elt [⟨tg, iter, ifs, 0⟩] scope pos) spos) (tAsg (tComp wi nl.length ixs g tt te) (gName i)) := by
  intro pins s σ H D I h
  have hcell' : ∀ z ∈ scope.names, z.2 ≠ .cell := fun z hz q => by
    have q' := List.all_eq_true.mp hcell z hz
    rw [q] at q'
    simp at q'
  have hnames' : ∀ z ∈ scope.names, z.2 = .local → scope.names.lookup z.1 = some .local := fun z hz hl => by
    have q := List.all_eq_true.mp hnames z hz
    rw [hl] at q
    simpa using q
  obtain ⟨cl, hclo, h1, h2⟩ := closure_of (scope := scope) (env := X.env) fun z hz => I.ok.has z (free_of hfree hcl z hz)
  rw [exec_Assign_Name_used _ _ _ _ hsw]
  refine wpAny_bind (wpAny_standAt (wpAny_bind ?_))
  show wpAny _ X.A (do let _ ← comprehension (.ListComp elt [⟨tg, iter, ifs, 0⟩] scope pos) scope X.env _ (newList []) false (eval iter X.env) (some (assign (.Name y py) X.env))) _ _ s
  refine wpAny_bind (wpAny_mono (wpAny_comprehension_free (use := some (assign (.Name y py) X.env)) (Q := fun _ s' => SP X pins D .next s') rfl hs hclo hk hnames' ?_) (fun _ s' hq => wpAny_pure (wpAny_pure hq)) fun _ _ e => e)
  refine thn (hi pins s σ H _ I h) fun v s1 q1 => thn q1 fun itv s2 q2 => ?_
  obtain ⟨it, fp, tn, J, H2, e, I2, T, st2, f2, hq⟩ := q2
  subst e
  refine comp_run (Q := fun x H1 => gName i x σ H1 D.nx) (RR := fun acc C => compPost (model X.prog X.w) X.A X.xe (some (assign (.Name y py) X.env)) (fun _ s' => SP X pins D .next s') acc C) hc hk hcell' (fun z hz => by simpa using List.all_eq_true.mp hfr z hz) (free_of hfree hcl) hix h1 h2 hg ht he I2 T st2 f2 hq fun Dl s3 H3 H' σ' s' I3 f3 J' q' => ?_
  have I4 : Inv X pins σ H' s' := comp_back I3 J' f3 (Heap.SameBut.refl ..)
  obtain ⟨m, hn, _⟩ := J'.loc
  have hC : ∀ b o, s3.heap.get? b = some o → s3.heap.objs.size ≠ b := fun b o e => Nat.ne_of_gt (Heap.lt_size e)
  refine wpAny_assign_Name (store_ok2 (v := .ref Dl) I4 hN hiN (.inl hy) rfl (fun s5 I5 hch => ?_) (.inr hy))
  obtain ⟨b, hs5, hb⟩ := hch
  have hbC : s3.heap.objs.size ≠ b := by
    rcases hb with z | z
    · rw [z]; exact Nat.ne_of_gt I3.lt
    · obtain ⟨v', o, ho, _⟩ := I3.cell _ _ z
      exact hC b o ho
  refine ⟨m, hn.sameBut hs5 hbC, fun h' hs' => ⟨_, H', ?_, q'⟩⟩
  refine I5.turned (it := s3.heap.objs.size) (t' := s5.toks) (fun c o hc' e => (hs'.2 c hc').trans e) J'.free (Nat.ne_of_gt I3.lt) (.inr I3.sz) (fun z c e q => ?_) fun p hp q => ?_
  · obtain ⟨v', o, ho, _⟩ := I3.cell z c e
    exact hC c o ho q.symm
  · exact hC p.1 p.2 (I3.pin p hp).1 q.symm
/-- over a list that the turns leave as it is -/
theorem comp_list {K : PySem.W.Frag} {a D : Addr} {xs : List V} {n : Nat} {σ : St} {H1 : Hp} {Q : VK} (Pv : Nat → List V → Hp → Prop) (h0 : Pv 0 [] (upd H1 D (.lst []))) (hl : ∀ i acc H, i ≤ xs.length → Pv i acc H → SqL K H a xs)
    (hs : ∀ i x acc H, xs[i]? = some x → Pv i acc H → H D = some (.lst acc) → g x (st0 n ixs σ) H fun σ1 H3 => σ1.length = n + ixs.length ∧ σ1.drop n = (st0 n ixs σ).drop n ∧ tt σ1 H3 fun b H4 =>
      if b = true then te σ1 H4 fun y H5 => H5 D = some (.lst acc) ∧ acc.length < sizeLine ∧ Pv (i + 1) (acc ++ [y]) (upd H5 D (.lst (acc ++ [y]))) else H4 D = some (.lst acc) ∧ Pv (i + 1) acc H4)
    (hd : ∀ acc H, Pv xs.length acc H → H D = some (.lst acc) → Q (.ref D) H) :
    CompW (Itl K a) n ixs g tt te σ Q H1 D := by
  refine ⟨fun i m acc H => m = xs.length - i ∧ i ≤ xs.length ∧ Pv i acc H, ⟨xs.length, by simp, Nat.zero_le _, h0⟩, ?_⟩
  rintro i m acc H ⟨rfl, hi, p⟩ hD
  have q := hl i acc H hi p
  by_cases hlt : i < xs.length
  · refine .inr ⟨⟨xs, xs[i], q, by simp [hlt]⟩, Pv (i + 1), fun acc' H' p' => ⟨xs.length - (i + 1), by omega, rfl, hlt, p'⟩, fun v H3 y => ?_⟩
    obtain ⟨e, y⟩ := y
    subst e
    exact hs i v acc _ (y xs q) p hD
  · have e : i = xs.length := by omega
    subst e
    exact .inl ⟨⟨xs, q, Nat.le_refl _⟩, hd acc H p hD⟩
end
end L2

namespace K2
/-! the orders of unlike numbers: all of them by growing prefixes, one by its number, the number of one -/
def fac : Nat → Nat
  | 0 => 1
  | n + 1 => (n + 1) * fac n
theorem fac_pos : ∀ n, 0 < fac n
  | 0 => by decide
  | n + 1 => Nat.mul_pos (Nat.succ_pos _) (fac_pos n)
def step (S : List Int) (r : List Int) : List (List Int) := (S.filter fun x => !r.contains x).map fun x => r ++ [x]
/-- t turns from the prefixes F -/
def grow (S : List Int) : Nat → List (List Int) → List (List Int)
  | 0, F => F
  | t + 1, F => grow S t (F.flatMap (step S))
def all (S : List Int) : List (List Int) := grow S S.length [[]]
/-- the orders of R, by their first -/
def perms : Nat → List Int → List (List Int)
  | 0, _ => [[]]
  | t + 1, R => R.flatMap fun x => (perms t (R.filter fun y => !(y == x))).map fun q => x :: q
/-- by its number -/
def at_ : Nat → List Int → Nat → List Int
  | 0, _, _ => []
  | t + 1, R, k => R.getD (k / fac t) 0 :: at_ t (R.eraseIdx (k / fac t)) (k % fac t)
theorem erase_perm : ∀ (R : List Int) (i : Nat) (h : i < R.length), (R[i] :: R.eraseIdx i).Perm R
  | [], i, h => by simp at h
  | a :: R, 0, h => .refl _
  | a :: R, i + 1, h => by
    have hi : i < R.length := by simpa using h
    exact (List.Perm.swap ..).trans ((erase_perm R i hi).cons a)
/-- the number of an order -/
def num : List Int → Nat
  | [] => 0
  | x :: q => (q.filter fun y => decide (y < x)).length * fac q.length + num q
theorem num_lt : ∀ q : List Int, num q < fac q.length
  | [] => by decide
  | x :: q => by
    have h1 : (q.filter fun y => decide (y < x)).length ≤ q.length := List.length_filter_le ..
    have h2 := num_lt q
    show (q.filter fun y => decide (y < x)).length * fac q.length + num q < (q.length + 1) * fac q.length
    have h3 : (q.filter fun y => decide (y < x)).length * fac q.length ≤ q.length * fac q.length := Nat.mul_le_mul_right _ h1
    rw [Nat.succ_mul]
    omega
/-- in a rising list the place of x is the number of lesser ones -/
theorem rise_ix : ∀ (R : List Int) (i : Nat) (h : i < R.length), R.Pairwise (· < ·) → (R.filter fun y => decide (y < R[i])).length = i
  | [], i, h, _ => by simp at h
  | a :: R, 0, h, p => by
    have p1 := (List.pairwise_cons.mp p).1
    simp only [List.getElem_cons_zero, List.filter_cons, decide_eq_true_eq, Int.lt_irrefl, if_false]
    rw [List.filter_eq_nil_iff.mpr fun y hy => by
      have := p1 y hy
      simp
      omega]
    rfl
  | a :: R, i + 1, h, p => by
    have hi : i < R.length := by simpa using h
    have p1 := (List.pairwise_cons.mp p).1 R[i] (List.getElem_mem hi)
    simp only [List.getElem_cons_succ, List.filter_cons]
    rw [if_pos (by simpa using p1), List.length_cons, rise_ix R i hi (List.pairwise_cons.mp p).2]
theorem at_num : ∀ (q R : List Int), R.Perm q → R.Pairwise (· < ·) → at_ q.length R (num q) = q
  | [], R, _, _ => rfl
  | x :: q, R, hp, hr => by
    have fp := fac_pos q.length
    have hx : x ∈ R := hp.mem_iff.mpr List.mem_cons_self
    obtain ⟨i, hi, e⟩ := List.mem_iff_getElem.mp hx
    have hc : (q.filter fun y => decide (y < x)).length = i := by
      have h1 : ((x :: q).filter fun y => decide (y < x)).length = (R.filter fun y => decide (y < x)).length := ((hp.filter _).length_eq).symm
      rw [List.filter_cons_of_neg (by simp)] at h1
      rw [h1, ← e]
      exact rise_ix R i hi hr
    have hn := num_lt q
    have ed : num (x :: q) / fac q.length = i := by
      show ((q.filter fun y => decide (y < x)).length * fac q.length + num q) / fac q.length = i
      rw [hc, Nat.mul_comm, Nat.mul_add_div fp, Nat.div_eq_of_lt hn, Nat.add_zero]
    have em : num (x :: q) % fac q.length = num q := by
      show ((q.filter fun y => decide (y < x)).length * fac q.length + num q) % fac q.length = num q
      rw [Nat.mul_comm, Nat.mul_add_mod, Nat.mod_eq_of_lt hn]
    show R.getD (num (x :: q) / fac q.length) 0 :: at_ q.length (R.eraseIdx (num (x :: q) / fac q.length)) (num (x :: q) % fac q.length) = x :: q
    rw [ed, em]
    have eg : R.getD i 0 = x := by rw [List.getD_eq_getElem?_getD, List.getElem?_eq_getElem hi, e]; rfl
    have hpe : (R.eraseIdx i).Perm q := by
      have h2 : (R[i] :: R.eraseIdx i).Perm R := erase_perm R i hi
      rw [e] at h2
      exact List.Perm.cons_inv (h2.trans hp)
    rw [eg, at_num q _ hpe (hr.sublist (List.eraseIdx_sublist ..))]
/-- the program's own way to the number -/
def horner : Nat → List Int → Nat
  | a, [] => a
  | a, x :: q => horner (a * (q.length + 1) + ((x :: q).filter fun y => decide (y < x)).length) q
theorem horner_eq : ∀ (q : List Int) (a : Nat), horner a q = a * fac q.length + num q
  | [], a => by simp [horner, fac, num]
  | x :: q, a => by
    unfold horner
    rw [horner_eq q, List.filter_cons_of_neg (by simp)]
    show _ = a * ((q.length + 1) * fac q.length) + ((q.filter fun y => decide (y < x)).length * fac q.length + num q)
    rw [Nat.add_mul, Nat.mul_assoc, Nat.add_assoc]
/-- the whole -/
theorem rise_nodup {R : List Int} (h : R.Pairwise (· < ·)) : R.Nodup := h.imp fun h e => by omega
theorem at_len : ∀ (t : Nat) (R : List Int) (k : Nat), (at_ t R k).length = t
  | 0, _, _ => rfl
  | t + 1, R, k => by unfold at_; rw [List.length_cons, at_len t]
end K2

namespace K2
/-! the mathematics of laying out and telling -/
/-- how many of R stand below c -/
def below (R : List Int) (c : Int) : Nat := (R.filter fun y => decide (y < c)).length
theorem below_cons (a : Int) (R : List Int) (c : Int) : below (a :: R) c = (if a < c then 1 else 0) + below R c := by
  unfold below
  by_cases h : a < c
  · rw [List.filter_cons_of_pos (by simpa using h), List.length_cons, if_pos h]; omega
  · rw [List.filter_cons_of_neg (by simpa using h), if_neg h]; omega
theorem below_perm {R R' : List Int} (h : R.Perm R') (c : Int) : below R c = below R' c := (h.filter _).length_eq
theorem below_le (R : List Int) (c : Int) : below R c ≤ R.length := List.length_filter_le ..
theorem below_none {R : List Int} {c : Int} (h : ∀ x ∈ R, c ≤ x) : below R c = 0 := by
  unfold below
  rw [List.filter_eq_nil_iff.mpr fun x hx => by have := h x hx; simp; omega]
  rfl
theorem below_notin : ∀ {R : List Int} {c : Int}, c ∉ R → below R (c + 1) = below R c
  | [], _, _ => rfl
  | a :: R, c, h => by
    rw [below_cons, below_cons, below_notin fun z => h (List.mem_cons_of_mem _ z)]
    have : a ≠ c := fun e => h (e ▸ List.mem_cons_self)
    by_cases q : a < c
    · rw [if_pos q, if_pos (by omega)]
    · rw [if_neg q, if_neg (by omega)]
theorem below_in : ∀ {R : List Int} {c : Int}, R.Nodup → c ∈ R → below R (c + 1) = below R c + 1
  | [], _, _, h => by cases h
  | a :: R, c, nd, h => by
    obtain ⟨h1, h2⟩ := List.nodup_cons.mp nd
    rw [below_cons, below_cons]
    rcases List.mem_cons.mp h with e | e
    · subst e
      rw [below_notin h1, if_pos (by omega), if_neg (by omega)]; omega
    · have : a ≠ c := fun z => h1 (z ▸ e)
      rw [below_in h2 e]
      by_cases q : a < c
      · rw [if_pos q, if_pos (by omega)]; omega
      · rw [if_neg q, if_neg (by omega)]; omega
/-- the place of c among the cards that are not of R -/
def rank (R : List Int) (c : Int) : Int := c - below R c
theorem rank_step {R : List Int} (nd : R.Nodup) (c : Int) : rank R (c + 1) = rank R c ∨ rank R (c + 1) = rank R c + 1 := by
  unfold rank
  by_cases h : c ∈ R
  · rw [below_in nd h]; left; omega
  · rw [below_notin h]; right; omega
theorem rank_mono {R : List Int} (nd : R.Nodup) (c : Int) : ∀ k : Nat, rank R c ≤ rank R (c + k)
  | 0 => by simp
  | k + 1 => by
    have h := rank_mono nd c k
    have e : c + ((k + 1 : Nat) : Int) = (c + k) + 1 := by omega
    rw [e]
    rcases rank_step nd (c + k) with q | q <;> omega
theorem rank_lt {R : List Int} (nd : R.Nodup) {c d : Int} (hc : c ∉ R) (h : c < d) : rank R c < rank R d := by
  have h1 : rank R (c + 1) = rank R c + 1 := by unfold rank; rw [below_notin hc]; omega
  have h2 := rank_mono nd (c + 1) (d - (c + 1)).toNat
  have e : c + 1 + ((d - (c + 1)).toNat : Int) = d := by omega
  rw [e] at h2
  omega
theorem rank_at {R : List Int} (nd : R.Nodup) : ∀ (m : Nat) (r : Int), rank R 0 ≤ r → r < rank R m → ∃ k : Nat, k < m ∧ (k : Int) ∉ R ∧ rank R k = r
  | 0, r, h0, h1 => by
    have : ((0 : Nat) : Int) = 0 := rfl
    rw [this] at h1
    omega
  | m + 1, r, h0, h1 => by
    by_cases h : r < rank R m
    · obtain ⟨k, a, b, c⟩ := rank_at nd m r h0 h
      exact ⟨k, by omega, b, c⟩
    · refine ⟨m, by omega, ?_, ?_⟩
      · intro z
        have e : rank R ((m : Int) + 1) = rank R m := by unfold rank; rw [below_in nd z]; omega
        have e2 : ((m + 1 : Nat) : Int) = (m : Int) + 1 := by omega
        rw [e2, e] at h1
        omega
      · have e2 : ((m + 1 : Nat) : Int) = (m : Int) + 1 := by omega
        rw [e2] at h1
        rcases rank_step nd (m : Int) with q | q <;> omega
/-! ### the number of an order, back -/
theorem at_perm : ∀ (t : Nat) (R : List Int) (k : Nat), R.length = t → k < fac t → (at_ t R k).Perm R
  | 0, R, k, hl, _ => by
    have : R = [] := List.length_eq_zero_iff.mp hl
    subst this
    exact .refl _
  | t + 1, R, k, hl, hk => by
    have fp := fac_pos t
    have hi : k / fac t < R.length := (Nat.div_lt_iff_lt_mul fp).mpr (by rw [hl]; exact hk)
    have ih := at_perm t (R.eraseIdx (k / fac t)) (k % fac t) (by rw [List.length_eraseIdx_of_lt hi]; omega) (Nat.mod_lt _ fp)
    show (R.getD (k / fac t) 0 :: _).Perm R
    have eg : R.getD (k / fac t) 0 = R[k / fac t] := by rw [List.getD_eq_getElem?_getD, List.getElem?_eq_getElem hi]; rfl
    rw [eg]
    exact (ih.cons _).trans (erase_perm R _ hi)
theorem num_at : ∀ (t : Nat) (R : List Int) (k : Nat), R.Pairwise (· < ·) → R.length = t → k < fac t → num (at_ t R k) = k
  | 0, R, k, _, _, hk => by
    have : k = 0 := by simp [fac] at hk; omega
    subst this
    rfl
  | t + 1, R, k, hr, hl, hk => by
    have fp := fac_pos t
    have hi : k / fac t < R.length := (Nat.div_lt_iff_lt_mul fp).mpr (by rw [hl]; exact hk)
    have hl' : (R.eraseIdx (k / fac t)).length = t := by rw [List.length_eraseIdx_of_lt hi]; omega
    have ih := num_at t (R.eraseIdx (k / fac t)) (k % fac t) (hr.sublist (List.eraseIdx_sublist ..)) hl' (Nat.mod_lt _ fp)
    have ip := at_perm t (R.eraseIdx (k / fac t)) (k % fac t) hl' (Nat.mod_lt _ fp)
    have eg : R.getD (k / fac t) 0 = R[k / fac t] := by rw [List.getD_eq_getElem?_getD, List.getElem?_eq_getElem hi]; rfl
    show num (R.getD (k / fac t) 0 :: at_ t (R.eraseIdx (k / fac t)) (k % fac t)) = k
    rw [eg]
    show ((at_ t (R.eraseIdx (k / fac t)) (k % fac t)).filter fun y => decide (y < R[k / fac t])).length * fac (at_ t (R.eraseIdx (k / fac t)) (k % fac t)).length + num (at_ t (R.eraseIdx (k / fac t)) (k % fac t)) = k
    rw [ih, at_len]
    have e1 : ((at_ t (R.eraseIdx (k / fac t)) (k % fac t)).filter fun y => decide (y < R[k / fac t])).length = k / fac t := by
      rw [(ip.filter _).length_eq]
      have h1 : (R.filter fun y => decide (y < R[k / fac t])).length = ((R[k / fac t] :: R.eraseIdx (k / fac t)).filter fun y => decide (y < R[k / fac t])).length := (((erase_perm R _ hi).filter _).length_eq).symm
      rw [rise_ix R _ hi hr, List.filter_cons_of_neg (by simp)] at h1
      exact h1.symm
    rw [e1, Nat.mul_comm]
    exact Nat.div_add_mod k (fac t)
/-! ### laying out -/
def place (n : Nat) (ns : List Int) : Nat := (ns.sum % (n : Int)).toNat
def held (n : Nat) (ns : List Int) : Int := ns.getD (place n ns) 0
def lnum (n : Nat) (ns : List Int) : Nat := ((held n ns - place n ns) / (n : Int)).toNat
def lrow (n : Nat) (ns : List Int) : List Int := at_ (n - 1) (ns.eraseIdx (place n ns)) (lnum n ns)
theorem place_lt {n : Nat} (hn : 0 < n) (ns : List Int) : place n ns < n := by
  unfold place
  have h1 := Int.emod_nonneg ns.sum (b := (n : Int)) (by omega)
  have h2 := Int.emod_lt_of_pos ns.sum (b := (n : Int)) (by omega)
  omega
theorem place_cast {n : Nat} (hn : 0 < n) (ns : List Int) : (place n ns : Int) = ns.sum % (n : Int) := by
  unfold place
  have h1 := Int.emod_nonneg ns.sum (b := (n : Int)) (by omega)
  omega
/-- in a rising list of numbers from nought on below m -/
theorem rise_bounds : ∀ (R : List Int) (i : Nat) (h : i < R.length) (lo : Int), R.Pairwise (· < ·) → (∀ x ∈ R, lo ≤ x) → lo + i ≤ R[i]
  | [], i, h, _, _, _ => by simp at h
  | a :: R, 0, h, lo, _, hb => by simpa using hb a List.mem_cons_self
  | a :: R, i + 1, h, lo, p, hb => by
    have hi : i < R.length := by simpa using h
    have p1 := List.pairwise_cons.mp p
    have := rise_bounds R i hi (lo + 1) p1.2 fun x hx => by
      have h1 := p1.1 x hx
      have h2 := hb a List.mem_cons_self
      omega
    simp only [List.getElem_cons_succ]
    omega
theorem rise_top {R : List Int} {i : Nat} (h : i < R.length) {m : Int} (p : R.Pairwise (· < ·)) (hb : ∀ x ∈ R, x < m) : R[i] + (R.length - i : Nat) ≤ m := by
  have key : ∀ (k : Nat) (h' : i + k < R.length), R[i] + k ≤ R[i + k] := by
    intro k
    induction k with
    | zero => intro h'; simp
    | succ k ih =>
      intro h'
      have h1 := ih (by omega)
      have h2 : R[i + k] < R[i + (k + 1)] := List.pairwise_iff_getElem.mp p (i + k) (i + (k + 1)) (by omega) h' (by omega)
      omega
  have h1 := key (R.length - 1 - i) (by omega)
  have h2 := hb R[i + (R.length - 1 - i)] (List.getElem_mem _)
  omega
section
variable {n : Nat} {ns : List Int} {m : Nat}
theorem held_get (hn : 0 < n) (hl : ns.length = n) : held n ns = ns[place n ns]'(by rw [hl]; exact place_lt hn ns) := by
  unfold held
  have : place n ns < ns.length := by rw [hl]; exact place_lt hn ns
  rw [List.getD_eq_getElem?_getD, List.getElem?_eq_getElem this]
  rfl
theorem held_bounds (hn : 0 < n) (hl : ns.length = n) (hr : ns.Pairwise (· < ·)) (bd : ∀ x ∈ ns, 0 ≤ x ∧ x < (m : Int)) : 0 ≤ held n ns - place n ns ∧ held n ns - place n ns + n ≤ m := by
  have hp : place n ns < ns.length := by rw [hl]; exact place_lt hn ns
  rw [held_get hn hl]
  have h1 := rise_bounds ns _ hp 0 hr fun x hx => (bd x hx).1
  have h2 := rise_top hp hr fun x hx => (bd x hx).2
  omega
theorem lnum_lt (hn : 0 < n) (hl : ns.length = n) (hr : ns.Pairwise (· < ·)) (bd : ∀ x ∈ ns, 0 ≤ x ∧ x < (m : Int)) (hm : m + 1 ≤ fac n + n) : lnum n ns < fac (n - 1) := by
  obtain ⟨h1, h2⟩ := held_bounds hn hl hr bd
  obtain ⟨k, rfl⟩ : ∃ k, n = k + 1 := ⟨n - 1, by omega⟩
  have e : fac (k + 1) = (k + 1) * fac k := rfl
  have h3 : (held (k + 1) ns - place (k + 1) ns) / ((k + 1 : Nat) : Int) < fac k := by
    refine Int.ediv_lt_of_lt_mul (by omega) ?_
    have e2 : ((fac k : Nat) : Int) * ((k + 1 : Nat) : Int) = ((fac (k + 1) : Nat) : Int) := by rw [e, Int.natCast_mul, Int.mul_comm]
    rw [e2]
    omega
  have h4 : 0 ≤ (held (k + 1) ns - place (k + 1) ns) / ((k + 1 : Nat) : Int) := Int.ediv_nonneg h1 (by omega)
  show ((held (k + 1) ns - place (k + 1) ns) / ((k + 1 : Nat) : Int)).toNat < fac k
  omega
theorem lnum_cast (hn : 0 < n) (hl : ns.length = n) (hr : ns.Pairwise (· < ·)) (bd : ∀ x ∈ ns, 0 ≤ x ∧ x < (m : Int)) : ((lnum n ns : Nat) : Int) = (held n ns - place n ns) / (n : Int) := by
  obtain ⟨h1, _⟩ := held_bounds hn hl hr bd
  have h4 : 0 ≤ (held n ns - place n ns) / (n : Int) := Int.ediv_nonneg h1 (by omega)
  unfold lnum
  omega
end
/-! ### telling -/
/-- the rank that a row tells -/
def told (n : Nat) (row : List Int) : Int := n * num row + (-row.sum) % (n : Int)
theorem sum_perm : ∀ {l l' : List Int}, l.Perm l' → l.sum = l'.sum := fun h => by
  induction h with
  | nil => rfl
  | cons x _ ih => simp [ih]
  | swap x y l => simp only [List.sum_cons]; omega
  | trans _ _ h1 h2 => exact h1.trans h2
/-- where c stands in the hand of the row and c -/
theorem hand_ix {row ms : List Int} {c : Int} (pm : ms.Perm (row ++ [c])) (hr : ms.Pairwise (· < ·)) : ∃ h : below row c < ms.length, ms[below row c] = c ∧ (ms.eraseIdx (below row c)).Perm row := by
  have hc : c ∈ ms := pm.mem_iff.mpr (by simp)
  obtain ⟨i, hi, e⟩ := List.mem_iff_getElem.mp hc
  have h1 := rise_ix ms i hi hr
  have h2 : below ms c = below row c := by
    rw [below_perm pm]
    unfold below
    rw [List.filter_append, List.length_append]
    simp
  have h3 : i = below row c := by
    rw [← h2, ← e]
    unfold below
    exact h1.symm
  subst h3
  refine ⟨hi, e, ?_⟩
  have h4 := erase_perm ms _ hi
  rw [e] at h4
  have h5 : (c :: ms.eraseIdx (below row c)).Perm (c :: row) := h4.trans (pm.trans (List.perm_append_comm))
  exact h5.cons_inv
theorem tells {n : Nat} {row ms : List Int} {c : Int} {m : Nat} (hn : 0 < n) (hl : row.length + 1 = n) (pm : ms.Perm (row ++ [c])) (hr : ms.Pairwise (· < ·)) (bd : ∀ x ∈ ms, 0 ≤ x ∧ x < (m : Int)) (hm : m + 1 ≤ fac n + n) :
    (held n ms = c ∧ lrow n ms = row) ↔ rank row c = told n row := by
  have hml : ms.length = n := by rw [pm.length_eq, List.length_append]; simpa using hl
  obtain ⟨hp, hc, he⟩ := hand_ix pm hr
  have nd := rise_nodup hr
  have hsum : ms.sum = row.sum + c := by rw [sum_perm pm]; simp
  have hbl := below_le row c
  have pc := place_cast hn ms
  have pl := place_lt hn ms
  have hmod : ∀ {a b : Int}, a % (n : Int) = b % (n : Int) ↔ (n : Int) ∣ a - b := fun {a b} => Int.emod_eq_emod_iff_emod_sub_eq_zero.trans Int.dvd_iff_emod_eq_zero.symm
  have bn : (below row c : Int) < n := by omega
  -- the place is c's place just where the rank is right to the size
  have key : place n ms = below row c ↔ rank row c % (n : Int) = (-row.sum) % (n : Int) := by
    have e1 : (below row c : Int) = (below row c : Int) % n := (Int.emod_eq_of_lt (by omega) bn).symm
    have h1 : place n ms = below row c ↔ ms.sum % (n : Int) = (below row c : Int) % n := by rw [← pc, ← e1]; omega
    rw [h1, hmod, hmod, hsum]
    have e2 : row.sum + c - (below row c : Int) = rank row c - -row.sum := by unfold rank; omega
    rw [e2]
  have hh := held_bounds hn hml hr bd
  have hL := lnum_lt hn hml hr bd hm
  have rn : row.length = n - 1 := by omega
  constructor
  · rintro ⟨h1, h2⟩
    have hpl : place n ms = below row c := by
      rw [held_get hn hml, ← hc] at h1
      have pl' : place n ms < ms.length := by rw [hml]; exact pl
      rcases Nat.lt_trichotomy (place n ms) (below row c) with q | q | q
      · exact absurd h1 (List.pairwise_iff_getElem.mp nd _ _ pl' hp q)
      · exact q
      · exact absurd h1.symm (List.pairwise_iff_getElem.mp nd _ _ hp pl' q)
    have hmod' := key.mp hpl
    have e3 : lnum n ms = num row := by
      rw [← h2]
      unfold lrow
      exact (num_at (n - 1) _ _ (hr.sublist (List.eraseIdx_sublist ..)) (by rw [List.length_eraseIdx_of_lt (by rw [hml]; exact pl), hml]) hL).symm
    have e4 := lnum_cast hn hml hr bd
    rw [e3, h1, hpl] at e4
    have e5 : rank row c / (n : Int) = num row := e4.symm
    have e6 := Int.mul_ediv_add_emod (rank row c) n
    unfold told
    rw [← hmod', ← e5]
    exact e6.symm
  · intro h
    have nn : (0 : Int) < n := by omega
    have h0 := Int.emod_nonneg (-row.sum) (b := (n : Int)) (by omega)
    have h0' := Int.emod_lt_of_pos (-row.sum) nn
    have m1 : rank row c % (n : Int) = (-row.sum) % (n : Int) := by
      rw [h]; unfold told
      rw [Int.mul_add_emod_self_left]
      exact Int.emod_eq_of_lt h0 h0'
    have d1 : rank row c / (n : Int) = num row := by
      rw [h]; unfold told
      rw [Int.add_comm, Int.add_mul_ediv_left _ _ (by omega), Int.ediv_eq_zero_of_lt h0 h0', Int.zero_add]
    have hpl := key.mpr m1
    have h1 : held n ms = c := by
      rw [held_get hn hml]
      simp only [hpl]
      exact hc
    refine ⟨h1, ?_⟩
    have e4 := lnum_cast hn hml hr bd
    rw [h1, hpl] at e4
    have e5 : rank row c / (n : Int) = ((lnum n ms : Nat) : Int) := e4.symm
    have e6 : lnum n ms = num row := by omega
    unfold lrow
    rw [hpl, e6, ← rn]
    exact at_num row _ he (hr.sublist (List.eraseIdx_sublist ..))
theorem told_bounds {n : Nat} {row : List Int} (hl : row.length + 1 = n) : 0 ≤ told n row ∧ told n row < fac n := by
  subst hl
  have h0 := Int.emod_nonneg (-row.sum) (b := ((row.length + 1 : Nat) : Int)) (by omega)
  have h1 := Int.emod_lt_of_pos (-row.sum) (b := ((row.length + 1 : Nat) : Int)) (by omega)
  have h2 := num_lt row
  have e : ((fac (row.length + 1) : Nat) : Int) = ((row.length + 1 : Nat) : Int) * (fac row.length : Nat) := by rw [← Int.natCast_mul]; rfl
  unfold told
  have h3 : ((row.length + 1 : Nat) : Int) * (num row : Nat) + ((row.length + 1 : Nat) : Int) ≤ ((row.length + 1 : Nat) : Int) * (fac row.length : Nat) := by
    have : ((row.length + 1 : Nat) : Int) * ((num row : Nat) + 1) ≤ ((row.length + 1 : Nat) : Int) * (fac row.length : Nat) := Int.mul_le_mul_of_nonneg_left (by omega) (by omega)
    rw [Int.mul_add, Int.mul_one] at this
    exact this
  have h4 : 0 ≤ ((row.length + 1 : Nat) : Int) * (num row : Nat) := Int.mul_nonneg (by omega) (by omega)
  rw [e]
  omega
end K2

namespace K2
/-! the hands of a pack in their order -/
/-- lo, lo + 1, .. below m -/
def from_ (lo m : Nat) : List Int := (List.range (m - lo)).map fun i => ((lo + i : Nat) : Int)
theorem from_len (lo m : Nat) : (from_ lo m).length = m - lo := by simp [from_]
theorem from_nil {lo m : Nat} (h : m ≤ lo) : from_ lo m = [] := by unfold from_; rw [Nat.sub_eq_zero_of_le h]; rfl
theorem from_cons {lo m : Nat} (h : lo < m) : from_ lo m = (lo : Int) :: from_ (lo + 1) m := by
  unfold from_
  obtain ⟨k, hk⟩ : ∃ k, m - lo = k + 1 := ⟨m - lo - 1, by omega⟩
  rw [hk, show m - (lo + 1) = k by omega, List.range_succ_eq_map, List.map_cons, List.map_map]
  congr 1
  apply List.map_congr_left
  intro i _
  show ((lo + (i + 1) : Nat) : Int) = ((lo + 1 + i : Nat) : Int)
  congr 1
  omega
theorem mem_from {lo m : Nat} {c : Int} : c ∈ from_ lo m ↔ (lo : Int) ≤ c ∧ c < m := by
  unfold from_
  rw [List.mem_map]
  constructor
  · rintro ⟨i, hi, rfl⟩
    have := List.mem_range.mp hi
    omega
  · rintro ⟨h1, h2⟩
    exact ⟨c.toNat - lo, List.mem_range.mpr (by omega), by omega⟩
/-- the rising lists of n numbers from lo on below m, in their order -/
def hs : Nat → Nat → Nat → List (List Int)
  | 0, _, _ => [[]]
  | n + 1, lo, m => (from_ lo m).flatMap fun c => (hs n (c.toNat + 1) m).map fun h => c :: h
theorem hs_nil {n lo m : Nat} (h : m ≤ lo) : hs (n + 1) lo m = [] := by
  show (from_ lo m).flatMap _ = []
  rw [from_nil h]
  rfl
theorem hs_step {n lo m : Nat} (h : lo < m) : hs (n + 1) lo m = ((hs n (lo + 1) m).map fun q => (lo : Int) :: q) ++ hs (n + 1) (lo + 1) m := by
  show (from_ lo m).flatMap _ = _ ++ (from_ (lo + 1) m).flatMap _
  rw [from_cons h, List.flatMap_cons]
  congr 1
/-- n of k -/
def binom : Nat → Nat → Nat
  | _, 0 => 1
  | 0, _ + 1 => 0
  | k + 1, n + 1 => binom k n + binom k (n + 1)
theorem hs_len : ∀ (k n lo m : Nat), m - lo = k → (hs n lo m).length = binom k n
  | k, 0, lo, m, _ => by cases k <;> rfl
  | 0, n + 1, lo, m, h => by rw [hs_nil (by omega)]; rfl
  | k + 1, n + 1, lo, m, h => by
    rw [hs_step (by omega), List.length_append, List.length_map, hs_len k n (lo + 1) m (by omega), hs_len k (n + 1) (lo + 1) m (by omega)]
    rfl
/-- they are just the rising lists -/
theorem mem_hs : ∀ (n lo m : Nat) (h : List Int), h ∈ hs n lo m ↔ h.length = n ∧ h.Pairwise (· < ·) ∧ ∀ x ∈ h, (lo : Int) ≤ x ∧ x < m
  | 0, lo, m, h => by
    show h ∈ [[]] ↔ _
    constructor
    · intro q
      have : h = [] := by simpa using q
      subst this
      simp
    · rintro ⟨q, _⟩
      rw [List.length_eq_zero_iff.mp q]
      simp
  | n + 1, lo, m, h => by
    show h ∈ (from_ lo m).flatMap _ ↔ _
    rw [List.mem_flatMap]
    constructor
    · rintro ⟨c, hc, q⟩
      obtain ⟨t, ht, rfl⟩ := List.mem_map.mp q
      obtain ⟨t1, t2, t3⟩ := (mem_hs n _ _ _).mp ht
      obtain ⟨c1, c2⟩ := mem_from.mp hc
      refine ⟨by rw [List.length_cons, t1], List.pairwise_cons.mpr ⟨fun x hx => ?_, t2⟩, fun x hx => ?_⟩
      · have := t3 x hx
        omega
      · rcases List.mem_cons.mp hx with e | hx
        · rw [e]; exact ⟨c1, c2⟩
        · have := t3 x hx
          omega
    · rintro ⟨q1, q2, q3⟩
      match h, q1 with
      | c :: t, q1 =>
        obtain ⟨p1, p2⟩ := List.pairwise_cons.mp q2
        have hc := q3 c List.mem_cons_self
        refine ⟨c, mem_from.mpr hc, List.mem_map.mpr ⟨t, (mem_hs n _ _ _).mpr ⟨by simpa using q1, p2, fun x hx => ?_⟩, rfl⟩⟩
        have h1 := p1 x hx
        have h2 := q3 x (List.mem_cons_of_mem _ hx)
        omega
/-- the lesser first -/
def lexL : List Int → List Int → Prop
  | a :: s, b :: t => a < b ∨ (a = b ∧ lexL s t)
  | _, _ => False
/-- a hand's number -/
def hix (n m : Nat) (h : List Int) : Nat := (hs n 0 m).idxOf h
/-! by growing beginnings -/
def topOf (p : List Int) : Nat := (p.getLastD (-1) + 1).toNat
def growH (m : Nat) : Nat → List (List Int) → List (List Int)
  | 0, F => F
  | t + 1, F => growH m t (F.flatMap fun p => (from_ (topOf p) m).map fun c => p ++ [c])
theorem growH_append (m : Nat) : ∀ (t : Nat) (F G : List (List Int)), growH m t (F ++ G) = growH m t F ++ growH m t G
  | 0, _, _ => rfl
  | t + 1, F, G => by
    show growH m t ((F ++ G).flatMap _) = _
    rw [List.flatMap_append, growH_append m t]
    rfl
theorem growH_nil (m : Nat) : ∀ t, growH m t [] = []
  | 0 => rfl
  | t + 1 => growH_nil m t
theorem growH_flat (m t : Nat) : ∀ F, growH m t F = F.flatMap fun p => growH m t [p]
  | [] => growH_nil m t
  | p :: F => by
    rw [List.flatMap_cons, ← growH_flat m t F, ← growH_append]
    rfl
theorem topOf_snoc (p : List Int) (c : Int) (h : 0 ≤ c) : topOf (p ++ [c]) = c.toNat + 1 := by
  unfold topOf
  rw [show (p ++ [c]).getLastD (-1) = c by simp [List.getLastD_eq_getLast?]]
  omega
theorem flat_congr {α β : Type} {f g : α → List β} : ∀ {l : List α}, (∀ x ∈ l, f x = g x) → l.flatMap f = l.flatMap g
  | [], _ => rfl
  | a :: l, h => by rw [List.flatMap_cons, List.flatMap_cons, h a List.mem_cons_self, flat_congr fun x hx => h x (List.mem_cons_of_mem _ hx)]
theorem growH_hs (m : Nat) : ∀ (t : Nat) (p : List Int), growH m t [p] = (hs t (topOf p) m).map fun q => p ++ q
  | 0, p => by simp [growH, hs]
  | t + 1, p => by
    show growH m t ([p].flatMap _) = ((from_ (topOf p) m).flatMap _).map _
    rw [growH_flat, List.flatMap_cons, List.flatMap_nil, List.append_nil, List.flatMap_map, List.map_flatMap]
    refine flat_congr fun c hc => ?_
    have h0 : 0 ≤ c := by have := (mem_from.mp hc).1; omega
    rw [growH_hs m t (p ++ [c]), topOf_snoc p c h0, List.map_map]
    apply List.map_congr_left
    intro q _
    simp
theorem growH_all (n m : Nat) : growH m n [[]] = hs n 0 m := by
  rw [growH_hs]
  have : topOf [] = 0 := rfl
  rw [this]
  simp
end K2
namespace K2
def ext (m : Nat) (p : List Int) : List (List Int) := (from_ (topOf p) m).map fun c => p ++ [c]
theorem growH_succ (m : Nat) : ∀ (k : Nat) (F : List (List Int)), growH m (k + 1) F = (growH m k F).flatMap (ext m)
  | 0, F => rfl
  | k + 1, F => by
    show growH m (k + 1) (F.flatMap _) = _
    rw [growH_succ m k]
    rfl
theorem hs_succ (n m : Nat) : hs (n + 1) 0 m = (hs n 0 m).flatMap (ext m) := by rw [← growH_all, growH_succ, growH_all]
theorem ext_len (m : Nat) (p : List Int) : (ext m p).length ≤ m := by unfold ext; rw [List.length_map, from_len]; omega
theorem flat_len {α β : Type} {f : α → List β} {b : Nat} : ∀ {l : List α}, (∀ x ∈ l, (f x).length ≤ b) → (l.flatMap f).length ≤ l.length * b
  | [], _ => by simp
  | a :: l, h => by
    have h1 := h a List.mem_cons_self
    have h2 := flat_len (l := l) fun x hx => h x (List.mem_cons_of_mem _ hx)
    rw [List.flatMap_cons, List.length_append, List.length_cons, Nat.succ_mul]
    omega
theorem hs_bound (m : Nat) : ∀ n, (hs n 0 m).length ≤ m ^ n
  | 0 => by simp [hs]
  | n + 1 => by
    rw [hs_succ]
    have h := flat_len (l := hs n 0 m) fun x _ => ext_len m x
    exact Nat.le_trans h (by rw [Nat.pow_succ]; exact Nat.mul_le_mul_right _ (hs_bound m n))
end K2

namespace K2
/-! the cards that a row leaves; a hand's number step by step; falling products -/
def rest_ (R : List Int) (m : Nat) : List Int := ((List.range m).filter fun i : Nat => !decide ((i : Int) ∈ R)).map fun i : Nat => (i : Int)
theorem rest_succ (R : List Int) (m : Nat) : rest_ R (m + 1) = rest_ R m ++ (if (m : Int) ∈ R then [] else [(m : Int)]) := by
  unfold rest_
  rw [List.range_succ, List.filter_append, List.map_append]
  congr 1
  by_cases h : (m : Int) ∈ R
  · rw [if_pos h, List.filter_cons_of_neg (by simp [h])]; rfl
  · rw [if_neg h, List.filter_cons_of_pos (by simp [h])]; rfl
theorem rank_zero {R : List Int} (h0 : ∀ x ∈ R, 0 ≤ x) : rank R 0 = 0 := by unfold rank; rw [below_none h0]; rfl
theorem rest_len {R : List Int} (nd : R.Nodup) (h0 : ∀ x ∈ R, 0 ≤ x) : ∀ m : Nat, ((rest_ R m).length : Int) = rank R m
  | 0 => by rw [show ((0 : Nat) : Int) = 0 from rfl, rank_zero h0]; rfl
  | m + 1 => by
    rw [rest_succ, List.length_append, Int.natCast_add, rest_len nd h0 m, show ((m + 1 : Nat) : Int) = (m : Int) + 1 by omega]
    by_cases h : (m : Int) ∈ R
    · rw [if_pos h]; unfold rank; rw [below_in nd h]; simp; omega
    · rw [if_neg h]; unfold rank; rw [below_notin h]; simp; omega
theorem rest_get {R : List Int} (nd : R.Nodup) (h0 : ∀ x ∈ R, 0 ≤ x) : ∀ (m c : Nat), c < m → (c : Int) ∉ R → (rest_ R m)[(rank R c).toNat]? = some (c : Int)
  | 0, c, hc, _ => by omega
  | m + 1, c, hc, hn => by
    rw [rest_succ]
    by_cases e : c = m
    · subst e
      have hl := rest_len nd h0 c
      rw [if_neg hn, List.getElem?_append_right (by omega), show (rank R c).toNat - (rest_ R c).length = 0 by omega]
      rfl
    · have ih := rest_get nd h0 m c (by omega) hn
      rw [List.getElem?_append_left (List.getElem?_eq_some_iff.mp ih).1]
      exact ih
theorem rest_at {R : List Int} (nd : R.Nodup) (h0 : ∀ x ∈ R, 0 ≤ x) {m k : Nat} (h : k < (rest_ R m).length) : ∃ c : Int, (rest_ R m)[k]? = some c ∧ 0 ≤ c ∧ c < m ∧ c ∉ R ∧ rank R c = k := by
  have hl := rest_len nd h0 m
  obtain ⟨c, h1, h2, h3⟩ := rank_at nd m (k : Int) (by rw [rank_zero h0]; omega) (by omega)
  refine ⟨c, ?_, by omega, by omega, h2, h3⟩
  have := rest_get nd h0 m c h1 h2
  rw [h3] at this
  simpa using this
/-! ### a hand's number -/
theorem idx_cons (c : Int) (t : List Int) : ∀ l : List (List Int), (l.map fun q => c :: q).idxOf (c :: t) = l.idxOf t
  | [] => rfl
  | b :: l => by
    rw [List.map_cons, List.idxOf_cons, List.idxOf_cons, idx_cons c t l]
    have : ((c :: b) == (c :: t)) = (b == t) := by simp
    rw [this]
theorem ix_skip {q lo m : Nat} {x : Int} {t : List Int} (h : lo < m) (hx : (lo : Int) < x) : (hs (q + 1) lo m).idxOf (x :: t) = (hs q (lo + 1) m).length + (hs (q + 1) (lo + 1) m).idxOf (x :: t) := by
  rw [hs_step h, List.idxOf_append]
  rw [if_neg (fun z => by
    obtain ⟨y, _, e⟩ := List.mem_map.mp z
    injection e with e _
    omega), List.length_map, Nat.add_comm]
theorem ix_here {q m c : Nat} {t : List Int} (h : c < m) (ht : t ∈ hs q (c + 1) m) : (hs (q + 1) c m).idxOf ((c : Int) :: t) = (hs q (c + 1) m).idxOf t := by
  rw [hs_step h, List.idxOf_append, if_pos (List.mem_map.mpr ⟨t, ht, rfl⟩), idx_cons]
/-- m (m - 1) .., k factors -/
def fall (m : Int) : Nat → Int
  | 0 => 1
  | k + 1 => fall m k * (m - k)
theorem fall_shift (j : Int) : ∀ n : Nat, fall (j + 1) (n + 1) = (j + 1) * fall j n
  | 0 => by show 1 * (j + 1 - ((0 : Nat) : Int)) = (j + 1) * 1; omega
  | n + 1 => by
    show fall (j + 1) (n + 1) * (j + 1 - ((n + 1 : Nat) : Int)) = (j + 1) * (fall j n * (j - (n : Int)))
    rw [fall_shift j n, Int.mul_assoc]
    congr 2
    omega
theorem fall_zero : ∀ n : Nat, fall 0 (n + 1) = 0
  | 0 => by decide
  | n + 1 => by show fall 0 (n + 1) * _ = 0; rw [fall_zero n, Int.zero_mul]
theorem fall_binom : ∀ (k n : Nat), fall (k : Int) n = (binom k n : Nat) * (fac n : Nat)
  | k, 0 => by cases k <;> rfl
  | 0, n + 1 => by rw [show ((0 : Nat) : Int) = 0 from rfl, fall_zero]; show (0 : Int) = ((0 : Nat) : Int) * _; rw [show ((0 : Nat) : Int) = 0 from rfl, Int.zero_mul]
  | k + 1, n + 1 => by
    rw [show ((k + 1 : Nat) : Int) = (k : Int) + 1 by omega, fall_shift]
    have h1 := fall_binom k n
    have h2 := fall_binom k (n + 1)
    have h3 : fall (k : Int) (n + 1) = fall (k : Int) n * ((k : Int) - n) := rfl
    have e1 : ((binom (k + 1) (n + 1) : Nat) : Int) = (binom k n : Nat) + (binom k (n + 1) : Nat) := by show ((binom k n + binom k (n + 1) : Nat) : Int) = _; omega
    have e2 : ((fac (n + 1) : Nat) : Int) = ((n : Int) + 1) * (fac n : Nat) := by show (((n + 1) * fac n : Nat) : Int) = _; rw [Int.natCast_mul]; congr 1
    have e3 : ((binom k n : Nat) : Int) * ((fac (n + 1) : Nat) : Int) = ((binom k n : Nat) * (fac n : Nat) : Int) * ((n : Int) + 1) := by rw [e2, Int.mul_comm ((n : Int) + 1), Int.mul_assoc]
    have r : ((binom (k + 1) (n + 1) : Nat) : Int) * (fac (n + 1) : Nat) = fall (k : Int) n * ((n : Int) + 1) + fall (k : Int) n * ((k : Int) - n) := by
      rw [e1, Int.add_mul, ← h2, h3, e3, ← h1]
    rw [r, ← Int.mul_add, Int.mul_comm]
    congr 1
    omega
theorem count_binom (n m : Nat) : fall (m : Int) n / (fac n : Nat) = (binom m n : Nat) := by
  have fp := fac_pos n
  rw [fall_binom, Int.mul_ediv_cancel _ (by omega)]
theorem count_hs (n m : Nat) : fall (m : Int) n / (fac n : Nat) = ((hs n 0 m).length : Nat) := by rw [count_binom, hs_len m n 0 m (by omega)]
theorem hs_len' {n lo m : Nat} : (hs n lo m).length = binom (m - lo) n := hs_len _ n lo m rfl
/-! ### unlike cards, counted -/
theorem filter_same {α : Type} (p : α → Bool) : ∀ {l : List α}, (l.filter p).length = l.length → l.filter p = l
  | [], _ => rfl
  | a :: l, h => by
    have hl := List.length_filter_le p l
    by_cases q : p a = true
    · rw [List.filter_cons_of_pos q] at h ⊢
      rw [filter_same p (by simpa using h)]
    · rw [List.filter_cons_of_neg q, List.length_cons] at h
      omega
end K2

set_option Elab.async false
set_option linter.all false
set_option maxRecDepth 100000
/-! defs as one may call them; readings step by step -/
namespace L2
open PySem PySem.Spec PyProof.Rows
/-- a def that one may call: it stands under its name and keeps its promise -/
structure Cal (P : Program) (w : World) (K : PySem.W.Frag) (mg : Str → Option Value) (base : Heap) (CX : CXT) (k : Nat) (x : Str) (ps : List Str) (sp : Sp) : Prop where
  ex : ∃ f fd, FnOk P w K mg base CX k f fd ps sp ∧ mg x = some (.ref f) ∧ PySem.W.keepIn K (.ref f) = true ∧ Binds K fd ps []
structure CalH (P : Program) (w : World) (K : PySem.W.Frag) (mg : Str → Option Value) (base : Heap) (k : Nat) (x : Str) (ps : List Str) (sp : Sp) : Prop where
  ex : ∃ f fd, FnOkH P w K mg base k f fd ps sp ∧ mg x = some (.ref f) ∧ PySem.W.keepIn K (.ref f) = true ∧ Binds K fd ps []
section
variable {P : Program} {w : World} {K : PySem.W.Frag} {mg : Str → Option Value} {base : Heap} {CX : CXT} {k : Nat} {x : Str} {ps : List Str} {sp : Sp} {st : Stmt} {f : Addr} {fd : FuncData}
theorem Cal.of (D : DefAt K mg x st f fd) (b : Binds K fd ps []) (ok : FnOk P w K mg base CX k f fd ps sp) : Cal P w K mg base CX k x ps sp := ⟨f, fd, ok, D.mg, D.fn.kp, b⟩
theorem CalH.of (D : DefAt K mg x st f fd) (b : Binds K fd ps []) (ok : FnOkH P w K mg base k f fd ps sp) : CalH P w K mg base k x ps sp := ⟨f, fd, ok, D.mg, D.fn.kp, b⟩
theorem Cal.imp {sp' : Sp} (c : Cal P w K mg base CX k x ps sp) (h : ∀ vs H Q E, sp' vs H Q E → sp vs H Q E) : Cal P w K mg base CX k x ps sp' := by
  obtain ⟨f, fd, ok, r⟩ := c.ex
  exact ⟨f, fd, ok.imp h, r⟩
end
section
variable {X : Cx} {CX : CXT} {k : Nat} {ps : List Str} {sp : Sp} {x : Str} {p pos : Pos} {e : Expr} {es : List Expr} {t : TA}
theorem pe_cal {E : XK} (c : Cal X.prog X.w X.K X.mg X.base CX k x ps sp) (hr : Room k X.A) (hg : Gl X x) (hx : Passes CX X E)
    (ha : PA X (e :: es) t) (hdb : (x == ("__debug__" : Str)) = false := by decide) (he : starEach (e :: es) X.env = (false, eval e X.env) :: starEach es X.env := by rfl) (hpl : (backTo pos (starEach es X.env)).any (·.1) = false := by rfl) :
    PE X (.Call (.Name x p) (e :: es) [] pos) (tCall sp [] E t) := by
  obtain ⟨f, fd, ok, m, kp, b⟩ := c.ex
  exact pe_call ok hr hg m kp b .nil hx ha hdb he hpl
theorem pe_calE {E : XS} (c : Cal X.prog X.w X.K X.mg X.base CX k x ps sp) (hr : Room k X.A) (hg : Gl X x) (hx : PassesE CX X E)
    (ha : PA X (e :: es) t) (hdb : (x == ("__debug__" : Str)) = false := by decide) (he : starEach (e :: es) X.env = (false, eval e X.env) :: starEach es X.env := by rfl) (hpl : (backTo pos (starEach es X.env)).any (·.1) = false := by rfl) :
    PE X (.Call (.Name x p) (e :: es) [] pos) (tCallE sp [] E t) := by
  obtain ⟨f, fd, ok, m, kp, b⟩ := c.ex
  exact pe_callE ok hr hg m kp b .nil hx ha hdb he hpl
theorem pe_calH (c : CalH X.prog X.w X.K X.mg X.base k x ps sp) (hr : RoomH k X.A) (hg : Gl X x)
    (ha : PA X (e :: es) t) (hdb : (x == ("__debug__" : Str)) = false := by decide) (he : starEach (e :: es) X.env = (false, eval e X.env) :: starEach es X.env := by rfl) (hpl : (backTo pos (starEach es X.env)).any (·.1) = false := by rfl) :
    PE X (.Call (.Name x p) (e :: es) [] pos) (tCall sp [] E0 t) := by
  obtain ⟨f, fd, ok, m, kp, b⟩ := c.ex
  exact pe_callH ok hr hg m kp b ha hdb he hpl
end
theorem pe_const {X : Cx} {x : Str} {i : Int} {pos : Pos} (hg : Gl X x) (h : ∃ t, X.mg x = some (.int i t)) (hd : (x == ("__debug__" : Str)) = false := by decide) : PE X (.Name x pos) (tC (.int i)) := by
  obtain ⟨t, h⟩ := h
  exact pe_glob hg h ⟨t, rfl⟩ hd
theorem same_new {H H' : Hp} {l : Addr} {o : HO} (h : Same H H') (n : H l = none) : Same H (upd H' l o) := fun b u e => by
  rw [upd_ne (ne_of_none e n)]
  exact h b u e
theorem Same.new {H H' : Hp} {l : Addr} {o : HO} (h : Same H H') (n : H' l = none) : Same H (upd H' l o) := same_new h (h.free n)
end L2

local macro_rules | `(tactic| walk_at "rd") => `(tactic| repeat (first | refine ⟨_, rfl, ?_⟩ | refine ⟨_, _, rfl, rfl, ?_⟩ | refine ⟨rfl, ?_⟩ | refine ⟨_, _, rfl, .inl (L2.SqL.of (by assumption)), ?_⟩ | refine ⟨_, _, rfl, .inl (by assumption), ?_⟩ | refine ⟨_, _, rfl, .inr (L2.SqT.of (by assumption)), ?_⟩ | refine ⟨(show (0 : Int) < _ by first | decide | omega), ?_⟩ | refine ⟨(show L2.CDiv _ _ from ⟨by first | decide | omega, by first | decide | omega⟩), ?_⟩ | refine ⟨(show L2.CMul _ _ from .inr ⟨by first | decide | omega, by first | decide | omega⟩), ?_⟩ | refine ⟨(show L2.CMul _ _ from .inl ⟨by first | decide | omega, by first | decide | omega⟩), ?_⟩ | refine ⟨(show L2.CPow _ _ from ⟨by decide, by decide, by decide⟩), ?_⟩))
set_option Elab.async false
set_option linter.all false
set_option maxRecDepth 100000
/-! sums, all, any; values read as deep data: ==, in, index -/
namespace L2
open PySem PySem.Spec PyProof.Rows
section
variable {X : Cx}
/-! ### sum of a list of ints -/
theorem call_sum (hc : X.calm = true) : CallR X (.builtin "sum") (fun xs H Q => ∃ (p : Addr) (ns : List Int), xs = [.ref p] ∧ SqL X.K H p (ns.map V.int) ∧ Q (.int ns.sum) H) := by
  intro pins s σ H xs us Q I r h
  obtain ⟨p, ns, rfl, hp, q⟩ := h
  obtain ⟨u, rfl, ru⟩ := vals1 r
  cases ru
  obtain ⟨its, r', pl, hl⟩ := I.list hp
  have hI := intsAre_of r'
  obtain ⟨xs, ex⟩ := hI.allInts.items
  have hlist : s.heap.IsList p (intItems xs) := by rw [← ex]; exact pl.isList
  refine sum_intListG (I.ok.hd hc) hlist fun h' tk t' hk => ?_
  have e : preSum (numAt xs) xs.size = ns.sum := by
    rw [preSum_eq, List.take_of_length_le (by simp)]
    have e2 : numsOf its = ns := hI.numsOf
    have e3 := nums_intItems xs
    rw [← ex] at e3
    rw [← e2, ← e3]
  rw [e]
  exact ⟨.int ns.sum, H, I.kept hk, ⟨t', rfl⟩, q⟩
/-! ### all, any of a list of bools -/
theorem bools_at {bs : List Bool} {us : List Value} (r : Vals (bs.map V.bl) us) {i : Nat} {v : Value} (e : us.toArray[i]? = some v) : v = .bool (bs.getD i false) := by
  have e' : us[i]? = some v := by simpa using e
  have hl := r.length
  have hi : i < us.length := (List.getElem?_eq_some_iff.mp e').1
  rw [List.length_map] at hl
  have hb : (bs.map V.bl)[i]? = some (V.bl (bs.getD i false)) := by
    rw [List.getElem?_map, List.getD_eq_getElem?_getD]
    have : i < bs.length := by omega
    rw [List.getElem?_eq_getElem this]
    rfl
  obtain ⟨u, h1, h2⟩ := r.get hb
  rw [e'] at h1
  cases h1
  exact h2
theorem range_all (bs : List Bool) : (List.range bs.length).all (fun i => bs.getD i false) = bs.all id := by
  rw [Bool.eq_iff_iff, List.all_eq_true, List.all_eq_true]
  constructor
  · intro h x hx
    obtain ⟨i, hi, rfl⟩ := List.mem_iff_getElem.mp hx
    have := h i (List.mem_range.mpr hi)
    rw [List.getD_eq_getElem?_getD, List.getElem?_eq_getElem hi] at this
    exact this
  · intro h i hi
    have hi' := List.mem_range.mp hi
    rw [List.getD_eq_getElem?_getD, List.getElem?_eq_getElem hi']
    exact h _ (List.getElem_mem hi')
theorem iter_any {prog : Program} {w : World} {A : Around} {E : Value → Shared → Prop} {s : Shared} {l : Addr} {items : Array Value} {Q : Value → Shared → Prop} (hl : s.heap.IsList l items)
    (h : ∀ s₂ : Shared, s₂ = { s with heap := s.heap.push { cls := .type "list_iterator", data := .fields #[.ref l, .int 0 0] } } → (s₂.heap.IsListIter s.heap.objs.size l 0 ∧ s₂.heap.IsList l items) → l ≠ s.heap.objs.size → Q (.ref s.heap.objs.size) s₂) :
    wpAny (model prog w) A (pyIter (.ref l)) Q E s := by
  have hlt : l < s.heap.objs.size := by obtain ⟨_, e, _⟩ := hl; exact Heap.lt_size e
  exact wpAny_pyIter_list hl (h _ rfl ⟨⟨_, Heap.get?_push_size _ rfl, rfl, rfl⟩, hl.push _⟩ (Nat.ne_of_lt hlt))
theorem call_all (hc : X.calm = true) : CallR X (.builtin "all") (fun xs H Q => ∃ (p : Addr) (bs : List Bool), xs = [.ref p] ∧ SqL X.K H p (bs.map V.bl) ∧ Q (.bl (bs.all id)) H) := by
  intro pins s σ H xs us Q I r h
  obtain ⟨p, bs, rfl, hp, q⟩ := h
  obtain ⟨u, rfl, ru⟩ := vals1 r
  cases ru
  obtain ⟨its, r', pl, hl⟩ := I.list hp
  have hsz : its.toArray.size = bs.length := by rw [List.size_toArray, ← r'.length, List.length_map]
  refine call_all_walk (iter_any pl.isList fun s₂ e st hne => ?_)
  subst e
  refine ⟨_, _, _, _, _, _, fun i => bs.getD i false, rfl, Walks.list (A := X.A.in1) (I.ok.hd hc) _ p hne its.toArray, st, ?_, fun h' tk hk => ?_⟩
  · intro i v s' Q' E' hP hQ
    rw [bools_at r' hP]
    exact wpAny_truthy_bool hQ
  · rw [hsz, range_all]
    exact ⟨.bl _, H, I.kept (old_kept hk), rfl, q⟩
end
/-! ### deep data -/
mutual
/-- the value reads as this data, by the abstract heap -/
inductive DV (K : PySem.W.Frag) (H : Hp) : V → PyData → Prop where
  | non : DV K H .non .none
  | bl (b : Bool) : DV K H (.bl b) (.bool b)
  | int (i : Int) : DV K H (.int i) (.int i)
  | str (x : Str) : DV K H (.str x) (.str x)
  | lst {a : Addr} {xs : List V} {ds : List PyData} (h : SqL K H a xs) (r : DVs K H xs ds) : DV K H (.ref a) (.list ds)
  | tup {a : Addr} {xs : List V} {ds : List PyData} (h : SqT K H a xs) (r : DVs K H xs ds) : DV K H (.ref a) (.tuple ds)
inductive DVs (K : PySem.W.Frag) (H : Hp) : List V → List PyData → Prop where
  | nil : DVs K H [] []
  | cons {x : V} {d : PyData} {xs : List V} {ds : List PyData} (h : DV K H x d) (r : DVs K H xs ds) : DVs K H (x :: xs) (d :: ds)
end
section
variable {X : Cx} {pins : List (Addr × Obj)} {σ : St} {H : Hp} {s : Shared}
mutual
theorem DV.reads (I : Inv X pins σ H s) : ∀ {v : V} {d : PyData}, DV X.K H v d → ∀ {u : Value}, RelV v u → ∃ as, Reads s.heap u d as
  | _, _, .non, _, r => by cases r; exact ⟨_, .none⟩
  | _, _, .bl b, _, r => by cases r; exact ⟨_, .bool b⟩
  | _, _, .int i, _, r => by obtain ⟨t, rfl⟩ := r; exact ⟨_, .int i t⟩
  | _, _, .str x, _, r => by obtain ⟨t, rfl⟩ := r; exact ⟨_, .str x t⟩
  | _, _, .lst h rs, _, r => by
    cases r
    obtain ⟨its, r', pl, _⟩ := I.list h
    obtain ⟨as, ra⟩ := DVs.reads I rs r'
    obtain ⟨o, ho, hc, n, hd⟩ := pl.isList
    exact ⟨_, .list ho hc hd ra⟩
  | _, _, .tup h rs, _, r => by
    cases r
    obtain ⟨its, r', pl, _⟩ := I.tuple h
    obtain ⟨as, ra⟩ := DVs.reads I rs r'
    obtain ⟨o, ho, hc, n, hd⟩ := pl
    exact ⟨_, .tuple ho hc hd ra⟩
theorem DVs.reads (I : Inv X pins σ H s) : ∀ {xs : List V} {ds : List PyData}, DVs X.K H xs ds → ∀ {us : List Value}, Vals xs us → ∃ as, ReadsAll s.heap us ds as
  | _, _, .nil, _, r => by cases r; exact ⟨_, .nil⟩
  | _, _, .cons h rs, _, .cons r r' => by
    obtain ⟨as, h1⟩ := DV.reads I h r
    obtain ⟨bs, h2⟩ := DVs.reads I rs r'
    exact ⟨_, .cons h1 h2⟩
end
theorem DVs.length {K : PySem.W.Frag} : ∀ {xs : List V} {ds : List PyData}, DVs K H xs ds → xs.length = ds.length
  | _, _, .nil => rfl
  | _, _, .cons _ r => by rw [List.length_cons, List.length_cons, r.length]
theorem DVs.ints {K : PySem.W.Frag} : ∀ ns : List Int, DVs K H (ns.map V.int) (ns.map PyData.int)
  | [] => .nil
  | n :: ns => .cons (.int n) (DVs.ints ns)
theorem DV.ints {K : PySem.W.Frag} {a : Addr} {ns : List Int} (h : SqL K H a (ns.map V.int)) : DV K H (.ref a) (.list (ns.map PyData.int)) := .lst h (.ints ns)
end
section
variable {X : Cx}
/-- == and != of deep values -/
def rEqD (K : PySem.W.Frag) (neg : Bool) : R2 := fun x y H Q => ∃ d e, DV K H x d ∧ DV K H y e ∧ SeqAt.shaped d = true ∧ SeqAt.shaped e = true ∧ Q (.bl (if neg then !PyData.eqv d e else PyData.eqv d e)) H
theorem op_eqN (hu : X.A.units + 64 < cLine) : OpR X (compareOp .Eq) (rEqD X.K false) := by
  intro pins s σ H x y v u Q I rx ry h
  obtain ⟨d, e, hd, he, sd, se, q⟩ := h
  obtain ⟨_, r1⟩ := hd.reads I rx
  obtain ⟨_, r2⟩ := he.reads I ry
  exact eq_dataH r1 r2 sd se hu ⟨.bl _, H, I, rfl, q⟩
theorem op_neN (hu : X.A.units + 64 < cLine) : OpR X (compareOp .NotEq) (rEqD X.K true) := by
  intro pins s σ H x y v u Q I rx ry h
  obtain ⟨d, e, hd, he, sd, se, q⟩ := h
  obtain ⟨_, r1⟩ := hd.reads I rx
  obtain ⟨_, r2⟩ := he.reads I ry
  exact ne_dataH r1 r2 sd se hu ⟨.bl _, H, I, rfl, q⟩
/-- the answer of an item, read off its value -/
noncomputable def eqDU (h : Heap) (d : PyData) (u : Value) : Bool := @decide (∃ e as, Reads h u e as ∧ e.canLay0 = true ∧ PyData.eqv e d = true) (Classical.propDecidable _)
/-- in, not in: a list of deep items -/
def rInD (K : PySem.W.Frag) (neg : Bool) : R2 := fun x y H Q => ∃ p xs d ds, y = .ref p ∧ SqL K H p xs ∧ DV K H x d ∧ DVs K H xs ds ∧ SeqAt.shaped d = true ∧ PyData.canLayAll0 ds = true ∧
  Q (.bl (if neg then !(ds.any fun e => PyData.eqv e d) else ds.any fun e => PyData.eqv e d)) H
end
end L2

set_option Elab.async false
set_option linter.all false
set_option maxRecDepth 100000
/-! comprehensions whose turns leave the heap as it is; slices of ints -/
namespace L2
open PySem PySem.Spec PyProof.Rows
section
variable {ixs : List Nat} {g : TG} {tt : TT} {te : TE}
theorem Same.upd {H H' : Hp} {l : Addr} {o : HO} (h : Same H H') (n : H l = none) : Same H (L2.upd H' l o) := same_new h n
theorem seq_new {K : PySem.W.Frag} {H : Hp} {a D : Addr} {o : HO} {xs : List V} (h : SqL K H a xs) (n : H D = none) : SqL K (upd H D o) a xs := (same_new (Same.refl H) n).seq h
/-- over a list: the items that pass, each by f -/
theorem comp_pure {K : PySem.W.Frag} {a D : Addr} {xs : List V} {n : Nat} {σ : St} {H1 : Hp} {Q : VK} (b : V → Bool) (f : V → V) (hl : SqL K H1 a xs) (hD : H1 D = none) (hz : xs.length < sizeLine)
    (hs : ∀ (i : Nat) (x : V) (acc : List V) (Qy : VK) (Qn : Hp → Prop), xs[i]? = some x → (b x = true → Qy (f x) (upd H1 D (.lst acc))) → (b x = false → Qn (upd H1 D (.lst acc))) →
      g x (st0 n ixs σ) (upd H1 D (.lst acc)) fun σ1 H3 => σ1.length = n + ixs.length ∧ σ1.drop n = (st0 n ixs σ).drop n ∧ tt σ1 H3 fun c H4 => if c = true then te σ1 H4 Qy else Qn H4)
    (hd : Q (.ref D) (upd H1 D (.lst ((xs.filter b).map f)))) : CompW (Itl K a) n ixs g tt te σ Q H1 D := by
  refine comp_list (xs := xs) (fun i acc H => H = upd H1 D (.lst acc) ∧ acc = ((xs.take i).filter b).map f) ⟨rfl, rfl⟩ ?_ ?_ ?_
  · rintro i acc H _ ⟨rfl, _⟩
    exact seq_new hl hD
  · rintro i x acc H hx ⟨rfl, rfl⟩ hD'
    have hi := (List.getElem?_eq_some_iff.mp hx).1
    have et : xs.take (i + 1) = xs.take i ++ [x] := by rw [List.take_add_one, hx]; rfl
    refine hs i x _ _ _ hx (fun hb => ?_) (fun hb => ?_)
    · refine ⟨upd_same, ?_, by rw [upd_upd], ?_⟩
      · rw [List.length_map]
        have h1 := List.length_filter_le b (xs.take i)
        have h2 := List.length_take_le' i xs
        omega
      · rw [et, List.filter_append, List.map_append]
        simp only [List.filter_cons, List.filter_nil, hb, if_true, List.map_cons, List.map_nil]
    · refine ⟨upd_same, rfl, ?_⟩
      rw [et, List.filter_append]
      simp only [List.filter_cons, List.filter_nil, hb, Bool.false_eq_true, if_false, List.append_nil]
  · rintro acc H ⟨rfl, rfl⟩ _
    rw [List.take_length]
    exact hd
/-- over a range -/
theorem comp_rng {lo : Int} {D : Addr} {m n : Nat} {σ : St} {H1 : Hp} {Q : VK} (Pv : Nat → List V → Hp → Prop) (h0 : Pv 0 [] (upd H1 D (.lst [])))
    (hs : ∀ i acc H, i < m → Pv i acc H → H D = some (.lst acc) → g (.int (lo + i)) (st0 n ixs σ) H fun σ1 H3 => σ1.length = n + ixs.length ∧ σ1.drop n = (st0 n ixs σ).drop n ∧ tt σ1 H3 fun b H4 =>
      if b = true then te σ1 H4 fun y H5 => H5 D = some (.lst acc) ∧ acc.length < sizeLine ∧ Pv (i + 1) (acc ++ [y]) (upd H5 D (.lst (acc ++ [y]))) else H4 D = some (.lst acc) ∧ Pv (i + 1) acc H4)
    (hd : ∀ acc H, Pv m acc H → H D = some (.lst acc) → Q (.ref D) H) :
    CompW (Itr lo m) n ixs g tt te σ Q H1 D := by
  refine ⟨fun i k acc H => k = m - i ∧ i ≤ m ∧ Pv i acc H, ⟨m, by simp, Nat.zero_le _, h0⟩, ?_⟩
  rintro i k acc H ⟨rfl, hi, p⟩ hD
  by_cases hlt : i < m
  · refine .inr ⟨hlt, Pv (i + 1), fun acc' H' p' => ⟨m - (i + 1), by omega, rfl, hlt, p'⟩, fun v H3 y => ?_⟩
    obtain ⟨e, y⟩ := y
    subst e y
    exact hs i acc _ hlt p hD
  · have e : i = m := by omega
    subst e
    exact .inl ⟨Nat.le_refl _, hd acc H p hD⟩
theorem comp_pureR {lo : Int} {D : Addr} {m n : Nat} {σ : St} {H1 : Hp} {Q : VK} (b : Nat → Bool) (f : Nat → V) (hD : H1 D = none) (hz : m < sizeLine)
    (hs : ∀ (i : Nat) (acc : List V) (Qy : VK) (Qn : Hp → Prop), i < m → (b i = true → Qy (f i) (upd H1 D (.lst acc))) → (b i = false → Qn (upd H1 D (.lst acc))) →
      g (.int (lo + i)) (st0 n ixs σ) (upd H1 D (.lst acc)) fun σ1 H3 => σ1.length = n + ixs.length ∧ σ1.drop n = (st0 n ixs σ).drop n ∧ tt σ1 H3 fun c H4 => if c = true then te σ1 H4 Qy else Qn H4)
    (hd : Q (.ref D) (upd H1 D (.lst (((List.range m).filter b).map f)))) : CompW (Itr lo m) n ixs g tt te σ Q H1 D := by
  refine comp_rng (fun i acc H => H = upd H1 D (.lst acc) ∧ acc = ((List.range i).filter b).map f) ⟨rfl, rfl⟩ ?_ ?_
  · rintro i acc H hi ⟨rfl, rfl⟩ hD'
    have et : List.range (i + 1) = List.range i ++ [i] := List.range_succ
    refine hs i _ _ _ hi (fun hb => ?_) (fun hb => ?_)
    · refine ⟨upd_same, ?_, by rw [upd_upd], ?_⟩
      · rw [List.length_map]
        have h1 := List.length_filter_le b (List.range i)
        rw [List.length_range] at h1
        omega
      · rw [et, List.filter_append, List.map_append]
        simp only [List.filter_cons, List.filter_nil, hb, if_true, List.map_cons, List.map_nil]
    · refine ⟨upd_same, rfl, ?_⟩
      rw [et, List.filter_append]
      simp only [List.filter_cons, List.filter_nil, hb, Bool.false_eq_true, if_false, List.append_nil]
  · rintro acc H ⟨rfl, rfl⟩ _
    exact hd
end
/-! rules that name the fragment, for use within comprehensions -/
section
variable {X : Cx} {K : PySem.W.Frag}
theorem op_notInK (h : X.K = K) : OpR X (compareOp .NotIn) (rIn K true) := by cases h; exact op_notIn_seq
theorem op_neLK (h : X.K = K) (hu : X.A.units + 64 < cLine) : OpR X (compareOp .NotEq) (rNeL K) := by cases h; exact op_neL hu
theorem op_eqNK (h : X.K = K) (hu : X.A.units + 64 < cLine) : OpR X (compareOp .Eq) (rEqD K false) := by cases h; exact op_eqN hu
theorem op_neNK (h : X.K = K) (hu : X.A.units + 64 < cLine) : OpR X (compareOp .NotEq) (rEqD K true) := by cases h; exact op_neN hu
def rLenK (K : PySem.W.Frag) : List V → Hp → VK → Prop := fun xs H Q => ∃ p ys, xs = [.ref p] ∧ (SqL K H p ys ∨ SqT K H p ys) ∧ Q (.int ys.length) H
def rListK (K : PySem.W.Frag) : List V → Hp → VK → Prop := fun xs H Q => ∃ p ys, xs = [.ref p] ∧ (SqL K H p ys ∨ SqT K H p ys) ∧ ∀ l, H l = none → Q (.ref l) (upd H l (.lst ys))
def rTupK (K : PySem.W.Frag) : List V → Hp → VK → Prop := fun xs H Q => ∃ p ys, xs = [.ref p] ∧ ((SqL K H p ys ∧ ∀ l, H l = none → Q (.ref l) (upd H l (.tup ys))) ∨ (SqT K H p ys ∧ Q (.ref p) H))
end
/-- items of a list of ints -/
theorem int_get {ns : List Int} {i : Nat} {x : V} (h : (ns.map V.int)[i]? = some x) : ∃ hi : i < ns.length, x = .int ns[i] := by
  have hi : i < ns.length := by
    have := (List.getElem?_eq_some_iff.mp h).1
    rwa [List.length_map] at this
  rw [List.getElem?_map, List.getElem?_eq_getElem hi] at h
  exact ⟨hi, (Option.some.inj h).symm⟩
theorem int_atI {ns : List Int} {i : Nat} (h : i < ns.length) : atI (ns.map V.int) (i : Int) = some (.int ns[i]) :=
  atI_nat (by rw [List.getElem?_map, List.getElem?_eq_getElem h]; rfl)
/-- a test of ints on items -/
def onI (p : Int → Bool) : V → Bool
  | .int i => p i
  | _ => false
theorem filter_onI (p : Int → Bool) : ∀ ns : List Int, (ns.map V.int).filter (onI p) = (ns.filter p).map V.int
  | [] => rfl
  | n :: ns => by
    rw [List.map_cons, List.filter_cons, List.filter_cons, filter_onI p ns]
    show (if p n = true then _ else _) = _
    split <;> rfl
theorem cut_from (ns : List Int) {i : Nat} (h : i ≤ ns.length) : cutV (ns.map V.int) (some (i : Int)) none = (ns.drop i).map V.int := by
  have e1 : HT.sIx (ns.map V.int).length 0 (some (i : Int)) = i := by
    unfold HT.sIx
    simp only [List.length_map]
    split <;> omega
  have e2 : HT.sIx (ns.map V.int).length (ns.map V.int).length none = (ns.map V.int).length := rfl
  unfold cutV
  rw [e1, e2, ← List.map_drop, List.take_of_length_le (by simp)]
theorem cut_to (ns : List Int) {i : Nat} (h : i ≤ ns.length) : cutV (ns.map V.int) none (some (i : Int)) = (ns.take i).map V.int := by
  have e1 : HT.sIx (ns.map V.int).length (ns.map V.int).length (some (i : Int)) = i := by
    unfold HT.sIx
    simp only [List.length_map]
    split <;> omega
  have e2 : HT.sIx (ns.map V.int).length 0 none = 0 := rfl
  unfold cutV
  rw [e1, e2, List.drop_zero, Nat.sub_zero, ← List.map_take]
end L2

set_option Elab.async false
set_option linter.all false
set_option maxRecDepth 100000
/-! xs[::-1] -/
namespace L2
open PySem PySem.Spec PyProof.Rows
def tRev (K : PySem.W.Frag) (te : TE) : TE := fun σ H Q => te σ H fun x H1 => ∃ a xs, x = .ref a ∧ SqL K H1 a xs ∧ ∀ p, H1 p = none → Q (.ref p) (upd H1 p (.lst xs.reverse))
end L2

set_option Elab.async false
set_option linter.all false
set_option maxRecDepth 100000
/-! set(list of ints) and its length; insert -/
namespace L2
open PySem PySem.Spec PyProof.Rows
/-- how many unlike ones there are -/
def uniq (ns : List Int) : Nat := (firstMet (fun i => ns.getD i 0) ns.length).length
theorem firstMet_mem (val : Nat → Int) (i : Nat) (k : Int) : k ∈ firstMet val i ↔ k ∈ (List.range i).map val := by
  have h := firstMet_any val i k
  constructor
  · intro hk
    have : (firstMet val i).any (· == k) = true := List.any_eq_true.mpr ⟨k, hk, by simp⟩
    rw [h] at this
    obtain ⟨x, hx, e⟩ := List.any_eq_true.mp this
    have : x = k := by simpa using e
    exact this ▸ hx
  · intro hk
    have : ((List.range i).map val).any (· == k) = true := List.any_eq_true.mpr ⟨k, hk, by simp⟩
    rw [← h] at this
    obtain ⟨x, hx, e⟩ := List.any_eq_true.mp this
    have : x = k := by simpa using e
    exact this ▸ hx
theorem firstMet_full (val : Nat → Int) : ∀ i, (firstMet val i).length = i ↔ ((List.range i).map val).Nodup
  | 0 => by simp [firstMet_zero]
  | i + 1 => by
    have ih := firstMet_full val i
    have le := firstMet_length_le val i
    rw [firstMet_succ, List.range_succ, List.map_append, List.nodup_append]
    have hm := firstMet_mem val i (val i)
    unfold step_dedup
    by_cases hc : val i ∈ (List.range i).map val
    · have hc' := hm.mpr hc
      rw [if_pos (by simpa using hc')]
      constructor
      · intro z; omega
      · rintro ⟨_, _, h3⟩
        exact absurd rfl (h3 (val i) hc (val i) (by simp))
    · have hc' : val i ∉ firstMet val i := fun z => hc (hm.mp z)
      rw [if_neg (by simpa using hc')]
      rw [List.length_append]
      constructor
      · intro z
        have : (firstMet val i).length = i := by simpa using z
        refine ⟨ih.mp this, by simp, fun a ha b hb e => ?_⟩
        have : b = val i := by simpa using hb
        exact hc (this ▸ e ▸ ha)
      · rintro ⟨h1, _, _⟩
        have := ih.mpr h1
        simp [this]
theorem range_getD (ns : List Int) : (List.range ns.length).map (fun i => ns.getD i 0) = ns := by
  apply List.ext_getElem?
  intro i
  rw [List.getElem?_map]
  by_cases h : i < ns.length
  · rw [List.getElem?_range h, List.getElem?_eq_getElem h]
    simp [List.getD_eq_getElem?_getD, List.getElem?_eq_getElem h]
  · rw [List.getElem?_eq_none (by simpa using h), List.getElem?_eq_none (by simpa using h)]
    rfl
theorem uniq_full (ns : List Int) : uniq ns = ns.length ↔ ns.Nodup := by
  unfold uniq
  rw [firstMet_full, range_getD]
theorem uniq_le (ns : List Int) : uniq ns ≤ ns.length := firstMet_length_le _ _
section
variable {X : Cx}
theorem call_set_of (hc : X.calm = true) : CallR X (.type "set") (fun xs H Q => ∃ (p : Addr) (ns : List Int), xs = [.ref p] ∧ SqL X.K H p (ns.map V.int) ∧ ns.length < 1000 ∧ ∀ (l : Addr) (S : Int → Bool), H l = none → Q (.ref l) (upd H l (.set S (uniq ns)))) := by
  intro pins s σ H xs us Q I r h
  obtain ⟨p, ns, rfl, hp, hz, q⟩ := h
  obtain ⟨u, rfl, ru⟩ := vals1 r
  cases ru
  obtain ⟨its, r', pl, hl⟩ := I.list hp
  have hI := intsAre_of r'
  have hlen : its.length = ns.length := hI.length
  refine PySem.call_set_list (items := its.toArray) (ns := ns) (I.ok.hd hc) pl.isList (by simpa using hI) (by rw [List.size_toArray, hlen]; unfold scanBound; omega) fun h' tk hS hk => ?_
  have esz : its.toArray.size = ns.length := by rw [List.size_toArray, hlen]
  rw [esz] at hS
  refine ⟨.ref _, _, I.laid (t' := tk) (o := .set (fun k' => (firstMet (fun i => ns.getD i 0) ns.length).any fun x => x == k') (uniq ns)) (fun b o e => hk b o (Heap.lt_size e) e) (Nat.le_refl _) ?_, rfl, q _ _ (I.hok.fresh (Nat.le_refl _))⟩
  exact hS
theorem call_len_set : CallR X (.builtin "len") (fun xs H Q => ∃ (p : Addr) (S : Int → Bool) (n : Nat), xs = [.ref p] ∧ H p = some (.set S n) ∧ n < 2 ^ 62 ∧ Q (.int n) H) := by
  intro pins s σ H xs us Q I r h
  obtain ⟨p, S, n, rfl, hp, hz, q⟩ := h
  obtain ⟨u, rfl, ru⟩ := vals1 r
  cases ru
  obtain ⟨o, es, ep, t, ho, hex, hd, _, _, hb, hf, hn⟩ : s.heap.SetOf (intKind X.prog X.w) p S n := I.hok p _ hp
  subst hn
  exact PySem.call_len_set ho hex hd hf (by omega) ⟨.int es.size, H, I.tok _, ⟨_, rfl⟩, q⟩
end
end L2
namespace L2
/-- what holds between two statements -/
theorem seq_cut {t u : TS} {D : Ends} {σ : St} {H : Hp} (C : St → Hp → Prop) (h1 : ∀ nx' : St → Hp → Prop, (∀ σ' H', C σ' H' → nx' σ' H') → t { D with nx := nx' } σ H) (h2 : ∀ σ' H', C σ' H' → u D σ' H') : tSeq t u D σ H := h1 (u D) h2
end L2

local macro_rules | `(tactic| walk_at "rdi") => `(tactic| repeat (first | refine ⟨_, rfl, ?_⟩ | refine ⟨_, _, rfl, rfl, ?_⟩ | refine ⟨rfl, ?_⟩ | refine ⟨_, _, rfl, .inl (L2.SqL.of (by assumption)), ?_⟩ | refine ⟨_, _, rfl, .inl (by assumption), ?_⟩ | refine ⟨_, _, rfl, .inr (L2.SqT.of (by assumption)), ?_⟩ | refine ⟨(show (0 : Int) < _ by first | decide | omega), ?_⟩ | refine ⟨(show L2.CDiv _ _ from ⟨by first | decide | omega, by first | decide | omega⟩), ?_⟩ | refine ⟨(show L2.CMul _ _ from .inr ⟨by first | decide | omega, by first | decide | omega⟩), ?_⟩ | refine ⟨(show L2.CMul _ _ from .inl ⟨by first | decide | omega, by first | decide | omega⟩), ?_⟩ | refine ⟨(show L2.CPow _ _ from ⟨by decide, by decide, by decide⟩), ?_⟩ | refine L2.iteF ?_ | refine L2.iteT ?_))
set_option Elab.async false
set_option linter.all false
set_option maxRecDepth 100000
/-! max(list of ints, default = ..) -/
namespace L2
open PySem PySem.Spec PyProof.Rows
/-- M is the greatest of the first k -/
def TopOf (num : Nat → Int) (k : Nat) (M : Int) : Prop := (∃ i, i < k ∧ num i = M) ∧ ∀ i, i < k → num i ≤ M
theorem TopOf.next {num : Nat → Int} {k : Nat} {M : Int} (h : TopOf num k M) : TopOf num (k + 1) (if num k > M then num k else M) := by
  obtain ⟨⟨i, hi, e⟩, h2⟩ := h
  by_cases q : num k > M
  · rw [if_pos q]
    exact ⟨⟨k, by omega, rfl⟩, fun i' hi' => by by_cases z : i' = k; subst z; exact Int.le_refl _; have := h2 i' (by omega); omega⟩
  · rw [if_neg q]
    exact ⟨⟨i, by omega, e⟩, fun i' hi' => by by_cases z : i' = k; subst z; omega; exact h2 i' (by omega)⟩
abbrev bestAt (vs : Array Value) (c : Nat) : Obj := { cls := .type "list", dict := none, data := .seq vs c, slots := #[] }
section
variable {prog : Program} {w : World} {A : Around} {R : Result → Shared → Prop} {it : Addr} {fp wr : List Addr} {n : Nat} {P : Nat → Value → Prop} {St : Nat → Heap → Prop} {num : Nat → Int} {b : Addr} {d : Value}
end
def maxOf (dflt : Int) : List Int → Int
  | [] => dflt
  | n :: ns => ns.foldl (fun a b => if b > a then b else a) n
section
variable {X : Cx} {x : Str} {p pos kpos pu p1 : Pos} {e : Expr} {te : TE} {j : Nat}
/-- max(l, default = -1), l a list of ints -/
def tMaxD (K : PySem.W.Frag) (te : TE) : TE := fun σ H Q => te σ H fun v H1 => ∃ (a : Addr) (ns : List Int), [v] = [.ref a] ∧ SqL K H1 a (ns.map V.int) ∧ Q (.int (maxOf (-1) ns)) H1
end
end L2

set_option Elab.async false
set_option linter.all false
set_option maxRecDepth 100000
/-! lists of lists of ints -/
namespace L2
open PySem PySem.Spec PyProof.Rows K2
abbrev LL (H : Hp) : List Addr → List (List Int) → Prop := Paired fun p ns => H p = some (.lst (ns.map V.int))
theorem LL.length {H : Hp} {ps : List Addr} {nss : List (List Int)} (h : LL H ps nss) : ps.length = nss.length := Paired.length h
theorem LL.same {H H' : Hp} {ps : List Addr} {nss : List (List Int)} (h : LL H ps nss) (s : Same H H') : LL H' ps nss := Paired.mapP h fun _ _ q => s _ _ q
theorem LL.append {H : Hp} : ∀ {ps qs : List Addr} {nss mss : List (List Int)}, LL H ps nss → LL H qs mss → LL H (ps ++ qs) (nss ++ mss)
  | _, _, _, _, .nil, s => s
  | _, _, _, _, .cons r t, s => .cons r (LL.append t s)
theorem LL.get {H : Hp} : ∀ {ps : List Addr} {nss : List (List Int)} {i : Nat} {p : Addr}, LL H ps nss → ps[i]? = some p → ∃ ns, nss[i]? = some ns ∧ H p = some (.lst (ns.map V.int))
  | _, _, _, _, .nil, e => by simp at e
  | _, _, 0, _, .cons r _, e => by simp at e; subst e; exact ⟨_, rfl, r⟩
  | _, _, i + 1, p, .cons _ t, e => by
    obtain ⟨u, h1, h2⟩ := LL.get (i := i) (p := p) t (by simpa using e)
    exact ⟨u, by simpa using h1, h2⟩
theorem LL.at {H : Hp} {ps : List Addr} {nss : List (List Int)} {i : Nat} {ns : List Int} (h : LL H ps nss) (e : nss[i]? = some ns) : ∃ p, ps[i]? = some p ∧ H p = some (.lst (ns.map V.int)) := by
  have hi : i < ps.length := by rw [h.length]; exact (List.getElem?_eq_some_iff.mp e).1
  obtain ⟨ms, e2, q⟩ := h.get (List.getElem?_eq_getElem hi)
  rw [e] at e2
  cases e2
  exact ⟨_, List.getElem?_eq_getElem hi, q⟩
theorem LL.off {H : Hp} {D : Addr} {o : HO} : ∀ {ps : List Addr} {nss : List (List Int)}, LL H ps nss → D ∉ ps → LL (upd H D o) ps nss
  | _, _, .nil, _ => .nil
  | a :: _, _, .cons r t, h => .cons (by
      have ne : a ≠ D := fun e => h (by rw [e]; exact List.mem_cons_self)
      show upd H D o a = _
      rw [upd_ne ne]
      exact r) (LL.off t fun z => h (List.mem_cons_of_mem _ z))
theorem DVs.rows {K : PySem.W.Frag} {H : Hp} : ∀ {ps : List Addr} {nss : List (List Int)}, LL H ps nss → DVs K H (ps.map V.ref) (nss.map fun ns => .list (ns.map PyData.int))
  | _, _, .nil => .nil
  | _, _, .cons r t => .cons (.ints (SqL.of r)) (DVs.rows t)
end L2

set_option Elab.async false
set_option linter.all false
set_option maxRecDepth 100000
namespace L2
open PySem PySem.Spec PyProof.Rows K2
/-- min of three ints -/
def min3 (a b c : Int) : Int := if b < a then (if c < b then c else b) else (if c < a then c else a)
end L2

set_option Elab.async false
set_option linter.all false
set_option maxRecDepth 100000
/-! < of two lists of ints of one length -/
namespace L2
open PySem PySem.Spec PyProof.Rows K2
section
open PySem.SeqAt PySem.MeetsSeq PySem.MeetsSeq2 PySem.MeetsSeq3
abbrev lstObj (vs : Array Value) (c : Nat) (dd : Option Addr) (sl : Array (Option Value)) : Obj := { cls := .type "list", dict := dd, data := .seq vs c, slots := sl }
end
def rLtL (K : PySem.W.Frag) : R2 := fun x y H Q => ∃ (a b : Addr) (ns ms : List Int), x = .ref a ∧ y = .ref b ∧ SqL K H a (ns.map V.int) ∧ SqL K H b (ms.map V.int) ∧ ns.length = ms.length ∧ Q (.bl (HT.lexLt ns ms)) H
end L2

set_option Elab.async false
set_option linter.all false
set_option maxRecDepth 100000
/-! f-strings that show a list of ints, or a text by its repr -/
namespace L2
open PySem PySem.Spec PyProof.Rows K2
theorem textFrom_le : ∀ (ts : List Str) (k : Nat) (acc : Str) (B : Nat), (∀ t ∈ ts, t.length ≤ B) → (textFrom k acc ts).length ≤ acc.length + ts.length * (B + 2)
  | [], k, acc, B, _ => by show acc.length ≤ acc.length + 0 * _; omega
  | t :: r, k, acc, B, h => by
    have ih := textFrom_le r (k + 1) (acc ++ (if k > 0 then ", " else "" : String) ++ t) B (fun u hu => h u (List.mem_cons_of_mem _ hu))
    have e : (acc ++ (if k > 0 then ", " else "" : String) ++ t).length = acc.length + (if k > 0 then 2 else 0) + t.length := by
      rw [strLen_append, strLen_append]
      split <;> rfl
    have ht := h t List.mem_cons_self
    have hk : (if k > 0 then 2 else 0 : Nat) ≤ 2 := by split <;> decide
    rw [e] at ih
    show (textFrom (k + 1) _ r).length ≤ _
    rw [List.length_cons, Nat.succ_mul]
    omega
theorem reads_ints {h : Heap} : ∀ {ns : List Int} {us : List Value}, Vals (ns.map V.int) us → ReadsAll h us (ns.map PyData.int) []
  | [], _, r => by cases r; exact .nil
  | n :: ns, _, r => by
    cases r with
    | cons a b =>
      obtain ⟨t, rfl⟩ := a
      exact .cons (.int n t) (reads_ints b)
theorem show_ints : ∀ {ns : List Int}, (∀ x ∈ ns, x.natAbs.log2 < 1920) → PyData.showableAll (ns.map PyData.int) = true
  | [], _ => rfl
  | n :: ns, h => by
    show (decide (n.natAbs.log2 < 1920) && PyData.showableAll (ns.map PyData.int)) = true
    rw [show_ints fun x hx => h x (List.mem_cons_of_mem _ hx), decide_eq_true (h n List.mem_cons_self)]
    rfl
theorem flat_ints_dict : ∀ {ns : List Int}, PyData.hasDictAll (ns.map PyData.int) = false
  | [] => rfl
  | n :: ns => by
    show (PyData.hasDict (.int n) || PyData.hasDictAll (ns.map PyData.int)) = false
    rw [flat_ints_dict]
    rfl
theorem depth_ints : ∀ {ns : List Int}, PyData.depthAll (ns.map PyData.int) = 0
  | [] => rfl
  | n :: ns => by
    show max (PyData.depth (.int n)) (PyData.depthAll (ns.map PyData.int)) = 0
    rw [depth_ints]
    rfl
theorem shown_ints_mem : ∀ {ns : List Int} {t : Str}, t ∈ PyData.shownAll (ns.map PyData.int) → ∃ n ∈ ns, t = Str.ofString (toString n)
  | [], _, h => nomatch h
  | n :: ns, t, h => by
    rcases List.mem_cons.mp (show t ∈ (Str.ofString (toString n) : Str) :: PyData.shownAll (ns.map PyData.int) from h) with e | e
    · exact ⟨n, List.mem_cons_self, e⟩
    · obtain ⟨m, hm, q⟩ := shown_ints_mem e
      exact ⟨m, List.mem_cons_of_mem _ hm, q⟩
theorem shown_ints_len : ∀ {ns : List Int}, (PyData.shownAll (ns.map PyData.int)).length = ns.length
  | [] => rfl
  | n :: ns => congrArg (· + 1) (shown_ints_len (ns := ns))
theorem shown_list_le {ns : List Int} (hl : ns.length ≤ 200) (hb : ∀ x ∈ ns, x.natAbs.log2 < 1920) : (PyData.shown (.list (ns.map PyData.int))).length ≤ 400000 := by
  have h := textFrom_le (PyData.shownAll (ns.map PyData.int)) 0 "[" 1921 fun t ht => by
    obtain ⟨n, hn, rfl⟩ := shown_ints_mem ht
    exact PyProof.Rows.int_text_len_1921 (hb n hn)
  rw [shown_ints_len] at h
  have e : (PyData.shown (.list (ns.map PyData.int))).length = (textFrom 0 "[" (PyData.shownAll (ns.map PyData.int))).length + 1 := by
    show ((textFrom 0 "[" (PyData.shownAll (ns.map PyData.int))) ++ ("]" : Str)).length = _
    rw [strLen_append]
    rfl
  have e1 : ("[" : Str).length = 1 := rfl
  rw [e]
  have : ns.length * (1921 + 2) ≤ 200 * 1923 := Nat.mul_le_mul_right _ hl
  omega
/-- {e}, a list of ints -/
def jLst (te : TE) (t : TJ) : TJ := fun n σ H Q => te σ H fun v H1 => ∃ (a : Addr) (ns : List Int), v = .ref a ∧ H1 a = some (.lst (ns.map V.int)) ∧ ns.length ≤ 200 ∧ (∀ x ∈ ns, x.natAbs.log2 < 1920) ∧ n + 400000 ≤ sizeLine ∧ t (n + 400000) σ H1 Q
/-- {e!r}, a text -/
def jRep (te : TE) (t : TJ) : TJ := fun n σ H Q => te σ H fun v H1 => ∃ x : Str, v = .str x ∧ x.length ≤ 1000 ∧ (∀ c ∈ x.cps.toList, c < 16 ^ 8) ∧ n + 10002 ≤ sizeLine ∧ t (n + 10002) σ H1 Q
section
variable {X : Cx} {es : List Expr} {t : TJ}
theorem pj_lst {e : Expr} {te : TE} {pos : Pos} {k : Nat} (hr : Room k X.A) (he : PE X e te) (h : PJ X es t) : PJ X (.FormattedValue e (-1) none pos :: es) (jLst te t) := by
  intro acc n pins s σ H Q hn I hq
  refine wpAny_FormattedValue_plain (thn (he pins s σ H _ I hq) fun v s1 ⟨y, H1, I1, r1, a, ns, e1, ha, hl, hb, hz, q1⟩ => ?_)
  subst e1
  cases r1
  obtain ⟨its, r, ⟨o, m, ho, hc, _, hd⟩, _⟩ := I1.list (SqL.of ha)
  have rd : Reads s1.heap (.ref a) (.list (ns.map PyData.int)) (a :: []) := .list ho hc hd (reads_ints (by simpa using r))
  have sl := shown_list_le hl hb
  have hu := hr.units
  refine formatField_of_reads rd (show_ints hb) (fun z => ?_) hr.gd ?_ (fun _ _ e => e) (fun h' u tk kp => ?_) (by rw [sizeLine_eq]; omega)
  · rw [show PyData.hasDict (.list (ns.map PyData.int)) = PyData.hasDictAll (ns.map PyData.int) from rfl, flat_ints_dict] at z
    cases z
  · rw [show PyData.depth (.list (ns.map PyData.int)) = PyData.depthAll (ns.map PyData.int) + 1 from rfl, depth_ints]
    omega
  · have hl2 : (acc ++ PyData.shown (.list (ns.map PyData.int))).length ≤ n + 400000 := by rw [strLen_append]; omega
    exact ⟨_, _, rfl, Nat.le_trans hl2 hz, h _ _ pins _ σ H1 Q hl2 (I1.kept kp) q1⟩
end
end L2

set_option Elab.async false
set_option linter.all false
set_option maxRecDepth 100000
set_option maxHeartbeats 4000000
namespace Q01
open PySem L2 K2
def top (i : Nat) : Stmt := PySem.Challenge.pw_fourtell_k01_packs.main.body.getD i (.Pass ⟨0, 0, 0, 0⟩)
structure Blt (mg : Str → Option Value) : Prop where
  len : mg "len" = none
  isinstance : mg "isinstance" = none
  int : mg "int" = none
  bool : mg "bool" = none
  range : mg "range" = none
  set : mg "set" = none
  sorted : mg "sorted" = none
  enumerate : mg "enumerate" = none
  sum : mg "sum" = none
  valueError : mg "ValueError" = none
  tuple : mg "tuple" = none
  all : mg "all" = none
  list : mg "list" = none
abbrev bmV : List Value := [.type "ValueError", .type "Exception", .type "BaseException", .type "object"]
structure Cl (K : PySem.W.Frag) (mg : Str → Option Value) (c_TellError c_NoPack c_NoHand c_NoRow c_NoCard c_NoNumber c_NoPlan c_NoNote : Addr) : Prop where
  TellError : mg "TellError" = some (.ref c_TellError)
  e_TellError : PySem.W.excIn K c_TellError bmV "ValueError.__new__" = true
  NoPack : mg "NoPack" = some (.ref c_NoPack)
  e_NoPack : PySem.W.excIn K c_NoPack bmV "ValueError.__new__" = true
  NoHand : mg "NoHand" = some (.ref c_NoHand)
  e_NoHand : PySem.W.excIn K c_NoHand bmV "ValueError.__new__" = true
  NoRow : mg "NoRow" = some (.ref c_NoRow)
  e_NoRow : PySem.W.excIn K c_NoRow bmV "ValueError.__new__" = true
  NoCard : mg "NoCard" = some (.ref c_NoCard)
  e_NoCard : PySem.W.excIn K c_NoCard bmV "ValueError.__new__" = true
  NoNumber : mg "NoNumber" = some (.ref c_NoNumber)
  e_NoNumber : PySem.W.excIn K c_NoNumber bmV "ValueError.__new__" = true
  NoPlan : mg "NoPlan" = some (.ref c_NoPlan)
  e_NoPlan : PySem.W.excIn K c_NoPlan bmV "ValueError.__new__" = true
  NoNote : mg "NoNote" = some (.ref c_NoNote)
  e_NoNote : PySem.W.excIn K c_NoNote bmV "ValueError.__new__" = true
structure Cn (mg : Str → Option Value) : Prop where
  LEAST_SIZE : ∃ t, mg "LEAST_SIZE" = some (.int 2 t)
  GREATEST_SIZE : ∃ t, mg "GREATEST_SIZE" = some (.int 5 t)
  MOST_COUNTED : ∃ t, mg "MOST_COUNTED" = some (.int 500 t)
end Q01

set_option Elab.async false
set_option linter.all false
set_option maxRecDepth 100000
set_option maxHeartbeats 4000000
namespace Q01
open PySem L2 K2
section
variable {P : Program} {w : World} {K : PySem.W.Frag} {mg : Str → Option Value} {base : Heap} {c_TellError c_NoPack c_NoHand c_NoRow c_NoCard c_NoNumber c_NoPlan c_NoNote : Addr}
theorem int_at {ns : List Int} {i : Int} (h0 : 0 ≤ i) (h1 : i < ns.length) : ∃ c, atI (ns.map V.int) i = some (.int c) := by
  have hl : i.toNat < ns.length := by omega
  refine ⟨ns[i.toNat], ?_⟩
  have e : (ns.map V.int)[i.toNat]? = some (V.int ns[i.toNat]) := by rw [List.getElem?_map, List.getElem?_eq_getElem hl]; rfl
  have q := atI_nat e
  rw [Int.toNat_of_nonneg h0] at q
  exact q
def spCell (K : PySem.W.Frag) : Sp := fun vs H Q _ => ∃ (a : Addr) (ns : List Int) (i : Int), vs = [.ref a, .int i] ∧ SqL K H a (ns.map V.int) ∧ 0 ≤ i ∧ ∀ c : Int, Q (.int c) H
/-! ### _law_cell -/
theorem sc__law_cell : FnScope ["script", "k", "base"] ["script", "k"] (defScope (top 36)) := ⟨rfl, rfl, rfl, by decide +kernel, rfl, by decide +kernel, by decide +kernel⟩
theorem cal__law_cell (D : ∃ f fd, DefAt K mg "_law_cell" (top 36) f fd) (B : Blt mg) (S : Cl K mg c_TellError c_NoPack c_NoHand c_NoRow c_NoCard c_NoNumber c_NoPlan c_NoNote) (C : Cn mg) : Cal P w K mg base CX0 1 "_law_cell" ["script", "k"] (spCell K) := by
  obtain ⟨f, fd, D⟩ := D
  refine Cal.of D (D.fn.binds (ps := ["script", "k"]) fun _ _ _ _ _ _ us hl => match us, hl with | [_, _], _ => rfl) ?_
  refine D.fn.ok sc__law_cell (fun vs H Q E h => by (repeat (first | (have hz := h.1; subst hz; rfl) | (obtain ⟨_, h⟩ := h)))) (fun cdv A outer s H vs Q E hr h => ?_)
  obtain ⟨a, ns, i, rfl, hS, hi, k⟩ := h
  refine ⟨_, (pss_cons (ps_if (pt_cmpR op_lt (pv 1) (pe_callB call_len_seq (by rfl) B.len PySem.boot_len (pa_cons (pv 0) pa_nil)) (nomark _))
      (pss_one (ps_ret (pe_ix ix_list (pv 0) (pv 1) (fun _ _ => rfl))))
      pss_nil)
    (pss_cons (ps_set (i := 2) sc__law_cell.nd rfl (Or.inl rfl) pe_int)
    (pss_cons (ps_if (pt_cmpR op_gt (pe_callB call_len_seq (by rfl) B.len PySem.boot_len (pa_cons (pv 0) pa_nil)) pe_int (nomark _))
      (pss_one (ps_set (i := 2) sc__law_cell.nd rfl (Or.inl rfl) (pe_ix ix_list (pv 0) pe_int (fun _ _ => rfl))))
      pss_nil)
    (pss_one (ps_ret (pe_op op_mod (pe_op op_add (pe_op op_mul (pe_op op_mod (pv 2) pe_int) pe_int) (pe_op op_mul (pv 1) pe_int)) pe_int)))))), ?_⟩
  have fin : ∀ b : Int, tRet (tOp (rI (fun _ j => 0 < j) fun i j => .int (i % j)) (tOp (rI0 fun i j => .int (i + j)) (tOp (rI CMul fun i j => .int (i * j)) (tOp (rI (fun _ j => 0 < j) fun i j => .int (i % j)) (tVar 2) (tC (.int 65521))) (tC (.int 48271)))
      (tOp (rI CMul fun i j => .int (i * j)) (tVar 1) (tC (.int 30103)))) (tC (.int 65521))) { nx := fun _ H' => Q .non H', rt := Q } [some (.ref a), some (.int i), some (.int b)] H := fun b => by
    walk_at "rd"
    exact k _
  walk_at "rd"
  refine ite2 (fun h => ?_) (fun h => ?_)
  · rw [List.length_map] at h
    obtain ⟨c, hc⟩ := int_at hi (of_decide_eq_true h)
    walk_at "rd"
    exact ⟨a, _, i, _, rfl, rfl, hS, hc, k c⟩
  · walk_at "rd"
    refine ite2 (fun h => ?_) (fun h => ?_)
    · rw [List.length_map] at h
      obtain ⟨c, hc⟩ := int_at (i := 0) (by decide) (of_decide_eq_true h)
      walk_at "rd"
      exact ⟨a, _, 0, _, rfl, rfl, hS, hc, fin c⟩
    · exact fin 0
def spNext : Sp := fun vs H Q _ => ∃ i : Int, vs = [.int i] ∧ ∀ c : Int, 0 ≤ c → c < 2147483647 → Q (.int c) H
end
end Q01

set_option Elab.async false
set_option linter.all false
set_option maxRecDepth 100000
set_option maxHeartbeats 4000000
namespace Q01
open PySem L2 K2
section
variable {P : Program} {w : World} {K : PySem.W.Frag} {mg : Str → Option Value} {base : Heap} {c_TellError c_NoPack c_NoHand c_NoRow c_NoCard c_NoNumber c_NoPlan c_NoNote : Addr}
theorem bool_int : PySem.W.kitOne K (.type "int") (.type "bool") = some false := by
  unfold PySem.W.kitOne PySem.W.kitCls PySem.W.subIn
  rw [if_neg (by decide)]
  show (if PySem.W.kitMeta "bool" = true then (fastBuiltinMro "int").map (·.contains (.type "bool")) else none) = some false
  decide +kernel
theorem kit_same (t : Value) : PySem.W.kitOne K t t = some true := by
  unfold PySem.W.kitOne
  rw [if_pos (beq_self_eq_true t)]
def spWhole : Sp := fun vs H Q _ => ∃ i : Int, vs = [.int i] ∧ Q (.bl true) H
/-! ### _law_whole -/
theorem sc__law_whole : FnScope ["found"] ["found"] (defScope (top 37)) := ⟨rfl, rfl, rfl, by decide +kernel, rfl, by decide +kernel, by decide +kernel⟩
theorem cal__law_whole (D : ∃ f fd, DefAt K mg "_law_whole" (top 37) f fd) (B : Blt mg) (S : Cl K mg c_TellError c_NoPack c_NoHand c_NoRow c_NoCard c_NoNumber c_NoPlan c_NoNote) (C : Cn mg) : Cal P w K mg base CX0 1 "_law_whole" ["found"] spWhole := by
  obtain ⟨f, fd, D⟩ := D
  refine Cal.of D (D.fn.binds (ps := ["found"]) fun _ _ _ _ _ _ us hl => match us, hl with | [_], _ => rfl) ?_
  refine D.fn.ok sc__law_whole (fun vs H Q E h => by (repeat (first | (have hz := h.1; subst hz; rfl) | (obtain ⟨_, h⟩ := h)))) (fun cdv A outer s H vs Q E hr h => ?_)
  obtain ⟨i, rfl, k⟩ := h
  refine ⟨_, (pss_one (ps_ret (pe_and (pe_callB call_isi (by rfl) B.isinstance (by decide +kernel) (pa_cons (pv 0) (pa_cons (pe_bltn (v := .ty "int") (by rfl) B.int (by decide +kernel) rfl) pa_nil))) (pe_one (pe_not (pe_callB call_isi (by rfl) B.isinstance (by decide +kernel) (pa_cons (pv 0) (pa_cons (pe_bltn (v := .ty "bool") (by rfl) B.bool (by decide +kernel) rfl) pa_nil)))))))), ?_⟩
  refine ⟨_, rfl, _, _, _, true, rfl, .int i, (by rintro u rfl; exact kit_same _), true, rfl, iteT ?_⟩
  exact ⟨_, rfl, _, _, _, false, rfl, .int i, (by rintro u rfl; exact bool_int), false, rfl, k⟩

end
end Q01

set_option Elab.async false
set_option linter.all false
set_option maxRecDepth 100000
set_option maxHeartbeats 4000000
namespace Q01
open PySem L2 K2
section
variable {P : Program} {w : World} {K : PySem.W.Frag} {mg : Str → Option Value} {base : Heap} {c_TellError c_NoPack c_NoHand c_NoRow c_NoCard c_NoNumber c_NoPlan c_NoNote : Addr}
def pr (i : Int) : Nat → Int
  | 0 => 1
  | n + 1 => pr i n * (i + n)
theorem pr_fac : ∀ n : Nat, pr 1 n = (fac n : Nat)
  | 0 => rfl
  | n + 1 => by
    show pr 1 n * (1 + n) = (((n + 1) * fac n : Nat) : Int)
    rw [pr_fac n, Int.natCast_mul, Int.mul_comm]
    congr 1
    omega
def spProduct : Sp := fun vs H Q _ => ∃ i j : Int, vs = [.int i, .int j] ∧ (-1000000 ≤ i ∧ i ≤ 1000000 ∧ -1000000 ≤ j ∧ j ≤ 1000000) ∧ Q (.int (pr i (j + 1 - i).toNat)) H
/-! ### _law_product -/
theorem sc__law_product : FnScope ["first", "last", "found", "number"] ["first", "last"] (defScope (top 38)) := ⟨rfl, rfl, rfl, by decide +kernel, rfl, by decide +kernel, by decide +kernel⟩
theorem cal__law_product (D : ∃ f fd, DefAt K mg "_law_product" (top 38) f fd) (B : Blt mg) (S : Cl K mg c_TellError c_NoPack c_NoHand c_NoRow c_NoCard c_NoNumber c_NoPlan c_NoNote) (C : Cn mg) : Cal P w K mg base CX0 1 "_law_product" ["first", "last"] spProduct := by
  obtain ⟨f, fd, D⟩ := D
  refine Cal.of D (D.fn.binds (ps := ["first", "last"]) fun _ _ _ _ _ _ us hl => match us, hl with | [_, _], _ => rfl) ?_
  refine D.fn.ok sc__law_product (fun vs H Q E h => by (repeat (first | (have hz := h.1; subst hz; rfl) | (obtain ⟨_, h⟩ := h)))) (fun cdv A outer s H vs Q E hr h => ?_)
  obtain ⟨i, j, rfl, ⟨h1, h2, h3, h4⟩, k⟩ := h
  refine ⟨_, (pss_cons (ps_set (i := 2) sc__law_product.nd rfl (Or.inl rfl) pe_int)
    (pss_cons (ps_for PassesOwn.never rfl (pi_range2 rfl B.range (pa_cons (pv 0) (pa_cons (pe_op op_add (pv 1) pe_int) pa_nil))) (pg_name (i := 3) sc__law_product.nd rfl (Or.inl rfl))
      (pss_one (ps_set (i := 2) sc__law_product.nd rfl (Or.inl rfl) (pe_op op_mul (pv 2) (pv 3)))))
    (pss_one (ps_ret (pv 2))))), ?_⟩
  walk_at "rd"
  refine ⟨i, j + 1, rfl, ⟨by omega, by omega, by omega, by omega⟩, for_range (fun n σ H2 => H2 = H ∧ ∃ v, σ = [some (.int i), some (.int j), some (.int (pr i n)), v]) ⟨rfl, none, rfl⟩ ?_ ?_⟩
  · rintro n σ H2 hn ⟨rfl, v, rfl⟩
    have hn' : n < (j + 1 - i).toNat := hn
    walk_at "rd"
    exact ⟨_, rfl⟩
  · rintro σ H2 ⟨rfl, v, rfl⟩
    walk_at "rd"
    exact k

end
end Q01

set_option Elab.async false
set_option linter.all false
set_option maxRecDepth 100000
set_option maxHeartbeats 4000000
namespace Q01
open PySem L2 K2
section
variable {P : Program} {w : World} {K : PySem.W.Frag} {mg : Str → Option Value} {base : Heap} {c_TellError c_NoPack c_NoHand c_NoRow c_NoCard c_NoNumber c_NoPlan c_NoNote : Addr}
def mostN (n : Nat) : Nat := fac n + n - 1
def spMost : Sp := fun vs H Q _ => ∃ n : Nat, vs = [.int n] ∧ 2 ≤ n ∧ n ≤ 5 ∧ ∀ H', Same H H' → Q (.int (mostN n : Nat)) H'
/-! ### _law_most -/
theorem sc__law_most : FnScope ["size"] ["size"] (defScope (top 39)) := ⟨rfl, rfl, rfl, by decide +kernel, rfl, by decide +kernel, by decide +kernel⟩
theorem cal__law_most (D : ∃ f fd, DefAt K mg "_law_most" (top 39) f fd) (B : Blt mg) (S : Cl K mg c_TellError c_NoPack c_NoHand c_NoRow c_NoCard c_NoNumber c_NoPlan c_NoNote) (C : Cn mg) : Cal P w K mg base CX0 1 "_law_most" ["size"] spMost := by
  obtain ⟨f, fd, D⟩ := D
  refine Cal.of D (D.fn.binds (ps := ["size"]) fun _ _ _ _ _ _ us hl => match us, hl with | [_], _ => rfl) ?_
  refine D.fn.ok sc__law_most (fun vs H Q E h => by (repeat (first | (have hz := h.1; subst hz; rfl) | (obtain ⟨_, h⟩ := h)))) (fun cdv A outer s H vs Q E hr h => ?_)
  obtain ⟨n, rfl, h2, h5, k⟩ := h
  refine ⟨_, (pss_one (ps_ret (pe_ix ix_list (pe_lst (pa_cons pe_int (pa_cons pe_int (pa_cons pe_int (pa_cons pe_int pa_nil))))) (pe_op op_sub (pv 0) pe_int) (fun _ _ => rfl)))), ?_⟩
  refine ⟨by show 4 ≤ sizeLine; rw [sizeLine_eq]; decide, fun p hp => ?_⟩
  walk_at "rd"
  have hk := k _ ((Same.refl H).new (o := .lst [.int 3, .int 8, .int 27, .int 124]) hp)
  refine ⟨p, _, _, .int (mostN n : Nat), rfl, rfl, SqL.of upd_same, ?_, hk⟩
  match n, h2, h5 with
  | 2, _, _ => rfl
  | 3, _, _ => rfl
  | 4, _, _ => rfl
  | 5, _, _ => rfl
def spPack (K : PySem.W.Frag) : Sp := fun vs H Q _ => ∃ (a : Addr) (ns : List Int) (i : Int), vs = [.ref a, .int i] ∧ SqL K H a (ns.map V.int) ∧ 0 ≤ i ∧
  ∀ (n m : Nat) (t : Addr) (H' : Hp), 2 ≤ n → n ≤ 5 → n ≤ m → m ≤ mostN n → H t = none → Same H H' → H' t = some (.tup [.int n, .int m]) → Q (.ref t) H'
theorem most_le {n : Nat} (h2 : 2 ≤ n) (h5 : n ≤ 5) : n ≤ mostN n ∧ mostN n ≤ 124 := by
  match n, h2, h5 with
  | 2, _, _ => decide
  | 3, _, _ => decide
  | 4, _, _ => decide
  | 5, _, _ => decide
end
end Q01

set_option Elab.async false
set_option linter.all false
set_option maxRecDepth 100000
set_option maxHeartbeats 4000000
namespace Q01
open PySem L2 K2
section
variable {P : Program} {w : World} {K : PySem.W.Frag} {mg : Str → Option Value} {base : Heap} {c_TellError c_NoPack c_NoHand c_NoRow c_NoCard c_NoNumber c_NoPlan c_NoNote : Addr}
/-- a pack, a hand, a row, as the document has them -/
def PackOk (i j : Int) : Prop := 2 ≤ i ∧ i ≤ 5 ∧ i ≤ j ∧ j ≤ (mostN i.toNat : Nat)
def HandOk (i j : Int) (ns : List Int) : Prop := (ns.length : Int) = i ∧ ns.Pairwise (· < ·) ∧ ∀ x ∈ ns, 0 ≤ x ∧ x < j
def RowOk (i j : Int) (ns : List Int) : Prop := (ns.length : Int) + 1 = i ∧ ns.Nodup ∧ ∀ x ∈ ns, 0 ≤ x ∧ x < j
/-- numbers that a message may show -/
def Fig (i : Int) : Prop := i.natAbs.log2 < 1920
theorem fig_small {i : Int} (h : i.natAbs < 1000000) : Fig i := by
  unfold Fig
  by_cases z : i.natAbs = 0
  · rw [z]; decide
  · rw [Nat.log2_lt z]
    exact Nat.lt_of_lt_of_le h (Nat.le_trans (by decide : 1000000 ≤ 2 ^ 20) (Nat.pow_le_pow_right (by decide) (by decide)))

end
end Q01

local macro_rules | `(tactic| walk_at "fst") => `(tactic| repeat (first | refine ⟨(by rw [PySem.sizeLine_eq]; decide +kernel), ?_⟩ | refine ⟨_, rfl, ?_⟩ | refine ⟨(show Q01.Fig _ by first | assumption | exact Q01.fig_small (by decide)), ?_⟩))
set_option Elab.async false
set_option linter.all false
set_option maxRecDepth 100000
set_option maxHeartbeats 4000000
namespace Q01
open PySem L2 K2
section
variable {P : Program} {w : World} {K : PySem.W.Frag} {mg : Str → Option Value} {base : Heap} {c_TellError c_NoPack c_NoHand c_NoRow c_NoCard c_NoNumber c_NoPlan c_NoNote : Addr}
def spLaw (K : PySem.W.Frag) : Sp := fun vs H Q _ => ∃ (a : Addr) (ns : List Int), vs = [.ref a] ∧ SqL K H a (ns.map V.int) ∧ ns.length ≤ 63 ∧ ∀ H', Q (.bl true) H'
theorem lt_of_le_nodup {l : List Int} (h : l.Pairwise (· ≤ ·)) (n : l.Nodup) : l.Pairwise (· < ·) := by
  induction l with
  | nil => exact .nil
  | cons a l ih =>
    obtain ⟨h1, h2⟩ := List.pairwise_cons.mp h
    obtain ⟨n1, n2⟩ := List.nodup_cons.mp n
    refine List.pairwise_cons.mpr ⟨fun b hb => ?_, ih h2 n2⟩
    have := h1 b hb
    have : a ≠ b := fun e => n1 (e ▸ hb)
    omega
theorem inV_ints (c : Int) : ∀ ns : List Int, inV (.int c) (ns.map V.int) = decide (c ∈ ns)
  | [] => rfl
  | n :: ns => by
    show (eqV (.int n) (.int c) || inV (.int c) (ns.map V.int)) = _
    rw [inV_ints c ns]
    show ((n == c) || decide (c ∈ ns)) = _
    by_cases h : n = c
    · subst h; simp
    · have h' : ¬ c = n := fun e => h e.symm
      simp [h, h']
theorem flat_ints : ∀ ns : List Int, (ns.map V.int).all flatV = true
  | [] => rfl
  | _ :: ns => flat_ints ns

end
end Q01

set_option Elab.async false
set_option linter.all false
set_option maxRecDepth 100000
set_option maxHeartbeats 4000000
namespace Q01
open PySem L2 K2
section
variable {P : Program} {w : World} {K : PySem.W.Frag} {mg : Str → Option Value} {base : Heap} {c_TellError c_NoPack c_NoHand c_NoRow c_NoCard c_NoNumber c_NoPlan c_NoNote : Addr}
theorem fac6 {n : Nat} (h : n ≤ 6) : fac n ≤ 720 := by
  match n, h with
  | 0, _ => decide
  | 1, _ => decide
  | 2, _ => decide
  | 3, _ => decide
  | 4, _ => decide
  | 5, _ => decide
  | 6, _ => decide
  | n + 7, h => omega
theorem fig_wide {i : Int} (h : i.natAbs ≤ 10 ^ 30) : Fig i := by
  unfold Fig
  by_cases z : i.natAbs = 0
  · rw [z]; decide
  · rw [Nat.log2_lt z]
    exact Nat.lt_of_le_of_lt h (Nat.lt_of_lt_of_le (by decide : 10 ^ 30 < 2 ^ 100) (Nat.pow_le_pow_right (by decide) (by decide)))
theorem erase_map {α β : Type} (g : α → β) : ∀ (l : List α) (i : Nat), (l.map g).eraseIdx i = (l.eraseIdx i).map g
  | [], _ => rfl
  | _ :: _, 0 => rfl
  | a :: l, i + 1 => by rw [List.map_cons, List.eraseIdx_cons_succ, List.eraseIdx_cons_succ, List.map_cons, erase_map g l i]
def spCount : Sp := fun vs H Q _ => ∃ n : Nat, vs = [.int n] ∧ n ≤ 6 ∧ Q (.int (fac n : Nat)) H
/-! ### order_count -/
theorem sc_order_count : FnScope ["things", "count", "factor"] ["things"] (defScope (top 10)) := ⟨rfl, rfl, rfl, by decide +kernel, rfl, by decide +kernel, by decide +kernel⟩
theorem cal_order_count (D : ∃ f fd, DefAt K mg "order_count" (top 10) f fd) (B : Blt mg) (S : Cl K mg c_TellError c_NoPack c_NoHand c_NoRow c_NoCard c_NoNumber c_NoPlan c_NoNote) (C : Cn mg) : Cal P w K mg base CX0 1 "order_count" ["things"] spCount := by
  obtain ⟨f, fd, D⟩ := D
  refine Cal.of D (D.fn.binds (ps := ["things"]) fun _ _ _ _ _ _ us hl => match us, hl with | [_], _ => rfl) ?_
  refine D.fn.ok sc_order_count (fun vs H Q E h => by (repeat (first | (have hz := h.1; subst hz; rfl) | (obtain ⟨_, h⟩ := h)))) (fun cdv A outer s H vs Q E hr h => ?_)
  obtain ⟨n, rfl, hn, k⟩ := h
  refine ⟨_, (pss_cons (ps_set (i := 1) sc_order_count.nd rfl (Or.inl rfl) pe_int)
    (pss_cons (ps_for PassesOwn.never rfl (pi_range2 rfl B.range (pa_cons pe_int (pa_cons (pe_op op_add (pv 0) pe_int) pa_nil))) (pg_name (i := 2) sc_order_count.nd rfl (Or.inl rfl))
      (pss_one (ps_set (i := 1) sc_order_count.nd rfl (Or.inl rfl) (pe_op op_mul (pv 1) (pv 2)))))
    (pss_one (ps_ret (pv 1))))), ?_⟩
  walk_at "rd"
  refine ⟨2, (n : Int) + 1, rfl, ⟨by decide, by decide, by omega, by omega⟩,
    for_range (fun i σ H2 => H2 = H ∧ i + 1 ≤ 6 ∧ ∃ v, σ = [some (.int n), some (.int (fac (i + 1) : Nat)), v]) ⟨rfl, by decide, none, rfl⟩ ?_ ?_⟩
  · rintro i σ H2 hi ⟨rfl, hi6, v, rfl⟩
    have hi' : i < ((n : Int) + 1 - 2).toNat := hi
    have h6 := fac6 hi6
    walk_at "rd"
    refine ⟨by omega, some (.int (2 + (i : Int))), ?_⟩
    show [some (V.int n), some (V.int ((fac (i + 1) : Nat) * (2 + (i : Int)))), some (V.int (2 + (i : Int)))] = _
    have e : ((fac (i + 1) : Nat) : Int) * (2 + (i : Int)) = ((fac (i + 1 + 1) : Nat) : Int) := by
      show _ = (((i + 1 + 1) * fac (i + 1) : Nat) : Int)
      rw [Int.natCast_mul, Int.mul_comm]
      congr 1
      omega
    rw [e]
  · rintro σ H2 ⟨rfl, hi6, v, rfl⟩
    walk_at "rd"
    have e : fac (((n : Int) + 1 - 2).toNat + 1) = fac n := by
      match n, hn with
      | 0, _ => rfl
      | n + 1, _ => congr 1; omega
    rw [e]
    exact k
def spCheckSize (NP : Addr) : Sp := fun vs H Q E => ∃ i g : Int, vs = [.int i, .int g] ∧ Fig i ∧ Fig g ∧ (2 ≤ i → i ≤ g → Q .non H) ∧ (¬ (2 ≤ i ∧ i ≤ g) → E (.ref NP) none H)
/-! ### check_size -/
theorem sc_check_size : FnScope ["size", "greatest"] ["size", "greatest"] (defScope (top 20)) := ⟨rfl, rfl, rfl, by decide +kernel, rfl, by decide +kernel, by decide +kernel⟩
theorem cal_check_size (D : ∃ f fd, DefAt K mg "check_size" (top 20) f fd) (B : Blt mg) (S : Cl K mg c_TellError c_NoPack c_NoHand c_NoRow c_NoCard c_NoNumber c_NoPlan c_NoNote) (C : Cn mg) : Cal P w K mg base (CXe P w) 1 "check_size" ["size", "greatest"] (spCheckSize c_NoPack) := by
  obtain ⟨f, fd, D⟩ := D
  refine Cal.of D (D.fn.binds (ps := ["size", "greatest"]) fun _ _ _ _ _ _ us hl => match us, hl with | [_, _], _ => rfl) ?_
  refine D.fn.okE sc_check_size (fun vs H Q E h => by (repeat (first | (have hz := h.1; subst hz; rfl) | (obtain ⟨_, h⟩ := h)))) (fun cdv A outer s H vs Q E hr h th => ?_)
  obtain ⟨i, g, rfl, fi, fg, k1, k2⟩ := h
  refine ⟨_, (pss_one (ps_if (PW.pt (pw_or (pt_cmpR op_lt (pv 0) (pe_const (by rfl) C.LEAST_SIZE) (nomark _)) (pw_or1 (pt_cmpR op_gt (pv 0) (pv 1) (nomark _)))))
      (pss_one (ps_raise th rfl (by rfl) S.NoPack S.e_NoPack PySem.F.excBase_ValueError (pa_cons (pe_fstr (pj_lit (pj_int (pe_const (by rfl) C.LEAST_SIZE) (pj_lit (pj_int (pv 1) (pj_lit (pj_int (pv 0) pj_nil))))))) pa_nil)))
      pss_nil)), ?_⟩
  walk_at "rd"
  refine ite2 (fun h1 => ?_) (fun h1 => ?_)
  · refine iteT ?_
    walk_at "fst"
    exact fun x => ⟨by show 1 ≤ sizeLine; rw [sizeLine_eq]; decide, k2 fun z => by have := of_decide_eq_true h1; omega⟩
  walk_at "rd"
  refine ite2 (fun h2 => ?_) (fun h2 => ?_)
  · walk_at "fst"
    exact fun x => ⟨by show 1 ≤ sizeLine; rw [sizeLine_eq]; decide, k2 fun z => by have := of_decide_eq_true h2; omega⟩
  · exact k1 (by have : ¬ i < 2 := fun z => h1 (decide_eq_true z); omega) (by have : ¬ g < i := fun z => h2 (decide_eq_true z); omega)
def spCheckCards (NP : Addr) : Sp := fun vs H Q E => ∃ i j g : Int, vs = [.int i, .int j, .int g] ∧ Fig i ∧ Fig j ∧ Fig g ∧ (i ≤ j → j ≤ g → Q .non H) ∧ (¬ (i ≤ j ∧ j ≤ g) → E (.ref NP) none H)
/-! ### check_cards -/
theorem sc_check_cards : FnScope ["size", "cards", "greatest"] ["size", "cards", "greatest"] (defScope (top 21)) := ⟨rfl, rfl, rfl, by decide +kernel, rfl, by decide +kernel, by decide +kernel⟩
theorem cal_check_cards (D : ∃ f fd, DefAt K mg "check_cards" (top 21) f fd) (B : Blt mg) (S : Cl K mg c_TellError c_NoPack c_NoHand c_NoRow c_NoCard c_NoNumber c_NoPlan c_NoNote) (C : Cn mg) : Cal P w K mg base (CXe P w) 1 "check_cards" ["size", "cards", "greatest"] (spCheckCards c_NoPack) := by
  obtain ⟨f, fd, D⟩ := D
  refine Cal.of D (D.fn.binds (ps := ["size", "cards", "greatest"]) fun _ _ _ _ _ _ us hl => match us, hl with | [_, _, _], _ => rfl) ?_
  refine D.fn.okE sc_check_cards (fun vs H Q E h => by (repeat (first | (have hz := h.1; subst hz; rfl) | (obtain ⟨_, h⟩ := h)))) (fun cdv A outer s H vs Q E hr h th => ?_)
  obtain ⟨i, j, g, rfl, fi, fj, fg, k1, k2⟩ := h
  refine ⟨_, (pss_one (ps_if (PW.pt (pw_or (pt_cmpR op_lt (pv 1) (pv 0) (nomark _)) (pw_or1 (pt_cmpR op_gt (pv 1) (pv 2) (nomark _)))))
      (pss_one (ps_raise th rfl (by rfl) S.NoPack S.e_NoPack PySem.F.excBase_ValueError (pa_cons (pe_fstr (pj_lit (pj_int (pv 0) (pj_lit (pj_int (pv 0) (pj_lit (pj_int (pv 2) (pj_lit (pj_int (pv 1) pj_nil))))))))) pa_nil)))
      pss_nil)), ?_⟩
  walk_at "rd"
  refine ite2 (fun h1 => ?_) (fun h1 => ?_)
  · refine iteT ?_
    walk_at "fst"
    exact fun x => ⟨by show 1 ≤ sizeLine; rw [sizeLine_eq]; decide, k2 fun z => by have := of_decide_eq_true h1; omega⟩
  walk_at "rd"
  refine ite2 (fun h2 => ?_) (fun h2 => ?_)
  · walk_at "fst"
    exact fun x => ⟨by show 1 ≤ sizeLine; rw [sizeLine_eq]; decide, k2 fun z => by have := of_decide_eq_true h2; omega⟩
  · exact k1 (by have : ¬ j < i := fun z => h1 (decide_eq_true z); omega) (by have : ¬ g < j := fun z => h2 (decide_eq_true z); omega)
def spMostP (NP : Addr) : Sp := fun vs H Q E => ∃ i : Int, vs = [.int i] ∧ Fig i ∧ (2 ≤ i → i ≤ 5 → Q (.int (mostN i.toNat : Nat)) H) ∧ (¬ (2 ≤ i ∧ i ≤ 5) → E (.ref NP) none H)
/-! ### most -/
theorem sc_most : FnScope ["size"] ["size"] (defScope (top 17)) := ⟨rfl, rfl, rfl, by decide +kernel, rfl, by decide +kernel, by decide +kernel⟩
theorem cal_most (D : ∃ f fd, DefAt K mg "most" (top 17) f fd) (B : Blt mg) (S : Cl K mg c_TellError c_NoPack c_NoHand c_NoRow c_NoCard c_NoNumber c_NoPlan c_NoNote) (C : Cn mg) (c_check_size : Cal P w K mg base (CXe P w) 1 "check_size" ["size", "greatest"] (spCheckSize c_NoPack)) (c_order_count : Cal P w K mg base CX0 1 "order_count" ["things"] spCount) : Cal P w K mg base (CXe P w) 2 "most" ["size"] (spMostP c_NoPack) := by
  obtain ⟨f, fd, D⟩ := D
  refine Cal.of D (D.fn.binds (ps := ["size"]) fun _ _ _ _ _ _ us hl => match us, hl with | [_], _ => rfl) ?_
  refine D.fn.okE sc_most (fun vs H Q E h => by (repeat (first | (have hz := h.1; subst hz; rfl) | (obtain ⟨_, h⟩ := h)))) (fun cdv A outer s H vs Q E hr h th => ?_)
  obtain ⟨i, rfl, fi, k1, k2⟩ := h
  refine ⟨_, (pss_cons (ps_expr (pe_calE c_check_size (hr.mono (by decide)) (by rfl) th.pass (pa_cons (pv 0) (pa_cons (pe_const (by rfl) C.GREATEST_SIZE) pa_nil))))
    (pss_one (ps_ret (pe_op op_sub (pe_op op_add (pe_cal c_order_count (hr.mono (by decide)) (by rfl) pass0 (pa_cons (pv 0) pa_nil)) (pv 0)) pe_int)))), ?_⟩
  walk_at "rd"
  refine ⟨i, 5, rfl, fi, fig_small (by decide), fun h2 h5 => ?_, k2⟩
  obtain ⟨n, rfl⟩ : ∃ n : Nat, i = (n : Int) := ⟨i.toNat, by omega⟩
  have e := k1 h2 h5
  walk_at "rd"
  refine ⟨by omega, ?_⟩
  walk_at "rd"
  have fp := fac_pos n
  rw [show ((mostN ((n : Int)).toNat : Nat) : Int) = (fac n : Nat) + (n : Int) - 1 by rw [show ((n : Int)).toNat = n by omega]; unfold mostN; omega] at e
  exact e
def spCheckPack (NP : Addr) : Sp := fun vs H Q E => ∃ i j : Int, vs = [.int i, .int j] ∧ Fig i ∧ Fig j ∧ (PackOk i j → Q .non H) ∧ (¬ PackOk i j → E (.ref NP) none H)
/-! ### check_pack -/
theorem sc_check_pack : FnScope ["size", "cards"] ["size", "cards"] (defScope (top 19)) := ⟨rfl, rfl, rfl, by decide +kernel, rfl, by decide +kernel, by decide +kernel⟩
theorem cal_check_pack (D : ∃ f fd, DefAt K mg "check_pack" (top 19) f fd) (B : Blt mg) (S : Cl K mg c_TellError c_NoPack c_NoHand c_NoRow c_NoCard c_NoNumber c_NoPlan c_NoNote) (C : Cn mg) (c_check_cards : Cal P w K mg base (CXe P w) 1 "check_cards" ["size", "cards", "greatest"] (spCheckCards c_NoPack)) (c_most : Cal P w K mg base (CXe P w) 2 "most" ["size"] (spMostP c_NoPack)) : Cal P w K mg base (CXe P w) 3 "check_pack" ["size", "cards"] (spCheckPack c_NoPack) := by
  obtain ⟨f, fd, D⟩ := D
  refine Cal.of D (D.fn.binds (ps := ["size", "cards"]) fun _ _ _ _ _ _ us hl => match us, hl with | [_, _], _ => rfl) ?_
  refine D.fn.okE sc_check_pack (fun vs H Q E h => by (repeat (first | (have hz := h.1; subst hz; rfl) | (obtain ⟨_, h⟩ := h)))) (fun cdv A outer s H vs Q E hr h th => ?_)
  obtain ⟨i, j, rfl, fi, fj, k1, k2⟩ := h
  refine ⟨_, (pss_one (ps_expr (pe_calE c_check_cards (hr.mono (by decide)) (by rfl) th.pass (pa_cons (pv 0) (pa_cons (pv 1) (pa_cons (pe_calE c_most (hr.mono (by decide)) (by rfl) th.pass (pa_cons (pv 0) pa_nil)) pa_nil)))))), ?_⟩
  walk_at "rd"
  refine ⟨fi, fun h2 h5 => ?_, fun z => k2 fun q => z ⟨q.1, q.2.1⟩⟩
  have ml := (most_le (n := i.toNat) (by omega) (by omega)).2
  exact ⟨i, j, (mostN i.toNat : Nat), rfl, fi, fj, fig_small (by omega), fun h3 h4 => k1 ⟨h2, h5, h3, h4⟩, fun z => k2 fun q => z ⟨q.2.2.1, q.2.2.2⟩⟩
def spUnlike : Sp := fun vs H Q _ => ∃ (c m : Int) (a : Addr) (ns : List Int), vs = [.int c, .int m, .ref a] ∧ H a = some (.lst (ns.map V.int)) ∧ ns.length ≤ 60 ∧
  (RowOk (c + 1) m ns → ∀ H', Same H H' → Q (.bl true) H') ∧ (¬ RowOk (c + 1) m ns → ∀ H', Same H H' → Q (.bl false) H')
theorem unlike_iff {c m : Int} {ns : List Int} (hl : (ns.length : Int) = c) : RowOk (c + 1) m ns ↔ (uniq (ns.filter fun x => decide (0 ≤ x) && decide (x < m)) : Int) = c := by
  have u1 := uniq_le (ns.filter fun x => decide (0 ≤ x) && decide (x < m))
  have u2 := List.length_filter_le (fun x => decide (0 ≤ x) && decide (x < m)) ns
  constructor
  · rintro ⟨h1, h2, h3⟩
    have e : (ns.filter fun x => decide (0 ≤ x) && decide (x < m)) = ns := List.filter_eq_self.mpr fun x hx => by
      obtain ⟨q1, q2⟩ := h3 x hx
      simp [q1, q2]
    rw [e, (uniq_full ns).mpr h2]
    exact hl
  · intro h
    have e : (ns.filter fun x => decide (0 ≤ x) && decide (x < m)) = ns := filter_same _ (by omega)
    rw [e] at h
    refine ⟨by omega, (uniq_full ns).mp (by omega), fun x hx => ?_⟩
    rw [← e] at hx
    have := (List.mem_filter.mp hx).2
    simpa using this
/-! ### are_unlike_cards -/
theorem sc_are_unlike_cards : FnScope ["count", "cards", "numbers", "in_pack"] ["count", "cards", "numbers"] (defScope (top 24)) := ⟨rfl, rfl, rfl, by decide +kernel, rfl, by decide +kernel, by decide +kernel⟩
theorem cal_are_unlike_cards (D : ∃ f fd, DefAt K mg "are_unlike_cards" (top 24) f fd) (B : Blt mg) (S : Cl K mg c_TellError c_NoPack c_NoHand c_NoRow c_NoCard c_NoNumber c_NoPlan c_NoNote) (C : Cn mg) : Cal P w K mg base CX0 1 "are_unlike_cards" ["count", "cards", "numbers"] spUnlike := by
  obtain ⟨f, fd, D⟩ := D
  refine Cal.of D (D.fn.binds (ps := ["count", "cards", "numbers"]) fun _ _ _ _ _ _ us hl => match us, hl with | [_, _, _], _ => rfl) ?_
  refine D.fn.ok sc_are_unlike_cards (fun vs H Q E h => by (repeat (first | (have hz := h.1; subst hz; rfl) | (obtain ⟨_, h⟩ := h)))) (fun cdv A outer s H vs Q E hr h => ?_)
  obtain ⟨c, m, a, ns, rfl, ha, hz, k1, k2⟩ := h
  refine ⟨_, (pss_cons (ps_setC (fr := ["cards"]) ["number"] [1] (i := 3) rfl sc_are_unlike_cards.nd rfl rfl rfl (pi_list (pv 2)) (fun _ _ _ _ _ => (pg_name (i := 0) (show (["number", "cards"] : List Str).Nodup by decide +kernel) rfl (Or.inl rfl))) (fun _ _ _ _ _ => (pts_one (PW.pt (pw_and (pt_cmpR op_ge (pv 0) pe_int (nomark _)) (pw_and1 (pt_cmpR op_lt (pv 0) (pv 1) (nomark _))))))) (fun _ _ _ _ _ => (pv 0)) ⟨by first | exact Or.inl rfl | exact Or.inr rfl, trivial⟩ rfl (by decide +kernel) (by decide +kernel) (by decide +kernel) (by decide +kernel))
    (pss_one (ps_ret (pe_and (pe_cmpR op_eq (pe_callB call_len_seq (by rfl) B.len PySem.boot_len (pa_cons (pv 2) pa_nil)) (pv 0) (nomark _)) (pe_one (pe_cmpR op_eq (pe_callB call_len_set (by rfl) B.len PySem.boot_len (pa_cons (pe_callTy (call_set_of rfl) (by rfl) B.set (by decide +kernel) (pa_cons (pv 3) pa_nil)) pa_nil)) (pv 0) (nomark _))))))), ?_⟩
  have hs : sizeLine = 16777216 := sizeLine_eq
  refine ⟨_, rfl, a, rfl, ⟨_, SqL.of ha⟩, fun D hD => comp_pure (onI fun x => decide (0 ≤ x) && decide (x < m)) id (SqL.of ha) hD (by rw [List.length_map]; omega) ?_ ?_⟩
  · intro j x acc Qy Qn hx hy hn
    obtain ⟨hj, rfl⟩ := int_get hx
    refine ⟨rfl, rfl, ?_⟩
    walk_at "rd"
    refine ite2 (fun h3 => ?_) (fun h3 => ?_)
    · walk_at "rd"
      have h3' := of_decide_eq_true h3
      by_cases h4 : ns[j] < m
      · rw [decide_eq_true h4]
        exact iteT ⟨_, rfl, hy (by show (decide (0 ≤ ns[j]) && decide (ns[j] < m)) = true; rw [decide_eq_true h3', decide_eq_true h4]; rfl)⟩
      · rw [decide_eq_false h4]
        exact iteF (hn (by show (decide (0 ≤ ns[j]) && decide (ns[j] < m)) = false; rw [decide_eq_false h4, Bool.and_false]))
    · have h3' : ¬ (0 ≤ ns[j]) := fun z => h3 (decide_eq_true z)
      exact iteF (hn (by show (decide (0 ≤ ns[j]) && decide (ns[j] < m)) = false; rw [decide_eq_false h3']; rfl))
  rw [List.map_id, filter_onI]
  have s1 := (Same.refl H).new (o := .lst ((ns.filter fun x => decide (0 ≤ x) && decide (x < m)).map V.int)) hD
  have ha1 := s1 a _ ha
  have hD1 : (upd H D (.lst ((ns.filter fun x => decide (0 ≤ x) && decide (x < m)).map V.int))) D = some (.lst ((ns.filter fun x => decide (0 ≤ x) && decide (x < m)).map V.int)) := upd_same
  generalize upd H D (.lst ((ns.filter fun x => decide (0 ≤ x) && decide (x < m)).map V.int)) = H1 at s1 ha1 hD1 ⊢
  have ul := uniq_le (ns.filter fun x => decide (0 ≤ x) && decide (x < m))
  have fl := List.length_filter_le (fun x => decide (0 ≤ x) && decide (x < m)) ns
  refine ⟨_, rfl, a, _, rfl, .inl (SqL.of ha1), _, rfl, rfl, _, rfl, ?_⟩
  rw [List.length_map]
  refine ite2 (fun h1 => ?_) (fun h1 => ?_)
  · have e1 : ((ns.length : Nat) : Int) = c := by
      have h1' : V.int (ns.length : Nat) = V.int c := by simpa using h1
      injection h1'
    have key := unlike_iff (m := m) e1
    refine ⟨_, rfl, D, _, rfl, SqL.of hD1, by omega, fun l S hl => ?_⟩
    have s2 := s1.new (o := .set S (uniq (ns.filter fun x => decide (0 ≤ x) && decide (x < m)))) hl
    refine ⟨l, S, _, rfl, upd_same, by omega, _, rfl, rfl, ?_⟩
    by_cases ok : RowOk (c + 1) m ns
    · rw [decide_eq_true (congrArg V.int (key.mp ok))]
      exact k1 ok _ s2
    · rw [decide_eq_false (fun z => ok (key.mpr (by injection z)))]
      exact k2 ok _ s2
  · refine k2 (fun z => h1 ?_) H1 s1
    rw [decide_eq_true (congrArg V.int (show ((ns.length : Nat) : Int) = c by have := z.1; omega))]
def spCheckHand (NH : Addr) : Sp := fun vs H Q E => ∃ (i j : Int) (a : Addr) (ns : List Int), vs = [.int i, .int j, .ref a] ∧ H a = some (.lst (ns.map V.int)) ∧ ns.length ≤ 60 ∧ Fig i ∧ Fig j ∧ (∀ x ∈ ns, Fig x) ∧
  (HandOk i j ns → ∀ H', Same H H' → Q .non H') ∧ (¬ HandOk i j ns → ∀ H', Same H H' → E (.ref NH) none H')
/-! ### check_hand -/
theorem sc_check_hand : FnScope ["size", "cards", "hand"] ["size", "cards", "hand"] (defScope (top 22)) := ⟨rfl, rfl, rfl, by decide +kernel, rfl, by decide +kernel, by decide +kernel⟩
theorem cal_check_hand (D : ∃ f fd, DefAt K mg "check_hand" (top 22) f fd) (B : Blt mg) (S : Cl K mg c_TellError c_NoPack c_NoHand c_NoRow c_NoCard c_NoNumber c_NoPlan c_NoNote) (C : Cn mg) (c_are_unlike_cards : Cal P w K mg base CX0 1 "are_unlike_cards" ["count", "cards", "numbers"] spUnlike) : Cal P w K mg base (CXe P w) 2 "check_hand" ["size", "cards", "hand"] (spCheckHand c_NoHand) := by
  obtain ⟨f, fd, D⟩ := D
  refine Cal.of D (D.fn.binds (ps := ["size", "cards", "hand"]) fun _ _ _ _ _ _ us hl => match us, hl with | [_, _, _], _ => rfl) ?_
  refine D.fn.okE sc_check_hand (fun vs H Q E h => by (repeat (first | (have hz := h.1; subst hz; rfl) | (obtain ⟨_, h⟩ := h)))) (fun cdv A outer s H vs Q E hr h th => ?_)
  obtain ⟨i, j, a, ns, rfl, ha, hz, fi, fj, fx, k1, k2⟩ := h
  refine ⟨_, (pss_one (ps_if (PW.pt (pw_or (pt_cmpR (op_neLK (K := K) rfl hr.units) (pv 2) (pe_callB call_sorted (by rfl) B.sorted (by decide +kernel) (pa_cons (pv 2) pa_nil)) (nomark _)) (pw_or1 (pt_not (pt_val (pe_cal c_are_unlike_cards (hr.mono (by decide)) (by rfl) pass0 (pa_cons (pv 0) (pa_cons (pv 1) (pa_cons (pv 2) pa_nil)))))))))
      (pss_one (ps_raise th rfl (by rfl) S.NoHand S.e_NoHand PySem.F.excBase_ValueError (pa_cons (pe_fstr (pj_lit (pj_int (pv 0) (pj_lit (pj_int (pv 1) (pj_lit (pj_lst hr (pv 2) pj_nil))))))) pa_nil)))
      pss_nil)), ?_⟩
  have hs : sizeLine = 16777216 := sizeLine_eq
  refine ⟨_, rfl, _, rfl, a, ns, rfl, SqL.of ha, by omega, fun l S hl pS oS => ?_⟩
  have s1 := (Same.refl H).new (o := .lst (S.map V.int)) hl
  have ha1 := s1 a _ ha
  refine ⟨a, l, ns, S, rfl, rfl, SqL.of ha1, SqL.of upd_same, _, rfl, ?_⟩
  generalize upd H l (.lst (S.map V.int)) = H1 at s1 ha1 ⊢
  refine ite2 (fun h1 => ?_) (fun h1 => ?_)
  · refine iteT ?_
    have hn : ¬ HandOk i j ns := fun z => by
      have e := PySem.W.ksm_same pS oS (z.2.1.imp fun h => Int.le_of_lt h)
      simp [e] at h1
    walk_at "fst"
    refine ⟨a, ns, rfl, ha1, by omega, fx, by rw [sizeLine_eq]; decide +kernel, ?_⟩
    walk_at "fst"
    exact fun x => ⟨by show 1 ≤ sizeLine; rw [sizeLine_eq]; decide, k2 hn H1 s1⟩
  · have e : ns = S := by simpa using h1
    refine ⟨_, rfl, _, rfl, _, rfl, i, j, a, ns, rfl, ha1, hz, fun ok H2 s2 => ⟨true, rfl, iteF ?_⟩, fun ok H2 s2 => ⟨false, rfl, iteT ?_⟩⟩
    · exact k1 ⟨by have := ok.1; omega, lt_of_le_nodup (e ▸ oS) ok.2.1, ok.2.2⟩ H2 (s1.trans s2)
    · have hn : ¬ HandOk i j ns := fun z => ok ⟨by have := z.1; omega, rise_nodup z.2.1, z.2.2⟩
      walk_at "fst"
      refine ⟨a, ns, rfl, s2 a _ ha1, by omega, fx, by rw [sizeLine_eq]; decide +kernel, ?_⟩
      walk_at "fst"
      exact fun x => ⟨by show 1 ≤ sizeLine; rw [sizeLine_eq]; decide, k2 hn H2 (s1.trans s2)⟩
def spCheckRow (NR : Addr) : Sp := fun vs H Q E => ∃ (i j : Int) (a : Addr) (ns : List Int), vs = [.int i, .int j, .ref a] ∧ H a = some (.lst (ns.map V.int)) ∧ ns.length ≤ 60 ∧ (i.natAbs ≤ 1000000) ∧ Fig j ∧ (∀ x ∈ ns, Fig x) ∧
  (RowOk i j ns → ∀ H', Same H H' → Q .non H') ∧ (¬ RowOk i j ns → ∀ H', Same H H' → E (.ref NR) none H')
/-! ### check_row -/
theorem sc_check_row : FnScope ["size", "cards", "row", "laid_out"] ["size", "cards", "row"] (defScope (top 23)) := ⟨rfl, rfl, rfl, by decide +kernel, rfl, by decide +kernel, by decide +kernel⟩
theorem cal_check_row (D : ∃ f fd, DefAt K mg "check_row" (top 23) f fd) (B : Blt mg) (S : Cl K mg c_TellError c_NoPack c_NoHand c_NoRow c_NoCard c_NoNumber c_NoPlan c_NoNote) (C : Cn mg) (c_are_unlike_cards : Cal P w K mg base CX0 1 "are_unlike_cards" ["count", "cards", "numbers"] spUnlike) : Cal P w K mg base (CXe P w) 2 "check_row" ["size", "cards", "row"] (spCheckRow c_NoRow) := by
  obtain ⟨f, fd, D⟩ := D
  refine Cal.of D (D.fn.binds (ps := ["size", "cards", "row"]) fun _ _ _ _ _ _ us hl => match us, hl with | [_, _, _], _ => rfl) ?_
  refine D.fn.okE sc_check_row (fun vs H Q E h => by (repeat (first | (have hz := h.1; subst hz; rfl) | (obtain ⟨_, h⟩ := h)))) (fun cdv A outer s H vs Q E hr h th => ?_)
  obtain ⟨i, j, a, ns, rfl, ha, hz, fi, fj, fx, k1, k2⟩ := h
  refine ⟨_, (pss_cons (ps_set (i := 3) sc_check_row.nd rfl (Or.inl rfl) (pe_op op_sub (pv 0) pe_int))
    (pss_one (ps_if (pt_not (pt_val (pe_cal c_are_unlike_cards (hr.mono (by decide)) (by rfl) pass0 (pa_cons (pv 3) (pa_cons (pv 1) (pa_cons (pv 2) pa_nil))))))
      (pss_one (ps_raise th rfl (by rfl) S.NoRow S.e_NoRow PySem.F.excBase_ValueError (pa_cons (pe_fstr (pj_lit (pj_int (pv 3) (pj_lit (pj_int (pv 1) (pj_lit (pj_lst hr (pv 2) pj_nil))))))) pa_nil)))
      pss_nil))), ?_⟩
  have hs : sizeLine = 16777216 := sizeLine_eq
  have f1 : Fig (i - 1) := fig_wide (by omega)
  walk_at "rd"
  refine ⟨i - 1, j, a, ns, rfl, ha, hz, fun ok H2 s2 => ⟨true, rfl, iteF ?_⟩, fun ok H2 s2 => ⟨false, rfl, iteT ?_⟩⟩
  · rw [show i - 1 + 1 = i by omega] at ok
    exact k1 ok H2 s2
  · rw [show i - 1 + 1 = i by omega] at ok
    walk_at "fst"
    refine ⟨a, ns, rfl, s2 a _ ha, by omega, fx, by rw [sizeLine_eq]; decide +kernel, ?_⟩
    walk_at "fst"
    exact fun x => ⟨by show 1 ≤ sizeLine; rw [sizeLine_eq]; decide, k2 ok H2 s2⟩
def spOrderAt : Sp := fun vs H Q _ => ∃ (a : Addr) (ns : List Int) (i : Nat), vs = [.ref a, .int i] ∧ H a = some (.lst (ns.map V.int)) ∧ ns.length ≤ 6 ∧ ns.Pairwise (· < ·) ∧ i < fac ns.length ∧
  ∀ (l : Addr) (H' : Hp), H l = none → Same H H' → H' l = some (.lst ((at_ ns.length ns i).map V.int)) → Q (.ref l) H'
/-! ### order_at -/
theorem sc_order_at : FnScope ["numbers", "number", "last", "left", "order", "rest", "behind", "block"] ["numbers", "number"] (defScope (top 12)) := ⟨rfl, rfl, rfl, by decide +kernel, rfl, by decide +kernel, by decide +kernel⟩
theorem cal_order_at (D : ∃ f fd, DefAt K mg "order_at" (top 12) f fd) (B : Blt mg) (S : Cl K mg c_TellError c_NoPack c_NoHand c_NoRow c_NoCard c_NoNumber c_NoPlan c_NoNote) (C : Cn mg) (c_order_count : Cal P w K mg base CX0 1 "order_count" ["things"] spCount) : Cal P w K mg base (CXe P w) 2 "order_at" ["numbers", "number"] spOrderAt := by
  obtain ⟨f, fd, D⟩ := D
  refine Cal.of D (D.fn.binds (ps := ["numbers", "number"]) fun _ _ _ _ _ _ us hl => match us, hl with | [_, _], _ => rfl) ?_
  refine D.fn.okE sc_order_at (fun vs H Q E h => by (repeat (first | (have hz := h.1; subst hz; rfl) | (obtain ⟨_, h⟩ := h)))) (fun cdv A outer s H vs Q E hr h th => ?_)
  obtain ⟨a, ns, i, rfl, ha, hz, hri, h1, k⟩ := h
  refine ⟨_, (pss_cons (ps_set (i := 2) sc_order_at.nd rfl (Or.inl rfl) (pe_op op_sub (pe_cal c_order_count (hr.mono (by decide)) (by rfl) pass0 (pa_cons (pe_callB call_len_seq (by rfl) B.len PySem.boot_len (pa_cons (pv 0) pa_nil)) pa_nil)) pe_int))
    (pss_cons (ps_if (PW.pt (pw_or (pt_cmpR op_lt (pv 1) pe_int (nomark _)) (pw_or1 (pt_cmpR op_gt (pv 1) (pv 2) (nomark _)))))
      (pss_one (ps_raise th rfl (by rfl) S.NoNumber S.e_NoNumber PySem.F.excBase_ValueError (pa_cons (pe_fstr (pj_lit (pj_int (pv 2) (pj_lit (pj_int (pv 1) pj_nil))))) pa_nil)))
      pss_nil)
    (pss_cons (ps_set (i := 3) sc_order_at.nd rfl (Or.inl rfl) (pe_callB call_sorted (by rfl) B.sorted (by decide +kernel) (pa_cons (pv 0) pa_nil)))
    (pss_cons (ps_set (i := 4) sc_order_at.nd rfl (Or.inl rfl) (pe_lst pa_nil))
    (pss_cons (ps_set (i := 5) sc_order_at.nd rfl (Or.inl rfl) (pv 1))
    (pss_cons (ps_for th.own rfl (pi_down (by rfl) B.range (pa_cons (pe_op op_sub (pe_callB call_len_seq (by rfl) B.len PySem.boot_len (pa_cons (pv 0) pa_nil)) pe_int) (pa_cons (pe_un un_neg pe_int) (pa_cons (pe_un un_neg pe_int) pa_nil)))) (pg_name (i := 6) sc_order_at.nd rfl (Or.inl rfl))
      (pss_cons (ps_set (i := 7) sc_order_at.nd rfl (Or.inl rfl) (pe_cal c_order_count (hr.mono (by decide)) (by rfl) pass0 (pa_cons (pv 6) pa_nil)))
      (pss_cons (ps_expr (pe_bm PySem.F.plainAttrs_list PySem.F.slot_list_append PySem.F.type_list_append mt_append (pv 4) (pa_cons (pe_bm PySem.F.plainAttrs_list PySem.F.slot_list_pop PySem.F.type_list_pop mt_popAt (pv 3) (pa_cons (pe_op op_fdiv (pv 5) (pv 7)) pa_nil)) pa_nil)))
      (pss_one (ps_set (i := 5) sc_order_at.nd rfl (Or.inl rfl) (pe_op op_mod (pv 5) (pv 7)))))))
    (pss_one (ps_ret (pv 4))))))))), ?_⟩
  have hs : sizeLine = 16777216 := sizeLine_eq
  have f6 := fac6 hz
  have fp := fac_pos ns.length
  refine ⟨_, rfl, a, _, rfl, .inl (SqL.of ha), ns.length, by rw [List.length_map]; rfl, hz, _, _, rfl, rfl, ?_⟩
  refine ⟨_, rfl, _, _, rfl, rfl, _, rfl, ?_⟩
  refine ite2 (fun h => absurd (of_decide_eq_true h) (by omega)) (fun h => ?_)
  refine ⟨_, rfl, _, rfl, _, _, rfl, rfl, _, rfl, ?_⟩
  refine ite2 (fun h2 => absurd (of_decide_eq_true h2) (by omega)) (fun h2 => ?_)
  -- left = sorted(numbers)
  refine ⟨_, rfl, a, ns, rfl, SqL.of ha, by omega, fun l S hl pS oS => ?_⟩
  have eS : S = ns := PySem.W.ksm_same pS oS (hri.imp fun h => Int.le_of_lt h)
  subst eS
  have s1 := same_new (o := .lst (S.map V.int)) (Same.refl H) hl
  refine ⟨by show 0 ≤ sizeLine; omega, fun l2 hl2 => ?_⟩
  have nl : l ≠ l2 := fun z => by rw [← z, upd_same] at hl2; cases hl2
  have hl2H : H l2 = none := s1.free hl2
  have s2 := same_new (o := .lst []) s1 hl2H
  refine ⟨_, rfl, _, rfl, a, _, rfl, .inl (SqL.of (s2 a _ ha)), _, _, rfl, rfl, _, rfl, _, rfl, (S.length : Int) - 1, -1, by rw [List.length_map], ⟨by omega, by omega, by decide, by decide⟩, ?_⟩
  have en : ((S.length : Int) - 1 - -1).toNat = S.length := by omega
  rw [en]
  refine for_down (fun j σ H2 => ∃ (Ls Os : List Int) (r : Nat) (v6 v7 : Option V), σ = [some (.ref a), some (.int i), some (.int ((fac S.length : Nat) - 1)), some (.ref l), some (.ref l2), some (.int r), v6, v7] ∧
    Same H H2 ∧ H2 l = some (.lst (Ls.map V.int)) ∧ H2 l2 = some (.lst (Os.map V.int)) ∧ Os.length = j ∧ Ls.length + j = S.length ∧ r < fac Ls.length ∧ Os ++ at_ Ls.length Ls r = at_ S.length S i)
    ⟨S, [], i, none, none, rfl, s2, by rw [upd_ne nl, upd_same], upd_same, rfl, rfl, h1, rfl⟩ ?_ ?_
  · rintro j σ H2 hj ⟨Ls, Os, r, v6, v7, rfl, sm, hl', hl2', hO, hlen, hr', heq⟩
    obtain ⟨t, ht⟩ : ∃ t, Ls.length = t + 1 := ⟨Ls.length - 1, by omega⟩
    have ft := fac_pos t
    have ft6 : fac t ≤ 720 := fac6 (by omega)
    rw [ht] at hr' heq
    have hq : r / fac t < Ls.length := by
      rw [ht]
      exact (Nat.div_lt_iff_lt_mul ft).mpr hr'
    -- block
    refine ⟨_, rfl, t, by rw [show (S.length : Int) - 1 - (j : Int) = (t : Int) by omega]; rfl, by omega, ?_⟩
    -- order.append(left.pop(rest // block))
    refine ⟨_, rfl, .inl ⟨rfl, _, SqL.of hl2'⟩, _, rfl, .inl ⟨rfl, _, SqL.of hl'⟩, _, rfl, _, rfl, _, _, rfl, rfl, ⟨by omega, by omega⟩, ?_⟩
    have eq1 : ((r : Int) / ((fac t : Nat) : Int)) = ((r / fac t : Nat) : Int) := by omega
    have hq0 : (0 : Int) ≤ ((r / fac t : Nat) : Int) := Int.natCast_nonneg _
    have hq1 : ((r / fac t : Nat) : Int) < (Ls.length : Int) := Int.ofNat_lt.mpr hq
    have hx : (Ls.map V.int)[r / fac t]? = some (.int (Ls.getD (r / fac t) 0)) := by
      rw [List.getElem?_map, List.getElem?_eq_getElem hq, List.getD_eq_getElem?_getD, List.getElem?_eq_getElem hq]
      rfl
    refine ⟨l, _, ((r / fac t : Nat) : Int), r / fac t, .int (Ls.getD (r / fac t) 0), rfl, congrArg (fun z => [V.int z]) eq1, hl', Int.le_trans (by decide) hq0, Int.lt_of_lt_of_le hq1 (by omega), ?_, hx, ?_⟩
    · have := seqIndex_of (k := ((r / fac t : Nat) : Int)) (n := (Ls.map V.int).length) hq0 (by rw [List.length_map]; exact hq1)
      rw [this, Int.toNat_natCast]
    have h3 : (upd H2 l (.lst ((Ls.map V.int).eraseIdx (r / fac t)))) l2 = some (.lst (Os.map V.int)) := by rw [upd_ne (Ne.symm nl)]; exact hl2'
    refine ⟨l2, _, _, rfl, rfl, h3, by rw [List.length_map]; omega, ?_⟩
    -- rest = rest % block
    refine ⟨_, rfl, _, rfl, _, _, rfl, rfl, (show (0 : Int) < ((fac t : Nat) : Int) by omega), ?_⟩
    have el : (Ls.eraseIdx (r / fac t)).length = t := by rw [List.length_eraseIdx_of_lt hq]; omega
    refine ⟨Ls.eraseIdx (r / fac t), Os ++ [Ls.getD (r / fac t) 0], r % fac t, some (.int ((S.length : Int) - 1 - (j : Int))), some (.int ((fac t : Nat) : Int)), ?_, same_new (same_new sm hl) hl2H, ?_, ?_, ?_, ?_, ?_, ?_⟩
    · have em : ((r : Int) % ((fac t : Nat) : Int)) = ((r % fac t : Nat) : Int) := by omega
      exact congrArg (fun z => [some (V.ref a), some (V.int i), some (V.int ((fac S.length : Nat) - 1)), some (V.ref l), some (V.ref l2), some (V.int z), some (.int ((S.length : Int) - 1 - (j : Int))), some (.int ((fac t : Nat) : Int))]) em
    · rw [upd_ne nl, upd_same, erase_map]
    · rw [upd_same, List.map_append]; rfl
    · rw [List.length_append, hO]; rfl
    · rw [el]; omega
    · rw [el]; exact Nat.mod_lt _ ft
    · rw [el, ← heq, List.append_assoc]; rfl
  · rintro σ H2 ⟨Ls, Os, r, v6, v7, rfl, sm, hl', hl2', hO, hlen, hr', heq⟩
    have e0 : Ls.length = 0 := by omega
    rw [e0] at heq
    have e1 : Os = at_ S.length S i := by rw [← heq]; exact (List.append_nil _).symm
    exact ⟨_, rfl, k l2 H2 hl2H sm (by rw [hl2', e1])⟩
def spNum : Sp := fun vs H Q _ => ∃ (a : Addr) (ns : List Int), vs = [.ref a] ∧ H a = some (.lst (ns.map V.int)) ∧ ns.length ≤ 6 ∧ ∀ H', Same H H' → Q (.int (num ns : Nat)) H'
/-! ### order_number -/
theorem sc_order_number : FnScope ["row", "number", "place", "here", "behind", "lesser"] ["row"] (defScope (top 11)) := ⟨rfl, rfl, rfl, by decide +kernel, rfl, by decide +kernel, by decide +kernel⟩
theorem cal_order_number (D : ∃ f fd, DefAt K mg "order_number" (top 11) f fd) (B : Blt mg) (S : Cl K mg c_TellError c_NoPack c_NoHand c_NoRow c_NoCard c_NoNumber c_NoPlan c_NoNote) (C : Cn mg) : Cal P w K mg base CX0 1 "order_number" ["row"] spNum := by
  obtain ⟨f, fd, D⟩ := D
  refine Cal.of D (D.fn.binds (ps := ["row"]) fun _ _ _ _ _ _ us hl => match us, hl with | [_], _ => rfl) ?_
  refine D.fn.ok sc_order_number (fun vs H Q E h => by (repeat (first | (have hz := h.1; subst hz; rfl) | (obtain ⟨_, h⟩ := h)))) (fun cdv A outer s H vs Q E hr h => ?_)
  obtain ⟨a, ns, rfl, ha, hz, k⟩ := h
  refine ⟨_, (pss_cons (ps_set (i := 1) sc_order_number.nd rfl (Or.inl rfl) pe_int)
    (pss_cons (ps_for PassesOwn.never rfl (pi_enum (by rfl) B.enumerate (pa_cons (pv 0) pa_nil)) (pg_tup rfl (pgs_cons (pg_name (i := 2) sc_order_number.nd rfl (Or.inl rfl)) (pgs_cons (pg_name (i := 3) sc_order_number.nd rfl (Or.inr rfl)) pgs_nil)))
      (pss_cons (ps_set (i := 4) sc_order_number.nd rfl (Or.inl rfl) (pe_slice sl_list (pv 0) (po_some (pv 2)) po_none))
      (pss_cons (ps_set (i := 5) sc_order_number.nd rfl (Or.inl rfl) (pe_callB call_len_seq (by rfl) B.len PySem.boot_len (pa_cons (pe_compL (fr := ["here"]) ["other"] [3]  rfl (pi_list (pv 4)) (fun _ _ _ _ _ => (pg_name (i := 0) (show (["other", "here"] : List Str).Nodup by decide +kernel) rfl (Or.inl rfl))) (fun _ _ _ _ _ => (pts_one (pt_cmpR op_lt (pv 0) (pv 1) (nomark _)))) (fun _ _ _ _ _ => (pv 0)) ⟨by first | exact Or.inl rfl | exact Or.inr rfl, trivial⟩ rfl (by decide +kernel) (by decide +kernel) (by decide +kernel) (by decide +kernel)) pa_nil)))
      (pss_one (ps_set (i := 1) sc_order_number.nd rfl (Or.inl rfl) (pe_op op_add (pe_op op_mul (pv 1) (pe_callB call_len_seq (by rfl) B.len PySem.boot_len (pa_cons (pv 4) pa_nil))) (pv 5)))))))
    (pss_one (ps_ret (pv 1))))), ?_⟩
  have hs : sizeLine = 16777216 := sizeLine_eq
  refine ⟨_, rfl, a, _, rfl, ha, for_enum (xs := ns.map V.int) (fun i σ H2 => Same H H2 ∧ ∃ (c : Nat) (v2 v3 v4 v5 : Option V), σ = [some (.ref a), some (.int c), v2, v3, v4, v5] ∧ horner c (ns.drop i) = num ns)
    ⟨Same.refl H, 0, none, none, none, none, rfl, by rw [List.drop_zero, horner_eq]; omega⟩ (fun i σ H2 _ h => SqL.of (h.1 a _ ha)) ?_ ?_⟩
  · rintro i x p σ H2 hx ⟨sm, c, v2, v3, v4, v5, rfl, hc⟩ hp
    obtain ⟨hi, rfl⟩ := int_get hx
    have sm1 := sm.new (o := .tup [.int i, .int ns[i]]) hp
    refine ⟨p, _, rfl, SqT.of upd_same, rfl, _, _, rfl, _, _, rfl, rfl, ?_⟩
    -- behind = row[place:]
    refine ⟨_, rfl, _, rfl, _, rfl, a, _, rfl, SqL.of (sm1 a _ ha), fun q hq => ?_⟩
    rw [cut_from ns (Nat.le_of_lt hi)]
    have sm2 := sm1.new (o := .lst ((ns.drop i).map V.int)) hq
    have hq2 : upd (upd H2 p (.tup [.int i, .int ns[i]])) q (.lst ((ns.drop i).map V.int)) q = some (.lst ((ns.drop i).map V.int)) := upd_same
    generalize upd (upd H2 p (.tup [.int i, .int ns[i]])) q (.lst ((ns.drop i).map V.int)) = H3 at sm2 hq2 ⊢
    -- the comprehension
    refine ⟨_, rfl, q, rfl, ⟨_, SqL.of hq2⟩, fun D hD => comp_pure (onI fun y => decide (y < ns[i])) id (SqL.of hq2) hD (by rw [List.length_map, List.length_drop]; omega) ?_ ?_⟩
    · intro j x acc Qy Qn hx hy hn
      obtain ⟨hj, rfl⟩ := int_get hx
      refine ⟨rfl, rfl, _, rfl, _, rfl, _, _, rfl, rfl, _, rfl, ?_⟩
      refine ite2 (fun hlt => ⟨_, rfl, hy hlt⟩) (fun hlt => hn ?_)
      exact Bool.eq_false_iff.mpr hlt
    rw [List.map_id, filter_onI]
    have sm3 := sm2.new (o := .lst (((ns.drop i).filter fun y => decide (y < ns[i])).map V.int)) hD
    have hq3 : upd H3 D (.lst (((ns.drop i).filter fun y => decide (y < ns[i])).map V.int)) q = some (.lst ((ns.drop i).map V.int)) := by rw [upd_ne (ne_of_none hq2 hD)]; exact hq2
    refine ⟨D, _, rfl, .inl (SqL.of upd_same), ?_⟩
    refine ⟨_, rfl, _, rfl, q, _, rfl, .inl (SqL.of hq3), _, _, rfl, rfl, .inr ⟨?_, ?_⟩, _, rfl, _, _, rfl, rfl, sm3, c * ((ns.drop (i + 1)).length + 1) + ((ns.drop i).filter fun y => decide (y < ns[i])).length, some (.int i), some (.int ns[i]), some (.ref q), some (.int ((((ns.drop i).filter fun y => decide (y < ns[i])).length : Nat))), ?_, ?_⟩
    · rw [List.length_map, List.length_drop]; omega
    · rw [List.length_map, List.length_drop]; omega
    · have e1 : ((ns.drop i).map V.int).length = (ns.drop (i + 1)).length + 1 := by
        rw [List.length_map, List.length_drop, List.length_drop]; omega
      show [some (V.ref a), some (V.int ((c : Int) * ((((ns.drop i).map V.int).length : Nat) : Int) + (((((ns.drop i).filter fun y => decide (y < ns[i])).map V.int).length : Nat) : Int))), some (.int i), some (.int ns[i]), some (.ref q), some (.int (((((ns.drop i).filter fun y => decide (y < ns[i])).map V.int).length : Nat) : Int))] = _
      rw [e1, List.length_map]
      rfl
    · rw [← hc]
      have ed : ns.drop i = ns[i] :: ns.drop (i + 1) := List.drop_eq_getElem_cons hi
      rw [ed]
      rfl
  · rintro σ H2 ⟨sm, c, v2, v3, v4, v5, rfl, hc⟩
    rw [List.length_map, List.drop_length] at hc
    have hc' : c = num ns := hc
    subst hc'
    exact ⟨_, rfl, k H2 sm⟩
def spChoices : Sp := fun vs H Q _ => ∃ (p : Nat) (m : Int), vs = [.int p, .int m] ∧ p ≤ 1000 ∧ 0 ≤ m ∧ m ≤ 1000 ∧ Q (.int (fall m p)) H
/-! ### choices_in_turn -/
theorem sc_choices_in_turn : FnScope ["picks", "cards", "count", "gone"] ["picks", "cards"] (defScope (top 27)) := ⟨rfl, rfl, rfl, by decide +kernel, rfl, by decide +kernel, by decide +kernel⟩
theorem cal_choices_in_turn (D : ∃ f fd, DefAt K mg "choices_in_turn" (top 27) f fd) (B : Blt mg) (S : Cl K mg c_TellError c_NoPack c_NoHand c_NoRow c_NoCard c_NoNumber c_NoPlan c_NoNote) (C : Cn mg) : Cal P w K mg base CX0 1 "choices_in_turn" ["picks", "cards"] spChoices := by
  obtain ⟨f, fd, D⟩ := D
  refine Cal.of D (D.fn.binds (ps := ["picks", "cards"]) fun _ _ _ _ _ _ us hl => match us, hl with | [_, _], _ => rfl) ?_
  refine D.fn.ok sc_choices_in_turn (fun vs H Q E h => by (repeat (first | (have hz := h.1; subst hz; rfl) | (obtain ⟨_, h⟩ := h)))) (fun cdv A outer s H vs Q E hr h => ?_)
  obtain ⟨p, m, rfl, hp, hm, hm2, k⟩ := h
  refine ⟨_, (pss_cons (ps_set (i := 2) sc_choices_in_turn.nd rfl (Or.inl rfl) pe_int)
    (pss_cons (ps_for PassesOwn.never rfl (pi_range1 rfl B.range (pa_cons (pv 0) pa_nil)) (pg_name (i := 3) sc_choices_in_turn.nd rfl (Or.inl rfl))
      (pss_one (ps_set (i := 2) sc_choices_in_turn.nd rfl (Or.inl rfl) (pe_op op_mul (pv 2) (pe_op op_sub (pv 1) (pv 3))))))
    (pss_one (ps_ret (pv 2))))), ?_⟩
  walk_at "rd"
  refine ⟨by omega, by omega, for_range (fun i σ H2 => H2 = H ∧ i ≤ p ∧ ∃ v, σ = [some (.int p), some (.int m), some (.int (fall m i)), v]) ⟨rfl, by omega, none, rfl⟩ ?_ ?_⟩
  · rintro i σ H2 hi ⟨rfl, _, v, rfl⟩
    have hi' : i < ((p : Int)).toNat := hi
    walk_at "rd"
    refine ⟨by omega, some (.int (0 + (i : Int))), ?_⟩
    show [some (V.int p), some (V.int m), some (V.int (fall m i * (m - (0 + (i : Int))))), some (V.int (0 + (i : Int)))] = _
    rw [Int.zero_add]
    rfl
  · rintro σ H2 ⟨rfl, _, v, rfl⟩
    walk_at "rd"
    exact k
def spHandCount : Sp := fun vs H Q _ => ∃ (n : Nat) (m : Int), vs = [.int n, .int m] ∧ n ≤ 6 ∧ 0 ≤ m ∧ m ≤ 1000 ∧ Q (.int (fall m n / (fac n : Nat))) H
/-! ### hand_count -/
theorem sc_hand_count : FnScope ["size", "cards"] ["size", "cards"] (defScope (top 25)) := ⟨rfl, rfl, rfl, by decide +kernel, rfl, by decide +kernel, by decide +kernel⟩
theorem cal_hand_count (D : ∃ f fd, DefAt K mg "hand_count" (top 25) f fd) (B : Blt mg) (S : Cl K mg c_TellError c_NoPack c_NoHand c_NoRow c_NoCard c_NoNumber c_NoPlan c_NoNote) (C : Cn mg) (c_choices_in_turn : Cal P w K mg base CX0 1 "choices_in_turn" ["picks", "cards"] spChoices) (c_order_count : Cal P w K mg base CX0 1 "order_count" ["things"] spCount) : Cal P w K mg base CX0 2 "hand_count" ["size", "cards"] spHandCount := by
  obtain ⟨f, fd, D⟩ := D
  refine Cal.of D (D.fn.binds (ps := ["size", "cards"]) fun _ _ _ _ _ _ us hl => match us, hl with | [_, _], _ => rfl) ?_
  refine D.fn.ok sc_hand_count (fun vs H Q E h => by (repeat (first | (have hz := h.1; subst hz; rfl) | (obtain ⟨_, h⟩ := h)))) (fun cdv A outer s H vs Q E hr h => ?_)
  obtain ⟨n, m, rfl, hn, hm, hm2, k⟩ := h
  refine ⟨_, (pss_one (ps_ret (pe_op op_fdiv (pe_cal c_choices_in_turn (hr.mono (by decide)) (by rfl) pass0 (pa_cons (pv 0) (pa_cons (pv 1) pa_nil))) (pe_cal c_order_count (hr.mono (by decide)) (by rfl) pass0 (pa_cons (pv 0) pa_nil))))), ?_⟩
  have f6 := fac6 hn
  have fp := fac_pos n
  walk_at "rd"
  refine ⟨n, m, rfl, by omega, hm, hm2, ?_⟩
  walk_at "rd"
  refine ⟨hn, ?_⟩
  walk_at "rd"
  exact k
def spRowCount : Sp := fun vs H Q _ => ∃ (n : Nat) (m : Int), vs = [.int n, .int m] ∧ 1 ≤ n ∧ n ≤ 6 ∧ 0 ≤ m ∧ m ≤ 1000 ∧ Q (.int (fall m (n - 1))) H
/-! ### row_count -/
theorem sc_row_count : FnScope ["size", "cards"] ["size", "cards"] (defScope (top 26)) := ⟨rfl, rfl, rfl, by decide +kernel, rfl, by decide +kernel, by decide +kernel⟩
theorem cal_row_count (D : ∃ f fd, DefAt K mg "row_count" (top 26) f fd) (B : Blt mg) (S : Cl K mg c_TellError c_NoPack c_NoHand c_NoRow c_NoCard c_NoNumber c_NoPlan c_NoNote) (C : Cn mg) (c_choices_in_turn : Cal P w K mg base CX0 1 "choices_in_turn" ["picks", "cards"] spChoices) : Cal P w K mg base CX0 2 "row_count" ["size", "cards"] spRowCount := by
  obtain ⟨f, fd, D⟩ := D
  refine Cal.of D (D.fn.binds (ps := ["size", "cards"]) fun _ _ _ _ _ _ us hl => match us, hl with | [_, _], _ => rfl) ?_
  refine D.fn.ok sc_row_count (fun vs H Q E h => by (repeat (first | (have hz := h.1; subst hz; rfl) | (obtain ⟨_, h⟩ := h)))) (fun cdv A outer s H vs Q E hr h => ?_)
  obtain ⟨n, m, rfl, h1, hn, hm, hm2, k⟩ := h
  refine ⟨_, (pss_one (ps_ret (pe_cal c_choices_in_turn (hr.mono (by decide)) (by rfl) pass0 (pa_cons (pe_op op_sub (pv 0) pe_int) (pa_cons (pv 1) pa_nil))))), ?_⟩
  walk_at "rd"
  refine ⟨n - 1, m, ?_, by omega, hm, hm2, k⟩
  show [V.int ((n : Int) - 1), V.int m] = _
  rw [show ((n - 1 : Nat) : Int) = (n : Int) - 1 by omega]
def spCounts (NP : Addr) : Sp := fun vs H Q E => ∃ i j : Int, vs = [.int i, .int j] ∧ Fig i ∧ Fig j ∧
  (2 ≤ i → i ≤ 5 → i ≤ j → j ≤ 500 → ∀ t, H t = none → Q (.ref t) (upd H t (.tup [.int (fall j i.toNat / (fac i.toNat : Nat)), .int (fall j (i.toNat - 1))]))) ∧ (¬ (2 ≤ i ∧ i ≤ 5 ∧ i ≤ j ∧ j ≤ 500) → E (.ref NP) none H)
/-! ### counts -/
theorem sc_counts : FnScope ["size", "cards"] ["size", "cards"] (defScope (top 18)) := ⟨rfl, rfl, rfl, by decide +kernel, rfl, by decide +kernel, by decide +kernel⟩
theorem cal_counts (D : ∃ f fd, DefAt K mg "counts" (top 18) f fd) (B : Blt mg) (S : Cl K mg c_TellError c_NoPack c_NoHand c_NoRow c_NoCard c_NoNumber c_NoPlan c_NoNote) (C : Cn mg) (c_check_size : Cal P w K mg base (CXe P w) 1 "check_size" ["size", "greatest"] (spCheckSize c_NoPack)) (c_check_cards : Cal P w K mg base (CXe P w) 1 "check_cards" ["size", "cards", "greatest"] (spCheckCards c_NoPack)) (c_hand_count : Cal P w K mg base CX0 2 "hand_count" ["size", "cards"] spHandCount) (c_row_count : Cal P w K mg base CX0 2 "row_count" ["size", "cards"] spRowCount) : Cal P w K mg base (CXe P w) 3 "counts" ["size", "cards"] (spCounts c_NoPack) := by
  obtain ⟨f, fd, D⟩ := D
  refine Cal.of D (D.fn.binds (ps := ["size", "cards"]) fun _ _ _ _ _ _ us hl => match us, hl with | [_, _], _ => rfl) ?_
  refine D.fn.okE sc_counts (fun vs H Q E h => by (repeat (first | (have hz := h.1; subst hz; rfl) | (obtain ⟨_, h⟩ := h)))) (fun cdv A outer s H vs Q E hr h th => ?_)
  obtain ⟨i, j, rfl, fi, fj, k1, k2⟩ := h
  refine ⟨_, (pss_cons (ps_expr (pe_calE c_check_size (hr.mono (by decide)) (by rfl) th.pass (pa_cons (pv 0) (pa_cons (pe_const (by rfl) C.GREATEST_SIZE) pa_nil))))
    (pss_cons (ps_expr (pe_calE c_check_cards (hr.mono (by decide)) (by rfl) th.pass (pa_cons (pv 0) (pa_cons (pv 1) (pa_cons (pe_const (by rfl) C.MOST_COUNTED) pa_nil)))))
    (pss_one (ps_ret (pe_tup (pa_cons (pe_cal c_hand_count (hr.mono (by decide)) (by rfl) pass0 (pa_cons (pv 0) (pa_cons (pv 1) pa_nil))) (pa_cons (pe_cal c_row_count (hr.mono (by decide)) (by rfl) pass0 (pa_cons (pv 0) (pa_cons (pv 1) pa_nil))) pa_nil))))))), ?_⟩
  walk_at "rd"
  refine ⟨i, 5, rfl, fi, fig_small (by decide), fun h2 h5 => ?_, fun z => k2 fun q => z ⟨q.1, q.2.1⟩⟩
  obtain ⟨n, rfl⟩ : ∃ n : Nat, i = (n : Int) := ⟨i.toNat, by omega⟩
  have toN : ((n : Int)).toNat = n := by omega
  walk_at "rd"
  refine ⟨n, j, 500, rfl, fi, fj, fig_small (by decide), fun h3 h4 => ?_, fun z => k2 fun q => z ⟨q.2.2.1, q.2.2.2⟩⟩
  have e := k1 h2 h5 h3 h4
  rw [toN] at e
  walk_at "rd"
  refine ⟨n, j, rfl, by omega, by omega, by omega, ?_⟩
  walk_at "rd"
  refine ⟨n, j, rfl, by omega, by omega, by omega, by omega, ?_⟩
  exact ⟨by show 2 ≤ sizeLine; rw [sizeLine_eq]; decide, fun p hp => e p hp⟩

end
end Q01

set_option Elab.async false
set_option linter.all false
set_option maxRecDepth 100000
set_option maxHeartbeats 4000000
namespace Q01
open PySem L2 K2
section
variable {P : Program} {w : World} {K : PySem.W.Frag} {mg : Str → Option Value} {base : Heap} {c_TellError c_NoPack c_NoHand c_NoRow c_NoCard c_NoNumber c_NoPlan c_NoNote : Addr}
def spLaidP (NP NH : Addr) : Sp := fun vs H Q E => ∃ (i j : Int) (a : Addr) (ns : List Int), vs = [.int i, .int j, .ref a] ∧ H a = some (.lst (ns.map V.int)) ∧ ns.length ≤ 60 ∧ Fig i ∧ Fig j ∧ (∀ x ∈ ns, Fig x) ∧
  (PackOk i j → HandOk i j ns → ∀ (t r : Addr) (H' : Hp), H t = none → H r = none → t ≠ r → Same H H' → H' t = some (.tup [.int (held i.toNat ns), .ref r]) → H' r = some (.lst ((lrow i.toNat ns).map V.int)) → Q (.ref t) H') ∧
  (¬ PackOk i j → ∀ H', Same H H' → E (.ref NP) none H') ∧ (PackOk i j → ¬ HandOk i j ns → ∀ H', Same H H' → E (.ref NH) none H')
/-! ### laid -/
theorem sc_laid : FnScope ["size", "cards", "hand", "place", "held", "others"] ["size", "cards", "hand"] (defScope (top 29)) := ⟨rfl, rfl, rfl, by decide +kernel, rfl, by decide +kernel, by decide +kernel⟩
theorem cal_laid (D : ∃ f fd, DefAt K mg "laid" (top 29) f fd) (B : Blt mg) (S : Cl K mg c_TellError c_NoPack c_NoHand c_NoRow c_NoCard c_NoNumber c_NoPlan c_NoNote) (C : Cn mg) (c_check_pack : Cal P w K mg base (CXe P w) 3 "check_pack" ["size", "cards"] (spCheckPack c_NoPack)) (c_check_hand : Cal P w K mg base (CXe P w) 2 "check_hand" ["size", "cards", "hand"] (spCheckHand c_NoHand)) (c_order_at : Cal P w K mg base (CXe P w) 2 "order_at" ["numbers", "number"] spOrderAt) : Cal P w K mg base (CXe P w) 5 "laid" ["size", "cards", "hand"] (spLaidP c_NoPack c_NoHand) := by
  obtain ⟨f, fd, D⟩ := D
  refine Cal.of D (D.fn.binds (ps := ["size", "cards", "hand"]) fun _ _ _ _ _ _ us hl => match us, hl with | [_, _, _], _ => rfl) ?_
  refine D.fn.okE sc_laid (fun vs H Q E h => by (repeat (first | (have hz := h.1; subst hz; rfl) | (obtain ⟨_, h⟩ := h)))) (fun cdv A outer s H vs Q E hr h th => ?_)
  obtain ⟨i, j, a, ns, rfl, ha, hz, fi, fj, fx, k1, k2, k3⟩ := h
  refine ⟨_, (pss_cons (ps_expr (pe_calE c_check_pack (hr.mono (by decide)) (by rfl) th.pass (pa_cons (pv 0) (pa_cons (pv 1) pa_nil))))
    (pss_cons (ps_expr (pe_calE c_check_hand (hr.mono (by decide)) (by rfl) th.pass (pa_cons (pv 0) (pa_cons (pv 1) (pa_cons (pv 2) pa_nil)))))
    (pss_cons (ps_set (i := 3) sc_laid.nd rfl (Or.inl rfl) (pe_op op_mod (pe_callB (call_sum rfl) (by rfl) B.sum (by decide +kernel) (pa_cons (pv 2) pa_nil)) (pv 0)))
    (pss_cons (ps_set (i := 4) sc_laid.nd rfl (Or.inl rfl) (pe_ix ix_list (pv 2) (pv 3) (fun _ _ => rfl)))
    (pss_cons (ps_set (i := 5) sc_laid.nd rfl (Or.inl rfl) (pe_op op_cat (pe_slice sl_list (pv 2) po_none (po_some (pv 3))) (pe_slice sl_list (pv 2) (po_some (pe_op op_add (pv 3) pe_int)) po_none)))
    (pss_one (ps_ret (pe_tup (pa_cons (pv 4) (pa_cons (pe_calE c_order_at (hr.mono (by decide)) (by rfl) th.pass (pa_cons (pv 5) (pa_cons (pe_op op_fdiv (pe_op op_sub (pv 4) (pv 3)) (pv 0)) pa_nil))) pa_nil)))))))))), ?_⟩
  have hs : sizeLine = 16777216 := sizeLine_eq
  walk_at "rd"
  refine ⟨i, j, rfl, fi, fj, fun pk => ?_, fun z => k2 z H (Same.refl H)⟩
  walk_at "rd"
  refine ⟨i, j, a, ns, rfl, ha, hz, fi, fj, fx, fun hok H1 s1 => ?_, fun z H1 s1 => k3 pk z H1 s1⟩
  have k := k1 pk hok
  obtain ⟨p1, p2, p3, p4⟩ := pk
  obtain ⟨n, rfl⟩ : ∃ n : Nat, i = (n : Int) := ⟨i.toNat, by omega⟩
  obtain ⟨m, rfl⟩ : ∃ m : Nat, j = (m : Int) := ⟨j.toNat, by omega⟩
  have toN : ((n : Int)).toNat = n := by omega
  rw [toN] at p4 k
  obtain ⟨o1, hri, bd⟩ := hok
  have hl : ns.length = n := by omega
  have hn : 0 < n := by omega
  have ha1 := s1 a _ ha
  have pc := place_cast hn ns
  have pl := place_lt hn ns
  have hm' : m + 1 ≤ fac n + n := by have := fac_pos n; unfold mostN at p4; omega
  have hb := held_bounds hn hl hri bd
  have hL := lnum_lt hn hl hri bd hm'
  have hLc := lnum_cast hn hl hri bd
  -- place
  walk_at "rd"
  refine ⟨a, ns, rfl, SqL.of ha1, ?_⟩
  walk_at "rd"
  dsimp only
  rw [← pc]
  -- held
  refine ⟨a, _, _, _, rfl, rfl, SqL.of ha1, int_atI (by omega), ?_⟩
  rw [← held_get hn hl]
  -- others
  refine ⟨_, rfl, _, rfl, _, rfl, a, _, rfl, SqL.of ha1, fun p1 hp1 => ?_⟩
  rw [cut_to ns (by omega)]
  have s2 := s1.new (o := .lst ((ns.take (place n ns)).map V.int)) hp1
  have hp1' : (upd H1 p1 (.lst ((ns.take (place n ns)).map V.int))) p1 = some (.lst ((ns.take (place n ns)).map V.int)) := upd_same
  generalize upd H1 p1 (.lst ((ns.take (place n ns)).map V.int)) = H2 at s2 hp1' ⊢
  refine ⟨_, rfl, _, rfl, _, _, rfl, rfl, ((place n ns + 1 : Nat) : Int), rfl, a, _, rfl, SqL.of (s2 a _ ha), fun p2 hp2 => ?_⟩
  rw [cut_from ns (by omega)]
  have s3 := s2.new (o := .lst ((ns.drop (place n ns + 1)).map V.int)) hp2
  have s23 := (Same.refl H2).new (o := .lst ((ns.drop (place n ns + 1)).map V.int)) hp2
  have hp2' : (upd H2 p2 (.lst ((ns.drop (place n ns + 1)).map V.int))) p2 = some (.lst ((ns.drop (place n ns + 1)).map V.int)) := upd_same
  have hp12 := s23 p1 _ hp1'
  generalize upd H2 p2 (.lst ((ns.drop (place n ns + 1)).map V.int)) = H3 at s3 s23 hp2' hp12 ⊢
  refine ⟨p1, p2, _, _, rfl, rfl, hp12, hp2', by rw [List.length_map, List.length_map, List.length_take, List.length_drop]; omega, fun p3 hp3 => ?_⟩
  have eE : (ns.take (place n ns)).map V.int ++ (ns.drop (place n ns + 1)).map V.int = (ns.eraseIdx (place n ns)).map V.int := by rw [← List.map_append, List.eraseIdx_eq_take_drop_succ]
  rw [eE]
  have s4 := s3.new (o := .lst ((ns.eraseIdx (place n ns)).map V.int)) hp3
  have hp3' : (upd H3 p3 (.lst ((ns.eraseIdx (place n ns)).map V.int))) p3 = some (.lst ((ns.eraseIdx (place n ns)).map V.int)) := upd_same
  generalize upd H3 p3 (.lst ((ns.eraseIdx (place n ns)).map V.int)) = H4 at s4 hp3' ⊢
  have el : (ns.eraseIdx (place n ns)).length = n - 1 := by rw [List.length_eraseIdx_of_lt (by omega), hl]
  -- the row
  walk_at "rd"
  dsimp only
  rw [← hLc]
  refine ⟨p3, ns.eraseIdx (place n ns), lnum n ns, rfl, hp3', by omega, hri.sublist (List.eraseIdx_sublist ..), by rw [el]; exact hL, fun r H5 hr5 s5 h5 => ?_⟩
  rw [el] at h5
  refine ⟨by show 2 ≤ sizeLine; omega, fun t ht => ?_⟩
  have s45 := s4.trans s5
  exact k t r _ (s45.free ht) (s4.free hr5) (fun z => by rw [z, h5] at ht; cases ht) (s45.new ht) upd_same (by rw [upd_ne (ne_of_none h5 ht)]; exact h5)
def Tells (i j : Int) (ns : List Int) (c : Int) : Prop := 0 ≤ c ∧ c < j ∧ c ∉ ns ∧ rank ns c = told i.toNat ns
def spToldP (NP NR NC : Addr) : Sp := fun vs H Q E => ∃ (i j : Int) (a : Addr) (ns : List Int), vs = [.int i, .int j, .ref a] ∧ H a = some (.lst (ns.map V.int)) ∧ ns.length ≤ 60 ∧ Fig i ∧ Fig j ∧ (∀ x ∈ ns, Fig x) ∧
  (PackOk i j → RowOk i j ns → (∀ c, Tells i j ns c → ∀ H', Same H H' → Q (.int c) H') ∧ ((∀ c, ¬ Tells i j ns c) → ∀ H', Same H H' → E (.ref NC) none H')) ∧
  (¬ PackOk i j → ∀ H', Same H H' → E (.ref NP) none H') ∧ (PackOk i j → ¬ RowOk i j ns → ∀ H', Same H H' → E (.ref NR) none H')
theorem rest_map (R : List Int) (m : Nat) : ((List.range m).filter fun i : Nat => !decide ((i : Int) ∈ R)).map (fun i : Nat => V.int (0 + (i : Int))) = (rest_ R m).map V.int := by
  unfold rest_
  rw [List.map_map]
  apply List.map_congr_left
  intro i _
  show V.int (0 + (i : Int)) = V.int (i : Int)
  rw [Int.zero_add]
/-! ### told -/
theorem sc_told : FnScope ["size", "cards", "row", "number", "others"] ["size", "cards", "row"] (defScope (top 30)) := ⟨rfl, rfl, rfl, by decide +kernel, rfl, by decide +kernel, by decide +kernel⟩
theorem cal_told (D : ∃ f fd, DefAt K mg "told" (top 30) f fd) (B : Blt mg) (S : Cl K mg c_TellError c_NoPack c_NoHand c_NoRow c_NoCard c_NoNumber c_NoPlan c_NoNote) (C : Cn mg) (c_check_pack : Cal P w K mg base (CXe P w) 3 "check_pack" ["size", "cards"] (spCheckPack c_NoPack)) (c_check_row : Cal P w K mg base (CXe P w) 2 "check_row" ["size", "cards", "row"] (spCheckRow c_NoRow)) (c_order_number : Cal P w K mg base CX0 1 "order_number" ["row"] spNum) : Cal P w K mg base (CXe P w) 5 "told" ["size", "cards", "row"] (spToldP c_NoPack c_NoRow c_NoCard) := by
  obtain ⟨f, fd, D⟩ := D
  refine Cal.of D (D.fn.binds (ps := ["size", "cards", "row"]) fun _ _ _ _ _ _ us hl => match us, hl with | [_, _, _], _ => rfl) ?_
  refine D.fn.okE sc_told (fun vs H Q E h => by (repeat (first | (have hz := h.1; subst hz; rfl) | (obtain ⟨_, h⟩ := h)))) (fun cdv A outer s H vs Q E hr h th => ?_)
  obtain ⟨i, j, a, ns, rfl, ha, hz, fi, fj, fx, k1, k2, k3⟩ := h
  refine ⟨_, (pss_cons (ps_expr (pe_calE c_check_pack (hr.mono (by decide)) (by rfl) th.pass (pa_cons (pv 0) (pa_cons (pv 1) pa_nil))))
    (pss_cons (ps_expr (pe_calE c_check_row (hr.mono (by decide)) (by rfl) th.pass (pa_cons (pv 0) (pa_cons (pv 1) (pa_cons (pv 2) pa_nil)))))
    (pss_cons (ps_set (i := 3) sc_told.nd rfl (Or.inl rfl) (pe_op op_add (pe_op op_mul (pe_cal c_order_number (hr.mono (by decide)) (by rfl) pass0 (pa_cons (pv 2) pa_nil)) (pv 0)) (pe_op op_mod (pe_un un_neg (pe_callB (call_sum rfl) (by rfl) B.sum (by decide +kernel) (pa_cons (pv 2) pa_nil))) (pv 0))))
    (pss_cons (ps_setC (fr := ["row"]) ["card"] [2] (i := 4) rfl sc_told.nd rfl rfl rfl (pi_range1 rfl B.range (pa_cons (pv 1) pa_nil)) (fun _ _ _ _ _ => (pg_name (i := 0) (show (["card", "row"] : List Str).Nodup by decide +kernel) rfl (Or.inl rfl))) (fun _ _ _ _ _ => (pts_one (pt_cmpR (op_notInK (K := K) rfl) (pv 0) (pv 1) (by with_unfolding_all rfl)))) (fun _ _ _ _ _ => (pv 0)) ⟨by first | exact Or.inl rfl | exact Or.inr rfl, trivial⟩ rfl (by decide +kernel) (by decide +kernel) (by decide +kernel) (by decide +kernel))
    (pss_cons (ps_if (pt_cmpR op_ge (pv 3) (pe_callB call_len_seq (by rfl) B.len PySem.boot_len (pa_cons (pv 4) pa_nil)) (nomark _))
      (pss_one (ps_raise th rfl (by rfl) S.NoCard S.e_NoCard PySem.F.excBase_ValueError (pa_cons (pe_fstr (pj_lit (pj_int (pv 1) (pj_lit (pj_lst hr (pv 2) pj_nil))))) pa_nil)))
      pss_nil)
    (pss_one (ps_ret (pe_ix ix_list (pv 4) (pv 3) (fun _ _ => rfl))))))))), ?_⟩
  have hs : sizeLine = 16777216 := sizeLine_eq
  walk_at "rd"
  refine ⟨i, j, rfl, fi, fj, fun pk => ?_, fun z => k2 z H (Same.refl H)⟩
  walk_at "rd"
  refine ⟨i, j, a, ns, rfl, ha, hz, by obtain ⟨p1, p2, p3, p4⟩ := pk; omega, fj, fx, fun rok H1 s1 => ?_, fun z H1 s1 => k3 pk z H1 s1⟩
  obtain ⟨ky, kn⟩ := k1 pk rok
  obtain ⟨p1, p2, p3, p4⟩ := pk
  obtain ⟨n, rfl⟩ : ∃ n : Nat, i = (n : Int) := ⟨i.toNat, by omega⟩
  obtain ⟨m, rfl⟩ : ∃ m : Nat, j = (m : Int) := ⟨j.toNat, by omega⟩
  have toN : ((n : Int)).toNat = n := by omega
  rw [toN] at p4
  have ml := (most_le (n := n) (by omega) (by omega)).2
  obtain ⟨o1, nd, bd⟩ := rok
  have h0 : ∀ x ∈ ns, 0 ≤ x := fun x hx => (bd x hx).1
  have ha1 := s1 a _ ha
  have hl : ns.length + 1 = n := by omega
  have f6 : fac ns.length ≤ 720 := fac6 (by omega)
  have nl := num_lt ns
  have tb := told_bounds hl
  -- number
  walk_at "rd"
  refine ⟨a, ns, rfl, ha1, by omega, fun H2 s2 => ?_⟩
  have ha2 := s2 a _ ha1
  have s12 := s1.trans s2
  walk_at "rd"
  refine ⟨a, ns, rfl, SqL.of ha2, ?_⟩
  walk_at "rd"
  dsimp only
  rw [show ((num ns : Nat) : Int) * (n : Int) + -ns.sum % (n : Int) = told n ns by unfold told; rw [Int.mul_comm]]
  -- others
  refine ⟨by omega, by omega, fun D hD => comp_pureR (fun i => !decide ((i : Int) ∈ ns)) (fun i => .int (0 + (i : Int))) hD (by omega) ?_ ?_⟩
  · intro q acc Qy Qn hq hy hn
    have haD := (Same.refl H2).new (o := .lst acc) hD a _ ha2
    refine ⟨rfl, rfl, _, rfl, _, rfl, a, _, rfl, .inl (SqL.of haD), rfl, flat_ints ns, _, rfl, ?_⟩
    rw [if_pos rfl, inV_ints, Int.zero_add]
    by_cases hin : (q : Int) ∈ ns
    · rw [decide_eq_true hin]
      exact iteF (hn (by simp [hin]))
    · rw [decide_eq_false hin]
      refine iteT ⟨_, rfl, ?_⟩
      have := hy (by simp [hin])
      rw [Int.zero_add] at this
      exact this
  rw [rest_map, show ((m : Int)).toNat = m by omega]
  have s3 := s12.new (o := .lst ((rest_ ns m).map V.int)) hD
  have ha3 := s3 a _ ha
  have hD3 : (upd H2 D (.lst ((rest_ ns m).map V.int))) D = some (.lst ((rest_ ns m).map V.int)) := upd_same
  generalize upd H2 D (.lst ((rest_ ns m).map V.int)) = H3 at s3 ha3 hD3 ⊢
  refine ⟨_, rfl, _, rfl, D, _, rfl, .inl (SqL.of hD3), _, _, rfl, rfl, _, rfl, ?_⟩
  rw [List.length_map]
  have rl := rest_len nd h0 m
  refine ite2 (fun h1 => ?_) (fun h1 => ?_)
  · have h1' := of_decide_eq_true h1
    walk_at "fst"
    refine ⟨a, ns, rfl, ha3, by omega, fx, by rw [sizeLine_eq]; decide +kernel, ?_⟩
    walk_at "fst"
    refine fun x => ⟨by show 1 ≤ sizeLine; rw [sizeLine_eq]; decide, kn (fun c hc => ?_) H3 s3⟩
    obtain ⟨c0, c1, c2, c3⟩ := hc
    rw [toN] at c3
    have := rank_lt nd c2 c1
    omega
  · have h1' : ¬ ((rest_ ns m).length : Int) ≤ told n ns := fun z => h1 (decide_eq_true z)
    obtain ⟨c, hc, c0, c1, c2, c3⟩ := rest_at nd h0 (m := m) (k := (told n ns).toNat) (by omega)
    have et : (((told n ns).toNat : Nat) : Int) = told n ns := by omega
    refine ⟨_, rfl, _, rfl, D, _, _, .int c, rfl, rfl, SqL.of hD3, ?_, ky c ⟨c0, c1, c2, by rw [toN, c3, et]⟩ H3 s3⟩
    rw [← et]
    exact atI_nat (by rw [List.getElem?_map, hc]; rfl)

end
end Q01

set_option Elab.async false
set_option linter.all false
set_option maxRecDepth 100000
set_option maxHeartbeats 4000000
namespace Q01
open PySem L2 K2
section
variable {P : Program} {w : World} {K : PySem.W.Frag} {mg : Str → Option Value} {base : Heap} {c_TellError c_NoPack c_NoHand c_NoRow c_NoCard c_NoNumber c_NoPlan c_NoNote : Addr}
def spGoing : Sp := fun vs H Q _ => ∃ (n m p c : Nat), vs = [.int n, .int m, .int p, .int c] ∧ p < n ∧ n ≤ 6 ∧ c < m ∧ m ≤ 1000 ∧ Q (.int (binom (m - c - 1) (n - p - 1) : Nat)) H
/-! ### hands_going_on -/
theorem sc_hands_going_on : FnScope ["size", "cards", "place", "card"] ["size", "cards", "place", "card"] (defScope (top 34)) := ⟨rfl, rfl, rfl, by decide +kernel, rfl, by decide +kernel, by decide +kernel⟩
theorem cal_hands_going_on (D : ∃ f fd, DefAt K mg "hands_going_on" (top 34) f fd) (B : Blt mg) (S : Cl K mg c_TellError c_NoPack c_NoHand c_NoRow c_NoCard c_NoNumber c_NoPlan c_NoNote) (C : Cn mg) (c_hand_count : Cal P w K mg base CX0 2 "hand_count" ["size", "cards"] spHandCount) : Cal P w K mg base CX0 3 "hands_going_on" ["size", "cards", "place", "card"] spGoing := by
  obtain ⟨f, fd, D⟩ := D
  refine Cal.of D (D.fn.binds (ps := ["size", "cards", "place", "card"]) fun _ _ _ _ _ _ us hl => match us, hl with | [_, _, _, _], _ => rfl) ?_
  refine D.fn.ok sc_hands_going_on (fun vs H Q E h => by (repeat (first | (have hz := h.1; subst hz; rfl) | (obtain ⟨_, h⟩ := h)))) (fun cdv A outer s H vs Q E hr h => ?_)
  obtain ⟨n, m, p, c, rfl, hp, hn, hc, hm, k⟩ := h
  refine ⟨_, (pss_one (ps_ret (pe_cal c_hand_count (hr.mono (by decide)) (by rfl) pass0 (pa_cons (pe_op op_sub (pe_op op_sub (pv 0) (pv 2)) pe_int) (pa_cons (pe_op op_sub (pe_op op_sub (pv 1) (pv 3)) pe_int) pa_nil))))), ?_⟩
  walk_at "rd"
  refine ⟨n - p - 1, ((m - c - 1 : Nat) : Int), ?_, by omega, by omega, by omega, ?_⟩
  · show [V.int ((n : Int) - (p : Int) - 1), V.int ((m : Int) - (c : Int) - 1)] = _
    rw [show (n : Int) - (p : Int) - 1 = ((n - p - 1 : Nat) : Int) by omega, show (m : Int) - (c : Int) - 1 = ((m - c - 1 : Nat) : Int) by omega]
  · rw [count_binom]
    exact k
/-- the program's numbers of hands -/
def spHandAt (NP NN : Addr) : Sp := fun vs H Q E => ∃ i j v : Int, vs = [.int i, .int j, .int v] ∧ Fig i ∧ Fig j ∧ Fig v ∧
  (PackOk i j → ∀ k : Nat, v = k → ∀ h : List Int, (hs i.toNat 0 j.toNat)[k]? = some h → ∀ (l : Addr) (H' : Hp), H l = none → Same H H' → H' l = some (.lst (h.map V.int)) → Q (.ref l) H') ∧
  (¬ PackOk i j → ∀ H', Same H H' → E (.ref NP) none H') ∧ (PackOk i j → ¬ (0 ≤ v ∧ v < (hs i.toNat 0 j.toNat).length) → ∀ H', Same H H' → E (.ref NN) none H')
/-! ### hand_at -/
theorem sc_hand_at : FnScope ["size", "cards", "number", "last", "hand", "rest", "card", "block"] ["size", "cards", "number"] (defScope (top 32)) := ⟨rfl, rfl, rfl, by decide +kernel, rfl, by decide +kernel, by decide +kernel⟩
theorem cal_hand_at (D : ∃ f fd, DefAt K mg "hand_at" (top 32) f fd) (B : Blt mg) (S : Cl K mg c_TellError c_NoPack c_NoHand c_NoRow c_NoCard c_NoNumber c_NoPlan c_NoNote) (C : Cn mg) (c_check_pack : Cal P w K mg base (CXe P w) 3 "check_pack" ["size", "cards"] (spCheckPack c_NoPack)) (c_hand_count : Cal P w K mg base CX0 2 "hand_count" ["size", "cards"] spHandCount) (c_hands_going_on : Cal P w K mg base CX0 3 "hands_going_on" ["size", "cards", "place", "card"] spGoing) : Cal P w K mg base (CXe P w) 5 "hand_at" ["size", "cards", "number"] (spHandAt c_NoPack c_NoNumber) := by
  obtain ⟨f, fd, D⟩ := D
  refine Cal.of D (D.fn.binds (ps := ["size", "cards", "number"]) fun _ _ _ _ _ _ us hl => match us, hl with | [_, _, _], _ => rfl) ?_
  refine D.fn.okE sc_hand_at (fun vs H Q E h => by (repeat (first | (have hz := h.1; subst hz; rfl) | (obtain ⟨_, h⟩ := h)))) (fun cdv A outer s H vs Q E hr h th => ?_)
  obtain ⟨i, j, v, rfl, fi, fj, fv, k1, k2, k3⟩ := h
  refine ⟨_, (pss_cons (ps_expr (pe_calE c_check_pack (hr.mono (by decide)) (by rfl) th.pass (pa_cons (pv 0) (pa_cons (pv 1) pa_nil))))
    (pss_cons (ps_set (i := 3) sc_hand_at.nd rfl (Or.inl rfl) (pe_op op_sub (pe_cal c_hand_count (hr.mono (by decide)) (by rfl) pass0 (pa_cons (pv 0) (pa_cons (pv 1) pa_nil))) pe_int))
    (pss_cons (ps_if (PW.pt (pw_or (pt_cmpR op_lt (pv 2) pe_int (nomark _)) (pw_or1 (pt_cmpR op_gt (pv 2) (pv 3) (nomark _)))))
      (pss_one (ps_raise th rfl (by rfl) S.NoNumber S.e_NoNumber PySem.F.excBase_ValueError (pa_cons (pe_fstr (pj_lit (pj_int (pv 3) (pj_lit (pj_int (pv 2) pj_nil))))) pa_nil)))
      pss_nil)
    (pss_cons (ps_set (i := 4) sc_hand_at.nd rfl (Or.inl rfl) (pe_lst pa_nil))
    (pss_cons (ps_set (i := 5) sc_hand_at.nd rfl (Or.inl rfl) (pv 2))
    (pss_cons (ps_set (i := 6) sc_hand_at.nd rfl (Or.inl rfl) pe_int)
    (pss_cons (ps_while th.own (pt_cmpR op_lt (pe_callB call_len_seq (by rfl) B.len PySem.boot_len (pa_cons (pv 4) pa_nil)) (pv 0) (nomark _))
      (pss_cons (ps_set (i := 7) sc_hand_at.nd rfl (Or.inl rfl) (pe_cal c_hands_going_on (hr.mono (by decide)) (by rfl) pass0 (pa_cons (pv 0) (pa_cons (pv 1) (pa_cons (pe_callB call_len_seq (by rfl) B.len PySem.boot_len (pa_cons (pv 4) pa_nil)) (pa_cons (pv 6) pa_nil))))))
      (pss_cons (ps_if (pt_cmpR op_lt (pv 5) (pv 7) (nomark _))
        (pss_one (ps_expr (pe_bm PySem.F.plainAttrs_list PySem.F.slot_list_append PySem.F.type_list_append mt_append (pv 4) (pa_cons (pv 6) pa_nil))))
        (pss_one (ps_set (i := 5) sc_hand_at.nd rfl (Or.inl rfl) (pe_op op_sub (pv 5) (pv 7)))))
      (pss_one (ps_set (i := 6) sc_hand_at.nd rfl (Or.inl rfl) (pe_op op_add (pv 6) pe_int))))))
    (pss_one (ps_ret (pv 4)))))))))), ?_⟩
  have hs' : sizeLine = 16777216 := sizeLine_eq
  walk_at "rd"
  refine ⟨i, j, rfl, fi, fj, fun pk => ?_, fun z => k2 z H (Same.refl H)⟩
  have ky := k1 pk
  have kn := k3 pk
  obtain ⟨p1, p2, p3, p4⟩ := pk
  obtain ⟨n, rfl⟩ : ∃ n : Nat, i = (n : Int) := ⟨i.toNat, by omega⟩
  obtain ⟨m, rfl⟩ : ∃ m : Nat, j = (m : Int) := ⟨j.toNat, by omega⟩
  have toN : ((n : Int)).toNat = n := by omega
  have toM : ((m : Int)).toNat = m := by omega
  rw [toN] at p4
  rw [toN, toM] at ky kn
  have ml := (most_le (n := n) (by omega) (by omega)).2
  have hbig : (hs n 0 m).length ≤ 100000000000 := by
    refine Nat.le_trans (hs_bound m n) (Nat.le_trans (Nat.pow_le_pow_left (by omega : m ≤ 124) n) ?_)
    exact Nat.le_trans (Nat.pow_le_pow_right (by decide) (by omega : n ≤ 5)) (by decide)
  -- last
  walk_at "rd"
  refine ⟨n, m, rfl, by omega, by omega, by omega, ?_⟩
  rw [count_hs]
  obtain ⟨N, hN⟩ : ∃ N : Nat, (hs n 0 m).length = N := ⟨_, rfl⟩
  rw [hN] at hbig kn ⊢
  have fN : Fig ((N : Int) - 1) := fig_wide (by omega)
  walk_at "rd"
  refine ite2 (fun h1 => ?_) (fun h1 => ?_)
  · refine iteT ?_
    walk_at "fst"
    exact fun x => ⟨by show 1 ≤ sizeLine; rw [sizeLine_eq]; decide, kn (fun z => by have := of_decide_eq_true h1; omega) H (Same.refl H)⟩
  walk_at "rd"
  refine ite2 (fun h2 => ?_) (fun h2 => ?_)
  · walk_at "fst"
    exact fun x => ⟨by show 1 ≤ sizeLine; rw [sizeLine_eq]; decide, kn (fun z => by have := of_decide_eq_true h2; omega) H (Same.refl H)⟩
  have h1' : ¬ v < 0 := fun z => h1 (decide_eq_true z)
  have h2' : ¬ (N : Int) - 1 < v := fun z => h2 (decide_eq_true z)
  obtain ⟨k, rfl⟩ : ∃ k : Nat, v = (k : Int) := ⟨v.toNat, by omega⟩
  have kN : k < (hs n 0 m).length := by omega
  have hg : (hs n 0 m)[k]? = some (hs n 0 m)[k] := List.getElem?_eq_getElem kN
  have kk := ky k rfl _ hg
  generalize (hs n 0 m)[k] = hd at hg kk
  -- hand = []
  refine ⟨by show 0 ≤ sizeLine; omega, fun l hl => ?_⟩
  have s1 := (Same.refl H).new (o := .lst []) hl
  walk_at "rd"
  refine ⟨fun t σ H5 => ∃ (F tail : List Int) (r c : Nat) (vb : Option V), σ = [some (.int n), some (.int m), some (.int k), some (.int ((N : Int) - 1)), some (.ref l), some (.int r), some (.int c), vb] ∧ Same H H5 ∧ H5 l = some (.lst (F.map V.int)) ∧
      F.length ≤ n ∧ c ≤ m ∧ t = m - c ∧ (hs (n - F.length) c m)[r]? = some tail ∧ F ++ tail = hd,
    ⟨m, [], hd, k, 0, none, rfl, s1, upd_same, by simp, by omega, rfl, hg, rfl⟩, ?_⟩
  rintro t σ H5 ⟨F, tail, r, c, vb, rfl, sm, hF, hFl, hc, rfl, htl, hFt⟩
  refine ⟨_, rfl, l, _, rfl, .inl (SqL.of hF), _, rfl, _, _, rfl, rfl, _, rfl, ?_⟩
  rw [List.length_map]
  refine ite2 (fun hpos => ?_) (fun hpos => ?_)
  · have hlt : F.length < n := by have := of_decide_eq_true hpos; omega
    obtain ⟨q, hq⟩ : ∃ q, n - F.length = q + 1 := ⟨n - F.length - 1, by omega⟩
    rw [hq] at htl
    have hcm : c < m := by
      rcases Nat.lt_or_ge c m with z | z
      · exact z
      · rw [hs_nil z] at htl
        cases htl
    rw [hs_step hcm] at htl
    refine ⟨fun σ' H' => ∃ m', m' < m - c ∧ _, fun σ' H' q => q, ?_⟩
    -- block
    refine ⟨_, rfl, _, rfl, _, rfl, l, _, rfl, .inl (SqL.of hF), _, rfl, n, m, F.length, c, by rw [List.length_map]; rfl, hlt, by omega, hcm, by omega, ?_⟩
    have eb : binom (m - c - 1) (n - F.length - 1) = (hs q (c + 1) m).length := by
      rw [hs_len', show n - F.length - 1 = q by omega, show m - c - 1 = m - (c + 1) by omega]
    rw [eb]
    refine ⟨_, rfl, _, rfl, _, _, rfl, rfl, _, rfl, ?_⟩
    refine ite2 (fun hb => ?_) (fun hb => ?_)
    · have hb' : r < (hs q (c + 1) m).length := by have := of_decide_eq_true hb; omega
      rw [List.getElem?_append_left (by rw [List.length_map]; exact hb'), List.getElem?_map] at htl
      obtain ⟨t', ht', e⟩ := Option.map_eq_some_iff.mp htl
      subst e
      refine ⟨_, rfl, .inl ⟨rfl, _, SqL.of hF⟩, _, rfl, l, _, _, rfl, rfl, hF, by rw [List.length_map]; omega, ?_⟩
      refine ⟨_, rfl, _, _, rfl, rfl, m - (c + 1), by omega, F ++ [(c : Int)], t', r, c + 1, some (.int ((hs q (c + 1) m).length : Nat)), rfl, sm.upd hl, ?_, ?_, by omega, rfl, ?_, ?_⟩
      · rw [upd_same, List.map_append]; rfl
      · rw [List.length_append]; show F.length + 1 ≤ n; omega
      · rw [List.length_append, show n - (F.length + [(c : Int)].length) = q by show n - (F.length + 1) = q; omega]
        exact ht'
      · rw [← hFt, List.append_assoc]; rfl
    · have hb' : ¬ r < (hs q (c + 1) m).length := fun z => hb (decide_eq_true (by omega))
      rw [List.getElem?_append_right (by rw [List.length_map]; omega), List.length_map] at htl
      refine ⟨_, rfl, _, rfl, _, _, rfl, rfl, _, rfl, _, _, rfl, rfl, m - (c + 1), by omega, F, tail, r - (hs q (c + 1) m).length, c + 1, some (.int ((hs q (c + 1) m).length : Nat)), ?_, sm, hF, hFl, by omega, rfl, ?_, hFt⟩
      · show [some (V.int n), some (V.int m), some (V.int k), some (V.int ((N : Int) - 1)), some (V.ref l), some (V.int ((r : Int) - ((hs q (c + 1) m).length : Nat))), some (V.int ((c : Int) + 1)), some (V.int ((hs q (c + 1) m).length : Nat))] = _
        rw [show (r : Int) - ((hs q (c + 1) m).length : Nat) = ((r - (hs q (c + 1) m).length : Nat) : Int) by omega]
        rfl
      · rw [hq]; exact htl
  · have hge : n ≤ F.length := by
      have : ¬ ((F.length : Int) < n) := fun z => hpos (decide_eq_true z)
      omega
    rw [show n - F.length = 0 by omega] at htl
    have e0 : tail = [] := by
      have : ([[]] : List (List Int))[r]? = some tail := htl
      have hm := List.mem_of_getElem? this
      simpa using hm
    rw [e0, List.append_nil] at hFt
    subst hFt
    exact ⟨_, rfl, kk l H5 hl sm hF⟩
def spHandNumber (NP NH : Addr) : Sp := fun vs H Q E => ∃ (i j : Int) (a : Addr) (ns : List Int), vs = [.int i, .int j, .ref a] ∧ H a = some (.lst (ns.map V.int)) ∧ ns.length ≤ 60 ∧ Fig i ∧ Fig j ∧ (∀ x ∈ ns, Fig x) ∧
  (PackOk i j → HandOk i j ns → ∀ H' : Hp, Same H H' → Q (.int (hix i.toNat j.toNat ns : Nat)) H') ∧
  (¬ PackOk i j → ∀ H', Same H H' → E (.ref NP) none H') ∧ (PackOk i j → ¬ HandOk i j ns → ∀ H', Same H H' → E (.ref NH) none H')
/-! ### hand_number -/
theorem sc_hand_number : FnScope ["size", "cards", "hand", "number", "least", "place", "held", "card"] ["size", "cards", "hand"] (defScope (top 33)) := ⟨rfl, rfl, rfl, by decide +kernel, rfl, by decide +kernel, by decide +kernel⟩
theorem cal_hand_number (D : ∃ f fd, DefAt K mg "hand_number" (top 33) f fd) (B : Blt mg) (S : Cl K mg c_TellError c_NoPack c_NoHand c_NoRow c_NoCard c_NoNumber c_NoPlan c_NoNote) (C : Cn mg) (c_check_pack : Cal P w K mg base (CXe P w) 3 "check_pack" ["size", "cards"] (spCheckPack c_NoPack)) (c_check_hand : Cal P w K mg base (CXe P w) 2 "check_hand" ["size", "cards", "hand"] (spCheckHand c_NoHand)) (c_hands_going_on : Cal P w K mg base CX0 3 "hands_going_on" ["size", "cards", "place", "card"] spGoing) : Cal P w K mg base (CXe P w) 5 "hand_number" ["size", "cards", "hand"] (spHandNumber c_NoPack c_NoHand) := by
  obtain ⟨f, fd, D⟩ := D
  refine Cal.of D (D.fn.binds (ps := ["size", "cards", "hand"]) fun _ _ _ _ _ _ us hl => match us, hl with | [_, _, _], _ => rfl) ?_
  refine D.fn.okE sc_hand_number (fun vs H Q E h => by (repeat (first | (have hz := h.1; subst hz; rfl) | (obtain ⟨_, h⟩ := h)))) (fun cdv A outer s H vs Q E hr h th => ?_)
  obtain ⟨i, j, a, ns, rfl, ha, hz, fi, fj, fx, k1, k2, k3⟩ := h
  refine ⟨_, (pss_cons (ps_expr (pe_calE c_check_pack (hr.mono (by decide)) (by rfl) th.pass (pa_cons (pv 0) (pa_cons (pv 1) pa_nil))))
    (pss_cons (ps_expr (pe_calE c_check_hand (hr.mono (by decide)) (by rfl) th.pass (pa_cons (pv 0) (pa_cons (pv 1) (pa_cons (pv 2) pa_nil)))))
    (pss_cons (ps_set (i := 3) sc_hand_number.nd rfl (Or.inl rfl) pe_int)
    (pss_cons (ps_set (i := 4) sc_hand_number.nd rfl (Or.inl rfl) pe_int)
    (pss_cons (ps_for th.own rfl (pi_enum (by rfl) B.enumerate (pa_cons (pv 2) pa_nil)) (pg_tup rfl (pgs_cons (pg_name (i := 5) sc_hand_number.nd rfl (Or.inl rfl)) (pgs_cons (pg_name (i := 6) sc_hand_number.nd rfl (Or.inl rfl)) pgs_nil)))
      (pss_cons (ps_for th.own rfl (pi_range2 rfl B.range (pa_cons (pv 4) (pa_cons (pv 6) pa_nil))) (pg_name (i := 7) sc_hand_number.nd rfl (Or.inl rfl))
        (pss_one (ps_set (i := 3) sc_hand_number.nd rfl (Or.inl rfl) (pe_op op_add (pv 3) (pe_cal c_hands_going_on (hr.mono (by decide)) (by rfl) pass0 (pa_cons (pv 0) (pa_cons (pv 1) (pa_cons (pv 5) (pa_cons (pv 7) pa_nil)))))))))
      (pss_one (ps_set (i := 4) sc_hand_number.nd rfl (Or.inl rfl) (pe_op op_add (pv 6) pe_int)))))
    (pss_one (ps_ret (pv 3)))))))), ?_⟩
  have hs' : sizeLine = 16777216 := sizeLine_eq
  walk_at "rd"
  refine ⟨i, j, rfl, fi, fj, fun pk => ?_, fun z => k2 z H (Same.refl H)⟩
  walk_at "rd"
  refine ⟨i, j, a, ns, rfl, ha, hz, fi, fj, fx, fun hok H1 s1 => ?_, fun z H1 s1 => k3 pk z H1 s1⟩
  have kk := k1 pk hok
  obtain ⟨p1, p2, p3, p4⟩ := pk
  obtain ⟨n, rfl⟩ : ∃ n : Nat, i = (n : Int) := ⟨i.toNat, by omega⟩
  obtain ⟨m, rfl⟩ : ∃ m : Nat, j = (m : Int) := ⟨j.toNat, by omega⟩
  have toN : ((n : Int)).toNat = n := by omega
  have toM : ((m : Int)).toNat = m := by omega
  rw [toN] at p4
  rw [toN, toM] at kk
  have ml := (most_le (n := n) (by omega) (by omega)).2
  obtain ⟨o1, hri, bd⟩ := hok
  have hl : ns.length = n := by omega
  have ha1 := s1 a _ ha
  have hm0 : ns ∈ hs n 0 m := (mem_hs n 0 m ns).mpr ⟨hl, hri, fun x hx => by have := bd x hx; omega⟩
  walk_at "rd"
  refine ⟨a, _, rfl, ha1, for_enum (xs := ns.map V.int) (fun q σ H2 => Same H1 H2 ∧ ∃ (nb lo : Nat) (v5 v6 v7 : Option V), σ = [some (.int n), some (.int m), some (.ref a), some (.int nb), some (.int lo), v5, v6, v7] ∧
      nb + (hs (n - q) lo m).idxOf (ns.drop q) = hix n m ns ∧ ns.drop q ∈ hs (n - q) lo m)
    ⟨Same.refl H1, 0, 0, none, none, none, rfl, by rw [List.drop_zero, Nat.sub_zero, Nat.zero_add]; rfl, by rw [List.drop_zero]; exact hm0⟩ (fun q σ H2 _ h => SqL.of (h.1 a _ ha1)) ?_ ?_⟩
  · rintro q x p σ H2 hx ⟨sm, nb, lo, v5, v6, v7, rfl, hnb, hmem⟩ hp
    obtain ⟨hq, rfl⟩ := int_get hx
    have sm1 := sm.new (o := .tup [.int q, .int ns[q]]) hp
    have ed : ns.drop q = ns[q] :: ns.drop (q + 1) := List.drop_eq_getElem_cons hq
    rw [ed] at hnb hmem
    obtain ⟨u, hu⟩ : ∃ u, n - q = u + 1 := ⟨n - q - 1, by omega⟩
    rw [hu] at hnb hmem
    obtain ⟨m1, m2, m3⟩ := (mem_hs _ _ _ _).mp hmem
    have b0 := m3 ns[q] List.mem_cons_self
    obtain ⟨x, hxx⟩ : ∃ x : Nat, ns[q] = (x : Int) := ⟨ns[q].toNat, by omega⟩
    rw [hxx] at hnb m2 m3 b0 sm1 ⊢
    obtain ⟨pw1, pw2⟩ := List.pairwise_cons.mp m2
    refine ⟨p, _, rfl, SqT.of upd_same, rfl, _, _, rfl, _, _, rfl, rfl, ?_⟩
    generalize upd H2 p (.tup [.int q, .int (x : Int)]) = H3 at sm1 ⊢
    refine ⟨_, rfl, _, rfl, (lo : Int), (x : Int), rfl, ⟨by omega, by omega, by omega, by omega⟩, for_range (fun w σ H4 => H4 = H3 ∧ ∃ (nb' : Nat) (v7 : Option V), σ = [some (.int n), some (.int m), some (.ref a), some (.int nb'), some (.int lo), some (.int q), some (.int x), v7] ∧ lo + w ≤ x ∧
      nb' + (hs (u + 1) (lo + w) m).idxOf ((x : Int) :: ns.drop (q + 1)) = hix n m ns) ⟨rfl, nb, v7, rfl, by omega, hnb⟩ ?_ ?_⟩
    · rintro w σ H4 hw ⟨rfl, nb', v7, rfl, hwx, hnb'⟩
      have hw' : w < ((x : Int) - (lo : Int)).toNat := hw
      refine ⟨_, rfl, _, rfl, _, rfl, _, rfl, _, rfl, n, m, q, lo + w, ?_, by omega, by omega, by omega, by omega, ?_⟩
      · show [V.int n, V.int m, V.int q, V.int ((lo : Int) + (w : Int))] = _
        rw [show (lo : Int) + (w : Int) = ((lo + w : Nat) : Int) by omega]
      rw [ix_skip (by omega) (by omega)] at hnb'
      have eb : binom (m - (lo + w) - 1) (n - q - 1) = (hs u (lo + w + 1) m).length := by
        rw [hs_len', show n - q - 1 = u by omega, show m - (lo + w) - 1 = m - (lo + w + 1) by omega]
      rw [eb]
      refine ⟨_, _, rfl, rfl, rfl, nb' + (hs u (lo + w + 1) m).length, some (.int ((lo : Int) + (w : Int))), rfl, by omega, ?_⟩
      rw [← hnb', show lo + (w + 1) = lo + w + 1 by omega]
      omega
    · rintro σ H4 ⟨rfl, nb', v7, rfl, hwx, hnb'⟩
      have ex : lo + ((x : Int) - (lo : Int)).toNat = x := by omega
      rw [ex] at hnb'
      have ht : ns.drop (q + 1) ∈ hs u (x + 1) m := (mem_hs _ _ _ _).mpr ⟨by have := m1; rw [List.length_cons] at this; omega, pw2, fun y hy => by
        have y1 := pw1 y hy
        have y2 := m3 y (List.mem_cons_of_mem _ hy)
        omega⟩
      rw [ix_here (by omega) ht] at hnb'
      refine ⟨_, rfl, _, _, rfl, rfl, sm1, nb', x + 1, some (.int q), some (.int x), v7, rfl, ?_, ?_⟩
      · rw [show n - (q + 1) = u by omega]; exact hnb'
      · rw [show n - (q + 1) = u by omega]; exact ht
  · rintro σ H2 ⟨sm, nb, lo, v5, v6, v7, rfl, hnb, hmem⟩
    rw [List.length_map, List.drop_length, hl, Nat.sub_self] at hnb
    have e : nb = hix n m ns := by
      rw [← hnb]
      show nb = nb + ([[]] : List (List Int)).idxOf []
      simp
    subst e
    exact ⟨_, rfl, kk H2 (s1.trans sm)⟩

end
end Q01

set_option Elab.async false
set_option linter.all false
set_option maxRecDepth 100000
set_option maxHeartbeats 4000000
namespace Q01
open PySem L2 K2
section
variable {P : Program} {w : World} {K : PySem.W.Frag} {mg : Str → Option Value} {base : Heap} {c_TellError c_NoPack c_NoHand c_NoRow c_NoCard c_NoNumber c_NoPlan c_NoNote : Addr}
/-- which of the seven the class C is -/
structure IsOne (K : PySem.W.Frag) (C c0 c1 c2 c3 c4 c5 c6 : Addr) (b0 b1 b2 b3 b4 b5 b6 : Bool) : Prop where
  ek : ExcK K C
  k0 : PySem.W.kitOne K (.ref C) (.ref c0) = some b0
  k1 : PySem.W.kitOne K (.ref C) (.ref c1) = some b1
  k2 : PySem.W.kitOne K (.ref C) (.ref c2) = some b2
  k3 : PySem.W.kitOne K (.ref C) (.ref c3) = some b3
  k4 : PySem.W.kitOne K (.ref C) (.ref c4) = some b4
  k5 : PySem.W.kitOne K (.ref C) (.ref c5) = some b5
  k6 : PySem.W.kitOne K (.ref C) (.ref c6) = some b6
  kV : PySem.W.kitOne K (.ref C) (.type "ValueError") = some true
/-- C is the j-th of the seven, and caught as a TellError -/
structure Kind (K : PySem.W.Frag) (c0 c1 c2 c3 c4 c5 c6 cT C : Addr) (j : Nat) : Prop where
  cl : Clause K C cT
  one : ∃ b0 b1 b2 b3 b4 b5 b6, IsOne K C c0 c1 c2 c3 c4 c5 c6 b0 b1 b2 b3 b4 b5 b6 ∧ (([V.bl b0, V.bl b1, V.bl b2, V.bl b3] ++ [V.bl b4, V.bl b5, V.bl b6]).countP fun z => eqV z (.bl true)) = 1 ∧
    (([V.bl b0, V.bl b1, V.bl b2, V.bl b3] ++ [V.bl b4, V.bl b5, V.bl b6]).map fun z => eqV z (.bl true)).idxOf? true = some j
theorem kit_one {C D : Addr} {b : Bool} (h1 : PySem.W.typeIn K (.ref D) = some (.type "type")) (h2 : PySem.W.mroIn K D (.type "object") = some true) (h3 : PySem.W.mroIn K C (.ref D) = some b) (h4 : (C == D) = true → b = true) : PySem.W.kitOne K (.ref C) (.ref D) = some b := by
  unfold PySem.W.kitOne
  by_cases q : (Value.ref C == Value.ref D) = true
  · rw [if_pos q]
    have e : C = D := Value.ref.inj (beq_iff_eq.mp q)
    rw [h4 (by rw [e]; exact beq_self_eq_true D)]
  · rw [if_neg q]
    unfold PySem.W.kitCls
    obtain ⟨cd, hc, _⟩ := Option.bind_eq_some_iff.mp h2
    show (if ((PySem.W.clsIn K D).isSome && PySem.W.typeIn K (.ref D) == some (.type "type")) = true then PySem.W.subIn K (.ref C) (.ref D) else none) = some b
    rw [hc, h1, if_pos (by simp)]
    exact h3
theorem kit_value {C : Addr} (h : PySem.W.mroIn K C (.type "ValueError") = some true) : PySem.W.kitOne K (.ref C) (.type "ValueError") = some true := by
  unfold PySem.W.kitOne
  rw [if_neg (by intro q; cases beq_iff_eq.mp q)]
  show (if PySem.W.kitMeta "ValueError" = true then PySem.W.subIn K (.ref C) (.type "ValueError") else none) = some true
  rw [if_pos (by decide +kernel)]
  exact h
abbrev KindOf (K : PySem.W.Frag) (c_TellError c_NoPack c_NoHand c_NoRow c_NoCard c_NoNumber c_NoPlan c_NoNote C : Addr) (j : Nat) : Prop := Kind K c_NoPack c_NoHand c_NoRow c_NoCard c_NoNumber c_NoPlan c_NoNote c_TellError C j
def spWhich (K : PySem.W.Frag) (c_TellError c_NoPack c_NoHand c_NoRow c_NoCard c_NoNumber c_NoPlan c_NoNote : Addr) : Sp := fun vs H Q _ => ∃ (a C : Addr) (j : Nat), vs = [.ref a] ∧ KindOf K c_TellError c_NoPack c_NoHand c_NoRow c_NoCard c_NoNumber c_NoPlan c_NoNote C j ∧ H a = some (HExc C a) ∧ ∀ H', Same H H' → Q (.int j) H'
/-! ### _law_which -/
theorem sc__law_which : FnScope ["e", "kinds"] ["e"] (defScope (top 43)) := ⟨rfl, rfl, rfl, by decide +kernel, rfl, by decide +kernel, by decide +kernel⟩
theorem cal__law_which (D : ∃ f fd, DefAt K mg "_law_which" (top 43) f fd) (B : Blt mg) (S : Cl K mg c_TellError c_NoPack c_NoHand c_NoRow c_NoCard c_NoNumber c_NoPlan c_NoNote) (C : Cn mg) : CalH P w K mg base 1 "_law_which" ["e"] (spWhich K c_TellError c_NoPack c_NoHand c_NoRow c_NoCard c_NoNumber c_NoPlan c_NoNote) := by
  obtain ⟨f, fd, D⟩ := D
  refine CalH.of D (D.fn.binds (ps := ["e"]) fun _ _ _ _ _ _ us hl => match us, hl with | [_], _ => rfl) ?_
  refine D.fn.okH sc__law_which (fun vs H Q E h => by (repeat (first | (have hz := h.1; subst hz; rfl) | (obtain ⟨_, h⟩ := h)))) (fun cdv A outer s H vs Q E hr h => ?_)
  obtain ⟨a, C, j, rfl, kd, ha, k⟩ := h
  obtain ⟨b0, b1, b2, b3, b4, b5, b6, O, hc, hj⟩ := kd.one
  refine ⟨_, (pss_cons (ps_set (i := 1) sc__law_which.nd rfl (Or.inl rfl) (pe_lst (pa_cons (pe_callB call_isiX (by rfl) B.isinstance (by decide +kernel) (pa_cons (pv 0) (pa_cons (pe_glob (v := .ref c_NoPack) (by rfl) S.NoPack rfl) pa_nil))) (pa_cons (pe_callB call_isiX (by rfl) B.isinstance (by decide +kernel) (pa_cons (pv 0) (pa_cons (pe_glob (v := .ref c_NoHand) (by rfl) S.NoHand rfl) pa_nil))) (pa_cons (pe_callB call_isiX (by rfl) B.isinstance (by decide +kernel) (pa_cons (pv 0) (pa_cons (pe_glob (v := .ref c_NoRow) (by rfl) S.NoRow rfl) pa_nil))) (pa_cons (pe_callB call_isiX (by rfl) B.isinstance (by decide +kernel) (pa_cons (pv 0) (pa_cons (pe_glob (v := .ref c_NoCard) (by rfl) S.NoCard rfl) pa_nil))) pa_nil))))))
    (pss_cons (ps_set (i := 1) sc__law_which.nd rfl (Or.inl rfl) (pe_op op_cat (pv 1) (pe_lst (pa_cons (pe_callB call_isiX (by rfl) B.isinstance (by decide +kernel) (pa_cons (pv 0) (pa_cons (pe_glob (v := .ref c_NoNumber) (by rfl) S.NoNumber rfl) pa_nil))) (pa_cons (pe_callB call_isiX (by rfl) B.isinstance (by decide +kernel) (pa_cons (pv 0) (pa_cons (pe_glob (v := .ref c_NoPlan) (by rfl) S.NoPlan rfl) pa_nil))) (pa_cons (pe_callB call_isiX (by rfl) B.isinstance (by decide +kernel) (pa_cons (pv 0) (pa_cons (pe_glob (v := .ref c_NoNote) (by rfl) S.NoNote rfl) pa_nil))) pa_nil))))))
    (pss_cons (ps_if (PW.pt (pw_or (pt_not (pt_val (pe_callB call_isiX (by rfl) B.isinstance (by decide +kernel) (pa_cons (pv 0) (pa_cons (pe_bltn (v := .ty "ValueError") (by rfl) B.valueError (by decide +kernel) rfl) pa_nil))))) (pw_or1 (pt_cmpR op_ne (pe_bm PySem.F.plainAttrs_list PySem.F.slot_list_count PySem.F.type_list_count mt_count (pv 1) (pa_cons pe_bl pa_nil)) pe_int (nomark _)))))
      (pss_one (ps_ret pe_int))
      pss_nil)
    (pss_one (ps_ret (pe_bm PySem.F.plainAttrs_list PySem.F.slot_list_index PySem.F.type_list_index mt_index (pv 1) (pa_cons pe_bl pa_nil))))))), ?_⟩
  have hs : sizeLine = 16777216 := sizeLine_eq
  have r : ∀ {D : Addr} {b : Bool}, PySem.W.kitOne K (.ref C) (.ref D) = some b → ∀ u, RelV (.ref D) u → PySem.W.kitOne K (.ref C) u = some b := fun e u h => by cases h; exact e
  refine ⟨_, rfl, a, C, _, b0, rfl, ha, O.ek, r O.k0, _, rfl, a, C, _, b1, rfl, ha, O.ek, r O.k1, _, rfl, a, C, _, b2, rfl, ha, O.ek, r O.k2, _, rfl, a, C, _, b3, rfl, ha, O.ek, r O.k3, by show 4 ≤ sizeLine; omega, fun p hp => ?_⟩
  have s1 := same_new (o := .lst [.bl b0, .bl b1, .bl b2, .bl b3]) (Same.refl H) hp
  have ha1 := s1 a _ ha
  refine ⟨_, rfl, _, rfl, a, C, _, b4, rfl, ha1, O.ek, r O.k4, _, rfl, a, C, _, b5, rfl, ha1, O.ek, r O.k5, _, rfl, a, C, _, b6, rfl, ha1, O.ek, r O.k6, by show 3 ≤ sizeLine; omega, fun q hq => ?_⟩
  have nq : p ≠ q := fun z => by rw [← z, upd_same] at hq; cases hq
  have s2 := same_new (o := .lst [.bl b4, .bl b5, .bl b6]) s1 (s1.free hq)
  refine ⟨p, q, _, _, rfl, rfl, by rw [upd_ne nq, upd_same], upd_same, by show 7 ≤ sizeLine; omega, fun l hl => ?_⟩
  have s3 := same_new (o := .lst ([.bl b0, .bl b1, .bl b2, .bl b3] ++ [V.bl b4, V.bl b5, V.bl b6])) s2 (s2.free hl)
  have ff : (([V.bl b0, V.bl b1, V.bl b2, V.bl b3] ++ [V.bl b4, V.bl b5, V.bl b6]).all flatV) = true := rfl
  refine ⟨_, rfl, a, C, _, true, rfl, s3 a _ ha, O.ek, fun u h => by cases h; exact O.kV, true, rfl, iteF ?_⟩
  refine ⟨_, rfl, .inl ⟨rfl, _, SqL.of upd_same⟩, l, _, _, rfl, rfl, upd_same, rfl, ff, rfl, _, rfl, ?_⟩
  rw [hc]
  refine iteNS rfl ?_
  exact ⟨_, rfl, .inl ⟨rfl, _, SqL.of upd_same⟩, l, _, _, j, rfl, rfl, upd_same, rfl, ff, hj, k _ s3⟩

end
end Q01

set_option Elab.async false
set_option linter.all false
set_option maxRecDepth 100000
set_option maxHeartbeats 4000000
namespace Q01
open PySem L2 K2
section
variable {P : Program} {w : World} {K : PySem.W.Frag} {mg : Str → Option Value} {base : Heap} {c_TellError c_NoPack c_NoHand c_NoRow c_NoCard c_NoNumber c_NoPlan c_NoNote : Addr}
def AskOk (NP : Addr) (w : Nat) (i j : Int) (H : Hp) (Q : VK) (E : XK) : Prop :=
  (w = 0 ∧ (2 ≤ i → i ≤ 5 → ∀ H', Same H H' → Q (.int (mostN i.toNat : Nat)) H') ∧ (¬ (2 ≤ i ∧ i ≤ 5) → ∀ H', Same H H' → E (.ref NP) none H')) ∨
  (w = 1 ∧ (2 ≤ i → i ≤ 5 → i ≤ j → j ≤ 500 → ∀ (t : Addr) (H' : Hp), Same H H' → H' t = some (.tup [.int (fall j i.toNat / (fac i.toNat : Nat)), .int (fall j (i.toNat - 1))]) → Q (.ref t) H') ∧ (¬ (2 ≤ i ∧ i ≤ 5 ∧ i ≤ j ∧ j ≤ 500) → ∀ H', Same H H' → E (.ref NP) none H')) ∨
  (2 ≤ w ∧ w ≤ 5 ∧ ¬ PackOk i j ∧ ∀ H', Same H H' → E (.ref NP) none H')
def spAsked (NP : Addr) : Sp := fun vs H Q E => ∃ (w : Nat) (i j : Int), vs = [.int w, .int i, .int j] ∧ Fig i ∧ Fig j ∧ AskOk NP w i j H Q E
/-! ### _law_asked -/
theorem sc__law_asked : FnScope ["way", "size", "cards"] ["way", "size", "cards"] (defScope (top 44)) := ⟨rfl, rfl, rfl, by decide +kernel, rfl, by decide +kernel, by decide +kernel⟩
theorem cal__law_asked (D : ∃ f fd, DefAt K mg "_law_asked" (top 44) f fd) (B : Blt mg) (S : Cl K mg c_TellError c_NoPack c_NoHand c_NoRow c_NoCard c_NoNumber c_NoPlan c_NoNote) (C : Cn mg) (c_hand_number : Cal P w K mg base (CXe P w) 5 "hand_number" ["size", "cards", "hand"] (spHandNumber c_NoPack c_NoHand)) (c_most : Cal P w K mg base (CXe P w) 2 "most" ["size"] (spMostP c_NoPack)) (c_counts : Cal P w K mg base (CXe P w) 3 "counts" ["size", "cards"] (spCounts c_NoPack)) (c_laid : Cal P w K mg base (CXe P w) 5 "laid" ["size", "cards", "hand"] (spLaidP c_NoPack c_NoHand)) (c_told : Cal P w K mg base (CXe P w) 5 "told" ["size", "cards", "row"] (spToldP c_NoPack c_NoRow c_NoCard)) (c_hand_at : Cal P w K mg base (CXe P w) 5 "hand_at" ["size", "cards", "number"] (spHandAt c_NoPack c_NoNumber)) : Cal P w K mg base (CXe P w) 6 "_law_asked" ["way", "size", "cards"] (spAsked c_NoPack) := by
  obtain ⟨f, fd, D⟩ := D
  refine Cal.of D (D.fn.binds (ps := ["way", "size", "cards"]) fun _ _ _ _ _ _ us hl => match us, hl with | [_, _, _], _ => rfl) ?_
  refine D.fn.okE sc__law_asked (fun vs H Q E h => by (repeat (first | (have hz := h.1; subst hz; rfl) | (obtain ⟨_, h⟩ := h)))) (fun cdv A outer s H vs Q E hr h th => ?_)
  obtain ⟨w', i, j, rfl, fi, fj, hw⟩ := h
  refine ⟨_, (pss_cons (ps_if (pt_cmpR op_eq (pv 0) pe_int (nomark _))
      (pss_one (ps_ret (pe_calE c_most (hr.mono (by decide)) (by rfl) th.pass (pa_cons (pv 1) pa_nil))))
      pss_nil)
    (pss_cons (ps_if (pt_cmpR op_eq (pv 0) pe_int (nomark _))
      (pss_one (ps_ret (pe_calE c_counts (hr.mono (by decide)) (by rfl) th.pass (pa_cons (pv 1) (pa_cons (pv 2) pa_nil)))))
      pss_nil)
    (pss_cons (ps_if (pt_cmpR op_eq (pv 0) pe_int (nomark _))
      (pss_one (ps_ret (pe_calE c_laid (hr.mono (by decide)) (by rfl) th.pass (pa_cons (pv 1) (pa_cons (pv 2) (pa_cons (pe_lst pa_nil) pa_nil))))))
      pss_nil)
    (pss_cons (ps_if (pt_cmpR op_eq (pv 0) pe_int (nomark _))
      (pss_one (ps_ret (pe_calE c_told (hr.mono (by decide)) (by rfl) th.pass (pa_cons (pv 1) (pa_cons (pv 2) (pa_cons (pe_lst (pa_cons (pe_un un_neg pe_int) pa_nil)) pa_nil))))))
      pss_nil)
    (pss_cons (ps_if (pt_cmpR op_eq (pv 0) pe_int (nomark _))
      (pss_one (ps_ret (pe_calE c_hand_at (hr.mono (by decide)) (by rfl) th.pass (pa_cons (pv 1) (pa_cons (pv 2) (pa_cons (pe_un un_neg pe_int) pa_nil))))))
      pss_nil)
    (pss_one (ps_ret (pe_calE c_hand_number (hr.mono (by decide)) (by rfl) th.pass (pa_cons (pv 1) (pa_cons (pv 2) (pa_cons (pe_lst pa_nil) pa_nil))))))))))), ?_⟩
  have hs : sizeLine = 16777216 := sizeLine_eq
  rcases hw with ⟨rfl, k1, k2⟩ | ⟨rfl, k1, k2⟩ | ⟨w2, w5, np, k2⟩
  · walk_at "rdi"
    exact ⟨fi, fun h2 h5 => k1 h2 h5 H (Same.refl H), fun z => k2 z H (Same.refl H)⟩
  · walk_at "rdi"
    exact ⟨i, j, rfl, fi, fj, fun h2 h5 h3 h4 t ht => k1 h2 h5 h3 h4 t _ ((Same.refl H).new ht) upd_same, fun z => k2 z H (Same.refl H)⟩
  · have hw : w' = 2 ∨ w' = 3 ∨ w' = 4 ∨ w' = 5 := by omega
    rcases hw with rfl | rfl | rfl | rfl
    · walk_at "rdi"
      refine ⟨by show 0 ≤ sizeLine; omega, fun p hp => ?_⟩
      have s1 := (Same.refl H).new (o := .lst []) hp
      exact ⟨i, j, p, [], rfl, upd_same, by simp, fi, fj, (fun x hx => by cases hx), fun z => absurd z np, fun _ H' s' => k2 H' (s1.trans s'), fun z => absurd z np⟩
    · walk_at "rdi"
      refine ⟨by show 1 ≤ sizeLine; omega, fun p hp => ?_⟩
      have s1 := (Same.refl H).new (o := .lst [.int (-1)]) hp
      have f1 : ∀ x ∈ [(-1 : Int)], Fig x := fun x hx => by
        have : x = -1 := by simpa using hx
        rw [this]
        exact fig_small (by decide)
      exact ⟨i, j, p, [-1], rfl, upd_same, by simp, fi, fj, f1, fun z => absurd z np, fun _ H' s' => k2 H' (s1.trans s'), fun z => absurd z np⟩
    · walk_at "rdi"
      exact ⟨i, j, -1, rfl, fi, fj, fig_small (by decide), fun z => absurd z np, fun _ => k2, fun z => absurd z np⟩
    · walk_at "rdi"
      refine ⟨by show 0 ≤ sizeLine; omega, fun p hp => ?_⟩
      have s1 := (Same.refl H).new (o := .lst []) hp
      exact ⟨i, j, p, [], rfl, upd_same, by simp, fi, fj, (fun x hx => by cases hx), fun z => absurd z np, fun _ H' s' => k2 H' (s1.trans s'), fun z => absurd z np⟩
def MetOk (w : Nat) (i j : Int) (H : Hp) (Q : VK) : Prop := AskOk 0 w i j H (fun v H1 => ∀ t, H1 t = none → Q (.ref t) (upd H1 t (.tup [.int (-1), v]))) (fun _ _ H1 => ∀ t, H1 t = none → Q (.ref t) (upd H1 t (.tup [.int 0, .non])))
def spMet01 : Sp := fun vs H Q _ => ∃ (w : Nat) (i j : Int), vs = [.int w, .int i, .int j] ∧ Fig i ∧ Fig j ∧ MetOk w i j H Q
/-! ### _law_met -/
theorem sc__law_met : FnScope ["way", "size", "cards", "which", "found", "e"] ["way", "size", "cards"] (defScope (top 45)) := ⟨rfl, rfl, rfl, by decide +kernel, rfl, by decide +kernel, by decide +kernel⟩
theorem cal__law_met (D : ∃ f fd, DefAt K mg "_law_met" (top 45) f fd) (B : Blt mg) (S : Cl K mg c_TellError c_NoPack c_NoHand c_NoRow c_NoCard c_NoNumber c_NoPlan c_NoNote) (C : Cn mg) (k_NoPack : KindOf K c_TellError c_NoPack c_NoHand c_NoRow c_NoCard c_NoNumber c_NoPlan c_NoNote c_NoPack 0) (c__law_asked : Cal P w K mg base (CXe P w) 6 "_law_asked" ["way", "size", "cards"] (spAsked c_NoPack)) (c__law_which : CalH P w K mg base 1 "_law_which" ["e"] (spWhich K c_TellError c_NoPack c_NoHand c_NoRow c_NoCard c_NoNumber c_NoPlan c_NoNote)) : Cal P w K mg base CX0 7 "_law_met" ["way", "size", "cards"] spMet01 := by
  obtain ⟨f, fd, D⟩ := D
  refine Cal.of D (D.fn.binds (ps := ["way", "size", "cards"]) fun _ _ _ _ _ _ us hl => match us, hl with | [_, _, _], _ => rfl) ?_
  refine D.fn.ok sc__law_met (fun vs H Q E h => by (repeat (first | (have hz := h.1; subst hz; rfl) | (obtain ⟨_, h⟩ := h)))) (fun cdv A outer s H vs Q E hr h => ?_)
  obtain ⟨w', i, j, rfl, fi, fj, hw⟩ := h
  refine ⟨_, (pss_cons (ps_set (i := 3) sc__law_met.nd rfl (Or.inl rfl) (pe_un un_neg pe_int))
    (pss_cons (ps_set (i := 4) sc__law_met.nd rfl (Or.inl rfl) pe_non)
    (pss_cons (ps_try (i := 5) rfl rfl rfl sc__law_met.nd rfl rfl (by rfl) S.TellError
      (fun pins Ety E hp => (pss_one (ps_set (i := 4) sc__law_met.nd rfl (Or.inl rfl) (pe_calE c__law_asked (hr.mono (by decide)) (by rfl) hp (pa_cons (pv 0) (pa_cons (pv 1) (pa_cons (pv 2) pa_nil)))))))
      (fun pins v => (pss_one (ps_set (i := 3) sc__law_met.nd rfl (Or.inl rfl) (pe_calH c__law_which ((hr.mono (by decide)).toH _) (by rfl) (pa_cons (pv 5) pa_nil))))))
    (pss_one (ps_ret (pe_tup (pa_cons (pv 3) (pa_cons (pv 4) pa_nil)))))))), ?_⟩
  have hs : sizeLine = 16777216 := sizeLine_eq
  have wl : w' ≤ 5 := by rcases hw with ⟨rfl, _⟩ | ⟨rfl, _⟩ | ⟨_, h, _⟩ <;> omega
  walk_at "rd"
  dsimp only
  refine ⟨fun σ' C' _ H6 => σ' = [some (.int w'), some (.int i), some (.int j), some (.int (-1)), some .non, none] ∧ C' = .ref c_NoPack ∧ Same H H6 ∧ ∀ H', Same H6 H' → ∀ t, H' t = none → Q (.ref t) (upd H' t (.tup [.int 0, .non])), ?_, ?_⟩
  · walk_at "rd"
    refine ⟨w', i, j, rfl, fi, fj, ?_⟩
    have fin : ∀ (v : V) (H6 : Hp), (∀ t, H6 t = none → Q (.ref t) (upd H6 t (.tup [.int (-1), v]))) → tRet (tTup (tCons (tVar 3) (tCons (tVar 4) tNil))) { nx := fun _ H' => Q .non H', rt := Q } [some (.int w'), some (.int i), some (.int j), some (.int (-1)), some v, none] H6 := fun v H6 h => by
      walk_at "rd"
      exact ⟨by show 2 ≤ sizeLine; omega, h⟩
    rcases hw with ⟨rfl, k1, k2⟩ | ⟨rfl, k1, k2⟩ | ⟨w2, w5, np, k2⟩
    · exact .inl ⟨rfl, fun h2 h5 H' s' => fin _ H' (k1 h2 h5 H' s'), fun z H6 s6 => ⟨rfl, rfl, s6, fun H' s' => k2 z H' (s6.trans s')⟩⟩
    · exact .inr (.inl ⟨rfl, fun h2 h5 h3 h4 t H' s' ht => fin _ H' (k1 h2 h5 h3 h4 t H' s' ht), fun z H6 s6 => ⟨rfl, rfl, s6, fun H' s' => k2 z H' (s6.trans s')⟩⟩)
    · exact .inr (.inr ⟨w2, w5, np, fun H6 s6 => ⟨rfl, rfl, s6, fun H' s' => k2 H' (s6.trans s')⟩⟩)
  · rintro σ' C' H6 ⟨rfl, eC, s6, z⟩
    cases eC
    refine ⟨k_NoPack.cl, fun e he => ?_⟩
    refine ⟨_, rfl, e, c_NoPack, 0, rfl, k_NoPack, upd_same, fun H8 s8 => ?_⟩
    walk_at "rd"
    exact ⟨by show 2 ≤ sizeLine; omega, z H8 (((Same.refl H6).new he).trans s8)⟩
def spSize (K : PySem.W.Frag) : Sp := fun vs H Q _ => ∃ (a : Addr) (ns : List Int), vs = [.ref a] ∧ SqL K H a (ns.map V.int) ∧ ∀ (c : Int) (H' : Hp), c.natAbs ≤ 10 ^ 30 → Same H H' → Q (.int c) H'
theorem fig_far {i : Int} (h : i.natAbs ≤ 10 ^ 30) : Fig i := by
  unfold Fig
  by_cases z : i.natAbs = 0
  · rw [z]; decide
  · rw [Nat.log2_lt z]
    exact Nat.lt_of_le_of_lt h (Nat.lt_of_lt_of_le (by decide : 10 ^ 30 < 2 ^ 100) (Nat.pow_le_pow_right (by decide) (by decide)))
/-! ### _law_size -/
theorem sc__law_size : FnScope ["script"] ["script"] (defScope (top 46)) := ⟨rfl, rfl, rfl, by decide +kernel, rfl, by decide +kernel, by decide +kernel⟩
theorem cal__law_size (D : ∃ f fd, DefAt K mg "_law_size" (top 46) f fd) (B : Blt mg) (S : Cl K mg c_TellError c_NoPack c_NoHand c_NoRow c_NoCard c_NoNumber c_NoPlan c_NoNote) (C : Cn mg) (c__law_cell : Cal P w K mg base CX0 1 "_law_cell" ["script", "k"] (spCell K)) : Cal P w K mg base CX0 2 "_law_size" ["script"] (spSize K) := by
  obtain ⟨f, fd, D⟩ := D
  refine Cal.of D (D.fn.binds (ps := ["script"]) fun _ _ _ _ _ _ us hl => match us, hl with | [_], _ => rfl) ?_
  refine D.fn.ok sc__law_size (fun vs H Q E h => by (repeat (first | (have hz := h.1; subst hz; rfl) | (obtain ⟨_, h⟩ := h)))) (fun cdv A outer s H vs Q E hr h => ?_)
  obtain ⟨a, sn, rfl, hS, k⟩ := h
  refine ⟨_, (pss_cons (ps_if (pt_cmpR op_eq (pe_op op_mod (pe_cal c__law_cell (hr.mono (by decide)) (by rfl) pass0 (pa_cons (pv 0) (pa_cons pe_int pa_nil))) pe_int) pe_int (nomark _))
      (pss_one (ps_ret (pe_ix ix_list (pe_lst (pa_cons (pe_op op_pow pe_int pe_int) (pa_cons (pe_op op_sub pe_int (pe_op op_pow pe_int pe_int)) pa_nil))) (pe_op op_mod (pe_cal c__law_cell (hr.mono (by decide)) (by rfl) pass0 (pa_cons (pv 0) (pa_cons pe_int pa_nil))) pe_int) (fun _ _ => rfl))))
      pss_nil)
    (pss_cons (ps_if (pt_cmpR op_eq (pe_op op_mod (pe_cal c__law_cell (hr.mono (by decide)) (by rfl) pass0 (pa_cons (pv 0) (pa_cons pe_int pa_nil))) pe_int) pe_int (nomark _))
      (pss_one (ps_ret (pe_op op_sub (pe_op op_mod (pe_cal c__law_cell (hr.mono (by decide)) (by rfl) pass0 (pa_cons (pv 0) (pa_cons pe_int pa_nil))) pe_int) pe_int)))
      pss_nil)
    (pss_one (ps_ret (pe_op op_add pe_int (pe_op op_mod (pe_cal c__law_cell (hr.mono (by decide)) (by rfl) pass0 (pa_cons (pv 0) (pa_cons pe_int pa_nil))) pe_int)))))), ?_⟩
  have hs : sizeLine = 16777216 := sizeLine_eq
  walk_at "rd"
  refine ⟨a, sn, 0, rfl, hS, by decide, fun c0 => ?_⟩
  walk_at "rd"
  refine ite2 (fun _ => ?_) (fun _ => ?_)
  · walk_at "rd"
    refine ⟨by show 2 ≤ sizeLine; omega, fun p hp => ?_⟩
    have s1 := (Same.refl H).new (o := .lst [.int (10 ^ (29 : Int).toNat), .int (1 - 10 ^ (29 : Int).toNat)]) hp
    walk_at "rd"
    refine ⟨a, sn, 1, rfl, s1.seq hS, by decide, fun c1 => ?_⟩
    walk_at "rd"
    obtain ⟨x, hx, hxn⟩ : ∃ x : Int, atI [V.int (10 ^ (29 : Int).toNat), V.int (1 - 10 ^ (29 : Int).toNat)] (c1 % 2) = some (.int x) ∧ x.natAbs ≤ 10 ^ 30 := by
      have : c1 % 2 = 0 ∨ c1 % 2 = 1 := by omega
      rcases this with q | q <;> rw [q]
      · exact ⟨_, rfl, by decide⟩
      · exact ⟨_, rfl, by decide⟩
    exact ⟨p, _, _, _, rfl, rfl, SqL.of upd_same, hx, k x _ hxn s1⟩
  walk_at "rd"
  refine ⟨a, sn, 0, rfl, hS, by decide, fun c2 => ?_⟩
  walk_at "rd"
  refine ite2 (fun _ => ?_) (fun _ => ?_)
  · walk_at "rd"
    refine ⟨a, sn, 1, rfl, hS, by decide, fun c1 => ?_⟩
    walk_at "rd"
    exact k _ H (by omega) (Same.refl H)
  · walk_at "rd"
    refine ⟨a, sn, 1, rfl, hS, by decide, fun c1 => ?_⟩
    walk_at "rd"
    exact k _ H (by omega) (Same.refl H)
/-! ### _law_cards -/
theorem sc__law_cards : FnScope ["script", "way", "number"] ["script"] (defScope (top 47)) := ⟨rfl, rfl, rfl, by decide +kernel, rfl, by decide +kernel, by decide +kernel⟩
theorem cal__law_cards (D : ∃ f fd, DefAt K mg "_law_cards" (top 47) f fd) (B : Blt mg) (S : Cl K mg c_TellError c_NoPack c_NoHand c_NoRow c_NoCard c_NoNumber c_NoPlan c_NoNote) (C : Cn mg) (c__law_cell : Cal P w K mg base CX0 1 "_law_cell" ["script", "k"] (spCell K)) : Cal P w K mg base CX0 2 "_law_cards" ["script"] (spSize K) := by
  obtain ⟨f, fd, D⟩ := D
  refine Cal.of D (D.fn.binds (ps := ["script"]) fun _ _ _ _ _ _ us hl => match us, hl with | [_], _ => rfl) ?_
  refine D.fn.ok sc__law_cards (fun vs H Q E h => by (repeat (first | (have hz := h.1; subst hz; rfl) | (obtain ⟨_, h⟩ := h)))) (fun cdv A outer s H vs Q E hr h => ?_)
  obtain ⟨a, sn, rfl, hS, k⟩ := h
  refine ⟨_, (pss_cons (ps_set (i := 1) sc__law_cards.nd rfl (Or.inl rfl) (pe_op op_mod (pe_cal c__law_cell (hr.mono (by decide)) (by rfl) pass0 (pa_cons (pv 0) (pa_cons pe_int pa_nil))) pe_int))
    (pss_cons (ps_set (i := 2) sc__law_cards.nd rfl (Or.inl rfl) (pe_cal c__law_cell (hr.mono (by decide)) (by rfl) pass0 (pa_cons (pv 0) (pa_cons pe_int pa_nil))))
    (pss_cons (ps_if (pt_cmpR op_eq (pv 1) pe_int (nomark _))
      (pss_one (ps_ret (pe_op op_mod (pv 2) pe_int)))
      pss_nil)
    (pss_cons (ps_if (pt_cmpR op_eq (pv 1) pe_int (nomark _))
      (pss_one (ps_ret (pe_op op_sub (pe_op op_add (pe_ix ix_list (pe_lst (pa_cons pe_int (pa_cons pe_int (pa_cons pe_int (pa_cons pe_int pa_nil))))) (pe_op op_mod (pv 2) pe_int) (fun _ _ => rfl)) (pe_op op_mod (pe_op op_fdiv (pv 2) pe_int) pe_int)) pe_int)))
      pss_nil)
    (pss_cons (ps_if (pt_cmpR op_eq (pv 1) pe_int (nomark _))
      (pss_one (ps_ret (pe_op op_mod (pv 2) pe_int)))
      pss_nil)
    (pss_one (ps_ret (pe_ix ix_list (pe_lst (pa_cons (pe_op op_pow pe_int pe_int) (pa_cons (pe_op op_sub pe_int (pe_op op_pow pe_int pe_int)) (pa_cons pe_int (pa_cons pe_int (pa_cons pe_int (pa_cons pe_int (pa_cons pe_int pa_nil)))))))) (pe_op op_mod (pv 2) pe_int) (fun _ _ => rfl))))))))), ?_⟩
  have hs : sizeLine = 16777216 := sizeLine_eq
  walk_at "rd"
  refine ⟨a, sn, 2, rfl, hS, by decide, fun c2 => ?_⟩
  walk_at "rd"
  refine ⟨a, sn, 3, rfl, hS, by decide, fun c3 => ?_⟩
  walk_at "rd"
  refine ite2 (fun _ => ?_) (fun _ => ?_)
  · walk_at "rd"
    exact k _ H (by omega) (Same.refl H)
  walk_at "rd"
  refine ite2 (fun _ => ?_) (fun _ => ?_)
  · walk_at "rd"
    refine ⟨by show 4 ≤ sizeLine; omega, fun p hp => ?_⟩
    have s1 := (Same.refl H).new (o := .lst [.int 3, .int 8, .int 27, .int 124]) hp
    walk_at "rd"
    obtain ⟨x, hx, hxn⟩ : ∃ x : Int, atI [V.int 3, V.int 8, V.int 27, V.int 124] (c3 % 4) = some (.int x) ∧ x.natAbs ≤ 124 := by
      have : c3 % 4 = 0 ∨ c3 % 4 = 1 ∨ c3 % 4 = 2 ∨ c3 % 4 = 3 := by omega
      rcases this with q | q | q | q <;> rw [q]
      · exact ⟨_, rfl, by decide⟩
      · exact ⟨_, rfl, by decide⟩
      · exact ⟨_, rfl, by decide⟩
      · exact ⟨_, rfl, by decide⟩
    refine ⟨p, _, _, _, rfl, rfl, SqL.of upd_same, hx, ?_⟩
    walk_at "rd"
    exact k _ _ (by omega) s1
  walk_at "rd"
  refine ite2 (fun _ => ?_) (fun _ => ?_)
  · walk_at "rd"
    exact k _ H (by omega) (Same.refl H)
  walk_at "rd"
  refine ⟨by show 7 ≤ sizeLine; omega, fun p hp => ?_⟩
  have s1 := (Same.refl H).new (o := .lst [.int (10 ^ (29 : Int).toNat), .int (1 - 10 ^ (29 : Int).toNat), .int 0, .int 500, .int 501, .int 1, .int 2]) hp
  walk_at "rd"
  obtain ⟨x, hx, hxn⟩ : ∃ x : Int, atI [V.int (10 ^ (29 : Int).toNat), V.int (1 - 10 ^ (29 : Int).toNat), V.int 0, V.int 500, V.int 501, V.int 1, V.int 2] (c3 % 7) = some (.int x) ∧ x.natAbs ≤ 10 ^ 30 := by
    have : c3 % 7 = 0 ∨ c3 % 7 = 1 ∨ c3 % 7 = 2 ∨ c3 % 7 = 3 ∨ c3 % 7 = 4 ∨ c3 % 7 = 5 ∨ c3 % 7 = 6 := by omega
    rcases this with q | q | q | q | q | q | q <;> rw [q] <;> exact ⟨_, rfl, by decide⟩
  exact ⟨p, _, _, _, rfl, rfl, SqL.of upd_same, hx, k x _ hxn s1⟩

end
end Q01

set_option Elab.async false
set_option linter.all false
set_option maxRecDepth 100000
set_option maxHeartbeats 4000000
namespace Q01
open PySem L2 K2
section
variable {P : Program} {w : World} {K : PySem.W.Frag} {mg : Str → Option Value} {base : Heap} {c_TellError c_NoPack c_NoHand c_NoRow c_NoCard c_NoNumber c_NoPlan c_NoNote : Addr}
theorem pr_head (i : Int) : ∀ k : Nat, pr i (k + 1) = i * pr (i + 1) k
  | 0 => by show 1 * (i + ((0 : Nat) : Int)) = i * 1; omega
  | k + 1 => by
    show pr i (k + 1) * (i + ((k + 1 : Nat) : Int)) = i * (pr (i + 1) k * (i + 1 + (k : Int)))
    rw [pr_head i k, Int.mul_assoc]
    congr 2
    omega
theorem fall_pr (j : Int) : ∀ k : Nat, fall j k = pr (j - k + 1) k
  | 0 => rfl
  | k + 1 => by
    have e : j - ((k + 1 : Nat) : Int) + 1 = j - k := by omega
    rw [e, pr_head, ← fall_pr j k, Int.mul_comm]
    rfl
theorem fall_pos {j : Int} : ∀ k : Nat, (k : Int) ≤ j → 1 ≤ fall j k
  | 0, _ => Int.le_refl 1
  | k + 1, h => by
    have h1 := fall_pos (j := j) k (by omega)
    have h2 : (1 : Int) * 1 ≤ fall j k * (j - k) := Int.mul_le_mul h1 (by omega) (by decide) (by omega)
    exact h2
theorem fall_low {j : Int} (k : Nat) (h : (k : Int) + 1 ≤ j) : j - k ≤ fall j (k + 1) := by
  have h1 := fall_pos (j := j) k (by omega)
  have h2 : 1 * (j - k) ≤ fall j k * (j - k) := Int.mul_le_mul_of_nonneg_right h1 (by omega)
  rw [Int.one_mul] at h2
  exact h2
/-- no more hands than rows just where there are no more cards than the most -/
theorem few_iff {n : Nat} {j : Int} (n2 : 2 ≤ n) (hj : (n : Int) ≤ j) : (fall j n / (fac n : Nat) ≤ fall j (n - 1)) ↔ j ≤ (mostN n : Nat) := by
  have fp := fac_pos n
  obtain ⟨u, rfl⟩ : ∃ u, n = u + 2 := ⟨n - 2, by omega⟩
  have e1 : fall j (u + 2) = fall j (u + 1) * (j - ((u + 1 : Nat) : Int)) := rfl
  have e2 : u + 2 - 1 = u + 1 := rfl
  have low := fall_low (j := j) u (by omega)
  have pos := fall_pos (j := j) (u + 1) (by omega)
  rw [e1, e2]
  have em : ((mostN (u + 2) : Nat) : Int) = (fac (u + 2) : Nat) + ((u + 1 : Nat) : Int) := by unfold mostN; omega
  rw [em]
  generalize fall j (u + 1) = r at low pos ⊢
  obtain ⟨f, hf⟩ : ∃ f : Int, ((fac (u + 2) : Nat) : Int) = f := ⟨_, rfl⟩
  rw [hf]
  have hf0 : 0 < f := by omega
  obtain ⟨k, hk⟩ : ∃ k : Int, j - ((u + 1 : Nat) : Int) = k := ⟨_, rfl⟩
  rw [hk]
  constructor
  · intro h
    refine Int.not_lt.mp fun z => ?_
    have hk' : f + 1 ≤ k := by omega
    have h3 : r * (f + 1) ≤ r * k := Int.mul_le_mul_of_nonneg_left hk' (by omega)
    have h4 : (r + 1) * f ≤ r * k := by
      rw [Int.mul_add, Int.mul_one] at h3
      rw [Int.add_mul, Int.one_mul]
      omega
    have h5 := (Int.le_ediv_iff_mul_le hf0).mpr h4
    omega
  · intro h
    have hk' : k ≤ f := by omega
    have h3 : r * k ≤ r * f := Int.mul_le_mul_of_nonneg_left hk' (by omega)
    have h4 : r * k < (r + 1) * f := by rw [Int.add_mul, Int.one_mul]; omega
    have := Int.ediv_lt_of_lt_mul hf0 h4
    omega
theorem eqv_none (a b : Int) : PyData.eqv (.tuple [.int a, .none]) (.tuple [.int b, .none]) = decide (a = b) := by
  simp only [PyData.eqv, PyData.eqvAll, Bool.and_true]
  rfl
theorem shaped_none (a : Int) : SeqAt.shaped (.tuple [.int a, .none]) = true := by
  simp [SeqAt.shaped, PyData.canLay0, PyData.canLayAll0, PyData.depth, PyData.depthAll]
theorem eqv_two (a b c d : Int) : PyData.eqv (.tuple [.int a, .int b]) (.tuple [.int c, .int d]) = (decide (a = c) && decide (b = d)) := by
  simp only [PyData.eqv, PyData.eqvAll, Bool.and_true]
  rfl
theorem shaped_two (a b : Int) : SeqAt.shaped (.tuple [.int a, .int b]) = true := by
  simp [SeqAt.shaped, PyData.canLay0, PyData.canLayAll0, PyData.depth, PyData.depthAll]
/-! ### law -/
theorem sc_law : FnScope ["script", "size", "cards", "one", "two", "three", "rows", "hands", "found"] ["script"] (defScope (top 48)) := ⟨rfl, rfl, rfl, by decide +kernel, rfl, by decide +kernel, by decide +kernel⟩
theorem fn_law {f : Addr} {fd : FuncData} (D : DefAt K mg "law" (top 48) f fd) (B : Blt mg) (S : Cl K mg c_TellError c_NoPack c_NoHand c_NoRow c_NoCard c_NoNumber c_NoPlan c_NoNote) (C : Cn mg) (c__law_met : Cal P w K mg base CX0 7 "_law_met" ["way", "size", "cards"] spMet01) (c__law_size : Cal P w K mg base CX0 2 "_law_size" ["script"] (spSize K)) (c__law_cards : Cal P w K mg base CX0 2 "_law_cards" ["script"] (spSize K)) (c__law_product : Cal P w K mg base CX0 1 "_law_product" ["first", "last"] spProduct) (c__law_whole : Cal P w K mg base CX0 1 "_law_whole" ["found"] spWhole) (c__law_most : Cal P w K mg base CX0 1 "_law_most" ["size"] spMost) (c__law_cell : Cal P w K mg base CX0 1 "_law_cell" ["script", "k"] (spCell K)) : FnOk P w K mg base CX0 8 f fd ["script"] (spLaw K) := by
  refine D.fn.ok sc_law (fun vs H Q E h => by (repeat (first | (have hz := h.1; subst hz; rfl) | (obtain ⟨_, h⟩ := h)))) (fun cdv A outer s H vs Q E hr h => ?_)
  obtain ⟨a, sn, rfl, hS, _, k⟩ := h
  refine ⟨_, (pss_cons (ps_asg (pe_tup (pa_cons (pe_cal c__law_size (hr.mono (by decide)) (by rfl) pass0 (pa_cons (pv 0) pa_nil)) (pa_cons (pe_cal c__law_cards (hr.mono (by decide)) (by rfl) pass0 (pa_cons (pv 0) pa_nil)) pa_nil))) (pg_tup rfl (pgs_cons (pg_name (i := 1) sc_law.nd rfl (Or.inr rfl)) (pgs_cons (pg_name (i := 2) sc_law.nd rfl (Or.inr rfl)) pgs_nil))))
    (pss_cons (ps_set (i := 3) sc_law.nd rfl (Or.inl rfl) (pe_cal c__law_met (hr.mono (by decide)) (by rfl) pass0 (pa_cons pe_int (pa_cons (pv 1) (pa_cons (pv 2) pa_nil)))))
    (pss_cons (ps_set (i := 4) sc_law.nd rfl (Or.inl rfl) (pe_cal c__law_met (hr.mono (by decide)) (by rfl) pass0 (pa_cons pe_int (pa_cons (pv 1) (pa_cons (pv 2) pa_nil)))))
    (pss_cons (ps_if (pt_not (pt_chain op_le op_le pe_int (pv 1) pe_int))
      (pss_cons (ps_set (i := 5) sc_law.nd rfl (Or.inl rfl) (pe_cal c__law_met (hr.mono (by decide)) (by rfl) pass0 (pa_cons (pe_op op_add pe_int (pe_op op_mod (pe_cal c__law_cell (hr.mono (by decide)) (by rfl) pass0 (pa_cons (pv 0) (pa_cons pe_int pa_nil))) pe_int)) (pa_cons (pv 1) (pa_cons (pv 2) pa_nil)))))
      (pss_one (ps_ret (pe_and (pe_cmpR (op_eqNK (K := K) rfl hr.units) (pv 3) (pe_tup (pa_cons pe_int (pa_cons pe_non pa_nil))) (nomark _)) (pe_and (pe_cmpR (op_eqNK (K := K) rfl hr.units) (pv 4) (pe_tup (pa_cons pe_int (pa_cons pe_non pa_nil))) (nomark _)) (pe_one (pe_cmpR (op_eqNK (K := K) rfl hr.units) (pv 5) (pe_tup (pa_cons pe_int (pa_cons pe_non pa_nil))) (nomark _))))))))
      pss_nil)
    (pss_cons (ps_if (PW.pt (pw_or (pt_cmpR op_ne (pe_ix ix_tup (pv 3) pe_int (fun _ _ => rfl)) (pe_un un_neg pe_int) (nomark _)) (pw_or (pt_not (pt_val (pe_cal c__law_whole (hr.mono (by decide)) (by rfl) pass0 (pa_cons (pe_ix ix_tup (pv 3) pe_int (fun _ _ => rfl)) pa_nil)))) (pw_or1 (pt_cmpR op_ne (pe_ix ix_tup (pv 3) pe_int (fun _ _ => rfl)) (pe_cal c__law_most (hr.mono (by decide)) (by rfl) pass0 (pa_cons (pv 1) pa_nil)) (nomark _))))))
      (pss_one (ps_ret pe_bl))
      pss_nil)
    (pss_cons (ps_if (pt_not (pt_chain op_le op_le (pv 1) (pv 2) pe_int))
      (pss_one (ps_if (pt_cmpR (op_neNK (K := K) rfl hr.units) (pv 4) (pe_tup (pa_cons pe_int (pa_cons pe_non pa_nil))) (nomark _))
        (pss_one (ps_ret pe_bl))
        pss_nil))
      (pss_cons (ps_set (i := 6) sc_law.nd rfl (Or.inl rfl) (pe_cal c__law_product (hr.mono (by decide)) (by rfl) pass0 (pa_cons (pe_op op_add (pe_op op_sub (pv 2) (pv 1)) pe_int) (pa_cons (pv 2) pa_nil))))
      (pss_cons (ps_set (i := 7) sc_law.nd rfl (Or.inl rfl) (pe_op op_fdiv (pe_op op_mul (pv 6) (pe_op op_add (pe_op op_sub (pv 2) (pv 1)) pe_int)) (pe_cal c__law_product (hr.mono (by decide)) (by rfl) pass0 (pa_cons pe_int (pa_cons (pv 1) pa_nil)))))
      (pss_cons (ps_set (i := 8) sc_law.nd rfl (Or.inl rfl) (pe_ix ix_tup (pv 4) pe_int (fun _ _ => rfl)))
      (pss_cons (ps_if (PW.pt (pw_or (pt_cmpR op_ne (pe_ix ix_tup (pv 4) pe_int (fun _ _ => rfl)) (pe_un un_neg pe_int) (nomark _)) (pw_or (pt_not (pt_val (pe_callB call_isi (by rfl) B.isinstance (by decide +kernel) (pa_cons (pv 8) (pa_cons (pe_bltn (v := .ty "tuple") (by rfl) B.tuple (by decide +kernel) rfl) pa_nil))))) (pw_or1 (pt_cmpR (op_neNK (K := K) rfl hr.units) (pv 8) (pe_tup (pa_cons (pv 7) (pa_cons (pv 6) pa_nil))) (nomark _))))))
        (pss_one (ps_ret pe_bl))
        pss_nil)
      (pss_one (ps_if (PW.pt (pw_or (pt_not (pt_val (pe_cal c__law_whole (hr.mono (by decide)) (by rfl) pass0 (pa_cons (pe_ix ix_tup (pv 8) pe_int (fun _ _ => rfl)) pa_nil)))) (pw_or (pt_not (pt_val (pe_cal c__law_whole (hr.mono (by decide)) (by rfl) pass0 (pa_cons (pe_ix ix_tup (pv 8) pe_int (fun _ _ => rfl)) pa_nil)))) (pw_or1 (pt_cmpR op_ne (pe_cmpR op_le (pv 7) (pv 6) (nomark _)) (pe_cmpR op_le (pv 2) (pe_ix ix_tup (pv 3) pe_int (fun _ _ => rfl)) (nomark _)) (nomark _))))))
        (pss_one (ps_ret pe_bl))
        pss_nil)))))))
    (pss_cons (ps_if (pt_chain op_le op_le (pv 1) (pv 2) (pe_ix ix_tup (pv 3) pe_int (fun _ _ => rfl)))
      (pss_one (ps_ret pe_bl))
      pss_nil)
    (pss_one (ps_ret (pe_callB (call_all rfl) (by rfl) B.all (by decide +kernel) (pa_cons (pe_compL (fr := ["cards", "size"]) ["way"] [2, 1]  rfl (pi_range2 rfl B.range (pa_cons pe_int (pa_cons pe_int pa_nil))) (fun _ _ _ _ _ => (pg_name (i := 0) (show (["way", "cards", "size"] : List Str).Nodup by decide +kernel) rfl (Or.inl rfl))) (fun _ _ _ _ _ => pts_nil) (fun _ _ _ _ _ => (pe_cmpR (op_eqNK (K := K) rfl hr.units) (pe_cal c__law_met (hr.mono (by decide)) (by rfl) pass0 (pa_cons (pv 0) (pa_cons (pv 2) (pa_cons (pv 1) pa_nil)))) (pe_tup (pa_cons pe_int (pa_cons pe_non pa_nil))) (nomark _))) ⟨by first | exact Or.inl rfl | exact Or.inr rfl, ⟨by first | exact Or.inl rfl | exact Or.inr rfl, trivial⟩⟩ rfl (by decide +kernel) (by decide +kernel) (by decide +kernel) (by decide +kernel)) pa_nil))))))))))), ?_⟩
  have hs : sizeLine = 16777216 := sizeLine_eq
  walk_at "rd"
  refine ⟨a, sn, rfl, hS, fun i H1 hi s1 => ?_⟩
  walk_at "rd"
  refine ⟨a, sn, rfl, s1.seq hS, fun j H2 hj s2 => ?_⟩
  have s12 := s1.trans s2
  have fi := fig_far hi
  have fj := fig_far hj
  refine ⟨by show 2 ≤ sizeLine; omega, fun p hp => ?_⟩
  have s3 := s12.new (o := .tup [.int i, .int j]) hp
  refine ⟨p, _, rfl, SqT.of upd_same, rfl, _, _, rfl, _, _, rfl, rfl, ?_⟩
  generalize upd H2 p (.tup [.int i, .int j]) = H3 at s3 ⊢
  -- a tuple held against (0, None)
  have eq0 : ∀ {H4 : Hp} {t : Addr}, H4 t = some (.tup [.int 0, .non]) → ∀ q, H4 q = none → ∃ d e, DV K (upd H4 q (.tup [.int 0, .non])) (.ref t) d ∧ DV K (upd H4 q (.tup [.int 0, .non])) (.ref q) e ∧ SeqAt.shaped d = true ∧ SeqAt.shaped e = true ∧ PyData.eqv d e = true := fun {H4 t} ht q hq => by
    have s4 := (Same.refl H4).new (o := .tup [.int 0, .non]) hq
    exact ⟨_, _, .tup (SqT.of (s4 t _ ht)) (.cons (.int _) (.cons .non .nil)), .tup (SqT.of upd_same) (.cons (.int _) (.cons .non .nil)), shaped_none _, shaped_none _, by rw [eqv_none]; rfl⟩
  by_cases hsz : 2 ≤ i ∧ i ≤ 5
  · obtain ⟨n, rfl⟩ : ∃ n : Nat, i = (n : Int) := ⟨i.toNat, by omega⟩
    have toN : ((n : Int)).toNat = n := by omega
    have n2 : 2 ≤ n := by omega
    have n5 : n ≤ 5 := by omega
    obtain ⟨ml, mu⟩ := most_le n2 n5
    have f5 : fac n ≤ 720 := fac6 (by omega)
    have fp := fac_pos n
    refine ⟨_, rfl, _, rfl, 0, n, j, rfl, fi, fj, .inl ⟨rfl, fun _ _ H4 s4 t1 ht1 => ?_, fun z => absurd hsz z⟩⟩
    rw [toN]
    have s5 := (s3.trans s4).new (o := .tup [.int (-1), .int (mostN n : Nat)]) ht1
    have h1 : (upd H4 t1 (.tup [.int (-1), .int (mostN n : Nat)])) t1 = some (.tup [.int (-1), .int (mostN n : Nat)]) := upd_same
    generalize upd H4 t1 (.tup [.int (-1), .int (mostN n : Nat)]) = H5 at s5 h1 ⊢
    dsimp only [gName]
    -- two
    refine seq_cut (fun σ' H6 => ∃ (t2 : Addr), σ' = [some (.ref a), some (.int n), some (.int j), some (.ref t1), some (.ref t2), none, none, none, none] ∧ Same H5 H6 ∧
      (((n : Int) ≤ j ∧ j ≤ 500 ∧ ∃ tc, H6 t2 = some (.tup [.int (-1), .ref tc]) ∧ H6 tc = some (.tup [.int (fall j n / (fac n : Nat)), .int (fall j (n - 1))])) ∨ (¬ ((n : Int) ≤ j ∧ j ≤ 500) ∧ H6 t2 = some (.tup [.int 0, .non])))) (fun nx' hnx => ?_) ?_
    · refine ⟨_, rfl, _, rfl, 1, n, j, rfl, fi, fj, .inr (.inl ⟨rfl, fun _ _ c1 c2 tc H6 s6 htc t2 ht2 => ?_, fun z H6 s6 t2 ht2 => ?_⟩)⟩
      · rw [toN] at htc
        refine hnx _ _ ⟨t2, rfl, s6.new ht2, .inl ⟨c1, c2, tc, upd_same, ?_⟩⟩
        rw [upd_ne (ne_of_none htc ht2)]
        exact htc
      · exact hnx _ _ ⟨t2, rfl, s6.new ht2, .inr ⟨fun q => z ⟨hsz.1, hsz.2, q.1, q.2⟩, upd_same⟩⟩
    rintro σ6 H6 ⟨t2, rfl, s6, alt⟩
    have h1' := s6 t1 _ h1
    -- if not 2 <= size <= 5
    refine ⟨_, rfl, _, _, rfl, rfl, true, congrArg V.bl (decide_eq_true hsz.1), ?_⟩
    rw [if_pos rfl]
    refine ⟨_, _, rfl, rfl, true, congrArg V.bl (decide_eq_true hsz.2), iteF ?_⟩
    -- one
    refine ⟨_, rfl, t1, _, _, _, rfl, rfl, SqT.of h1', rfl, _, rfl, rfl, _, rfl, iteNS rfl ?_⟩
    refine ⟨_, rfl, t1, _, _, _, rfl, rfl, SqT.of h1', rfl, _, rfl, true, rfl, iteF ?_⟩
    refine ⟨_, rfl, t1, _, _, _, rfl, rfl, SqT.of h1', rfl, _, rfl, n, rfl, n2, n5, fun H7 s7 => ⟨rfl, _, rfl, iteNS rfl ?_⟩⟩
    have s67 := s6.trans s7
    have h1'' := s7 t1 _ h1'
    dsimp only [tNext]
    -- how many
    refine seq_cut (fun σ' H8 => ∃ v6 v7 v8, σ' = [some (.ref a), some (.int n), some (.int j), some (.ref t1), some (.ref t2), none, v6, v7, v8] ∧ Same H7 H8) (fun nx' hnx => ?_) ?_
    · have alt' : ((n : Int) ≤ j ∧ j ≤ 500 ∧ ∃ tc, H7 t2 = some (.tup [.int (-1), .ref tc]) ∧ H7 tc = some (.tup [.int (fall j n / (fac n : Nat)), .int (fall j (n - 1))])) ∨ (¬ ((n : Int) ≤ j ∧ j ≤ 500) ∧ H7 t2 = some (.tup [.int 0, .non])) := by
        rcases alt with ⟨c1, c2, tc, q1, q2⟩ | ⟨z, q1⟩
        · exact .inl ⟨c1, c2, tc, s7 _ _ q1, s7 _ _ q2⟩
        · exact .inr ⟨z, s7 _ _ q1⟩
      rcases alt' with ⟨c1, c2, tc, q1, q2⟩ | ⟨z, q1⟩
      · refine ⟨_, rfl, _, rfl, _, _, rfl, rfl, true, congrArg V.bl (decide_eq_true c1), ?_⟩
        rw [if_pos rfl]
        refine ⟨_, _, rfl, rfl, true, congrArg V.bl (decide_eq_true c2), iteF ?_⟩
        -- rows
        walk_at "rd"
        refine ⟨j - n + 2, j, rfl, ⟨by omega, by omega, by omega, by omega⟩, ?_⟩
        have er : pr (j - n + 2) (j + 1 - (j - n + 2)).toNat = fall j (n - 1) := by
          rw [fall_pr, show (j + 1 - (j - n + 2)).toNat = n - 1 by omega]
          congr 1
          omega
        rw [er]
        -- hands
        refine ⟨_, rfl, _, rfl, _, rfl, _, _, rfl, rfl, _, _, rfl, rfl, _, _, rfl, rfl, .inr ⟨by omega, by omega⟩, ?_⟩
        walk_at "rd"
        refine ⟨1, n, rfl, ⟨by decide, by decide, by omega, by omega⟩, ?_⟩
        rw [show ((n : Int) + 1 - 1).toNat = n by omega, pr_fac]
        walk_at "rd"
        have eh : fall j (n - 1) * (j - n + 1) = fall j n := by
          obtain ⟨u, rfl⟩ : ∃ u, n = u + 1 := ⟨n - 1, by omega⟩
          show fall j u * (j - ((u + 1 : Nat) : Int) + 1) = fall j u * (j - (u : Int))
          congr 1
          omega
        dsimp only
        rw [eh]
        -- found
        refine ⟨t2, _, _, _, rfl, rfl, SqT.of q1, rfl, ?_⟩
        refine ⟨_, rfl, t2, _, _, _, rfl, rfl, SqT.of q1, rfl, _, rfl, rfl, _, rfl, iteNS rfl ?_⟩
        refine ⟨_, rfl, _, _, _, true, rfl, .tup q2, (by rintro u rfl; exact kit_same _), true, rfl, iteF ?_⟩
        walk_at "rd"
        refine ⟨by show 2 ≤ sizeLine; omega, fun q hq => ?_⟩
        have s8 := (Same.refl H7).new (o := .tup [.int (fall j n / (fac n : Nat)), .int (fall j (n - 1))]) hq
        refine ⟨_, _, .tup (SqT.of (s8 tc _ q2)) (.cons (.int _) (.cons (.int _) .nil)), .tup (SqT.of upd_same) (.cons (.int _) (.cons (.int _) .nil)), shaped_two _ _, shaped_two _ _, false, congrArg V.bl (show (!PyData.eqv (.tuple [.int (fall j n / (fac n : Nat)), .int (fall j (n - 1))]) (.tuple [.int (fall j n / (fac n : Nat)), .int (fall j (n - 1))])) = false by rw [eqv_two, decide_eq_true rfl, decide_eq_true rfl]; rfl), iteF ?_⟩
        have q2' := s8 tc _ q2
        have h18 := s8 t1 _ h1''
        generalize upd H7 q (.tup [.int (fall j n / (fac n : Nat)), .int (fall j (n - 1))]) = H8 at s8 q2' h18 ⊢
        refine ⟨_, rfl, tc, _, _, _, rfl, rfl, SqT.of q2', rfl, _, rfl, true, rfl, iteF ?_⟩
        refine ⟨_, rfl, tc, _, _, _, rfl, rfl, SqT.of q2', rfl, _, rfl, true, rfl, iteF ?_⟩
        refine ⟨_, rfl, _, rfl, _, _, rfl, rfl, _, rfl, _, rfl, t1, _, _, _, rfl, rfl, SqT.of h18, rfl, _, _, rfl, rfl, rfl, false, ?_, iteF ?_⟩
        · have fw := few_iff (n := n) (j := j) n2 c1
          have e : V.bl (decide (fall j n / (fac n : Nat) ≤ fall j (n - 1))) = V.bl (decide (j ≤ (mostN n : Nat))) := congrArg V.bl (decide_eq_decide.mpr fw)
          exact congrArg V.bl (show (!decide (V.bl (decide (fall j n / (fac n : Nat) ≤ fall j (n - 1))) = V.bl (decide (j ≤ (mostN n : Nat))))) = false by rw [decide_eq_true e]; rfl)
        · exact hnx _ _ ⟨_, _, _, rfl, s8⟩
      · refine ⟨_, rfl, _, rfl, _, _, rfl, rfl, _, rfl, ?_⟩
        have fin : tIfS (tTest (tOp (rEqD K true) (tVar 4) (tTup (tCons (tC (.int 0)) (tCons (tC .non) tNil))))) (tRet (tC (.bl false))) tNext { nx := nx', rt := Q } [some (.ref a), some (.int n), some (.int j), some (.ref t1), some (.ref t2), none, none, none, none] H7 := by
          walk_at "rd"
          refine ⟨by show 2 ≤ sizeLine; omega, fun q hq => ?_⟩
          obtain ⟨d, e, g1, g2, g3, g4, g5⟩ := eq0 q1 q hq
          exact ⟨d, e, g1, g2, g3, g4, false, congrArg V.bl (show (!PyData.eqv d e) = false by rw [g5]; rfl), iteF (hnx _ _ ⟨_, _, _, rfl, (Same.refl H7).new hq⟩)⟩
        by_cases c1 : (n : Int) ≤ j
        · rw [decide_eq_true c1, if_pos rfl]
          exact ⟨_, _, rfl, rfl, false, congrArg V.bl (decide_eq_false fun c2 => z ⟨c1, c2⟩), iteT fin⟩
        · rw [decide_eq_false c1, if_neg (by decide)]
          exact ⟨false, rfl, iteT fin⟩
    rintro σ8 H8 ⟨v6, v7, v8, rfl, s8⟩
    have h18 := s8 t1 _ h1''
    -- if size <= cards <= one[1]
    refine ⟨_, rfl, _, rfl, _, _, rfl, rfl, _, rfl, ?_⟩
    have fin : ¬ PackOk n j → ∀ (H9 : Hp), Same H8 H9 → tRet (tCB (fun xs H Q => ∃ (p : Addr) (bs : List Bool), xs = [.ref p] ∧ SqL K H p (bs.map V.bl) ∧ Q (.bl (bs.all id)) H) (tCons (tComp (iRng2 (tCons (tC (.int 2)) (tCons (tC (.int 6)) tNil))) 1 [2, 1] (gName 0) tYes
        (tOp (rEqD K false) (tCall spMet01 [] E0 (tCons (tVar 0) (tCons (tVar 2) (tCons (tVar 1) tNil)))) (tTup (tCons (tC (.int 0)) (tCons (tC .non) tNil))))) tNil)) { nx := fun _ H' => Q .non H', rt := Q } [some (.ref a), some (.int n), some (.int j), some (.ref t1), some (.ref t2), none, v6, v7, v8] H9 := fun np H9 s9 => by
      refine ⟨2, 6, rfl, ⟨by decide, by decide, by decide, by decide⟩, fun D hD => comp_rng (fun w acc HA => acc = (List.replicate w true).map V.bl ∧ HA D = some (.lst acc)) ⟨rfl, upd_same⟩ ?_ ?_⟩
      · rintro w acc HA hw ⟨rfl, hDA⟩ _
        have hw4 : w < 4 := hw
        refine ⟨rfl, rfl, ?_⟩
        dsimp only [tYes]
        refine iteT ?_
        refine ⟨_, rfl, _, rfl, _, rfl, w + 2, n, j, ?_, fi, fj, .inr (.inr ⟨by omega, by omega, np, fun HB sB t3 ht3 => ?_⟩)⟩
        · show [V.int (2 + (w : Int)), V.int n, V.int j] = _
          rw [show ((w + 2 : Nat) : Int) = 2 + (w : Int) by omega]
        have hDB : (upd HB t3 (.tup [.int 0, .non])) D = some (.lst ((List.replicate w true).map V.bl)) := (sB.new ht3) D _ hDA
        have h3B : (upd HB t3 (.tup [.int 0, .non])) t3 = some (.tup [.int 0, .non]) := upd_same
        generalize upd HB t3 (.tup [.int 0, .non]) = HC at hDB h3B ⊢
        refine ⟨by show 2 ≤ sizeLine; omega, fun q hq => ?_⟩
        obtain ⟨d, e, g1, g2, g3, g4, g5⟩ := eq0 h3B q hq
        refine ⟨d, e, g1, g2, g3, g4, ?_⟩
        have hDq := ((Same.refl HC).new (o := .tup [.int 0, .non]) hq) D _ hDB
        refine ⟨hDq, by rw [List.length_map, List.length_replicate]; omega, ?_, upd_same⟩
        rw [if_neg (by decide), g5, List.replicate_succ', List.map_append]
        rfl
      · rintro acc HA ⟨rfl, hDA⟩ _
        refine ⟨D, _, rfl, SqL.of hDA, ?_⟩
        have : (List.replicate (6 - 2 : Int).toNat true).all id = true := by decide
        rw [this]
        exact k _
    by_cases c1 : (n : Int) ≤ j
    · rw [decide_eq_true c1, if_pos rfl]
      refine ⟨_, rfl, t1, _, _, _, rfl, rfl, SqT.of h18, rfl, _, _, rfl, rfl, _, rfl, ?_⟩
      refine ite2 (fun _ => k _) (fun c2 => ?_)
      exact fin (fun pk => c2 (decide_eq_true (by have := pk.2.2.2; rw [toN] at this; exact this))) H8 (Same.refl H8)
    · rw [decide_eq_false c1, if_neg (by decide)]
      exact ⟨false, rfl, iteF (fin (fun pk => c1 pk.2.2.1) H8 (Same.refl H8))⟩
  · have np : ¬ PackOk i j := fun z => hsz ⟨z.1, z.2.1⟩
    refine ⟨_, rfl, _, rfl, 0, i, j, rfl, fi, fj, .inl ⟨rfl, fun h2 h5 => absurd ⟨h2, h5⟩ hsz, fun _ H4 s4 t1 ht1 => ?_⟩⟩
    have s5 := (s3.trans s4).new (o := .tup [.int 0, .non]) ht1
    have h1 : (upd H4 t1 (.tup [.int 0, .non])) t1 = some (.tup [.int 0, .non]) := upd_same
    generalize upd H4 t1 (.tup [.int 0, .non]) = H5 at s5 h1 ⊢
    refine ⟨_, rfl, _, rfl, 1, i, j, rfl, fi, fj, .inr (.inl ⟨rfl, fun h2 h5 => absurd ⟨h2, h5⟩ hsz, fun _ H6 s6 t2 ht2 => ?_⟩)⟩
    have s7 := s6.new (o := .tup [.int 0, .non]) ht2
    have h2 : (upd H6 t2 (.tup [.int 0, .non])) t2 = some (.tup [.int 0, .non]) := upd_same
    have h12 := s7 t1 _ h1
    generalize upd H6 t2 (.tup [.int 0, .non]) = H7 at s7 h2 h12 ⊢
    refine ⟨_, rfl, _, _, rfl, rfl, _, rfl, ?_⟩
    have fin : tSeq (tAsg (tCall spMet01 [] E0 (tCons (tOp (rI0 fun i j => .int (i + j)) (tC (.int 2)) (tOp (rI (fun _ j => 0 < j) fun i j => .int (i % j)) (tCall (spCell K) [] E0 (tCons (tVar 0) (tCons (tC (.int 4)) tNil))) (tC (.int 4)))) (tCons (tVar 1) (tCons (tVar 2) tNil)))) (gName 5))
        (tRet (tAndV (tOp (rEqD K false) (tVar 3) (tTup (tCons (tC (.int 0)) (tCons (tC .non) tNil)))) (tAndV (tOp (rEqD K false) (tVar 4) (tTup (tCons (tC (.int 0)) (tCons (tC .non) tNil)))) (tOp (rEqD K false) (tVar 5) (tTup (tCons (tC (.int 0)) (tCons (tC .non) tNil)))))))
        { nx := fun _ H' => Q .non H', rt := Q } [some (.ref a), some (.int i), some (.int j), some (.ref t1), some (.ref t2), none, none, none, none] H7 := by
      walk_at "rd"
      refine ⟨a, sn, 4, rfl, (s5.trans s7).seq hS, by decide, fun c4 => ?_⟩
      obtain ⟨w, hw⟩ : ∃ w : Nat, 2 + c4 % 4 = (w : Int) := ⟨(2 + c4 % 4).toNat, by omega⟩
      walk_at "rd"
      dsimp only
      rw [hw]
      refine ⟨w, i, j, rfl, fi, fj, .inr (.inr ⟨by omega, by omega, np, fun H8 s8 t3 ht3 => ?_⟩)⟩
      have s9 := s8.new (o := .tup [.int 0, .non]) ht3
      have h3 : (upd H8 t3 (.tup [.int 0, .non])) t3 = some (.tup [.int 0, .non]) := upd_same
      have h13 := s9 t1 _ h12
      have h23 := s9 t2 _ h2
      generalize upd H8 t3 (.tup [.int 0, .non]) = H9 at s9 h3 h13 h23 ⊢
      walk_at "rd"
      refine ⟨by show 2 ≤ sizeLine; omega, fun q hq => ?_⟩
      obtain ⟨d, e, g1, g2, g3, g4, g5⟩ := eq0 h13 q hq
      have sq := (Same.refl H9).new (o := .tup [.int 0, .non]) hq
      have h23' := sq t2 _ h23
      have h3' := sq t3 _ h3
      refine ⟨d, e, g1, g2, g3, g4, true, congrArg V.bl (show PyData.eqv d e = true from g5), iteT ?_⟩
      clear g1 g2
      generalize upd H9 q (.tup [.int 0, .non]) = HA at h23' h3' ⊢
      walk_at "rd"
      refine ⟨by show 2 ≤ sizeLine; omega, fun q hq => ?_⟩
      obtain ⟨d, e, g1, g2, g3, g4, g5⟩ := eq0 h23' q hq
      have h3'' := (Same.refl HA).new (o := .tup [.int 0, .non]) hq t3 _ h3'
      refine ⟨d, e, g1, g2, g3, g4, true, congrArg V.bl (show PyData.eqv d e = true from g5), iteT ?_⟩
      clear g1 g2
      generalize upd HA q (.tup [.int 0, .non]) = HB at h3'' ⊢
      walk_at "rd"
      refine ⟨by show 2 ≤ sizeLine; omega, fun q hq => ?_⟩
      obtain ⟨d, e, g1, g2, g3, g4, g5⟩ := eq0 h3'' q hq
      refine ⟨d, e, g1, g2, g3, g4, ?_⟩
      rw [if_neg (by decide), g5]
      exact k _
    by_cases c1 : 2 ≤ i
    · rw [decide_eq_true c1, if_pos rfl]
      exact ⟨_, _, rfl, rfl, false, congrArg V.bl (decide_eq_false fun c2 => hsz ⟨c1, c2⟩), iteT fin⟩
    · rw [decide_eq_false c1, if_neg (by decide)]
      exact ⟨false, rfl, iteT fin⟩

end
end Q01

set_option Elab.async false
set_option linter.all false
set_option maxRecDepth 100000
set_option maxHeartbeats 4000000
namespace Q01
open PySem L2 K2
theorem walk {l : PySem.W.OpenLaw} {q : Program} {loose : List Str} {XP : (Str → Option Value) → Heap → Prop} {YP : World → Heap → Prop} {d : DefRec} {K : Params → PySem.W.Frag} (hn : l.most = some 63) (hdf : d.params.defaults = [])
    (hY : ∀ (w : World) (h : Heap), YP w h → (K w.params).In h)
    (F : ∀ (w : World) (mg : Str → Option Value) (fa : Addr) (h : Heap), (K w.params).In h → h.Ns mainGlobals mg → mg d.name = some (.ref fa) →
      ∃ fd : FuncData, (∀ (s : Shared) (u : Value), BindsTo s fd ⟨[u], []⟩ [("script", u)]) ∧ ∀ base : Heap, (K w.params).In base → base.Ns mainGlobals mg → FnOk l.prog w (K w.params) mg base CX0 8 fa fd ["script"] (spLaw (K w.params))) :
    PySem.W.WalkO q loose XP YP l.row.toRowW d [] (fun f vs => PySem.call f vs) :=
  L2.walk_of (n := 63) (k := 8) (x := "script") (CX := fun _ => CX0) (sp := fun w => spLaw (K w.params)) hn (by decide) hdf ⟨rfl, by decide, by decide, rfl⟩ hY F (fun _ _ a ns hl _ hS => ⟨a, ns, rfl, hS, hl, fun _ => rfl⟩) fun _ _ _ _ _ z => z
theorem all_mk {l : PySem.W.OpenLaw} {w : World} {K : PySem.W.Frag} {mg : Str → Option Value} {fa : Addr} {c_TellError c_NoPack c_NoHand c_NoRow c_NoCard c_NoNumber c_NoPlan c_NoNote : Addr} (hfa : mg "law" = some (.ref fa)) (B : Blt mg) (S : Cl K mg c_TellError c_NoPack c_NoHand c_NoRow c_NoCard c_NoNumber c_NoPlan c_NoNote) (C : Cn mg) (k_NoPack : KindOf K c_TellError c_NoPack c_NoHand c_NoRow c_NoCard c_NoNumber c_NoPlan c_NoNote c_NoPack 0) (d36 : ∃ f fd, DefAt K mg "_law_cell" (top 36) f fd) (d37 : ∃ f fd, DefAt K mg "_law_whole" (top 37) f fd) (d38 : ∃ f fd, DefAt K mg "_law_product" (top 38) f fd) (d39 : ∃ f fd, DefAt K mg "_law_most" (top 39) f fd) (d10 : ∃ f fd, DefAt K mg "order_count" (top 10) f fd) (d20 : ∃ f fd, DefAt K mg "check_size" (top 20) f fd) (d21 : ∃ f fd, DefAt K mg "check_cards" (top 21) f fd) (d17 : ∃ f fd, DefAt K mg "most" (top 17) f fd) (d19 : ∃ f fd, DefAt K mg "check_pack" (top 19) f fd) (d24 : ∃ f fd, DefAt K mg "are_unlike_cards" (top 24) f fd) (d22 : ∃ f fd, DefAt K mg "check_hand" (top 22) f fd) (d23 : ∃ f fd, DefAt K mg "check_row" (top 23) f fd) (d12 : ∃ f fd, DefAt K mg "order_at" (top 12) f fd) (d11 : ∃ f fd, DefAt K mg "order_number" (top 11) f fd) (d27 : ∃ f fd, DefAt K mg "choices_in_turn" (top 27) f fd) (d25 : ∃ f fd, DefAt K mg "hand_count" (top 25) f fd) (d26 : ∃ f fd, DefAt K mg "row_count" (top 26) f fd) (d18 : ∃ f fd, DefAt K mg "counts" (top 18) f fd) (d29 : ∃ f fd, DefAt K mg "laid" (top 29) f fd) (d30 : ∃ f fd, DefAt K mg "told" (top 30) f fd) (d34 : ∃ f fd, DefAt K mg "hands_going_on" (top 34) f fd) (d32 : ∃ f fd, DefAt K mg "hand_at" (top 32) f fd) (d33 : ∃ f fd, DefAt K mg "hand_number" (top 33) f fd) (d43 : ∃ f fd, DefAt K mg "_law_which" (top 43) f fd) (d44 : ∃ f fd, DefAt K mg "_law_asked" (top 44) f fd) (d45 : ∃ f fd, DefAt K mg "_law_met" (top 45) f fd) (d46 : ∃ f fd, DefAt K mg "_law_size" (top 46) f fd) (d47 : ∃ f fd, DefAt K mg "_law_cards" (top 47) f fd) (d48 : ∃ f fd, DefAt K mg "law" (top 48) f fd) :
    ∃ fd : FuncData, (∀ (s : Shared) (v : Value), BindsTo s fd ⟨[v], []⟩ [("script", v)]) ∧ ∀ base : Heap, K.In base → base.Ns mainGlobals mg → FnOk l.prog w K mg base CX0 8 fa fd ["script"] (spLaw K) := by
  obtain ⟨fL, eL, DL⟩ := d48
  have e := hfa.symm.trans DL.mg
  cases e
  refine ⟨eL, ?_, fun base _ _ => ?_⟩
  · obtain ⟨oc, od, kV, doc, pm, an, cdv, ct, osl, rfl, _, _⟩ := DL.fn.ex
    exact fun s v => .of_eq rfl
  · have P := l.prog
    have c__law_cell := cal__law_cell (P := l.prog) (w := w) (base := base) d36 B S C
    have c__law_whole := cal__law_whole (P := l.prog) (w := w) (base := base) d37 B S C
    have c__law_product := cal__law_product (P := l.prog) (w := w) (base := base) d38 B S C
    have c__law_most := cal__law_most (P := l.prog) (w := w) (base := base) d39 B S C
    have c_order_count := cal_order_count (P := l.prog) (w := w) (base := base) d10 B S C
    have c_check_size := cal_check_size (P := l.prog) (w := w) (base := base) d20 B S C
    have c_check_cards := cal_check_cards (P := l.prog) (w := w) (base := base) d21 B S C
    have c_most := cal_most (P := l.prog) (w := w) (base := base) d17 B S C c_check_size c_order_count
    have c_check_pack := cal_check_pack (P := l.prog) (w := w) (base := base) d19 B S C c_check_cards c_most
    have c_are_unlike_cards := cal_are_unlike_cards (P := l.prog) (w := w) (base := base) d24 B S C
    have c_check_hand := cal_check_hand (P := l.prog) (w := w) (base := base) d22 B S C c_are_unlike_cards
    have c_check_row := cal_check_row (P := l.prog) (w := w) (base := base) d23 B S C c_are_unlike_cards
    have c_order_at := cal_order_at (P := l.prog) (w := w) (base := base) d12 B S C c_order_count
    have c_order_number := cal_order_number (P := l.prog) (w := w) (base := base) d11 B S C
    have c_choices_in_turn := cal_choices_in_turn (P := l.prog) (w := w) (base := base) d27 B S C
    have c_hand_count := cal_hand_count (P := l.prog) (w := w) (base := base) d25 B S C c_choices_in_turn c_order_count
    have c_row_count := cal_row_count (P := l.prog) (w := w) (base := base) d26 B S C c_choices_in_turn
    have c_counts := cal_counts (P := l.prog) (w := w) (base := base) d18 B S C c_check_size c_check_cards c_hand_count c_row_count
    have c_laid := cal_laid (P := l.prog) (w := w) (base := base) d29 B S C c_check_pack c_check_hand c_order_at
    have c_told := cal_told (P := l.prog) (w := w) (base := base) d30 B S C c_check_pack c_check_row c_order_number
    have c_hands_going_on := cal_hands_going_on (P := l.prog) (w := w) (base := base) d34 B S C c_hand_count
    have c_hand_at := cal_hand_at (P := l.prog) (w := w) (base := base) d32 B S C c_check_pack c_hand_count c_hands_going_on
    have c_hand_number := cal_hand_number (P := l.prog) (w := w) (base := base) d33 B S C c_check_pack c_check_hand c_hands_going_on
    have c__law_which := cal__law_which (P := l.prog) (w := w) (base := base) d43 B S C
    have c__law_asked := cal__law_asked (P := l.prog) (w := w) (base := base) d44 B S C c_hand_number c_most c_counts c_laid c_told c_hand_at
    have c__law_met := cal__law_met (P := l.prog) (w := w) (base := base) d45 B S C k_NoPack c__law_asked c__law_which
    have c__law_size := cal__law_size (P := l.prog) (w := w) (base := base) d46 B S C c__law_cell
    have c__law_cards := cal__law_cards (P := l.prog) (w := w) (base := base) d47 B S C c__law_cell
    exact fn_law (P := l.prog) (w := w) (base := base) DL B S C c__law_met c__law_size c__law_cards c__law_product c__law_whole c__law_most c__law_cell
theorem cls_mk {K : PySem.W.Frag} {h : Heap} {mg : Str → Option Value} {c_TellError c_NoPack c_NoHand c_NoRow c_NoCard c_NoNumber c_NoPlan c_NoNote : Addr} (X : K.In h) (G : h.Ns mainGlobals mg)
    (a_TellError : PySem.W.nsIn K mainGlobals "TellError" = some (some (.ref c_TellError)))
    (e_TellError : PySem.W.excIn K c_TellError bmV "ValueError.__new__" = true)
    (a_NoPack : PySem.W.nsIn K mainGlobals "NoPack" = some (some (.ref c_NoPack)))
    (e_NoPack : PySem.W.excIn K c_NoPack bmV "ValueError.__new__" = true)
    (a_NoHand : PySem.W.nsIn K mainGlobals "NoHand" = some (some (.ref c_NoHand)))
    (e_NoHand : PySem.W.excIn K c_NoHand bmV "ValueError.__new__" = true)
    (a_NoRow : PySem.W.nsIn K mainGlobals "NoRow" = some (some (.ref c_NoRow)))
    (e_NoRow : PySem.W.excIn K c_NoRow bmV "ValueError.__new__" = true)
    (a_NoCard : PySem.W.nsIn K mainGlobals "NoCard" = some (some (.ref c_NoCard)))
    (e_NoCard : PySem.W.excIn K c_NoCard bmV "ValueError.__new__" = true)
    (a_NoNumber : PySem.W.nsIn K mainGlobals "NoNumber" = some (some (.ref c_NoNumber)))
    (e_NoNumber : PySem.W.excIn K c_NoNumber bmV "ValueError.__new__" = true)
    (a_NoPlan : PySem.W.nsIn K mainGlobals "NoPlan" = some (some (.ref c_NoPlan)))
    (e_NoPlan : PySem.W.excIn K c_NoPlan bmV "ValueError.__new__" = true)
    (a_NoNote : PySem.W.nsIn K mainGlobals "NoNote" = some (some (.ref c_NoNote)))
    (e_NoNote : PySem.W.excIn K c_NoNote bmV "ValueError.__new__" = true)
    (t_NoPack : PySem.W.typeIn K (.ref c_NoPack) = some (.type "type"))
    (o_NoPack : PySem.W.mroIn K c_NoPack (.type "object") = some true)
    (t_NoHand : PySem.W.typeIn K (.ref c_NoHand) = some (.type "type"))
    (o_NoHand : PySem.W.mroIn K c_NoHand (.type "object") = some true)
    (t_NoRow : PySem.W.typeIn K (.ref c_NoRow) = some (.type "type"))
    (o_NoRow : PySem.W.mroIn K c_NoRow (.type "object") = some true)
    (t_NoCard : PySem.W.typeIn K (.ref c_NoCard) = some (.type "type"))
    (o_NoCard : PySem.W.mroIn K c_NoCard (.type "object") = some true)
    (t_NoNumber : PySem.W.typeIn K (.ref c_NoNumber) = some (.type "type"))
    (o_NoNumber : PySem.W.mroIn K c_NoNumber (.type "object") = some true)
    (t_NoPlan : PySem.W.typeIn K (.ref c_NoPlan) = some (.type "type"))
    (o_NoPlan : PySem.W.mroIn K c_NoPlan (.type "object") = some true)
    (t_NoNote : PySem.W.typeIn K (.ref c_NoNote) = some (.type "type"))
    (o_NoNote : PySem.W.mroIn K c_NoNote (.type "object") = some true)
    (m_NoPack_NoPack : PySem.W.mroIn K c_NoPack (.ref c_NoPack) = some true)
    (n_NoPack_NoPack : (c_NoPack == c_NoPack) = true → true = true)
    (m_NoPack_NoHand : PySem.W.mroIn K c_NoPack (.ref c_NoHand) = some false)
    (n_NoPack_NoHand : (c_NoPack == c_NoHand) = true → false = true)
    (m_NoPack_NoRow : PySem.W.mroIn K c_NoPack (.ref c_NoRow) = some false)
    (n_NoPack_NoRow : (c_NoPack == c_NoRow) = true → false = true)
    (m_NoPack_NoCard : PySem.W.mroIn K c_NoPack (.ref c_NoCard) = some false)
    (n_NoPack_NoCard : (c_NoPack == c_NoCard) = true → false = true)
    (m_NoPack_NoNumber : PySem.W.mroIn K c_NoPack (.ref c_NoNumber) = some false)
    (n_NoPack_NoNumber : (c_NoPack == c_NoNumber) = true → false = true)
    (m_NoPack_NoPlan : PySem.W.mroIn K c_NoPack (.ref c_NoPlan) = some false)
    (n_NoPack_NoPlan : (c_NoPack == c_NoPlan) = true → false = true)
    (m_NoPack_NoNote : PySem.W.mroIn K c_NoPack (.ref c_NoNote) = some false)
    (n_NoPack_NoNote : (c_NoPack == c_NoNote) = true → false = true)
    (v_NoPack : PySem.W.mroIn K c_NoPack (.type "ValueError") = some true)
    (ga_NoPack : PySem.W.findIn K (.ref c_NoPack) "__getattribute__" = some (some (.builtin "BaseException.__getattribute__")))
    (gt_NoPack : PySem.W.findIn K (.ref c_NoPack) "__getattr__" = some none)
    (gc_NoPack : PySem.W.findIn K (.ref c_NoPack) "__class__" = some (some (.builtin "object.__class__")))
    (be_NoPack : PySem.W.mroIn K c_NoPack (.type "BaseException") = some true)
    (s_NoPack : PySem.W.mroIn K c_NoPack (.ref c_TellError) = some true) :
    ∃ c_TellError c_NoPack c_NoHand c_NoRow c_NoCard c_NoNumber c_NoPlan c_NoNote : Addr, Cl K mg c_TellError c_NoPack c_NoHand c_NoRow c_NoCard c_NoNumber c_NoPlan c_NoNote ∧ KindOf K c_TellError c_NoPack c_NoHand c_NoRow c_NoCard c_NoNumber c_NoPlan c_NoNote c_NoPack 0 :=
  ⟨c_TellError, c_NoPack, c_NoHand, c_NoRow, c_NoCard, c_NoNumber, c_NoPlan, c_NoNote, ⟨PySem.W.mg_of X G a_TellError, e_TellError, PySem.W.mg_of X G a_NoPack, e_NoPack, PySem.W.mg_of X G a_NoHand, e_NoHand, PySem.W.mg_of X G a_NoRow, e_NoRow, PySem.W.mg_of X G a_NoCard, e_NoCard, PySem.W.mg_of X G a_NoNumber, e_NoNumber, PySem.W.mg_of X G a_NoPlan, e_NoPlan, PySem.W.mg_of X G a_NoNote, e_NoNote⟩, ⟨⟨⟨_, _, e_NoPack⟩, ⟨_, _, e_TellError, rfl⟩, s_NoPack⟩, _, _, _, _, _, _, _, ⟨⟨ga_NoPack, gt_NoPack, gc_NoPack, o_NoPack, be_NoPack⟩, kit_one t_NoPack o_NoPack m_NoPack_NoPack n_NoPack_NoPack, kit_one t_NoHand o_NoHand m_NoPack_NoHand n_NoPack_NoHand, kit_one t_NoRow o_NoRow m_NoPack_NoRow n_NoPack_NoRow, kit_one t_NoCard o_NoCard m_NoPack_NoCard n_NoPack_NoCard, kit_one t_NoNumber o_NoNumber m_NoPack_NoNumber n_NoPack_NoNumber, kit_one t_NoPlan o_NoPlan m_NoPack_NoPlan n_NoPack_NoPlan, kit_one t_NoNote o_NoNote m_NoPack_NoNote n_NoPack_NoNote, kit_value v_NoPack⟩, rfl, rfl⟩⟩
end Q01
open PySem PySem.W PyProof.Rows
set_option maxRecDepth 100000 in
set_option maxHeartbeats 0 in
theorem PySem.Challenge.cw_fourtell_k01_packs_holds : PySem.Challenge.rw_fourtell_k01_packs.Holds := by
  w_on; o_law; k_head; (case hw => w_witness2)
  k_fill
  refine Q01.walk (l := PySem.Challenge.rw_fourtell_k01_packs) rfl rfl (fun w h Y => PySem.W.kIn_of Y) ?F
  case F =>
    intro w mg fa h KX G hmg
    have d36 : ∃ f fd, L2.DefAt (L2.KOf KX) mg "_law_cell" (Q01.top 36) f fd := by
      dsimp only [L2.KOf]
      refine' L2.def_mk KX G ?a ?l ?c ?k
      (case a => k_is); (case l => k_is); (case c => k_is); (case k => k_is)
    have d37 : ∃ f fd, L2.DefAt (L2.KOf KX) mg "_law_whole" (Q01.top 37) f fd := by
      dsimp only [L2.KOf]
      refine' L2.def_mk KX G ?a ?l ?c ?k
      (case a => k_is); (case l => k_is); (case c => k_is); (case k => k_is)
    have d38 : ∃ f fd, L2.DefAt (L2.KOf KX) mg "_law_product" (Q01.top 38) f fd := by
      dsimp only [L2.KOf]
      refine' L2.def_mk KX G ?a ?l ?c ?k
      (case a => k_is); (case l => k_is); (case c => k_is); (case k => k_is)
    have d39 : ∃ f fd, L2.DefAt (L2.KOf KX) mg "_law_most" (Q01.top 39) f fd := by
      dsimp only [L2.KOf]
      refine' L2.def_mk KX G ?a ?l ?c ?k
      (case a => k_is); (case l => k_is); (case c => k_is); (case k => k_is)
    have d10 : ∃ f fd, L2.DefAt (L2.KOf KX) mg "order_count" (Q01.top 10) f fd := by
      dsimp only [L2.KOf]
      refine' L2.def_mk KX G ?a ?l ?c ?k
      (case a => k_is); (case l => k_is); (case c => k_is); (case k => k_is)
    have d20 : ∃ f fd, L2.DefAt (L2.KOf KX) mg "check_size" (Q01.top 20) f fd := by
      dsimp only [L2.KOf]
      refine' L2.def_mk KX G ?a ?l ?c ?k
      (case a => k_is); (case l => k_is); (case c => k_is); (case k => k_is)
    have d21 : ∃ f fd, L2.DefAt (L2.KOf KX) mg "check_cards" (Q01.top 21) f fd := by
      dsimp only [L2.KOf]
      refine' L2.def_mk KX G ?a ?l ?c ?k
      (case a => k_is); (case l => k_is); (case c => k_is); (case k => k_is)
    have d17 : ∃ f fd, L2.DefAt (L2.KOf KX) mg "most" (Q01.top 17) f fd := by
      dsimp only [L2.KOf]
      refine' L2.def_mk KX G ?a ?l ?c ?k
      (case a => k_is); (case l => k_is); (case c => k_is); (case k => k_is)
    have d19 : ∃ f fd, L2.DefAt (L2.KOf KX) mg "check_pack" (Q01.top 19) f fd := by
      dsimp only [L2.KOf]
      refine' L2.def_mk KX G ?a ?l ?c ?k
      (case a => k_is); (case l => k_is); (case c => k_is); (case k => k_is)
    have d24 : ∃ f fd, L2.DefAt (L2.KOf KX) mg "are_unlike_cards" (Q01.top 24) f fd := by
      dsimp only [L2.KOf]
      refine' L2.def_mk KX G ?a ?l ?c ?k
      (case a => k_is); (case l => k_is); (case c => k_is); (case k => k_is)
    have d22 : ∃ f fd, L2.DefAt (L2.KOf KX) mg "check_hand" (Q01.top 22) f fd := by
      dsimp only [L2.KOf]
      refine' L2.def_mk KX G ?a ?l ?c ?k
      (case a => k_is); (case l => k_is); (case c => k_is); (case k => k_is)
    have d23 : ∃ f fd, L2.DefAt (L2.KOf KX) mg "check_row" (Q01.top 23) f fd := by
      dsimp only [L2.KOf]
      refine' L2.def_mk KX G ?a ?l ?c ?k
      (case a => k_is); (case l => k_is); (case c => k_is); (case k => k_is)
    have d12 : ∃ f fd, L2.DefAt (L2.KOf KX) mg "order_at" (Q01.top 12) f fd := by
      dsimp only [L2.KOf]
      refine' L2.def_mk KX G ?a ?l ?c ?k
      (case a => k_is); (case l => k_is); (case c => k_is); (case k => k_is)
    have d11 : ∃ f fd, L2.DefAt (L2.KOf KX) mg "order_number" (Q01.top 11) f fd := by
      dsimp only [L2.KOf]
      refine' L2.def_mk KX G ?a ?l ?c ?k
      (case a => k_is); (case l => k_is); (case c => k_is); (case k => k_is)
    have d27 : ∃ f fd, L2.DefAt (L2.KOf KX) mg "choices_in_turn" (Q01.top 27) f fd := by
      dsimp only [L2.KOf]
      refine' L2.def_mk KX G ?a ?l ?c ?k
      (case a => k_is); (case l => k_is); (case c => k_is); (case k => k_is)
    have d25 : ∃ f fd, L2.DefAt (L2.KOf KX) mg "hand_count" (Q01.top 25) f fd := by
      dsimp only [L2.KOf]
      refine' L2.def_mk KX G ?a ?l ?c ?k
      (case a => k_is); (case l => k_is); (case c => k_is); (case k => k_is)
    have d26 : ∃ f fd, L2.DefAt (L2.KOf KX) mg "row_count" (Q01.top 26) f fd := by
      dsimp only [L2.KOf]
      refine' L2.def_mk KX G ?a ?l ?c ?k
      (case a => k_is); (case l => k_is); (case c => k_is); (case k => k_is)
    have d18 : ∃ f fd, L2.DefAt (L2.KOf KX) mg "counts" (Q01.top 18) f fd := by
      dsimp only [L2.KOf]
      refine' L2.def_mk KX G ?a ?l ?c ?k
      (case a => k_is); (case l => k_is); (case c => k_is); (case k => k_is)
    have d29 : ∃ f fd, L2.DefAt (L2.KOf KX) mg "laid" (Q01.top 29) f fd := by
      dsimp only [L2.KOf]
      refine' L2.def_mk KX G ?a ?l ?c ?k
      (case a => k_is); (case l => k_is); (case c => k_is); (case k => k_is)
    have d30 : ∃ f fd, L2.DefAt (L2.KOf KX) mg "told" (Q01.top 30) f fd := by
      dsimp only [L2.KOf]
      refine' L2.def_mk KX G ?a ?l ?c ?k
      (case a => k_is); (case l => k_is); (case c => k_is); (case k => k_is)
    have d34 : ∃ f fd, L2.DefAt (L2.KOf KX) mg "hands_going_on" (Q01.top 34) f fd := by
      dsimp only [L2.KOf]
      refine' L2.def_mk KX G ?a ?l ?c ?k
      (case a => k_is); (case l => k_is); (case c => k_is); (case k => k_is)
    have d32 : ∃ f fd, L2.DefAt (L2.KOf KX) mg "hand_at" (Q01.top 32) f fd := by
      dsimp only [L2.KOf]
      refine' L2.def_mk KX G ?a ?l ?c ?k
      (case a => k_is); (case l => k_is); (case c => k_is); (case k => k_is)
    have d33 : ∃ f fd, L2.DefAt (L2.KOf KX) mg "hand_number" (Q01.top 33) f fd := by
      dsimp only [L2.KOf]
      refine' L2.def_mk KX G ?a ?l ?c ?k
      (case a => k_is); (case l => k_is); (case c => k_is); (case k => k_is)
    have d43 : ∃ f fd, L2.DefAt (L2.KOf KX) mg "_law_which" (Q01.top 43) f fd := by
      dsimp only [L2.KOf]
      refine' L2.def_mk KX G ?a ?l ?c ?k
      (case a => k_is); (case l => k_is); (case c => k_is); (case k => k_is)
    have d44 : ∃ f fd, L2.DefAt (L2.KOf KX) mg "_law_asked" (Q01.top 44) f fd := by
      dsimp only [L2.KOf]
      refine' L2.def_mk KX G ?a ?l ?c ?k
      (case a => k_is); (case l => k_is); (case c => k_is); (case k => k_is)
    have d45 : ∃ f fd, L2.DefAt (L2.KOf KX) mg "_law_met" (Q01.top 45) f fd := by
      dsimp only [L2.KOf]
      refine' L2.def_mk KX G ?a ?l ?c ?k
      (case a => k_is); (case l => k_is); (case c => k_is); (case k => k_is)
    have d46 : ∃ f fd, L2.DefAt (L2.KOf KX) mg "_law_size" (Q01.top 46) f fd := by
      dsimp only [L2.KOf]
      refine' L2.def_mk KX G ?a ?l ?c ?k
      (case a => k_is); (case l => k_is); (case c => k_is); (case k => k_is)
    have d47 : ∃ f fd, L2.DefAt (L2.KOf KX) mg "_law_cards" (Q01.top 47) f fd := by
      dsimp only [L2.KOf]
      refine' L2.def_mk KX G ?a ?l ?c ?k
      (case a => k_is); (case l => k_is); (case c => k_is); (case k => k_is)
    have d48 : ∃ f fd, L2.DefAt (L2.KOf KX) mg "law" (Q01.top 48) f fd := by
      dsimp only [L2.KOf]
      refine' L2.def_mk KX G ?a ?l ?c ?k
      (case a => k_is); (case l => k_is); (case c => k_is); (case k => k_is)
    have z0 : mg "len" = none := by
      refine' PySem.W.mg_none_of KX G ?z
      (case z => k_is)
    have z1 : mg "isinstance" = none := by
      refine' PySem.W.mg_none_of KX G ?z
      (case z => k_is)
    have z2 : mg "int" = none := by
      refine' PySem.W.mg_none_of KX G ?z
      (case z => k_is)
    have z3 : mg "bool" = none := by
      refine' PySem.W.mg_none_of KX G ?z
      (case z => k_is)
    have z4 : mg "range" = none := by
      refine' PySem.W.mg_none_of KX G ?z
      (case z => k_is)
    have z5 : mg "set" = none := by
      refine' PySem.W.mg_none_of KX G ?z
      (case z => k_is)
    have z6 : mg "sorted" = none := by
      refine' PySem.W.mg_none_of KX G ?z
      (case z => k_is)
    have z7 : mg "enumerate" = none := by
      refine' PySem.W.mg_none_of KX G ?z
      (case z => k_is)
    have z8 : mg "sum" = none := by
      refine' PySem.W.mg_none_of KX G ?z
      (case z => k_is)
    have z9 : mg "ValueError" = none := by
      refine' PySem.W.mg_none_of KX G ?z
      (case z => k_is)
    have z10 : mg "tuple" = none := by
      refine' PySem.W.mg_none_of KX G ?z
      (case z => k_is)
    have z11 : mg "all" = none := by
      refine' PySem.W.mg_none_of KX G ?z
      (case z => k_is)
    have z12 : mg "list" = none := by
      refine' PySem.W.mg_none_of KX G ?z
      (case z => k_is)
    have B : Q01.Blt mg := ⟨z0, z1, z2, z3, z4, z5, z6, z7, z8, z9, z10, z11, z12⟩
    have CS : ∃ c_TellError c_NoPack c_NoHand c_NoRow c_NoCard c_NoNumber c_NoPlan c_NoNote : Addr, Q01.Cl (L2.KOf KX) mg c_TellError c_NoPack c_NoHand c_NoRow c_NoCard c_NoNumber c_NoPlan c_NoNote ∧ Q01.KindOf (L2.KOf KX) c_TellError c_NoPack c_NoHand c_NoRow c_NoCard c_NoNumber c_NoPlan c_NoNote c_NoPack 0 := by
      dsimp only [L2.KOf]
      refine' Q01.cls_mk KX G ?a_TellError ?e_TellError ?a_NoPack ?e_NoPack ?a_NoHand ?e_NoHand ?a_NoRow ?e_NoRow ?a_NoCard ?e_NoCard ?a_NoNumber ?e_NoNumber ?a_NoPlan ?e_NoPlan ?a_NoNote ?e_NoNote ?t_NoPack ?o_NoPack ?t_NoHand ?o_NoHand ?t_NoRow ?o_NoRow ?t_NoCard ?o_NoCard ?t_NoNumber ?o_NoNumber ?t_NoPlan ?o_NoPlan ?t_NoNote ?o_NoNote ?m_NoPack_NoPack ?n_NoPack_NoPack ?m_NoPack_NoHand ?n_NoPack_NoHand ?m_NoPack_NoRow ?n_NoPack_NoRow ?m_NoPack_NoCard ?n_NoPack_NoCard ?m_NoPack_NoNumber ?n_NoPack_NoNumber ?m_NoPack_NoPlan ?n_NoPack_NoPlan ?m_NoPack_NoNote ?n_NoPack_NoNote ?v_NoPack ?ga_NoPack ?gt_NoPack ?gc_NoPack ?be_NoPack ?s_NoPack
      (case a_TellError => k_is)
      (case e_TellError => k_exc)
      (case a_NoPack => k_is)
      (case e_NoPack => k_exc)
      (case a_NoHand => k_is)
      (case e_NoHand => k_exc)
      (case a_NoRow => k_is)
      (case e_NoRow => k_exc)
      (case a_NoCard => k_is)
      (case e_NoCard => k_exc)
      (case a_NoNumber => k_is)
      (case e_NoNumber => k_exc)
      (case a_NoPlan => k_is)
      (case e_NoPlan => k_exc)
      (case a_NoNote => k_is)
      (case e_NoNote => k_exc)
      (case t_NoPack => k_is)
      (case o_NoPack => k_is)
      (case t_NoHand => k_is)
      (case o_NoHand => k_is)
      (case t_NoRow => k_is)
      (case o_NoRow => k_is)
      (case t_NoCard => k_is)
      (case o_NoCard => k_is)
      (case t_NoNumber => k_is)
      (case o_NoNumber => k_is)
      (case t_NoPlan => k_is)
      (case o_NoPlan => k_is)
      (case t_NoNote => k_is)
      (case o_NoNote => k_is)
      (case m_NoPack_NoPack => k_is)
      (case n_NoPack_NoPack => decide)
      (case m_NoPack_NoHand => k_is)
      (case n_NoPack_NoHand => decide)
      (case m_NoPack_NoRow => k_is)
      (case n_NoPack_NoRow => decide)
      (case m_NoPack_NoCard => k_is)
      (case n_NoPack_NoCard => decide)
      (case m_NoPack_NoNumber => k_is)
      (case n_NoPack_NoNumber => decide)
      (case m_NoPack_NoPlan => k_is)
      (case n_NoPack_NoPlan => decide)
      (case m_NoPack_NoNote => k_is)
      (case n_NoPack_NoNote => decide)
      (case v_NoPack => k_is)
      (case ga_NoPack => k_is)
      (case gt_NoPack => k_is)
      (case gc_NoPack => k_is)
      (case be_NoPack => k_is)
      (case s_NoPack => k_is)
    obtain ⟨c_TellError, c_NoPack, c_NoHand, c_NoRow, c_NoCard, c_NoNumber, c_NoPlan, c_NoNote, S, k_NoPack⟩ := CS
    have y0 : ∃ t, mg "LEAST_SIZE" = some (Value.int 2 t) := by
      have y : ∃ v, (∃ t, v = Value.int 2 t) ∧ mg "LEAST_SIZE" = some v := by
        refine' ⟨?v0, ?w0, PySem.W.mg_of KX G ?z0⟩
        (case z0 => k_is)
        exact ⟨_, rfl⟩
      obtain ⟨v, ⟨t, e⟩, q⟩ := y
      exact ⟨t, e ▸ q⟩
    have y1 : ∃ t, mg "GREATEST_SIZE" = some (Value.int 5 t) := by
      have y : ∃ v, (∃ t, v = Value.int 5 t) ∧ mg "GREATEST_SIZE" = some v := by
        refine' ⟨?v1, ?w1, PySem.W.mg_of KX G ?z1⟩
        (case z1 => k_is)
        exact ⟨_, rfl⟩
      obtain ⟨v, ⟨t, e⟩, q⟩ := y
      exact ⟨t, e ▸ q⟩
    have y2 : ∃ t, mg "MOST_COUNTED" = some (Value.int 500 t) := by
      have y : ∃ v, (∃ t, v = Value.int 500 t) ∧ mg "MOST_COUNTED" = some v := by
        refine' ⟨?v2, ?w2, PySem.W.mg_of KX G ?z2⟩
        (case z2 => k_is)
        exact ⟨_, rfl⟩
      obtain ⟨v, ⟨t, e⟩, q⟩ := y
      exact ⟨t, e ▸ q⟩
    have C : Q01.Cn mg := ⟨y0, y1, y2⟩
    exact Q01.all_mk hmg B S C k_NoPack d36 d37 d38 d39 d10 d20 d21 d17 d19 d24 d22 d23 d12 d11 d27 d25 d26 d18 d29 d30 d34 d32 d33 d43 d44 d45 d46 d47 d48
