import PyProof.Rows.All
import Wide.All
import OpenK.AllK
import Wide.FinOn
import Lean
import PyProof.EqAt
import PyProof.EqKinds
import PyProof.TupleCall
import PyProof.NeKinds
import PySem.Challenge.RW_haltline_k01_lines_made

set_option Elab.async false
set_option linter.all false
set_option maxRecDepth 100000
/-! THE HAND LAYER, for ints, bools, texts, own classes, LISTS and tuples (index, slices, in, append, pop ..), calls, loops. Paste it whole ahead of your own text; what your proof does not reach may be deleted. -/
namespace L2
open PySem PySem.Spec PyProof.Rows

/-- a key: an int or a str -/
abbrev Key := Sum Int Str
def keyIs : Key → Value → Bool
  | .inl k, v => Value.isInt k v
  | .inr x, v => Value.isStrOf x v
def keyH (w : World) : Key → Int
  | .inl k => hashInt k
  | .inr x => hashStr w x
theorem keyIs_shape : ∀ {k : Key} {v : Value}, keyIs k v = true → (∃ i t, k = Sum.inl i ∧ v = Value.int i t) ∨ (∃ x t, k = Sum.inr x ∧ v = Value.str x t)
  | .inl i, v, h => by
    obtain ⟨t, e⟩ := Value.isInt_shape (k := i) (v := v) h
    exact .inl ⟨i, t, rfl, e⟩
  | .inr x, v, h => by
    obtain ⟨t, e⟩ := Value.isStrOf_shape (x := x) (v := v) h
    exact .inr ⟨x, t, rfl, e⟩
theorem keyIs_int (i : Int) (t : Tok) : keyIs (.inl i) (.int i t) = true := by simp [keyIs, Value.isInt]
theorem keyIs_str (x : Str) (t : Tok) : keyIs (.inr x) (.str x t) = true := by simp [keyIs, Value.isStrOf]
theorem key_ll (a b : Int) : decide ((Sum.inl a : Key) = Sum.inl b) = (a == b) := by
  by_cases e : a = b
  · subst e; simp
  · have h : ¬ (Sum.inl a : Key) = Sum.inl b := fun q => e (Sum.inl.inj q)
    rw [decide_eq_false h]
    exact (beq_eq_false_iff_ne.mpr e).symm
theorem key_rr (a b : Str) : decide ((Sum.inr a : Key) = Sum.inr b) = decide (a = b) := by
  by_cases e : a = b
  · subst e; simp
  · have h : ¬ (Sum.inr a : Key) = Sum.inr b := fun q => e (Sum.inr.inj q)
    rw [decide_eq_false h, decide_eq_false e]
theorem key_lr (a : Int) (b : Str) : decide ((Sum.inl a : Key) = Sum.inr b) = false := decide_eq_false (fun q => nomatch q)
theorem key_rl (a : Str) (b : Int) : decide ((Sum.inr a : Key) = Sum.inl b) = false := decide_eq_false (fun q => nomatch q)

def mixKind (prog : Program) (w : World) : PySem.KeyKind prog w Key where
  is := keyIs
  hash := keyH w
  inj := fun v a b ha hb => by
    rcases keyIs_shape ha with ⟨i, t, rfl, rfl⟩ | ⟨x, t, rfl, rfl⟩
    · rcases keyIs_shape hb with ⟨j, u, rfl, e⟩ | ⟨y, u, rfl, e⟩
      · injection e with e1 _; rw [e1]
      · exact nomatch e
    · rcases keyIs_shape hb with ⟨j, u, rfl, e⟩ | ⟨y, u, rfl, e⟩
      · exact nomatch e
      · injection e with e1 _; rw [e1]
  byValue := fun k v h => by
    rcases keyIs_shape h with ⟨i, t, rfl, rfl⟩ | ⟨x, t, rfl, rfl⟩ <;> rfl
  pyHash := fun hv h => by
    rcases keyIs_shape hv with ⟨i, t, rfl, rfl⟩ | ⟨x, t, rfl, rfl⟩
    · exact wpAny_pyHash_int h
    · exact wpAny_pyHash_str h
  eqBool := fun hu hv h => by
    rcases keyIs_shape hu with ⟨i, t, rfl, rfl⟩ | ⟨x, t, rfl, rfl⟩
    · rcases keyIs_shape hv with ⟨j, u, rfl, rfl⟩ | ⟨y, u, rfl, rfl⟩
      · rw [key_ll] at h; exact wpAny_eqBool_int h
      · rw [key_lr] at h; exact SeqAt.EqAt.int_str i t y u _ _ _ _ h
    · rcases keyIs_shape hv with ⟨j, u, rfl, rfl⟩ | ⟨y, u, rfl, rfl⟩
      · rw [key_rl] at h; exact SeqAt.EqAt.str_int x t j u _ _ _ _ h
      · rw [key_rr] at h; exact wpAny_eqBool_str h
  «strs» := fun k x t v h => by
    rcases keyIs_shape h with ⟨i, u, rfl, e⟩ | ⟨y, u, rfl, e⟩
    · exact nomatch e
    · injection e with e1 _
      subst e1
      cases v <;> rfl

theorem mixKind_is (prog : Program) (w : World) (k : Key) (v : Value) : (mixKind prog w).is k v = keyIs k v := rfl
theorem mixKind_int (prog : Program) (w : World) (i : Int) (t : Tok) : (mixKind prog w).is (.inl i) (.int i t) = true := keyIs_int i t
theorem mixKind_str (prog : Program) (w : World) (x : Str) (t : Tok) : (mixKind prog w).is (.inr x) (.str x t) = true := keyIs_str x t
end L2

namespace L2
open PySem PySem.Spec PyProof.Rows

/-- a value, without the heap -/
inductive V where
  | non | bl (b : Bool) | int (i : Int) | str (x : Str) | byt (b : Array UInt8) | flt (b : UInt64) | ref (a : Addr) | ty (n : String)
  deriving DecidableEq

def RelV : V → Value → Prop
  | .non, u => u = Value.none
  | .bl b, u => u = Value.bool b
  | .int i, u => ∃ t, u = Value.int i t
  | .str x, u => ∃ t, u = Value.str x t
  | .byt b, u => ∃ t, u = Value.bytes b t
  | .flt b, u => ∃ t, u = Value.float b t
  | .ref a, u => u = Value.ref a
  | .ty n, u => u = Value.type n

abbrev Vals : List V → List Value → Prop := Paired RelV
theorem Vals.length {xs : List V} {us : List Value} (r : Vals xs us) : xs.length = us.length := Paired.length r
theorem Vals.get : ∀ {xs : List V} {us : List Value} {i : Nat} {x : V}, Vals xs us → xs[i]? = some x → ∃ u, us[i]? = some u ∧ RelV x u
  | _, _, _, _, .nil, e => by simp at e
  | _, _, 0, _, .cons r _, e => by simp at e; subst e; exact ⟨_, rfl, r⟩
  | _, _, i + 1, x, .cons _ t, e => by
    obtain ⟨u, h1, h2⟩ := Vals.get (i := i) (x := x) t (by simpa using e)
    exact ⟨u, by simpa using h1, h2⟩
theorem Vals.set {x : V} {u : Value} (r : RelV x u) : ∀ {xs : List V} {us : List Value} (i : Nat), Vals xs us → Vals (xs.set i x) (us.set i u)
  | _, _, _, .nil => .nil
  | _, _, 0, .cons _ t => .cons r t
  | _, _, i + 1, .cons q t => .cons q (Vals.set r i t)
theorem Vals.append : ∀ {xs ys : List V} {us ws : List Value}, Vals xs us → Vals ys ws → Vals (xs ++ ys) (us ++ ws)
  | _, _, _, _, .nil, s => s
  | _, _, _, _, .cons r t, s => .cons r (Vals.append t s)
theorem Vals.take : ∀ {xs : List V} {us : List Value} (n : Nat), Vals xs us → Vals (xs.take n) (us.take n)
  | _, _, 0, _ => .nil
  | _, _, _ + 1, .nil => .nil
  | _, _, n + 1, .cons r t => .cons r (Vals.take n t)
theorem Vals.drop : ∀ {xs : List V} {us : List Value} (n : Nat), Vals xs us → Vals (xs.drop n) (us.drop n)
  | _, _, 0, r => r
  | _, _, _ + 1, .nil => .nil
  | _, _, n + 1, .cons _ t => Vals.drop n t
theorem Vals.none_of : ∀ {xs : List V} {us : List Value} {i : Nat}, Vals xs us → xs[i]? = none → us[i]? = none := fun {xs us i} r e => by
  have h1 := r.length
  have h2 : xs.length ≤ i := List.getElem?_eq_none_iff.mp e
  exact List.getElem?_eq_none_iff.mpr (by omega)

def RelO : Option V → Option Value → Prop
  | some v, some u => RelV v u
  | none, none => True
  | _, _ => False
def KV {κ : Type} : List (κ × V) → List (κ × Value) → Prop := Paired fun (p : κ × V) (q : κ × Value) => p.1 = q.1 ∧ RelV p.2 q.2

/-- a key of a dict (00_mix): an int or a text -/
def kV : Key → V
  | .inl i => .int i
  | .inr x => .str x

/-- what stands at a tracked address -/
inductive HO where
  /-- a list -/
  | lst (xs : List V)
  /-- a tuple (never changes) -/
  | tup (xs : List V)
  /-- a dict whose keys are ints and texts; one whose keys are tuples of ints and texts (the empty one is both) -/
  | dK (kvs : List (Key × V)) | dT (kvs : List (List Key × V))
  /-- a set of ints: its members, its size -/
  | set (S : Int → Bool) (n : Nat)
  /-- an instance of the class at C, its dict at dx, its attributes -/
  | ins (C dx : Addr) (fs : List (Str × V))
  /-- the dict of the instance at x -/
  | own (x : Addr)
  /-- the dict of an exception -/
  | xd (fs : List (Str × V))
  /-- a bound method, f of x -/
  | met (f x : Addr)
  /-- a range object lo, lo + 1, .. below hi -/
  | rng (lo hi : Int)
  /-- a thing that is known to the object (the script; a dict while a loop walks it): read, never written while it is so -/
  | frz (o : Obj) (u : HO)
  /-- a code object's table -/
  | tbl (ps : Array Value)
  /-- any other thing, by what is true of its one object (a def of one's own: SetO a S n := HO.ext fun h => ..) -/
  | ext (φ : Heap → Prop)

abbrev Hp := Addr → Option HO
def upd (H : Hp) (a : Addr) (o : HO) : Hp := fun b => if b = a then some o else H b
theorem upd_same {H : Hp} {a : Addr} {o : HO} : upd H a o a = some o := by unfold upd; rw [if_pos rfl]
theorem upd_ne {H : Hp} {a b : Addr} {o : HO} (h : b ≠ a) : upd H a o b = H b := by unfold upd; rw [if_neg h]
theorem upd_upd {H : Hp} {a : Addr} {o u : HO} : upd (upd H a o) a u = upd H a u := by
  funext b; unfold upd; split <;> rfl
/-- two objects of different content stand apart -/
theorem ne_of {H : Hp} {a b : Addr} {o u : HO} (h : H a = some o) (h' : H b = some u) (d : o ≠ u) : a ≠ b := by
  intro e; subst e; rw [h] at h'; exact d (Option.some.inj h')
theorem ne_of_none {H : Hp} {a b : Addr} {o : HO} (h : H a = some o) (h' : H b = none) : a ≠ b := by
  intro e; subst e; rw [h] at h'; cases h'

section
variable (P : Program) (w : World)
def ObjOk (H : Hp) (h : Heap) (a : Addr) : HO → Prop
  | .lst xs => xs.length ≤ sizeLine ∧ ∃ (its : List Value) (n : Nat), Vals xs its ∧ h.get? a = some { cls := .type "list", data := .seq its.toArray n }
  | .tup xs => xs.length ≤ sizeLine ∧ ∃ its : List Value, Vals xs its ∧ IsTup h a its.toArray
  | .dK kvs => kvs.length ≤ sizeLine ∧ (a == sysModules) = false ∧ ∃ vs, KV kvs vs ∧ h.DictOf (mixKind P w) a vs
  | .dT kvs => kvs.length ≤ sizeLine ∧ (a == sysModules) = false ∧ ∃ xs : List (List Key × Addr × Value),
      Paired (fun (p : List Key × V) (q : List Key × Addr × Value) => p.1 = q.1 ∧ H q.2.1 = some (.tup (p.1.map kV)) ∧ RelV p.2 q.2.2) kvs xs ∧
      ∃ o es ep, h.get? a = some o ∧ o.ExactDict ∧ o.data = .dict es ep ∧ es.toList = xs.map (entryOfKey (tupleKind (mixKind P w))) ∧ (xs.map (·.1)).Nodup
  | .set S n => h.SetOf (intKind P w) a S n
  | .ins C dx fs => H dx = some (.own a) ∧ fs.length ≤ 1000 ∧ dx ≠ a ∧ h.get? a = some (PySem.W.instObj C dx) ∧
      ∃ mA, h.Ns1 dx mA ∧ (∀ f, RelO (fs.lookup f) (mA f)) ∧ PySem.Within mA (fs.map (·.1))
  | .own _ => ∃ o, h.get? a = some o
  | .xd fs => ∃ mA, h.Ns1 a mA ∧ ∀ f, RelO (fs.lookup f) (mA f)
  | .rng lo hi => ∃ t u v, h.get? a = some { cls := .type "range", data := .fields #[.int lo t, .int hi u, .int 1 v] }
  | .frz o u => h.get? a = some o ∧ ObjOk H h a u
  | .tbl ps => h.get? a = some { cls := .none, data := .fields ps }
  | .met f x => h.get? a = some (PySem.W.methodObj (.ref f) (.ref x))
  | .ext φ => φ h ∧ (∃ o, h.get? a = some o) ∧ ∀ h1 h2 : Heap, φ h1 → (∀ o, h1.get? a = some o → h2.get? a = some o) → φ h2
/-- the abstract heap is held -/
def HOk (H : Hp) (h : Heap) : Prop := ∀ a o, H a = some o → ObjOk P w H h a o
end

section
variable {P : Program} {w : World} {H H' : Hp} {h h' : Heap} {a : Addr} {o : HO}
theorem ObjOk.lt (x : ObjOk P w H h a o) : a < h.objs.size := by
  cases o with
  | lst xs => obtain ⟨_, _, _, _, e⟩ := x; exact Heap.lt_size e
  | tup xs => obtain ⟨_, _, _, p⟩ := x; exact p.lt
  | dK kvs => obtain ⟨_, _, _, _, o, _, _, e, _⟩ := x; exact Heap.lt_size e
  | dT kvs => obtain ⟨_, _, _, _, o, _, _, e, _⟩ := x; exact Heap.lt_size e
  | set S n => obtain ⟨o, _, _, _, e, _⟩ := x; exact Heap.lt_size e
  | ins C dx fs => obtain ⟨_, _, _, e, _⟩ := x; exact Heap.lt_size e
  | own y => obtain ⟨_, e⟩ := x; exact Heap.lt_size e
  | xd fs => obtain ⟨_, ⟨_, _, _, e, _⟩, _⟩ := x; exact Heap.lt_size e
  | rng lo hi => obtain ⟨_, _, _, e⟩ := x; exact Heap.lt_size e
  | frz ob u => obtain ⟨e, _⟩ := x; exact Heap.lt_size e
  | tbl ps => exact Heap.lt_size (show h.get? a = some _ from x)
  | met f y => exact Heap.lt_size (show h.get? a = some _ from x)
  | ext φ => obtain ⟨_, ⟨_, e⟩, _⟩ := x; exact Heap.lt_size e
theorem Paired.mapP {α β : Type} {F G : α → β → Prop} : ∀ {l₁ : List α} {l₂ : List β}, Paired F l₁ l₂ → (∀ a b, F a b → G a b) → Paired G l₁ l₂
  | _, _, .nil, _ => .nil
  | _, _, .cons r t, f => .cons (f _ _ r) (Paired.mapP t f)
theorem Paired.imp' {α β : Type} {F G : α → β → Prop} (f : ∀ a b, F a b → G a b) {l₁ : List α} {l₂ : List β} (r : Paired F l₁ l₂) : Paired G l₁ l₂ := Paired.mapP r f
/-- what an object's description leans on: its own object, its own dict, the tuples -/
theorem ObjOk.stay (x : ObjOk P w H h a o) (k : ∀ b u, (b = a ∨ H b = some (.own a)) → h.get? b = some u → h'.get? b = some u)
    (ho : ∀ b, H b = some (.own a) → H' b = some (.own a)) (ht : ∀ b xs, H b = some (.tup xs) → H' b = some (.tup xs)) : ObjOk P w H' h' a o := by
  induction o with
  | lst xs => obtain ⟨z, its, n, r, e⟩ := x; exact ⟨z, its, n, r, k _ _ (.inl rfl) e⟩
  | tup xs => obtain ⟨z, its, r, ob, e, c⟩ := x; exact ⟨z, its, r, ob, k _ _ (.inl rfl) e, c⟩
  | dK kvs => obtain ⟨z, y, vs, r, ob, es, ep, e, c⟩ := x; exact ⟨z, y, vs, r, ob, es, ep, k _ _ (.inl rfl) e, c⟩
  | dT kvs =>
    obtain ⟨z, y, xs, r, ob, es, ep, e, c⟩ := x
    exact ⟨z, y, xs, Paired.mapP r fun p q z => ⟨z.1, ht _ _ z.2.1, z.2.2⟩, ob, es, ep, k _ _ (.inl rfl) e, c⟩
  | set S n => obtain ⟨ob, es, ep, t, e, c⟩ := x; exact ⟨ob, es, ep, t, k _ _ (.inl rfl) e, c⟩
  | ins C dx fs =>
    obtain ⟨d, z, ne, e, mA, ⟨od, es, ep, e2, c⟩, r⟩ := x
    exact ⟨ho _ d, z, ne, k _ _ (.inl rfl) e, mA, ⟨od, es, ep, k _ _ (.inr d) e2, c⟩, r⟩
  | own y => obtain ⟨ob, e⟩ := x; exact ⟨ob, k _ _ (.inl rfl) e⟩
  | xd fs => obtain ⟨mA, ⟨od, es, ep, e, c⟩, r⟩ := x; exact ⟨mA, ⟨od, es, ep, k _ _ (.inl rfl) e, c⟩, r⟩
  | rng lo hi => obtain ⟨t, u, v, e⟩ := x; exact ⟨t, u, v, k _ _ (.inl rfl) e⟩
  | frz ob u ih => obtain ⟨e, q⟩ := x; exact ⟨k _ _ (.inl rfl) e, ih q⟩
  | tbl ps =>
    have e : h.get? a = some { cls := .none, data := .fields ps } := x
    show h'.get? a = some { cls := .none, data := .fields ps }
    exact k a _ (.inl rfl) e
  | met f y =>
    have e : h.get? a = some (PySem.W.methodObj (.ref f) (.ref y)) := x
    show h'.get? a = some (PySem.W.methodObj (.ref f) (.ref y))
    exact k a _ (.inl rfl) e
  | ext φ => obtain ⟨p, ⟨o, e⟩, st⟩ := x; exact ⟨st _ _ p fun o q => k _ _ (.inl rfl) q, ⟨o, k _ _ (.inl rfl) e⟩, st⟩
theorem HOk.lt (x : HOk P w H h) (e : H a = some o) : a < h.objs.size := (x a o e).lt
theorem HOk.fresh (x : HOk P w H h) (e : h.objs.size ≤ a) : H a = none := by
  cases q : H a with
  | none => rfl
  | some u => exact absurd (Nat.lt_of_lt_of_le (x.lt q) e) (Nat.lt_irrefl _)
/-- every object of the heap is kept -/
theorem HOk.kept (x : HOk P w H h) (k : ∀ b u, h.get? b = some u → h'.get? b = some u) : HOk P w H h' := fun a o e =>
  (x a o e).stay (fun b u _ q => k b u q) (fun _ q => q) fun _ _ q => q
/-- a new object is laid and tracked -/
theorem HOk.laid (x : HOk P w H h) (k : ∀ b u, h.get? b = some u → h'.get? b = some u) (hp : h.objs.size ≤ a) (new : ObjOk P w (upd H a o) h' a o) : HOk P w (upd H a o) h' := fun b u e => by
  have hn := x.fresh hp
  by_cases hb : b = a
  · subst hb; rw [upd_same] at e; cases e; exact new
  · rw [upd_ne hb] at e
    exact (x b u e).stay (fun c v _ q => k c v q) (fun c q => by rw [upd_ne (ne_of_none q hn)]; exact q) fun c xs q => by rw [upd_ne (ne_of_none q hn)]; exact q
end

/-- what may be read as u: it is u, or a known u -/
def Rd (H : Hp) (a : Addr) (u : HO) : Prop := H a = some u ∨ ∃ o, H a = some (.frz o u)
theorem Rd.of {H : Hp} {a : Addr} {u : HO} (h : H a = some u) : Rd H a u := .inl h
theorem Rd.ok {P : Program} {w : World} {H : Hp} {h : Heap} {a : Addr} {u : HO} (r : Rd H a u) (x : HOk P w H h) : ObjOk P w H h a u := by
  rcases r with r | ⟨o, r⟩
  · exact x a u r
  · obtain ⟨_, q⟩ := x a _ r
    exact q
/-- what may be written -/
def Mut : Option HO → Prop
  | some (.lst _) => True
  | some (.dK _) => True
  | some (.dT _) => True
  | some (.set _ _) => True
  | some (.ins _ _ _) => True
  | some (.ext _) => True
  | _ => False
section
variable {P : Program} {w : World} {H : Hp} {h h' : Heap} {x e : Addr} {o' : HO}
/-- the object at e is changed: x itself, or the dict of the instance x -/
theorem HOk.write (ok : HOk P w H h) (mu : Mut (H x)) (he : e = x ∨ H e = some (.own x)) (k : ∀ b u, b ≠ e → h.get? b = some u → h'.get? b = some u) (heo : ∃ u, h'.get? e = some u)
    (new : ObjOk P w (upd H x o') h' x o') : HOk P w (upd H x o') h' := fun b u q => by
  have nown : ∀ c y, H c = some (.own y) → c ≠ x := fun c y r z => by subst z; rw [r] at mu; exact mu
  have ntup : ∀ c xs, H c = some (.tup xs) → c ≠ x := fun c xs r z => by subst z; rw [r] at mu; exact mu
  by_cases hb : b = x
  · subst hb; rw [upd_same] at q; cases q; exact new
  · rw [upd_ne hb] at q
    by_cases hbe : b = e
    · have q' : H b = some (.own x) := by
        rcases he with z | z
        · exact absurd (hbe.trans z) hb
        · rw [hbe]; exact z
      rw [q] at q'; cases q'
      obtain ⟨v, hv⟩ := heo
      exact ⟨v, by rw [hbe]; exact hv⟩
    · refine (ok b u q).stay (fun c v hc r => k c v ?_ r) (fun c r => by rw [upd_ne (nown c b r)]; exact r) fun c xs r => by rw [upd_ne (ntup c xs r)]; exact r
      rcases hc with rfl | hc
      · exact hbe
      · rintro rfl
        rcases he with z | z
        · exact nown c b hc z
        · rw [hc] at z; cases z; exact hb rfl
end

/-! ### kept unless tracked; of the frames at fs (the callers') the slots may change (an exception that passes writes there); of the records at ex (iterators) nothing is said -/
structure Un (fs ex : List Addr) (H H' : Hp) (h h' : Heap) : Prop where
  keep : ∀ b o, h.get? b = some o → H b = none → b ∉ fs → b ∉ ex → h'.get? b = some o
  slot : ∀ b o, h.get? b = some o → H b = none → b ∈ fs → b ∉ ex → ∃ sl, h'.get? b = some { o with slots := sl }
  free : ∀ b o, h.get? b = some o → H b = none → b ∉ ex → H' b = none
  there : ∀ b o, h.get? b = some o → b ∉ ex → ∃ o', h'.get? b = some o'
  tups : ∀ b xs, H b = some (.tup xs) → H' b = some (.tup xs)
  frzs : ∀ b o u, H b = some (.frz o u) → H' b = some (.frz o u)
  tbls : ∀ b ps, H b = some (.tbl ps) → ∃ more, H' b = some (.tbl (ps ++ more))
section
variable {fs fs' ex ex' : List Addr} {H H1 H2 : Hp} {h h1 h2 h' : Heap} {a x e : Addr} {o : HO}
theorem Un.any (u : Un fs ex H H1 h h1) {b : Addr} {ob : Obj} (q : h.get? b = some ob) (n : H b = none) (hx : b ∉ ex) : ∃ sl, h1.get? b = some { ob with slots := sl } := by
  by_cases hb : b ∈ fs
  · exact u.slot b ob q n hb hx
  · exact ⟨ob.slots, u.keep b ob q n hb hx⟩
theorem Un.trans (a : Un fs ex H H1 h h1) (b : Un fs ex H1 H2 h1 h2) : Un fs ex H H2 h h2 where
  keep := fun c ob q n hc hx => b.keep c ob (a.keep c ob q n hc hx) (a.free c ob q n hx) hc hx
  slot := fun c ob q n hc hx => by
    obtain ⟨sl, e1⟩ := a.slot c ob q n hc hx
    obtain ⟨sl', e2⟩ := b.slot c _ e1 (a.free c ob q n hx) hc hx
    exact ⟨sl', e2⟩
  free := fun c ob q n hx => by
    obtain ⟨o', e1⟩ := a.there c ob q hx
    exact b.free c o' e1 (a.free c ob q n hx) hx
  there := fun c ob q hx => by
    obtain ⟨o', e1⟩ := a.there c ob q hx
    exact b.there c o' e1 hx
  tups := fun c xs q => b.tups c xs (a.tups c xs q)
  frzs := fun c ob xs q => b.frzs c ob xs (a.frzs c ob xs q)
  tbls := fun c ps q => by
    obtain ⟨m1, e1⟩ := a.tbls c ps q
    obtain ⟨m2, e2⟩ := b.tbls c _ e1
    exact ⟨m1 ++ m2, by rw [e2, Array.append_assoc]⟩
theorem Un.kept (k : ∀ b u, h.get? b = some u → h'.get? b = some u) : Un fs ex H H h h' :=
  ⟨fun b ob q _ _ _ => k b ob q, fun b ob q _ _ _ => ⟨ob.slots, k b ob q⟩, fun _ _ _ n _ => n, fun b ob q _ => ⟨ob, k b ob q⟩, fun _ _ q => q, fun _ _ _ q => q, fun _ ps q => ⟨#[], by rw [q]; simp⟩⟩
theorem Un.refl : Un fs ex H H h h := Un.kept fun _ _ q => q
theorem Un.laid (k : ∀ b u, h.get? b = some u → h'.get? b = some u) (hp : h.objs.size ≤ a) (hn : H a = none) : Un fs ex H (upd H a o) h h' where
  keep := fun b u q _ _ _ => k b u q
  slot := fun b u q _ _ _ => ⟨u.slots, k b u q⟩
  free := fun b u q n _ => by rw [upd_ne (Nat.ne_of_lt (Nat.lt_of_lt_of_le (Heap.lt_size q) hp))]; exact n
  there := fun b u q _ => ⟨u, k b u q⟩
  tups := fun b xs q => by rw [upd_ne (ne_of_none q hn)]; exact q
  frzs := fun b u xs q => by rw [upd_ne (ne_of_none q hn)]; exact q
  tbls := fun b ps q => ⟨#[], by rw [upd_ne (ne_of_none q hn), q]; simp⟩
theorem Un.write (mu : Mut (H x)) (he : e = x ∨ H e = some (.own x)) (k : ∀ b u, b ≠ e → h.get? b = some u → h'.get? b = some u) (heo : ∃ u, h'.get? e = some u) : Un fs ex H (upd H x o) h h' := by
  have hx : ∀ b, H b = none → b ≠ x := fun b n z => by subst z; rw [n] at mu; exact mu
  have hb : ∀ b, H b = none → b ≠ e := fun b n z => by
    subst z
    rcases he with r | r
    · exact hx b n r
    · rw [n] at r; cases r
  have hm : ∀ b u, H b = some u → ¬ Mut (some u) → b ≠ x := fun b u q nm z => by subst z; rw [q] at mu; exact nm mu
  refine ⟨fun b u q n _ _ => k b u (hb b n) q, fun b u q n _ _ => ⟨u.slots, k b u (hb b n) q⟩, fun b u q n _ => by rw [upd_ne (hx b n)]; exact n, fun b u q _ => ?_,
    fun b xs q => by rw [upd_ne (hm b _ q fun z => z)]; exact q, fun b u xs q => by rw [upd_ne (hm b _ q fun z => z)]; exact q, fun b ps q => ⟨#[], by rw [upd_ne (hm b _ q fun z => z), q]; simp⟩⟩
  by_cases hbe : b = e
  · subst hbe; exact heo
  · exact ⟨u, k b u hbe q⟩
theorem Un.mono (u : Un fs ex H H1 h h1) (hs : ∀ b ∈ fs, b ∈ fs') (hx : ∀ b ∈ ex, b ∈ ex') : Un fs' ex' H H1 h h1 :=
  ⟨fun b ob q n hb he => u.keep b ob q n (fun z => hb (hs b z)) fun z => he (hx b z), fun _ _ q n _ he => u.any q n fun z => he (hx _ z), fun b ob q n he => u.free b ob q n fun z => he (hx b z), fun b ob q he => u.there b ob q fun z => he (hx b z), u.tups, u.frzs, u.tbls⟩
end

/-! ### the heap without what is tracked -/
def trk (h : Heap) (H : Hp) : List Addr := (List.range h.objs.size).filter fun a => (H a).isSome
def hidT (h : Heap) (H : Hp) : Heap := PySem.W.hideAll h (trk h H)
theorem hidT_size (h : Heap) (H : Hp) : (hidT h H).objs.size = h.objs.size := PySem.W.hideAll_size _ _
theorem hidT_get {h : Heap} {H : Hp} {b : Addr} {o : Obj} (e : h.get? b = some o) (n : H b = none) : (hidT h H).get? b = some o :=
  PySem.W.hideAll_get _ e fun hm => by
    have q : (H b).isSome = true := (List.mem_filter.mp hm).2
    rw [n] at q; simp at q
theorem of_hidT {h : Heap} {H : Hp} {b : Addr} {o : Obj} (e : (hidT h H).get? b = some o) : h.get? b = some o ∧ H b = none := by
  have e' : h.get? b = some o := PySem.W.of_hideAll (trk h H) e
  refine ⟨e', ?_⟩
  cases q : H b with
  | none => rfl
  | some x =>
    have hm : b ∈ trk h H := List.mem_filter.mpr ⟨List.mem_range.mpr (Heap.lt_size e'), by simp [q]⟩
    have z : (hidT h H).get? b = none := PySem.W.hideAll_none (trk h H) hm
    rw [z] at e; cases e

/-! ### OpenK's ledger, filled with every new object but one -/
def allNews (g h : Heap) (L : Addr) : List (Addr × Obj) := (List.range h.objs.size).filterMap fun a => if a = L ∨ (g.get? a).isSome = true then none else (h.get? a).map fun o => (a, o)
theorem mem_allNews {g h : Heap} {L a : Addr} {o : Obj} (h1 : a ≠ L) (h2 : g.get? a = none) (h3 : h.get? a = some o) : (a, o) ∈ allNews g h L :=
  List.mem_filterMap.mpr ⟨a, List.mem_range.mpr (Heap.lt_size h3), by simp [h1, h2, h3]⟩
theorem of_mem_allNews {g h : Heap} {L : Addr} {p : Addr × Obj} (hp : p ∈ allNews g h L) : p.1 ≠ L ∧ g.get? p.1 = none ∧ h.get? p.1 = some p.2 := by
  obtain ⟨b, _, e⟩ := List.mem_filterMap.mp hp
  split at e
  · cases e
  · rename_i hn
    cases q : h.get? b with
    | none => rw [q] at e; simp at e
    | some u =>
      rw [q] at e
      simp only [Option.map_some, Option.some.injEq] at e
      subst e
      refine ⟨fun z => hn (.inl z), ?_, q⟩
      show g.get? b = none
      cases r : g.get? b with
      | none => rfl
      | some v => exact (hn (.inr (by simp [r]))).elim
def rest (g h : Heap) (L d : Addr) : List (Addr × Obj) := (allNews g h L).filter fun p => decide (p.1 ≠ d)
theorem rest_ne {g h : Heap} {L d : Addr} : ∀ p ∈ rest g h L d, p.1 ≠ d := fun p hp => of_decide_eq_true (List.mem_filter.mp hp).2
theorem mem_rest {g h : Heap} {L d a : Addr} {o : Obj} (h1 : a ≠ L) (h2 : g.get? a = none) (h3 : h.get? a = some o) (h4 : a ≠ d) : (a, o) ∈ rest g h L d :=
  List.mem_filter.mpr ⟨mem_allNews h1 h2 h3, decide_eq_true h4⟩
theorem news_all {g h : Heap} {L : Addr} : News g L h (allNews g h L) := fun p hp => let ⟨a, b, c⟩ := of_mem_allNews hp; ⟨c, a, b⟩
theorem news_at {g h : Heap} {L d : Addr} {o : Obj} (h1 : d ≠ L) (h2 : g.get? d = none) (h3 : h.get? d = some o) : News g L h ((d, o) :: rest g h L d) := fun p hp => by
  rcases List.mem_cons.mp hp with rfl | hp
  · exact ⟨h3, h1, h2⟩
  · exact news_all p (List.mem_filter.mp hp).1
/-- behind a rule that changed d alone: all else but the frame is kept -/
theorem kept_of_news {g h h' : Heap} {L d : Addr} {m : Str → Option Value} (k : ∀ b o, g.get? b = some o → h.get? b = some o) (F : Fr g L h' m) (N : News g L h' (rest g h L d)) :
    ∀ b o, b ≠ L → b ≠ d → h.get? b = some o → h'.get? b = some o := fun b o h1 h2 e => by
  cases q : g.get? b with
  | some u =>
    have := k b u q
    rw [e] at this; cases this
    exact F.keep b _ q
  | none => exact (N (b, o) (mem_rest h1 q e h2)).1
end L2

namespace L2
open PySem PySem.Spec PyProof.Rows

/-- the module's facts, over the base: the heap at the law's entry without what is tracked there -/
structure Mod (K : PySem.W.Frag) (mg : Str → Option Value) (base : Heap) : Prop where
  kin : K.In base
  glob : base.Ns mainGlobals mg
  blt : ∃ mb, base.Ns builtinsNs mb ∧ ∀ x : Str, x ≠ "__name__" → mb x = bootBuiltins x
  nolimit : base.NoLimit

/-- the context: a def's body (or a comprehension's block) running. base: fixed through the whole law; s₀, H₀: the entry; outer: the frames whose slots others may change (a def's callers); stack: all frames that run;
   ex: iterators that were made ahead of the entry and are walked here (a comprehension's); fn: the names whose cells were made at the entry (a def: all; a comprehension's block: its own); calm: not within an except suite; pn: pins that every state bears; xe: what is wanted of an exception that leaves the code -/
structure Cx where
  prog : Program
  w : World
  K : PySem.W.Frag
  mg : Str → Option Value
  base : Heap
  A : Around
  N : List Str
  s₀ : Shared
  H₀ : Hp
  env : Env
  outer : List Env
  stack : List Env
  ex : List Addr
  fn : Str → Bool
  calm : Bool
  pn : List (Addr × Obj)
  xe : Value → Shared → Prop
/-- the callers' frames -/
def frs (l : List Env) : List Addr := l.filterMap (·.frame)
abbrev Cx.fs (X : Cx) : List Addr := frs X.outer

def Vis (sc : Scope) (x : Str) : Prop := sc.names.lookup x = some .local ∨ sc.names.lookup x = some .cell ∨ sc.names.lookup x = some .free
def Loc (sc : Scope) (x : Str) : Prop := sc.names.lookup x = some .local ∨ sc.names.lookup x = some .cell
def Look (env : Env) (h : Heap) (m : Str → Option Value) (x : Str) (u : Value) : Prop :=
  (env.kindOf x = some .local ∧ m x = some u) ∨ ((env.kindOf x = some .cell ∨ env.kindOf x = some .free) ∧ ∃ c, env.cells.lookup x = some c ∧ h.IsCell c (some u))

structure Cx.Ok (X : Cx) : Prop where
  mod : Mod X.K X.mg X.base
  kind : X.env.scope.kind = .function
  glob : X.env.globals = mainGlobals
  blt : X.env.builtins = builtinsNs
  above : X.s₀.heap.objs.size ≤ X.env.locals
  inj : ∀ x y c, X.env.cells.lookup x = some c → X.env.cells.lookup y = some c → x = y
  has : ∀ x, (X.env.kindOf x = some .cell ∨ X.env.kindOf x = some .free) → ∃ c, X.env.cells.lookup x = some c
  cab : ∀ x c, X.fn x = true → X.env.cells.lookup x = some c → X.s₀.heap.objs.size ≤ c
  hd : X.calm = true → X.A.handled = none
  frames : X.A.frames = some X.stack
  stk : X.stack = X.outer ∨ (X.stack = X.env :: X.outer ∧ X.env.frame = some X.env.locals)
  exf : ∀ b ∈ X.ex, b ≠ X.env.locals ∧ ∀ x c, X.env.cells.lookup x = some c → c ≠ b
  bs : ∀ b o, X.base.get? b = some o → X.s₀.heap.get? b = some o ∧ X.H₀ b = none
  bsz : X.base.objs.size ≤ X.s₀.heap.objs.size
  noex : ∀ b o, X.base.get? b = some o → b ∉ X.ex
  exfs : ∀ b ∈ X.ex, b ∉ X.fs
  funs : X.s₀.heap.FunFrames X.base X.outer
  frf : ∀ b ∈ X.fs, X.H₀ b = none

structure Inv (X : Cx) (pins : List (Addr × Obj)) (σ : List (Option V)) (H : Hp) (s : Shared) : Prop where
  ok : X.Ok
  os : s.os = X.s₀.os
  bare : AllBare s.gens
  base : Un X.fs X.ex X.H₀ H X.s₀.heap s.heap
  loc : ∃ m, s.heap.Ns X.env.locals m ∧ ∀ (i : Nat) (x : Str) (v : V), X.N[i]? = some x → σ[i]? = some (some v) → Vis X.env.scope x → ∃ u, RelV v u ∧ Look X.env s.heap m x u
  cell : ∀ x c, X.env.cells.lookup x = some c → ∃ v, s.heap.IsCell c v
  free : H X.env.locals = none
  freeC : ∀ x c, X.env.cells.lookup x = some c → H c = none
  pin : ∀ p ∈ X.pn ++ pins, s.heap.get? p.1 = some p.2 ∧ H p.1 = none ∧ p.1 ≠ X.env.locals ∧ p.1 ∉ X.fs ∧ ∀ v, p.2.data ≠ .cell v
  hok : HOk X.prog X.w H s.heap
  len : σ.length = X.N.length

section
variable {X : Cx} {pins : List (Addr × Obj)} {σ : List (Option V)} {H H' : Hp} {s : Shared} {h' : Heap}

theorem Cx.Ok.nofr (ok : X.Ok) {b : Addr} {o : Obj} (e : X.base.get? b = some o) : b ∉ X.fs := fun hb => by
  have := (ok.funs.mem hb).1
  rw [e] at this; cases this
theorem Inv.bs (I : Inv X pins σ H s) : ∀ b o, X.base.get? b = some o → s.heap.get? b = some o ∧ H b = none := fun b o e =>
  ⟨I.base.keep b o (I.ok.bs b o e).1 (I.ok.bs b o e).2 (I.ok.nofr e) (I.ok.noex b o e), I.base.free b o (I.ok.bs b o e).1 (I.ok.bs b o e).2 (I.ok.noex b o e)⟩
theorem Inv.bk (I : Inv X pins σ H s) : ∀ b o, X.base.get? b = some o → s.heap.get? b = some o := fun b o e => (I.bs b o e).1
theorem Inv.mod (I : Inv X pins σ H s) : Mod X.K X.mg X.base := I.ok.mod
theorem Inv.kIn (I : Inv X pins σ H s) : X.K.In s.heap := I.ok.mod.kin.keeps I.bk
theorem Inv.nolimit (I : Inv X pins σ H s) : s.heap.NoLimit := I.ok.mod.nolimit.keeps I.bk
/-- the frame over the base: for OpenK's rules (K.In X.base is I.mod.kin) -/
theorem Inv.fr (I : Inv X pins σ H s) : ∃ m, Fr X.base X.env.locals s.heap m :=
  let ⟨m, hn, _⟩ := I.loc
  ⟨m, hn, I.bk, Nat.le_trans I.ok.bsz I.ok.above⟩
theorem Inv.lt (I : Inv X pins σ H s) : X.env.locals < s.heap.objs.size := let ⟨_, hn, _⟩ := I.loc; hn.lt
theorem Inv.sz (I : Inv X pins σ H s) : X.s₀.heap.objs.size ≤ s.heap.objs.size := Nat.le_trans I.ok.above (Nat.le_of_lt I.lt)
theorem Inv.nofs (I : Inv X pins σ H s) {a : Addr} (h : s.heap.objs.size ≤ a) : a ∉ X.fs := fun hb => by
  obtain ⟨_, o, ho, _⟩ := I.ok.funs.mem hb
  exact absurd (Nat.lt_of_lt_of_le (Heap.lt_size ho) (Nat.le_trans I.sz h)) (Nat.lt_irrefl _)
theorem Inv.cne (I : Inv X pins σ H s) : ∀ x c, X.env.cells.lookup x = some c → c ≠ X.env.locals := fun x c e z => by
  obtain ⟨v, o, ho, hd⟩ := I.cell x c e
  obtain ⟨m, ⟨o', es, ep, ho', hd', _⟩, _⟩ := I.loc
  rw [z, ho'] at ho; cases ho; rw [hd'] at hd; cases hd
theorem Inv.funs (I : Inv X pins σ H s) : s.heap.FunFrames X.base X.outer := by
  have all : ∀ (l : List Env), (∀ b ∈ frs l, b ∈ X.fs) → X.s₀.heap.FunFrames X.base l → s.heap.FunFrames X.base l := by
    intro l
    induction l with
    | nil => intro _ _; trivial
    | cons env r ih =>
      intro hs hl
      obtain ⟨hk, ⟨L, o, hf, hn, ho, hd⟩, hr⟩ := hl
      have hL : L ∈ X.fs := hs L (by unfold frs; rw [List.filterMap_cons, hf]; exact List.mem_cons_self)
      obtain ⟨sl, e⟩ := I.base.slot L o ho (I.ok.frf L hL) hL fun z => I.ok.exfs L z hL
      exact ⟨hk, ⟨L, _, hf, hn, e, hd⟩, ih (fun b hb => hs b (by unfold frs; rw [List.filterMap_cons, hf]; exact List.mem_cons_of_mem _ hb)) hr⟩
  exact all X.outer (fun _ hb => hb) I.ok.funs

/-- the frames that run, for a call -/
theorem Inv.stack (I : Inv X pins σ H s) : s.heap.FunFrames X.base X.stack := by
  rcases I.ok.stk with e | ⟨e, hf⟩
  · rw [e]; exact I.funs
  · rw [e]
    obtain ⟨m, hn, _⟩ := I.loc
    refine .cons (by rw [I.ok.kind]; decide) hf hn ?_ I.funs
    exact Heap.get?_none_of_le (Nat.le_trans I.ok.bsz I.ok.above)
theorem Inv.stkSub (I : Inv X pins σ H s) : ∀ b ∈ frs X.stack, b ∈ X.env.locals :: X.fs := fun b hb => by
  rcases I.ok.stk with e | ⟨e, hf⟩
  · rw [e] at hb; exact List.mem_cons_of_mem _ hb
  · rw [e] at hb
    unfold frs at hb
    rw [List.filterMap_cons, hf] at hb
    exact hb
theorem Inv.stkFree (I : Inv X pins σ H s) : ∀ b ∈ frs X.stack, H b = none := fun b hb => by
  rcases List.mem_cons.mp (I.stkSub b hb) with e | hb
  · rw [e]; exact I.free
  · obtain ⟨_, o, ho, _⟩ := I.ok.funs.mem hb
    exact I.base.free b o ho (I.ok.frf b hb) fun z => I.ok.exfs b z hb

/-- THE STEP: the untracked objects but the frame and the records at ch are kept (the callers' frames up to slots), the frame's map is kept, the new abstract heap is held -/
theorem Inv.step {g' : Array GenState} {t' : Nat} {d' : Drawn} {ch : List Addr} (I : Inv X pins σ H s)
    (hch : ∀ b ∈ ch, (b ∈ X.ex ∨ X.s₀.heap.objs.size ≤ b) ∧ b ≠ X.env.locals ∧ (∀ x c, X.env.cells.lookup x = some c → c ≠ b) ∧ ∀ p ∈ X.pn ++ pins, p.1 ≠ b)
    (keep : ∀ b o, b ≠ X.env.locals → b ∉ X.fs → b ∉ ch → s.heap.get? b = some o → H b = none → h'.get? b = some o)
    (slot : ∀ b o, b ≠ X.env.locals → b ∈ X.fs → b ∉ ch → s.heap.get? b = some o → H b = none → ∃ sl, h'.get? b = some { o with slots := sl }) (free : ∀ b o, b ∉ ch → s.heap.get? b = some o → H b = none → H' b = none)
    (there : ∀ b o, b ∉ ch → s.heap.get? b = some o → ∃ o', h'.get? b = some o')
    (tups : ∀ b xs, H b = some (.tup xs) → H' b = some (.tup xs)) (frzs : ∀ b o u, H b = some (.frz o u) → H' b = some (.frz o u)) (tbls : ∀ b ps, H b = some (.tbl ps) → ∃ more, H' b = some (.tbl (ps ++ more)))
    (ns : ∀ m, s.heap.Ns X.env.locals m → h'.Ns X.env.locals m) (hok : HOk X.prog X.w H' h') (hg : AllBare g') :
    Inv X pins σ H' { s with heap := h', gens := g', drawn := d', toks := t' } := by
  have neL : ∀ b o, X.s₀.heap.get? b = some o → b ≠ X.env.locals := fun b o e => Nat.ne_of_lt (Nat.lt_of_lt_of_le (Heap.lt_size e) I.ok.above)
  have neC : ∀ b o, X.s₀.heap.get? b = some o → b ∉ X.ex → b ∉ ch := fun b o e hx hb => by
    rcases (hch b hb).1 with z | z
    · exact hx z
    · exact absurd (Nat.lt_of_lt_of_le (Heap.lt_size e) z) (Nat.lt_irrefl _)
  have cellK : ∀ x c, X.env.cells.lookup x = some c → ∀ v, s.heap.IsCell c v → h'.IsCell c v := fun x c e v ⟨o, ho, hd⟩ => by
    have nch : c ∉ ch := fun z => (hch c z).2.2.1 x c e rfl
    by_cases hc : c ∈ X.fs
    · obtain ⟨sl, q⟩ := slot c o (I.cne x c e) hc nch ho (I.freeC x c e)
      exact ⟨_, q, hd⟩
    · exact ⟨o, keep c o (I.cne x c e) hc nch ho (I.freeC x c e), hd⟩
  refine ⟨I.ok, I.os, hg, ⟨fun b o e n hb hx => ?_, fun b o e n hb hx => ?_, fun b o e n hx => ?_, fun b o e hx => ?_, fun b xs e => tups b xs (I.base.tups b xs e), fun b o xs e => frzs b o xs (I.base.frzs b o xs e), fun b ps e => ?_⟩, ?_, fun x c e => ?_, ?_, fun x c e => ?_, fun p hp => ?_, hok, I.len⟩
  · exact keep b o (neL b o e) hb (neC b o e hx) (I.base.keep b o e n hb hx) (I.base.free b o e n hx)
  · obtain ⟨sl, e1⟩ := I.base.slot b o e n hb hx
    obtain ⟨sl', e2⟩ := slot b _ (neL b o e) hb (neC b o e hx) e1 (I.base.free b o e n hx)
    exact ⟨sl', e2⟩
  · obtain ⟨o', e1⟩ := I.base.there b o e hx
    exact free b o' (neC b o e hx) e1 (I.base.free b o e n hx)
  · obtain ⟨o', e1⟩ := I.base.there b o e hx
    exact there b o' (neC b o e hx) e1
  · obtain ⟨m1, e1⟩ := I.base.tbls b ps e
    obtain ⟨m2, e2⟩ := tbls b _ e1
    exact ⟨m1 ++ m2, by rw [e2, Array.append_assoc]⟩
  · obtain ⟨m, hn, hl⟩ := I.loc
    refine ⟨m, ns m hn, fun i x v e1 e2 e3 => ?_⟩
    obtain ⟨u, r, l⟩ := hl i x v e1 e2 e3
    refine ⟨u, r, ?_⟩
    rcases l with l | ⟨k, c, e, z⟩
    · exact .inl l
    · exact .inr ⟨k, c, e, cellK x c e _ z⟩
  · obtain ⟨v, z⟩ := I.cell x c e
    exact ⟨v, cellK x c e v z⟩
  · obtain ⟨m, ⟨o, _, _, ho, _⟩, _⟩ := I.loc
    exact free _ o (fun z => (hch _ z).2.1 rfl) ho I.free
  · obtain ⟨v, o, ho, hd⟩ := I.cell x c e
    exact free c o (fun z => (hch c z).2.2.1 x c e rfl) ho (I.freeC x c e)
  · obtain ⟨e, n, ne, nf, d⟩ := I.pin p hp
    have nch : p.1 ∉ ch := fun z => (hch p.1 z).2.2.2 p hp rfl
    exact ⟨keep p.1 p.2 ne nf nch e n, free p.1 p.2 nch e n, ne, nf, d⟩
/-- .. where the frame's own object is kept too -/
theorem Inv.un {t' : Nat} (I : Inv X pins σ H s) (u : Un X.fs [] H H' s.heap h') (hok : HOk X.prog X.w H' h') : Inv X pins σ H' { s with heap := h', toks := t' } := by
  obtain ⟨m, ⟨o, es, ep, ho, r⟩, _⟩ := id I.loc
  obtain ⟨sl, hL⟩ := u.any ho I.free (by simp)
  exact I.step (g' := s.gens) (d' := s.drawn) (ch := []) (fun _ z => nomatch z) (fun b o _ hb _ e n => u.keep b o e n hb (by simp)) (fun b o _ hb _ e n => u.slot b o e n hb (by simp)) (fun b o _ e n => u.free b o e n (by simp)) (fun b o _ e => u.there b o e (by simp)) u.tups u.frzs u.tbls (fun m' hm => by
    obtain ⟨o', es', ep', ho', r'⟩ := hm
    rw [ho] at ho'; cases ho'
    exact ⟨_, es', ep', hL, r'⟩) hok I.bare
/-- behind a call (or a comprehension's block): the slots of this frame may have changed too, the records at ch may have turned -/
theorem Inv.call {g' : Array GenState} {t' : Nat} {d' : Drawn} {ch : List Addr} (I : Inv X pins σ H s) (u : Un (frs X.stack) ch H H' s.heap h') (hok : HOk X.prog X.w H' h') (hg : AllBare g')
    (hch : ∀ b ∈ ch, (b ∈ X.ex ∨ X.s₀.heap.objs.size ≤ b) ∧ b ≠ X.env.locals ∧ (∀ x c, X.env.cells.lookup x = some c → c ≠ b) ∧ ∀ p ∈ X.pn ++ pins, p.1 ≠ b) :
    Inv X pins σ H' { s with heap := h', gens := g', drawn := d', toks := t' } := by
  obtain ⟨m, ⟨o, es, ep, ho, r⟩, _⟩ := id I.loc
  obtain ⟨sl, hL⟩ := u.any ho I.free fun z => (hch _ z).2.1 rfl
  exact I.step (ch := ch) hch (fun b o hL hb hc e n => u.keep b o e n (fun z => (List.mem_cons.mp (I.stkSub b z)).elim hL hb) hc) (fun b o _ _ hc e n => u.any e n hc) (fun b o hc e n => u.free b o e n hc) (fun b o hc e => u.there b o e hc) u.tups u.frzs u.tbls (fun m' hm => by
    obtain ⟨o', es', ep', ho', r'⟩ := hm
    rw [ho] at ho'; cases ho'
    exact ⟨_, es', ep', hL, r'⟩) hok hg
/-- an untracked record of ours (an iterator) has turned -/
theorem Inv.turned {t' : Nat} {it : Addr} (I : Inv X pins σ H s) (k : ∀ b o, b ≠ it → s.heap.get? b = some o → h'.get? b = some o) (hn : H it = none) (hL : it ≠ X.env.locals)
    (h1 : it ∈ X.ex ∨ X.s₀.heap.objs.size ≤ it) (h2 : ∀ x c, X.env.cells.lookup x = some c → c ≠ it) (h3 : ∀ p ∈ X.pn ++ pins, p.1 ≠ it) : Inv X pins σ H { s with heap := h', toks := t' } := by
  have nit : ∀ b u, H b = some u → b ≠ it := fun b u e z => by rw [z, hn] at e; cases e
  refine I.step (g' := s.gens) (d' := s.drawn) (ch := [it]) (fun b hb => ?_) (fun b o _ _ hc e _ => k b o (fun z => hc (by simp [z])) e) (fun b o _ _ hc e _ => ⟨o.slots, k b o (fun z => hc (by simp [z])) e⟩) (fun _ _ _ _ n => n)
    (fun b o hc e => ⟨o, k b o (fun z => hc (by simp [z])) e⟩) (fun _ _ e => e) (fun _ _ _ e => e) (fun b ps e => ⟨#[], by rw [e]; simp⟩) (fun m hm => ?_) (fun b u e => ?_) I.bare
  · have e : b = it := by simpa using hb
    subst e
    exact ⟨h1, hL, h2, h3⟩
  · obtain ⟨o, es, ep, ho, r⟩ := hm
    exact ⟨o, es, ep, k _ o (Ne.symm hL) ho, r⟩
  · refine (I.hok b u e).stay (fun c v hc q => k c v ?_ q) (fun _ q => q) fun _ _ q => q
    rcases hc with z | z
    · rw [z]; exact nit b u e
    · exact nit c _ z
theorem Inv.tok (I : Inv X pins σ H s) (t : Nat) : Inv X pins σ H { s with toks := t } := I.un (h' := s.heap) (t' := t) Un.refl I.hok
/-- all objects kept -/
theorem Inv.kept {t' : Nat} (I : Inv X pins σ H s) (k : ∀ b u, s.heap.get? b = some u → h'.get? b = some u) : Inv X pins σ H { s with heap := h', toks := t' } := I.un (Un.kept k) (I.hok.kept k)
/-- a new object laid and tracked -/
theorem Inv.laid {a : Addr} {o : HO} {t' : Nat} (I : Inv X pins σ H s) (k : ∀ b u, s.heap.get? b = some u → h'.get? b = some u) (hp : s.heap.objs.size ≤ a) (new : ObjOk X.prog X.w (upd H a o) h' a o) :
    Inv X pins σ (upd H a o) { s with heap := h', toks := t' } := I.un (Un.laid k hp (I.hok.fresh hp)) (I.hok.laid k hp new)
/-- an object written -/
theorem Inv.write {x e : Addr} {o : HO} {t' : Nat} (I : Inv X pins σ H s) (mu : Mut (H x)) (he : e = x ∨ H e = some (.own x)) (k : ∀ b u, b ≠ e → s.heap.get? b = some u → h'.get? b = some u) (heo : ∃ u, h'.get? e = some u)
    (new : ObjOk X.prog X.w (upd H x o) h' x o) : Inv X pins σ (upd H x o) { s with heap := h', toks := t' } := I.un (Un.write mu he k heo) (I.hok.write mu he k heo new)
/-- forgetting slots, pins -/
theorem Inv.weak {σ' : List (Option V)} (I : Inv X pins σ H s) (hl : σ'.length = σ.length) (w : ∀ (i : Nat) v, σ'[i]? = some (some v) → σ[i]? = some (some v)) : Inv X pins σ' H s :=
  ⟨I.ok, I.os, I.bare, I.base, let ⟨m, hn, hl'⟩ := I.loc; ⟨m, hn, fun i x v e1 e2 e3 => hl' i x v e1 (w i v e2) e3⟩, I.cell, I.free, I.freeC, I.pin, I.hok, hl.trans I.len⟩
theorem Inv.pins_of {pins' : List (Addr × Obj)} (I : Inv X pins σ H s) (h : ∀ p ∈ pins', s.heap.get? p.1 = some p.2 ∧ H p.1 = none ∧ p.1 ≠ X.env.locals ∧ p.1 ∉ X.fs ∧ ∀ v, p.2.data ≠ .cell v) : Inv X pins' σ H s :=
  ⟨I.ok, I.os, I.bare, I.base, I.loc, I.cell, I.free, I.freeC, fun p hp => (List.mem_append.mp hp).elim (fun z => I.pin p (List.mem_append_left _ z)) (h p), I.hok, I.len⟩

theorem nodup_ix {N : List Str} (hN : N.Nodup) {i j : Nat} {x : Str} (a : N[i]? = some x) (b : N[j]? = some x) : i = j := by
  obtain ⟨h1, e1⟩ := List.getElem?_eq_some_iff.mp a
  obtain ⟨h2, e2⟩ := List.getElem?_eq_some_iff.mp b
  exact (List.getElem_inj hN).mp (e1.trans e2.symm)

/-- a name is stored; what changed -/
theorem store_ok2 {M : Model} {A : Around} {E : Value → Shared → Prop} {i : Nat} {x : Str} {v : V} {u : Value} {Q : Unit → Shared → Prop} (I : Inv X pins σ H s) (hN : X.N.Nodup) (hi : X.N[i]? = some x) (hx : Loc X.env.scope x) (r : RelV v u)
    (h : ∀ s', Inv X pins (σ.set i (some v)) H s' → (∃ a, Heap.SameBut a s.heap s'.heap ∧ (a = X.env.locals ∨ X.env.cells.lookup x = some a)) → Q () s') (hf : X.fn x = true ∨ X.env.scope.names.lookup x = some .local := by first | exact .inl rfl | exact .inr rfl | assumption) : wpAny M A (storeName X.env x u) Q E s := by
  obtain ⟨m, hn, hl⟩ := id I.loc
  have hcls : (X.env.scope.kind == .class || (X.env.scope.kind == .module && X.env.locals != X.env.globals)) = false := by rw [I.ok.kind]; rfl
  have hiσ : i < σ.length := by rw [I.len]; exact (List.getElem?_eq_some_iff.mp hi).1
  have cne := I.cne
  have tracked : ∀ {a : Addr} {h' : Heap}, (∃ o, s.heap.get? a = some o ∧ H a = none) → Heap.SameBut a s.heap h' → HOk X.prog X.w H h' := fun {a h'} ha hs b ob e => by
    obtain ⟨_, _, hfree⟩ := ha
    refine (I.hok b ob e).stay (fun c w' hc q => (hs.2 c ?_).trans q) (fun _ q => q) fun _ _ q => q
    rintro rfl
    rcases hc with rfl | hc
    · rw [hfree] at e; cases e
    · rw [hfree] at hc; cases hc
  rcases hx with hk | hk
  · refine wpAny_storeName_local hk hn (fun h' hn' hs => ?_) hcls
    obtain ⟨oL, _, _, hoL, _⟩ := id hn
    refine h _ ⟨I.ok, I.os, I.bare, ⟨fun b o e n hb hx => ?_, fun b o e n hb hx => ?_, I.base.free, fun b o e hx => ?_, I.base.tups, I.base.frzs, I.base.tbls⟩, ⟨_, hn', fun j y v' e1 e2 e3 => ?_⟩, fun y c e => ?_, I.free, I.freeC, fun p hp => ?_, tracked ⟨oL, hoL, I.free⟩ hs, by simpa using I.len⟩ ⟨_, hs, .inl rfl⟩
    · exact (hs.2 b (Nat.ne_of_lt (Nat.lt_of_lt_of_le (Heap.lt_size e) I.ok.above))).trans (I.base.keep b o e n hb hx)
    · obtain ⟨sl, e1⟩ := I.base.slot b o e n hb hx
      exact ⟨sl, (hs.2 b (Nat.ne_of_lt (Nat.lt_of_lt_of_le (Heap.lt_size e) I.ok.above))).trans e1⟩
    · obtain ⟨o', e1⟩ := I.base.there b o e hx
      exact ⟨o', (hs.2 b (Nat.ne_of_lt (Nat.lt_of_lt_of_le (Heap.lt_size e) I.ok.above))).trans e1⟩
    · by_cases hj : j = i
      · subst hj
        rw [hi] at e1; cases e1
        rw [List.getElem?_set_self hiσ] at e2
        cases e2
        exact ⟨u, r, .inl ⟨hk, by simp⟩⟩
      · rw [List.getElem?_set_ne (Ne.symm hj)] at e2
        obtain ⟨u', r', q⟩ := hl j y v' e1 e2 e3
        refine ⟨u', r', ?_⟩
        rcases q with ⟨k, e⟩ | ⟨k, c, e, z⟩
        · refine .inl ⟨k, ?_⟩
          have : y ≠ x := fun e => hj (nodup_ix hN e1 (e ▸ hi))
          simp [this, e]
        · exact .inr ⟨k, c, e, z.sameBut hs (cne y c e)⟩
    · obtain ⟨w', z⟩ := I.cell y c e
      exact ⟨w', z.sameBut hs (cne y c e)⟩
    · obtain ⟨e, n, ne, nf, d⟩ := I.pin p hp
      exact ⟨(hs.2 p.1 ne).trans e, n, ne, nf, d⟩
  · have hfn : X.fn x = true := by
      rcases hf with z | z
      · exact z
      · rw [z] at hk; cases hk
    obtain ⟨c, hc⟩ := I.ok.has x (.inl hk)
    obtain ⟨w', z⟩ := I.cell x c hc
    refine wpAny_storeName_cell I.ok.kind hk hc z (fun h' hc' hs => ?_)
    obtain ⟨oc, hoc, hocd⟩ := id z
    refine h { s with heap := h' } ⟨I.ok, I.os, I.bare, ⟨fun b o e n hb hx => ?_, fun b o e n hb hx => ?_, I.base.free, fun b o e hx => ?_, I.base.tups, I.base.frzs, I.base.tbls⟩, ⟨m, hn.sameBut hs (Ne.symm (cne x c hc)), fun j y v' e1 e2 e3 => ?_⟩, fun y c' e => ?_, I.free, I.freeC, fun p hp => ?_, tracked ⟨oc, hoc, I.freeC x c hc⟩ hs, by simpa using I.len⟩ ⟨c, hs, .inr hc⟩
    · exact (hs.2 b (Nat.ne_of_lt (Nat.lt_of_lt_of_le (Heap.lt_size e) (I.ok.cab x c hfn hc)))).trans (I.base.keep b o e n hb hx)
    · obtain ⟨sl, e1⟩ := I.base.slot b o e n hb hx
      exact ⟨sl, (hs.2 b (Nat.ne_of_lt (Nat.lt_of_lt_of_le (Heap.lt_size e) (I.ok.cab x c hfn hc)))).trans e1⟩
    · obtain ⟨o', e1⟩ := I.base.there b o e hx
      exact ⟨o', (hs.2 b (Nat.ne_of_lt (Nat.lt_of_lt_of_le (Heap.lt_size e) (I.ok.cab x c hfn hc)))).trans e1⟩
    · by_cases hj : j = i
      · subst hj
        rw [hi] at e1; cases e1
        rw [List.getElem?_set_self hiσ] at e2
        cases e2
        exact ⟨u, r, .inr ⟨.inl hk, c, hc, hc'⟩⟩
      · rw [List.getElem?_set_ne (Ne.symm hj)] at e2
        obtain ⟨u', r', q⟩ := hl j y v' e1 e2 e3
        refine ⟨u', r', ?_⟩
        rcases q with q | ⟨k, c', e, z'⟩
        · exact .inl q
        · refine .inr ⟨k, c', e, z'.sameBut hs ?_⟩
          rintro rfl
          exact hj (nodup_ix hN e1 (I.ok.inj _ _ _ e hc ▸ hi))
    · by_cases hcc : c' = c
      · subst hcc; exact ⟨_, hc'⟩
      · obtain ⟨w2, z2⟩ := I.cell y c' e
        exact ⟨w2, z2.sameBut hs hcc⟩
    · obtain ⟨e, n, ne, nf, d⟩ := I.pin p hp
      refine ⟨(hs.2 p.1 ?_).trans e, n, ne, nf, d⟩
      intro q
      rw [q, hoc] at e
      have q' : oc = p.2 := Option.some.inj e
      exact d w' (by rw [← q']; exact hocd)
theorem store_ok {M : Model} {A : Around} {E : Value → Shared → Prop} {i : Nat} {x : Str} {v : V} {u : Value} {Q : Unit → Shared → Prop} (I : Inv X pins σ H s) (hN : X.N.Nodup) (hi : X.N[i]? = some x) (hx : Loc X.env.scope x) (r : RelV v u)
    (h : ∀ s', Inv X pins (σ.set i (some v)) H s' → Q () s') (hf : X.fn x = true ∨ X.env.scope.names.lookup x = some .local := by first | exact .inl rfl | exact .inr rfl | assumption) : wpAny M A (storeName X.env x u) Q E s :=
  store_ok2 I hN hi hx r (fun s' I' _ => h s' I') hf
/-- behind a call or a block, the state as it is -/
theorem Inv.call' {s' : Shared} {ch : List Addr} (I : Inv X pins σ H s) (ho : s'.os = s.os) (u : Un (frs X.stack) ch H H' s.heap s'.heap) (hok : HOk X.prog X.w H' s'.heap) (hg : AllBare s'.gens)
    (hch : ∀ b ∈ ch, (b ∈ X.ex ∨ X.s₀.heap.objs.size ≤ b) ∧ b ≠ X.env.locals ∧ (∀ x c, X.env.cells.lookup x = some c → c ≠ b) ∧ ∀ p ∈ X.pn ++ pins, p.1 ≠ b) : Inv X pins σ H' s' := by
  obtain ⟨h', g', d', t', o'⟩ := s'
  have e : o' = s.os := ho
  subst e
  exact I.call (g' := g') (t' := t') (d' := d') u hok hg hch
end

/-! ### the judgements -/
/-- an exception: its class, its own dict's address (where it has one), the abstract heap behind it -/
abbrev XK := Value → Option Addr → Hp → Prop
abbrev St := List (Option V)
abbrev VK := V → Hp → Prop
/-- an expression's reading; a test's; an argument list's -/
abbrev TE := St → Hp → VK → Prop
abbrev TT := St → Hp → (Bool → Hp → Prop) → Prop
abbrev TA := St → Hp → (List V → Hp → Prop) → Prop
/-- what is wanted behind a statement -/
structure Ends where
  nx : St → Hp → Prop
  rt : VK
  bk : St → Hp → Prop := fun _ _ => False
  ct : St → Hp → Prop := fun _ _ => False
abbrev TS := Ends → St → Hp → Prop

def EP (X : Cx) (pins : List (Addr × Obj)) (σ : St) (Q : VK) (u : Value) (s' : Shared) : Prop := ∃ v H', Inv X pins σ H' s' ∧ RelV v u ∧ Q v H'
def TP (X : Cx) (pins : List (Addr × Obj)) (σ : St) (Q : Bool → Hp → Prop) (b : Bool) (s' : Shared) : Prop := ∃ H', Inv X pins σ H' s' ∧ Q b H'
def AP (X : Cx) (pins : List (Addr × Obj)) (σ : St) (Q : List V → Hp → Prop) (us : List Value) (s' : Shared) : Prop := ∃ vs H', Inv X pins σ H' s' ∧ Vals vs us ∧ Q vs H'
def SP (X : Cx) (pins : List (Addr × Obj)) (D : Ends) (f : Flow) (s' : Shared) : Prop :=
  match f with
  | .next => ∃ σ' H', Inv X pins σ' H' s' ∧ D.nx σ' H'
  | .brk => ∃ σ' H', Inv X pins σ' H' s' ∧ D.bk σ' H'
  | .cont => ∃ σ' H', Inv X pins σ' H' s' ∧ D.ct σ' H'
  | .ret u => ∃ v σ' H', Inv X pins σ' H' s' ∧ RelV v u ∧ D.rt v H'

def PE (X : Cx) (e : Expr) (t : TE) : Prop :=
  ∀ (pins : List (Addr × Obj)) (s : Shared) (σ : St) (H : Hp) (Q : VK), Inv X pins σ H s → t σ H Q → wpAny (model X.prog X.w) X.A (eval e X.env) (EP X pins σ Q) X.xe s
def PT (X : Cx) (e : Expr) (t : TT) : Prop :=
  ∀ (pins : List (Addr × Obj)) (s : Shared) (σ : St) (H : Hp) (Q : Bool → Hp → Prop), Inv X pins σ H s → t σ H Q → wpAny (model X.prog X.w) X.A (isTrue e X.env (eval e X.env)) (TP X pins σ Q) X.xe s
/-- a test whatever its 'whole' is (and, or) -/
def PW (X : Cx) (e : Expr) (t : TT) : Prop :=
  ∀ (whole : Sem Value) (pins : List (Addr × Obj)) (s : Shared) (σ : St) (H : Hp) (Q : Bool → Hp → Prop), Inv X pins σ H s → t σ H Q → wpAny (model X.prog X.w) X.A (isTrue e X.env whole) (TP X pins σ Q) X.xe s
theorem PW.pt {X : Cx} {e : Expr} {t : TT} (h : PW X e t) : PT X e t := h _
/-- an argument list (no star), from the left -/
def PA (X : Cx) (es : List Expr) (t : TA) : Prop :=
  ∀ (pos : Pos) (pins : List (Addr × Obj)) (s : Shared) (σ : St) (H : Hp) (Q : List V → Hp → Prop), Inv X pins σ H s → t σ H Q → wpAny (model X.prog X.w) X.A (spliced (backTo pos (starEach es X.env))) (AP X pins σ Q) X.xe s
def PS (X : Cx) (st : Stmt) (t : TS) : Prop :=
  ∀ (pins : List (Addr × Obj)) (s : Shared) (σ : St) (H : Hp) (D : Ends), Inv X pins σ H s → t D σ H → wpAny (model X.prog X.w) X.A (exec st X.env) (SP X pins D) X.xe s
def PSs (X : Cx) (st : List Stmt) (t : TS) : Prop :=
  ∀ (pins : List (Addr × Obj)) (s : Shared) (σ : St) (H : Hp) (D : Ends), Inv X pins σ H s → t D σ H → wpAny (model X.prog X.w) X.A (execs st X.env) (SP X pins D) X.xe s
/-- weaken the end -/
theorem thn {α : Type} {t : Sem α} {Q Q' : α → Shared → Prop} {M : Model} {A : Around} {E : Value → Shared → Prop} {s : Shared} (h : wpAny M A t Q E s) (hQ : ∀ a s, Q a s → Q' a s) : wpAny M A t Q' E s := wpAny_mono h hQ fun _ _ x => x
end L2

namespace L2
open PySem PySem.Spec PyProof.Rows
section
variable {X : Cx}

/-- two expressions in a row -/
theorem bin {a b : Expr} {ta tb : TE} (ha : PE X a ta) (hb : PE X b tb) {pins : List (Addr × Obj)} {s : Shared} {σ : St} {H : Hp} {R : V → V → Hp → Prop} (I : Inv X pins σ H s) (h : ta σ H fun x H1 => tb σ H1 fun y H2 => R x y H2)
    {α : Type} {Q : α → Shared → Prop} {f : Value → Value → Sem α}
    (hf : ∀ v u s2 x y H2, Inv X pins σ H2 s2 → RelV x v → RelV y u → R x y H2 → wpAny (model X.prog X.w) X.A (f v u) Q X.xe s2) :
    wpAny (model X.prog X.w) X.A (eval a X.env) (fun v s₁ => wpAny (model X.prog X.w) X.A (eval b X.env) (fun u s₂ => wpAny (model X.prog X.w) X.A (f v u) Q X.xe s₂) X.xe s₁) X.xe s := by
  refine thn (ha pins s σ H _ I h) fun v s1 ⟨x, H1, I1, r1, q1⟩ => ?_
  refine thn (hb pins s1 σ H1 _ I1 q1) fun u s2 ⟨y, H2, I2, r2, q2⟩ => ?_
  exact hf v u s2 x y H2 I2 r1 r2 q2

/-! ### names and constants -/
def tVar (i : Nat) : TE := fun σ H Q => ∃ v, σ[i]? = some (some v) ∧ Q v H
def tC (v : V) : TE := fun _ H Q => Q v H
theorem pe_var {i : Nat} {x : Str} {pos : Pos} (hN : X.N[i]? = some x) (hv : Vis X.env.scope x) (hd : (x == ("__debug__" : Str)) = false := by decide) (hcd : (x == ("__classdict__" : Str)) = false := by decide) : PE X (.Name x pos) (tVar i) := by
  intro pins s σ H Q I h
  obtain ⟨v, e, h⟩ := h
  obtain ⟨m, hn, hl⟩ := I.loc
  obtain ⟨u, r, l⟩ := hl i x v hN e hv
  have fin : EP X pins σ Q u s := ⟨v, H, I, r, h⟩
  rcases l with ⟨hk, hm⟩ | ⟨hk, c, hc, hcell⟩
  · exact wpAny_Name (wpAny_loadName_local I.ok.kind hk hn hm fin) hd
  · rcases hk with hk | hk
    · exact wpAny_Name (wpAny_loadName_cell I.ok.kind hk hc hcell fin) hd
    · exact wpAny_Name (wpAny_loadName_free I.ok.kind hk hc hcell fin hcd) hd
theorem pe_int {i j pos} : PE X (.Constant (.int i) j pos) (tC (.int i)) := fun _ _ _ H _ I h => wpAny_Constant_int ⟨.int i, H, I.tok _, ⟨_, rfl⟩, h⟩
theorem pe_bl {b j pos} : PE X (.Constant (.bool b) j pos) (tC (.bl b)) := fun _ _ _ H _ I h => Constant_bool ⟨.bl b, H, I, rfl, h⟩
theorem pe_non {j pos} : PE X (.Constant .none j pos) (tC .non) := fun _ _ _ H _ I h => Constant_none ⟨.non, H, I, rfl, h⟩
theorem pe_str {x j pos} : PE X (.Constant (.str x) j pos) (tC (.str x)) := fun _ _ _ H _ I h => Calls.Constant_str ⟨.str x, H, I.tok _, ⟨_, rfl⟩, h⟩

/-- a global name of the def -/
def Gl (X : Cx) (x : Str) : Prop := X.env.kindOf x = some .globalImplicit
theorem ld_glob {E : Value → Shared → Prop} {pins : List (Addr × Obj)} {s : Shared} {σ : St} {H : Hp} {x : Str} {u : Value} {pos : Pos} {Q : Value → Shared → Prop} (I : Inv X pins σ H s) (hg : Gl X x) (hm : X.mg x = some u) (h : Q u s)
    (hd : (x == ("__debug__" : Str)) = false := by decide) : wpAny (model X.prog X.w) X.A (eval (.Name x pos) X.env) Q E s :=
  Calls.Name_function_global I.ok.kind hg (Calls.loadGlobal_global (by rw [I.ok.glob]; exact I.mod.glob.keeps I.bk) hm h) hd
theorem ld_blt {E : Value → Shared → Prop} {pins : List (Addr × Obj)} {s : Shared} {σ : St} {H : Hp} {x : Str} {u : Value} {pos : Pos} {Q : Value → Shared → Prop} (I : Inv X pins σ H s) (hg : Gl X x) (hm : X.mg x = none) (hv : bootBuiltins x = some u) (h : Q u s)
    (hn : x ≠ "__name__" := by decide) (hd : (x == ("__debug__" : Str)) = false := by decide) : wpAny (model X.prog X.w) X.A (eval (.Name x pos) X.env) Q E s := by
  obtain ⟨mb, h1, h2⟩ := I.mod.blt
  exact Calls.Name_function_global I.ok.kind hg (Calls.loadGlobal_builtin (by rw [I.ok.glob]; exact I.mod.glob.keeps I.bk) hm (by rw [I.ok.blt]; exact h1.keeps I.bk) ((h2 x hn).trans hv) h) hd
/-- a module's constant, a class, a function, as a value -/
theorem pe_glob {x : Str} {v : V} {u : Value} {pos : Pos} (hg : Gl X x) (hm : X.mg x = some u) (r : RelV v u) (hd : (x == ("__debug__" : Str)) = false := by decide) : PE X (.Name x pos) (tC v) :=
  fun _ _ _ H _ I h => ld_glob I hg hm ⟨v, H, I, r, h⟩ hd
theorem pe_bltn {x : Str} {v : V} {u : Value} {pos : Pos} (hg : Gl X x) (hm : X.mg x = none) (hv : bootBuiltins x = some u) (r : RelV v u) (hn : x ≠ "__name__" := by decide) (hd : (x == ("__debug__" : Str)) = false := by decide) : PE X (.Name x pos) (tC v) :=
  fun _ _ _ H _ I h => ld_blt I hg hm hv ⟨v, H, I, r, h⟩ hn hd

/-! ### arithmetic -/
/-- two ints -/
def t2I (ta tb : TE) (k : Int → Int → Hp → Prop) : St → Hp → Prop := fun σ H => ta σ H fun x H1 => tb σ H1 fun y H2 => ∃ i j, x = .int i ∧ y = .int j ∧ k i j H2
def tAdd (ta tb : TE) : TE := fun σ H Q => t2I ta tb (fun i j H2 => Q (.int (i + j)) H2) σ H
def tSub (ta tb : TE) : TE := fun σ H Q => t2I ta tb (fun i j H2 => Q (.int (i - j)) H2) σ H
/-- the left factor below 2^64 -/
def tMul (ta tb : TE) : TE := fun σ H Q => t2I ta tb (fun i j H2 => (-(2 ^ 64) < i ∧ i < 2 ^ 64) ∧ Q (.int (i * j)) H2) σ H
variable {a b : Expr} {ta tb : TE} {pos : Pos}
theorem pe_add (ha : PE X a ta) (hb : PE X b tb) : PE X (.BinOp a .Add b pos) (tAdd ta tb) := by
  intro pins s σ H Q I h
  refine wpAny_BinOp (bin ha hb I h fun v u s2 x y H2 I2 rx ry q => ?_)
  obtain ⟨i, j, rfl, rfl, q⟩ := q
  obtain ⟨t, rfl⟩ := rx
  obtain ⟨t', rfl⟩ := ry
  exact add_int ⟨.int _, H2, I2.tok _, ⟨_, rfl⟩, q⟩
theorem pe_sub (ha : PE X a ta) (hb : PE X b tb) : PE X (.BinOp a .Sub b pos) (tSub ta tb) := by
  intro pins s σ H Q I h
  refine wpAny_BinOp (bin ha hb I h fun v u s2 x y H2 I2 rx ry q => ?_)
  obtain ⟨i, j, rfl, rfl, q⟩ := q
  obtain ⟨t, rfl⟩ := rx
  obtain ⟨t', rfl⟩ := ry
  exact sub_int ⟨.int _, H2, I2.tok _, ⟨_, rfl⟩, q⟩
theorem pe_mul (ha : PE X a ta) (hb : PE X b tb) : PE X (.BinOp a .Mult b pos) (tMul ta tb) := by
  intro pins s σ H Q I h
  refine wpAny_BinOp (bin ha hb I h fun v u s2 x y H2 I2 rx ry q => ?_)
  obtain ⟨i, j, rfl, rfl, ⟨q1, q2⟩, q⟩ := q
  obtain ⟨t, rfl⟩ := rx
  obtain ⟨t', rfl⟩ := ry
  exact mul_int ⟨.int _, H2, I2.tok _, ⟨_, rfl⟩, q⟩ (.of_left (intBits_le_64 q1 q2))

/-! ### comparisons -/
def PC (X : Cx) (op : CmpOp) (a b : Expr) (t : TE) : Prop :=
  ∀ (pins : List (Addr × Obj)) (s : Shared) (σ : St) (H : Hp) (Q : VK), Inv X pins σ H s → t σ H Q →
    wpAny (model X.prog X.w) X.A (eval a X.env) (fun v s₁ => wpAny (model X.prog X.w) X.A (eval b X.env) (fun u s₂ => wpAny (model X.prog X.w) X.A (compareOp op v u) (EP X pins σ Q) X.xe s₂) X.xe s₁) X.xe s
theorem nobehind (b : Expr) {op : CmpOp} (h : op ≠ .In) (h2 : op ≠ .NotIn) : behindInMarks op b = false := by
  have e1 : (op == CmpOp.In) = false := by cases op <;> first | rfl | exact absurd rfl h
  have e2 : (op == CmpOp.NotIn) = false := by cases op <;> first | rfl | exact absurd rfl h2
  cases b <;> simp [behindInMarks, e1, e2]
def tCmp (p : Int → Int → Bool) (ta tb : TE) : TE := fun σ H Q => t2I ta tb (fun i j H2 => Q (.bl (p i j)) H2) σ H
abbrev tLt : TE → TE → TE := tCmp fun i j => decide (i < j)
abbrev tLe : TE → TE → TE := tCmp fun i j => decide (i ≤ j)
abbrev tGt : TE → TE → TE := tCmp fun i j => decide (j < i)
abbrev tGe : TE → TE → TE := tCmp fun i j => decide (j ≤ i)
abbrev tEqI : TE → TE → TE := tCmp fun i j => decide (i = j)
abbrev tNeI : TE → TE → TE := tCmp fun i j => !decide (i = j)
/-- a comparison of two ints, by its rule -/
theorem pc_int {op : CmpOp} {p : Int → Int → Bool} (ha : PE X a ta) (hb : PE X b tb)
    (rule : ∀ (i j : Int) (t u : Tok) (Q : Value → Shared → Prop) (s : Shared), Q (.bool (p i j)) s → wpAny (model X.prog X.w) X.A (compareOp op (.int i t) (.int j u)) Q X.xe s) : PC X op a b (tCmp p ta tb) := by
  intro pins s σ H Q I h
  refine bin ha hb I h fun v u s2 x y H2 I2 rx ry q => ?_
  obtain ⟨i, j, rfl, rfl, q⟩ := q
  obtain ⟨t, rfl⟩ := rx
  obtain ⟨t', rfl⟩ := ry
  exact rule i j t t' _ s2 ⟨.bl _, H2, I2, rfl, q⟩
theorem pc_lt (ha : PE X a ta) (hb : PE X b tb) : PC X .Lt a b (tLt ta tb) := pc_int ha hb fun _ _ _ _ _ _ h => lt_int h
theorem pc_le (ha : PE X a ta) (hb : PE X b tb) : PC X .LtE a b (tLe ta tb) := pc_int ha hb fun _ _ _ _ _ _ h => le_int h
theorem pc_gt (ha : PE X a ta) (hb : PE X b tb) : PC X .Gt a b (tGt ta tb) := pc_int ha hb fun _ _ _ _ _ _ h => gt_int h
theorem pc_ge (ha : PE X a ta) (hb : PE X b tb) : PC X .GtE a b (tGe ta tb) := pc_int ha hb fun _ _ _ _ _ _ h => ge_int h
theorem pc_eqI (ha : PE X a ta) (hb : PE X b tb) : PC X .Eq a b (tEqI ta tb) := pc_int ha hb fun _ _ _ _ _ _ h => eq_int (by rw [Bool.beq_eq_decide_eq]; exact h)
theorem pc_neI (ha : PE X a ta) (hb : PE X b tb) : PC X .NotEq a b (tNeI ta tb) := pc_int ha hb fun _ _ _ _ _ _ h => ne_int (by rw [bne, Bool.beq_eq_decide_eq]; exact h)
/-- is None -/
def tIsN (ta : TE) : TE := fun σ H Q => ta σ H fun x H1 => Q (.bl (decide (x = .non))) H1
def tNotN (ta : TE) : TE := fun σ H Q => ta σ H fun x H1 => Q (.bl (!decide (x = .non))) H1
theorem RelV.none_iff {x : V} {v : Value} (r : RelV x v) : (v == Value.none) = decide (x = .non) := by
  cases x with
  | non => cases r; rfl
  | bl _ => cases r; rfl
  | int _ => obtain ⟨t, rfl⟩ := r; rfl
  | str _ => obtain ⟨t, rfl⟩ := r; rfl
  | byt _ => obtain ⟨t, rfl⟩ := r; rfl
  | flt _ => obtain ⟨t, rfl⟩ := r; rfl
  | ref _ => cases r; rfl
  | ty _ => cases r; rfl
theorem pc_isN {j pos'} (ha : PE X a ta) : PC X .Is a (.Constant .none j pos') (tIsN ta) := by
  intro pins s σ H Q I h
  refine thn (ha pins s σ H _ I h) fun v s1 ⟨x, H1, I1, r1, q1⟩ => ?_
  exact Constant_none (is_none_gen ⟨.bl _, H1, I1, by rw [r1.none_iff]; rfl, q1⟩)
theorem pc_notN {j pos'} (ha : PE X a ta) : PC X .IsNot a (.Constant .none j pos') (tNotN ta) := by
  intro pins s σ H Q I h
  refine thn (ha pins s σ H _ I h) fun v s1 ⟨x, H1, I1, r1, q1⟩ => ?_
  exact Constant_none (isnot_none_gen ⟨.bl _, H1, I1, by rw [r1.none_iff]; rfl, q1⟩)
/-- a comparison as a value, as a test -/
def tB (t : TE) : TT := fun σ H Q => t σ H fun x H1 => ∃ c, x = .bl c ∧ Q c H1
theorem pe_cmp {op : CmpOp} {t : TE} (h : PC X op a b t) (h1 : behindInMarks op b = false := by first | exact nobehind _ (by decide) (by decide) | rfl) : PE X (.Compare a [op] [b] pos) t := fun pins s σ H Q I hw => wpAny_Compare1 (h pins s σ H Q I hw) h1
theorem pt_cmp {op : CmpOp} {t : TE} (h : PC X op a b t) (h1 : behindInMarks op b = false := by first | exact nobehind _ (by decide) (by decide) | rfl) : PT X (.Compare a [op] [b] pos) (tB t) := by
  intro pins s σ H Q I hw
  refine wpAny_isTrue_Compare1 (thn (h pins s σ H _ I hw) fun v s1 h1 => thn h1 fun u s2 h2 => thn h2 fun c s3 ⟨x, H1, I1, r1, q1⟩ => ?_) h1
  obtain ⟨d, rfl, q⟩ := q1
  cases r1
  exact wpAny_truthy_bool ⟨H1, I1, q⟩
/-- an expression whose value is a bool, as a test -/
theorem pt_val {e : Expr} {t : TE} (h : PE X e t) (he : ∀ whole, isTrue e X.env whole = (do let v ← whole; standAt e.pos; holding [v] (truthy v)) := by intro _; rfl) : PT X e (tB t) := by
  intro pins s σ H Q I hw
  refine isTrue_plain (thn (h pins s σ H _ I hw) fun v s1 ⟨x, H1, I1, r1, q1⟩ => ?_) (he _)
  obtain ⟨d, rfl, q⟩ := q1
  cases r1
  exact wpAny_truthy_bool ⟨H1, I1, q⟩

/-! ### and, or, not -/
variable {tA tB' : TT} {rest : List Expr}
def tAnd (t u : TT) : TT := fun σ H Q => t σ H fun c H1 => if c = true then u σ H1 Q else Q false H1
def tOr (t u : TT) : TT := fun σ H Q => t σ H fun c H1 => if c = true then Q true H1 else u σ H1 Q
def tNot (t : TT) : TT := fun σ H Q => t σ H fun c H1 => Q (!c) H1
theorem pw_and1 (ha : PT X a tA) : PW X (.BoolOp .And [a] pos) tA := by
  intro wh pins s σ H Q I h
  refine isTrue_and (thn (ha pins s σ H Q I h) fun c s1 e => ?_)
  cases c with
  | true => exact isTrue_and_nil e
  | false => exact e
theorem pw_or1 (ha : PT X a tA) : PW X (.BoolOp .Or [a] pos) tA := by
  intro wh pins s σ H Q I h
  refine isTrue_or (thn (ha pins s σ H Q I h) fun c s1 e => ?_)
  cases c with
  | false => exact isTrue_or_nil e
  | true => exact e
theorem pw_and (ha : PT X a tA) (hb : PW X (.BoolOp .And (b :: rest) pos) tB') : PW X (.BoolOp .And (a :: b :: rest) pos) (tAnd tA tB') := by
  intro wh pins s σ H Q I h
  refine isTrue_and (thn (ha pins s σ H _ I h) fun c s1 ⟨H1, I1, q1⟩ => ?_)
  cases c with
  | true => exact hb wh pins s1 σ H1 Q I1 q1
  | false => exact ⟨H1, I1, q1⟩
theorem pw_or (ha : PT X a tA) (hb : PW X (.BoolOp .Or (b :: rest) pos) tB') : PW X (.BoolOp .Or (a :: b :: rest) pos) (tOr tA tB') := by
  intro wh pins s σ H Q I h
  refine isTrue_or (thn (ha pins s σ H _ I h) fun c s1 ⟨H1, I1, q1⟩ => ?_)
  cases c with
  | true => exact ⟨H1, I1, q1⟩
  | false => exact hb wh pins s1 σ H1 Q I1 q1
theorem pt_not (ha : PT X a tA) : PT X (.UnaryOp .Not a pos) (tNot tA) := by
  intro pins s σ H Q I h
  exact isTrue_not (ha pins s σ H (fun c H1 => Q (!c) H1) I h)
/-- .. as values (bools) -/
def tAndV (ta tb : TE) : TE := fun σ H Q => ta σ H fun x H1 => ∃ c, x = .bl c ∧ if c = true then tb σ H1 Q else Q (.bl false) H1
def tOrV (ta tb : TE) : TE := fun σ H Q => ta σ H fun x H1 => ∃ c, x = .bl c ∧ if c = true then Q (.bl true) H1 else tb σ H1 Q
def tNotV (ta : TE) : TE := fun σ H Q => ta σ H fun x H1 => ∃ c, x = .bl c ∧ Q (.bl (!c)) H1
theorem pe_one {op} {t : TE} (h : PE X a t) : PE X (.BoolOp op [a] pos) t := fun pins s σ H Q I hw => BoolOp_one (h pins s σ H Q I hw)
theorem pe_and (ha : PE X a ta) (hb : PE X (.BoolOp .And (b :: rest) pos) tb) : PE X (.BoolOp .And (a :: b :: rest) pos) (tAndV ta tb) := by
  intro pins s σ H Q I h
  refine BoolOp_and (thn (ha pins s σ H _ I h) fun v s1 ⟨x, H1, I1, r1, q1⟩ => ?_)
  obtain ⟨c, rfl, q1⟩ := q1
  cases r1
  refine wpAny_truthy_bool ?_
  cases c with
  | true => exact hb pins s1 σ H1 Q I1 q1
  | false => exact ⟨.bl false, H1, I1, rfl, q1⟩
theorem pe_or (ha : PE X a ta) (hb : PE X (.BoolOp .Or (b :: rest) pos) tb) : PE X (.BoolOp .Or (a :: b :: rest) pos) (tOrV ta tb) := by
  intro pins s σ H Q I h
  refine BoolOp_or (thn (ha pins s σ H _ I h) fun v s1 ⟨x, H1, I1, r1, q1⟩ => ?_)
  obtain ⟨c, rfl, q1⟩ := q1
  cases r1
  refine wpAny_truthy_bool ?_
  cases c with
  | false => exact hb pins s1 σ H1 Q I1 q1
  | true => exact ⟨.bl true, H1, I1, rfl, q1⟩
theorem pe_not (ha : PE X a ta) : PE X (.UnaryOp .Not a pos) (tNotV ta) := by
  intro pins s σ H Q I h
  refine UnaryOp_ (thn (ha pins s σ H _ I h) fun v s1 ⟨x, H1, I1, r1, q1⟩ => ?_)
  obtain ⟨c, rfl, q1⟩ := q1
  cases r1
  exact not_of (wpAny_truthy_bool ⟨.bl (!c), H1, I1, rfl, q1⟩)
/-- a if t else b -/
def tIf (t : TT) (ta tb : TE) : TE := fun σ H Q => t σ H fun c H1 => if c = true then ta σ H1 Q else tb σ H1 Q
theorem pe_ifExp {c : Expr} (hc : PT X c tA) (ha : PE X a ta) (hb : PE X b tb) : PE X (.IfExp c a b pos) (tIf tA ta tb) := by
  intro pins s σ H Q I h
  refine wpAny_IfExp (thn (hc pins s σ H _ I h) fun d s1 ⟨H1, I1, q1⟩ => ?_)
  cases d with
  | true => exact ha pins s1 σ H1 Q I1 q1
  | false => exact hb pins s1 σ H1 Q I1 q1
end
end L2

namespace L2
open PySem PySem.Spec PyProof.Rows

/-! ### a list, a tuple that is read: tracked, frozen, or an object of the module -/
def SqL (K : PySem.W.Frag) (H : Hp) (a : Addr) (xs : List V) : Prop :=
  Rd H a (.lst xs) ∨
    ∃ (o : Obj) (its : Array Value) (n : Nat), K.lookup a = some o ∧ o.cls = .type "list" ∧ o.dict = none ∧ o.data = .seq its n ∧ its.size ≤ sizeLine ∧ Vals xs its.toList
def SqT (K : PySem.W.Frag) (H : Hp) (a : Addr) (xs : List V) : Prop :=
  Rd H a (.tup xs) ∨
    ∃ (o : Obj) (its : Array Value) (n : Nat), K.lookup a = some o ∧ o.cls = .type "tuple" ∧ o.data = .seq its n ∧ its.size ≤ sizeLine ∧ Vals xs its.toList
def absV : Value → Option V
  | .none => some .non
  | .bool b => some (.bl b)
  | .int i _ => some (.int i)
  | .str x _ => some (.str x)
  | .bytes b _ => some (.byt b)
  | .float b _ => some (.flt b)
  | .ref a => some (.ref a)
  | .type n => some (.ty n)
  | _ => none
theorem RelV.abs {x : V} {u : Value} (r : RelV x u) : absV u = some x := by
  cases x with
  | non => cases r; rfl
  | bl _ => cases r; rfl
  | int _ => obtain ⟨t, rfl⟩ := r; rfl
  | str _ => obtain ⟨t, rfl⟩ := r; rfl
  | byt _ => obtain ⟨t, rfl⟩ := r; rfl
  | flt _ => obtain ⟨t, rfl⟩ := r; rfl
  | ref _ => cases r; rfl
  | ty _ => cases r; rfl
theorem RelV.inj {x y : V} {u : Value} (r : RelV x u) (q : RelV y u) : x = y := Option.some.inj (r.abs.symm.trans q.abs)
theorem Vals.inj : ∀ {xs ys : List V} {us : List Value}, Vals xs us → Vals ys us → xs = ys
  | _, _, _, .nil, .nil => rfl
  | _, _, _, .cons r t, .cons r' t' => by rw [r.inj r', Vals.inj t t']
section
variable {X : Cx} {pins : List (Addr × Obj)} {σ : St} {H : Hp} {s : Shared} {a : Addr} {xs ys : List V}
theorem SqL.of {K : PySem.W.Frag} (h : H a = some (.lst xs)) : SqL K H a xs := .inl (.inl h)
theorem SqT.of {K : PySem.W.Frag} (h : H a = some (.tup xs)) : SqT K H a xs := .inl (.inl h)
theorem Inv.list (I : Inv X pins σ H s) (h : SqL X.K H a xs) : ∃ its : List Value, Vals xs its ∧ PlainL s.heap a its.toArray ∧ xs.length ≤ sizeLine := by
  rcases h with h | ⟨o, its, n, hk, hc, hd, hs, hz, r⟩
  · obtain ⟨z, its, n, r, e⟩ := h.ok I.hok
    exact ⟨its, r, ⟨_, n, e, rfl, rfl, rfl⟩, z⟩
  · refine ⟨its.toList, r, ⟨o, n, I.kIn a o hk, hc, hd, by simpa using hs⟩, ?_⟩
    have e := r.length
    simp only [Array.length_toList] at e
    omega
theorem Inv.tuple (I : Inv X pins σ H s) (h : SqT X.K H a xs) : ∃ its : List Value, Vals xs its ∧ IsTup s.heap a its.toArray ∧ xs.length ≤ sizeLine := by
  rcases h with h | ⟨o, its, n, hk, hc, hs, hz, r⟩
  · obtain ⟨z, its, r, p⟩ := h.ok I.hok
    exact ⟨its, r, p, z⟩
  · refine ⟨its.toList, r, ⟨o, I.kIn a o hk, hc, n, by simpa using hs⟩, ?_⟩
    have e := r.length
    simp only [Array.length_toList] at e
    omega
theorem Inv.list_inj (I : Inv X pins σ H s) (h : SqL X.K H a xs) (h' : SqL X.K H a ys) : xs = ys := by
  obtain ⟨its, r, ⟨o, n, e, _, _, d⟩, _⟩ := I.list h
  obtain ⟨its', r', ⟨o', n', e', _, _, d'⟩, _⟩ := I.list h'
  rw [e] at e'; cases e'
  rw [d] at d'
  injection d' with d1 _
  have : its = its' := by simpa using congrArg Array.toList d1
  subst this
  exact r.inj r'
theorem Inv.tuple_inj (I : Inv X pins σ H s) (h : SqT X.K H a xs) (h' : SqT X.K H a ys) : xs = ys := by
  obtain ⟨its, r, ⟨o, e, _, n, d⟩, _⟩ := I.tuple h
  obtain ⟨its', r', ⟨o', e', _, n', d'⟩, _⟩ := I.tuple h'
  rw [e] at e'; cases e'
  rw [d] at d'
  injection d' with d1 _
  have : its = its' := by simpa using congrArg Array.toList d1
  subst this
  exact r.inj r'
end

/-! ### another wish about exceptions -/
abbrev Cx.wish (X : Cx) (E : Value → Shared → Prop) : Cx := { X with xe := E }
/-- no exception leaves -/
abbrev Cx.nox (X : Cx) : Cx := X.wish fun _ _ => False
theorem Cx.Ok.wish {X : Cx} (ok : X.Ok) (E : Value → Shared → Prop) : (X.wish E).Ok :=
  ⟨ok.mod, ok.kind, ok.glob, ok.blt, ok.above, ok.inj, ok.has, ok.cab, ok.hd, ok.frames, ok.stk, ok.exf, ok.bs, ok.bsz, ok.noex, ok.exfs, ok.funs, ok.frf⟩
theorem Cx.Ok.unwish {X : Cx} {E : Value → Shared → Prop} (ok : (X.wish E).Ok) : X.Ok :=
  ⟨ok.mod, ok.kind, ok.glob, ok.blt, ok.above, ok.inj, ok.has, ok.cab, ok.hd, ok.frames, ok.stk, ok.exf, ok.bs, ok.bsz, ok.noex, ok.exfs, ok.funs, ok.frf⟩
section
variable {X : Cx} {pins : List (Addr × Obj)} {σ : St} {H : Hp} {s : Shared} {E : Value → Shared → Prop}
theorem Inv.wish (I : Inv X pins σ H s) (E : Value → Shared → Prop) : Inv (X.wish E) pins σ H s := ⟨I.ok.wish E, I.os, I.bare, I.base, I.loc, I.cell, I.free, I.freeC, I.pin, I.hok, I.len⟩
theorem Inv.unwish (I : Inv (X.wish E) pins σ H s) : Inv X pins σ H s := ⟨I.ok.unwish, I.os, I.bare, I.base, I.loc, I.cell, I.free, I.freeC, I.pin, I.hok, I.len⟩
theorem SP.unwish {D : Ends} {f : Flow} {s' : Shared} (h : SP (X.wish E) pins D f s') : SP X pins D f s' := by
  cases f with
  | next => obtain ⟨σ', H', I, q⟩ := h; exact ⟨σ', H', I.unwish, q⟩
  | brk => obtain ⟨σ', H', I, q⟩ := h; exact ⟨σ', H', I.unwish, q⟩
  | cont => obtain ⟨σ', H', I, q⟩ := h; exact ⟨σ', H', I.unwish, q⟩
  | ret u => obtain ⟨v, σ', H', I, r, q⟩ := h; exact ⟨v, σ', H', I.unwish, r, q⟩
theorem PE.nox {e : Expr} {t : TE} (h : PE X.nox e t) : PE X e t := fun pins s σ H Q I hw =>
  wpAny_mono (h pins s σ H Q (I.wish _) hw) (fun _ _ ⟨v, H', I', r, q⟩ => ⟨v, H', I'.unwish, r, q⟩) fun _ _ z => False.elim z
theorem PT.nox {e : Expr} {t : TT} (h : PT X.nox e t) : PT X e t := fun pins s σ H Q I hw =>
  wpAny_mono (h pins s σ H Q (I.wish _) hw) (fun _ _ ⟨H', I', q⟩ => ⟨H', I'.unwish, q⟩) fun _ _ z => False.elim z
theorem PSs.nox {st : List Stmt} {t : TS} (h : PSs X.nox st t) : PSs X st t := fun pins s σ H D I hw =>
  wpAny_mono (h pins s σ H D (I.wish _) hw) (fun _ _ q => q.unwish) fun _ _ z => False.elim z
end

/-! ### blocks and small statements -/
section
variable {X : Cx} {st : Stmt} {rest : List Stmt} {t u : TS} {e : Expr} {te : TE} {pos : Pos}
def tNext : TS := fun D σ H => D.nx σ H
def tSeq (t u : TS) : TS := fun D σ H => t { D with nx := u D } σ H
theorem pss_nil : PSs X [] tNext := fun _ _ σ H _ I h => wpAny_execs_nil ⟨σ, H, I, h⟩
theorem pss_cons (h1 : PS X st t) (h2 : PSs X rest u) : PSs X (st :: rest) (tSeq t u) := by
  intro pins s σ H D I h
  refine wpAny_execs_cons (thn (h1 pins s σ H { D with nx := u D } I h) fun f s1 q => ?_)
  cases f with
  | next =>
    obtain ⟨σ', H', I', q⟩ := q
    exact h2 pins s1 σ' H' D I' q
  | ret v => exact q
  | brk => exact q
  | cont => exact q
theorem pss_one (h1 : PS X st t) : PSs X [st] t := by
  intro pins s σ H D I h
  refine wpAny_execs_cons (thn (h1 pins s σ H D I h) fun f s1 q => ?_)
  cases f with
  | next => exact wpAny_execs_nil q
  | ret v => exact q
  | brk => exact q
  | cont => exact q
def tBreak : TS := fun D σ H => D.bk σ H
def tCont : TS := fun D σ H => D.ct σ H
theorem ps_pass : PS X (.Pass pos) tNext := fun _ _ σ H _ I h => wpAny_Pass ⟨σ, H, I, h⟩
theorem ps_break : PS X (.Break pos) tBreak := fun _ _ σ H _ I h => wpAny_Break ⟨σ, H, I, h⟩
theorem ps_continue : PS X (.Continue pos) tCont := fun _ _ σ H _ I h => wpAny_Continue ⟨σ, H, I, h⟩
/-- in a def's body nothing is shown -/
theorem Inv.quiet {pins : List (Addr × Obj)} {σ : St} {H : Hp} {s : Shared} (I : Inv X pins σ H s) : interactive X.env = false := by simp [interactive, I.ok.kind]
/-- a docstring -/
theorem ps_doc {x j pos pos'} : PS X (.Expr (.Constant (.str x) j pos) pos') tNext := fun _ s σ H _ I h => wpAny_Expr (Calls.Constant_str (show SP X _ _ .next { s with toks := s.toks + 1 } from ⟨σ, H, I.tok _, h⟩)) I.quiet
/-- an expression whose value is dropped -/
def tDrop (te : TE) : TS := fun D σ H => te σ H fun _ H1 => D.nx σ H1
theorem ps_expr (he : PE X e te) (hs : swapsWith e none pos.line X.env = pure false := by rfl) : PS X (.Expr e pos) (tDrop te) := by
  intro pins s σ H D I h
  exact wpAny_Expr_any (thn (he pins s σ H _ I h) fun v s1 ⟨x, H1, I1, r1, q1⟩ => ⟨σ, H1, I1, q1⟩) I.quiet hs
def tRet (te : TE) : TS := fun D σ H => te σ H D.rt
theorem ps_ret (he : PE X e te) : PS X (.Return (some e) pos) (tRet te) := by
  intro pins s σ H D I h
  exact wpAny_Return_some (thn (he pins s σ H _ I h) fun v s1 ⟨x, H1, I1, r1, q1⟩ => ⟨x, σ, H1, I1, r1, q1⟩)
def tRetN : TS := fun D _ H => D.rt .non H
theorem ps_retN : PS X (.Return none pos) tRetN := fun _ _ σ H _ I h => wpAny_Return_none ⟨.non, σ, H, I, rfl, h⟩
def tIfS (c : TT) (t u : TS) : TS := fun D σ H => c σ H fun b H1 => if b = true then t D σ H1 else u D σ H1
theorem ps_if {c : Expr} {a b : List Stmt} {tc : TT} (hc : PT X c tc) (ha : PSs X a t) (hb : PSs X b u) : PS X (.If c a b pos) (tIfS tc t u) := by
  intro pins s σ H D I h
  refine wpAny_If (thn (hc pins s σ H _ I h) fun d s1 ⟨H1, I1, q1⟩ => ?_)
  cases d with
  | true => exact ha pins s1 σ H1 D I1 q1
  | false => exact hb pins s1 σ H1 D I1 q1
/-- code that the proof never comes to -/
def tNever : TS := fun _ _ _ => False
theorem ps_never : PS X st tNever := fun _ _ _ _ _ _ h => h.elim
theorem pss_never {sts : List Stmt} : PSs X sts tNever := fun _ _ _ _ _ _ h => h.elim
end

/-! ### targets -/
abbrev TG := V → St → Hp → (St → Hp → Prop) → Prop
abbrev TGs := List V → St → Hp → (St → Hp → Prop) → Prop
def PG (X : Cx) (target : Expr) (t : TG) : Prop :=
  ∀ (pins : List (Addr × Obj)) (s : Shared) (σ : St) (H : Hp) (v : V) (u : Value) (Q : St → Hp → Prop), Inv X pins σ H s → RelV v u → t v σ H Q →
    wpAny (model X.prog X.w) X.A (assign target X.env u) (fun _ s' => ∃ σ' H', Inv X pins σ' H' s' ∧ Q σ' H') X.xe s
/-- several targets, one after another -/
def PGs (X : Cx) (ts : List Expr) (t : TGs) : Prop :=
  ∀ (pins : List (Addr × Obj)) (s : Shared) (σ : St) (H : Hp) (vs : List V) (us : List Value) (Q : St → Hp → Prop), Inv X pins σ H s → Vals vs us → t vs σ H Q →
    wpAny (model X.prog X.w) X.A (assignInOrder ((assignEach ts X.env).map (·.2)) us) (fun _ s' => ∃ σ' H', Inv X pins σ' H' s' ∧ Q σ' H') X.xe s
/-- o[i] = v, by values -/
abbrev TSet := V → V → V → Hp → (Hp → Prop) → Prop
def PSet (X : Cx) (t : TSet) : Prop :=
  ∀ (pins : List (Addr × Obj)) (s : Shared) (σ : St) (H : Hp) (o i v : V) (ov iv u : Value) (Q : Hp → Prop), Inv X pins σ H s → RelV o ov → RelV i iv → RelV v u → t o i v H Q →
    wpAny (model X.prog X.w) X.A (setItem ov iv u) (fun _ s' => ∃ H', Inv X pins σ H' s' ∧ Q H') X.xe s
/-- a op= b, by values -/
abbrev TIp := V → V → Hp → VK → Prop
def PIp (X : Cx) (op : Operator) (t : TIp) : Prop :=
  ∀ (pins : List (Addr × Obj)) (s : Shared) (σ : St) (H : Hp) (x y : V) (v u : Value) (Q : VK), Inv X pins σ H s → RelV x v → RelV y u → t x y H Q →
    wpAny (model X.prog X.w) X.A (inplaceOp op v u) (EP X pins σ Q) X.xe s
section
variable {X : Cx} {pos : Pos}
def gName (i : Nat) : TG := fun v σ H Q => Q (σ.set i (some v)) H
theorem pg_name {i : Nat} {x : Str} (hN : X.N.Nodup) (hi : X.N[i]? = some x) (hx : Loc X.env.scope x) (hf : X.fn x = true ∨ X.env.scope.names.lookup x = some .local := by first | exact .inl rfl | exact .inr rfl | assumption) : PG X (.Name x pos) (gName i) := by
  intro pins s σ H v u Q I r h
  exact wpAny_assign_Name (store_ok I hN hi hx r (fun s' I' => ⟨_, H, I', h⟩) hf)
def gNil : TGs := fun vs σ H Q => vs = [] ∧ Q σ H
def gCons (t : TG) (u : TGs) : TGs := fun vs σ H Q => ∃ v r, vs = v :: r ∧ t v σ H fun σ' H' => u r σ' H' Q
theorem pgs_nil : PGs X [] gNil := by
  intro pins s σ H vs us Q I r h
  obtain ⟨e, h⟩ := h
  subst e
  cases r
  exact assignInOrder_nil ⟨σ, H, I, h⟩
theorem pgs_cons {e : Expr} {es : List Expr} {t : TG} {u : TGs} (h1 : PG X e t) (h2 : PGs X es u)
    (hs : (assignEach (e :: es) X.env).map (·.2) = assign e X.env :: (assignEach es X.env).map (·.2) := by rfl) : PGs X (e :: es) (gCons t u) := by
  intro pins s σ H vs us Q I r h
  obtain ⟨v, vr, e1, h⟩ := h
  subst e1
  cases r with
  | cons r rr =>
    rw [hs]
    refine assignInOrder_cons (thn (h1 pins s σ H _ _ _ I r h) fun _ s1 ⟨σ1, H1, I1, q1⟩ => ?_)
    exact h2 pins s1 σ1 H1 _ _ Q I1 rr q1
/-- (a, b, ..) = a tuple of that length -/
def gTup (K : PySem.W.Frag) (n : Nat) (t : TGs) : TG := fun v σ H Q => ∃ a xs, v = .ref a ∧ SqT K H a xs ∧ xs.length = n ∧ t xs σ H Q
theorem pg_tup {es : List Expr} {k : Nat} {t : TGs} {n : Nat} (hc : X.calm = true) (h : PGs X es t)
    (hn : (assignEach es X.env).length = n := by rfl) (hst : (assignEach es X.env).findIdx? (·.1) = none := by rfl) : PG X (.Tuple es k pos) (gTup X.K n t) := by
  intro pins s σ H v u Q I r hw
  obtain ⟨a, xs, e1, hq, hl, hw⟩ := hw
  subst e1
  cases r
  obtain ⟨its, rv, ht, hz⟩ := I.tuple hq
  refine assign_Tuple_tuple (I.ok.hd hc) ht (by simp [hn, ← hl, rv.length]) hst fun h' hx => ?_
  have I1 : Inv X pins σ H { s with heap := h' } := I.kept (t' := s.toks) fun b o e => hx b o (Nat.ne_of_lt (Heap.lt_size e)) e
  exact h pins _ σ H xs _ Q I1 (by simpa using rv) hw
/-- o[i] = .. -/
def gSub (to ti : TE) (t : TSet) : TG := fun v σ H Q => to σ H fun o H1 => ti σ H1 fun i H2 => t o i v H2 fun H3 => Q σ H3
theorem pg_sub {o i : Expr} {to ti : TE} {t : TSet} (ho : PE X o to) (hi : PE X i ti) (hs : PSet X t)
    (ha : ∀ v, assign (.Subscript o i pos) X.env v = (do
      let ov ← holding [v] (eval o X.env)
      let iv ← holding [v, ov] (eval i X.env)
      standAt pos
      holding [v, ov, iv] (setItem ov iv v)
      release [v, ov, iv] []) := by intro _; rfl) : PG X (.Subscript o i pos) (gSub to ti t) := by
  intro pins s σ H v u Q I r h
  rw [ha]
  refine wpAny_bind (wpAny_holding (thn (ho pins s σ H _ I h) fun ov s1 ⟨x, H1, I1, r1, q1⟩ => ?_))
  refine wpAny_bind (wpAny_holding (thn (hi pins s1 σ H1 _ I1 q1) fun iv s2 ⟨y, H2, I2, r2, q2⟩ => ?_))
  refine wpAny_bind (wpAny_standAt (wpAny_bind (wpAny_holding (thn (hs pins s2 σ H2 x y v ov iv u _ I2 r1 r2 r q2) fun _ s3 ⟨H3, I3, q3⟩ => ?_))))
  exact wpAny_release ⟨σ, H3, I3, q3⟩
/-- target = value -/
def tAsg (te : TE) (g : TG) : TS := fun D σ H => te σ H fun x H1 => g x σ H1 D.nx
theorem ps_asg {tg e : Expr} {te : TE} {g : TG} (he : PE X e te) (hg : PG X tg g) (hs : swapsWithSole [tg] e pos.line X.env = pure false := by rfl) (hw : swappedStores [tg] e X.env = pure none := by rfl)
    (h1 : (assignEach [tg] X.env).map (·.2) = [assign tg X.env] := by rfl) : PS X (.Assign [tg] e pos) (tAsg te g) := by
  intro pins s σ H D I h
  refine wpAny_Assign_stores (thn (he pins s σ H _ I h) fun v s1 ⟨x, H1, I1, r1, q1⟩ => ?_) hs hw
  rw [h1]
  exact thn (hg pins s1 σ H1 x v _ I1 r1 q1) fun _ s2 q => q
/-- name = value -/
theorem ps_set {i : Nat} {x : Str} {e : Expr} {te : TE} {pos' : Pos} (hN : X.N.Nodup) (hi : X.N[i]? = some x) (hx : Loc X.env.scope x) (he : PE X e te) (hs : swapsWith e (some (.Name x pos')) pos.line X.env = pure false := by rfl) (hf : X.fn x = true ∨ X.env.scope.names.lookup x = some .local := by first | exact .inl rfl | exact .inr rfl | assumption) :
    PS X (.Assign [.Name x pos'] e pos) (tAsg te (gName i)) := by
  intro pins s σ H D I h
  refine wpAny_Assign_Name (thn (he pins s σ H _ I h) fun v s1 ⟨y, H1, I1, r1, q1⟩ => ?_) hs
  exact store_ok I1 hN hi hx r1 (fun s2 I2 => ⟨_, H1, I2, q1⟩) hf
/-- a, b = x, y with plain local names: stored from the right; the pair itself is not tracked (the opening rows as in PyProof/Rows/TupAssign.lean:23) -/
def tPar (i j : Nat) (ta : TA) : TS := fun D σ H => ta σ H fun vs H1 => ∃ v w, vs = [v, w] ∧ D.nx ((σ.set i (some v)).set j (some w)) H1
theorem ps_par {i j : Nat} {x y : Str} {a b : Expr} {ta : TA} {px py pt : Pos} {kt k2 pt2} (hc : X.calm = true) (hN : X.N.Nodup) (hi : X.N[i]? = some x) (hj : X.N[j]? = some y) (hij : i ≠ j)
    (hx : X.env.scope.names.lookup x = some .local) (hy : X.env.scope.names.lookup y = some .local) (ha : PA X [a, b] ta)
    (hw : swappedStores [.Tuple [.Name x px, .Name y py] kt pt] (.Tuple [a, b] k2 pt2) X.env = pure (some [x, y]))
    (hs : swapsWithSole [.Tuple [.Name x px, .Name y py] kt pt] (.Tuple [a, b] k2 pt2) pos.line X.env = pure false := by rfl) :
    PS X (.Assign [.Tuple [.Name x px, .Name y py] kt pt] (.Tuple [a, b] k2 pt2) pos) (tPar i j ta) := by
  intro pins s σ H D I h
  rw [exec_Assign_arm]
  refine wpAny_bind (wpAny_standAt ?_)
  rw [hs]
  refine wpAny_bind (wpAny_pure ?_)
  rw [if_neg (by decide)]
  refine wpAny_bind (Tuple_ (thn (ha _ pins s σ H _ I h) fun us s1 ⟨vs, H1, I1, r1, q1⟩ => ?_))
  obtain ⟨v, w, e1, q1⟩ := q1
  subst e1
  obtain ⟨u1, u2, rfl, rv, rw'⟩ : ∃ u1 u2, us = [u1, u2] ∧ RelV v u1 ∧ RelV w u2 := by
    cases r1 with
    | cons p q =>
      cases q with
      | cons p' q' =>
        cases q'
        exact ⟨_, _, rfl, p, p'⟩
  refine wpAny_newObj_type ?_ (by show 2 ≤ sizeLine; decide)
  have I2 : Inv X pins σ H1 { s1 with heap := s1.heap.push { cls := .type "tuple", data := .seq [u1, u2].toArray } } := I1.kept (t' := s1.toks) fun b o e => Heap.get?_push_of_some _ e
  rw [hw]
  refine wpAny_bind (wpAny_pure ?_)
  show wpAny (model X.prog X.w) X.A (do rule "assign.swapped-stores"; let items ← unpackItems (.ref s1.heap.objs.size) 2 none; assignInOrder [fun v => bindName X.env y v, fun v => bindName X.env x v] items.reverse; pure Flow.next) _ _ _
  refine wpAny_bind (wpAny_rule (wpAny_bind (unpackItems_tuple (items := #[u1, u2]) (I.ok.hd hc) (IsTup.new s1.heap _) fun h' hx' => ?_)))
  have I3 := I2.kept (h' := h') (t' := s1.toks) fun b o e => hx' b o (Nat.ne_of_lt (Heap.lt_size e)) e
  show wpAny _ _ (assignInOrder [fun v => bindName X.env y v, fun v => bindName X.env x v] [u2, u1] >>= fun _ => pure Flow.next) _ _ _
  refine wpAny_bind (assignInOrder_cons (wpAny_bindName (store_ok I3 hN hj (.inl hy) rw' (fun s2 I4 => ?_) (.inr hy))))
  refine assignInOrder_cons (wpAny_bindName (store_ok I4 hN hi (.inl hx) rv (fun s3 I5 => assignInOrder_nil (wpAny_pure ?_)) (.inr hx)))
  rw [List.set_comm _ _ (Ne.symm hij)] at I5
  exact ⟨_, H1, I5, q1⟩
/-- name op= e -/
def tAug (i : Nat) (te : TE) (ti : TIp) : TS := fun D σ H => ∃ x, σ[i]? = some (some x) ∧ te σ H fun y H1 => ti x y H1 fun z H2 => D.nx (σ.set i (some z)) H2
theorem ps_aug {i : Nat} {x : Str} {e : Expr} {te : TE} {op : Operator} {ti : TIp} {pos' : Pos} (hN : X.N.Nodup) (hi : X.N[i]? = some x) (hx : Loc X.env.scope x) (he : PE X e te) (ho : PIp X op ti) (hf : X.fn x = true ∨ X.env.scope.names.lookup x = some .local := by first | exact .inl rfl | exact .inr rfl | assumption) :
    PS X (.AugAssign (.Name x pos') op e pos) (tAug i te ti) := by
  intro pins s σ H D I h
  obtain ⟨v, e1, h⟩ := h
  obtain ⟨m, hn, hl⟩ := I.loc
  have vis : Vis X.env.scope x := by rcases hx with k | k; exact .inl k; exact .inr (.inl k)
  obtain ⟨u, r, l⟩ := hl i x v hi e1 vis
  refine wpAny_AugAssign_Name ?_
  have go : wpAny (model X.prog X.w) X.A (eval e X.env) (fun w s₂ => wpAny (model X.prog X.w) X.A (inplaceOp op u w) (fun r s₃ => wpAny (model X.prog X.w) X.A (storeName X.env x r) (fun _ => SP X pins D .next) X.xe s₃) X.xe s₂) X.xe s := by
    refine thn (he pins s σ H _ I h) fun w s1 ⟨y, H1, I1, r1, q1⟩ => ?_
    refine thn (ho pins s1 σ H1 v y u w _ I1 r r1 q1) fun z s2 ⟨zv, H2, I2, r2, q2⟩ => ?_
    exact store_ok I2 hN hi hx r2 (fun s3 I3 => ⟨_, H2, I3, q2⟩) hf
  rcases l with ⟨hk, hm⟩ | ⟨hk, c, hc, hcell⟩
  · exact wpAny_loadName_local I.ok.kind hk hn hm go
  · rcases hk with hk | hk
    · exact wpAny_loadName_cell I.ok.kind hk hc hcell go
    · rcases hx with k | k
      · have : X.env.scope.names.lookup x = some .free := hk
        rw [k] at this; cases this
      · have : X.env.scope.names.lookup x = some .free := hk
        rw [k] at this; cases this
/-- o[i] op= e -/
def tAugS (to ti te : TE) (tget : V → V → Hp → VK → Prop) (tip : TIp) (tset : TSet) : TS := fun D σ H => to σ H fun o H1 => ti σ H1 fun i H2 => tget o i H2 fun x H3 => te σ H3 fun y H4 => tip x y H4 fun z H5 => tset o i z H5 fun H6 => D.nx σ H6
/-- o[i], by values -/
def PGet (X : Cx) (t : V → V → Hp → VK → Prop) : Prop :=
  ∀ (pins : List (Addr × Obj)) (s : Shared) (σ : St) (H : Hp) (o i : V) (ov iv : Value) (Q : VK), Inv X pins σ H s → RelV o ov → RelV i iv → t o i H Q →
    wpAny (model X.prog X.w) X.A (getItem ov iv) (EP X pins σ Q) X.xe s
theorem ps_augS {o i e : Expr} {to ti te : TE} {tget : V → V → Hp → VK → Prop} {tip : TIp} {tset : TSet} {op : Operator} {tpos : Pos} (ho : PE X o to) (hi : PE X i ti) (hg : PGet X tget) (he : PE X e te) (hp : PIp X op tip) (hs : PSet X tset)
    (ha : ∀ ov iv new, augStore i ov iv new = (do holding [new, ov, iv] (setItem ov iv new); release [new, ov, iv] []; pure .next) := by intros; rfl) : PS X (.AugAssign (.Subscript o i tpos) op e pos) (tAugS to ti te tget tip tset) := by
  intro pins s σ H D I h
  refine wpAny_AugAssign_SubscriptAny (thn (ho pins s σ H _ I h) fun ov s1 ⟨x1, H1, I1, r1, q1⟩ => ?_) ha
  refine thn (hi pins s1 σ H1 _ I1 q1) fun iv s2 ⟨x2, H2, I2, r2, q2⟩ => ?_
  refine thn (hg pins s2 σ H2 x1 x2 ov iv _ I2 r1 r2 q2) fun old s3 ⟨x3, H3, I3, r3, q3⟩ => ?_
  refine thn (he pins s3 σ H3 _ I3 q3) fun v s4 ⟨x4, H4, I4, r4, q4⟩ => ?_
  refine thn (hp pins s4 σ H4 x3 x4 old v _ I4 r3 r4 q4) fun new s5 ⟨x5, H5, I5, r5, q5⟩ => ?_
  exact thn (hs pins s5 σ H5 x1 x2 x5 ov iv new _ I5 r1 r2 r5 q5) fun _ s6 ⟨H6, I6, q6⟩ => ⟨σ, H6, I6, q6⟩
/-- ints -/
def ipI (f : Int → Int → Int) : TIp := fun x y H Q => ∃ i j, x = .int i ∧ y = .int j ∧ Q (.int (f i j)) H
theorem ip_add : PIp X .Add (ipI fun i j => i + j) := by
  intro pins s σ H x y v u Q I r1 r2 h
  obtain ⟨i, j, e1, e2, q⟩ := h
  subst e1; subst e2
  obtain ⟨t, rfl⟩ := r1
  obtain ⟨t', rfl⟩ := r2
  exact iadd_int ⟨.int _, H, I.tok _, ⟨_, rfl⟩, q⟩
theorem ip_sub : PIp X .Sub (ipI fun i j => i - j) := by
  intro pins s σ H x y v u Q I r1 r2 h
  obtain ⟨i, j, e1, e2, q⟩ := h
  subst e1; subst e2
  obtain ⟨t, rfl⟩ := r1
  obtain ⟨t', rfl⟩ := r2
  exact isub_int ⟨.int _, H, I.tok _, ⟨_, rfl⟩, q⟩
end

/-! ### while -/
section
variable {X : Cx} {pos : Pos}
/-- the invariant W with its measure -/
def tWhile (c : TT) (tb : TS) : TS := fun D σ H => ∃ W : Nat → St → Hp → Prop, (∃ m, W m σ H) ∧ ∀ m σ H, W m σ H →
  c σ H fun b H1 => if b = true then ∃ N : St → Hp → Prop, (∀ σ' H', N σ' H' → ∃ m', m' < m ∧ W m' σ' H') ∧ tb { D with nx := N, ct := N, bk := D.nx } σ H1 else D.nx σ H1
theorem ps_while {c : Expr} {body : List Stmt} {tc : TT} {tb : TS} (hp : PassesOwn (model X.prog X.w) X.A X.env X.xe) (hc : PT X c tc) (hb : PSs X body tb) : PS X (.While c body [] pos) (tWhile tc tb) := by
  intro pins s σ H D I h
  obtain ⟨W, ⟨m0, w0⟩, turn⟩ := h
  refine wpAny_While (codeAny_whileLoop (fun n s' => ∃ σ' H', Inv X pins σ' H' s' ∧ W n σ' H') ?_ m0 ⟨σ, H, I, w0⟩)
  rintro n s1 ⟨σ1, H1, I1, w1⟩
  refine wpAny_passesOwn hp (thn (hc pins s1 σ1 H1 _ I1 (turn n σ1 H1 w1)) fun b s2 ⟨H2, I2, q2⟩ => ?_)
  cases b with
  | true =>
    obtain ⟨N, hN, q2⟩ := q2
    rw [if_pos rfl]
    refine wpAny_passesOwn hp (thn (hb pins s2 σ1 H2 _ I2 q2) fun f s3 q3 => ?_)
    cases f with
    | next =>
      obtain ⟨σ3, H3, I3, n3⟩ := q3
      obtain ⟨m', hm, w3⟩ := hN σ3 H3 n3
      exact ⟨m', hm, σ3, H3, I3, w3⟩
    | cont =>
      obtain ⟨σ3, H3, I3, n3⟩ := q3
      obtain ⟨m', hm, w3⟩ := hN σ3 H3 n3
      exact ⟨m', hm, σ3, H3, I3, w3⟩
    | brk => exact q3
    | ret v => exact q3
  | false =>
    rw [if_neg Bool.false_ne_true]
    exact wpAny_execs_nil ⟨σ1, H2, I2, q2⟩
end

/-! ### what a loop or a comprehension walks -/
/-- at turn i: it yields x (the heap may grow), or it stops -/
structure It where
  go : Nat → Hp → Prop
  yld : Nat → Hp → V → Hp → Prop
  stop : Nat → Hp → Prop
/-- the iterator's own objects may turn: they are not the frame's, not pinned, younger than the entry (or a comprehension's own) -/
def FpOk (X : Cx) (pins : List (Addr × Obj)) (H : Hp) (b : Addr) : Prop :=
  H b = none ∧ b ≠ X.env.locals ∧ b ∉ X.fs ∧ (b ∈ X.ex ∨ X.s₀.heap.objs.size ≤ b) ∧ (∀ x c, X.env.cells.lookup x = some c → c ≠ b) ∧ ∀ p ∈ X.pn ++ pins, p.1 ≠ b
theorem Inv.fpOk {X : Cx} {pins : List (Addr × Obj)} {σ : St} {H H' : Hp} {s : Shared} {b : Addr} (I : Inv X pins σ H s) (hb : s.heap.objs.size ≤ b) (hn : H' b = none) : FpOk X pins H' b := by
  refine ⟨hn, Nat.ne_of_gt (Nat.lt_of_lt_of_le I.lt hb), I.nofs hb, .inr (Nat.le_trans I.sz hb), fun x c e z => ?_, fun p hp z => ?_⟩
  · obtain ⟨v, q⟩ := I.cell x c e
    exact absurd (Nat.lt_of_lt_of_le q.lt (by rw [z]; exact hb)) (Nat.lt_irrefl _)
  · exact absurd (Nat.lt_of_lt_of_le (Heap.lt_size (I.pin p hp).1) (by rw [z]; exact hb)) (Nat.lt_irrefl _)
structure Turn (P : Program) (w : World) (K : PySem.W.Frag) (tg : Expr) (J : It) (fp : List Addr) (it : Addr) (tn : Nat → Heap → Prop) : Prop where
  mem : it ∈ fp
  obj : ∀ i h, tn i h → ∀ b ∈ fp, ∃ o, h.get? b = some o ∧ ∀ v, o.data ≠ .cell v
  keep : ∀ i h h', tn i h → (∀ b ∈ fp, ∀ o, h.get? b = some o → h'.get? b = some o) → tn i h'
  item : ∀ (X : Cx), X.prog = P → X.w = w → X.K = K → X.calm = true → ∀ (i : Nat) (pins : List (Addr × Obj)) (s : Shared) (σ : St) (H : Hp) (E : Value → Shared → Prop), Inv X pins σ H s → (∀ b ∈ fp, FpOk X pins H b) → tn i s.heap → J.go i H →
    wpAny (model P w) X.A (pyNext (.ref it)) (fun r s1 => ∃ u, r = some u ∧
      wpAny (model P w) X.A (letOwnedTupleGo tg (.ref it) u) (fun _ s2 => ∃ x H', Inv X pins σ H' s2 ∧ RelV x u ∧ J.yld i H x H' ∧ tn (i + 1) s2.heap ∧ ∀ b ∈ fp, H' b = none) E s1) E s
  done : ∀ (X : Cx), X.prog = P → X.w = w → X.K = K → X.calm = true → ∀ (i : Nat) (pins : List (Addr × Obj)) (s : Shared) (σ : St) (H : Hp) (E : Value → Shared → Prop), Inv X pins σ H s → (∀ b ∈ fp, FpOk X pins H b) → tn i s.heap → J.stop i H →
    wpAny (model P w) X.A (pyNext (.ref it)) (fun r s1 => r = none ∧ Inv X pins σ H s1) E s
  self : ∀ (A : Around) (i : Nat) (s : Shared) (Q : Value → Shared → Prop) (E : Value → Shared → Prop), tn i s.heap → Q (.ref it) s → wpAny (model P w) A (pyIter (.ref it)) Q E s
abbrev TI := St → Hp → (It → Hp → Prop) → Prop
/-- an iterator has come -/
def PIE (X : Cx) (pins : List (Addr × Obj)) (σ : St) (tg : Expr) (R : It → Hp → Prop) (itv : Value) (s2 : Shared) : Prop :=
  ∃ (it : Addr) (fp : List Addr) (tn : Nat → Heap → Prop) (J : It) (H' : Hp), itv = .ref it ∧ Inv X pins σ H' s2 ∧ Turn X.prog X.w X.K tg J fp it tn ∧ tn 0 s2.heap ∧ (∀ b ∈ fp, FpOk X pins H' b) ∧ R J H'
def PI (X : Cx) (tg iter : Expr) (wi : TI) : Prop :=
  ∀ (pins : List (Addr × Obj)) (s : Shared) (σ : St) (H : Hp) (R : It → Hp → Prop), Inv X pins σ H s → wi σ H R →
    wpAny (model X.prog X.w) X.A (eval iter X.env) (fun v s1 => wpAny (model X.prog X.w) X.A (pyIter v) (PIE X pins σ tg R) X.xe s1) X.xe s

/-- the step ahead of the store is nothing for an iterator that keeps no tuple -/
theorem go_of {M : Model} {A : Around} {E : Value → Shared → Prop} {s : Shared} {tg : Expr} {it : Addr} {u : Value} {o : Obj} {n : String} {vs : Array Value} {Q : Unit → Shared → Prop} (ho : s.heap.get? it = some o) (hc : o.cls = .type n) (hd : o.data = .fields vs)
    (hn : ["enumerate", "zip", "dict_itemiterator", "dict_reverseitemiterator", "odict_iterator", "itertools.zip_longest", "itertools.pairwise"].contains n = false) (hQ : Q () s) : wpAny M A (letOwnedTupleGo tg (.ref it) u) Q E s := by
  unfold letOwnedTupleGo
  cases tg <;> first
    | exact wpAny_pure hQ
    | (cases u <;> first
        | exact wpAny_pure hQ
        | (refine wpAny_bind (wpAny_load ho ?_)
           rw [hc, hd]
           show wpAny M A (if (["enumerate", "zip", "dict_itemiterator", "dict_reverseitemiterator", "odict_iterator", "itertools.zip_longest", "itertools.pairwise"].contains n && vs[0]? == some (rawInt _)) = true then _ else _) Q E s
           rw [if_neg (by intro h; rw [hn, Bool.false_and] at h; cases h)]
           exact wpAny_pure hQ))

/-- the list at a, as it stands at each turn (a loop may append to it) -/
def Itl (K : PySem.W.Frag) (a : Addr) : It :=
  ⟨fun i H => ∃ xs x, SqL K H a xs ∧ xs[i]? = some x, fun i H x H' => H' = H ∧ ∀ xs, SqL K H a xs → xs[i]? = some x, fun i H => ∃ xs, SqL K H a xs ∧ xs.length ≤ i⟩
def Itt (K : PySem.W.Frag) (a : Addr) : It :=
  ⟨fun i H => ∃ xs x, SqT K H a xs ∧ xs[i]? = some x, fun i H x H' => H' = H ∧ ∀ xs, SqT K H a xs → xs[i]? = some x, fun i H => ∃ xs, SqT K H a xs ∧ xs.length ≤ i⟩
/-- lo, lo + 1, .. (n of them) -/
def Itr (lo : Int) (n : Nat) : It := ⟨fun i _ => i < n, fun i H x H' => H' = H ∧ x = .int (lo + i), fun i _ => n ≤ i⟩
theorem turn_list {P : Program} {w : World} {K : PySem.W.Frag} {tg : Expr} (a it : Addr) : Turn P w K tg (Itl K a) [it] it (fun i h => h.IsListIter it a i) where
  mem := by simp
  obj := fun i h st b hb => by
    have e : b = it := by simpa using hb
    subst e
    obtain ⟨o, e, c, d⟩ := st
    exact ⟨o, e, fun v z => by rw [d] at z; cases z⟩
  keep := fun i h h' st k => st.at fun o e => k it (by simp) o e
  item := by
    intro X hP hw hK hc i pins s σ H E I hf st hg
    subst hP hw hK
    obtain ⟨xs, x, hq, hx⟩ := hg
    obtain ⟨its, rv, p, hz⟩ := I.list hq
    obtain ⟨u, hu, ru⟩ := rv.get hx
    obtain ⟨f0, f1, f2, f3, f4, f5⟩ := hf it (by simp)
    refine wpAny_pyNext_list_item st p.isList (x := u) (by simpa using hu) fun h' st' sb => ?_
    have I1 : Inv X pins σ H { s with heap := h' } := I.turned (t' := s.toks) (fun b o hb e => (sb.2 b hb).trans e) f0 f1 f3 f4 f5
    obtain ⟨o, e, c, d⟩ := id st'
    exact ⟨u, rfl, go_of (s := { s with heap := h' }) e c d (by decide) ⟨x, H, I1, ru, ⟨rfl, fun ys hy => by rw [I.list_inj hy hq]; exact hx⟩, st', fun b hb => (hf b hb).1⟩⟩
  done := by
    intro X hP hw hK hc i pins s σ H E I hf st hg
    subst hP hw hK
    obtain ⟨xs, hq, hx⟩ := hg
    obtain ⟨its, rv, p, hz⟩ := I.list hq
    obtain ⟨f0, f1, f2, f3, f4, f5⟩ := hf it (by simp)
    have hl := rv.length
    exact wpAny_pyNext_list_end (I.ok.hd hc) st p.isList (by simp; omega) fun h' eb => ⟨rfl, I.turned (t' := s.toks) (fun b o hb e => eb b o hb e) f0 f1 f3 f4 f5⟩
  self := fun _ _ _ _ _ st h => wpAny_pyIter_listiter st h
theorem turn_tuple {P : Program} {w : World} {K : PySem.W.Frag} {tg : Expr} (a it : Addr) : Turn P w K tg (Itt K a) [it] it (fun i h => h.IsTupleIter it a i) where
  mem := by simp
  obj := fun i h st b hb => by
    have e : b = it := by simpa using hb
    subst e
    obtain ⟨o, e, c, d⟩ := st
    exact ⟨o, e, fun v z => by rw [d] at z; cases z⟩
  keep := fun i h h' st k => st.at fun o e => k it (by simp) o e
  item := by
    intro X hP hw hK hc i pins s σ H E I hf st hg
    subst hP hw hK
    obtain ⟨xs, x, hq, hx⟩ := hg
    obtain ⟨its, rv, p, hz⟩ := I.tuple hq
    obtain ⟨u, hu, ru⟩ := rv.get hx
    obtain ⟨f0, f1, f2, f3, f4, f5⟩ := hf it (by simp)
    refine wpAny_pyNext_tuple_item st (show s.heap.IsTuple a its.toArray from p) (x := u) (by simpa using hu) fun h' st' sb => ?_
    have I1 : Inv X pins σ H { s with heap := h' } := I.turned (t' := s.toks) (fun b o hb e => (sb.2 b hb).trans e) f0 f1 f3 f4 f5
    obtain ⟨o, e, c, d⟩ := id st'
    exact ⟨u, rfl, go_of (s := { s with heap := h' }) e c d (by decide) ⟨x, H, I1, ru, ⟨rfl, fun ys hy => by rw [I.tuple_inj hy hq]; exact hx⟩, st', fun b hb => (hf b hb).1⟩⟩
  done := by
    intro X hP hw hK hc i pins s σ H E I hf st hg
    subst hP hw hK
    obtain ⟨xs, hq, hx⟩ := hg
    obtain ⟨its, rv, p, hz⟩ := I.tuple hq
    obtain ⟨f0, f1, f2, f3, f4, f5⟩ := hf it (by simp)
    have hl := rv.length
    exact wpAny_pyNext_tuple_end (I.ok.hd hc) st (show s.heap.IsTuple a its.toArray from p) (by simp; omega) fun h' eb => ⟨rfl, I.turned (t' := s.toks) (fun b o hb e => eb b o hb e) f0 f1 f3 f4 f5⟩
  self := fun _ _ _ _ _ st h => wpAny_pyIter_tupleiter st h
theorem turn_range {P : Program} {w : World} {K : PySem.W.Frag} {tg : Expr} (it : Addr) (lo : Int) (n : Nat) : Turn P w K tg (Itr lo n) [it] it (fun i h => IsRangeIter h it (lo + (i : Nat) * 1) ((n : Int) - (i : Nat)) 1) where
  mem := by simp
  obj := fun i h st b hb => by
    have e : b = it := by simpa using hb
    subst e
    exact ⟨_, st, fun v z => by
      have z' : Data.fields _ = Data.cell v := z
      cases z'⟩
  keep := fun i h h' st k => k it (by simp) _ st
  item := by
    intro X hP hw hK hc i pins s σ H E I hf st hg
    subst hP hw hK
    obtain ⟨f0, f1, f2, f3, f4, f5⟩ := hf it (by simp)
    have W := Walks.range (prog := X.prog) (w := X.w) (I.ok.hd hc) it lo 1 n
    refine W.item i s _ _ hg st fun v h' tk hv st' kk => ?_
    obtain ⟨t, rfl⟩ := hv
    have I1 : Inv X pins σ H { s with heap := h', toks := tk } := I.turned (fun b o hb e => kk b o (by simpa using hb) e) f0 f1 f3 f4 f5
    refine ⟨_, rfl, go_of (s := { s with heap := h', toks := tk }) (n := "range_iterator") st' rfl rfl (by decide) ⟨.int (lo + i), H, I1, ⟨t, ?_⟩, ⟨rfl, rfl⟩, st', fun b hb => (hf b hb).1⟩⟩
    rw [Int.mul_one]
  done := by
    intro X hP hw hK hc i pins s σ H E I hf st hg
    subst hP hw hK
    obtain ⟨f0, f1, f2, f3, f4, f5⟩ := hf it (by simp)
    exact wpAny_pyNext_range_end (I.ok.hd hc) st (by have : n ≤ i := hg; omega) fun h' eb => ⟨rfl, I.turned (t' := s.toks) (fun b o hb e => eb b o hb e) f0 f1 f3 f4 f5⟩
  self := fun _ _ _ _ _ st h => wpAny_pyIter_rangeiter st h
end L2

namespace L2
open PySem PySem.Spec PyProof.Rows
section
variable {X : Cx} {tg : Expr}
def iList (K : PySem.W.Frag) (tl : TE) : TI := fun σ H R => tl σ H fun x H1 => ∃ a, x = .ref a ∧ (∃ xs, SqL K H1 a xs) ∧ R (Itl K a) H1
def iTup (K : PySem.W.Frag) (tl : TE) : TI := fun σ H R => tl σ H fun x H1 => ∃ a, x = .ref a ∧ (∃ xs, SqT K H1 a xs) ∧ R (Itt K a) H1
theorem pi_list {l : Expr} {tl : TE} (hl : PE X l tl) : PI X tg l (iList X.K tl) := by
  intro pins s σ H R I h
  refine thn (hl pins s σ H _ I h) fun v s1 ⟨x, H1, I1, r1, q1⟩ => ?_
  obtain ⟨a, e, ⟨xs, hq⟩, q⟩ := q1
  subst e
  cases r1
  obtain ⟨its, rv, p, hz⟩ := I1.list hq
  refine wpAny_pyIter_list p.isList ?_
  refine ⟨s1.heap.objs.size, [s1.heap.objs.size], _, _, H1, rfl, I1.kept (t' := s1.toks) fun b o e => Heap.get?_push_of_some _ e, turn_list a _, ⟨_, Heap.get?_push_size _ rfl, rfl, rfl⟩, fun b hb => ?_, q⟩
  have e : b = s1.heap.objs.size := by simpa using hb
  subst e
  exact I1.fpOk (Nat.le_refl _) (I1.hok.fresh (Nat.le_refl _))
theorem pi_tup {l : Expr} {tl : TE} (hl : PE X l tl) : PI X tg l (iTup X.K tl) := by
  intro pins s σ H R I h
  refine thn (hl pins s σ H _ I h) fun v s1 ⟨x, H1, I1, r1, q1⟩ => ?_
  obtain ⟨a, e, ⟨xs, hq⟩, q⟩ := q1
  subst e
  cases r1
  obtain ⟨its, rv, p, hz⟩ := I1.tuple hq
  refine wpAny_pyIter_tuple (show s1.heap.IsTuple a its.toArray from p) ?_
  refine ⟨s1.heap.objs.size, [s1.heap.objs.size], _, _, H1, rfl, I1.kept (t' := s1.toks) fun b o e => Heap.get?_push_of_some _ e, turn_tuple a _, ⟨_, Heap.get?_push_size _ rfl, rfl, rfl⟩, fun b hb => ?_, q⟩
  have e : b = s1.heap.objs.size := by simpa using hb
  subst e
  exact I1.fpOk (Nat.le_refl _) (I1.hok.fresh (Nat.le_refl _))
/-- a range object just made, walked -/
theorem range_it {pins : List (Addr × Obj)} {σ : St} {H : Hp} {s : Shared} {R : It → Hp → Prop} {E : Value → Shared → Prop} {lo hi : Int} {t u v : Tok} {tk : Nat} (I : Inv X pins σ H s) (h1 : -(2 ^ 62) ≤ lo) (h2 : lo < 2 ^ 62) (h3 : -(2 ^ 62) ≤ hi) (h4 : hi < 2 ^ 62)
    (q : R (Itr lo (hi - lo).toNat) H) : wpAny (model X.prog X.w) X.A (pyIter (.ref s.heap.objs.size)) (PIE X pins σ tg R) E { s with heap := s.heap.push { cls := .type "range", data := .fields #[.int lo t, .int hi u, .int 1 v] }, toks := tk } := by
  refine wpAny_pyIter_range (IsRange.new ..) (small_one h1 h2 h3 h4) ?_
  have I1 : Inv X pins σ H { s with heap := s.heap.push { cls := .type "range", data := .fields #[.int lo t, .int hi u, .int 1 v] }, toks := tk } := I.kept fun b o e => Heap.get?_push_of_some _ e
  refine ⟨(s.heap.push { cls := .type "range", data := .fields #[.int lo t, .int hi u, .int 1 v] }).objs.size, [(s.heap.push { cls := .type "range", data := .fields #[.int lo t, .int hi u, .int 1 v] }).objs.size], _, _, H, rfl,
    I1.kept (t' := tk) fun b o e => Heap.get?_push_of_some _ e, turn_range _ lo (hi - lo).toNat, ?_, fun b hb => ?_, q⟩
  · have e1 : lo + ((0 : Nat) : Int) * 1 = lo := by simp
    have e2 : (((hi - lo).toNat : Nat) : Int) - ((0 : Nat) : Int) = Builtin.Range.rangeSize lo hi 1 := by rw [rangeSize_one]; split <;> omega
    show IsRangeIter _ _ (lo + ((0 : Nat) : Int) * 1) ((((hi - lo).toNat : Nat) : Int) - ((0 : Nat) : Int)) 1
    rw [e1, e2]
    exact Heap.get?_push_size _ rfl
  · have e : b = (s.heap.push { cls := .type "range", data := .fields #[.int lo t, .int hi u, .int 1 v] }).objs.size := by simpa using hb
    subst e
    exact I1.fpOk (Nat.le_refl _) (I1.hok.fresh (Nat.le_refl _))
def iRng1 (ta : TA) : TI := fun σ H R => ta σ H fun vs H1 => ∃ j : Int, vs = [.int j] ∧ -(2 ^ 62) ≤ j ∧ j < 2 ^ 62 ∧ R (Itr 0 j.toNat) H1
def iRng2 (ta : TA) : TI := fun σ H R => ta σ H fun vs H1 => ∃ i j : Int, vs = [.int i, .int j] ∧ (-(2 ^ 62) ≤ i ∧ i < 2 ^ 62 ∧ -(2 ^ 62) ≤ j ∧ j < 2 ^ 62) ∧ R (Itr i (j - i).toNat) H1
theorem pi_range1 {a : Expr} {ta : TA} {p pos : Pos} (hg : Gl X "range") (hm : X.mg "range" = none) (ha : PA X [a] ta) (hs : starEach [a] X.env = [(false, eval a X.env)] := by rfl) : PI X tg (.Call (.Name "range" p) [a] [] pos) (iRng1 ta) := by
  intro pins s σ H R I h
  refine Call_ (ld_blt I hg hm boot_range (PyProof.Rows.callWith_type1 (thn (ha pos pins s σ H _ I h) fun us s1 ⟨vs, H1, I1, r1, q1⟩ => ?_) hs rfl))
  obtain ⟨j, e, q1, q2, q⟩ := q1
  subst e
  cases r1 with
  | cons r rr =>
    cases rr
    obtain ⟨t, rfl⟩ := r
    exact call_range_1 (range_it I1 (by omega) (by omega) q1 q2 (by simpa using q))
theorem pi_range2 {a b : Expr} {ta : TA} {p pos : Pos} (hg : Gl X "range") (hm : X.mg "range" = none) (ha : PA X [a, b] ta) (hs : starEach [a, b] X.env = [(false, eval a X.env), (false, eval b X.env)] := by rfl) (hs2 : starEach [b] X.env = [(false, eval b X.env)] := by rfl) :
    PI X tg (.Call (.Name "range" p) [a, b] [] pos) (iRng2 ta) := by
  intro pins s σ H R I h
  refine Call_ (ld_blt I hg hm boot_range (PyProof.Rows.callWith_type1 (thn (ha pos pins s σ H _ I h) fun us s1 ⟨vs, H1, I1, r1, q1⟩ => ?_) (by rw [hs, hs2]) (by rw [hs2]; rfl)))
  obtain ⟨i, j, e, ⟨q1, q2, q3, q4⟩, q⟩ := q1
  subst e
  cases r1 with
  | cons r rr =>
    cases rr with
    | cons r' rr =>
      cases rr
      obtain ⟨t, rfl⟩ := r
      obtain ⟨t', rfl⟩ := r'
      exact call_range_2 (range_it I1 q1 q2 q3 q4 q)

/-! ### for -/
/-- W: the invariant by the turn and a measure; N: what the body is to reach -/
def tFor (wi : TI) (g : TG) (tb : TS) : TS := fun D σ H => wi σ H fun J H1 => ∃ W : Nat → Nat → St → Hp → Prop, (∃ m, W 0 m σ H1) ∧ ∀ i m σ H, W i m σ H →
  (J.stop i H ∧ D.nx σ H) ∨ (J.go i H ∧ ∃ N : St → Hp → Prop, (∀ σ' H', N σ' H' → ∃ m', m' < m ∧ W (i + 1) m' σ' H') ∧ ∀ x H', J.yld i H x H' → g x σ H' fun σ2 H2 => tb { D with nx := N, ct := N, bk := D.nx } σ2 H2)
/-- the records at fp as they stand -/
def pinsAt (fp : List Addr) (h : Heap) : List (Addr × Obj) := fp.filterMap fun b => (h.get? b).map fun o => (b, o)
theorem mem_pinsAt {fp : List Addr} {h : Heap} {b : Addr} {o : Obj} (hb : b ∈ fp) (e : h.get? b = some o) : (b, o) ∈ pinsAt fp h := List.mem_filterMap.mpr ⟨b, hb, by rw [e]; rfl⟩
theorem of_pinsAt {fp : List Addr} {h : Heap} {p : Addr × Obj} (hp : p ∈ pinsAt fp h) : p.1 ∈ fp ∧ h.get? p.1 = some p.2 := by
  obtain ⟨b, hb, e⟩ := List.mem_filterMap.mp hp
  cases q : h.get? b with
  | none => rw [q] at e; cases e
  | some o =>
    rw [q] at e
    have e' : (b, o) = p := Option.some.inj e
    subst e'
    exact ⟨hb, q⟩
theorem Inv.pinned {pins : List (Addr × Obj)} {σ : St} {H : Hp} {s : Shared} {fp : List Addr} (I : Inv X pins σ H s) (hf : ∀ b ∈ fp, FpOk X pins H b) (ho : ∀ b ∈ fp, ∃ o, s.heap.get? b = some o ∧ ∀ v, o.data ≠ .cell v) : Inv X (pins ++ pinsAt fp s.heap) σ H s :=
  I.pins_of fun p hp => (List.mem_append.mp hp).elim (fun z => I.pin p (List.mem_append_right _ z)) fun z => by
    obtain ⟨hb, e⟩ := of_pinsAt z
    obtain ⟨f0, f1, f2, _⟩ := hf p.1 hb
    obtain ⟨o, e', d⟩ := ho p.1 hb
    rw [e] at e'; cases e'
    exact ⟨e, f0, f1, f2, d⟩
theorem Inv.unpinned {pins pl : List (Addr × Obj)} {σ : St} {H : Hp} {s : Shared} (I : Inv X (pins ++ pl) σ H s) : Inv X pins σ H s := I.pins_of fun p hp => I.pin p (List.mem_append_right _ (List.mem_append_left _ hp))
theorem ps_for {iter : Expr} {body : List Stmt} {wi : TI} {g : TG} {tb : TS} {pos : Pos} (hp : PassesOwn (model X.prog X.w) X.A X.env X.xe) (hc : X.calm = true) (hi : PI X tg iter wi) (hg : PG X tg g) (hb : PSs X body tb)
    (hs : ∀ x, foldedSetIterable iter X.env x = pure x := by intro _; rfl) : PS X (.For tg iter body [] pos) (tFor wi g tb) := by
  intro pins s σ H D I h
  refine wpAny_For (thn (hi pins s σ H _ I h) fun v s1 h1 => thn h1 fun itv s2 h2 => ?_) hs
  obtain ⟨it, fp, tn, J, H2, e, I2, T, st2, f2, W, ⟨m0, w0⟩, turn⟩ := h2
  subst e
  -- what stays true of the iterator's objects through the loop
  have stat : ∀ {H' : Hp}, (∀ b ∈ fp, H' b = none) → ∀ b ∈ fp, FpOk X pins H' b := fun hn b hb => ⟨hn b hb, (f2 b hb).2⟩
  refine codeAny_forLoop_any (fun n s' => ∃ i σ' H', Inv X pins σ' H' s' ∧ tn i s'.heap ∧ (∀ b ∈ fp, H' b = none) ∧ W i n σ' H') ?_ m0 ⟨0, σ, H2, I2, st2, fun b hb => (f2 b hb).1, w0⟩
  rintro n s3 ⟨i, σ3, H3, I3, st3, fr3, w3⟩
  rcases turn i n σ3 H3 w3 with ⟨stop, qn⟩ | ⟨go, N, hN, step⟩
  · refine wpAny_passesOwn hp (thn (T.done X rfl rfl rfl hc i pins s3 σ3 H3 X.xe I3 (stat fr3) st3 stop) fun r s4 ⟨hr, I4⟩ => ?_)
    subst hr
    exact wpAny_execs_nil ⟨σ3, H3, I4, qn⟩
  · refine wpAny_passesOwn hp (thn (T.item X rfl rfl rfl hc i pins s3 σ3 H3 X.xe I3 (stat fr3) st3 go) fun r s4 ⟨u, hr, h4⟩ => ?_)
    subst hr
    refine wpAny_passesOwn hp (thn h4 fun _ s5 ⟨x, H5, I5, r5, y5, st5, fr5⟩ => ?_)
    have I5' := I5.pinned (stat fr5) (T.obj _ _ st5)
    refine wpAny_passesOwn hp (thn (hg _ s5 σ3 H5 x u _ I5' r5 (step x H5 y5)) fun _ s6 ⟨σ6, H6, I6, q6⟩ => ?_)
    refine wpAny_passesOwn hp (thn (hb _ s6 σ6 H6 _ I6 q6) fun f s7 q7 => ?_)
    have again : ∀ {σ7 : St} {H7 : Hp}, Inv X (pins ++ pinsAt fp s5.heap) σ7 H7 s7 → N σ7 H7 → ∃ m, m < n ∧ ∃ i σ' H', Inv X pins σ' H' s7 ∧ tn i s7.heap ∧ (∀ b ∈ fp, H' b = none) ∧ W i m σ' H' := fun {σ7 H7} I7 n7 => by
      obtain ⟨m', hm, w7⟩ := hN σ7 H7 n7
      refine ⟨m', hm, i + 1, σ7, H7, I7.unpinned, T.keep _ _ _ st5 fun b hb o e => (I7.pin (b, o) (List.mem_append_right _ (List.mem_append_right _ (mem_pinsAt hb e)))).1, fun b hb => ?_, w7⟩
      obtain ⟨o, e, d⟩ := T.obj _ _ st5 b hb
      exact (I7.pin (b, o) (List.mem_append_right _ (List.mem_append_right _ (mem_pinsAt hb e)))).2.1
    cases f with
    | next => obtain ⟨σ7, H7, I7, n7⟩ := q7; exact again I7 n7
    | cont => obtain ⟨σ7, H7, I7, n7⟩ := q7; exact again I7 n7
    | brk => obtain ⟨σ7, H7, I7, q7⟩ := q7; exact ⟨σ7, H7, I7.unpinned, q7⟩
    | ret v => obtain ⟨x7, σ7, H7, I7, r7, q7⟩ := q7; exact ⟨x7, σ7, H7, I7.unpinned, r7, q7⟩
end

/-! ### the forms one uses -/
/-- over a list that the body leaves as it is -/
theorem for_list {K : PySem.W.Frag} {a : Addr} {xs : List V} {g : TG} {tb : TS} {D : Ends} {σ : St} {H : Hp} (Pv : Nat → St → Hp → Prop) (h0 : Pv 0 σ H) (hl : ∀ i σ H, i ≤ xs.length → Pv i σ H → SqL K H a xs)
    (hs : ∀ i x σ H, xs[i]? = some x → Pv i σ H → g x σ H fun σ2 H2 => tb { D with nx := Pv (i + 1), ct := Pv (i + 1), bk := D.nx } σ2 H2) (hd : ∀ σ H, Pv xs.length σ H → D.nx σ H) :
    ∃ W : Nat → Nat → St → Hp → Prop, (∃ m, W 0 m σ H) ∧ ∀ i m σ H, W i m σ H →
      ((Itl K a).stop i H ∧ D.nx σ H) ∨ ((Itl K a).go i H ∧ ∃ N : St → Hp → Prop, (∀ σ' H', N σ' H' → ∃ m', m' < m ∧ W (i + 1) m' σ' H') ∧ ∀ x H', (Itl K a).yld i H x H' → g x σ H' fun σ2 H2 => tb { D with nx := N, ct := N, bk := D.nx } σ2 H2) := by
  refine ⟨fun i m σ H => m = xs.length - i ∧ i ≤ xs.length ∧ Pv i σ H, ⟨xs.length, by simp, Nat.zero_le _, h0⟩, ?_⟩
  rintro i m σ H ⟨rfl, hi, p⟩
  have q := hl i σ H hi p
  by_cases hlt : i < xs.length
  · refine .inr ⟨⟨xs, xs[i], q, by simp [hlt]⟩, Pv (i + 1), fun σ' H' p' => ⟨xs.length - (i + 1), by omega, rfl, hlt, p'⟩, fun x H' y => ?_⟩
    obtain ⟨e, y⟩ := y
    subst e
    exact hs i x σ _ (y xs q) p
  · have e : i = xs.length := by omega
    subst e
    exact .inl ⟨⟨xs, q, Nat.le_refl _⟩, hd σ H p⟩
theorem for_tup {K : PySem.W.Frag} {a : Addr} {xs : List V} {g : TG} {tb : TS} {D : Ends} {σ : St} {H : Hp} (Pv : Nat → St → Hp → Prop) (h0 : Pv 0 σ H) (hl : ∀ i σ H, i ≤ xs.length → Pv i σ H → SqT K H a xs)
    (hs : ∀ i x σ H, xs[i]? = some x → Pv i σ H → g x σ H fun σ2 H2 => tb { D with nx := Pv (i + 1), ct := Pv (i + 1), bk := D.nx } σ2 H2) (hd : ∀ σ H, Pv xs.length σ H → D.nx σ H) :
    ∃ W : Nat → Nat → St → Hp → Prop, (∃ m, W 0 m σ H) ∧ ∀ i m σ H, W i m σ H →
      ((Itt K a).stop i H ∧ D.nx σ H) ∨ ((Itt K a).go i H ∧ ∃ N : St → Hp → Prop, (∀ σ' H', N σ' H' → ∃ m', m' < m ∧ W (i + 1) m' σ' H') ∧ ∀ x H', (Itt K a).yld i H x H' → g x σ H' fun σ2 H2 => tb { D with nx := N, ct := N, bk := D.nx } σ2 H2) := by
  refine ⟨fun i m σ H => m = xs.length - i ∧ i ≤ xs.length ∧ Pv i σ H, ⟨xs.length, by simp, Nat.zero_le _, h0⟩, ?_⟩
  rintro i m σ H ⟨rfl, hi, p⟩
  have q := hl i σ H hi p
  by_cases hlt : i < xs.length
  · refine .inr ⟨⟨xs, xs[i], q, by simp [hlt]⟩, Pv (i + 1), fun σ' H' p' => ⟨xs.length - (i + 1), by omega, rfl, hlt, p'⟩, fun x H' y => ?_⟩
    obtain ⟨e, y⟩ := y
    subst e
    exact hs i x σ _ (y xs q) p
  · have e : i = xs.length := by omega
    subst e
    exact .inl ⟨⟨xs, q, Nat.le_refl _⟩, hd σ H p⟩
theorem for_range {lo : Int} {n : Nat} {g : TG} {tb : TS} {D : Ends} {σ : St} {H : Hp} (Pv : Nat → St → Hp → Prop) (h0 : Pv 0 σ H)
    (hs : ∀ i σ H, i < n → Pv i σ H → g (.int (lo + i)) σ H fun σ2 H2 => tb { D with nx := Pv (i + 1), ct := Pv (i + 1), bk := D.nx } σ2 H2) (hd : ∀ σ H, Pv n σ H → D.nx σ H) :
    ∃ W : Nat → Nat → St → Hp → Prop, (∃ m, W 0 m σ H) ∧ ∀ i m σ H, W i m σ H →
      ((Itr lo n).stop i H ∧ D.nx σ H) ∨ ((Itr lo n).go i H ∧ ∃ N : St → Hp → Prop, (∀ σ' H', N σ' H' → ∃ m', m' < m ∧ W (i + 1) m' σ' H') ∧ ∀ x H', (Itr lo n).yld i H x H' → g x σ H' fun σ2 H2 => tb { D with nx := N, ct := N, bk := D.nx } σ2 H2) := by
  refine ⟨fun i m σ H => m = n - i ∧ i ≤ n ∧ Pv i σ H, ⟨n, by simp, Nat.zero_le _, h0⟩, ?_⟩
  rintro i m σ H ⟨rfl, hi, p⟩
  by_cases hlt : i < n
  · refine .inr ⟨hlt, Pv (i + 1), fun σ' H' p' => ⟨n - (i + 1), by omega, rfl, hlt, p'⟩, fun x H' y => ?_⟩
    obtain ⟨e, y⟩ := y
    subst e y
    exact hs i σ _ hlt p
  · have e : i = n := by omega
    subst e
    exact .inl ⟨Nat.le_refl _, hd σ H p⟩
/-- while, by a word and a measure of the state -/
theorem while_by {c : TT} {tb : TS} {D : Ends} {σ : St} {H : Hp} (Pv : St → Hp → Prop) (μ : St → Hp → Nat) (h0 : Pv σ H)
    (hs : ∀ σ H, Pv σ H → c σ H fun b H1 => if b = true then tb { D with nx := fun σ' H' => Pv σ' H' ∧ μ σ' H' < μ σ H, ct := fun σ' H' => Pv σ' H' ∧ μ σ' H' < μ σ H, bk := D.nx } σ H1 else D.nx σ H1)
    (mono : ∀ σ H Q Q', (∀ b H1, Q b H1 → Q' b H1) → c σ H Q → c σ H Q') : tWhile c tb D σ H := by
  refine ⟨fun m σ H => m = μ σ H ∧ Pv σ H, ⟨_, rfl, h0⟩, ?_⟩
  rintro m σ H ⟨rfl, p⟩
  refine mono σ H _ _ (fun b H1 q => ?_) (hs σ H p)
  cases b with
  | true => exact ⟨_, fun σ' H' ⟨p', l⟩ => ⟨_, l, rfl, p'⟩, q⟩
  | false => exact q
end L2

namespace L2
open PySem PySem.Spec PyProof.Rows

abbrev R2 := V → V → Hp → VK → Prop
/-- a two-place operation on values: f is binaryOp op, inplaceOp op or compareOp op -/
def OpR (X : Cx) (f : Value → Value → Sem Value) (r : R2) : Prop :=
  ∀ (pins : List (Addr × Obj)) (s : Shared) (σ : St) (H : Hp) (x y : V) (v u : Value) (Q : VK), Inv X pins σ H s → RelV x v → RelV y u → r x y H Q →
    wpAny (model X.prog X.w) X.A (f v u) (EP X pins σ Q) X.xe s
/-- a one-place operation -/
def UnR (X : Cx) (f : Value → Sem Value) (r : V → Hp → VK → Prop) : Prop :=
  ∀ (pins : List (Addr × Obj)) (s : Shared) (σ : St) (H : Hp) (x : V) (v : Value) (Q : VK), Inv X pins σ H s → RelV x v → r x H Q →
    wpAny (model X.prog X.w) X.A (f v) (EP X pins σ Q) X.xe s
/-- a call of a value that is known (a builtin, a type) with values -/
def CallR (X : Cx) (f : Value) (r : List V → Hp → VK → Prop) : Prop :=
  ∀ (pins : List (Addr × Obj)) (s : Shared) (σ : St) (H : Hp) (xs : List V) (us : List Value) (Q : VK), Inv X pins σ H s → Vals xs us → r xs H Q →
    wpAny (model X.prog X.w) X.A (call f us) (EP X pins σ Q) X.xe s
/-- a value's truth -/
def TruR (X : Cx) (r : V → Hp → (Bool → Hp → Prop) → Prop) : Prop :=
  ∀ (pins : List (Addr × Obj)) (s : Shared) (σ : St) (H : Hp) (x : V) (v : Value) (Q : Bool → Hp → Prop), Inv X pins σ H s → RelV x v → r x H Q →
    wpAny (model X.prog X.w) X.A (truthy v) (TP X pins σ Q) X.xe s

def tOp (r : R2) (ta tb : TE) : TE := fun σ H Q => ta σ H fun x H1 => tb σ H1 fun y H2 => r x y H2 Q
def tUn (r : V → Hp → VK → Prop) (ta : TE) : TE := fun σ H Q => ta σ H fun x H1 => r x H1 Q
/-- ints in, under C, and a value out -/
def rI (C : Int → Int → Prop) (g : Int → Int → V) : R2 := fun x y H Q => ∃ i j, x = .int i ∧ y = .int j ∧ C i j ∧ Q (g i j) H
def rI0 (g : Int → Int → V) : R2 := fun x y H Q => ∃ i j, x = .int i ∧ y = .int j ∧ Q (g i j) H
def rU (g : Int → V) : V → Hp → VK → Prop := fun x H Q => ∃ i, x = .int i ∧ Q (g i) H

section
variable {X : Cx} {a b c : Expr} {ta tb tc : TE} {pos : Pos}

theorem binT (ha : PE X a ta) (hb : PE X b tb) {pins : List (Addr × Obj)} {s : Shared} {σ : St} {H : Hp} {R : V → V → Hp → Prop} (I : Inv X pins σ H s)
    (h : ta σ H fun x H1 => tb σ H1 fun y H2 => R x y H2) {Q : Value → Shared → Prop} {f : Value → Value → Sem Value}
    (hf : ∀ v u s2 x y H2, Inv X pins σ H2 s2 → RelV x v → RelV y u → R x y H2 → wpAny (model X.prog X.w) X.A (f v u) Q X.xe s2) :
    wpAny (model X.prog X.w) X.A (eval a X.env) (fun v s₁ => wpAny (model X.prog X.w) X.A (eval b X.env) (fun u s₂ => wpAny (model X.prog X.w) X.A (f v u) Q X.xe s₂) X.xe s₁) X.xe s := by
  refine thn (ha pins s σ H _ I h) fun v s1 ⟨x, H1, I1, r1, q1⟩ => ?_
  refine thn (hb pins s1 σ H1 _ I1 q1) fun u s2 ⟨y, H2, I2, r2, q2⟩ => ?_
  exact hf v u s2 x y H2 I2 r1 r2 q2

theorem pe_op {op : Operator} {r : R2} (ho : OpR X (binaryOp op) r) (ha : PE X a ta) (hb : PE X b tb) : PE X (.BinOp a op b pos) (tOp r ta tb) := by
  intro pins s σ H Q I h
  exact wpAny_BinOp (binT ha hb I h fun v u s2 x y H2 I2 rx ry q => ho pins s2 σ H2 x y v u Q I2 rx ry q)
theorem pe_un {op : UnaryOp} {r : V → Hp → VK → Prop} (ho : UnR X (unaryOp op) r) (ha : PE X a ta) : PE X (.UnaryOp op a pos) (tUn r ta) := by
  intro pins s σ H Q I h
  exact UnaryOp_ (thn (ha pins s σ H _ I h) fun v s1 ⟨x, H1, I1, r1, q1⟩ => ho pins s1 σ H1 x v Q I1 r1 q1)
/-- a op= e at a name: the name's slot i -/
theorem augR {op : Operator} {r : R2} (ho : OpR X (inplaceOp op) r) {pins : List (Addr × Obj)} {s : Shared} {σ : St} {H : Hp} {x y : V} {v u : Value} {Q : VK} (I : Inv X pins σ H s)
    (rx : RelV x v) (ry : RelV y u) (q : r x y H Q) : wpAny (model X.prog X.w) X.A (inplaceOp op v u) (EP X pins σ Q) X.xe s := ho pins s σ H x y v u Q I rx ry q

/-! ### ints -/
theorem opI {f : Value → Value → Sem Value} {C : Int → Int → Prop} {g : Int → Int → Int}
    (rule : ∀ (i j : Int) (t u : Tok) (s : Shared) (Q : Value → Shared → Prop) (E : Value → Shared → Prop), C i j → Q (.int (g i j) s.toks) { s with toks := s.toks + 1 } → wpAny (model X.prog X.w) X.A (f (.int i t) (.int j u)) Q E s) :
    OpR X f (rI C fun i j => .int (g i j)) := by
  intro pins s σ H x y v u Q I rx ry h
  obtain ⟨i, j, rfl, rfl, hc, q⟩ := h
  obtain ⟨t, rfl⟩ := rx
  obtain ⟨t', rfl⟩ := ry
  exact rule i j t t' s _ _ hc ⟨.int (g i j), H, I.tok _, ⟨_, rfl⟩, q⟩
theorem opI0 {f : Value → Value → Sem Value} {g : Int → Int → Int}
    (rule : ∀ (i j : Int) (t u : Tok) (s : Shared) (Q : Value → Shared → Prop) (E : Value → Shared → Prop), Q (.int (g i j) s.toks) { s with toks := s.toks + 1 } → wpAny (model X.prog X.w) X.A (f (.int i t) (.int j u)) Q E s) :
    OpR X f (rI0 fun i j => .int (g i j)) := by
  intro pins s σ H x y v u Q I rx ry h
  obtain ⟨i, j, rfl, rfl, q⟩ := h
  obtain ⟨t, rfl⟩ := rx
  obtain ⟨t', rfl⟩ := ry
  exact rule i j t t' s _ _ ⟨.int (g i j), H, I.tok _, ⟨_, rfl⟩, q⟩
theorem opB0 {f : Value → Value → Sem Value} {g : Int → Int → Bool}
    (rule : ∀ (i j : Int) (t u : Tok) (s : Shared) (Q : Value → Shared → Prop) (E : Value → Shared → Prop), Q (.bool (g i j)) s → wpAny (model X.prog X.w) X.A (f (.int i t) (.int j u)) Q E s) :
    OpR X f (rI0 fun i j => .bl (g i j)) := by
  intro pins s σ H x y v u Q I rx ry h
  obtain ⟨i, j, rfl, rfl, q⟩ := h
  obtain ⟨t, rfl⟩ := rx
  obtain ⟨t', rfl⟩ := ry
  exact rule i j t t' s _ _ ⟨.bl (g i j), H, I, rfl, q⟩

def CDiv (i j : Int) : Prop := 0 < j ∧ j < 1073741824
def CDivN (i j : Int) : Prop := j ≠ 0 ∧ j.natAbs < 1073741824
def CPow (i j : Int) : Prop := 0 ≤ j ∧ j ≤ 1000000 ∧ i.natAbs < 2 ^ 64
def CMul (i j : Int) : Prop := (-(2 ^ 64) < i ∧ i < 2 ^ 64) ∨ (-(2 ^ 64) < j ∧ j < 2 ^ 64)
theorem CMul.ok {i j : Int} (h : CMul i j) : IntMulOk i j := by
  rcases h with ⟨h1, h2⟩ | ⟨h1, h2⟩
  · exact .of_left (intBits_le_64 h1 h2)
  · exact .of_right (intBits_le_64 h1 h2)
theorem two_pow_nn (k : Nat) : (0 : Int) ≤ 2 ^ k := by
  rw [two_pow_cast]
  exact Int.natCast_nonneg _

theorem op_add : OpR X (binaryOp .Add) (rI0 fun i j => .int (i + j)) := opI0 fun _ _ _ _ _ _ _ q => add_int q
theorem op_sub : OpR X (binaryOp .Sub) (rI0 fun i j => .int (i - j)) := opI0 fun _ _ _ _ _ _ _ q => sub_int q
theorem op_mul : OpR X (binaryOp .Mult) (rI CMul fun i j => .int (i * j)) := opI fun _ _ _ _ _ _ _ hc q => mul_int q hc.ok
/-- // by a positive divisor -/
theorem op_fdiv : OpR X (binaryOp .FloorDiv) (rI CDiv fun i j => .int (i / j)) := opI fun i j _ _ _ _ _ hc q => by
  have h1 : (0 : Int) < j := hc.1
  have h2 : j < 1073741824 := hc.2
  exact floordiv_int (by omega) (by rw [Int.fdiv_eq_ediv_of_nonneg i (by omega)]; exact q) (.inl (PyProof.noPylong_small (by omega)))
theorem op_fdivN : OpR X (binaryOp .FloorDiv) (rI CDivN fun i j => .int (i.fdiv j)) := opI fun _ _ _ _ _ _ _ hc q => floordiv_int hc.1 q (.inl (PyProof.noPylong_small hc.2))
/-- % by a positive divisor of any size -/
theorem op_mod : OpR X (binaryOp .Mod) (rI (fun _ j => 0 < j) fun i j => .int (i % j)) := opI fun i j _ _ _ _ _ hc q => by
  have h1 : (0 : Int) < j := hc
  exact mod_int' (by omega) (by rw [Int.fmod_eq_emod_of_nonneg i (by omega)]; exact q)
theorem op_modN : OpR X (binaryOp .Mod) (rI (fun _ j => j ≠ 0) fun i j => .int (i.fmod j)) := opI fun _ _ _ _ _ _ _ hc q => mod_int' hc q
theorem op_pow : OpR X (binaryOp .Pow) (rI CPow fun i j => .int (i ^ j.toNat)) := opI fun _ _ _ _ _ _ _ hc q => pow_int_small hc.1 hc.2.1 hc.2.2 q
theorem op_shl : OpR X (binaryOp .LShift) (rI CPow fun i j => .int (i * 2 ^ j.toNat)) := opI fun _ _ _ _ _ _ _ hc q => lshift_int_small hc.1 hc.2.1 hc.2.2 q
theorem op_shr : OpR X (binaryOp .RShift) (rI (fun _ j => 0 ≤ j) fun i j => .int (i / 2 ^ j.toNat)) := opI fun i j _ _ _ _ _ hc q =>
  rshift_int hc (by rw [Int.fdiv_eq_ediv_of_nonneg i (two_pow_nn _)]; exact q)
theorem op_and : OpR X (binaryOp .BitAnd) (rI0 fun i j => .int (Builtin.bitAnd i j)) := opI0 fun _ _ _ _ _ _ _ q => and_int q
theorem op_or : OpR X (binaryOp .BitOr) (rI0 fun i j => .int (Builtin.bitOr i j)) := opI0 fun _ _ _ _ _ _ _ q => or_int q
theorem op_xor : OpR X (binaryOp .BitXor) (rI0 fun i j => .int (Builtin.bitXor i j)) := opI0 fun _ _ _ _ _ _ _ q => xor_int q

theorem iop_add : OpR X (inplaceOp .Add) (rI0 fun i j => .int (i + j)) := opI0 fun _ _ _ _ _ _ _ q => iadd_int q
theorem iop_sub : OpR X (inplaceOp .Sub) (rI0 fun i j => .int (i - j)) := opI0 fun _ _ _ _ _ _ _ q => isub_int q
theorem iop_mul : OpR X (inplaceOp .Mult) (rI CMul fun i j => .int (i * j)) := opI fun _ _ _ _ _ _ _ hc q => imul_int q hc.ok
theorem iop_fdiv : OpR X (inplaceOp .FloorDiv) (rI CDiv fun i j => .int (i / j)) := opI fun i j _ _ _ _ _ hc q => by
  have h1 : (0 : Int) < j := hc.1
  have h2 : j < 1073741824 := hc.2
  exact ifloordiv_int (by omega) (by rw [Int.fdiv_eq_ediv_of_nonneg i (by omega)]; exact q) (.inl (PyProof.noPylong_small (by omega)))
theorem iop_mod : OpR X (inplaceOp .Mod) (rI (fun _ j => 0 < j) fun i j => .int (i % j)) := opI fun i j _ _ _ _ _ hc q => by
  have h1 : (0 : Int) < j := hc
  exact imod_int (by omega) (by rw [Int.fmod_eq_emod_of_nonneg i (by omega)]; exact q)
theorem iop_shl : OpR X (inplaceOp .LShift) (rI CPow fun i j => .int (i * 2 ^ j.toNat)) := opI fun _ _ _ _ _ _ _ hc q => ilshift_int_small hc.1 hc.2.1 hc.2.2 q
theorem iop_shr : OpR X (inplaceOp .RShift) (rI (fun _ j => 0 ≤ j) fun i j => .int (i / 2 ^ j.toNat)) := opI fun i j _ _ _ _ _ hc q =>
  irshift_int hc (by rw [Int.fdiv_eq_ediv_of_nonneg i (two_pow_nn _)]; exact q)
theorem iop_and : OpR X (inplaceOp .BitAnd) (rI0 fun i j => .int (Builtin.bitAnd i j)) := opI0 fun _ _ _ _ _ _ _ q => iand_int q
theorem iop_or : OpR X (inplaceOp .BitOr) (rI0 fun i j => .int (Builtin.bitOr i j)) := opI0 fun _ _ _ _ _ _ _ q => ior_int q
theorem iop_xor : OpR X (inplaceOp .BitXor) (rI0 fun i j => .int (Builtin.bitXor i j)) := opI0 fun _ _ _ _ _ _ _ q => ixor_int q

theorem unI {f : Value → Sem Value} {g : Int → Int}
    (rule : ∀ (i : Int) (t : Tok) (s : Shared) (Q : Value → Shared → Prop) (E : Value → Shared → Prop), Q (.int (g i) s.toks) { s with toks := s.toks + 1 } → wpAny (model X.prog X.w) X.A (f (.int i t)) Q E s) :
    UnR X f (rU fun i => .int (g i)) := by
  intro pins s σ H x v Q I rx h
  obtain ⟨i, rfl, q⟩ := h
  obtain ⟨t, rfl⟩ := rx
  exact rule i t s _ _ ⟨.int (g i), H, I.tok _, ⟨_, rfl⟩, q⟩
theorem un_neg : UnR X (unaryOp .USub) (rU fun i => .int (-i)) := unI fun _ _ _ _ _ q => neg_int q
theorem un_inv : UnR X (unaryOp .Invert) (rU fun i => .int (Builtin.bitNot i)) := unI fun _ _ _ _ _ q => invert_int q

/-! ### bools among ints: n += (a < b) -/
theorem op_add_ib : OpR X (binaryOp .Add) (fun x y H Q => ∃ i k, x = .int i ∧ y = .bl k ∧ Q (.int (i + b2i k)) H) := by
  intro pins s σ H x y v u Q I rx ry h
  obtain ⟨i, k, rfl, rfl, q⟩ := h
  obtain ⟨t, rfl⟩ := rx
  cases ry
  exact add_int_bool ⟨.int (i + b2i k), H, I.tok _, ⟨_, rfl⟩, q⟩
end

/-! ### comparisons -/
/-- the scalars that == tells apart as data does -/
def scal : V → V → Bool
  | .non, .non => true | .non, .int _ => true | .int _, .non => true | .non, .bl _ => true | .bl _, .non => true | .non, .str _ => true | .str _, .non => true
  | .int _, .int _ => true | .bl _, .bl _ => true | .str _, .str _ => true | .byt _, .byt _ => true
  | .int _, .str _ => true | .str _, .int _ => true | .bl _, .str _ => true | .str _, .bl _ => true
  | _, _ => false
def rEq : R2 := fun x y H Q => scal x y = true ∧ Q (.bl (decide (x = y))) H
def rNe : R2 := fun x y H Q => scal x y = true ∧ Q (.bl (!decide (x = y))) H

theorem dec_int {i j : Int} : decide (V.int i = V.int j) = (i == j) := by
  rw [Bool.eq_iff_iff]
  simp
theorem dec_bl {i j : Bool} : decide (V.bl i = V.bl j) = (i == j) := by
  rw [Bool.eq_iff_iff]
  simp
theorem dec_str {i j : Str} : decide (V.str i = V.str j) = (i == j) := by
  rw [Bool.eq_iff_iff]
  simp
theorem dec_byt {i j : Array UInt8} : decide (V.byt i = V.byt j) = (i.toList == j.toList) := by
  rw [Bool.eq_iff_iff]
  cases i
  cases j
  simp

section
variable {X : Cx} {a b c : Expr} {ta tb tc : TE} {pos : Pos}
theorem fin_bl {pins : List (Addr × Obj)} {σ : St} {H : Hp} {s : Shared} {Q : VK} {k k' : Bool} (I : Inv X pins σ H s) (q : Q (.bl k) H) (e : k = k') : EP X pins σ Q (.bool k') s := by
  subst e
  exact ⟨.bl k, H, I, rfl, q⟩
theorem op_eq : OpR X (compareOp .Eq) rEq := by
  intro pins s σ H x y v u Q I rx ry h
  obtain ⟨hs, q⟩ := h
  cases x with
  | non =>
    cases rx
    cases y with
    | non => cases ry; exact PySem.EqNone.eq_none_none (fin_bl I q (by simp))
    | bl j => cases ry; exact PySem.EqNone.eq_none_bool (fin_bl I q (by simp))
    | int j => obtain ⟨t', rfl⟩ := ry; exact PySem.EqNone.eq_none_int (fin_bl I q (by simp))
    | str j => obtain ⟨t', rfl⟩ := ry; exact PySem.EqNone.eq_none_str (fin_bl I q (by simp))
    | _ => exact absurd (show false = true from hs) Bool.false_ne_true
  | bl i =>
    cases rx
    cases y with
    | non => cases ry; exact PySem.EqNone.eq_bool_none (fin_bl I q (by simp))
    | bl j => cases ry; exact eq_bool (fin_bl I q dec_bl)
    | str j => obtain ⟨t', rfl⟩ := ry; exact PySem.EqMixed.eq_bool_str (fin_bl I q (by simp))
    | _ => exact absurd (show false = true from hs) Bool.false_ne_true
  | int i =>
    obtain ⟨t, rfl⟩ := rx
    cases y with
    | non => cases ry; exact PySem.EqNone.eq_int_none (fin_bl I q (by simp))
    | int j => obtain ⟨t', rfl⟩ := ry; exact eq_int (fin_bl I q dec_int)
    | str j => obtain ⟨t', rfl⟩ := ry; exact PySem.EqMixed.eq_int_str (fin_bl I q (by simp))
    | _ => exact absurd (show false = true from hs) Bool.false_ne_true
  | str i =>
    obtain ⟨t, rfl⟩ := rx
    cases y with
    | non => cases ry; exact PySem.EqNone.eq_str_none (fin_bl I q (by simp))
    | bl j => cases ry; exact PySem.EqMixed.eq_str_bool (fin_bl I q (by simp))
    | int j => obtain ⟨t', rfl⟩ := ry; exact PySem.EqMixed.eq_str_int (fin_bl I q (by simp))
    | str j => obtain ⟨t', rfl⟩ := ry; exact eq_str (fin_bl I q dec_str)
    | _ => exact absurd (show false = true from hs) Bool.false_ne_true
  | byt i =>
    obtain ⟨t, rfl⟩ := rx
    cases y with
    | byt j => obtain ⟨t', rfl⟩ := ry; exact PySem.W.eq_bytes (fin_bl I q dec_byt)
    | _ => exact absurd (show false = true from hs) Bool.false_ne_true
  | _ => cases y <;> exact absurd (show false = true from hs) Bool.false_ne_true
theorem op_ne : OpR X (compareOp .NotEq) rNe := by
  intro pins s σ H x y v u Q I rx ry h
  obtain ⟨hs, q⟩ := h
  cases x with
  | non =>
    cases rx
    cases y with
    | non => cases ry; exact PySem.EqNone.ne_none_none (fin_bl I q (by simp))
    | bl j => cases ry; exact PySem.EqNone.ne_none_bool (fin_bl I q (by simp))
    | int j => obtain ⟨t', rfl⟩ := ry; exact PySem.EqNone.ne_none_int (fin_bl I q (by simp))
    | str j => obtain ⟨t', rfl⟩ := ry; exact PySem.EqNone.ne_none_str (fin_bl I q (by simp))
    | _ => exact absurd (show false = true from hs) Bool.false_ne_true
  | bl i =>
    cases rx
    cases y with
    | non => cases ry; exact PySem.EqNone.ne_bool_none (fin_bl I q (by simp))
    | bl j => cases ry; exact ne_bool (fin_bl I q (congrArg not dec_bl))
    | str j => obtain ⟨t', rfl⟩ := ry; exact PySem.EqMixed.ne_bool_str (fin_bl I q (by simp))
    | _ => exact absurd (show false = true from hs) Bool.false_ne_true
  | int i =>
    obtain ⟨t, rfl⟩ := rx
    cases y with
    | non => cases ry; exact PySem.EqNone.ne_int_none (fin_bl I q (by simp))
    | int j => obtain ⟨t', rfl⟩ := ry; exact ne_int (fin_bl I q (congrArg not dec_int))
    | str j => obtain ⟨t', rfl⟩ := ry; exact PySem.EqMixed.ne_int_str (fin_bl I q (by simp))
    | _ => exact absurd (show false = true from hs) Bool.false_ne_true
  | str i =>
    obtain ⟨t, rfl⟩ := rx
    cases y with
    | non => cases ry; exact PySem.EqNone.ne_str_none (fin_bl I q (by simp))
    | bl j => cases ry; exact PySem.EqMixed.ne_str_bool (fin_bl I q (by simp))
    | int j => obtain ⟨t', rfl⟩ := ry; exact PySem.EqMixed.ne_str_int (fin_bl I q (by simp))
    | str j => obtain ⟨t', rfl⟩ := ry; exact ne_str (fin_bl I q (congrArg not dec_str))
    | _ => exact absurd (show false = true from hs) Bool.false_ne_true
  | byt i =>
    obtain ⟨t, rfl⟩ := rx
    cases y with
    | byt j => obtain ⟨t', rfl⟩ := ry; exact PySem.W.ne_bytes (fin_bl I q (congrArg not dec_byt))
    | _ => exact absurd (show false = true from hs) Bool.false_ne_true
  | _ => cases y <;> exact absurd (show false = true from hs) Bool.false_ne_true

theorem op_lt : OpR X (compareOp .Lt) (rI0 fun i j => .bl (decide (i < j))) := opB0 fun _ _ _ _ _ _ _ q => lt_int q
theorem op_le : OpR X (compareOp .LtE) (rI0 fun i j => .bl (decide (i ≤ j))) := opB0 fun _ _ _ _ _ _ _ q => le_int q
theorem op_gt : OpR X (compareOp .Gt) (rI0 fun i j => .bl (decide (j < i))) := opB0 fun _ _ _ _ _ _ _ q => gt_int q
theorem op_ge : OpR X (compareOp .GtE) (rI0 fun i j => .bl (decide (j ≤ i))) := opB0 fun _ _ _ _ _ _ _ q => ge_int q
theorem op_lt_str : OpR X (compareOp .Lt) (fun x y H Q => ∃ i j, x = .str i ∧ y = .str j ∧ Q (.bl (decide (i.cps.toList < j.cps.toList))) H) := by
  intro pins s σ H x y v u Q I rx ry h
  obtain ⟨i, j, rfl, rfl, q⟩ := h
  obtain ⟨t, rfl⟩ := rx
  obtain ⟨t', rfl⟩ := ry
  exact lt_str (fin_bl I q rfl)
/-- the one string within the other -/
theorem op_in_str : OpR X (compareOp .In) (fun x y H Q => ∃ i j, x = .str i ∧ y = .str j ∧ Q (.bl (!(Builtin.Str.occurrences j i 0 j.length 1).isEmpty)) H) := by
  intro pins s σ H x y v u Q I rx ry h
  obtain ⟨i, j, rfl, rfl, q⟩ := h
  obtain ⟨t, rfl⟩ := rx
  obtain ⟨t', rfl⟩ := ry
  exact in_str (fin_bl I q rfl)

/-- is None, is not None: the right side a value none -/
theorem op_isN : OpR X (compareOp .Is) (fun x y H Q => y = .non ∧ Q (.bl (decide (x = .non))) H) := by
  intro pins s σ H x y v u Q I rx ry h
  obtain ⟨rfl, q⟩ := h
  cases ry
  refine is_none_gen (fin_bl I q ?_)
  cases x <;> first
    | (cases rx; rfl)
    | (obtain ⟨t, rfl⟩ := rx; rfl)
theorem op_notN : OpR X (compareOp .IsNot) (fun x y H Q => y = .non ∧ Q (.bl (!decide (x = .non))) H) := by
  intro pins s σ H x y v u Q I rx ry h
  obtain ⟨rfl, q⟩ := h
  cases ry
  refine isnot_none_gen (fin_bl I q ?_)
  cases x <;> first
    | (cases rx; rfl)
    | (obtain ⟨t, rfl⟩ := rx; rfl)

theorem op_notin_str : OpR X (compareOp .NotIn) (fun x y H Q => ∃ i j, x = .str i ∧ y = .str j ∧ Q (.bl (!(!(Builtin.Str.occurrences j i 0 j.length 1).isEmpty))) H) := by
  intro pins s σ H x y v u Q I rx ry h
  obtain ⟨i, j, rfl, rfl, q⟩ := h
  obtain ⟨t, rfl⟩ := rx
  obtain ⟨t', rfl⟩ := ry
  exact notIn_str (fin_bl I q rfl)
/-- is, is not of two objects that are tracked lists or instances -/
def isObj : HO → Bool
  | .lst _ => true
  | .ins _ _ _ => true
  | _ => false
theorem obj_there {pins : List (Addr × Obj)} {s : Shared} {σ : St} {H : Hp} {a : Addr} {o : HO} (I : Inv X pins σ H s) (h : H a = some o) (p : isObj o = true) : ∃ ob, s.heap.get? a = some ob ∧ ob.cls ≠ .type "tuple" := by
  cases o with
  | lst xs =>
    obtain ⟨_, its, n, _, e⟩ : xs.length ≤ sizeLine ∧ ∃ (its : List Value) (n : Nat), Vals xs its ∧ s.heap.get? a = some { cls := .type "list", data := .seq its.toArray n } := I.hok a _ h
    exact ⟨_, e, (by show Value.type "list" ≠ .type "tuple"; decide +kernel)⟩
  | ins C dx fs =>
    have x := I.hok a _ h
    obtain ⟨_, _, _, e, _⟩ := x
    exact ⟨_, e, (by show Value.ref C ≠ .type "tuple"; exact fun z => by cases z)⟩
  | _ => exact absurd (show false = true from p) Bool.false_ne_true
theorem op_is_ref : OpR X (compareOp .Is) (fun x y H Q => ∃ a b oa ob, x = .ref a ∧ y = .ref b ∧ H a = some oa ∧ isObj oa = true ∧ H b = some ob ∧ isObj ob = true ∧ Q (.bl (decide (a = b))) H) := by
  intro pins s σ H x y v u Q I rx ry h
  obtain ⟨a, b, oa, ob, rfl, rfl, ha, pa, hb, pb, q⟩ := h
  cases rx
  cases ry
  obtain ⟨o1, e1, n1⟩ := obj_there I ha pa
  obtain ⟨o2, e2, _⟩ := obj_there I hb pb
  by_cases z : a = b
  · subst z
    exact wpAny_is_ref_self (fin_bl I q (by simp))
  · exact wpAny_is_ref_other z e1 e2 n1 (fin_bl I q (by simp [z]))
theorem op_isnot_ref : OpR X (compareOp .IsNot) (fun x y H Q => ∃ a b oa ob, x = .ref a ∧ y = .ref b ∧ H a = some oa ∧ isObj oa = true ∧ H b = some ob ∧ isObj ob = true ∧ Q (.bl (!decide (a = b))) H) := by
  intro pins s σ H x y v u Q I rx ry h
  obtain ⟨a, b, oa, ob, rfl, rfl, ha, pa, hb, pb, q⟩ := h
  cases rx
  cases ry
  obtain ⟨o1, e1, n1⟩ := obj_there I ha pa
  obtain ⟨o2, e2, _⟩ := obj_there I hb pb
  by_cases z : a = b
  · subst z
    exact wpAny_isNot_ref_self (fin_bl I q (by simp))
  · exact wpAny_isNot_ref_other z e1 e2 n1 (fin_bl I q (by simp [z]))

/-- two rules for one operation: by cases -/
theorem OpR.or {f : Value → Value → Sem Value} {r r' : R2} (h : OpR X f r) (h' : OpR X f r') : OpR X f (fun x y H Q => r x y H Q ∨ r' x y H Q) := by
  intro pins s σ H x y v u Q I rx ry q
  rcases q with q | q
  · exact h pins s σ H x y v u Q I rx ry q
  · exact h' pins s σ H x y v u Q I rx ry q

theorem nomark (b : Expr) {op : CmpOp} (h : op ≠ .In := by decide) (h2 : op ≠ .NotIn := by decide) : behindInMarks op b = false := by
  have e1 : (op == CmpOp.In) = false := by cases op <;> first | rfl | exact absurd rfl h
  have e2 : (op == CmpOp.NotIn) = false := by cases op <;> first | rfl | exact absurd rfl h2
  cases b <;> simp [behindInMarks, e1, e2]
/-- a comparison as a value; hm: nomark b, or (for in, not in) by with_unfolding_all rfl -/
theorem pe_cmpR {op : CmpOp} {r : R2} (ho : OpR X (compareOp op) r) (ha : PE X a ta) (hb : PE X b tb) (hm : behindInMarks op b = false) : PE X (.Compare a [op] [b] pos) (tOp r ta tb) := by
  intro pins s σ H Q I h
  exact wpAny_Compare1 (binT ha hb I h fun v u s2 x y H2 I2 rx ry q => ho pins s2 σ H2 x y v u Q I2 rx ry q) hm
/-- a reading of a value as a test -/
def tTest (t : TE) : TT := fun σ H Q => t σ H fun x H' => ∃ k, x = .bl k ∧ Q k H'
theorem pt_cmpR {op : CmpOp} {r : R2} (ho : OpR X (compareOp op) r) (ha : PE X a ta) (hb : PE X b tb) (hm : behindInMarks op b = false) : PT X (.Compare a [op] [b] pos) (tTest (tOp r ta tb)) := by
  intro pins s σ H Q I h
  refine wpAny_isTrue_Compare1 (thn (ha pins s σ H _ I h) fun v s1 ⟨x, H1, I1, r1, q1⟩ => thn (hb pins s1 σ H1 _ I1 q1) fun u s2 ⟨y, H2, I2, r2, q2⟩ =>
    thn (ho pins s2 σ H2 x y v u _ I2 r1 r2 q2) fun c s3 ⟨z, H3, I3, r3, k, e, q3⟩ => ?_) hm
  subst e
  cases r3
  exact wpAny_truthy_bool ⟨H3, I3, q3⟩
/-- a op1 b op2 c -/
def tChain (r r' : R2) (ta tb tc : TE) : TE := fun σ H Q => ta σ H fun x H1 => tb σ H1 fun y H2 => r x y H2 fun z H3 => ∃ k, z = .bl k ∧
  (if k = true then tc σ H3 fun w' H4 => r' y w' H4 Q else Q (.bl false) H3)
theorem pe_chain {op op' : CmpOp} {r r' : R2} (ho : OpR X (compareOp op) r) (ho' : OpR X (compareOp op') r') (ha : PE X a ta) (hb : PE X b tb) (hc : PE X c tc)
    (hm : lastMarks [op, op'] [b, c] = false := by with_unfolding_all rfl) : PE X (.Compare a [op, op'] [b, c] pos) (tChain r r' ta tb tc) := by
  intro pins s σ H Q I h
  refine Compare_chain (thn (ha pins s σ H _ I h) fun v s1 ⟨x, H1, I1, r1, q1⟩ => chain_link (thn (hb pins s1 σ H1 _ I1 q1) fun u s2 ⟨y, H2, I2, r2, q2⟩ =>
    thn (ho pins s2 σ H2 x y v u _ I2 r1 r2 q2) fun d s3 ⟨z, H3, I3, r3, k, e, q3⟩ => ?_)) hm
  subst e
  cases r3
  refine wpAny_truthy_bool ?_
  cases k with
  | false => exact ite_ff ⟨.bl false, H3, I3, rfl, q3⟩
  | true => exact ite_tt (chain_last (thn (hc pins s3 σ H3 _ I3 q3) fun w' s4 ⟨z', H4, I4, r4, q4⟩ => ho' pins s4 σ H4 y z' u w' Q I4 r2 r4 q4))
theorem pt_chain {op op' : CmpOp} {r r' : R2} (ho : OpR X (compareOp op) r) (ho' : OpR X (compareOp op') r') (ha : PE X a ta) (hb : PE X b tb) (hc : PE X c tc)
    (hm : lastMarks [op, op'] [b, c] = false := by with_unfolding_all rfl) : PT X (.Compare a [op, op'] [b, c] pos) (tTest (tChain r r' ta tb tc)) := by
  intro pins s σ H Q I h
  refine isTrue_chain (thn (ha pins s σ H _ I h) fun v s1 ⟨x, H1, I1, r1, q1⟩ => test_link (thn (hb pins s1 σ H1 _ I1 q1) fun u s2 ⟨y, H2, I2, r2, q2⟩ =>
    thn (ho pins s2 σ H2 x y v u _ I2 r1 r2 q2) fun d s3 ⟨z, H3, I3, r3, k, e, q3⟩ => ?_)) hm
  subst e
  cases r3
  refine wpAny_truthy_bool ?_
  cases k with
  | false =>
    obtain ⟨k', e', q'⟩ := q3
    cases e'
    exact ite_ff ⟨H3, I3, q'⟩
  | true =>
    refine ite_tt (test_last (thn (hc pins s3 σ H3 _ I3 q3) fun w' s4 ⟨z', H4, I4, r4, q4⟩ => thn (ho' pins s4 σ H4 y z' u w' _ I4 r2 r4 q4) fun d' s5 ⟨z2, H5, I5, r5, k2, e2, q5⟩ => ?_))
    subst e2
    cases r5
    exact wpAny_truthy_bool ⟨H5, I5, q5⟩

/-! ### truth -/
/-- a value's truth by the abstract heap -/
def TruV (K : PySem.W.Frag) (x : V) (H : Hp) (k : Bool) : Prop :=
  match x with
  | .non => k = false
  | .bl b => k = b
  | .int i => k = (i != 0)
  | .str y => y.length ≤ sizeLine ∧ k = ((y.length : Int) != 0)
  | .byt y => y.size ≤ sizeLine ∧ k = ((y.size : Int) != 0)
  | .ref p => (∃ xs, SqL K H p xs ∧ k = !xs.isEmpty) ∨ (∃ xs, SqT K H p xs ∧ k = !xs.isEmpty) ∨ ∃ kvs, H p = some (.dK kvs) ∧ k = !kvs.isEmpty
  | _ => False
theorem isEmpty_kv {κ : Type} {kvs : List (κ × V)} {vs : List (κ × Value)} (r : KV kvs vs) : (!vs.isEmpty) = !kvs.isEmpty := by
  cases r <;> rfl
theorem isEmpty_of {xs : List V} {its : List Value} (r : Vals xs its) : (!its.toArray.isEmpty) = !xs.isEmpty := by
  cases r <;> simp
theorem line63 : (sizeLine : Nat) < 2 ^ 63 := by rw [sizeLine_eq]; decide
theorem tru_ok : TruR X (fun x H Q => ∃ k, TruV X.K x H k ∧ Q k H) := by
  intro pins s σ H x v Q I rx h
  obtain ⟨k, e, q⟩ := h
  have hl := line63
  have hs : sizeLine = 16777216 := sizeLine_eq
  cases x with
  | non =>
    cases rx
    have e' : k = false := e
    subst e'
    exact truthy_none ⟨H, I, q⟩
  | bl b =>
    cases rx
    have e' : k = b := e
    subst e'
    exact wpAny_truthy_bool ⟨H, I, q⟩
  | int i =>
    obtain ⟨t, rfl⟩ := rx
    have e' : k = (i != 0) := e
    subst e'
    exact PySem.P.truthy_int ⟨H, I, q⟩
  | str y =>
    obtain ⟨t, rfl⟩ := rx
    obtain ⟨hy, e'⟩ : y.length ≤ sizeLine ∧ k = ((y.length : Int) != 0) := e
    subst e'
    exact PySem.P.truthy_str (by omega) ⟨H, I.tok _, q⟩
  | byt y =>
    obtain ⟨t, rfl⟩ := rx
    obtain ⟨hy, e'⟩ : y.size ≤ sizeLine ∧ k = ((y.size : Int) != 0) := e
    subst e'
    exact PySem.W.truthy_bytes (by omega) ⟨H, I.tok _, q⟩
  | ref p =>
    cases rx
    have e' : (∃ xs, SqL X.K H p xs ∧ k = !xs.isEmpty) ∨ (∃ xs, SqT X.K H p xs ∧ k = !xs.isEmpty) ∨ ∃ kvs, H p = some (.dK kvs) ∧ k = !kvs.isEmpty := e
    rcases e' with ⟨xs, hx, e'⟩ | ⟨xs, hx, e'⟩ | ⟨kvs, hx, e'⟩
    · subst e'
      obtain ⟨its, r, pl, hz⟩ := I.list hx
      have hlen := r.length
      exact wpAny_truthy_list pl.isList (by simp only [List.size_toArray]; omega) ⟨H, I.tok _, by rw [isEmpty_of r]; exact q⟩
    · subst e'
      obtain ⟨its, r, pl, hz⟩ := I.tuple hx
      have hlen := r.length
      exact truthy_tuple pl (by simp only [List.size_toArray]; omega) ⟨H, I.tok _, by rw [isEmpty_of r]; exact q⟩
    · subst e'
      obtain ⟨hz, hS, vs, r, m⟩ : kvs.length ≤ sizeLine ∧ (p == sysModules) = false ∧ ∃ vs, KV kvs vs ∧ s.heap.DictOf (mixKind X.prog X.w) p vs := I.hok p _ hx
      have hlen : kvs.length = vs.length := Paired.length r
      exact wpAny_truthy_dict hS m (by omega) ⟨H, I.tok _, by rw [isEmpty_kv r]; exact q⟩
  | _ => exact (show False from e).elim
/-- any expression whose test is its value's truth (a name, a call, a subscript, a field ..: he by fun _ => rfl) -/
theorem pt_truth (ha : PE X a ta) (he : ∀ whole, isTrue a X.env whole = (do let v ← whole; standAt a.pos; holding [v] (truthy v))) :
    PT X a (fun σ H Q => ta σ H fun x H' => ∃ k, TruV X.K x H' k ∧ Q k H') := by
  intro pins s σ H Q I h
  exact isTrue_plain (thn (ha pins s σ H _ I h) fun v s1 ⟨x, H1, I1, r1, q1⟩ => tru_ok pins s1 σ H1 x v Q I1 r1 q1) (he _)

/-! ### strs and bytes -/
theorem pe_byt {x : List UInt8} {k : Nat} : PE X (.Constant (.bytes x) k pos) (fun _ H Q => Q (.byt x.toArray) H) := fun _ _ _ H _ I h => PySem.W.Constant_bytes ⟨.byt x.toArray, H, I.tok _, ⟨_, rfl⟩, h⟩
theorem op_add_str : OpR X (binaryOp .Add) (fun x y H Q => ∃ i j, x = .str i ∧ y = .str j ∧ i.length + j.length ≤ sizeLine ∧ Q (.str (i ++ j)) H) := by
  intro pins s σ H x y v u Q I rx ry h
  obtain ⟨i, j, rfl, rfl, hz, q⟩ := h
  obtain ⟨t, rfl⟩ := rx
  obtain ⟨t', rfl⟩ := ry
  exact add_str (fun t' tk => ⟨.str (i ++ j), H, I.tok _, ⟨_, rfl⟩, q⟩) hz
theorem iop_add_str : OpR X (inplaceOp .Add) (fun x y H Q => ∃ i j, x = .str i ∧ y = .str j ∧ i.length + j.length ≤ sizeLine ∧ Q (.str (i ++ j)) H) := by
  intro pins s σ H x y v u Q I rx ry h
  obtain ⟨i, j, rfl, rfl, hz, q⟩ := h
  obtain ⟨t, rfl⟩ := rx
  obtain ⟨t', rfl⟩ := ry
  exact iadd_str (fun t' tk => ⟨.str (i ++ j), H, I.tok _, ⟨_, rfl⟩, q⟩) hz
theorem op_add_byt : OpR X (binaryOp .Add) (fun x y H Q => ∃ i j, x = .byt i ∧ y = .byt j ∧ i.size + j.size ≤ 16777216 ∧ Q (.byt (i ++ j)) H) := by
  intro pins s σ H x y v u Q I rx ry h
  obtain ⟨i, j, rfl, rfl, hz, q⟩ := h
  obtain ⟨t, rfl⟩ := rx
  obtain ⟨t', rfl⟩ := ry
  exact PySem.W.KBy.add_bytes hz (fun t' tk => ⟨.byt (i ++ j), H, I.tok _, ⟨_, rfl⟩, q⟩)

def PlainIxT (b : Expr) : Prop := ∀ o i, subscripted b false o i = operate [o, i] (getItem o i)
/-- s[i], 0 ≤ i < len -/
theorem pe_item_str (ha : PE X a ta) (hb : PE X b tb) (hs : PlainIxT b) :
    PE X (.Subscript a b pos) (tOp (fun x y H Q => ∃ z i c, x = .str z ∧ y = .int i ∧ 0 ≤ i ∧ i < 2 ^ 63 ∧ i < z.length ∧ z.cps[i.toNat]? = some c ∧ Q (.str ⟨#[c]⟩) H) ta tb) := by
  intro pins s σ H Q I h
  refine Subscript_ (binT ha hb I h fun v u s2 x y H2 I2 rx ry q => ?_)
  obtain ⟨z, i, c, rfl, rfl, h0, h63, h1, hc, q⟩ := q
  obtain ⟨t, rfl⟩ := rx
  obtain ⟨t', rfl⟩ := ry
  have e : seqIndex? i z.length = some i.toNat := PySem.StrLaws.seqIndex_nonneg h0 h1
  exact tail_any (typeIs_str s2 z t) slot_str_getitem.lookup (getItem_str (c := c) (by
    have e1 : decide (i < -(2 ^ 63 : Int)) = false := decide_eq_false (by omega)
    have e2 : decide (i ≥ 2 ^ 63) = false := decide_eq_false (by omega)
    rw [e1, e2] <;> rfl) (by rw [e]; exact hc) ⟨.str ⟨#[c]⟩, H2, I2.tok _, ⟨_, rfl⟩, q⟩) (hs _ _)
/-- b[i], 0 ≤ i < len -/
theorem pe_item_byt (ha : PE X a ta) (hb : PE X b tb) (hs : PlainIxT b) :
    PE X (.Subscript a b pos) (tOp (fun x y H Q => ∃ (z : List UInt8) (i : Int), x = .byt z.toArray ∧ y = .int i ∧ z.length ≤ sizeLine ∧ 0 ≤ i ∧ i < z.length ∧ Q (.int ((z.getD i.toNat 0).toNat : Nat)) H) ta tb) := by
  intro pins s σ H Q I h
  refine Subscript_ (binT ha hb I h fun v u s2 x y H2 I2 rx ry q => ?_)
  obtain ⟨z, i, rfl, rfl, hz, h0, h1, q⟩ := q
  obtain ⟨t, rfl⟩ := rx
  obtain ⟨t', rfl⟩ := ry
  have hl : sizeLine = 16777216 := sizeLine_eq
  exact tail_any (PySem.W.typeIs_bytes s2 z.toArray t) PySem.W.FB.slot_bytes_getitem.lookup (PySem.W.getItem_bytes (by omega) h0 h1 ⟨.int ((z.getD i.toNat 0).toNat : Nat), H2, I2.tok _, ⟨_, rfl⟩, q⟩) (hs _ _)

/-! ### scalar builtins, by CallR -/
theorem vals1 {x : V} {us : List Value} (r : Vals [x] us) : ∃ u, us = [u] ∧ RelV x u := by
  cases r with
  | cons r1 r2 => cases r2; exact ⟨_, rfl, r1⟩
theorem vals2 {x y : V} {us : List Value} (r : Vals [x, y] us) : ∃ u w', us = [u, w'] ∧ RelV x u ∧ RelV y w' := by
  cases r with
  | cons r1 r2 =>
    cases r2 with
    | cons r3 r4 => cases r4; exact ⟨_, _, rfl, r1, r3⟩
theorem call_abs : CallR X (.builtin "abs") (fun xs H Q => ∃ i, xs = [.int i] ∧ Q (.int (if i < 0 then -i else i)) H) := by
  intro pins s σ H xs us Q I r h
  obtain ⟨i, rfl, q⟩ := h
  obtain ⟨u, rfl, t, rfl⟩ := vals1 r
  exact call_abs_int fun u tk => ⟨.int (if i < 0 then -i else i), H, I.tok _, ⟨_, rfl⟩, q⟩
theorem call_max2 (hc : X.calm = true) : CallR X (.builtin "max") (fun xs H Q => ∃ i j, xs = [.int i, .int j] ∧ Q (.int (if j > i then j else i)) H) := by
  intro pins s σ H xs us Q I r h
  obtain ⟨i, j, rfl, q⟩ := h
  obtain ⟨u, w', rfl, ⟨t, rfl⟩, ⟨t', rfl⟩⟩ := vals2 r
  refine max_two_ints (I.ok.hd hc) fun h' tk k => ⟨_, H, I.kept k, ?_, q⟩
  by_cases hj : j > i
  · rw [if_pos hj, if_pos hj]; exact ⟨_, rfl⟩
  · rw [if_neg hj, if_neg hj]; exact ⟨_, rfl⟩
theorem call_min2 (hc : X.calm = true) : CallR X (.builtin "min") (fun xs H Q => ∃ i j, xs = [.int i, .int j] ∧ Q (.int (if j < i then j else i)) H) := by
  intro pins s σ H xs us Q I r h
  obtain ⟨i, j, rfl, q⟩ := h
  obtain ⟨u, w', rfl, ⟨t, rfl⟩, ⟨t', rfl⟩⟩ := vals2 r
  refine min_two_ints (I.ok.hd hc) fun h' tk k => ⟨_, H, I.kept k, ?_, q⟩
  by_cases hj : j < i
  · rw [if_pos hj, if_pos hj]; exact ⟨_, rfl⟩
  · rw [if_neg hj, if_neg hj]; exact ⟨_, rfl⟩
theorem call_int1 : CallR X (.type "int") (fun xs H Q => (∃ i, xs = [.int i] ∧ Q (.int i) H) ∨ ∃ k, xs = [.bl k] ∧ Q (.int (if k then 1 else 0)) H) := by
  intro pins s σ H xs us Q I r h
  rcases h with ⟨i, rfl, q⟩ | ⟨k, rfl, q⟩
  · obtain ⟨u, rfl, t, rfl⟩ := vals1 r
    exact call_int_int ⟨.int i, H, I, ⟨_, rfl⟩, q⟩
  · obtain ⟨u, rfl, r1⟩ := vals1 r
    cases r1
    exact call_int_bool ⟨.int (if k then 1 else 0), H, I.tok _, ⟨_, rfl⟩, q⟩
theorem call_bool1 : CallR X (.type "bool") (fun xs H Q => (∃ i, xs = [.int i] ∧ Q (.bl (i != 0)) H) ∨ ∃ k, xs = [.bl k] ∧ Q (.bl k) H) := by
  intro pins s σ H xs us Q I r h
  rcases h with ⟨i, rfl, q⟩ | ⟨k, rfl, q⟩
  · obtain ⟨u, rfl, t, rfl⟩ := vals1 r
    exact call_bool_int ⟨.bl (i != 0), H, I, rfl, q⟩
  · obtain ⟨u, rfl, r1⟩ := vals1 r
    cases r1
    exact call_bool_bool ⟨.bl k, H, I, rfl, q⟩
theorem call_str_int : CallR X (.type "str") (fun xs H Q => ∃ i, xs = [.int i] ∧ i.natAbs.log2 < 1920 ∧ Q (.str (toString i)) H) := by
  intro pins s σ H xs us Q I r h
  obtain ⟨i, rfl, hz, q⟩ := h
  obtain ⟨u, rfl, t, rfl⟩ := vals1 r
  exact PySem.P.str_of_int hz ⟨.str _, H, I.tok _, ⟨_, rfl⟩, q⟩
theorem call_ord : CallR X (.builtin "ord") (fun xs H Q => ∃ x, xs = [.str x] ∧ x.length = 1 ∧ Q (.int (x.cps.getD 0 0 : Nat)) H) := by
  intro pins s σ H xs us Q I r h
  obtain ⟨x, rfl, hz, q⟩ := h
  obtain ⟨u, rfl, t, rfl⟩ := vals1 r
  exact ord_of_one hz ⟨.int _, H, I.tok _, ⟨_, rfl⟩, q⟩
theorem call_chr : CallR X (.builtin "chr") (fun xs H Q => ∃ i, xs = [.int i] ∧ 0 ≤ i ∧ i ≤ 1114111 ∧ Q (.str ⟨#[i.toNat]⟩) H) := by
  intro pins s σ H xs us Q I r h
  obtain ⟨i, rfl, h0, h1, q⟩ := h
  obtain ⟨u, rfl, t, rfl⟩ := vals1 r
  exact chr_of_range h0 h1 ⟨.str _, H, I.tok _, ⟨_, rfl⟩, q⟩
/-- len of a str, a bytes, a list, a tuple -/
def LenV (K : PySem.W.Frag) (x : V) (H : Hp) (n : Nat) : Prop :=
  match x with
  | .str y => y.length ≤ sizeLine ∧ n = y.length
  | .byt y => y.size ≤ sizeLine ∧ n = y.size
  | .ref p => (∃ xs, SqL K H p xs ∧ n = xs.length) ∨ ∃ xs, SqT K H p xs ∧ n = xs.length
  | _ => False
theorem call_len : CallR X (.builtin "len") (fun xs H Q => ∃ x n, xs = [x] ∧ LenV X.K x H n ∧ Q (.int n) H) := by
  intro pins s σ H xs us Q I r h
  obtain ⟨x, n, rfl, e, q⟩ := h
  obtain ⟨u, rfl, rx⟩ := vals1 r
  have hl := line63
  have hs : sizeLine = 16777216 := sizeLine_eq
  cases x with
  | str y =>
    obtain ⟨t, rfl⟩ := rx
    obtain ⟨hy, e'⟩ : y.length ≤ sizeLine ∧ n = y.length := e
    subst e'
    exact len_str (by omega) ⟨.int _, H, I.tok _, ⟨_, rfl⟩, q⟩
  | byt y =>
    obtain ⟨t, rfl⟩ := rx
    obtain ⟨hy, e'⟩ : y.size ≤ sizeLine ∧ n = y.size := e
    subst e'
    exact PySem.W.len_bytes (by omega) ⟨.int _, H, I.tok _, ⟨_, rfl⟩, q⟩
  | ref p =>
    cases rx
    have e' : (∃ xs, SqL X.K H p xs ∧ n = xs.length) ∨ ∃ xs, SqT X.K H p xs ∧ n = xs.length := e
    rcases e' with ⟨xs, hx, e'⟩ | ⟨xs, hx, e'⟩
    · subst e'
      obtain ⟨its, r', pl, hz⟩ := I.list hx
      have hlen := r'.length
      exact Calls.call_len_list pl.isList (by simp only [List.size_toArray]; omega) ⟨.int xs.length, H, I.tok _, ⟨_, by simp only [List.size_toArray]; rw [hlen]⟩, q⟩
    · subst e'
      obtain ⟨its, r', pl, hz⟩ := I.tuple hx
      have hlen := r'.length
      exact len_tuple pl (by simp only [List.size_toArray]; omega) ⟨.int xs.length, H, I.tok _, ⟨_, by simp only [List.size_toArray]; rw [hlen]⟩, q⟩
  | _ => exact (show False from e).elim
/-- divmod: a new tuple -/
theorem call_divmod : CallR X (.builtin "divmod") (fun xs H Q => ∃ i j, xs = [.int i, .int j] ∧ CDiv i j ∧ ∀ p, H p = none → Q (.ref p) (upd H p (.tup [.int (i / j), .int (i % j)]))) := by
  intro pins s σ H xs us Q I r h
  obtain ⟨i, j, rfl, ⟨h1, h2⟩, q⟩ := h
  obtain ⟨u, w', rfl, ⟨t, rfl⟩, ⟨t', rfl⟩⟩ := vals2 r
  refine divmod_int (by omega) ?_ (.inl (PyProof.noPylong_small (by omega)))
  rw [Int.fdiv_eq_ediv_of_nonneg i (by omega), Int.fmod_eq_emod_of_nonneg i (by omega)]
  have hn : H s.heap.objs.size = none := I.hok.fresh (Nat.le_refl _)
  refine ⟨.ref s.heap.objs.size, _, ?_, rfl, q _ hn⟩
  refine I.laid (fun b o e => Heap.get?_push_of_some _ e) (Nat.le_refl _) ⟨by simp only [List.length_cons, List.length_nil]; rw [sizeLine_eq]; decide, [.int (i / j) s.toks, .int (i % j) (s.toks + 1)], .cons ⟨_, rfl⟩ (.cons ⟨_, rfl⟩ .nil), ?_⟩
  exact ⟨_, Heap.get?_push_size s.heap rfl, rfl, 0, rfl⟩
end
end L2

namespace L2
open PySem PySem.Spec PyProof.Rows

/-! ### an instance, its attributes a map -/
structure ObjM (h : Heap) (x dx C : Addr) (mA : Str → Option Value) : Prop where
  obj : h.get? x = some (PySem.W.instObj C dx)
  ns : h.Ns1 dx mA
  ne : dx ≠ x

theorem lookIn_ns {h : Heap} {dx : Addr} {mA : Str → Option Value} (n : h.Ns1 dx mA) : ∃ od, h.get? dx = some od ∧ ∀ name, PySem.W.lookIn name od = some (mA name) := by
  obtain ⟨o, es, ep, ho, hd, hk, _, hm⟩ := n
  refine ⟨o, ho, fun name => ?_⟩
  have e := hm name
  unfold nsFind findBy at e
  rw [← Array.find?_toList] at e
  unfold PySem.W.lookIn
  rw [hd]
  dsimp only
  split
  · rename_i y q
    rw [q] at e
    exact congrArg some e
  · rename_i q
    rw [q] at e
    have a : es.toList.any (·.refKey) = false := by
      rw [List.any_eq_false]
      intro y hy
      obtain ⟨z, t, hkey⟩ := hk y (Array.mem_toList_iff.mp hy)
      simp [DictEntry.refKey, hkey]
    have a' : ¬ es.toList.any (·.refKey) = true := by rw [a]; exact Bool.false_ne_true
    rw [if_neg a']
    exact congrArg some e

theorem ObjM.look {h : Heap} {x dx C : Addr} {mA : Str → Option Value} (I : ObjM h x dx C mA) : ∃ od, PySem.W.InstAt h x (PySem.W.instObj C dx) C (some od) ∧ ∀ name, PySem.W.lookIn name od = some (mA name) :=
  let ⟨od, ho, hl⟩ := lookIn_ns I.ns
  ⟨od, ⟨I.obj, rfl, rfl, ho⟩, hl⟩

section
variable {prog : Program} {w : World} {A : Around} {E : Value → Shared → Prop} {s : Shared} {K : PySem.W.Frag} {x dx C f : Addr} {mA : Str → Option Value} {name : Str} {v : Value}

theorem get_map {expr : Bool} {Q : Value → Shared → Prop} (X : K.In s.heap) (I : ObjM s.heap x dx C mA) (hg : PySem.W.plainGet K C name = true) (hh : PySem.W.hasDictIn K C = true)
    (ha : PySem.W.findIn K (.ref C) name = some none) (hv : mA name = some v) (hv' : PySem.W.handedIn v = true) (h : Q v { s with toks := s.toks + 1 }) :
    wpAny (model prog w) A (getAttr (.ref x) name expr) Q E s := by
  obtain ⟨od, J, hl⟩ := I.look
  exact PySem.W.get_value X J (PySem.W.plainGet_of hg).1 (PySem.W.findObj_own hh ha rfl (by rw [hl, hv])) hv' h

theorem get_const {expr : Bool} {a : Value} {Q : Value → Shared → Prop} (X : K.In s.heap) (I : ObjM s.heap x dx C mA) (hg : PySem.W.plainGet K C name = true) (hh : PySem.W.hasDictIn K C = true)
    (ha : PySem.W.findIn K (.ref C) name = some (some a)) (hn : PySem.W.specialIn K a "__get__" = some none) (hc : PySem.W.copiedNames.contains name = false) (hv : mA name = none) (hv' : PySem.W.handedIn a = true)
    (h : Q a { s with toks := s.toks + 1 }) : wpAny (model prog w) A (getAttr (.ref x) name expr) Q E s := by
  obtain ⟨od, J, hl⟩ := I.look
  exact PySem.W.get_value X J (PySem.W.plainGet_of hg).1 (PySem.W.findObj_cls hh ha hn hv' hc (by rw [hl, hv])) hv' h

theorem get_meth {pl : Sem Bool} {Q : Value × List Value → Shared → Prop} (X : K.In s.heap) (I : ObjM s.heap x dx C mA) (hg : PySem.W.plainGet K C name = true)
    (hf : PySem.W.findIn K (.ref C) name = some (some (.ref f))) (ht : PySem.W.isFn K (.ref f) = true) (hv : mA name = none) (h : Q (.ref f, [.ref x]) s) :
    wpAny (model prog w) A (getMethod (.ref x) name pl) Q E s := by
  obtain ⟨od, J, hl⟩ := I.look
  exact PySem.W.method_fn X J (PySem.W.plainGet_of hg).1 (PySem.W.plainGet_of hg).2 hf (beq_iff_eq.mp ht) (by show (PySem.W.lookIn name od).map (·.isSome) = some false; rw [hl, hv]; rfl) h

theorem set_map {ns : List Str} {Q : Unit → Shared → Prop} (X : K.In s.heap) (I : ObjM s.heap x dx C mA)
    (hs : PySem.W.findIn K (.ref C) "__setattr__" = some (some (.builtin "object.__setattr__"))) (hp : PySem.W.plainOver K C = true) (ht : PySem.W.takerIn K C name = some none) (hh : PySem.W.hasDictIn K C = true)
    (hw : PySem.Within mA ns) (hsz : ns.length ≤ sizeLine)
    (h : ∀ h', ObjM h' x dx C (fun y => if y = name then some v else mA y) → Heap.SameBut dx s.heap h' → Q () { s with heap := h', toks := s.toks + 2 }) :
    wpAny (model prog w) A (setAttr (.ref x) name v) Q E s := by
  obtain ⟨od, J, hl⟩ := I.look
  refine PySem.W.set_plain X J hs (PySem.W.osa_open (s := { s with toks := s.toks + 1 }) (r := none) X J hp ht fun b => ?_)
  obtain ⟨cd, hc, hd'⟩ := PySem.W.any_some hh
  have hx : s.heap.get? x = some ⟨.ref C, some dx, .plain, #[]⟩ := I.obj
  refine wpAny_bind (wpAny_pure (wpAny_bind (wpAny_bind (wpAny_loadPart hx (wpAny_bind (PySem.W.Looks.here (s := { s with toks := s.toks + 1 }) (PySem.W.looks_clsIn X hc) ?_))))))
  rw [hd']
  refine wpAny_pure (a := some dx) (wpAny_bind (wpAny_pure (wpAny_bind ?_)))
  refine wpAny_nsSet1 (s := { s with toks := s.toks + 1 }) I.ns fun h' hn2 hs2 => ?_
  obtain ⟨oD, esD, epD, hoD, hdD, hcD⟩ := hn2.count (PySem.Within.cons name v hw)
  refine wpAny_bind (wpAny_lookBehind hoD (by rw [hdD]; exact pastItsLine_dict (Nat.le_trans hcD (by rw [List.length_cons]; omega))) ?_)
  exact wpAny_pure (h _ ⟨(hs2.2 _ (Ne.symm I.ne)).trans I.obj, hn2, I.ne⟩ hs2)

/-- C(..): the dict at the heap's end, the instance behind it; then its __init__ -/
theorem make_map {R : Result → Shared → Prop} {vs : List Value} {kw : List (Str × Value)} (X : K.In s.heap) (hm : PySem.W.makesIn K C = true)
    (hi : PySem.W.findIn K (.ref C) "__init__" = some (some (.ref f))) (hf : PySem.W.typeIn K (.ref f) = some (.type "function"))
    (h : codeAny (model prog w) (A.under (.builtin "type.__call__" ⟨.ref C :: vs, kw⟩)) (.call (.ref f) ⟨.ref (s.heap.objs.size + 1) :: vs, kw⟩) (PySem.W.InitBack (s.heap.objs.size + 1) R)
      { s with heap := (s.heap.push PySem.W.emptyDict).push (PySem.W.instObj C s.heap.objs.size) }) :
    codeAny (model prog w) A (.call (.ref C) ⟨vs, kw⟩) R s := by
  obtain ⟨hh, g, d, t, os⟩ := s
  exact PySem.W.make_core (PySem.W.makes_of X hm) (PySem.W.looks_findIn X hi) (fun self => PySem.W.bind_fn X self hf) (.inl rfl) h
/-- C() where there is no __init__ but object's -/
theorem make_map0 {R : Result → Shared → Prop} (X : K.In s.heap) (hm : PySem.W.makesIn K C = true)
    (hi : PySem.W.findIn K (.ref C) "__init__" = some (some (.builtin "object.__init__")))
    (hb : ∀ self, PySem.W.Looks (model prog w) s.heap (bindSpecial (.builtin "object.__init__") self) (.builtin "object.__init__", [self]))
    (h : codeAny (model prog w) (A.under (.builtin "type.__call__" ⟨[.ref C], []⟩)) (.call (.builtin "object.__init__") ⟨[.ref (s.heap.objs.size + 1)], []⟩) (PySem.W.InitBack (s.heap.objs.size + 1) R)
      { s with heap := (s.heap.push PySem.W.emptyDict).push (PySem.W.instObj C s.heap.objs.size) }) :
    codeAny (model prog w) A (.call (.ref C) ⟨[], []⟩) R s := by
  obtain ⟨hh, g, d, t, os⟩ := s
  exact PySem.W.make_core (PySem.W.makes_of X hm) (PySem.W.looks_findIn X hi) hb (.inr ⟨rfl, rfl⟩) h
end

/-! ### the attributes as a list of pairs -/
def putF (f : Str) (v : V) : List (Str × V) → List (Str × V)
  | [] => [(f, v)]
  | (g, x) :: r => if g = f then (g, v) :: r else (g, x) :: putF f v r
theorem lookup_putF (f g : Str) (v : V) : ∀ fs : List (Str × V), (putF f v fs).lookup g = if g = f then some v else fs.lookup g
  | [] => by
    show List.lookup g [(f, v)] = _
    by_cases h : g = f
    · have hb : (g == f) = true := beq_iff_eq.mpr h
      simp only [List.lookup, hb, if_pos h]
    · have hb : (g == f) = false := beq_eq_false_iff_ne.mpr h
      simp only [List.lookup, hb, if_neg h]
  | (k, x) :: r => by
    have ih := lookup_putF f g v r
    rw [show putF f v ((k, x) :: r) = (if k = f then (k, v) :: r else (k, x) :: putF f v r) from rfl]
    by_cases hk : k = f
    · rw [if_pos hk]
      by_cases h : g = k
      · have hb : (g == k) = true := beq_iff_eq.mpr h
        simp only [List.lookup, hb, if_pos (h.trans hk)]
      · have hb : (g == k) = false := beq_eq_false_iff_ne.mpr h
        simp only [List.lookup, hb, if_neg (fun e : g = f => h (e.trans hk.symm))]
    · rw [if_neg hk]
      by_cases h : g = k
      · have hb : (g == k) = true := beq_iff_eq.mpr h
        simp only [List.lookup, hb, if_neg (fun e : g = f => hk (h.symm.trans e))]
      · have hb : (g == k) = false := beq_eq_false_iff_ne.mpr h
        simp only [List.lookup, hb]
        exact ih
theorem keys_putF (f : Str) (v : V) : ∀ fs : List (Str × V), f ∈ (putF f v fs).map (·.1) ∧ ∀ g, g ∈ fs.map (·.1) → g ∈ (putF f v fs).map (·.1)
  | [] => ⟨by simp [putF], fun g h => by simp at h⟩
  | (k, x) :: r => by
    obtain ⟨i1, i2⟩ := keys_putF f v r
    rw [show putF f v ((k, x) :: r) = (if k = f then (k, v) :: r else (k, x) :: putF f v r) from rfl]
    by_cases hk : k = f
    · rw [if_pos hk]
      subst hk
      exact ⟨by simp, fun g h => by simpa using h⟩
    · rw [if_neg hk]
      refine ⟨?_, fun g h => ?_⟩
      · rw [List.map_cons]
        exact List.mem_cons_of_mem _ i1
      · rw [List.map_cons] at h ⊢
        rcases List.mem_cons.mp h with e | e
        · exact List.mem_cons.mpr (.inl e)
        · exact List.mem_cons_of_mem _ (i2 g e)
theorem length_putF (f : Str) (v : V) : ∀ fs : List (Str × V), (putF f v fs).length ≤ fs.length + 1
  | [] => by simp [putF]
  | (k, x) :: r => by
    have ih := length_putF f v r
    rw [show putF f v ((k, x) :: r) = (if k = f then (k, v) :: r else (k, x) :: putF f v r) from rfl]
    by_cases hk : k = f
    · rw [if_pos hk, List.length_cons, List.length_cons]; omega
    · rw [if_neg hk, List.length_cons, List.length_cons]; omega

theorem RelO.some_of {v : V} {o : Option Value} (r : RelO (some v) o) : ∃ u, o = some u ∧ RelV v u := by
  cases o with
  | none => exact (show False from r).elim
  | some u => exact ⟨u, rfl, r⟩
theorem RelO.none_of {o : Option Value} (r : RelO none o) : o = none := by
  cases o with
  | none => rfl
  | some u => exact (show False from r).elim
theorem handed_of {v : V} {u : Value} (r : RelV v u) : PySem.W.handedIn u = true := by
  cases v with
  | non => cases (show u = Value.none from r); rfl
  | bl b => cases (show u = Value.bool b from r); rfl
  | int i => obtain ⟨t, e⟩ := (show ∃ t, u = Value.int i t from r); cases e; rfl
  | str x => obtain ⟨t, e⟩ := (show ∃ t, u = Value.str x t from r); cases e; rfl
  | byt b => obtain ⟨t, e⟩ := (show ∃ t, u = Value.bytes b t from r); cases e; rfl
  | flt b => obtain ⟨t, e⟩ := (show ∃ t, u = Value.float b t from r); cases e; rfl
  | ref a => cases (show u = Value.ref a from r); rfl
  | ty n => cases (show u = Value.type n from r); rfl

section
variable {P : Program} {w : World} {H H' : Hp} {h h' : Heap} {a C dx : Addr} {fs fs' : List (Str × V)}
theorem ins_get (hok : HOk P w H h) (e : H a = some (.ins C dx fs)) : ∃ mA, ObjM h a dx C mA ∧ (∀ f, RelO (fs.lookup f) (mA f)) ∧ PySem.Within mA (fs.map (·.1)) ∧ fs.length ≤ 1000 ∧ H dx = some (.own a) := by
  obtain ⟨d, z, ne, ob, mA, n, r, q⟩ := (show ObjOk P w H h a (.ins C dx fs) from hok a _ e)
  exact ⟨mA, ⟨ob, n, ne⟩, r, q, z, d⟩
end

/-! ### what of the text a class must have -/
structure Cls (K : PySem.W.Frag) (C : Addr) : Prop where
  pg : PySem.W.plainGet K C Str.empty = true
  hd : PySem.W.hasDictIn K C = true
  po : PySem.W.plainOver K C = true
  sa : PySem.W.findIn K (.ref C) "__setattr__" = some (some (.builtin "object.__setattr__"))
theorem Cls.get {K : PySem.W.Frag} {C : Addr} (c : Cls K C) (f : Str) : PySem.W.plainGet K C f = true := c.pg
/-- no class of it has the name -/
def NoAttr (K : PySem.W.Frag) (C : Addr) (f : Str) : Prop := PySem.W.findIn K (.ref C) f = some none
theorem NoAttr.taker {K : PySem.W.Frag} {C : Addr} {f : Str} (n : NoAttr K C f) : PySem.W.takerIn K C f = some none := by
  unfold PySem.W.takerIn
  rw [show PySem.W.findIn K (.ref C) f = some none from n]
  rfl
/-- a constant of the class -/
structure Con (K : PySem.W.Frag) (C : Addr) (f : Str) (v : V) (u : Value) : Prop where
  at_ : PySem.W.findIn K (.ref C) f = some (some u)
  rel : RelV v u
  get : PySem.W.specialIn K u "__get__" = some none
  cp : PySem.W.copiedNames.contains f = false
/-- a method: a plain def of the class or of one above it -/
structure Meth (K : PySem.W.Frag) (C : Addr) (m : Str) (f : Addr) : Prop where
  at_ : PySem.W.findIn K (.ref C) m = some (some (.ref f))
  fn : PySem.W.isFn K (.ref f) = true
  kp : PySem.W.keepIn K (.ref f) = true

section
variable {X : Cx} {pins : List (Addr × Obj)} {σ : St} {H : Hp} {s : Shared} {a C dx : Addr} {fs : List (Str × V)} {f : Str} {v : V} {A : Around} {E : Value → Shared → Prop}

theorem getattr_ok {b : Bool} {Q : Value → Shared → Prop} (I : Inv X pins σ H s) (e : H a = some (.ins C dx fs)) (c : Cls X.K C) (n : NoAttr X.K C f) (l : fs.lookup f = some v)
    (h : ∀ u s', Inv X pins σ H s' → RelV v u → Q u s') : wpAny (model X.prog X.w) A (getAttr (.ref a) f b) Q E s := by
  obtain ⟨mA, O, r, _, _, _⟩ := ins_get I.hok e
  obtain ⟨u, hu, ru⟩ := RelO.some_of (v := v) (o := mA f) (by rw [← l]; exact r f)
  exact get_map I.kIn O (c.get f) c.hd n hu (handed_of ru) (h u _ (I.tok _) ru)

theorem getcon_ok {b : Bool} {u : Value} {Q : Value → Shared → Prop} (I : Inv X pins σ H s) (e : H a = some (.ins C dx fs)) (c : Cls X.K C) (k : Con X.K C f v u) (l : fs.lookup f = none)
    (h : ∀ s', Inv X pins σ H s' → Q u s') : wpAny (model X.prog X.w) A (getAttr (.ref a) f b) Q E s := by
  obtain ⟨mA, O, r, _, _, _⟩ := ins_get I.hok e
  have hn : mA f = none := RelO.none_of (by rw [← l]; exact r f)
  exact get_const I.kIn O (c.get f) c.hd k.at_ k.get k.cp hn (handed_of k.rel) (h _ (I.tok _))

theorem getmeth_ok {m : Str} {g : Addr} {pl : Sem Bool} {Q : Value × List Value → Shared → Prop} (I : Inv X pins σ H s) (e : H a = some (.ins C dx fs)) (c : Cls X.K C) (k : Meth X.K C m g) (l : fs.lookup m = none)
    (h : Q (.ref g, [.ref a]) s) : wpAny (model X.prog X.w) A (getMethod (.ref a) m pl) Q E s := by
  obtain ⟨mA, O, r, _, _, _⟩ := ins_get I.hok e
  have hn : mA m = none := RelO.none_of (by rw [← l]; exact r m)
  exact get_meth I.kIn O (c.get m) k.at_ k.fn hn h

theorem setattr_ok {y : V} {u : Value} {Q : Unit → Shared → Prop} (I : Inv X pins σ H s) (e : H a = some (.ins C dx fs)) (c : Cls X.K C) (n : NoAttr X.K C f) (hl : fs.length < 1000) (ry : RelV y u)
    (h : ∀ s', Inv X pins σ (upd H a (.ins C dx (putF f y fs))) s' → Q () s') : wpAny (model X.prog X.w) A (setAttr (.ref a) f u) Q E s := by
  obtain ⟨mA, O, r, wi, _, ho⟩ := ins_get I.hok e
  have hz : (fs.map (·.1)).length ≤ sizeLine := by rw [List.length_map, sizeLine_eq]; omega
  refine set_map I.kIn O c.sa c.po n.taker c.hd wi hz fun h' O' sb => h _ ?_
  have hd : ∃ o, h'.get? dx = some o := let ⟨o, _, _, e', _⟩ := O'.ns; ⟨o, e'⟩
  refine I.write (x := a) (e := dx) (by rw [e]; exact True.intro) (.inr ho) (fun b q hb z => (sb.2 b hb).trans z) hd ?_
  refine ⟨by rw [upd_ne O.ne]; exact ho, ?_, O.ne, O'.obj, _, O'.ns, fun g => ?_, fun g hg => ?_⟩
  · have := length_putF f y fs; omega
  · show RelO ((putF f y fs).lookup g) (if g = f then some u else mA g)
    rw [lookup_putF]
    by_cases q : g = f
    · rw [if_pos q, if_pos q]; exact ry
    · rw [if_neg q, if_neg q]; exact r g
  · by_cases q : g = f
    · rw [q]; exact (keys_putF f y fs).1
    · refine (keys_putF f y fs).2 g (wi g fun z => hg ?_)
      show (if g = f then some u else mA g) = none
      rw [if_neg q]; exact z

/-- a new instance, tracked, without attributes -/
theorem Inv.made (I : Inv X pins σ H s) : Inv X pins σ (upd (upd H s.heap.objs.size (.own (s.heap.objs.size + 1))) (s.heap.objs.size + 1) (.ins C s.heap.objs.size []))
    { s with heap := (s.heap.push PySem.W.emptyDict).push (PySem.W.instObj C s.heap.objs.size) } := by
  have e1 : (s.heap.push PySem.W.emptyDict).get? s.heap.objs.size = some PySem.W.emptyDict := Heap.get?_push_size s.heap rfl
  have e2 : ((s.heap.push PySem.W.emptyDict).push (PySem.W.instObj C s.heap.objs.size)).get? (s.heap.objs.size + 1) = some (PySem.W.instObj C s.heap.objs.size) := by
    have := Heap.get?_push_size (s.heap.push PySem.W.emptyDict) (o := PySem.W.instObj C s.heap.objs.size) rfl
    rwa [Heap.size_push] at this
  have e3 : (s.heap.push PySem.W.emptyDict).Ns s.heap.objs.size (fun _ => none) := ⟨PySem.W.emptyDict, #[], _, e1, rfl, (fun e he => absurd he (by simp)), fun _ => rfl⟩
  have I1 := I.laid (a := s.heap.objs.size) (o := .own (s.heap.objs.size + 1)) (h' := s.heap.push PySem.W.emptyDict) (t' := s.toks) (fun b u q => Heap.get?_push_of_some _ q) (Nat.le_refl _) ⟨_, e1⟩
  refine I1.laid (a := s.heap.objs.size + 1) (o := .ins C s.heap.objs.size []) (t' := s.toks) (fun b u q => Heap.get?_push_of_some _ q) (Nat.le_of_eq (Heap.size_push _ _)) ?_
  have ne : s.heap.objs.size ≠ s.heap.objs.size + 1 := Nat.ne_of_lt (Nat.lt_succ_self _)
  refine ⟨by rw [upd_ne ne, upd_same], Nat.zero_le _, ne, e2, fun _ => none, (Heap.Ns1.of_empty e3).at fun o q => Heap.get?_push_of_some _ q, fun _ => True.intro, fun y hy => absurd rfl hy⟩

/-- e.f where nothing but the object is asked: through attributeBase (super) and the last hold -/
theorem attr_of {prog : Program} {w : World} {env : Env} {e : Expr} {f : Str} {pos : Pos} {s : Shared} {Q : Value → Shared → Prop} (hb : attributeBase e f env (eval e env) = eval e env)
    (h : wpAny (model prog w) A (eval e env) (fun o s₁ => wpAny (model prog w) A (getAttr o f true) Q E s₁) E s) : wpAny (model prog w) A (eval (.Attribute e f pos) env) Q E s :=
  Attribute_any_ h (by rw [arm_eval_Attribute, hb])
end

/-! ### readings and rules -/
/-- e.f, an attribute of the instance -/
def tFld (K : PySem.W.Frag) (ta : TE) (f : Str) : TE := fun σ H Q => ta σ H fun x H1 => ∃ a C dx fs v, x = .ref a ∧ H1 a = some (.ins C dx fs) ∧ Cls K C ∧ NoAttr K C f ∧ fs.lookup f = some v ∧ Q v H1
/-- e.f, a constant of the class -/
def tCon (K : PySem.W.Frag) (ta : TE) (f : Str) : TE := fun σ H Q => ta σ H fun x H1 => ∃ a C dx fs v u, x = .ref a ∧ H1 a = some (.ins C dx fs) ∧ Cls K C ∧ Con K C f v u ∧ fs.lookup f = none ∧ Q v H1
/-- e.f = value -/
def sFld (K : PySem.W.Frag) (ta tv : TE) (f : Str) : TS := fun D σ H => tv σ H fun y H1 => ta σ H1 fun x H2 => ∃ a C dx fs, x = .ref a ∧ H2 a = some (.ins C dx fs) ∧ Cls K C ∧ NoAttr K C f ∧ fs.length < 1000 ∧
  D.nx σ (upd H2 a (.ins C dx (putF f y fs)))
/-- an augmented operator on two values -/
def InOp (X : Cx) (op : Operator) (rd : V → V → Hp → VK → Prop) : Prop :=
  ∀ (pins : List (Addr × Obj)) (s : Shared) (σ : St) (H : Hp) (x y : V) (u v : Value) (Q : VK), Inv X pins σ H s → RelV x u → RelV y v → rd x y H Q → wpAny (model X.prog X.w) X.A (inplaceOp op u v) (EP X pins σ Q) X.xe s
/-- e.f op= value -/
def sFldAug (K : PySem.W.Frag) (ta tv : TE) (rd : V → V → Hp → VK → Prop) (f : Str) : TS := fun D σ H => ta σ H fun x H1 => ∃ a C dx fs v, x = .ref a ∧ H1 a = some (.ins C dx fs) ∧ Cls K C ∧ NoAttr K C f ∧ fs.lookup f = some v ∧
  tv σ H1 fun y H2 => rd v y H2 fun z H3 => ∃ dx' fs', H3 a = some (.ins C dx' fs') ∧ fs'.length < 1000 ∧ D.nx σ (upd H3 a (.ins C dx' (putF f z fs')))

section
variable {X : Cx} {o e value : Expr} {f : Str} {pos pos' tpos : Pos} {ta tv : TE}
theorem pe_fld (he : PE X e ta) (hb : attributeBase e f X.env (eval e X.env) = eval e X.env) : PE X (.Attribute e f pos) (tFld X.K ta f) := by
  intro pins s σ H Q I h
  refine attr_of hb (thn (he pins s σ H _ I h) fun u s1 ⟨x, H1, I1, rx, a, C, dx, fs, v, ex, ea, c, n, l, q⟩ => ?_)
  subst ex
  obtain rfl : u = Value.ref a := rx
  exact getattr_ok I1 ea c n l fun u' s2 I2 ru => ⟨v, H1, I2, ru, q⟩
theorem pe_con (he : PE X e ta) (hb : attributeBase e f X.env (eval e X.env) = eval e X.env) : PE X (.Attribute e f pos) (tCon X.K ta f) := by
  intro pins s σ H Q I h
  refine attr_of hb (thn (he pins s σ H _ I h) fun u s1 ⟨x, H1, I1, rx, a, C, dx, fs, v, u0, ex, ea, c, k, l, q⟩ => ?_)
  subst ex
  obtain rfl : u = Value.ref a := rx
  exact getcon_ok I1 ea c k l fun s2 I2 => ⟨v, H1, I2, k.rel, q⟩
theorem ps_fld (ha : PE X o ta) (hv : PE X value tv) (hs : swapsWith value (some (.Attribute o f pos')) pos.line X.env = pure false) : PS X (.Assign [.Attribute o f pos'] value pos) (sFld X.K ta tv f) := by
  intro pins s σ H D I h
  refine plainObj_wpAny_Assign_Attribute (thn (hv pins s σ H _ I h) fun u s1 ⟨y, H1, I1, ry, q⟩ => thn (ha pins s1 σ H1 _ I1 q) fun ov s2 ⟨x, H2, I2, rx, a, C, dx, fs, ex, ea, c, n, l, q2⟩ => ?_) hs
  subst ex
  obtain rfl : ov = Value.ref a := rx
  exact setattr_ok I2 ea c n l ry fun s3 I3 => ⟨σ, _, I3, q2⟩
theorem ps_fldaug {op : Operator} {rd : V → V → Hp → VK → Prop} (ha : PE X o ta) (hv : PE X value tv) (hop : InOp X op rd) : PS X (.AugAssign (.Attribute o f tpos) op value pos) (sFldAug X.K ta tv rd f) := by
  intro pins s σ H D I h
  refine wpAny_AugAssign_AttributeAny (thn (ha pins s σ H _ I h) fun ov s1 ⟨x, H1, I1, rx, a, C, dx, fs, v, ex, ea, c, n, l, q⟩ => ?_)
  subst ex
  obtain rfl : ov = Value.ref a := rx
  refine getattr_ok I1 ea c n l fun u s2 I2 ru => thn (hv pins s2 σ H1 _ I2 q) fun w3 s3 ⟨y, H2, I3, ry, q3⟩ => thn (hop pins s3 σ H2 v y u w3 _ I3 ru ry q3) fun w4 s4 ⟨z, H3, I4, rz, dx', fs', ea', l', q4⟩ => ?_
  exact setattr_ok I4 ea' c n l' rz fun s5 I5 => ⟨σ, _, I5, q4⟩
def rAdd : V → V → Hp → VK → Prop := fun x y H Q => ∃ i j, x = .int i ∧ y = .int j ∧ Q (.int (i + j)) H
def rSub : V → V → Hp → VK → Prop := fun x y H Q => ∃ i j, x = .int i ∧ y = .int j ∧ Q (.int (i - j)) H
theorem in_add : InOp X .Add rAdd := by
  rintro pins s σ H x y u v Q I rx ry ⟨i, j, rfl, rfl, q⟩
  obtain ⟨t, rfl⟩ := (show ∃ t, u = Value.int i t from rx)
  obtain ⟨t', rfl⟩ := (show ∃ t', v = Value.int j t' from ry)
  exact PyProof.Rows.iadd_int ⟨.int (i + j), H, I.tok _, ⟨_, rfl⟩, q⟩
theorem in_sub : InOp X .Sub rSub := by
  rintro pins s σ H x y u v Q I rx ry ⟨i, j, rfl, rfl, q⟩
  obtain ⟨t, rfl⟩ := (show ∃ t, u = Value.int i t from rx)
  obtain ⟨t', rfl⟩ := (show ∃ t', v = Value.int j t' from ry)
  exact PyProof.Rows.isub_int ⟨.int (i - j), H, I.tok _, ⟨_, rfl⟩, q⟩

/-- what is between an instance and its method: the tree of a method call -/
theorem methcall_of {pl : Sem Bool} {m : Str} {apos : Pos} {args : List Expr} {pins : List (Addr × Obj)} {s : Shared} {σ : St} {H : Hp} {Q : Value → Shared → Prop} {te : TE} (he : PE X e te) (I : Inv X pins σ H s)
    (h : te σ H fun x H1 => ∃ a C dx fs g, x = .ref a ∧ H1 a = some (.ins C dx fs) ∧ Cls X.K C ∧ Meth X.K C m g ∧ fs.lookup m = none ∧
      ∀ s1, Inv X pins σ H1 s1 → wpAny (model X.prog X.w) X.A (callWith pos (.ref g) [.ref a] (backTo pos (starEach args X.env)) (backToKw pos (keywordEach [] X.env))) Q X.xe s1)
    (ht : eval (.Call (.Attribute e m apos) args [] pos) X.env = (do
      let ov ← eval e X.env
      standAt apos.atName
      let (f, first) ← holding [ov] (getMethod ov m pl)
      callWith pos f first (backTo pos (starEach args X.env)) (backToKw pos (keywordEach [] X.env)))) :
    wpAny (model X.prog X.w) X.A (eval (.Call (.Attribute e m apos) args [] pos) X.env) Q X.xe s := by
  refine PySem.W.methodCall_KW (pl := pl) (thn (he pins s σ H _ I h) fun u s1 ⟨x, H1, I1, rx, a, C, dx, fs, g, ex, ea, c, k, l, q⟩ => ?_) ht
  subst ex
  obtain rfl : u = Value.ref a := rx
  exact getmeth_ok I1 ea c k l (q s1 I1)
end

/-! ### isinstance -/
section
variable {X : Cx} {pins : List (Addr × Obj)} {σ : St} {H : Hp} {s : Shared} {A : Around} {E : Value → Shared → Prop} {Q : Value → Shared → Prop} {c : Value} {b : Bool}
/-- the type of a value, as the fragment's deciders take it; for an instance its class -/
inductive TyOf (K : PySem.W.Frag) (H : Hp) : V → Value → Prop where
  | non : TyOf K H .non (.type "NoneType")
  | bl (x : Bool) : TyOf K H (.bl x) (.type "bool")
  | int (i : Int) : TyOf K H (.int i) (.type "int")
  | str (x : Str) : TyOf K H (.str x) (.type "str")
  | flt (x : UInt64) : TyOf K H (.flt x) (.type "float")
  | lst {a : Addr} {xs : List V} (e : H a = some (.lst xs)) : TyOf K H (.ref a) (.type "list")
  | frz {a : Addr} {o : Obj} {xs : List V} (e : H a = some (.frz o (.lst xs))) : TyOf K H (.ref a) (.type "list")
  | tup {a : Addr} {xs : List V} (e : H a = some (.tup xs)) : TyOf K H (.ref a) (.type "tuple")
  | dK {a : Addr} {kvs : List (Key × V)} (e : H a = some (.dK kvs)) : TyOf K H (.ref a) (.type "dict")
  | dT {a : Addr} {kvs : List (List Key × V)} (e : H a = some (.dT kvs)) : TyOf K H (.ref a) (.type "dict")
  | ins {a C dx : Addr} {fs : List (Str × V)} (e : H a = some (.ins C dx fs)) (cl : Cls K C) (ha : PySem.W.findIn K (.ref C) "__class__" = some (some (.builtin "object.__class__")))
      (hn : PySem.W.specialIn K (.builtin "object.__class__") "__get__" = some (some (.builtin "getset_descriptor.__get__"))) (htk : PySem.W.takesIn K (.builtin "object.__class__") = some true)
      (hm : PySem.W.mroIn K C (.type "object") = some true) : TyOf K H (.ref a) (.ref C)
/-- isinstance(x, c) for one class c, a built-in or an own one: kitOne's answer -/
theorem isinst_ok {x : V} {u t : Value} (I : Inv X pins σ H s) (rx : RelV x u) (ty : TyOf X.K H x t) (e : PySem.W.kitOne X.K t c = some b) (h : ∀ tk, Q (.bool b) { s with toks := tk }) :
    wpAny (model X.prog X.w) A (call (.builtin "isinstance") [u, c]) Q E s := by
  cases ty with
  | non => cases (show u = Value.none from rx); exact PySem.W.kia_one PySem.W.kitx_none I.kIn True.intro e (fun z => nomatch z) h
  | bl y => cases (show u = Value.bool y from rx); exact PySem.W.kia_one PySem.W.kitx_bool I.kIn True.intro e (fun z => nomatch z) h
  | int i => obtain ⟨t, q⟩ := (show ∃ t, u = Value.int i t from rx); cases q; exact PySem.W.kia_one PySem.W.kitx_int I.kIn True.intro e (fun z => nomatch z) h
  | str y => obtain ⟨t, q⟩ := (show ∃ t, u = Value.str y t from rx); cases q; exact PySem.W.kia_one PySem.W.kitx_str I.kIn True.intro e (fun z => nomatch z) h
  | flt y => obtain ⟨t, q⟩ := (show ∃ t, u = Value.float y t from rx); cases q; exact PySem.W.kia_one PySem.W.kitx_float I.kIn True.intro e (fun z => nomatch z) h
  | @lst a xs ea =>
    cases (show u = Value.ref a from rx)
    obtain ⟨_, _, n, _, h1⟩ := (show ObjOk X.prog X.w H s.heap a (.lst xs) from I.hok a _ ea)
    exact PySem.W.kia_one PySem.W.kitx_list I.kIn ⟨_, h1, rfl⟩ e (fun z => nomatch z) h
  | @frz a ob xs ea =>
    cases (show u = Value.ref a from rx)
    obtain ⟨_, _, _, n, _, h1⟩ := (show ObjOk X.prog X.w H s.heap a (.frz ob (.lst xs)) from I.hok a _ ea)
    exact PySem.W.kia_one PySem.W.kitx_list I.kIn ⟨_, h1, rfl⟩ e (fun z => nomatch z) h
  | @tup a xs ea =>
    cases (show u = Value.ref a from rx)
    obtain ⟨_, _, _, p⟩ := (show ObjOk X.prog X.w H s.heap a (.tup xs) from I.hok a _ ea)
    obtain ⟨o, h1, h2, _⟩ := p
    exact PySem.W.kia_one PySem.W.kitx_tuple I.kIn ⟨o, h1, h2⟩ e (fun z => nomatch z) h
  | @dK a kvs ea =>
    cases (show u = Value.ref a from rx)
    obtain ⟨_, _, vs, _, p⟩ := (show ObjOk X.prog X.w H s.heap a (.dK kvs) from I.hok a _ ea)
    obtain ⟨o, es, ep, h1, h2, _⟩ := p
    exact PySem.W.kia_one PySem.W.kitx_dict I.kIn ⟨o, h1, h2.1⟩ e (fun z => nomatch z) h
  | @dT a kvs ea =>
    cases (show u = Value.ref a from rx)
    obtain ⟨_, _, xs, _, o, es, ep, h1, h2, _⟩ := (show ObjOk X.prog X.w H s.heap a (.dT kvs) from I.hok a _ ea)
    exact PySem.W.kia_one PySem.W.kitx_dict I.kIn ⟨o, h1, h2.1⟩ e (fun z => nomatch z) h
  | @ins a C dx fs ea cl ha hn htk hm =>
    cases (show u = Value.ref a from rx)
    obtain ⟨mA, O, _⟩ := ins_get I.hok ea
    obtain ⟨od, J, _⟩ := O.look
    exact PySem.W.kia_one (PySem.W.kitx_own (cl.get _) cl.hd ha hn htk hm) I.kIn J e (fun z => nomatch z) h
end
end L2

namespace L2
open PySem PySem.Spec PyProof.Rows

/-! ### room -/
structure Room (k : Nat) (A : Around) : Prop where
  hd : A.handled = none
  dp : A.depth + 3 * k + 5 < recursionLimit
  un : A.units + 16 * k + 200 < cLine
theorem Room.mono {j k : Nat} {A : Around} (r : Room k A) (h : j ≤ k) : Room j A := ⟨r.hd, by have := r.dp; omega, by have := r.un; omega⟩
theorem Room.deeper {k : Nat} {A : Around} (r : Room (k + 1) A) (env : Env) : Room k (A.deeper env) :=
  ⟨r.hd, by have := r.dp; show A.depth + 1 + 3 * k + 5 < _; omega, by have := r.un; show A.units + 3 + 16 * k + 200 < _; omega⟩
theorem Room.in1 {k : Nat} {A : Around} (r : Room (k + 1) A) : Room k A.in1 :=
  ⟨r.hd, by have := r.dp; show A.depth + 3 * k + 5 < _; omega, by have := r.un; show A.units + 1 + 16 * k + 200 < _; omega⟩
theorem make_depth {A : Around} {C : Addr} {us : List Value} {kw : List (Str × Value)} : (A.under (.builtin "type.__call__" ⟨.ref C :: us, kw⟩)).depth = A.depth + 1 := by
  first | rfl | simp [Around.under, Code.weight, Code.isCreation, Code.isGuard, Code.isCaller, Code.frames, Code.isFrame, guardIds]
theorem make_units {A : Around} {C : Addr} {us : List Value} {kw : List (Str × Value)} : (A.under (.builtin "type.__call__" ⟨.ref C :: us, kw⟩)).units = A.units + 1 := by
  first | rfl | simp [Around.under, Code.cUnits, Code.frames, Code.isFrame]
theorem Room.make {k : Nat} {A : Around} (r : Room (k + 1) A) (C : Addr) (us : List Value) (kw : List (Str × Value)) : Room k (A.under (.builtin "type.__call__" ⟨.ref C :: us, kw⟩)) :=
  ⟨r.hd, by have := r.dp; rw [make_depth]; omega, by have := r.un; rw [make_units]; omega⟩
theorem Room.depth {k : Nat} {A : Around} (r : Room k A) : A.depth < recursionLimit := by have := r.dp; omega
theorem Room.units {k : Nat} {A : Around} (r : Room k A) : A.units + 64 < cLine := by have := r.un; omega
theorem Room.units0 {k : Nat} {A : Around} (r : Room k A) : A.units < cLine := by have := r.un; omega

/-! ### argument lists and displays -/
def tNil : TA := fun _ H Q => Q [] H
def tCons (ta : TE) (tr : TA) : TA := fun σ H Q => ta σ H fun x H1 => tr σ H1 fun xs H2 => Q (x :: xs) H2
section
variable {X : Cx} {e : Expr} {es : List Expr} {te : TE} {t : TA} {pos : Pos}
theorem pa_nil : PA X [] tNil := fun _ _ _ _ H Q I h => Calls.spliced_nil ⟨[], H, I, .nil, h⟩
theorem pa_cons (ha : PE X e te) (hr : PA X es t) (hs : starEach (e :: es) X.env = (false, eval e X.env) :: starEach es X.env := by rfl) : PA X (e :: es) (tCons te t) := by
  intro pos pins s σ H Q I h
  rw [hs]
  show wpAny _ _ (spliced ((false, eval e X.env) :: backTo pos (starEach es X.env))) _ _ s
  refine Calls.spliced_cons (thn (ha pins s σ H _ I h) fun u s1 ⟨x, H1, I1, r1, q1⟩ => ?_)
  exact thn (hr pos pins s1 σ H1 _ I1 q1) fun us s2 ⟨xs, H2, I2, r2, q2⟩ => ⟨x :: xs, H2, I2, .cons r1 r2, q2⟩

/-- a tuple, a list of written items -/
def tTup (t : TA) : TE := fun σ H Q => t σ H fun xs H1 => xs.length ≤ sizeLine ∧ ∀ p, H1 p = none → Q (.ref p) (upd H1 p (.tup xs))
def tLst (t : TA) : TE := fun σ H Q => t σ H fun xs H1 => xs.length ≤ sizeLine ∧ ∀ p, H1 p = none → Q (.ref p) (upd H1 p (.lst xs))
theorem pe_tup {x1} (h : PA X es t) : PE X (.Tuple es x1 pos) (tTup t) := by
  intro pins s σ H Q I hq
  refine wpAny_Tuple_spliced (thn (h pos pins s σ H _ I hq) fun us s1 ⟨xs, H1, I1, r, z, q⟩ => ⟨by rw [← r.length]; exact z, ?_⟩)
  have hf : H1 s1.heap.objs.size = none := I1.hok.fresh (Nat.le_refl _)
  refine ⟨.ref s1.heap.objs.size, upd H1 s1.heap.objs.size (.tup xs), I1.laid (t' := s1.toks) (fun b u e => Heap.get?_push_of_some _ e) (Nat.le_refl _) ?_, rfl, q _ hf⟩
  exact ⟨z, us, r, ⟨_, Heap.get?_push_size _ rfl, rfl, _, rfl⟩⟩
theorem pe_lst (h : PA X es t) : PE X (.List es pos) (tLst t) := by
  intro pins s σ H Q I hq
  refine wpAny_List_spliced (thn (h pos pins s σ H _ I hq) fun us s1 ⟨xs, H1, I1, r, z, q⟩ => ⟨by rw [← r.length]; exact z, ?_⟩)
  have hf : H1 s1.heap.objs.size = none := I1.hok.fresh (Nat.le_refl _)
  refine ⟨.ref s1.heap.objs.size, upd H1 s1.heap.objs.size (.lst xs), I1.laid (t' := s1.toks) (fun b u e => Heap.get?_push_of_some _ e) (Nat.le_refl _) ?_, rfl, q _ hf⟩
  exact ⟨z, us, 0, r, Heap.get?_push_size _ rfl⟩
end

/-! ### what a def promises -/
/-- a def's promise: the bound arguments in the parameters' order, the heap, the wanted end, the wanted exception -/
abbrev Sp := List V → Hp → VK → XK → Prop
/-- how an exception lies behind a call (file 08 gives it): the callers' frames, abstract heap and state ahead of the call, the wish, the exception, the state -/
abbrev CXT := List Env → Hp → Shared → XK → Value → Shared → Prop

/-- the state at a call -/
structure Env0 (P : Program) (w : World) (K : PySem.W.Frag) (mg : Str → Option Value) (base : Heap) (A : Around) (outer : List Env) (s : Shared) (H : Hp) : Prop where
  frames : A.frames = some outer
  mod : Mod K mg base
  bs : ∀ b o, base.get? b = some o → s.heap.get? b = some o ∧ H b = none
  bsz : base.objs.size ≤ s.heap.objs.size
  funs : s.heap.FunFrames base outer
  frf : ∀ b ∈ frs outer, H b = none
  hok : HOk P w H s.heap
  bare : AllBare s.gens
/-- a call's end -/
def CE (outer : List Env) (P : Program) (w : World) (H : Hp) (s : Shared) (Q : VK) (u : Value) (s' : Shared) : Prop :=
  ∃ v H', s'.os = s.os ∧ AllBare s'.gens ∧ Un (frs outer) [] H H' s.heap s'.heap ∧ HOk P w H' s'.heap ∧ RelV v u ∧ Q v H'
def CR (CX : CXT) (outer : List Env) (P : Program) (w : World) (H : Hp) (s : Shared) (Q : VK) (E : XK) (r : Result) (s' : Shared) : Prop :=
  match r with
  | .ok (.ret u) => CE outer P w H s Q u s'
  | .ok _ => False
  | .error e => CX outer H s E e s'
structure FnOk (P : Program) (w : World) (K : PySem.W.Frag) (mg : Str → Option Value) (base : Heap) (CX : CXT) (k : Nat) (f : Addr) (fd : FuncData) (ps : List Str) (sp : Sp) : Prop where
  len : ∀ vs H Q E, sp vs H Q E → vs.length = ps.length
  run : ∀ (A : Around) (outer : List Env) (s : Shared) (H : Hp) (args : Args) (us : List Value) (vs : List V) (Q : VK) (E : XK), Room k A → Env0 P w K mg base A outer s H → BindsTo s fd args (ps.zip us) → Vals vs us → sp vs H Q E →
    codeAny (model P w) A (.call (.ref f) args) (CR CX outer P w H s Q E) s
theorem FnOk.mono {P : Program} {w : World} {K : PySem.W.Frag} {mg : Str → Option Value} {base : Heap} {CX : CXT} {j k : Nat} {f : Addr} {fd : FuncData} {ps : List Str} {sp : Sp} (F : FnOk P w K mg base CX j f fd ps sp) (h : j ≤ k) :
    FnOk P w K mg base CX k f fd ps sp := ⟨F.len, fun A outer s H args us vs Q E hr => F.run A outer s H args us vs Q E (hr.mono h)⟩
/-- a weaker promise -/
theorem FnOk.imp {P : Program} {w : World} {K : PySem.W.Frag} {mg : Str → Option Value} {base : Heap} {CX : CXT} {k : Nat} {f : Addr} {fd : FuncData} {ps : List Str} {sp sp' : Sp} (F : FnOk P w K mg base CX k f fd ps sp)
    (h : ∀ vs H Q E, sp' vs H Q E → sp vs H Q E) : FnOk P w K mg base CX k f fd ps sp' :=
  ⟨fun vs H Q E q => F.len vs H Q E (h _ _ _ _ q), fun A outer s H args us vs Q E hr he hb hv hs => F.run A outer s H args us vs Q E hr he hb hv (h _ _ _ _ hs)⟩

theorem Env0.make {P : Program} {w : World} {K : PySem.W.Frag} {mg : Str → Option Value} {base : Heap} {A : Around} {outer : List Env} {s : Shared} {H : Hp} (e : Env0 P w K mg base A outer s H) (C : Addr) (us : List Value) (kw : List (Str × Value)) :
    Env0 P w K mg base (A.under (.builtin "type.__call__" ⟨.ref C :: us, kw⟩)) outer s H := ⟨by first | exact e.frames | (simpa [Around.under, Code.envs, Code.isFrame, pushEnvs] using e.frames), e.mod, e.bs, e.bsz, e.funs, e.frf, e.hok, e.bare⟩
theorem Env0.in1 {P : Program} {w : World} {K : PySem.W.Frag} {mg : Str → Option Value} {base : Heap} {A : Around} {outer : List Env} {s : Shared} {H : Hp} (e : Env0 P w K mg base A outer s H) :
    Env0 P w K mg base A.in1 outer s H := ⟨e.frames, e.mod, e.bs, e.bsz, e.funs, e.frf, e.hok, e.bare⟩

section
variable {X : Cx} {pins : List (Addr × Obj)} {σ : St} {H : Hp} {s s' : Shared}
/-- from a body: what a callee wants -/
theorem Inv.env0 (I : Inv X pins σ H s) : Env0 X.prog X.w X.K X.mg X.base X.A X.stack s H :=
  ⟨I.ok.frames, I.ok.mod, I.bs, Nat.le_trans I.ok.bsz I.sz, I.stack, I.stkFree, I.hok, I.bare⟩
/-- behind a call -/
theorem Inv.after {Q : VK} {u : Value} (I : Inv X pins σ H s) (h : CE X.stack X.prog X.w H s Q u s') : EP X pins σ Q u s' := by
  obtain ⟨v, H', os, bare, un, hok, r, q⟩ := h
  obtain ⟨hh, g, d, t, os'⟩ := s'
  obtain rfl : os' = s.os := os
  exact ⟨v, H', I.call (h' := hh) (g' := g) (d' := d) (t' := t) (ch := []) un hok bare (fun b z => absurd z (by simp)), r, q⟩
end

/-! ### calls -/
/-- f(..): the written arguments, then the defaults dvs; E: what is wanted of an exception -/
def tCall (sp : Sp) (dvs : List V) (E : XK) (t : TA) : TE := fun σ H Q => t σ H fun vs H1 => sp (vs ++ dvs) H1 Q E
/-- o.m(..) of an instance of the class at C -/
def tMeth (C : Addr) (m : Str) (sp : Sp) (dvs : List V) (E : XK) (ta : TE) (t : TA) : TE := fun σ H Q => ta σ H fun x H1 => ∃ a dx fs, x = .ref a ∧ H1 a = some (.ins C dx fs) ∧ fs.lookup m = none ∧
  t σ H1 fun vs H2 => sp (x :: (vs ++ dvs)) H2 Q E
/-- C(..): a new instance and its dict, then __init__ -/
def tMake (C : Addr) (sp : Sp) (dvs : List V) (E : XK) (t : TA) : TE := fun σ H Q => t σ H fun vs H1 => ∀ x dx, H1 x = none → H1 dx = none → dx ≠ x →
  sp (.ref x :: (vs ++ dvs)) (upd (upd H1 dx (.own x)) x (.ins C dx [])) (fun v H2 => v = .non ∧ Q (.ref x) H2) E

/-- how the parameters are bound: us the positional arguments, kw the keywords' values by name, ds the defaults that fill up -/
def Binds (K : PySem.W.Frag) (fd : FuncData) (ps : List Str) (ds : List Value) : Prop :=
  ∀ (s : Shared) (us : List Value), K.In s.heap → (us ++ ds).length = ps.length → BindsTo s fd ⟨us, []⟩ (ps.zip (us ++ ds))
/-- every parameter is given -/
theorem Binds.all {K : PySem.W.Frag} {fd : FuncData} {ps : List Str} (h : ∀ us : List Value, us.length = ps.length → bindArgs fd ⟨us, []⟩ = pure (ps.zip us)) : Binds K fd ps [] := fun s us _ hl => by
  rw [List.append_nil] at hl ⊢
  exact .of_eq (h us hl)

/-- an exception of a callee reaches what this body wants of exceptions -/
def Passes (CX : CXT) (X : Cx) (E : XK) : Prop := ∀ (pins : List (Addr × Obj)) (σ : St) (H : Hp) (s : Shared) (e : Value) (s' : Shared), Inv X pins σ H s → CX X.stack H s E e s' → X.xe e s'

section
variable {X : Cx} {CX : CXT} {k : Nat} {f C : Addr} {fd : FuncData} {ps : List Str} {sp : Sp} {dvs : List V} {ds : List Value} {E : XK} {x m : Str} {p pos apos : Pos} {e o : Expr} {es : List Expr} {ta : TE} {t : TA}

/-- the callee runs -/
theorem run_fn {pins : List (Addr × Obj)} {σ : St} {H : Hp} {s : Shared} {Q : VK} {us : List Value} {vs : List V} (F : FnOk X.prog X.w X.K X.mg X.base CX k f fd ps sp) (hr : Room k X.A) (hb : Binds X.K fd ps ds) (hd : Vals dvs ds) (hx : Passes CX X E)
    (I : Inv X pins σ H s) (r : Vals vs us) (h : sp (vs ++ dvs) H Q E) : wpAny (model X.prog X.w) X.A (call (.ref f) us) (EP X pins σ Q) X.xe s := by
  have r2 : Vals (vs ++ dvs) (us ++ ds) := r.append hd
  have hl : (us ++ ds).length = ps.length := by rw [← r2.length]; exact F.len _ _ _ _ h
  refine wpAny_call (codeAny_mono (F.run X.A X.stack s H ⟨us, []⟩ (us ++ ds) (vs ++ dvs) Q E hr I.env0 (hb s us I.kIn hl) r2 h) fun r s' hq => ?_)
  cases r with
  | error e => exact hx pins σ H s e s' I hq
  | ok fl =>
    cases fl with
    | ret u => exact I.after hq
    | next => exact False.elim hq
    | brk => exact False.elim hq
    | cont => exact False.elim hq

theorem pe_call (F : FnOk X.prog X.w X.K X.mg X.base CX k f fd ps sp) (hr : Room k X.A) (hg : Gl X x) (hm : X.mg x = some (.ref f)) (hk : PySem.W.keepIn X.K (.ref f) = true) (hb : Binds X.K fd ps ds) (hd : Vals dvs ds) (hx : Passes CX X E)
    (ha : PA X (e :: es) t) (hdb : (x == ("__debug__" : Str)) = false := by decide) (he : starEach (e :: es) X.env = (false, eval e X.env) :: starEach es X.env := by rfl) (hpl : (backTo pos (starEach es X.env)).any (·.1) = false := by rfl) :
    PE X (.Call (.Name x p) (e :: es) [] pos) (tCall sp dvs E t) := by
  intro pins s σ H Q I h
  refine wpAny_Call_Name_kw (ld_glob I hg hm ?_ hdb)
  refine PySem.W.callWith_K (h₀ := X.base) I.ok.mod.kin hk (thn (ha pos pins s σ H _ I h) fun us s1 ⟨vs, H1, I1, r, q⟩ => ⟨I1.kIn, ?_⟩) he hpl
  exact run_fn F hr hb hd hx I1 r q
theorem pe_call0 (F : FnOk X.prog X.w X.K X.mg X.base CX k f fd ps sp) (hr : Room k X.A) (hg : Gl X x) (hm : X.mg x = some (.ref f)) (hk : PySem.W.keepIn X.K (.ref f) = true) (hb : Binds X.K fd ps ds) (hd : Vals dvs ds) (hx : Passes CX X E)
    (hdb : (x == ("__debug__" : Str)) = false := by decide) : PE X (.Call (.Name x p) [] [] pos) (tCall sp dvs E tNil) := by
  intro pins s σ H Q I h
  refine wpAny_Call_Name_kw (ld_glob I hg hm ?_ hdb)
  exact PySem.W.callWith_K0 I.kIn hk (run_fn (us := []) F hr hb hd hx I .nil h)

/-- o.m(e, ..) -/
theorem pe_meth {pl : Sem Bool} (he : PE X o ta) (c : Cls X.K C) (hm : Meth X.K C m f) (F : FnOk X.prog X.w X.K X.mg X.base CX k f fd ps sp) (hr : Room k X.A) (hb : Binds X.K fd ps ds) (hd : Vals dvs ds) (hx : Passes CX X E) (ha : PA X (e :: es) t)
    (hst : starEach (e :: es) X.env = (false, eval e X.env) :: starEach es X.env := by rfl) (hpl : (backTo pos (starEach es X.env)).any (·.1) = false := by rfl)
    (ht : eval (.Call (.Attribute o m apos) (e :: es) [] pos) X.env = (do
      let ov ← eval o X.env
      standAt apos.atName
      let (f, first) ← holding [ov] (getMethod ov m pl)
      callWith pos f first (backTo pos (starEach (e :: es) X.env)) (backToKw pos (keywordEach [] X.env))) := by rfl) :
    PE X (.Call (.Attribute o m apos) (e :: es) [] pos) (tMeth C m sp dvs E ta t) := by
  intro pins s σ H Q I h
  refine PySem.W.methodCall_KW (pl := pl) (thn (he pins s σ H _ I h) fun u s1 ⟨x, H1, I1, rx, a, dx, fs, ex, ea, l, q⟩ => ?_) ht
  subst ex
  obtain rfl : u = Value.ref a := rx
  refine getmeth_ok I1 ea c hm l ?_
  refine PySem.W.callWith_K (first := [.ref a]) (h₀ := X.base) I.ok.mod.kin hm.kp (thn (ha pos pins s1 σ H1 _ I1 q) fun us s2 ⟨vs, H2, I2, r, q2⟩ => ⟨I2.kIn, ?_⟩) hst hpl
  exact run_fn (us := .ref a :: us) (vs := .ref a :: vs) F hr hb hd hx I2 (.cons rfl r) q2
/-- o.m() -/
theorem pe_meth0 {pl : Sem Bool} (he : PE X o ta) (c : Cls X.K C) (hm : Meth X.K C m f) (F : FnOk X.prog X.w X.K X.mg X.base CX k f fd ps sp) (hr : Room k X.A) (hb : Binds X.K fd ps ds) (hd : Vals dvs ds) (hx : Passes CX X E)
    (ht : eval (.Call (.Attribute o m apos) [] [] pos) X.env = (do
      let ov ← eval o X.env
      standAt apos.atName
      let (f, first) ← holding [ov] (getMethod ov m pl)
      callWith pos f first (backTo pos (starEach [] X.env)) (backToKw pos (keywordEach [] X.env))) := by rfl) :
    PE X (.Call (.Attribute o m apos) [] [] pos) (tMeth C m sp dvs E ta tNil) := by
  intro pins s σ H Q I h
  refine PySem.W.methodCall_KW (pl := pl) (thn (he pins s σ H _ I h) fun u s1 ⟨x, H1, I1, rx, a, dx, fs, ex, ea, l, q⟩ => ?_) ht
  subst ex
  obtain rfl : u = Value.ref a := rx
  refine getmeth_ok I1 ea c hm l ?_
  exact PySem.W.callWith_K0 (first := [.ref a]) I1.kIn hm.kp (run_fn (us := [.ref a]) (vs := [.ref a]) F hr hb hd hx I1 (.cons rfl .nil) q)

/-- what a class must have to be made -/
structure Mk (K : PySem.W.Frag) (C f : Addr) : Prop where
  makes : PySem.W.makesIn K C = true
  init : PySem.W.findIn K (.ref C) "__init__" = some (some (.ref f))
  fn : PySem.W.isFn K (.ref f) = true
  kp : PySem.W.keepIn K (.ref C) = true

theorem run_make {pins : List (Addr × Obj)} {σ : St} {H : Hp} {s : Shared} {Q : VK} {us : List Value} {vs : List V} (M : Mk X.K C f) (F : FnOk X.prog X.w X.K X.mg X.base CX k f fd ps sp) (hr : Room (k + 1) X.A) (hb : Binds X.K fd ps ds) (hd : Vals dvs ds)
    (hx : Passes CX X E) (I : Inv X pins σ H s) (r : Vals vs us)
    (h : ∀ x dx, H x = none → H dx = none → dx ≠ x → sp (.ref x :: (vs ++ dvs)) (upd (upd H dx (.own x)) x (.ins C dx [])) (fun v H2 => v = .non ∧ Q (.ref x) H2) E) :
    wpAny (model X.prog X.w) X.A (call (.ref C) us) (EP X pins σ Q) X.xe s := by
  have hq := h (s.heap.objs.size + 1) s.heap.objs.size (I.hok.fresh (Nat.le_succ _)) (I.hok.fresh (Nat.le_refl _)) (Nat.ne_of_lt (Nat.lt_succ_self _))
  have I2 := Inv.made (C := C) I
  have r2 : Vals (V.ref (s.heap.objs.size + 1) :: (vs ++ dvs)) (Value.ref (s.heap.objs.size + 1) :: (us ++ ds)) := .cons rfl (r.append hd)
  have hl : (Value.ref (s.heap.objs.size + 1) :: us ++ ds).length = ps.length := by
    have e := r2.length
    rw [F.len _ _ _ _ hq] at e
    exact e.symm
  refine wpAny_call (make_map (f := f) I.kIn M.makes M.init (beq_iff_eq.mp M.fn) (codeAny_mono (F.run _ X.stack _ _ ⟨Value.ref (s.heap.objs.size + 1) :: us, []⟩ (Value.ref (s.heap.objs.size + 1) :: (us ++ ds)) _ _ E (hr.make C us [])
    (I2.env0.make C us []) (hb _ (Value.ref (s.heap.objs.size + 1) :: us) I2.kIn hl) r2 hq) fun r s' hq' => ?_))
  cases r with
  | error e => exact hx pins σ _ _ e s' I2 hq'
  | ok fl =>
    cases fl with
    | ret u =>
      obtain ⟨v, H', I3, rv, ev, q3⟩ := I2.after hq'
      subst ev
      exact ⟨rv, ⟨V.ref (s.heap.objs.size + 1), H', I3, rfl, q3⟩⟩
    | next => exact False.elim hq'
    | brk => exact False.elim hq'
    | cont => exact False.elim hq'
theorem pe_make (M : Mk X.K C f) (F : FnOk X.prog X.w X.K X.mg X.base CX k f fd ps sp) (hr : Room (k + 1) X.A) (hg : Gl X x) (hm : X.mg x = some (.ref C)) (hb : Binds X.K fd ps ds) (hd : Vals dvs ds) (hx : Passes CX X E)
    (ha : PA X (e :: es) t) (hdb : (x == ("__debug__" : Str)) = false := by decide) (he : starEach (e :: es) X.env = (false, eval e X.env) :: starEach es X.env := by rfl) (hpl : (backTo pos (starEach es X.env)).any (·.1) = false := by rfl) :
    PE X (.Call (.Name x p) (e :: es) [] pos) (tMake C sp dvs E t) := by
  intro pins s σ H Q I h
  refine wpAny_Call_Name_kw (ld_glob I hg hm ?_ hdb)
  refine PySem.W.callWith_K (h₀ := X.base) I.ok.mod.kin M.kp (thn (ha pos pins s σ H _ I h) fun us s1 ⟨vs, H1, I1, r, q⟩ => ⟨I1.kIn, ?_⟩) he hpl
  exact run_make M F hr hb hd hx I1 r q
theorem pe_make0 (M : Mk X.K C f) (F : FnOk X.prog X.w X.K X.mg X.base CX k f fd ps sp) (hr : Room (k + 1) X.A) (hg : Gl X x) (hm : X.mg x = some (.ref C)) (hb : Binds X.K fd ps ds) (hd : Vals dvs ds) (hx : Passes CX X E)
    (hdb : (x == ("__debug__" : Str)) = false := by decide) : PE X (.Call (.Name x p) [] [] pos) (tMake C sp dvs E tNil) := by
  intro pins s σ H Q I h
  refine wpAny_Call_Name_kw (ld_glob I hg hm ?_ hdb)
  exact PySem.W.callWith_K0 I.kIn M.kp (run_make (us := []) M F hr hb hd hx I .nil h)
end

/-! ### keywords -/
/-- the values of the keywords, from the left -/
def PK (X : Cx) (kws : List Keyword) (t : TA) : Prop :=
  ∀ (pos : Pos) (pins : List (Addr × Obj)) (s : Shared) (σ : St) (H : Hp) (Q : List V → Hp → Prop), Inv X pins σ H s → t σ H Q → wpAny (model X.prog X.w) X.A (evalAll ((backToKw pos (keywordEach kws X.env)).map (·.2))) (AP X pins σ Q) X.xe s
section
variable {X : Cx} {CX : CXT} {k : Nat} {f C : Addr} {fd : FuncData} {ps ks : List Str} {sp : Sp} {E : XK} {x m : Str} {p pos apos kpos : Pos} {e o : Expr} {es : List Expr} {kws : List Keyword} {te ta : TE} {t tk : TA} {nm : Option Str}
theorem pk_nil : PK X [] tNil := fun _ _ _ _ H Q I h => wpAny_evalAll_nil ⟨[], H, I, .nil, h⟩
theorem pk_cons (ha : PE X e te) (hr : PK X kws t) : PK X (⟨nm, e, kpos⟩ :: kws) (tCons te t) := by
  intro pos pins s σ H Q I h
  show wpAny _ _ (evalAll ((do let v ← eval e X.env; standAt pos; pure v) :: (backToKw pos (keywordEach kws X.env)).map (·.2))) _ _ s
  refine wpAny_evalAll_cons (wpAny_bind (thn (ha pins s σ H _ I h) fun u s1 ⟨x, H1, I1, r1, q1⟩ => wpAny_bind (wpAny_standAt (wpAny_pure ?_))))
  exact thn (hr pos pins s1 σ H1 _ I1 q1) fun us s2 ⟨xs, H2, I2, r2, q2⟩ => ⟨x :: xs, H2, I2, .cons r1 r2, q2⟩

/-- how a call with keywords binds: g puts the positional values us and the keywords' values ws (names ks) in the parameters' order, defaults among them -/
structure KBinds (K : PySem.W.Frag) (fd : FuncData) (ps ks : List Str) (g : List Value → List Value → List Value) (gV : List V → List V → List V) : Prop where
  to : ∀ (s : Shared) (us ws : List Value), K.In s.heap → (g us ws).length = ps.length → BindsTo s fd ⟨us, ks.zip ws⟩ (ps.zip (g us ws))
  rel : ∀ {vs : List V} {us : List Value} {zs : List V} {ws : List Value}, Vals vs us → Vals zs ws → Vals (gV vs zs) (g us ws)
def tCallK (sp : Sp) (gV : List V → List V → List V) (E : XK) (t tk : TA) : TE := fun σ H Q => t σ H fun vs H1 => tk σ H1 fun zs H2 => sp (gV vs zs) H2 Q E
variable {g : List Value → List Value → List Value} {gV : List V → List V → List V}
theorem run_fnk {pins : List (Addr × Obj)} {σ : St} {H : Hp} {s : Shared} {Q : VK} {us ws : List Value} {vs zs : List V} (F : FnOk X.prog X.w X.K X.mg X.base CX k f fd ps sp) (hr : Room k X.A) (hb : KBinds X.K fd ps ks g gV) (hx : Passes CX X E)
    (I : Inv X pins σ H s) (r : Vals vs us) (rz : Vals zs ws) (h : sp (gV vs zs) H Q E) : wpAny (model X.prog X.w) X.A (call (.ref f) us (ks.zip ws)) (EP X pins σ Q) X.xe s := by
  have r2 := hb.rel r rz
  have hl : (g us ws).length = ps.length := by rw [← r2.length]; exact F.len _ _ _ _ h
  refine wpAny_call (codeAny_mono (F.run X.A X.stack s H ⟨us, ks.zip ws⟩ (g us ws) (gV vs zs) Q E hr I.env0 (hb.to s us ws I.kIn hl) r2 h) fun r s' hq => ?_)
  cases r with
  | error e => exact hx pins σ H s e s' I hq
  | ok fl =>
    cases fl with
    | ret u => exact I.after hq
    | next => exact False.elim hq
    | brk => exact False.elim hq
    | cont => exact False.elim hq
/-- f(e, .., k = v, ..) -/
theorem pe_callK (F : FnOk X.prog X.w X.K X.mg X.base CX k f fd ps sp) (hr : Room k X.A) (hg : Gl X x) (hm : X.mg x = some (.ref f)) (hk : PySem.W.keepIn X.K (.ref f) = true) (hb : KBinds X.K fd ps ks g gV) (hx : Passes CX X E)
    (ha : PA X (e :: es) t) (hkw : PK X kws tk) (hall : (backToKw pos (keywordEach kws X.env)).all (·.1.isSome) = true := by rfl) (hks : (backToKw pos (keywordEach kws X.env)).filterMap (·.1) = ks := by rfl)
    (hdb : (x == ("__debug__" : Str)) = false := by decide) (he : starEach (e :: es) X.env = (false, eval e X.env) :: starEach es X.env := by rfl)
    (hpl : ((backTo pos (starEach (e :: es) X.env)).any (·.1) || (backToKw pos (keywordEach kws X.env)).any (·.1.isNone)) = false := by rfl) :
    PE X (.Call (.Name x p) (e :: es) kws pos) (tCallK sp gV E t tk) := by
  intro pins s σ H Q I h
  refine wpAny_Call_Name_kw (ld_glob I hg hm ?_ hdb)
  refine PySem.W.callWith_KW (h₀ := X.base) I.ok.mod.kin hk hall (thn (ha pos pins s σ H _ I h) fun us s1 ⟨vs, H1, I1, r, q⟩ => ?_) hpl he
  refine thn (hkw pos pins s1 σ H1 _ I1 q) fun ws s2 ⟨zs, H2, I2, rz, q2⟩ => ⟨I2.kIn, ?_⟩
  rw [hks]
  exact run_fnk F hr hb hx I2 r rz q2
end

/-! ### a def's body keeps its promise -/
/-- names: the parameters first -/
structure FnScope (N P : List Str) (sc : Scope) : Prop where
  kind : sc.kind = .function
  co : sc.isCoroutine = false
  gen : sc.isGenerator = false
  nd : N.Nodup
  pre : N.take P.length = P
  par : ∀ x ∈ P, sc.names.lookup x = some .local ∨ sc.names.lookup x = some .cell
  nofree : ∀ y ∈ sc.names, y.2 ≠ .free

theorem bindL_out {kindOf : Str → Option NameKind} {x : Str} : ∀ {binds : List (Str × Value)} {m : Str → Option Value}, (∀ v, (x, v) ∉ binds) → bindL kindOf binds m x = m x
  | [], _, _ => rfl
  | (n, v) :: r, m, h => by
    unfold bindL
    rw [bindL_out fun w hw => h w (List.mem_cons_of_mem _ hw)]
    split
    · have : x ≠ n := by rintro rfl; exact h v List.mem_cons_self
      simp [this]
    · rfl
theorem bindC_out {kindOf : Str → Option NameKind} {x : Str} : ∀ {binds : List (Str × Value)} {m : Str → Option Value}, (∀ v, (x, v) ∉ binds) → bindC kindOf binds m x = m x
  | [], _, _ => rfl
  | (n, v) :: r, m, h => by
    unfold bindC
    rw [bindC_out fun w hw => h w (List.mem_cons_of_mem _ hw)]
    split
    · rfl
    · have : x ≠ n := by rintro rfl; exact h v List.mem_cons_self
      simp [this]
theorem bindL_get {kindOf : Str → Option NameKind} {x : Str} {v : Value} : ∀ {P : List Str} {vs : List Value} {i : Nat} {m : Str → Option Value}, P.Nodup → P[i]? = some x → vs[i]? = some v → kindOf x = some .local →
    bindL kindOf (P.zip vs) m x = some v
  | [], _, _, _, _, h, _, _ => by simp at h
  | _ :: _, [], _, _, _, _, h, _ => by simp at h
  | p :: P, w :: vs, 0, m, nd, h1, h2, hk => by
    simp at h1 h2; subst h1; subst h2
    show bindL kindOf ((p, w) :: P.zip vs) m p = _
    unfold bindL
    rw [bindL_out fun v hv => (List.nodup_cons.mp nd).1 (List.of_mem_zip hv).1, if_pos hk]
    simp
  | p :: P, w :: vs, i + 1, m, nd, h1, h2, hk => by
    show bindL kindOf ((p, w) :: P.zip vs) m x = _
    unfold bindL
    exact bindL_get (i := i) (List.nodup_cons.mp nd).2 (by simpa using h1) (by simpa using h2) hk
theorem bindC_get {kindOf : Str → Option NameKind} {x : Str} {v : Value} : ∀ {P : List Str} {vs : List Value} {i : Nat} {m : Str → Option Value}, P.Nodup → P[i]? = some x → vs[i]? = some v → kindOf x ≠ some .local →
    bindC kindOf (P.zip vs) m x = some v
  | [], _, _, _, _, h, _, _ => by simp at h
  | _ :: _, [], _, _, _, _, h, _ => by simp at h
  | p :: P, w :: vs, 0, m, nd, h1, h2, hk => by
    simp at h1 h2; subst h1; subst h2
    show bindC kindOf ((p, w) :: P.zip vs) m p = _
    unfold bindC
    rw [bindC_out fun v hv => (List.nodup_cons.mp nd).1 (List.of_mem_zip hv).1, if_neg hk]
    simp
  | p :: P, w :: vs, i + 1, m, nd, h1, h2, hk => by
    show bindC kindOf ((p, w) :: P.zip vs) m x = _
    unfold bindC
    exact bindC_get (i := i) (List.nodup_cons.mp nd).2 (by simpa using h1) (by simpa using h2) hk

/-- the names' values at the entry -/
def start (N : List Str) (vs : List V) : St := vs.map some ++ List.replicate (N.length - vs.length) none

/-- the context of a def's body, at its entry; an exception leaves the frame, then lies as CX says -/
def cxOf (CX : CXT) (P : Program) (w : World) (K : PySem.W.Frag) (mg : Str → Option Value) (base : Heap) (N : List Str) (qual : Str) (scope : Scope) (f : Addr) (cd : Value) (A : Around) (outer : List Env) (s : Shared) (H : Hp) (E : XK) : Cx where
  prog := P
  w := w
  K := K
  mg := mg
  base := base
  A := A.deeper (envOfC qual scope s.heap.objs.size f cd)
  N := N
  s₀ := s
  H₀ := H
  env := envOfC qual scope s.heap.objs.size f cd
  outer := outer
  stack := envOfC qual scope s.heap.objs.size f cd :: outer
  ex := []
  calm := true
  fn := fun _ => true
  pn := []
  xe := fun e s' => wpAny (model P w) (A.deeper (envOfC qual scope s.heap.objs.size f cd)) (leaving (envOfC qual scope s.heap.objs.size f cd) e) (fun _ s'' => CX outer H s E e s'') (fun e' s'' => CX outer H s E e' s'') s'

theorem cell_has {sc : Scope} {n : Nat} {x : Str} (h : sc.names.lookup x = some .cell) : ∃ c, (cellsFrom n sc.names []).lookup x = some c := by
  have q := PySem.W.cellsFrom_some sc.names n [] (.inl h)
  exact Option.isSome_iff_exists.mp q

theorem inv_start {CX : CXT} {P : Program} {w : World} {K : PySem.W.Frag} {mg : Str → Option Value} {base : Heap} {N ps : List Str} {qual : Str} {scope : Scope} {f : Addr} {cd : Value} {A : Around} {outer : List Env} {s s1 : Shared} {H : Hp} {E : XK} {us : List Value} {vs : List V}
    (S : FnScope N ps scope) (hd : A.handled = none) (e0 : Env0 P w K mg base A outer s H) (hl : vs.length = ps.length) (r : Vals vs us)
    (x : InCallC s s.heap.objs.size (bindL (envOfC qual scope s.heap.objs.size f cd).kindOf (ps.zip us) fun _ => none) (cellsFrom (s.heap.objs.size + 1) scope.names []) (bindC (envOfC qual scope s.heap.objs.size f cd).kindOf (ps.zip us) fun _ => none) s1) :
    Inv (cxOf CX P w K mg base N qual scope f cd A outer s H E) [] (start N vs) H s1 := by
  have hpl : ps.length ≤ N.length := by have := congrArg List.length S.pre; rw [List.length_take] at this; omega
  obtain ⟨h1, tk, rfl, hk⟩ := x.done
  have noA : ∀ b : Addr, b ∉ (cxOf CX P w K mg base N qual scope f cd A outer s H E).ex := fun b z => absurd (show b ∈ ([] : List Addr) from z) (by simp)
  refine ⟨⟨e0.mod, S.kind, rfl, rfl, Nat.le_refl _, fun y z c h1 h2 => ?_, fun y hy => ?_, fun y c _ h => ?_, fun _ => hd, Around.frames_deeper e0.frames, .inr ⟨rfl, rfl⟩, fun b z => absurd z (noA b), e0.bs, e0.bsz, fun b _ _ => noA b, fun b z => absurd z (noA b), e0.funs, e0.frf⟩,
    rfl, e0.bare, Un.kept hk, ⟨_, x.toInCall.ns, fun i y v h1 h2 h3 => ?_⟩, fun y c h => ⟨_, x.cell y c h⟩, e0.hok.fresh (Nat.le_refl _), fun y c h => ?_, fun p hp => absurd (show p ∈ ([] : List (Addr × Obj)) from hp) (by simp), e0.hok.kept hk, ?_⟩
  · exact name_of_addr x.apart (PySem.mem_of_lookup h1) (PySem.mem_of_lookup h2)
  · have hy : scope.names.lookup y = some .cell ∨ scope.names.lookup y = some .free := hy
    rcases hy with hy | hy
    · exact cell_has hy
    · exact absurd rfl (S.nofree _ (PySem.mem_of_lookup hy))
  · exact Nat.le_of_lt (x.above y c (PySem.mem_of_lookup h))
  · have hi : i < vs.length := by
      unfold start at h2
      by_cases hi : i < vs.length
      · exact hi
      · rw [List.getElem?_append_right (by simpa using hi)] at h2
        rw [List.getElem?_replicate] at h2
        split at h2 <;> cases h2
    have ha : vs[i]? = some v := by
      unfold start at h2
      rw [List.getElem?_append_left (by simpa using hi), List.getElem?_map] at h2
      cases e : vs[i]? with
      | none => rw [e] at h2; cases h2
      | some a => rw [e] at h2; cases h2; rfl
    obtain ⟨u, hu, rv⟩ := r.get ha
    have hp : ps[i]? = some y := by
      rw [← S.pre, List.getElem?_take_of_lt (by omega)]; exact h1
    have ndP : ps.Nodup := by rw [← S.pre]; exact S.nd.sublist (List.take_sublist _ _)
    refine ⟨u, rv, ?_⟩
    rcases S.par y (List.mem_of_getElem? hp) with k | k
    · exact .inl ⟨k, bindL_get ndP hp hu k⟩
    · obtain ⟨c, e⟩ := cell_has (n := s.heap.objs.size + 1) k
      refine .inr ⟨.inl k, c, e, ?_⟩
      have q := x.cell y c e
      rw [bindC_get ndP hp hu (by show scope.names.lookup y ≠ _; rw [k]; decide)] at q
      exact q
  · exact e0.hok.fresh (Nat.le_of_lt (x.above y c (PySem.mem_of_lookup h)))
  · unfold start
    show _ = N.length
    rw [List.length_append, List.length_map, List.length_replicate]
    omega

/-- THE RULE: a def (or a method) of the text, by its body. The body's reading t is chosen for each entry; it is run at the parameters' values -/
theorem fn_of {CX : CXT} {P : Program} {w : World} {K : PySem.W.Frag} {mg : Str → Option Value} {base : Heap} {k : Nat} {f : Addr} {name qual : Str} {params : Arguments} {body : List Stmt} {scope : Scope} {dV kV doc pm cdv ct oc : Value} {an od : Option Addr}
    {osl : Array (Option Value)} {N ps : List Str} {sp : Sp} (lk : K.lookup f = some ⟨oc, od, .func (PySem.W.fnOf name qual params body scope dV kV doc pm an cdv ct), osl⟩) (hcd : PySem.W.codeIn K cdv qual = true) (S : FnScope N ps scope)
    (len : ∀ vs H Q E, sp vs H Q E → vs.length = ps.length)
    (hbody : ∀ (A : Around) (outer : List Env) (s : Shared) (H : Hp) (vs : List V) (Q : VK) (E : XK), Room k (A.deeper (envOfC qual scope s.heap.objs.size f cdv)) → sp vs H Q E →
      ∃ t, PSs (cxOf CX P w K mg base N qual scope f cdv A outer s H E) body t ∧ t { nx := fun _ H' => Q .non H', rt := Q } (start N vs) H) :
    FnOk P w K mg base CX (k + 1) f (PySem.W.fnOf name qual params body scope dV kV doc pm an cdv ct) ps sp := by
  refine ⟨len, fun A outer s H args us vs Q E hr e0 hb r hsp => ?_⟩
  have hl := len _ _ _ _ hsp
  have KX : K.In s.heap := e0.mod.kin.keeps fun b o e => (e0.bs b o e).1
  have lim : s.heap.NoLimit := e0.mod.nolimit.keeps fun b o e => (e0.bs b o e).1
  have hkind : ∀ y ∈ ps.zip us, scope.names.lookup y.1 = some .local ∨ (scope.names.lookup y.1 = some .cell ∧ ((cellsFrom (s.heap.objs.size + 1) scope.names []).lookup y.1).isSome = true) := fun ⟨n, v⟩ hy => by
    rcases S.par n (List.of_mem_zip hy).1 with q | q
    · exact .inl q
    · exact .inr ⟨q, PySem.W.cellsFrom_some _ _ _ (.inl q)⟩
  refine codeAny_call_function hr.depth (KX _ _ lk) rfl S.co S.gen rfl (PySem.W.codeRec_of KX hcd) (hb _ _ _ _ ?_)
  refine wpAny_newFunctionEnv_cells S.kind hkind fun env he s1 x => ?_
  subst he
  refine ⟨lim.keeps x.toInCall.keep, codeAny_func ?_⟩
  obtain ⟨t, ht, hq⟩ := hbody A outer s H vs Q E (hr.deeper _) hsp
  have I : Inv (cxOf CX P w K mg base N qual scope f cdv A outer s H E) [] (start N vs) H s1 := inv_start S hr.hd e0 hl r x
  refine wpAny_mono (ht [] s1 (start N vs) H _ I hq) (fun fl s' hs => ?_) fun e s' hs => hs
  have fin : ∀ {σ' : St} {H' : Hp} {v : V} {u : Value}, Inv (cxOf CX P w K mg base N qual scope f cdv A outer s H E) [] σ' H' s' → RelV v u → Q v H' → CE outer P w H s Q u s' :=
    fun {σ' H' v u} J rv q => ⟨v, H', J.os, J.bare, J.base, J.hok, rv, q⟩
  cases fl with
  | ret u =>
    obtain ⟨v, σ', H', J, rv, q⟩ := hs
    exact fin J rv q
  | next =>
    obtain ⟨σ', H', J, q⟩ := hs
    exact fin (v := V.non) (u := Value.none) J rfl q
  | brk =>
    obtain ⟨_, _, _, q⟩ := hs
    exact False.elim q
  | cont =>
    obtain ⟨_, _, _, q⟩ := hs
    exact False.elim q
end L2

namespace L2
open PySem PySem.Spec PyProof.Rows
section
variable {X : Cx} {x : Str} {p pos : Pos} {e : Expr} {es : List Expr} {t : TA} {id T : String} {r : List V → Hp → VK → Prop}

def tCB (r : List V → Hp → VK → Prop) (t : TA) : TE := fun σ H Q => t σ H fun vs H1 => r vs H1 Q
/-- f(e, ..), f a built-in function -/
theorem pe_callB (hc : CallR X (.builtin id) r) (hg : Gl X x) (hm : X.mg x = none) (hv : bootBuiltins x = some (.builtin id)) (ha : PA X (e :: es) t) (hn : x ≠ "__name__" := by decide) (hdb : (x == ("__debug__" : Str)) = false := by decide)
    (he : starEach (e :: es) X.env = (false, eval e X.env) :: starEach es X.env := by rfl) (hpl : (backTo pos (starEach es X.env)).any (·.1) = false := by rfl) : PE X (.Call (.Name x p) (e :: es) [] pos) (tCB r t) := by
  intro pins s σ H Q I h
  refine wpAny_Call_Name_kw (ld_blt I hg hm hv ?_ hn hdb)
  exact PyProof.Rows.callWith_builtin1 (thn (ha pos pins s σ H _ I h) fun us s1 ⟨vs, H1, I1, r1, q1⟩ => hc pins s1 σ H1 vs us Q I1 r1 q1) he hpl
/-- T(e, ..), T a built-in type -/
theorem pe_callTy (hc : CallR X (.type T) r) (hg : Gl X x) (hm : X.mg x = none) (hv : bootBuiltins x = some (.type T)) (ha : PA X (e :: es) t) (hn : x ≠ "__name__" := by decide) (hdb : (x == ("__debug__" : Str)) = false := by decide)
    (he : starEach (e :: es) X.env = (false, eval e X.env) :: starEach es X.env := by rfl) (hpl : (backTo pos (starEach es X.env)).any (·.1) = false := by rfl) : PE X (.Call (.Name x p) (e :: es) [] pos) (tCB r t) := by
  intro pins s σ H Q I h
  refine wpAny_Call_Name_kw (ld_blt I hg hm hv ?_ hn hdb)
  exact PyProof.Rows.callWith_type1 (thn (ha pos pins s σ H _ I h) fun us s1 ⟨vs, H1, I1, r1, q1⟩ => hc pins s1 σ H1 vs us Q I1 r1 q1) he hpl
/-- T() -/
theorem pe_callTy0 (hc : CallR X (.type T) r) (hg : Gl X x) (hm : X.mg x = none) (hv : bootBuiltins x = some (.type T)) (hn : x ≠ "__name__" := by decide) (hdb : (x == ("__debug__" : Str)) = false := by decide) :
    PE X (.Call (.Name x p) [] [] pos) (tCB r tNil) := by
  intro pins s σ H Q I h
  refine wpAny_Call_Name_kw (ld_blt I hg hm hv ?_ hn hdb)
  exact PyProof.Rows.callWith_type0 (hc pins s σ H [] [] Q I .nil h)
end
end L2

namespace HT
open PySem PyProof.Rows

/-- t < u of tuples of ints -/
def lexLt : List Int → List Int → Bool
  | [], [] => false
  | [], _ :: _ => true
  | _ :: _, [] => false
  | x :: xs, y :: ys => if x = y then lexLt xs ys else decide (x < y)
theorem lexLt_cons (x y : Int) (xs ys : List Int) : lexLt (x :: xs) (y :: ys) = if x = y then lexLt xs ys else decide (x < y) := rfl
theorem lexLt_nil_nil : lexLt [] [] = false := rfl
theorem lexLt_nil_cons (y : Int) (ys : List Int) : lexLt [] (y :: ys) = true := rfl
theorem lexLt_cons_nil (x : Int) (xs : List Int) : lexLt (x :: xs) [] = false := rfl

theorem eqAt_int (A : Around) (s : Shared) (a : Int) (t : Tok) (c : Int) (u : Tok) : ∃ e, SeqAt.EqAt A s (.int a t) (.int c u) e ∧ (e = true ↔ a = c) :=
  ⟨(a == c), SeqAt.EqAt.int_int a t c u, by simp⟩
theorem rcLt_int (A : Around) (s : Shared) (a : Int) (t : Tok) (c : Int) (u : Tok) (prog : Program) (w : World) (E : Value → Shared → Prop) (Q : Value → Shared → Prop) (h : Q (.bool (decide (a < c))) s) :
    wpAny (model prog w) A (richCompare .Lt (.int a t) (.int c u)) Q E s :=
  (PyProof.Rows.lt_int h : wpAny (model prog w) A (compareOp .Lt (.int a t) (.int c u)) Q E s)

section
open PySem.SeqAt
open PySem.AutoSeq1 (wpAny_loadPart')
open PySem.MeetsSeq PySem.MeetsSeq2 PySem.MeetsSeq3

theorem tuple_lt_ints (l b : Addr) (items items2 : Array Value) (n n2 : Nat) (dd dd2 : Option Addr) (sl sl2 : Array (Option Value)) (ns ms : List Int) (hi : IntsAre items.toList ns) (hj : IntsAre items2.toList ms) :
    Meets (Builtin.«tuple.__lt__» ⟨[.ref l, .ref b], []⟩)
      (fun _ R s => s.heap.get? l = some { cls := .type "tuple", dict := dd, data := .seq items n, slots := sl } ∧ s.heap.get? b = some { cls := .type "tuple", dict := dd2, data := .seq items2 n2, slots := sl2 } ∧
        R (.ok (.ret (.bool (lexLt ns ms)))) s) :=
  .of_wp fun prog w A R s h => by
    obtain ⟨hp, g, d, tk, os⟩ := s; obtain ⟨hl, hb, h⟩ := h
    have f2 := AutoSeq1.sub_tuple_tuple
    have z1 : items.size = ns.length := by rw [← hi.length]; simp
    have z2 : items2.size = ms.length := by rw [← hj.length]; simp
    wp_walk using wpAny_loadPart' hl, wpAny_loadPart' hb, wpAny_forIn_list _ (fun rest b s' => b.1 = none ∧ s' = ⟨hp, g, d, tk, os⟩ ∧ ∃ (vs ws : List Value) (ns' ms' : List Int), rest = vs.zip ws ∧
      IntsAre vs ns' ∧ IntsAre ws ms' ∧ ns'.length + items2.size = ms'.length + items.size ∧ R (.ok (.ret (.bool (lexLt ns' ms')))) ⟨hp, g, d, tk, os⟩) _
    case turn =>
      rintro ⟨y, x⟩ rest b s' ⟨hb', rfl, vs, ws, ns', ms', hz, hvi, hwi, hlen, hR⟩
      cases hvi with
      | nil => rw [List.zip_nil_left] at hz; cases hz
      | cons a t hvi' =>
        cases hwi with
        | nil => rw [List.zip_nil_right] at hz; cases hz
        | cons c u hwi' =>
          rw [List.zip_cons_cons] at hz
          injection hz with hyx hrest
          injection hyx with hy hx
          subst hy hx
          rw [lexLt_cons] at hR
          simp only [List.length_cons] at hlen
          obtain ⟨e, he, hiff⟩ := eqAt_int A.in1 ⟨hp, g, d, tk, os⟩ a t c u
          refine wpAny_bind (he prog w _ _ ?_)
          cases e with
          | true =>
            rw [if_pos (hiff.mp rfl)] at hR
            wp_walk
            exact ⟨rfl, rfl, _, _, _, _, hrest, hvi', hwi', by omega, hR⟩
          | false =>
            rw [if_neg (fun q => absurd (hiff.mpr q) Bool.false_ne_true)] at hR
            have hri := rcLt_int A.in1 ⟨hp, g, d, tk, os⟩ a t c u prog w
            wp_walk using hri
            exact ⟨_, rfl, by simpa using hR⟩
    case fin =>
      rintro ⟨b1, b2⟩ s' ⟨hb', rfl, vs, ws, ns', ms', hz, hvi, hwi, hlen, hR⟩
      simp only at hb'
      subst hb'
      have hv : lexLt ns' ms' = decide (items.size < items2.size) := by
        cases hvi with
        | nil =>
          cases hwi with
          | nil =>
            simp only [List.length_nil] at hlen
            rw [lexLt_nil_nil]
            exact (decide_eq_false (by omega)).symm
          | cons c u hw =>
            simp only [List.length_nil, List.length_cons] at hlen
            rw [lexLt_nil_cons]
            exact (decide_eq_true (by omega)).symm
        | cons a t hv =>
          cases hwi with
          | nil =>
            simp only [List.length_nil, List.length_cons] at hlen
            rw [lexLt_cons_nil]
            exact (decide_eq_false (by omega)).symm
          | cons c u hw =>
            rw [List.zip_cons_cons] at hz
            cases hz
      rw [hv] at hR
      wp_walk
      exact ⟨_, rfl, by simpa [Builtin.Tuple.tupleCompareSizes] using hR⟩
    case h =>
      exact ⟨rfl, rfl, items.toList, items2.toList, ns, ms, rfl, hi, hj, by omega, h⟩
end

section
variable {prog : Program} {w : World} {A : Around} {E : Value → Shared → Prop} {s : Shared}

theorem lt_tupInts {l b : Addr} {items items2 : Array Value} {ns ms : List Int} {Q : Value → Shared → Prop} (hl : IsTup s.heap l items) (hb : IsTup s.heap b items2) (hi : IntsAre items.toList ns) (hj : IntsAre items2.toList ms)
    (hu : A.units < cLine) (h : Q (.bool (lexLt ns ms)) s) : wpAny (model prog w) A (compareOp .Lt (.ref l) (.ref b)) Q E s := by
  obtain ⟨⟨cls, dd, data, sl⟩, ho, hc, n, hd⟩ := id hl
  obtain ⟨⟨cls2, dd2, data2, sl2⟩, ho2, hc2, n2, hd2⟩ := id hb
  simp only at hc hd hc2 hd2
  subst hc hd hc2 hd2
  exact richCompare_meets_room (op := .Lt) ⟨_, ho, rfl⟩ ⟨_, ho2, rfl⟩ PySem.F.slot_tuple_lt PySem.F.entry_tuple_lt (PySem.F.args_tuple_lt_2 _ _) (tuple_lt_ints l b items items2 n n2 dd dd2 sl sl2 ns ms hi hj)
    ⟨ho, ho2, show Value.bool (lexLt ns ms) ≠ Value.notImplemented ∧ Q (.bool (lexLt ns ms)) s from ⟨(fun x => nomatch x), h⟩⟩ hu

/-- t + u, t not empty -/
theorem cat_tup {t b : Addr} {vs ws : List Value} {Q : Value → Shared → Prop} (ht : IsTup s.heap t vs.toArray) (hb : IsTup s.heap b ws.toArray) (hv : vs ≠ [])
    (h1 : ws = [] → Q (.ref t) s) (h2 : ws ≠ [] → Q (.ref s.heap.objs.size) { s with heap := s.heap.push { cls := .type "tuple", data := .seq (vs ++ ws).toArray } })
    (hsz : vs.length + ws.length ≤ sizeLine) : wpAny (model prog w) A (binaryOp .Add (.ref t) (.ref b)) Q E s := by
  obtain ⟨⟨cls, dd, data, sl⟩, ho, hc, n, hd⟩ := id ht
  obtain ⟨⟨cls2, dd2, data2, sl2⟩, ho2, hc2, n2, hd2⟩ := id hb
  simp only at hc hd hc2 hd2
  subst hc hd hc2 hd2
  have e : vs.toArray ++ ws.toArray = (vs ++ ws).toArray := by simp
  by_cases hw : ws = []
  · exact concat_meets ⟨_, ho, rfl⟩ ⟨_, ho2, rfl⟩ noFill_tuple_add seq_tuple_add PySem.F.slot_tuple_add PySem.F.entry_tuple_add (PySem.F.args_tuple_add_2 _ _)
      (tuple_addW1 t b vs.toArray ws.toArray n n2 dd dd2 sl sl2 (by simpa using hv) (by simp [hw])) ⟨ho, ho2, h1 hw⟩
  · refine concat_meets ⟨_, ho, rfl⟩ ⟨_, ho2, rfl⟩ noFill_tuple_add seq_tuple_add PySem.F.slot_tuple_add PySem.F.entry_tuple_add (PySem.F.args_tuple_add_2 _ _)
      (tuple_addW2 t b vs.toArray ws.toArray n n2 dd dd2 sl sl2 (by simpa using hv) (by simpa using hw) (by rw [List.size_toArray, List.size_toArray]; exact hsz)) ⟨ho, ho2, ?_⟩
    rw [e]
    exact h2 hw

/-! ### t[a:b], not the whole -/
/-- a slice's bound as a place among n (d where it is left out) -/
def sIx (n d : Nat) : Option Int → Nat
  | none => d
  | some v => if v < 0 then (v + (n : Int)).toNat else min v.toNat n
theorem sIx_none (n d : Nat) : sIx n d none = d := rfl
theorem sIx_nat (n d k : Nat) : sIx n d (some (k : Int)) = min k n := by
  show (if (k : Int) < 0 then ((k : Int) + (n : Int)).toNat else min (k : Int).toNat n) = min k n
  rw [if_neg (by omega), Int.toNat_natCast]
theorem sIx_le (n d : Nat) (hd : d ≤ n) (o : Option Int) : sIx n d o ≤ n := by
  cases o with
  | none => exact hd
  | some v =>
    show (if v < 0 then (v + (n : Int)).toNat else min v.toNat n) ≤ n
    by_cases hv : v < 0
    · rw [if_pos hv]; omega
    · rw [if_neg hv]; exact Nat.min_le_right _ _
theorem clip_eq (v : Int) (n d : Nat) : (if v < 0 then max (v + (n : Int)) 0 else min v (n : Int)) = ((sIx n d (some v) : Nat) : Int) := by
  show (if v < 0 then max (v + (n : Int)) 0 else min v (n : Int)) = (((if v < 0 then (v + (n : Int)).toNat else min v.toNat n) : Nat) : Int)
  by_cases hv : v < 0
  · simp only [if_pos hv]; omega
  · simp only [if_neg hv]; omega
theorem adjust_gen (lo hi : Option Int) (n : Nat) : Builtin.Slice.sliceAdjust lo hi 1 (n : Int) = (((sIx n 0 lo : Nat) : Int), ((sIx n n hi : Nat) : Int)) := by
  have h1 : ¬ ((1 : Int) < 0) := by omega
  unfold Builtin.Slice.sliceAdjust
  simp only [h1, if_false]
  refine Prod.ext ?_ ?_
  · cases lo with
    | none => rfl
    | some v => exact clip_eq v n 0
  · cases hi with
    | none => rfl
    | some v => exact clip_eq v n n
theorem places_gen (i j : Nat) : Builtin.Slice.slicePlaces (i : Int) (j : Int) 1 = j - i := by
  unfold Builtin.Slice.slicePlaces
  have h1 : (1 : Int) > 0 := by omega
  simp only [h1, if_true, Int.ediv_one]
  split <;> omega
theorem slicePart_ {v : Value} {o : Option Int} {Q : Option Int → Shared → Prop} (p : IsPart v o) (h : Q o s) : wpAny (model prog w) A (Builtin.Slice.slicePartIndex v) Q E s := by
  cases p with
  | none => exact slicePart_none h
  | int i t => exact slicePart_int h
theorem sliceApplied_gen {sl : Addr} {vl vu : Value} {lo hi : Option Int} {n : Nat} {Q : Int × Int × Nat → Shared → Prop} (hs : s.heap.IsSliceOf sl vl vu .none) (pl : IsPart vl lo) (pu : IsPart vu hi)
    (h : Q (((sIx n 0 lo : Nat) : Int), 1, sIx n n hi - sIx n 0 lo) s) : wpAny (model prog w) A (Builtin.Slice.sliceApplied (.ref sl) (pure (n : Int))) Q E s := by
  obtain ⟨os, hos, hcs, hds⟩ := id hs
  unfold Builtin.Slice.sliceApplied Builtin.Slice.sliceFields
  refine wpAny_bind (wpAny_bind (wpAny_field hos hds (x := vl) rfl (wpAny_bind (wpAny_field hos hds (x := vu) rfl (wpAny_bind (wpAny_field hos hds (x := .none) rfl (wpAny_pure ?_)))))))
  refine wpAny_bind (slicePart_none ?_)
  show wpAny _ _ (if ((1 : Int) == 0) = true then _ else _) _ _ s
  rw [if_neg (by decide)]
  refine wpAny_bind (slicePart_ pl (wpAny_bind (slicePart_ pu (wpAny_bind (wpAny_pure ?_)))))
  show wpAny _ _ (match Builtin.Slice.sliceAdjust lo hi 1 (n : Int) with | (lo, hi) => pure (lo, (1 : Int), Builtin.Slice.slicePlaces lo hi 1)) _ _ s
  rw [adjust_gen lo hi n]
  show wpAny _ _ (pure (((sIx n 0 lo : Nat) : Int), (1 : Int), Builtin.Slice.slicePlaces ((sIx n 0 lo : Nat) : Int) ((sIx n n hi : Nat) : Int) 1)) _ _ s
  rw [places_gen]
  exact wpAny_pure h
theorem pick_gen (xs : Array Value) (i k : Nat) : ((List.range k).filterMap fun (m : Nat) => xs[((i : Int) + (m : Int) * 1).toNat]?).toArray = ((xs.toList.drop i).take k).toArray := by
  have e : (fun (m : Nat) => xs[((i : Int) + (m : Int) * 1).toNat]?) = fun m => xs[i + m]? := by
    funext m
    have : ((i : Int) + (m : Int) * 1).toNat = i + m := by omega
    rw [this]
  rw [e]
  have := pick_run xs i k
  rw [List.filterMap_map] at this
  have e2 : ((fun x => xs[x]?) ∘ fun x => i + x) = fun m => xs[i + m]? := rfl
  rw [e2] at this
  rw [this]

theorem getItem_tuple_cut {t sl : Addr} {items : Array Value} {vl vu : Value} {lo hi : Option Int} {Q : Value → Shared → Prop} (ht : IsTup s.heap t items) (hs : s.heap.IsSliceOf sl vl vu .none) (pl : IsPart vl lo) (pu : IsPart vu hi)
    (hw : ¬ (sIx items.size 0 lo = 0 ∧ sIx items.size items.size hi = items.size))
    (h : Q (.ref s.heap.objs.size) { s with heap := s.heap.push { cls := .type "tuple", data := .seq ((items.toList.drop (sIx items.size 0 lo)).take (sIx items.size items.size hi - sIx items.size 0 lo)).toArray } })
    (hsz : items.size ≤ sizeLine) : wpAny (model prog w) A (getItem (.ref t) (.ref sl)) Q E s := by
  have htake : sizeOk (.seq ((items.toList.drop (sIx items.size 0 lo)).take (sIx items.size items.size hi - sIx items.size 0 lo)).toArray) := by
    show ((items.toList.drop (sIx items.size 0 lo)).take (sIx items.size items.size hi - sIx items.size 0 lo)).toArray.size ≤ sizeLine
    rw [List.size_toArray, List.length_take, List.length_drop, Array.length_toList]
    omega
  have hj : sIx items.size items.size hi ≤ items.size := sIx_le _ _ (Nat.le_refl _) hi
  obtain ⟨os, hos, hcs, hds⟩ := id hs
  have hTs : s.TypeIs (.ref sl) "slice" := ⟨os, hos, hcs⟩
  unfold getItem
  try with_reducible refine wpAny_holding ?_
  first | refine wpAny_bind (wpAny_pure ?_) | skip
  refine wpAny_bind (wpAny_sequenceKey ht.typeIs (by decide) ?_)
  refine wpAny_bind (wpAny_callSpecial?_slot (name := Str.ofString "__getitem__") ht.typeIs PyProof.Rows.slot_tuple_getitem
    (wpAny_call_entry PyProof.Rows.slot_tuple_getitem ht.typeIs entry_tuple_getitem ?_ (args_tuple_getitem _ _)))
  show wpAny _ _ (Builtin.Tuple.tupleItemsOf (.ref t) >>= _) _ _ s
  refine wpAny_bind (tupleItemsOf_ ht ?_)
  refine wpAny_bind (wpAny_typeOf hTs ?_)
  rw [if_pos (by decide)]
  refine wpAny_bind (sliceApplied_gen hs pl pu ?_)
  have hno : ¬ ((((sIx items.size 0 lo : Nat) : Int) == 0 && (1 : Int) == 1 && (sIx items.size items.size hi - sIx items.size 0 lo) == items.size) = true) := by
    intro q
    rw [Bool.and_eq_true, Bool.and_eq_true] at q
    have q1 : ((sIx items.size 0 lo : Nat) : Int) = 0 := eq_of_beq q.1.1
    have q2 : sIx items.size items.size hi - sIx items.size 0 lo = items.size := eq_of_beq q.2
    exact hw ⟨by omega, by omega⟩
  show wpAny _ _ (if (((sIx items.size 0 lo : Nat) : Int) == 0 && (1 : Int) == 1 && (sIx items.size items.size hi - sIx items.size 0 lo) == items.size) = true then _ else _) _ _ s
  rw [if_neg hno, pick_gen]
  first
    | exact wpAny_bind (m := Builtin.Tuple.tupleExact _) (wpAny_newObj_type (wpAny_pure ⟨_, rfl, wpAny_pure h⟩) htake)
    | exact wpAny_bind (m := Builtin.Tuple.tupleExact _) (wpAny_newObj_type (wpAny_bind (wpAny_pure (wpAny_pure ⟨_, rfl, wpAny_pure h⟩))) htake)
    | exact wpAny_bind (wpAny_bind (m := Builtin.Tuple.tupleExact _) (wpAny_newObj_type (wpAny_pure (wpAny_pure ⟨_, rfl, wpAny_pure h⟩)) htake))
    | exact wpAny_bind (wpAny_bind (m := Builtin.Tuple.tupleExact _) (wpAny_newObj_type (wpAny_pure ⟨_, rfl, wpAny_pure h⟩) htake))
end
end HT

namespace L2
open PySem PySem.Spec PyProof.Rows

/-! ### the parts of a slice -/
abbrev TO := St → Hp → (Option Int → Hp → Prop) → Prop
/-- a slice's part (left out, or an int) -/
def PO (X : Cx) (e : Option Expr) (t : TO) : Prop :=
  ∀ (pins : List (Addr × Obj)) (s : Shared) (σ : St) (H : Hp) (Q : Option Int → Hp → Prop), Inv X pins σ H s → t σ H Q →
    wpAny (model X.prog X.w) X.A (evalPart e X.env) (fun u s' => ∃ o H', Inv X pins σ H' s' ∧ IsPart u o ∧ Q o H') X.xe s
def tNoPart : TO := fun _ H Q => Q none H
def tPart (t : TE) : TO := fun σ H Q => t σ H fun x H1 => ∃ i, x = .int i ∧ Q (some i) H1

theorem intsAre_of {ns : List Int} : ∀ {us : List Value}, Vals (ns.map V.int) us → IntsAre us ns := by
  induction ns with
  | nil => intro us r; rw [List.map_nil] at r; cases r; exact .nil
  | cons n ns ih =>
    intro us r
    rw [List.map_cons] at r
    cases r with
    | cons r1 r2 =>
      obtain ⟨t, e⟩ := r1
      subst e
      exact .cons n t (ih r2)

section
variable {X : Cx} {e : Expr} {te : TE} {lo hi : Option Expr} {tl th : TO} {pos p2 : Pos}

theorem po_none : PO X none tNoPart := by
  intro pins s σ H Q I h
  rw [evalPart_none]
  exact wpAny_pure ⟨none, H, I, .none, h⟩
theorem po_some (h : PE X e te) : PO X (some e) (tPart te) := by
  intro pins s σ H Q I hw
  rw [evalPart_some]
  refine thn (h pins s σ H _ I hw) fun u s1 ⟨x, H1, I1, r1, q1⟩ => ?_
  obtain ⟨i, rfl, q⟩ := q1
  obtain ⟨t, rfl⟩ := r1
  exact ⟨some i, H1, I1, .int i t, q⟩

/-- what a slice of a value is, by values: the slice object stands at sl -/
def SlR (X : Cx) (r : V → Option Int → Option Int → Hp → VK → Prop) : Prop :=
  ∀ (pins : List (Addr × Obj)) (s : Shared) (σ : St) (H : Hp) (x : V) (v vl vu : Value) (lo hi : Option Int) (sl : Addr) (Q : VK), Inv X pins σ H s → RelV x v → s.heap.IsSliceOf sl vl vu .none → IsPart vl lo → IsPart vu hi → r x lo hi H Q →
    ∃ T id, typeLookup (.type T) "__getitem__" = pure (some (.builtin id)) ∧ s.TypeIs v T ∧ wpAny (model X.prog X.w) X.A (getItem v (.ref sl)) (EP X pins σ Q) X.xe s
theorem SlR.or {r r' : V → Option Int → Option Int → Hp → VK → Prop} (h : SlR X r) (h' : SlR X r') : SlR X (fun x lo hi H Q => r x lo hi H Q ∨ r' x lo hi H Q) := by
  intro pins s σ H x v vl vu lo hi sl Q I rx hs pl pu q
  rcases q with q | q
  · exact h pins s σ H x v vl vu lo hi sl Q I rx hs pl pu q
  · exact h' pins s σ H x v vl vu lo hi sl Q I rx hs pl pu q
def tSl (r : V → Option Int → Option Int → Hp → VK → Prop) (te : TE) (tl th : TO) : TE := fun σ H Q => te σ H fun x H1 => tl σ H1 fun l H2 => th σ H2 fun u H3 => r x l u H3 Q
/-- a[lo:hi], any a -/
theorem pe_slice {r : V → Option Int → Option Int → Hp → VK → Prop} (hr : SlR X r) (he : PE X e te) (hl : PO X lo tl) (hu : PO X hi th) : PE X (.Subscript e (.Slice lo hi none p2) pos) (tSl r te tl th) := by
  intro pins s σ H Q I h
  refine Subscript_ (thn (he pins s σ H _ I h) fun v s1 ⟨x, H1, I1, r1, q1⟩ => ?_)
  refine wpAny_Slice (thn (hl pins s1 σ H1 _ I1 q1) fun vl s2 ⟨l, H2, I2, pl, q2⟩ => thn (hu pins s2 σ H2 _ I2 q2) fun vu s3 ⟨u, H3, I3, pu, q3⟩ => ?_)
  rw [evalPart_none]
  refine wpAny_pure ?_
  have I4 : Inv X pins σ H3 { s3 with heap := s3.heap.push { cls := .type "slice", data := .fields #[vl, vu, .none] } } := I3.kept (t' := s3.toks) fun b ob q => Heap.get?_push_of_some _ q
  obtain ⟨T, id, hT, ht, hg⟩ := hr pins { s3 with heap := s3.heap.push { cls := .type "slice", data := .fields #[vl, vu, .none] } } σ H3 x v vl vu l u s3.heap.objs.size Q I4 r1 (Heap.IsSliceOf.new ..) pl pu q3
  show wpAny (model X.prog X.w) X.A (subscriptTail e (.Slice lo hi none p2) v (.ref s3.heap.objs.size)) (EP X pins σ Q) X.xe { s3 with heap := s3.heap.push { cls := .type "slice", data := .fields #[vl, vu, .none] } }
  exact tail_any (ops := [.ref s3.heap.objs.size, v]) ht hT hg (by with_unfolding_all rfl)

/-- the items of xs[lo:hi] -/
def cutV (xs : List V) (lo hi : Option Int) : List V := (xs.drop (HT.sIx xs.length 0 lo)).take (HT.sIx xs.length xs.length hi - HT.sIx xs.length 0 lo)
theorem cutV_length (xs : List V) (lo hi : Option Int) : (cutV xs lo hi).length ≤ xs.length := by
  unfold cutV
  rw [List.length_take, List.length_drop]
  omega
/-- t[lo:hi], not the whole of it (the whole would be t itself) -/
def rSlT (K : PySem.W.Frag) : V → Option Int → Option Int → Hp → VK → Prop := fun x lo hi H Q => ∃ a xs, x = .ref a ∧ SqT K H a xs ∧
  ¬ (HT.sIx xs.length 0 lo = 0 ∧ HT.sIx xs.length xs.length hi = xs.length) ∧ ∀ p, H p = none → Q (.ref p) (upd H p (.tup (cutV xs lo hi)))
theorem sl_tup : SlR X (rSlT X.K) := by
  intro pins s σ H x v vl vu lo hi sl Q I rx hs pl pu h
  obtain ⟨a, xs, rfl, hx, hw, q⟩ := h
  cases rx
  obtain ⟨its, r, ht, hz⟩ := I.tuple hx
  have hlen : its.toArray.size = xs.length := by rw [List.size_toArray]; exact r.length.symm
  refine ⟨"tuple", _, PyProof.Rows.slot_tuple_getitem.lookup, ht.typeIs, ?_⟩
  refine HT.getItem_tuple_cut ht hs pl pu (by rw [hlen]; exact hw) ?_ (by rw [hlen]; exact hz)
  rw [hlen]
  refine ⟨.ref s.heap.objs.size, _, I.laid (t' := s.toks) (o := .tup (cutV xs lo hi)) (fun b ob q => Heap.get?_push_of_some _ q) (Nat.le_refl _) ?_, rfl, q _ (I.hok.fresh (Nat.le_refl _))⟩
  exact ⟨Nat.le_trans (cutV_length xs lo hi) hz, _, (r.drop (HT.sIx xs.length 0 lo)).take (HT.sIx xs.length xs.length hi - HT.sIx xs.length 0 lo), IsTup.new _ _⟩

/-! ### t < u, t + u -/
def rLtT (K : PySem.W.Frag) : R2 := fun x y H Q => ∃ a b ns ms, x = .ref a ∧ y = .ref b ∧ SqT K H a (ns.map V.int) ∧ SqT K H b (ms.map V.int) ∧ Q (.bl (HT.lexLt ns ms)) H
theorem op_ltT (hu : X.A.units < cLine) : OpR X (compareOp .Lt) (rLtT X.K) := by
  intro pins s σ H x y v u Q I rx ry h
  obtain ⟨a, b, ns, ms, rfl, rfl, ha, hb, q⟩ := h
  cases rx
  cases ry
  obtain ⟨its, r1, p1, _⟩ := I.tuple ha
  obtain ⟨its2, r2, p2, _⟩ := I.tuple hb
  have i1 : IntsAre its.toArray.toList ns := intsAre_of r1
  have i2 : IntsAre its2.toArray.toList ms := intsAre_of r2
  exact HT.lt_tupInts p1 p2 i1 i2 hu ⟨.bl (HT.lexLt ns ms), H, I, rfl, q⟩
/-- t + u, t not empty: u empty gives t itself -/
def rCatT (K : PySem.W.Frag) : R2 := fun x y H Q => ∃ a b xs ys, x = .ref a ∧ y = .ref b ∧ SqT K H a xs ∧ SqT K H b ys ∧ xs ≠ [] ∧ xs.length + ys.length ≤ sizeLine ∧
  (ys = [] → Q (.ref a) H) ∧ (ys ≠ [] → ∀ p, H p = none → Q (.ref p) (upd H p (.tup (xs ++ ys))))
theorem Vals.nil_iff {xs : List V} {us : List Value} (r : Vals xs us) : us = [] ↔ xs = [] := by
  cases r with
  | nil => simp
  | cons _ _ => simp
theorem op_catT : OpR X (binaryOp .Add) (rCatT X.K) := by
  intro pins s σ H x y v u Q I rx ry h
  obtain ⟨a, b, xs, ys, rfl, rfl, ha, hb, hx, hz, q1, q2⟩ := h
  cases rx
  cases ry
  obtain ⟨its, r1, p1, _⟩ := I.tuple ha
  obtain ⟨its2, r2, p2, _⟩ := I.tuple hb
  refine HT.cat_tup p1 p2 (fun z => hx (r1.nil_iff.mp z)) (fun z => ⟨.ref a, H, I, rfl, q1 (r2.nil_iff.mp z)⟩) (fun z => ?_) (by rw [← r1.length, ← r2.length]; exact hz)
  refine ⟨.ref s.heap.objs.size, _, I.laid (t' := s.toks) (o := .tup (xs ++ ys)) (fun b ob q => Heap.get?_push_of_some _ q) (Nat.le_refl _) ?_, rfl, q2 (fun w => z (r2.nil_iff.mpr w)) _ (I.hok.fresh (Nat.le_refl _))⟩
  exact ⟨by rw [List.length_append]; exact hz, _, r1.append r2, IsTup.new _ _⟩
/-- tuple(t) -/
theorem call_tupleT : CallR X (.type "tuple") (fun xs H Q => ∃ a ys, xs = [.ref a] ∧ SqT X.K H a ys ∧ Q (.ref a) H) := by
  intro pins s σ H xs us Q I r h
  obtain ⟨a, ys, rfl, ha, q⟩ := h
  obtain ⟨u, rfl, ru⟩ := vals1 r
  cases ru
  obtain ⟨its, _, p1, _⟩ := I.tuple ha
  exact call_tuple_same (items := its.toArray) p1 ⟨.ref a, H, I, rfl, q⟩
end
end L2

namespace L2
open PySem PySem.Spec PyProof.Rows

/-! ### places -/
/-- the place that an index of any sign means -/
def ixN (n : Nat) (i : Int) : Option Nat := if 0 ≤ i then (if i < n then some i.toNat else none) else if -(n : Int) ≤ i then some (i + n).toNat else none
def atI {α : Type} (xs : List α) (i : Int) : Option α := (ixN xs.length i).bind fun j => xs[j]?
theorem ixN_seq {n : Nat} {i : Int} {j : Nat} (h : ixN n i = some j) : seqIndex? i n = some j ∧ j < n ∧ -(n : Int) ≤ i ∧ i < n := by
  unfold ixN at h
  by_cases h0 : 0 ≤ i
  · rw [if_pos h0] at h
    by_cases h1 : i < n
    · rw [if_pos h1] at h
      have e : i.toNat = j := Option.some.inj h
      exact ⟨by rw [seqIndex_of h0 h1, e], by omega, by omega, h1⟩
    · rw [if_neg h1] at h; cases h
  · rw [if_neg h0] at h
    by_cases h1 : -(n : Int) ≤ i
    · rw [if_pos h1] at h
      have e : (i + n).toNat = j := Option.some.inj h
      exact ⟨by rw [seqIndex_neg (by omega) h1, e], by omega, h1, by omega⟩
    · rw [if_neg h1] at h; cases h
theorem atI_get {α : Type} {xs : List α} {i : Int} {v : α} (h : atI xs i = some v) : ∃ j, seqIndex? i xs.length = some j ∧ xs[j]? = some v ∧ j < xs.length ∧ -(xs.length : Int) ≤ i ∧ i < xs.length := by
  unfold atI at h
  cases e : ixN xs.length i with
  | none => rw [e] at h; cases h
  | some j =>
    rw [e] at h
    obtain ⟨h1, h2, h3, h4⟩ := ixN_seq e
    exact ⟨j, h1, h, h2, h3, h4⟩
theorem atI_nat {α : Type} {xs : List α} {j : Nat} {v : α} (h : xs[j]? = some v) : atI xs (j : Int) = some v := by
  have hj : j < xs.length := (List.getElem?_eq_some_iff.mp h).1
  have e : ixN xs.length (j : Int) = some j := by
    unfold ixN
    rw [if_pos (by omega), if_pos (by omega)]; simp
  unfold atI; rw [e]; exact h
theorem atI_last {α : Type} (xs : List α) (v : α) : atI (xs ++ [v]) (-1) = some v := by
  have hl : (xs ++ [v]).length = xs.length + 1 := by simp
  have e : ixN (xs ++ [v]).length (-1) = some xs.length := by
    unfold ixN
    rw [hl, if_neg (by decide), if_pos (by omega)]
    congr 1
    omega
  unfold atI
  rw [e]
  show (xs ++ [v])[xs.length]? = some v
  simp

/-! ### what may be subscripted -/
/-- what stands as an index of a plain subscript -/
def PlainIx (b : Expr) : Prop := ∀ o i, subscripted b false o i = operate [o, i] (getItem o i)
/-- a subscript by values -/
def IxR (X : Cx) (r : R2) : Prop :=
  ∀ (value slice : Expr) (pins : List (Addr × Obj)) (s : Shared) (σ : St) (H : Hp) (x y : V) (v u : Value) (Q : VK), Inv X pins σ H s → RelV x v → RelV y u → r x y H Q →
    subscripted slice false v u = operate [v, u] (getItem v u) → wpAny (model X.prog X.w) X.A (subscriptTail value slice v u) (EP X pins σ Q) X.xe s
/-- a call of a builtin's method by values: the receiver, the arguments -/
def MtR (X : Cx) (id : String) (r : V → List V → Hp → VK → Prop) : Prop :=
  ∀ (pins : List (Addr × Obj)) (s : Shared) (σ : St) (H : Hp) (x : V) (xs : List V) (v : Value) (us : List Value) (Q : VK), Inv X pins σ H s → RelV x v → Vals xs us → r x xs H Q →
    wpAny (model X.prog X.w) X.A (call (.builtin id) (v :: us)) (EP X pins σ Q) X.xe s
section
variable {X : Cx} {a b : Expr} {ta tb : TE} {pos : Pos}
theorem IxR.or {r r' : R2} (h : IxR X r) (h' : IxR X r') : IxR X (fun x y H Q => r x y H Q ∨ r' x y H Q) := by
  intro value slice pins s σ H x y v u Q I rx ry q hs
  rcases q with q | q
  · exact h value slice pins s σ H x y v u Q I rx ry q hs
  · exact h' value slice pins s σ H x y v u Q I rx ry q hs
theorem MtR.or {id : String} {r r' : V → List V → Hp → VK → Prop} (h : MtR X id r) (h' : MtR X id r') : MtR X id (fun x xs H Q => r x xs H Q ∨ r' x xs H Q) := by
  intro pins s σ H x xs v us Q I rx rs q
  rcases q with q | q
  · exact h pins s σ H x xs v us Q I rx rs q
  · exact h' pins s σ H x xs v us Q I rx rs q
/-- a[b] -/
theorem pe_ix {r : R2} (hr : IxR X r) (ha : PE X a ta) (hb : PE X b tb) (hs : PlainIx b) : PE X (.Subscript a b pos) (tOp r ta tb) := by
  intro pins s σ H Q I h
  exact Subscript_ (binT ha hb I h fun v u s2 x y H2 I2 rx ry q => hr a b pins s2 σ H2 x y v u Q I2 rx ry q (hs _ _))

def rIxL (K : PySem.W.Frag) : R2 := fun x y H Q => ∃ p xs i v, x = .ref p ∧ y = .int i ∧ SqL K H p xs ∧ atI xs i = some v ∧ Q v H
def rIxT (K : PySem.W.Frag) : R2 := fun x y H Q => ∃ p xs i v, x = .ref p ∧ y = .int i ∧ SqT K H p xs ∧ atI xs i = some v ∧ Q v H
def rIxS : R2 := fun x y H Q => ∃ z i c, x = .str z ∧ y = .int i ∧ z.length ≤ sizeLine ∧ atI z.cps.toList i = some c ∧ Q (.str ⟨#[c]⟩) H
theorem ix_list : IxR X (rIxL X.K) := by
  intro value slice pins s σ H x y v u Q I rx ry h hs
  obtain ⟨p, xs, i, z, rfl, rfl, hq, he, q⟩ := h
  cases rx
  obtain ⟨t, rfl⟩ := ry
  obtain ⟨its, r, pl, hz⟩ := I.list hq
  obtain ⟨j, h1, h2, h3, h4, h5⟩ := atI_get he
  obtain ⟨w, ew, rw'⟩ := r.get h2
  have hl := r.length
  have hn := line63
  have fin : EP X pins σ Q w s := ⟨z, H, I, rw', q⟩
  by_cases h0 : 0 ≤ i
  · have hj : i.toNat = j := by
      rw [seqIndex_of h0 h5] at h1
      exact Option.some.inj h1
    exact item_listR pl.isList h0 (by omega) (by rw [hj]; simpa using ew) fin hs
  · have hj : (i + (its.toArray.size : Int)).toNat = j := by
      rw [seqIndex_neg (by omega) h4] at h1
      rw [List.size_toArray, ← hl]
      exact Option.some.inj h1
    exact subscriptTail_builtinR (x := w) pl.isList.typeIs slot_list_getitem.lookup
      (wpAny_getItem_list_neg (Q := fun r s' => r = w ∧ EP X pins σ Q r s') pl.isList (by omega) (by rw [List.size_toArray] <;> omega) (by omega) (by rw [hj]; simpa using ew) ⟨rfl, fin⟩) hs
theorem ix_tup : IxR X (rIxT X.K) := by
  intro value slice pins s σ H x y v u Q I rx ry h hs
  obtain ⟨p, xs, i, z, rfl, rfl, hq, he, q⟩ := h
  cases rx
  obtain ⟨t, rfl⟩ := ry
  obtain ⟨its, r, pl, hz⟩ := I.tuple hq
  obtain ⟨j, h1, h2, h3, h4, h5⟩ := atI_get he
  obtain ⟨w, ew, rw'⟩ := r.get h2
  have hl := r.length
  have hn := line63
  have fin : EP X pins σ Q w s := ⟨z, H, I, rw', q⟩
  exact subscriptTail_builtinR (x := w) pl.typeIs slot_tuple_getitem.lookup
    (getItem_tuple (j := j) (Q := fun r s' => r = w ∧ EP X pins σ Q r s') pl (by omega) (by omega) (by rw [List.size_toArray, ← hl]; exact h1) (by simpa using ew) ⟨rfl, fin⟩) hs
theorem ix_str : IxR X rIxS := by
  intro value slice pins s σ H x y v u Q I rx ry h hs
  obtain ⟨z, i, c, rfl, rfl, hz, he, q⟩ := h
  obtain ⟨t, rfl⟩ := rx
  obtain ⟨t', rfl⟩ := ry
  obtain ⟨j, h1, h2, h3, h4, h5⟩ := atI_get he
  have hl : z.cps.toList.length = z.length := by simp [Str.length]
  rw [hl] at h1 h4 h5
  have hn := line63
  exact tail_any (typeIs_str s z t) slot_str_getitem.lookup (getItem_str (c := c) (by
    have e1 : decide (i < -(2 ^ 63 : Int)) = false := decide_eq_false (by omega)
    have e2 : decide (i ≥ 2 ^ 63) = false := decide_eq_false (by omega)
    rw [e1, e2, Bool.or_false]) (by rw [h1]; simpa using h2) ⟨.str ⟨#[c]⟩, H, I.tok _, ⟨_, rfl⟩, q⟩) hs
/-- list, tuple or str -/
def rIx (K : PySem.W.Frag) : R2 := fun x y H Q => rIxL K x y H Q ∨ rIxT K x y H Q ∨ rIxS x y H Q
theorem ix_seq : IxR X (rIx X.K) := ix_list.or (ix_tup.or ix_str)

/-! ### xs[i] = v, any sign -/
/-- the list's object behind a store -/
theorem mapSeq_set (its : List Value) (n j : Nat) (u : Value) : Obj.mapSeq (·.setIfInBounds j u) { cls := .type "list", data := .seq its.toArray n } = { cls := .type "list", data := .seq (its.set j u).toArray n } := by
  simp [Obj.mapSeq]
theorem Inv.lst {pins : List (Addr × Obj)} {σ : St} {H : Hp} {s : Shared} {p : Addr} {xs : List V} (I : Inv X pins σ H s) (h : H p = some (.lst xs)) :
    ∃ (its : List Value) (n : Nat), Vals xs its ∧ s.heap.get? p = some { cls := .type "list", data := .seq its.toArray n } ∧ xs.length ≤ sizeLine := by
  obtain ⟨z, its, n, r, e⟩ := I.hok p _ h
  exact ⟨its, n, r, e, z⟩
/-- the list at p is written by an update of its object -/
theorem Inv.lstUpd {pins : List (Addr × Obj)} {σ : St} {H : Hp} {s : Shared} {p : Addr} {xs ys : List V} {its its' : List Value} {n n' : Nat} {f : Obj → Obj} (I : Inv X pins σ H s) (h : H p = some (.lst xs))
    (ho : s.heap.get? p = some { cls := .type "list", data := .seq its.toArray n }) (hf : f { cls := .type "list", data := .seq its.toArray n } = { cls := .type "list", data := .seq its'.toArray n' }) (r : Vals ys its') (hz : ys.length ≤ sizeLine) (t : Nat) :
    Inv X pins σ (upd H p (.lst ys)) { s with heap := s.heap.update p f, toks := t } := by
  have e : (s.heap.update p f).get? p = some { cls := .type "list", data := .seq its'.toArray n' } := by
    rw [Heap.get?_update_self f ho (by rw [hf] <;> rfl), hf]
  refine I.write (x := p) (e := p) (by rw [h]; trivial) (.inl rfl) (fun b u hb q => (Heap.get?_update_other _ _ (Ne.symm hb)).trans q) ⟨_, e⟩ ?_
  exact ⟨hz, its', n', r, e⟩
def rSetL : V → V → V → Hp → (Hp → Prop) → Prop := fun o i v H Q => ∃ p xs k j, o = .ref p ∧ i = .int k ∧ H p = some (.lst xs) ∧ ixN xs.length k = some j ∧ Q (upd H p (.lst (xs.set j v)))
theorem set_list : PSet X rSetL := by
  intro pins s σ H o i v ov iv u Q I ro ri rv h
  obtain ⟨p, xs, k, j, rfl, rfl, hp, hj, q⟩ := h
  cases ro
  obtain ⟨t, rfl⟩ := ri
  obtain ⟨its, n, r, ho, hz⟩ := I.lst hp
  obtain ⟨h1, h2, h3, h4⟩ := ixN_seq hj
  have hl := r.length
  have hn := line63
  have I' : Inv X pins σ (upd H p (.lst (xs.set j v))) { s with heap := s.heap.update p (Obj.mapSeq (·.setIfInBounds j u)) } :=
    I.lstUpd hp ho (mapSeq_set its n j u) (r.set rv j) (by rw [List.length_set]; exact hz) s.toks
  by_cases h0 : 0 ≤ k
  · have hk : k.toNat = j := by
      rw [seqIndex_of h0 h4] at h1
      exact Option.some.inj h1
    exact PySem.W.ki_setAt ho h0 (by omega) (by rw [List.size_toArray, ← hl]; exact h4) (by rw [hk]; exact ⟨_, I', q⟩)
  · have hk : (k + (its.toArray.size : Int)).toNat = j := by
      rw [seqIndex_neg (by omega) h3] at h1
      rw [List.size_toArray, ← hl]
      exact Option.some.inj h1
    exact PySem.W.ki_setBack ho (by omega) (by rw [List.size_toArray, ← hl]; exact h3) (by omega) (by rw [hk]; exact ⟨_, I', q⟩)

/-! ### slices -/
theorem slice_bounds (lo hi : Option Int) (n : Nat) : (sliceBounds lo hi none n).1 = ((HT.sIx n 0 lo : Nat) : Int) ∧ (sliceBounds lo hi none n).2.1 = ((HT.sIx n n hi : Nat) : Int) ∧ (sliceBounds lo hi none n).2.2 = 1 := by
  refine ⟨?_, ?_, rfl⟩
  · cases lo with
    | none => simp [sliceBounds, HT.sIx]
    | some i =>
      simp only [sliceBounds, HT.sIx, Option.getD_none, show (1 : Int) > 0 by decide, if_true]
      by_cases h : i < 0
      · simp only [h, if_true] <;> omega
      · simp only [h, if_false] <;> omega
  · cases hi with
    | none => simp [sliceBounds, HT.sIx]
    | some i =>
      simp only [sliceBounds, HT.sIx, Option.getD_none, show (1 : Int) > 0 by decide, if_true]
      by_cases h : i < 0
      · simp only [h, if_true] <;> omega
      · simp only [h, if_false] <;> omega
theorem slicePick_cut (its : List Value) (lo hi : Option Int) : slicePick its.toArray lo hi none = ((its.drop (HT.sIx its.length 0 lo)).take (HT.sIx its.length its.length hi - HT.sIx its.length 0 lo)).toArray := by
  obtain ⟨h1, h2, h3⟩ := slice_bounds lo hi its.toArray.size
  unfold slicePick
  rw [h1, h2, h3]
  simp only [sliceRange_one, pick_run, List.size_toArray] <;> rfl
/-- xs[lo:hi] of a list: a new list -/
def rSlL (K : PySem.W.Frag) : V → Option Int → Option Int → Hp → VK → Prop := fun x lo hi H Q => ∃ a xs, x = .ref a ∧ SqL K H a xs ∧ ∀ p, H p = none → Q (.ref p) (upd H p (.lst (cutV xs lo hi)))
theorem sl_list : SlR X (rSlL X.K) := by
  intro pins s σ H x v vl vu lo hi sl Q I rx hs pl pu h
  obtain ⟨a, xs, rfl, hx, q⟩ := h
  cases rx
  obtain ⟨its, r, ht, hz⟩ := I.list hx
  have hlen := r.length
  refine ⟨"list", _, slot_list_getitem.lookup, ht.isList.typeIs, ?_⟩
  refine wpAny_getItem_list_slice ht.isList hs pl pu .none (by simp) ?_ (by rw [List.size_toArray] <;> omega)
  rw [slicePick_cut, ← hlen]
  refine ⟨.ref s.heap.objs.size, _, I.laid (t' := s.toks) (o := .lst (cutV xs lo hi)) (fun b ob q => Heap.get?_push_of_some _ q) (Nat.le_refl _) ?_, rfl, q _ (I.hok.fresh (Nat.le_refl _))⟩
  exact ⟨Nat.le_trans (cutV_length xs lo hi) hz, _, 0, (r.drop (HT.sIx xs.length 0 lo)).take (HT.sIx xs.length xs.length hi - HT.sIx xs.length 0 lo), Heap.get?_push_size _ rfl⟩

/-! ### in, not in: flat items -/
def flatV : V → Bool
  | .non => true
  | .bl _ => true
  | .int _ => true
  | .str _ => true
  | _ => false
/-- == of flat values -/
def eqV : V → V → Bool
  | .non, .non => true
  | .bl a, .bl b => a == b
  | .bl a, .int b => (if a then 1 else 0) == b
  | .int a, .bl b => a == (if b then 1 else 0)
  | .int a, .int b => a == b
  | .str a, .str b => a == b
  | _, _ => false
theorem eqAt_V {A : Around} {s : Shared} {y x : V} {u v : Value} (ry : RelV y u) (rx : RelV x v) (fy : flatV y = true) (fx : flatV x = true) : SeqAt.EqAt A s u v (eqV y x) := by
  cases y with
  | non =>
    cases ry
    cases x with
    | non => cases rx; exact SeqAt.EqAt.same _
    | bl b => cases rx; exact SeqAt.EqAt.none_bool b
    | int b => obtain ⟨t, rfl⟩ := rx; exact SeqAt.EqAt.none_int b t
    | str b => obtain ⟨t, rfl⟩ := rx; exact SeqAt.EqAt.none_str b t
    | _ => exact absurd (show false = true from fx) Bool.false_ne_true
  | bl a =>
    cases ry
    cases x with
    | non => cases rx; exact SeqAt.EqAt.bool_none a
    | bl b => cases rx; exact SeqAt.EqAt.bool_bool a b
    | int b => obtain ⟨t, rfl⟩ := rx; exact SeqAt.EqAt.bool_int a b t
    | str b => obtain ⟨t, rfl⟩ := rx; exact SeqAt.EqAt.bool_str a b t
    | _ => exact absurd (show false = true from fx) Bool.false_ne_true
  | int a =>
    obtain ⟨t', rfl⟩ := ry
    cases x with
    | non => cases rx; exact SeqAt.EqAt.int_none a t'
    | bl b => cases rx; exact SeqAt.EqAt.int_bool a t' b
    | int b => obtain ⟨t, rfl⟩ := rx; exact SeqAt.EqAt.int_int a t' b t
    | str b => obtain ⟨t, rfl⟩ := rx; exact SeqAt.EqAt.int_str a t' b t
    | _ => exact absurd (show false = true from fx) Bool.false_ne_true
  | str a =>
    obtain ⟨t', rfl⟩ := ry
    cases x with
    | non => cases rx; exact SeqAt.EqAt.str_none a t'
    | bl b => cases rx; exact SeqAt.EqAt.str_bool a t' b
    | int b => obtain ⟨t, rfl⟩ := rx; exact SeqAt.EqAt.str_int a t' b t
    | str b => obtain ⟨t, rfl⟩ := rx; exact SeqAt.EqAt.str_str a t' b t
    | _ => exact absurd (show false = true from fx) Bool.false_ne_true
  | _ => exact absurd (show false = true from fy) Bool.false_ne_true
/-- the items' answers, read off the values (a value's own answer does not lean on its token) -/
def eqU (x : V) (u : Value) : Bool := match u with
  | .none => eqV .non x
  | .bool b => eqV (.bl b) x
  | .int i _ => eqV (.int i) x
  | .str z _ => eqV (.str z) x
  | _ => false
theorem eqU_of {x y : V} {u : Value} (r : RelV y u) (f : flatV y = true) : eqU x u = eqV y x := by
  cases y with
  | non => cases r; rfl
  | bl b => cases r; rfl
  | int i => obtain ⟨t, rfl⟩ := r; rfl
  | str z => obtain ⟨t, rfl⟩ := r; rfl
  | _ => exact absurd (show false = true from f) Bool.false_ne_true
theorem any_eqU {x : V} : ∀ {xs : List V} {us : List Value}, Vals xs us → xs.all flatV = true → us.any (eqU x) = xs.any fun y => eqV y x
  | _, _, .nil, _ => rfl
  | y :: xs, u :: us, .cons r t, f => by
    rw [List.all_cons, Bool.and_eq_true] at f
    rw [List.any_cons, List.any_cons, eqU_of r f.1, any_eqU t f.2]
theorem mem_eqAt {A : Around} {s : Shared} {x : V} {v : Value} (rx : RelV x v) (fx : flatV x = true) : ∀ {xs : List V} {us : List Value}, Vals xs us → xs.all flatV = true → ∀ u ∈ us, SeqAt.EqAt A s u v (eqU x u)
  | _, _, .nil, _ => fun u hu => by cases hu
  | y :: xs, u :: us, .cons r t, f => fun u' hu => by
    rw [List.all_cons, Bool.and_eq_true] at f
    rcases List.mem_cons.mp hu with rfl | hu
    · rw [eqU_of r f.1]; exact eqAt_V r rx f.1 fx
    · exact mem_eqAt rx fx t f.2 u' hu
def inV (x : V) (xs : List V) : Bool := xs.any fun y => eqV y x
/-- x in a list or tuple of flat items -/
def rIn (K : PySem.W.Frag) (neg : Bool) : R2 := fun x y H Q => ∃ p xs, y = .ref p ∧ (SqL K H p xs ∨ SqT K H p xs) ∧ flatV x = true ∧ xs.all flatV = true ∧ Q (.bl (if neg then !inV x xs else inV x xs)) H
theorem op_in_seq : OpR X (compareOp .In) (rIn X.K false) := by
  intro pins s σ H x y v u Q I rx ry h
  obtain ⟨p, xs, rfl, hq, fx, fs, q⟩ := h
  cases ry
  rcases hq with hq | hq
  · obtain ⟨its, r, pl, hz⟩ := I.list hq
    refine SeqAt.in_listAt (eqU x) pl.isList (fun w hw => mem_eqAt rx fx r fs w (by simpa using hw)) ⟨.bl _, H, I, rfl, ?_⟩
    rw [show its.toArray.any (eqU x) = its.any (eqU x) by simp, any_eqU r fs]
    exact q
  · obtain ⟨its, r, pl, hz⟩ := I.tuple hq
    refine SeqAt.in_tupleAt (eqU x) pl (fun w hw => mem_eqAt rx fx r fs w (by simpa using hw)) ⟨.bl _, H, I, rfl, ?_⟩
    rw [show its.toArray.any (eqU x) = its.any (eqU x) by simp, any_eqU r fs]
    exact q
theorem op_notIn_seq : OpR X (compareOp .NotIn) (rIn X.K true) := by
  intro pins s σ H x y v u Q I rx ry h
  obtain ⟨p, xs, rfl, hq, fx, fs, q⟩ := h
  cases ry
  rcases hq with hq | hq
  · obtain ⟨its, r, pl, hz⟩ := I.list hq
    refine SeqAt.notIn_listAt (eqU x) pl.isList (fun w hw => mem_eqAt rx fx r fs w (by simpa using hw)) ⟨.bl _, H, I, rfl, ?_⟩
    rw [show its.toArray.any (eqU x) = its.any (eqU x) by simp, any_eqU r fs]
    exact q
  · obtain ⟨its, r, pl, hz⟩ := I.tuple hq
    refine SeqAt.notIn_tupleAt (eqU x) pl (fun w hw => mem_eqAt rx fx r fs w (by simpa using hw)) ⟨.bl _, H, I, rfl, ?_⟩
    rw [show its.toArray.any (eqU x) = its.any (eqU x) by simp, any_eqU r fs]
    exact q
theorem op_notIn_str : OpR X (compareOp .NotIn) (fun x y H Q => ∃ i j, x = .str i ∧ y = .str j ∧ Q (.bl (!(!(Builtin.Str.occurrences j i 0 j.length 1).isEmpty))) H) := by
  intro pins s σ H x y v u Q I rx ry h
  obtain ⟨i, j, rfl, rfl, q⟩ := h
  obtain ⟨t, rfl⟩ := rx
  obtain ⟨t', rfl⟩ := ry
  exact notIn_str ⟨.bl _, H, I, rfl, q⟩

/-! ### len, list(x), tuple(x) of any list or tuple that is read -/
theorem call_len_seq : CallR X (.builtin "len") (fun xs H Q => ∃ p ys, xs = [.ref p] ∧ (SqL X.K H p ys ∨ SqT X.K H p ys) ∧ Q (.int ys.length) H) := by
  intro pins s σ H xs us Q I r h
  obtain ⟨p, ys, rfl, hq, q⟩ := h
  obtain ⟨u, rfl, rx⟩ := vals1 r
  cases rx
  have hn := line63
  rcases hq with hq | hq
  · obtain ⟨its, r', pl, hz⟩ := I.list hq
    have hlen := r'.length
    exact Calls.call_len_list pl.isList (by simp only [List.size_toArray] <;> omega) ⟨.int ys.length, H, I.tok _, ⟨s.toks + 1, by rw [List.size_toArray, hlen]⟩, q⟩
  · obtain ⟨its, r', pl, hz⟩ := I.tuple hq
    have hlen := r'.length
    exact len_tuple pl (by simp only [List.size_toArray] <;> omega) ⟨.int ys.length, H, I.tok _, ⟨s.toks + 1, by rw [List.size_toArray, hlen]⟩, q⟩
theorem call_len_str : CallR X (.builtin "len") (fun xs H Q => ∃ z, xs = [.str z] ∧ z.length ≤ sizeLine ∧ Q (.int z.length) H) := by
  intro pins s σ H xs us Q I r h
  obtain ⟨z, rfl, hz, q⟩ := h
  obtain ⟨u, rfl, t, rfl⟩ := vals1 r
  have hn := line63
  exact len_str (by omega) ⟨.int z.length, H, I.tok _, ⟨_, rfl⟩, q⟩
theorem CallR.or {f : Value} {r r' : List V → Hp → VK → Prop} (h : CallR X f r) (h' : CallR X f r') : CallR X f (fun xs H Q => r xs H Q ∨ r' xs H Q) := by
  intro pins s σ H xs us Q I rs q
  rcases q with q | q
  · exact h pins s σ H xs us Q I rs q
  · exact h' pins s σ H xs us Q I rs q
theorem call_list_of : CallR X (.type "list") (fun xs H Q => ∃ p ys, xs = [.ref p] ∧ (SqL X.K H p ys ∨ SqT X.K H p ys) ∧ ∀ l, H l = none → Q (.ref l) (upd H l (.lst ys))) := by
  intro pins s σ H xs us Q I r h
  obtain ⟨p, ys, rfl, hq, q⟩ := h
  obtain ⟨u, rfl, rx⟩ := vals1 r
  cases rx
  have fin : ∀ (its : List Value), Vals ys its → ys.length ≤ sizeLine → ∀ (h' : Heap) (c' : Nat), (∀ b o', s.heap.get? b = some o' → h'.get? b = some o') →
      h'.get? s.heap.objs.size = some { cls := .type "list", dict := none, data := .seq its.toArray c', slots := #[] } → EP X pins σ Q (.ref s.heap.objs.size) { s with heap := h' } := fun its r' hz h' c' kp e =>
    ⟨.ref s.heap.objs.size, _, I.laid (t' := s.toks) kp (Nat.le_refl _) (show ObjOk X.prog X.w _ h' _ (.lst ys) from ⟨hz, its, c', r', e⟩), rfl, q _ (I.hok.fresh (Nat.le_refl _))⟩
  rcases hq with hq | hq
  · obtain ⟨its, r', pl, hz⟩ := I.list hq
    have hlen := r'.length
    obtain ⟨o, ho, hc, n, hd⟩ := pl.isList
    exact call_list_seq p (.inl rfl) ho hc hd (fun h' c' kp e => fin its r' hz h' c' kp e) (by simp only [List.size_toArray] <;> omega)
  · obtain ⟨its, r', pl, hz⟩ := I.tuple hq
    have hlen := r'.length
    obtain ⟨o, ho, hc, n, hd⟩ := pl
    exact call_list_seq p (.inr rfl) ho hc hd (fun h' c' kp e => fin its r' hz h' c' kp e) (by simp only [List.size_toArray] <;> omega)
theorem call_tuple_of : CallR X (.type "tuple") (fun xs H Q => ∃ p ys, xs = [.ref p] ∧ ((SqL X.K H p ys ∧ ∀ l, H l = none → Q (.ref l) (upd H l (.tup ys))) ∨ (SqT X.K H p ys ∧ Q (.ref p) H))) := by
  intro pins s σ H xs us Q I r h
  obtain ⟨p, ys, rfl, h⟩ := h
  obtain ⟨u, rfl, rx⟩ := vals1 r
  cases rx
  rcases h with ⟨hq, q⟩ | ⟨hq, q⟩
  · obtain ⟨its, r', pl, hz⟩ := I.list hq
    have hlen := r'.length
    refine call_tuple_list pl.isList (fun h' kp => ?_) (by simp only [List.size_toArray] <;> omega)
    have I1 : Inv X pins σ H { s with heap := h' } := I.kept (t' := s.toks) kp
    have I2 : Inv X pins σ (upd H h'.objs.size (.tup ys)) { s with heap := h'.push { cls := .type "tuple", data := .seq its.toArray } } :=
      I1.laid (t' := s.toks) (fun b o e => Heap.get?_push_of_some _ e) (Nat.le_refl _) (show ObjOk X.prog X.w _ _ _ (.tup ys) from ⟨hz, its, r', IsTup.new _ _⟩)
    exact ⟨.ref h'.objs.size, _, I2, rfl, q _ (I1.hok.fresh (Nat.le_refl _))⟩
  · obtain ⟨its, r', pl, hz⟩ := I.tuple hq
    exact call_tuple_same pl ⟨.ref p, H, I, rfl, q⟩

/-! ### the call of a builtin's method: o.m(..) -/
/-- the value is of that builtin type -/
def tyV (K : PySem.W.Frag) (T : String) (x : V) (H : Hp) : Prop := match x with
  | .str _ => T = "str"
  | .int _ => T = "int"
  | .ref p => (T = "list" ∧ ∃ xs, SqL K H p xs) ∨ (T = "tuple" ∧ ∃ o, K.lookup p = some o ∧ o.cls = .type "tuple" ∧ o.dict = none) ∨
      (T = "dict" ∧ ((∃ kvs, H p = some (.dK kvs)) ∨ ∃ kvs, H p = some (.dT kvs))) ∨ (T = "set" ∧ ∃ S n, H p = some (.set S n))
  | _ => False
theorem tyV_is {pins : List (Addr × Obj)} {σ : St} {H : Hp} {s : Shared} {T : String} {x : V} {v : Value} (I : Inv X pins σ H s) (r : RelV x v) (ty : tyV X.K T x H) :
    s.TypeIs v T ∧ ∀ a, v = .ref a → ∃ ob, s.heap.get? a = some ob ∧ ob.dict = none := by
  cases x with
  | str z =>
    obtain ⟨t, rfl⟩ := r
    cases (show T = "str" from ty)
    exact ⟨typeIs_str s z t, fun _ e => nomatch e⟩
  | int i =>
    obtain ⟨t, rfl⟩ := r
    cases (show T = "int" from ty)
    exact ⟨typeIs_int s i t, fun _ e => nomatch e⟩
  | ref p =>
    cases r
    rcases ty with ⟨rfl, xs, hq⟩ | ⟨rfl, o, hk, hc, hd⟩ | ⟨rfl, hk⟩ | ⟨rfl, S, n, hk⟩
    · obtain ⟨its, _, pl, _⟩ := I.list hq
      refine ⟨pl.isList.typeIs, fun a e => ?_⟩
      cases e
      obtain ⟨o, n, e, c, hd, _⟩ := pl
      exact ⟨o, e, hd⟩
    · refine ⟨⟨o, I.kIn p o hk, hc⟩, fun a e => ?_⟩
      cases e
      exact ⟨o, I.kIn _ o hk, hd⟩
    · have z : ∃ o, s.heap.get? p = some o ∧ o.ExactDict := by
        rcases hk with ⟨kvs, hk⟩ | ⟨kvs, hk⟩
        · obtain ⟨_, _, _, _, o, _, _, e, ex, _⟩ := I.hok p _ hk
          exact ⟨o, e, ex⟩
        · obtain ⟨_, _, _, _, o, _, _, e, ex, _⟩ := I.hok p _ hk
          exact ⟨o, e, ex⟩
      obtain ⟨o, e, ex⟩ := z
      refine ⟨⟨o, e, ex.1⟩, fun a e2 => ?_⟩
      cases e2
      exact ⟨o, e, ex.2.1⟩
    · obtain ⟨o, _, _, _, e, ex, _⟩ := I.hok p _ hk
      refine ⟨⟨o, e, ex.1⟩, fun a e2 => ?_⟩
      cases e2
      exact ⟨o, e, ex.2.1⟩
  | _ => exact False.elim ty
def tBM0 (K : PySem.W.Frag) (T : String) (r : V → List V → Hp → VK → Prop) (to : TE) : TE := fun σ H Q => to σ H fun x H1 => tyV K T x H1 ∧ r x [] H1 Q
def tBM (K : PySem.W.Frag) (T : String) (r : V → List V → Hp → VK → Prop) (to : TE) (t : TA) : TE := fun σ H Q => to σ H fun x H1 => tyV K T x H1 ∧ t σ H1 fun xs H2 => r x xs H2 Q
variable {o e : Expr} {es : List Expr} {to : TE} {t : TA} {name : Str} {apos cpos : Pos} {T id : String} {r : V → List V → Hp → VK → Prop}
theorem pe_bm0 (pa : PlainAttrs T) (slot : Slot T name id) (hty : typeOf (.builtin id) = pure (.type "method_descriptor")) (hm : MtR X id r) (ho : PE X o to)
    (hbase : attributeBase o name X.env (eval o X.env) = eval o X.env := by rfl) (hline : (apos.endLine == cpos.line) = true := by rfl) : PE X (.Call (.Attribute o name apos) [] [] cpos) (tBM0 X.K T r to) := by
  intro pins s σ H Q I h
  refine wpAny_Call_method0_late hbase hline (thn (ho pins s σ H _ I h) fun v s1 ⟨x, H1, I1, r1, ty, q1⟩ => ?_)
  obtain ⟨h1, h2⟩ := tyV_is I1 r1 ty
  exact ⟨T, id, pa, slot, hty, h1, h2, Calls.callWith_builtin rfl (PySem.evalArgs_none (hm pins s1 σ H1 x [] v [] Q I1 r1 .nil q1))⟩
theorem pe_bm (pa : PlainAttrs T) (slot : Slot T name id) (hty : typeOf (.builtin id) = pure (.type "method_descriptor")) (hm : MtR X id r) (ho : PE X o to) (ha : PA X (e :: es) t)
    (hbase : attributeBase o name X.env (eval o X.env) = eval o X.env := by rfl)
    (hfew : ((backTo cpos (starEach (e :: es) X.env)).all (fun x => !x.1) && (backToKw cpos (keywordEach [] X.env)).all (fun x => x.1.isSome)
      && decide ((e :: es).length + ([] : List Keyword).length + (if ([] : List Keyword).isEmpty then 0 else 1) < 30)) = true := by rfl)
    (hline : (apos.endLine == cpos.line) = true := by rfl) (hs : starEach (e :: es) X.env = (false, eval e X.env) :: starEach es X.env := by rfl) (hplain : (backTo cpos (starEach es X.env)).any (·.1) = false := by rfl) :
    PE X (.Call (.Attribute o name apos) (e :: es) [] cpos) (tBM X.K T r to t) := by
  intro pins s σ H Q I h
  refine wpAny_Call_method_late hbase hfew hline rfl (thn (ho pins s σ H _ I h) fun v s1 ⟨x, H1, I1, r1, ty, q1⟩ => ?_)
  obtain ⟨h1, h2⟩ := tyV_is I1 r1 ty
  refine ⟨T, id, pa, slot, hty, h1, h2, ?_⟩
  have hA := ha cpos pins s1 σ H1 _ I1 q1
  rw [hs] at hA ⊢
  refine Calls.callWith_builtin (by show (false || (backTo cpos (starEach es X.env)).any (·.1)) = false; rw [hplain] <;> rfl) (Calls.evalArgs_plain ?_)
  exact thn hA fun us s2 ⟨vs, H2, I2, r2, q2⟩ => hm pins s2 σ H2 x vs v us Q I2 r1 r2 q2
/- xs.append(e), list.index on a module's tuple .. are MtR facts of 06m -/
end
end L2

namespace L2
open PySem PySem.Spec PyProof.Rows

def MtM (X : Cx) (id : String) (r : V → List V → Hp → VK → Prop) : Prop :=
  ∀ (pins : List (Addr × Obj)) (s : Shared) (σ : St) (H : Hp) (x : V) (xs : List V) (v : Value) (us : List Value) (Q : VK), Inv X pins σ H s → RelV x v → Vals xs us → r x xs H Q →
    wpAny (model X.prog X.w) X.A (call (.builtin id) (v :: us)) (EP X pins σ Q) X.xe s

/-! ### lists of values -/
theorem Vals.one : ∀ {x : V} {us : List Value}, Vals [x] us → ∃ u, us = [u] ∧ RelV x u
  | _, _, .cons r .nil => ⟨_, rfl, r⟩
theorem Vals.two : ∀ {x y : V} {us : List Value}, Vals [x, y] us → ∃ u v, us = [u, v] ∧ RelV x u ∧ RelV y v
  | _, _, _, .cons r (.cons q .nil) => ⟨_, _, rfl, r, q⟩
theorem Vals.zero : ∀ {us : List Value}, Vals [] us → us = []
  | _, .nil => rfl
theorem Vals.dropLast {xs : List V} {us : List Value} (h : Vals xs us) : Vals xs.dropLast us.dropLast := by
  induction h with
  | nil => exact .nil
  | cons r t ih =>
    cases t with
    | nil => exact .nil
    | cons q t' => exact .cons r ih
theorem Vals.eraseIdx : ∀ {xs : List V} {us : List Value} (i : Nat), Vals xs us → Vals (xs.eraseIdx i) (us.eraseIdx i)
  | _, _, _, .nil => .nil
  | _, _, 0, .cons _ t => t
  | _, _, i + 1, .cons r t => .cons r (Vals.eraseIdx i t)
theorem Vals.reverse {xs : List V} {us : List Value} (h : Vals xs us) : Vals xs.reverse us.reverse := by
  induction h with
  | nil => exact .nil
  | cons r t ih => rw [List.reverse_cons, List.reverse_cons]; exact Vals.append ih (.cons r .nil)
theorem Vals.rep {xs : List V} {us : List Value} (h : Vals xs us) : ∀ k : Nat, Vals (List.replicate k xs).flatten (List.replicate k us).flatten
  | 0 => .nil
  | k + 1 => by
    rw [List.replicate_succ, List.replicate_succ, List.flatten_cons, List.flatten_cons]
    exact Vals.append h (Vals.rep h k)
theorem erase_last {α : Type} (l : List α) : l.eraseIdx (l.length - 1) = l.dropLast := by
  induction l with
  | nil => rfl
  | cons a r ih =>
    cases r with
    | nil => rfl
    | cons b r =>
      have e : (a :: b :: r).length - 1 = ((b :: r).length - 1) + 1 := by
        have h1 : (a :: b :: r).length = r.length + 2 := rfl
        have h2 : (b :: r).length = r.length + 1 := rfl
        omega
      rw [e, List.eraseIdx_cons_succ, ih]
      all_goals rfl
theorem len_erase {α : Type} : ∀ (l : List α) (i : Nat), (l.eraseIdx i).length ≤ l.length
  | [], _ => Nat.le_refl _
  | _ :: _, 0 => Nat.le_succ _
  | _ :: r, i + 1 => Nat.succ_le_succ (len_erase r i)
theorem foldl_rep (its : List Value) : ∀ (k : Nat) (acc : List Value),
    List.foldl (fun x1 x2 => x1 ++ x2) acc.toArray (List.replicate k its.toArray) = (acc ++ (List.replicate k its).flatten).toArray
  | 0, acc => by simp
  | k + 1, acc => by
    have e : acc.toArray ++ its.toArray = (acc ++ its).toArray := by simp
    have e2 : (acc ++ its) ++ (List.replicate k its).flatten = acc ++ (List.replicate (k + 1) its).flatten := by
      rw [List.replicate_succ, List.flatten_cons, List.append_assoc]
    rw [← e2, ← foldl_rep its k (acc ++ its), ← e, List.replicate_succ, List.foldl_cons]

section
variable {X : Cx} {pins : List (Addr × Obj)} {σ : St} {H : Hp} {s : Shared} {l b : Addr} {xs ys zs : List V}

/-! ### the two steps: a tracked list is rewritten, a new list is laid -/
theorem Inv.lset {its its' : List Value} {n : Nat} {f : Array Value → Array Value} {t' : Nat} (I : Inv X pins σ H s) (hH : H l = some (.lst xs))
    (e : s.heap.get? l = some { cls := .type "list", data := .seq its.toArray n }) (hf : f its.toArray = its'.toArray) (hv : Vals ys its') (hz : ys.length ≤ sizeLine) :
    Inv X pins σ (upd H l (.lst ys)) { s with heap := s.heap.update l (Obj.mapSeq f), toks := t' } := by
  have q := PySem.IsL.update e f
  rw [hf] at q
  refine I.write (x := l) (e := l) (by rw [hH]; exact trivial) (.inl rfl) (fun b' u hb hu => (Heap.get?_update_other s.heap (Obj.mapSeq f) (Ne.symm hb)).trans hu) ⟨_, q⟩ ?_
  exact ⟨hz, its', _, hv, q⟩
theorem Inv.lnew {its : List Value} {t' : Nat} (I : Inv X pins σ H s) (hv : Vals ys its) (hz : ys.length ≤ sizeLine) :
    Inv X pins σ (upd H s.heap.objs.size (.lst ys)) { s with heap := s.heap.push { cls := .type "list", data := .seq its.toArray }, toks := t' } :=
  I.laid (fun _ _ q => Heap.get?_push_of_some _ q) (Nat.le_refl _) ⟨hz, its, 0, hv, Heap.get?_push_size _ rfl⟩
theorem Inv.fresh (I : Inv X pins σ H s) : H s.heap.objs.size = none := I.hok.fresh (Nat.le_refl _)
theorem Inv.lstM (I : Inv X pins σ H s) (hH : H l = some (.lst xs)) : xs.length ≤ sizeLine ∧ ∃ (its : List Value) (n : Nat), Vals xs its ∧ xs.length = its.length ∧ s.heap.get? l = some { cls := .type "list", data := .seq its.toArray n } := by
  obtain ⟨z, its, n, r, e⟩ := I.hok l _ hH
  exact ⟨z, its, n, r, r.length, e⟩

theorem notLongL {n : Nat} (h : n ≤ sizeLine) : Builtin.List.listTooLong n = false := by
  unfold Builtin.List.listTooLong
  exact decide_eq_false (by omega)
end

section
variable {X : Cx}

/-! ### methods -/
def rAppend : V → List V → Hp → VK → Prop := fun x vs H Q => ∃ l xs y, x = .ref l ∧ vs = [y] ∧ H l = some (.lst xs) ∧ xs.length < sizeLine ∧ Q .non (upd H l (.lst (xs ++ [y])))
theorem mt_append : MtM X "list.append" rAppend := by
  intro pins s σ H x vs v us Q I rx rv h
  obtain ⟨l, xs, y, rfl, rfl, hH, hz, q⟩ := h
  cases rx
  obtain ⟨u, rfl, ru⟩ := rv.one
  obtain ⟨z, its, n, r, hl, e⟩ := I.lstM hH
  refine call_meets F.slot_list_append ⟨_, e, rfl⟩ F.entry_list_append (F.args_list_append_2 _ _) (PySem.list_append l its.toArray n u (by rw [List.size_toArray]; omega)) ⟨e, ?_⟩
  refine ⟨.non, _, I.lset (its' := its ++ [u]) hH e (by simp) (r.append (.cons ru .nil)) ?_, rfl, q⟩
  rw [List.length_append, List.length_singleton]
  omega

def rExtend : V → List V → Hp → VK → Prop := fun x vs H Q => ∃ l b xs zs, x = .ref l ∧ vs = [.ref b] ∧ H l = some (.lst xs) ∧ H b = some (.lst zs) ∧ xs.length + zs.length ≤ sizeLine ∧ Q .non (upd H l (.lst (xs ++ zs)))
theorem mt_extend : MtM X "list.extend" rExtend := by
  intro pins s σ H x vs v us Q I rx rv h
  obtain ⟨l, b, xs, zs, rfl, rfl, hH, hB, hz, q⟩ := h
  cases rx
  obtain ⟨u, rfl, ru⟩ := rv.one
  cases ru
  obtain ⟨z, its, n, r, hl, e⟩ := I.lstM hH
  obtain ⟨z2, its2, n2, r2, hl2, e2⟩ := I.lstM hB
  have hsz : its.toArray.size + its2.toArray.size ≤ sizeLine := by rw [List.size_toArray, List.size_toArray]; omega
  have hlong : ¬ (!its.toArray.isEmpty && Builtin.List.listTooLong (its.toArray.size + its2.toArray.size)) = true := by
    rw [notLongL hsz, Bool.and_false]
    exact Bool.false_ne_true
  refine call_meets F.slot_list_extend ⟨_, e, rfl⟩ F.entry_list_extend (F.args_list_extend_2 _ _)
    (AutoSeq1.list_extend_list_list_0 l its.toArray n b its2.toArray n2 hlong (by rw [List.size_toArray]; omega) (by omega)) ⟨e, e2, ?_⟩
  refine ⟨.non, _, I.lset (its' := its ++ its2) hH e (by simp) (r.append r2) ?_, rfl, q⟩
  rw [List.length_append]
  omega

def rPop : V → List V → Hp → VK → Prop := fun x vs H Q => ∃ l xs y, x = .ref l ∧ vs = [] ∧ H l = some (.lst xs) ∧ xs[xs.length - 1]? = some y ∧ Q y (upd H l (.lst xs.dropLast))
theorem mt_pop : MtM X "list.pop" rPop := by
  intro pins s σ H x vs v us Q I rx rv h
  obtain ⟨l, xs, y, rfl, rfl, hH, hy, q⟩ := h
  cases rx
  have hus := rv.zero
  subst hus
  obtain ⟨z, its, n, r, hl, e⟩ := I.lstM hH
  obtain ⟨u, hu, ru⟩ := r.get hy
  have hy' : its.toArray[its.toArray.size - 1]? = some u := by
    show its.toArray[its.length - 1]? = some u
    rw [← Array.getElem?_toList, ← hl]
    exact hu
  refine call_meets F.slot_list_pop ⟨_, e, rfl⟩ F.entry_list_pop (F.args_list_pop_1 _) (MeetsSeq.list_pop_last l its.toArray n u hy' (by rw [List.size_toArray]; omega)) ⟨e, ?_⟩
  refine ⟨y, _, I.lset (its' := its.dropLast) hH e ?_ r.dropLast ?_, ru, q⟩
  · show its.toArray.eraseIdxIfInBounds (its.toArray.size - 1) = its.dropLast.toArray
    rw [List.size_toArray, List.eraseIdxIfInBounds_toArray, erase_last]
  · rw [List.length_dropLast]
    omega

def rPopAt : V → List V → Hp → VK → Prop := fun x vs H Q => ∃ l xs i k y, x = .ref l ∧ vs = [.int i] ∧ H l = some (.lst xs) ∧ -(2 ^ 63) ≤ i ∧ i < 2 ^ 63 ∧ seqIndex? i xs.length = some k ∧ xs[k]? = some y ∧ Q y (upd H l (.lst (xs.eraseIdx k)))
theorem mt_popAt : MtM X "list.pop" rPopAt := by
  intro pins s σ H x vs v us Q I rx rv h
  obtain ⟨l, xs, i, k, y, rfl, rfl, hH, h1, h2, hk, hy, q⟩ := h
  cases rx
  obtain ⟨u, rfl, ru⟩ := rv.one
  obtain ⟨t, rfl⟩ := ru
  obtain ⟨z, its, n, r, hl, e⟩ := I.lstM hH
  obtain ⟨w, hw, rw'⟩ := r.get hy
  refine call_meets F.slot_list_pop ⟨_, e, rfl⟩ F.entry_list_pop (F.args_list_pop_2 _ _)
    (MeetsSeq.list_pop_at l its.toArray n i t k w (fitsIndex_both h1 h2) (by rw [List.size_toArray, ← hl]; exact hk) (by rw [← Array.getElem?_toList]; exact hw) (by rw [List.size_toArray]; omega)) ⟨e, ?_⟩
  refine ⟨y, _, I.lset (its' := its.eraseIdx k) hH e ?_ (r.eraseIdx k) ?_, rw', q⟩
  · show its.toArray.eraseIdxIfInBounds k = (its.eraseIdx k).toArray
    rw [List.eraseIdxIfInBounds_toArray]
  · have := len_erase xs k
    omega

def rReverse : V → List V → Hp → VK → Prop := fun x vs H Q => ∃ l xs, x = .ref l ∧ vs = [] ∧ H l = some (.lst xs) ∧ Q .non (upd H l (.lst xs.reverse))
theorem mt_reverse : MtM X "list.reverse" rReverse := by
  intro pins s σ H x vs v us Q I rx rv h
  obtain ⟨l, xs, rfl, rfl, hH, q⟩ := h
  cases rx
  have hus := rv.zero
  subst hus
  obtain ⟨z, its, n, r, hl, e⟩ := I.lstM hH
  refine call_meets F.slot_list_reverse ⟨_, e, rfl⟩ F.entry_list_reverse (F.args_list_reverse_1 _) (AutoSeq1.list_reverse_list_0 l its.toArray n (by rw [List.size_toArray]; omega)) ⟨e, ?_⟩
  refine ⟨.non, _, I.lset (its' := its.reverse) hH e (by simp) r.reverse ?_, rfl, q⟩
  rw [List.length_reverse]
  omega

def rClear : V → List V → Hp → VK → Prop := fun x vs H Q => ∃ l xs, x = .ref l ∧ vs = [] ∧ H l = some (.lst xs) ∧ Q .non (upd H l (.lst []))
theorem mt_clear : MtM X "list.clear" rClear := by
  intro pins s σ H x vs v us Q I rx rv h
  obtain ⟨l, xs, rfl, rfl, hH, q⟩ := h
  cases rx
  have hus := rv.zero
  subst hus
  obtain ⟨z, its, n, r, hl, e⟩ := I.lstM hH
  refine call_meets F.slot_list_clear ⟨_, e, rfl⟩ F.entry_list_clear (F.args_list_clear_1 _) (AutoSeq1.list_clear_list_0 l its.toArray n (by rw [List.size_toArray]; omega)) ⟨e, ?_⟩
  exact ⟨.non, _, I.lset (its' := []) (ys := []) hH e rfl .nil (Nat.zero_le _), rfl, q⟩

/-! ### list + list, list += list, list * int -/
def rCat : R2 := fun x y H Q => ∃ l b xs zs, x = .ref l ∧ y = .ref b ∧ H l = some (.lst xs) ∧ H b = some (.lst zs) ∧ xs.length + zs.length ≤ sizeLine ∧ ∀ p, H p = none → Q (.ref p) (upd H p (.lst (xs ++ zs)))
theorem op_cat : OpR X (binaryOp .Add) rCat := by
  intro pins s σ H x y v u Q I rx ry h
  obtain ⟨l, b, xs, zs, rfl, rfl, hH, hB, hz, q⟩ := h
  cases rx
  cases ry
  obtain ⟨z, its, n, r, hl, e⟩ := I.lstM hH
  obtain ⟨z2, its2, n2, r2, hl2, e2⟩ := I.lstM hB
  refine PySem.P.add_list e e2 ?_ (by rw [List.size_toArray, List.size_toArray]; omega)
  have ea : its.toArray ++ its2.toArray = (its ++ its2).toArray := by simp
  rw [ea]
  exact ⟨.ref _, _, I.lnew (t' := s.toks) (r.append r2) (by rw [List.length_append]; omega), rfl, q _ I.fresh⟩
/-- a list times an int (a negative one is nothing) -/
def rRep : R2 := fun x y H Q => ∃ l k xs, x = .ref l ∧ y = .int k ∧ H l = some (.lst xs) ∧ -(2 ^ 63) ≤ k ∧ k < 2 ^ 63 ∧ xs.length * k.toNat ≤ sizeLine ∧
  ∀ p, H p = none → Q (.ref p) (upd H p (.lst (List.replicate k.toNat xs).flatten))
theorem len_rep {α : Type} (xs : List α) (k : Nat) : (List.replicate k xs).flatten.length = k * xs.length := by
  induction k with
  | zero => simp
  | succ k ih => rw [List.replicate_succ, List.flatten_cons, List.length_append, ih, Nat.succ_mul, Nat.add_comm]
theorem op_rep : OpR X (binaryOp .Mult) rRep := by
  intro pins s σ H x y v u Q I rx ry h
  obtain ⟨l, k, xs, rfl, rfl, hH, h1, h2, hz, q⟩ := h
  cases rx
  obtain ⟨t, rfl⟩ := ry
  obtain ⟨z, its, n, r, hl, e⟩ := I.lstM hH
  have hlen : its.toArray.size * k.toNat ≤ sizeLine := by rw [List.size_toArray, ← hl]; exact hz
  have hcap : ¬ its.toArray.size * k.toNat > (2 ^ 63 - 1) / 8 := by
    have : (sizeLine : Nat) ≤ (2 ^ 63 - 1) / 8 := by decide
    omega
  have hfit : ¬ (!Builtin.List.listFitsIndex k) = true := by
    rw [fitsIndex_both h1 h2]
    exact Bool.false_ne_true
  have hlong : ¬ Builtin.List.listTooLong (its.toArray.size * k.toNat) = true := by
    rw [notLongL hlen]
    exact Bool.false_ne_true
  have hnew : List.foldl (fun x1 x2 => x1 ++ x2) #[] (List.replicate (if its.toArray.isEmpty = true then 0 else k.toNat) its.toArray) = (List.replicate k.toNat its).flatten.toArray := by
    have f0 : ∀ m : Nat, List.foldl (fun x1 x2 => x1 ++ x2) #[] (List.replicate m its.toArray) = (List.replicate m its).flatten.toArray := fun m => by
      have := foldl_rep its m []
      rw [List.nil_append] at this
      exact this
    rw [f0]
    cases its with
    | nil => simp
    | cons a r' => rw [if_neg (by simp)]
  refine wpAny_binaryOp_repeat_ref (T := "list") (U := "int") (by decide) ⟨_, e, rfl⟩ (fun s' => typeIs_int s' k t) noFill_list_mul F.fills_int_mul F.slot_int_rmul repeat_list F.slot_int_index.lookup
    (call_meets F.slot_int_rmul (typeIs_int s k t) F.entry_int_rmul (F.args_int_rmul_2 _ _) (int___rmul___int_list k t l its.toArray n)
      ⟨e, rfl, ⟨_, e, rfl⟩, call_meets F.slot_list_mul ⟨_, e, rfl⟩ F.entry_list_mul (F.args_list_mul_2 _ _) (AutoListH.list___mul___list_int_3 l its.toArray n k t hfit hcap hlong) ⟨e, ?_⟩⟩)
  rw [hnew]
  exact ⟨.ref _, _, I.lnew (t' := s.toks) (r.rep k.toNat) (by rw [len_rep, Nat.mul_comm]; exact hz), rfl, q _ I.fresh⟩

/-! ### del xs[i] -/
theorem del_list {pins : List (Addr × Obj)} {s : Shared} {σ : St} {H : Hp} {l : Addr} {xs : List V} {i : Int} {t : Tok} {k : Nat} {Q : Unit → Shared → Prop} (I : Inv X pins σ H s) (hH : H l = some (.lst xs))
    (h1 : -(2 ^ 63) ≤ i) (h2 : i < 2 ^ 63) (hk : seqIndex? i xs.length = some k) (h : ∀ s', Inv X pins σ (upd H l (.lst (xs.eraseIdx k))) s' → Q () s') :
    wpAny (model X.prog X.w) X.A (delItem (.ref l) (.int i t)) Q X.xe s := by
  obtain ⟨z, its, n, r, hl, e⟩ := I.lstM hH
  refine PySem.P.delItem_list (k := k) e (fitsIndex_both h1 h2) (by rw [List.size_toArray, ← hl]; exact hk) (h _ ?_) (by rw [List.size_toArray]; omega)
  refine I.lset (its' := its.eraseIdx k) (t' := s.toks) hH e ?_ (r.eraseIdx k) ?_
  · show its.toArray.eraseIdxIfInBounds k = (its.eraseIdx k).toArray
    rw [List.eraseIdxIfInBounds_toArray]
  · have := len_erase xs k
    omega
end

/-! ### xs[a:b] = ys -/
section
variable {prog : Program} {w : World} {A : Around} {E : Value → Shared → Prop} {s : Shared}
theorem splice_eq (its its2 : List Value) (a c : Nat) : its.toArray.extract 0 a ++ its2.toArray ++ its.toArray.extract c its.toArray.size = (its.take a ++ its2 ++ its.drop c).toArray := by
  apply Array.toList_inj.mp
  first
    | (simp
       exact List.take_of_length_le (by simp))
    | simp [List.take_of_length_le]
    | simp
theorem bounds_run {a c n : Nat} (hac : a ≤ c) (hc : c ≤ n) : sliceBounds (some (a : Int)) (some (c : Int)) none n = ((a : Int), (c : Int), 1) := by
  simp only [sliceBounds, Option.getD_none]
  have h1 : ¬ ((a : Int) < 0) := by omega
  have h2 : ¬ ((c : Int) < 0) := by omega
  simp only [h1, h2, if_false, show (1 : Int) > 0 by decide, if_true]
  congr 1
  · omega
  · congr 1; omega
set_option maxRecDepth 100000 in
/-- list.__setitem__ with a slice of step one and another list -/
theorem setItem_slice {l b sl : Addr} {items new : Array Value} {n n2 : Nat} {vl vu : Value} {a c : Nat} {Q : Unit → Shared → Prop}
    (e : s.heap.get? l = some { cls := .type "list", data := .seq items n }) (e2 : s.heap.get? b = some { cls := .type "list", data := .seq new n2 }) (hne : l ≠ b)
    (hs : s.heap.IsSliceOf sl vl vu .none) (pl : IsPart vl (some (a : Int))) (pu : IsPart vu (some (c : Int))) (hac : a ≤ c) (hc : c ≤ items.size)
    (hsz : items.size + new.size ≤ sizeLine) (h : Q () { s with heap := s.heap.update l (Obj.mapSeq fun xs => xs.extract 0 a ++ new ++ xs.extract c xs.size) }) :
    wpAny (model prog w) A (setItem (.ref l) (.ref sl) (.ref b)) Q E s := by
  have hl : s.heap.IsList l items := PySem.IsL.isList e
  have hb : s.heap.IsList b new := PySem.IsL.isList e2
  obtain ⟨os, hos, hcs, hds⟩ := id hs
  have hTs : s.TypeIs (.ref sl) "slice" := ⟨os, hos, hcs⟩
  have hstep : ¬ ((rawPart none == rawInt 0) = true) := Bool.false_ne_true
  have hsame : Builtin.List.listSameRef (.ref l) (.ref b) = false := by
    unfold Builtin.List.listSameRef
    exact beq_eq_false_iff_ne.mpr hne
  have hmax : (max (a : Int) (c : Int)).toNat = c := by omega
  have hz' : ((fun xs : Array Value => xs.extract 0 a ++ new ++ xs.extract c xs.size) items).size ≤ sizeLine + 1 := by
    simp only [Array.size_append, Array.size_extract]
    omega
  unfold setItem
  try with_reducible refine wpAny_holding ?_
  first | refine wpAny_bind (wpAny_pure ?_) | skip
  refine wpAny_bind (wpAny_sequenceKey hl.typeIs (by decide) ?_)
  refine wpAny_bind (wpAny_callSpecial?_slot (name := Str.ofString "__setitem__") hl.typeIs slot_list_setitem
    (wpAny_call_entry slot_list_setitem hl.typeIs entry_list_setitem ?_ (args_list_setitem _ _ _)))
  show wpAny _ _ (Builtin.List.listSubscript? (.ref sl) >>= _) _ _ s
  refine wpAny_bind ?_
  unfold Builtin.List.listSubscript?
  refine wpAny_bind (wpAny_specialOf hTs slice_no_index ?_)
  simp only [Option.isNone_none, if_true]
  refine wpAny_pure ?_
  show wpAny _ _ (typeOf (.ref sl) >>= _) _ _ s
  refine wpAny_bind (wpAny_typeOf hTs ?_)
  first
    | rw [if_neg (by decide)]
    | refine PySem.W.KFB.if_not (by decide) ?_
  rw [listSliceParts_eq]
  refine wpAny_bind (wpAny_bind (wpAny_field hos hds (x := .none) rfl (wpAny_bind (wpAny_listPart .none ?_))))
  rw [if_neg hstep]
  refine wpAny_bind (wpAny_field hos hds (x := vl) rfl (wpAny_bind (wpAny_listPart pl ?_)))
  refine wpAny_bind (wpAny_field hos hds (x := vu) rfl (wpAny_bind (wpAny_listPart pu (wpAny_pure ?_))))
  first
    | simp only [hsame, Bool.false_eq_true, if_false]
    | refine PySem.W.KFB.if_not hsame ?_
    | (dsimp only
       rw [if_neg (by rw [hsame]; exact Bool.false_ne_true)])
  refine wpAny_bind (m := Builtin.List.listAllItems (.ref b) "must assign iterable to extended slice") ?_
  unfold Builtin.List.listAllItems
  refine wpAny_bind (wpAny_typeOf hb.typeIs ?_)
  first
    | refine PySem.W.KFB.if_so (by decide) ?_
    | rw [if_pos (by decide)]
    | simp only [beq_self_eq_true, Bool.true_or, if_true]
  unfold Builtin.List.listItems
  refine wpAny_bind (wpAny_seqItems e2 rfl (wpAny_pure ?_))
  refine wpAny_bind (wpAny_bind (wpAny_seqItems e rfl (wpAny_pure ?_)))
  refine wpAny_bind (wpAny_of_eq ((sliceIndices_raw (some (a : Int)) (some (c : Int)) none items.size (by simp)).trans (congrArg (pure : Int × Int × Int → Sem (Int × Int × Int)) (bounds_run hac hc))) ?_)
  show wpAny _ _ (if ((1 : Int) == 1) = true then _ else _) _ _ s
  rw [if_pos (by decide)]
  refine wpAny_bind (wpAny_rule ?_)
  first
    | simp only [notLongL hsz, Bool.false_eq_true, if_false]
    | refine PySem.W.KFB.if_not (notLongL hsz) ?_
  first | refine wpAny_bind (wpAny_pure ?_) | skip
  show wpAny _ _ (updateSeq l (fun xs => xs.extract 0 ((a : Int)).toNat ++ new ++ xs.extract (max (a : Int) (c : Int)).toNat xs.size) >>= _) _ _ s
  rw [hmax, Int.toNat_natCast]
  refine wpAny_bind (wpAny_updateSeq (hz := Nat.le_trans (Nat.le_add_right _ _) hsz) (_hz' := hz') e rfl ?_)
  refine wpAny_bind (wpAny_letGo ?_)
  first
    | exact wpAny_bind (wpAny_pure (wpAny_pure ⟨.none, rfl, wpAny_pure h⟩))
    | exact wpAny_pure ⟨.none, rfl, wpAny_pure h⟩
end

section
variable {X : Cx}
/-- xs[a:c] = ys of another list, at the value level: sl is the slice object that was just made -/
theorem set_slice {pins : List (Addr × Obj)} {s : Shared} {σ : St} {H : Hp} {l b sl : Addr} {xs ys : List V} {a c : Int} {vl vu : Value} {Q : Unit → Shared → Prop} (I : Inv X pins σ H s)
    (hH : H l = some (.lst xs)) (hB : H b = some (.lst ys)) (hne : l ≠ b) (hs : s.heap.IsSliceOf sl vl vu .none) (ra : RelV (.int a) vl) (rc : RelV (.int c) vu) (h0 : 0 ≤ a) (hac : a ≤ c) (hc : c ≤ xs.length)
    (hz : xs.length + ys.length ≤ sizeLine) (h : ∀ s', Inv X pins σ (upd H l (.lst (xs.take a.toNat ++ ys ++ xs.drop c.toNat))) s' → Q () s') :
    wpAny (model X.prog X.w) X.A (setItem (.ref l) (.ref sl) (.ref b)) Q X.xe s := by
  obtain ⟨ta, rfl⟩ := ra
  obtain ⟨tc, rfl⟩ := rc
  obtain ⟨z, its, n, r, hl, e⟩ := I.lstM hH
  obtain ⟨z2, its2, n2, r2, hl2, e2⟩ := I.lstM hB
  obtain ⟨a', rfl⟩ := Int.eq_ofNat_of_zero_le h0
  obtain ⟨c', rfl⟩ := Int.eq_ofNat_of_zero_le (Int.le_trans h0 hac)
  simp only [Int.toNat_natCast] at h
  refine setItem_slice (a := a') (c := c') e e2 hne hs (.int _ _) (.int _ _) (by omega) (by rw [List.size_toArray]; omega) (by rw [List.size_toArray, List.size_toArray]; omega) (h _ ?_)
  refine I.lset (its' := its.take a' ++ its2 ++ its.drop c') (t' := s.toks) hH e ?_ (Vals.append (Vals.append (r.take _) r2) (r.drop _)) ?_
  · exact splice_eq its its2 a' c'
  · rw [List.length_append, List.length_append, List.length_take, List.length_drop]
    omega
end
end L2

namespace Att
open PySem PySem.W PySem.Calls PyProof.Rows

/-! ### the script -/
theorem ints_of_wellAll {P : Params} {h : Heap} : ∀ (ns : List Int) (vs : List Value), WellAll P h vs (ns.map WData.int) → IntsAre vs ns := by
  intro ns
  induction ns with
  | nil =>
    intro vs w
    rw [List.map_nil] at w
    cases w
    exact .nil
  | cons n ns ih =>
    intro vs w
    rw [List.map_cons] at w
    cases w with
    | cons a b =>
      cases a
      exact .cons _ _ (ih _ b)

theorem script_of {l : OpenLaw} {n : Nat} (hn : l.most = some n) {P : Params} {h : Heap} {args : List WData} {vals : List Value}
    (hpre : l.row.toRowW.claim.pre args = true) (hwl : WellAll P h vals args) :
    ∃ a vs ns, vals = [Value.ref a] ∧ args = [WData.list (ns.map WData.int)] ∧ h.get? a = some { cls := .type "list", data := .seq vs.toArray } ∧ IntsAre vs ns ∧ ns.length ≤ n := by
  have hsh : WShape.hasAll [] args [.list .int] = true := (pre_splitW hpre).1
  have hc : l.pre.holds [] { args := args } = true := (pre_splitW hpre).2
  obtain ⟨d, r, rfl, h1, h2⟩ := hasAllW_cons hsh
  obtain rfl := hasAllW_nil h2
  obtain ⟨xs, rfl, h3⟩ := hasW_list h1
  obtain ⟨ns, rfl⟩ := items_int h3
  have hlen : ns.length ≤ n := by
    unfold OpenLaw.pre at hc
    have h4 : (WTm.not (.lt (.lit (.int (n : Int))) (.len (.arg 0)))).holds [] { args := [.list (ns.map .int)] } = true := by
      have h4 := (holds_andW hc).1
      rw [hn] at h4
      exact h4
    have h5 := condW_of h4 (w_not (w_lt w_lit (w_len_list (w_arg rfl))))
    rw [List.length_map] at h5
    refine Nat.le_of_not_lt fun q => ?_
    have q' : (n : Int) < ((ns.length : Nat) : Int) := by omega
    first
      | (rw [decide_eq_true q'] at h5; exact absurd h5 (by decide))
      | (simp at h5; omega)
  cases hwl with
  | cons w1 w2 =>
    cases w2
    cases w1 with
    | list ho hall => exact ⟨_, _, ns, rfl, rfl, ho, ints_of_wellAll ns _ hall, hlen⟩

theorem post_true (l : OpenLaw) (args : List WData) : l.row.toRowW.claim.post args (.bool true) args = true :=
  postW_of (r := l.row.toRowW) (X := (true == true))
    (show WShape.has [] (.bool true) .bool = true by first | rfl | decide | simp [WShape.has, WShape.arms, WShape.armsAll])
    (show (WTm.eq .res (.lit (.bool true))).value [] { args := args, res := some (.bool true), after := args } = some (.bool (true == true)) from w_eq_bool (w_res rfl) w_lit) rfl

/-! ### the attachment: holds_open's last premise (the goal 'hc' behind k_head) from a wpAny of the law's body -/
theorem attach {l : OpenLaw} {n : Nat} {q : Program} {loose : List Str} {XP : (Str → Option Value) → Heap → Prop} {YP : World → Heap → Prop} {d : DefRec} {x : Str}
    (hn : l.most = some n) (hdf : d.params.defaults = [])
    (hbind : ∀ pm cd doc v : Value, bindArgs (docDef d.name d.params d.body d.scope pm cd doc) ⟨[v], []⟩ = pure [(x, v)])
    (hx : d.scope.names.lookup x = some .local ∨ d.scope.names.lookup x = some .cell)
    (hk : d.scope.kind = .function) (hco : d.scope.isCoroutine = false) (hgen : d.scope.isGenerator = false)
    (body : ∀ (w : World) (s₀ s₁ s : Shared) (mg mb : Str → Option Value) (fa : Addr) (o : Obj) (pm cd doc : Value) (a : Addr) (vs : List Value) (ns : List Int),
      Ground q loose [] XP w s₀ mg mb s₁.heap → YP w s₁.heap →
      s₁.heap.get? fa = some o → o.data = .func (docDef d.name d.params d.body d.scope pm cd doc) → s₁.heap.CodeRec cd d.name → mg d.name = some (.ref fa) →
      s₁.heap.get? a = some { cls := .type "list", data := .seq vs.toArray } → IntsAre vs ns → ns.length ≤ n →
      s.gens = #[] → s.os = s₁.os →
      Fr s₁.heap s₁.heap.objs.size s.heap (bindL (envOfC d.name d.scope s₁.heap.objs.size fa cd).kindOf [(x, .ref a)] fun _ => none) →
      Cl s₁.heap.objs.size (cellsFrom (s₁.heap.objs.size + 1) d.scope.names []) s.heap (bindC (envOfC d.name d.scope s₁.heap.objs.size fa cd).kindOf [(x, .ref a)] fun _ => none) →
      wpAny (model l.prog w) (callerA.deeper (envOfC d.name d.scope s₁.heap.objs.size fa cd)) (execs d.body (envOfC d.name d.scope s₁.heap.objs.size fa cd))
        (fun f s' => f = .ret (.bool true) ∧ OldK s₁.heap s'.heap ∧ s'.os = s₁.os ∧ AllBare s'.gens) (fun _ _ => False) s) :
    WalkO q loose XP YP l.row.toRowW d [] (fun f vs => PySem.call f vs) := by
  intro w s₀ s₁ mg mb G Y fa o pm cd doc dV kV ho hd hcd hD hmg hg args vals as hpre hlay hrd hwl hlo
  obtain rfl : dV = .none := Dflts.none hD hdf
  obtain rfl : kV = .none := Dflts.noKw hD
  obtain ⟨a, vs, ns, rfl, rfl, hobj, hints, hlen⟩ := script_of hn hpre hwl
  refine enter_call ?_
  refine call_cells_ret (o := o) (by rw [depth_caller]; decide) ho (fd_plain hd) G.T.nolimit hcd (hbind pm cd doc (.ref a)) (fun y hy => ?_) (fun h₁ tk F X => ?_) hco hgen hk
  · obtain rfl : y = (x, Value.ref a) := List.mem_singleton.mp hy
    rcases hx with e | e
    · exact .inl e
    · exact .inr ⟨e, cellsFrom_some _ _ _ (.inl e)⟩
  · refine wpAny_mono (body w s₀ s₁ { s₁ with heap := h₁, toks := tk } mg mb fa o pm cd doc a vs ns G Y ho (fd_plain hd) hcd hmg hobj hints hlen hg rfl F X) (fun f s' hq => ?_) (fun _ _ hq => hq)
    obtain ⟨rfl, h2, h3, h4⟩ := hq
    exact ⟨.inl ⟨.bool true, .bool true, [], rfl, fun _ => rfl, .bool true, post_true l _, fun _ => ⟨List.Pairwise.nil, fun _ hm => (nomatch hm)⟩⟩, h2, h3, h4⟩

/-- the same from a codeAny of the CALL (for a layer whose function contracts speak of calls) -/
theorem attach_call {l : OpenLaw} {n : Nat} {q : Program} {loose : List Str} {XP : (Str → Option Value) → Heap → Prop} {YP : World → Heap → Prop} {d : DefRec}
    (hn : l.most = some n) (hdf : d.params.defaults = [])
    (call : ∀ (w : World) (s₀ s₁ : Shared) (mg mb : Str → Option Value) (fa : Addr) (o : Obj) (pm cd doc : Value) (a : Addr) (vs : List Value) (ns : List Int),
      Ground q loose [] XP w s₀ mg mb s₁.heap → YP w s₁.heap →
      s₁.heap.get? fa = some o → o.data = .func (docDef d.name d.params d.body d.scope pm cd doc) → s₁.heap.CodeRec cd d.name → mg d.name = some (.ref fa) →
      s₁.heap.get? a = some { cls := .type "list", data := .seq vs.toArray } → IntsAre vs ns → ns.length ≤ n → s₁.gens = #[] →
      codeAny (model l.prog w) callerA (.call (.ref fa) ⟨[.ref a], []⟩) (fun r s' => r = .ok (.ret (.bool true)) ∧ OldK s₁.heap s'.heap ∧ s'.os = s₁.os ∧ AllBare s'.gens) s₁) :
    WalkO q loose XP YP l.row.toRowW d [] (fun f vs => PySem.call f vs) := by
  intro w s₀ s₁ mg mb G Y fa o pm cd doc dV kV ho hd hcd hD hmg hg args vals as hpre hlay hrd hwl hlo
  obtain rfl : dV = .none := Dflts.none hD hdf
  obtain rfl : kV = .none := Dflts.noKw hD
  obtain ⟨a, vs, ns, rfl, rfl, hobj, hints, hlen⟩ := script_of hn hpre hwl
  refine enter_call (codeAny_mono (call w s₀ s₁ mg mb fa o pm cd doc a vs ns G Y ho (fd_plain hd) hcd hmg hobj hints hlen hg) fun r s' hq => ?_)
  obtain ⟨rfl, h2, h3, h4⟩ := hq
  exact ⟨.inl ⟨.bool true, .bool true, [], rfl, fun _ => rfl, .bool true, post_true l _, fun _ => ⟨List.Pairwise.nil, fun _ hm => (nomatch hm)⟩⟩, h2, h3, h4⟩

/-- the same where the top left finished generators (o_head chose holds_openN): nothing may have changed at all and no generator may be left -/
theorem attachN {l : OpenLaw} {n : Nat} {q : Program} {loose : List Str} {XP : (Str → Option Value) → Heap → Prop} {YP : World → Heap → Prop} {d : DefRec} {x : Str}
    (hn : l.most = some n) (hdf : d.params.defaults = [])
    (hbind : ∀ pm cd doc v : Value, bindArgs (docDef d.name d.params d.body d.scope pm cd doc) ⟨[v], []⟩ = pure [(x, v)])
    (hx : d.scope.names.lookup x = some .local ∨ d.scope.names.lookup x = some .cell)
    (hk : d.scope.kind = .function) (hco : d.scope.isCoroutine = false) (hgen : d.scope.isGenerator = false)
    (body : ∀ (w : World) (s₀ s₁ s : Shared) (mg mb : Str → Option Value) (fa : Addr) (o : Obj) (pm cd doc : Value) (a : Addr) (vs : List Value) (ns : List Int),
      Ground q loose [] XP w s₀ mg mb s₁.heap → YP w s₁.heap →
      s₁.heap.get? fa = some o → o.data = .func (docDef d.name d.params d.body d.scope pm cd doc) → s₁.heap.CodeRec cd d.name → mg d.name = some (.ref fa) →
      s₁.heap.get? a = some { cls := .type "list", data := .seq vs.toArray } → IntsAre vs ns → ns.length ≤ n →
      s.gens = #[] → s.os = s₁.os →
      Fr s₁.heap s₁.heap.objs.size s.heap (bindL (envOfC d.name d.scope s₁.heap.objs.size fa cd).kindOf [(x, .ref a)] fun _ => none) →
      Cl s₁.heap.objs.size (cellsFrom (s₁.heap.objs.size + 1) d.scope.names []) s.heap (bindC (envOfC d.name d.scope s₁.heap.objs.size fa cd).kindOf [(x, .ref a)] fun _ => none) →
      wpAny (model l.prog w) (callerA.deeper (envOfC d.name d.scope s₁.heap.objs.size fa cd)) (execs d.body (envOfC d.name d.scope s₁.heap.objs.size fa cd))
        (fun f s' => f = .ret (.bool true) ∧ (∀ b o, s₁.heap.get? b = some o → s'.heap.get? b = some o) ∧ s'.os = s₁.os ∧ s'.gens = #[]) (fun _ _ => False) s) :
    WalkN q loose XP YP l.row.toRowW d [] (fun f vs => PySem.call f vs) := by
  intro w s₀ s₁ mg mb G Y fa o pm cd doc dV kV ho hd hcd hD hmg hg args vals as hpre hlay hrd hwl hlo
  obtain rfl : dV = .none := Dflts.none hD hdf
  obtain rfl : kV = .none := Dflts.noKw hD
  obtain ⟨a, vs, ns, rfl, rfl, hobj, hints, hlen⟩ := script_of hn hpre hwl
  refine enter_callW ?_
  refine call_cells_ret (o := o) (by rw [depth_caller]; decide) ho (fd_plain hd) G.T.nolimit hcd (hbind pm cd doc (.ref a)) (fun y hy => ?_) (fun h₁ tk F X => ?_) hco hgen hk
  · obtain rfl : y = (x, Value.ref a) := List.mem_singleton.mp hy
    rcases hx with e | e
    · exact .inl e
    · exact .inr ⟨e, cellsFrom_some _ _ _ (.inl e)⟩
  · refine wpAny_mono (body w s₀ s₁ { s₁ with heap := h₁, toks := tk } mg mb fa o pm cd doc a vs ns G Y ho (fd_plain hd) hcd hmg hobj hints hlen hg rfl F X) (fun f s' hq => ?_) (fun _ _ hq => hq)
    obtain ⟨rfl, h2, h3, h4⟩ := hq
    exact ⟨.inl ⟨.bool true, .bool true, [], rfl, fun _ => rfl, .bool true, post_true l _, fun _ => ⟨List.Pairwise.nil, fun _ hm => (nomatch hm)⟩⟩, h2, h3, h4⟩

/-! ### rules over ANY heap (no ledger) from facts about the written part K: the library's own take a ledger (News) for what they write -/
section
variable {prog : Program} {w : World} {A : Around} {E : Value → Shared → Prop} {s : Shared} {K : Frag}

/-- a def of the module, or a method (qual 'C.m'), entered: the frame is the next address; cells behind it -/
theorem call_fn {R : Result → Shared → Prop} {name qual : Str} {params : Arguments} {body : List Stmt} {scope : Scope} {dV kV doc pm cdv ct oc : Value} {an od : Option Addr} {osl : Array (Option Value)} {f : Addr} {args : Args} {binds : List (Str × Value)}
    (X : K.In s.heap) (hlim : s.heap.NoLimit) (ho : K.lookup f = some ⟨oc, od, .func (fnOf name qual params body scope dV kV doc pm an cdv ct), osl⟩) (hcd : codeIn K cdv qual = true) (hroom : A.depth < recursionLimit)
    (hbind : BindsTo s (fnOf name qual params body scope dV kV doc pm an cdv ct) args binds)
    (hkind : (binds.all fun y => scope.names.lookup y.1 == some .local || scope.names.lookup y.1 == some .cell) = true)
    (h : ∀ s₁, InCallC s s.heap.objs.size (bindL (envOfC qual scope s.heap.objs.size f cdv).kindOf binds fun _ => none) (cellsFrom (s.heap.objs.size + 1) scope.names [])
        (bindC (envOfC qual scope s.heap.objs.size f cdv).kindOf binds fun _ => none) s₁ →
      wpAny (model prog w) (A.deeper (envOfC qual scope s.heap.objs.size f cdv)) (execs body (envOfC qual scope s.heap.objs.size f cdv))
        (fun fl s' => R (.ok (.ret (match fl with | .ret v => v | _ => .none))) s')
        (fun e s' => wpAny (model prog w) (A.deeper (envOfC qual scope s.heap.objs.size f cdv)) (leaving (envOfC qual scope s.heap.objs.size f cdv) e) (fun _ s'' => R (.error e) s'') (fun e' s'' => R (.error e') s'') s') s₁)
    (hco : scope.isCoroutine = false) (hgen : scope.isGenerator = false) (hk : scope.kind = .function) : codeAny (model prog w) A (.call (.ref f) args) R s := by
  refine codeAny_call_function hroom (X _ _ ho) rfl hco hgen rfl (codeRec_of X hcd) (hbind _ _ _ _ ?_)
  refine wpAny_newFunctionEnv_cells hk (kindsX hkind _) fun env he s₁ x => ?_
  subst he
  exact ⟨hlim.keeps x.toInCall.keep, codeAny_func (h s₁ x)⟩

/-- C(..): dict at size, instance at size + 1, then __init__ -/
theorem make_obj {R : Result → Shared → Prop} {C fI : Addr} {rest : List Value} {kw : List (Str × Value)}
    (X : K.In s.heap) (hm : makesIn K C = true) (hi : findIn K (.ref C) "__init__" = some (some (.ref fI))) (hf : isFn K (.ref fI) = true)
    (h : codeAny (model prog w) (A.under (.builtin "type.__call__" ⟨.ref C :: rest, kw⟩)) (.call (.ref fI) ⟨.ref (s.heap.objs.size + 1) :: rest, kw⟩) (InitBack (s.heap.objs.size + 1) R)
      { s with heap := (s.heap.push emptyDict).push (instObj C s.heap.objs.size) }) : codeAny (model prog w) A (.call (.ref C) ⟨rest, kw⟩) R s := by
  obtain ⟨hh, g, d, t, os⟩ := s
  exact make_core (makes_of X hm) (looks_findIn X hi) (fun self => bind_fn X self (beq_iff_eq.mp hf)) (.inl rfl) h

/-- x.name where the instance's dict holds the name and the class does not -/
theorem get_field {x C : Addr} {ox : Obj} {es : List DictEntry} {n : Nat} {name : Str} {expr : Bool} {v : Value} {Q : Value → Shared → Prop}
    (X : K.In s.heap) (I : PySem.W.InstAt s.heap x ox C (some (dictOf es n))) (hg : plainGet K C name = true) (hh : hasDictIn K C = true) (ha : findIn K (.ref C) name = some none)
    (hl : getL name es = some (some v)) (hv : handedIn v = true) (h : Q v { s with toks := s.toks + 1 }) : wpAny (model prog w) A (getAttr (.ref x) name expr) Q E s :=
  get_value X I (plainGet_of hg).1 (findObj_own hh ha rfl hl) hv h

/-- x.m(..): the method found in the class -/
theorem get_method {x C f : Addr} {ox : Obj} {es : List DictEntry} {n : Nat} {name : Str} {pl : Sem Bool} {Q : Value × List Value → Shared → Prop}
    (X : K.In s.heap) (I : PySem.W.InstAt s.heap x ox C (some (dictOf es n))) (hg : plainGet K C name = true) (hf : findIn K (.ref C) name = some (some (.ref f))) (ht : isFn K (.ref f) = true)
    (hl : getL name es = some none) (h : Q (.ref f, [.ref x]) s) : wpAny (model prog w) A (getMethod (.ref x) name pl) Q E s :=
  method_fn X I (plainGet_of hg).1 (plainGet_of hg).2 hf (beq_iff_eq.mp ht) (by show (lookIn name (dictOf es n)).map _ = _; rw [lookIn_dict, hl]; rfl) h

/-! the whole heap as the ledger: makes every rule that writes through a ledger a rule over any heap -/
def noObjs (h : Heap) : Heap := { h with objs := #[] }
theorem noObjs_get (h : Heap) (b : Addr) : (noObjs h).get? b = none := by
  cases e : (noObjs h).get? b with
  | none => rfl
  | some o => exact absurd (Heap.lt_size e) (Nat.not_lt_zero _)
def ledger (h : Heap) (L d : Addr) : List (Addr × Obj) := (List.range h.objs.size).filterMap fun a => if a = L ∨ a = d then none else (h.get? a).map fun o => (a, o)
theorem mem_ledger {h : Heap} {L d a : Addr} {o : Obj} : (a, o) ∈ ledger h L d ↔ a ≠ L ∧ a ≠ d ∧ h.get? a = some o := by
  unfold ledger
  rw [List.mem_filterMap]
  constructor
  · rintro ⟨b, _, e⟩
    split at e
    · cases e
    · rename_i hb
      obtain ⟨o', ho, e'⟩ := Option.map_eq_some_iff.mp e
      cases e'
      exact ⟨fun q => hb (.inl q), fun q => hb (.inr q), ho⟩
  · rintro ⟨n1, n2, ho⟩
    refine ⟨a, List.mem_range.mpr (Heap.lt_size ho), ?_⟩
    rw [if_neg (show ¬ (a = L ∨ a = d) from fun q => q.elim n1 n2), ho] <;> rfl
theorem news_ledger {h : Heap} {L d : Addr} {od : Obj} (hne : d ≠ L) (ho : h.get? d = some od) : News (noObjs h) L h ([] ++ (d, od) :: ledger h L d) := by
  rintro ⟨a, o⟩ hp
  rcases List.mem_cons.mp hp with e | hp
  · cases e
    exact ⟨ho, hne, noObjs_get _ _⟩
  · obtain ⟨n1, n2, e⟩ := mem_ledger.mp hp
    exact ⟨e, n1, noObjs_get _ _⟩
theorem fr_all {h : Heap} {L : Addr} {m : Str → Option Value} (n : h.Ns L m) : Fr (noObjs h) L h m :=
  ⟨n, fun b o e => (by rw [noObjs_get] at e; cases e), Nat.zero_le _⟩
/-- Upd of the head entry (for append_K, setItem_K ..) -/
theorem upd_ledger {h : Heap} {L d : Addr} {o o' : Obj} : Upd d o o' ((d, o) :: ledger h L d) ((d, o') :: ledger h L d) :=
  .head fun ⟨_, _⟩ hp => (mem_ledger.mp hp).2.1

/-- x.name = v over any heap: L is any namespace of the heap (the frame's, say): its map stays, its object is not told; all else but the dict stays -/
theorem set_field {x C dx L : Addr} {ox : Obj} {m : Str → Option Value} {es es' : List DictEntry} {n n' : Nat} {name : Str} {v : Value} {Q : Unit → Shared → Prop}
    (X : K.In s.heap) (I : PySem.W.InstAt s.heap x ox C (some (dictOf es n))) (hd : ox.dict = some dx) (hL : s.heap.Ns L m) (hne : dx ≠ L)
    (hs : findIn K (.ref C) "__setattr__" = some (some (.builtin "object.__setattr__"))) (hp : plainOver K C = true) (ht : takerIn K C name = some none) (hh : hasDictIn K C = true) (hl : (getL name es).isSome = true)
    (e : (putL name (PyData.keyHash w.params name) (.str name (s.toks + 1)) v es, putN name es n) = (es', n')) (hz : es'.length ≤ 1000)
    (h : ∀ h' : Heap, h'.Ns L m → h'.get? dx = some (dictOf es' n') → (∀ b o, b ≠ dx → b ≠ L → s.heap.get? b = some o → h'.get? b = some o) → Q () { s with heap := h', toks := s.toks + 2 }) :
    wpAny (model prog w) A (setAttr (.ref x) name v) Q E s := by
  obtain ⟨e1, e2⟩ := Prod.mk.inj e
  have hdx : s.heap.get? dx = some (dictOf es n) := by
    have := I.dict
    rw [hd] at this
    exact this
  refine set_plain X I hs (osa_dict (s := { s with toks := s.toks + 1 }) (h₀ := noObjs s.heap) (L := L) (m := m) (od := dictOf es n) (od' := dictOf es' n') (es := es') (n := n') (pre := []) (post := ledger s.heap L dx)
    (fr_all hL) (news_ledger hne hdx) X I hd hp ht hh hl (fun _ q => nomatch q) (fun ⟨_, _⟩ q => (mem_ledger.mp q).2.1) (by rw [putName_dict, e1, e2]) rfl hz fun h' F' N' => ?_)
  exact h h' F'.ns (N'.get (List.Mem.head _)) fun b o n1 n2 ho => N'.get (List.Mem.tail _ (mem_ledger.mpr ⟨n2, n1, ho⟩))
end
end Att

namespace L2
open PySem PySem.Spec PyProof.Rows

theorem vals_ints : ∀ {vs : List Value} {ns : List Int}, IntsAre vs ns → Vals (ns.map V.int) vs
  | _, _, .nil => .nil
  | _, _, .cons n t h => .cons ⟨t, rfl⟩ (vals_ints h)

/-- nothing is tracked but the script, known to the object (or it is an object of the module) -/
def Only (H : Hp) : Prop := ∀ b, H b = none ∨ ∃ o xs, H b = some (.frz o (.lst xs))

/-- THE HEAD: the law's promise, at the heap behind the top. F, the promise of the law's def, may use that base is part of the heap (so K.In base, base.Ns mainGlobals mg stand in Mod) -/
theorem law_call {P : Program} {w : World} {K : PySem.W.Frag} {mg mb : Str → Option Value} {CX : CXT} {k : Nat} {fa a : Addr} {fd : FuncData} {x : Str} {sp : Sp} {s₁ : Shared} {vs : List Value} {ns : List Int}
    (KX : K.In s₁.heap) (hns : s₁.heap.Ns mainGlobals mg) (hb : s₁.heap.Ns builtinsNs mb) (hbb : ∀ x : Str, x ≠ "__name__" → mb x = bootBuiltins x) (hlim : s₁.heap.NoLimit) (hg : s₁.gens = #[])
    (ha : s₁.heap.get? a = some { cls := .type "list", data := .seq vs.toArray }) (hi : IntsAre vs ns) (hl : ns.length ≤ sizeLine) (hr : Room k callerA)
    (F : ∀ base : Heap, K.In base → base.Ns mainGlobals mg → FnOk P w K mg base CX k fa fd [x] sp) (hbind : ∀ (s : Shared) (u : Value), BindsTo s fd ⟨[u], []⟩ [(x, u)])
    (hsp : ∀ H : Hp, Only H → SqL K H a (ns.map V.int) → sp [.ref a] H (fun v _ => v = .bl true) fun _ _ _ => False)
    (hCX : ∀ H e s', CX [] H s₁ (fun _ _ _ => False) e s' → False) :
    codeAny (model P w) callerA (.call (.ref fa) ⟨[.ref a], []⟩) (fun r s' => r = .ok (.ret (.bool true)) ∧ OldK s₁.heap s'.heap ∧ s'.os = s₁.os ∧ AllBare s'.gens) s₁ := by
  have rv := vals_ints hi
  have lenV := hi.length
  -- from an abstract heap in which nothing but the script may be tracked
  have core : ∀ H : Hp, Only H → SqL K H a (ns.map V.int) → HOk P w H s₁.heap → (∀ b, H b ≠ none → b = a) → (H a ≠ none → K.lookup a = none) →
      codeAny (model P w) callerA (.call (.ref fa) ⟨[.ref a], []⟩) (fun r s' => r = .ok (.ret (.bool true)) ∧ OldK s₁.heap s'.heap ∧ s'.os = s₁.os ∧ AllBare s'.gens) s₁ := by
    intro H hO hS hok hA hK
    have base_of : ∀ {b : Addr} {o : Obj}, s₁.heap.get? b = some o → H b = none → (hidT s₁.heap H).get? b = some o := fun e n => hidT_get e n
    have noA : ∀ {b : Addr} {o : Obj} {es : Array DictEntry} {ep : Nat}, s₁.heap.get? b = some o → o.data = .dict es ep → H b = none := fun {b o es ep} e d => by
      cases q : H b with
      | none => rfl
      | some u =>
        have e' : b = a := hA b (by rw [q]; simp)
        subst e'
        rw [ha] at e; cases e
        have d' : Data.seq vs.toArray _ = Data.dict es ep := d
        cases d'
    have nsK : ∀ {b : Addr} {m : Str → Option Value}, s₁.heap.Ns b m → (hidT s₁.heap H).Ns b m := fun {b m} ⟨o, es, ep, e, d, r⟩ => ⟨o, es, ep, base_of e (noA e d), d, r⟩
    have hKb : K.In (hidT s₁.heap H) := fun b o e => base_of (KX b o e) (by
      cases q : H b with
      | none => rfl
      | some u =>
        have e' : b = a := hA b (by rw [q]; simp)
        subst e'
        rw [hK (by rw [q]; simp)] at e; cases e)
    have hM : Mod K mg (hidT s₁.heap H) := ⟨hKb, nsK hns, ⟨mb, nsK hb, hbb⟩, let ⟨mc, h1, h2⟩ := hlim; ⟨mc, nsK h1, h2⟩⟩
    have e0 : Env0 P w K mg (hidT s₁.heap H) callerA [] s₁ H := ⟨rfl, hM, fun b o e => of_hidT e, Nat.le_of_eq (hidT_size _ _), trivial, fun b hb => absurd (show b ∈ ([] : List Addr) from hb) (by simp), hok, .of_eq hg⟩
    refine codeAny_mono ((F _ hKb (nsK hns)).run callerA [] s₁ H ⟨[.ref a], []⟩ [.ref a] [.ref a] _ _ hr e0 (hbind s₁ (.ref a)) (.cons rfl .nil) (hsp H hO hS)) fun r s' h => ?_
    cases r with
    | error e => exact (hCX H e s' h).elim
    | ok fl =>
      cases fl with
      | next => exact False.elim h
      | brk => exact False.elim h
      | cont => exact False.elim h
      | ret u =>
        obtain ⟨v, H', os, bare, un, hok', r', q⟩ := h
        have q' : v = .bl true := q
        subst q'
        obtain rfl : u = Value.bool true := r'
        refine ⟨rfl, OldK.of_keep fun b o e => ?_, os, bare⟩
        cases q : H b with
        | none => exact un.keep b o e q (by intro z; exact absurd (show b ∈ ([] : List Addr) from z) (by simp)) (by simp)
        | some u =>
          rcases hO b with z | ⟨ob, xs, z⟩
          · rw [q] at z; cases z
          · have z2 := un.frzs b ob _ z
            obtain ⟨e1, _⟩ := hok b _ z
            obtain ⟨e2, _⟩ := hok' b _ z2
            rw [e] at e1; cases e1
            exact e2
  cases hk : K.lookup a with
  | some o =>
    -- the script is one of the module's own objects
    have e := KX a o hk
    rw [ha] at e
    cases e
    refine core (fun _ => none) (fun _ => .inl rfl) (.inr ⟨_, vs.toArray, _, hk, rfl, rfl, rfl, by rw [List.size_toArray, lenV]; exact hl, by simpa using rv⟩) (fun b u z => by have z' : (none : Option HO) = some u := z; cases z') (fun b z => absurd rfl z) fun z => absurd rfl z
  | none =>
    refine core (fun b => if b = a then some (.frz { cls := .type "list", data := .seq vs.toArray } (.lst (ns.map V.int))) else none) (fun b => ?_) (.inl (.inr ⟨{ cls := .type "list", data := .seq vs.toArray }, if_pos rfl⟩)) (fun b u z => ?_) (fun b z => ?_) fun _ => hk
    · by_cases hb : b = a
      · exact .inr ⟨_, _, if_pos hb⟩
      · exact .inl (if_neg hb)
    · by_cases hb : b = a
      · have z' := (if_pos hb).symm.trans z
        cases z'
        subst hb
        exact ⟨ha, by rw [List.length_map]; exact hl, vs, _, rv, ha⟩
      · have z' := (if_neg hb).symm.trans z
        cases z'
    · by_cases hb : b = a
      · exact hb
      · exact absurd (if_neg hb) z
end L2

namespace L2
open PySem PySem.Spec PyProof.Rows

abbrev KOf {K : PySem.W.Frag} {h : Heap} (_ : K.In h) : PySem.W.Frag := K

/-- the goal that k_head leaves (case hc), from the law's promise. F gives the function object fd (K's own) once, then the promise over every base -/
theorem walk_of {l : PySem.W.OpenLaw} {n k : Nat} {q : Program} {loose : List Str} {XP : (Str → Option Value) → Heap → Prop} {YP : World → Heap → Prop} {d : DefRec} {K : Params → PySem.W.Frag} {CX : World → CXT} {sp : World → Sp} {x : Str}
    (hn : l.most = some n) (hn2 : n ≤ sizeLine) (hdf : d.params.defaults = []) (hr : Room k callerA)
    (hY : ∀ (w : World) (h : Heap), YP w h → (K w.params).In h)
    (F : ∀ (w : World) (mg : Str → Option Value) (fa : Addr) (h : Heap), (K w.params).In h → h.Ns mainGlobals mg → mg d.name = some (.ref fa) →
      ∃ fd : FuncData, (∀ (s : Shared) (u : Value), BindsTo s fd ⟨[u], []⟩ [(x, u)]) ∧
        ∀ base : Heap, (K w.params).In base → base.Ns mainGlobals mg → FnOk l.prog w (K w.params) mg base (CX w) k fa fd [x] (sp w))
    (hsp : ∀ (w : World) (H : Hp) (a : Addr) (ns : List Int), ns.length ≤ n → Only H → SqL (K w.params) H a (ns.map V.int) → sp w [.ref a] H (fun v _ => v = .bl true) fun _ _ _ => False)
    (hCX : ∀ (w : World) (H : Hp) (s : Shared) (e : Value) (s' : Shared), CX w [] H s (fun _ _ _ => False) e s' → False) :
    PySem.W.WalkO q loose XP YP l.row.toRowW d [] (fun f vs => PySem.call f vs) := by
  refine Att.attach_call hn hdf fun w s₀ s₁ mg mb fa o pm cd doc a vs ns G Y ho hd hcd hmg hobj hints hlen hg => ?_
  have KX := hY w _ Y
  obtain ⟨fd, hb, hF⟩ := F w mg fa _ KX G.T.g hmg
  exact law_call KX G.T.g G.T.b G.T.builtins G.T.nolimit hg hobj hints (Nat.le_trans hlen hn2) hr hF hb (fun H hO hS => hsp w H a ns hlen hO hS) fun H e s' => hCX w H s₁ e s'
/-- the same where the promise hangs on the written part alone: (sp := My.sp_law), no hole under a binder -/
theorem walk_ofK {l : PySem.W.OpenLaw} {n k : Nat} {q : Program} {loose : List Str} {XP : (Str → Option Value) → Heap → Prop} {YP : World → Heap → Prop} {d : DefRec} {K : Params → PySem.W.Frag} {CX : CXT} {sp : PySem.W.Frag → Sp} {x : Str}
    (hn : l.most = some n) (hn2 : n ≤ sizeLine) (hdf : d.params.defaults = []) (hr : Room k callerA)
    (hY : ∀ (w : World) (h : Heap), YP w h → (K w.params).In h)
    (F : ∀ (w : World) (mg : Str → Option Value) (fa : Addr) (h : Heap), (K w.params).In h → h.Ns mainGlobals mg → mg d.name = some (.ref fa) →
      ∃ fd : FuncData, (∀ (s : Shared) (u : Value), BindsTo s fd ⟨[u], []⟩ [(x, u)]) ∧
        ∀ base : Heap, (K w.params).In base → base.Ns mainGlobals mg → FnOk l.prog w (K w.params) mg base CX k fa fd [x] (sp (K w.params)))
    (hsp : ∀ (K : PySem.W.Frag) (H : Hp) (a : Addr) (ns : List Int), ns.length ≤ n → Only H → SqL K H a (ns.map V.int) → sp K [.ref a] H (fun v _ => v = .bl true) fun _ _ _ => False)
    (hCX : ∀ (H : Hp) (s : Shared) (e : Value) (s' : Shared), CX [] H s (fun _ _ _ => False) e s' → False) :
    PySem.W.WalkO q loose XP YP l.row.toRowW d [] (fun f vs => PySem.call f vs) :=
  walk_of (K := K) (CX := fun _ => CX) (sp := fun w => sp (K w.params)) hn hn2 hdf hr hY F (fun w H a ns h1 h2 h3 => hsp (K w.params) H a ns h1 h2 h3) fun _ H s e s' => hCX H s e s'
end L2

/- THE LAST THEOREM (shape; LID, My.* are yours):
   My.Adr: a structure of the addresses that your layer names (classes, functions); My.Txt K t: a structure (Prop) of the equations over K;
   My.txt_mk : {K} {implicit addresses ..} (e1 : nsIn K mainGlobals "law" = some (some (.ref f))) (e2 : K.lookup f = some ⟨oc, od, .func (fnOf "law" "law" params body scope dV kV doc pm an cdv ct), sl⟩) (e3 : codeIn K cdv "law" = true) .. : ∃ t, My.Txt K t

set_option maxRecDepth 100000 in
set_option maxHeartbeats 0 in
theorem PySem.Challenge.cw_LID_holds : PySem.Challenge.rw_LID.Holds := by
  w_on; o_law; k_head; (case hw => w_witness2)
  k_fill
  refine L2.walk_of (l := PySem.Challenge.rw_LID) (n := 63) (k := 40) (x := "script") (CX := fun w => ..) (sp := fun _ => My.sp_law) rfl (by decide) rfl ⟨rfl, by decide, by decide⟩ (fun w h Y => PySem.W.kIn_of Y) ?F ?S ?C
  case F =>
    intro w mg fa h KX G hmg
    have T : ∃ t, My.Txt (L2.KOf KX) t := by
      dsimp only [L2.KOf]                          -- K must stand as «<heap const> w.params» for k_is
      refine' My.txt_mk ?e1 ?e2 ?e3 ..
      (case e1 => PySem.W.k_is)                    -- in the order: a name -> its address -> its object -> its parts
      (case e2 => PySem.W.k_is)
      ..
    obtain ⟨t, T⟩ := T
    have e0 := hmg.symm.trans (PySem.W.mg_of KX G T.law)
    cases e0                                       -- fa is the law's own address
    exact ⟨_, fun s u => .of_eq rfl, fun base kb nb => My.law_fn T kb nb⟩     -- if «.of_eq rfl» comes too early: refine' ⟨_, ?b, fun base kb nb => My.law_fn T kb nb⟩; exact fun s u => .of_eq rfl
  case S => exact fun w H a ns hl hO hS => ..
  case C => exact ..
(the tactic k_is has no namespace: write k_is) -/

/-! SHORT WORDS over the layer: a def of the text, its body, what a loop and a test want. -/
namespace L2
open PySem PySem.Spec PyProof.Rows

/-! ### the text by places -/
/-- the j-th statement of a class's body -/
def inClass (s : Stmt) (j : Nat) : Stmt := match s with
  | .ClassDef _ _ _ body _ _ _ _ _ _ _ => body.getD j (.Pass ⟨0, 0, 0, 0⟩)
  | _ => .Pass ⟨0, 0, 0, 0⟩
def defArgs (s : Stmt) : Arguments := match s with
  | .FunctionDef _ a _ _ _ _ _ _ _ _ => a
  | _ => { posonlyargs := [], args := [], vararg := none, kwonlyargs := [], kw_defaults := [], kwarg := none, defaults := [] }
def defBody (s : Stmt) : List Stmt := match s with
  | .FunctionDef _ _ b _ _ _ _ _ _ _ => b
  | _ => []
def defScope (s : Stmt) : Scope := match s with
  | .FunctionDef _ _ _ _ _ _ sc _ _ _ => sc
  | _ => { kind := .function, names := [], isGenerator := false, isCoroutine := false }

/-! ### no exception leaves a def -/
abbrev CX0 : CXT := fun _ _ _ _ _ _ => False
abbrev E0 : XK := fun _ _ _ => False
theorem pass0 {X : Cx} : Passes CX0 X E0 := fun _ _ _ _ _ _ _ h => h.elim

/-! ### a def (or method) of the text as it stands behind the top -/
structure Fun (K : PySem.W.Frag) (x qual : Str) (st : Stmt) (f : Addr) (fd : FuncData) : Prop where
  ex : ∃ (oc : Value) (od : Option Addr) (kV doc pm : Value) (an : Option Addr) (cdv ct : Value) (osl : Array (Option Value)),
    fd = PySem.W.fnOf x qual (defArgs st) (defBody st) (defScope st) .none kV doc pm an cdv ct ∧ K.lookup f = some ⟨oc, od, .func fd, osl⟩ ∧ PySem.W.codeIn K cdv qual = true
  kp : PySem.W.keepIn K (.ref f) = true
section
variable {P : Program} {w : World} {K : PySem.W.Frag} {mg : Str → Option Value} {base : Heap}
/-- THE RULE for a def: its body as a term of rules, and the reading of that term -/
theorem Fun.ok {x qual : Str} {st : Stmt} {f : Addr} {fd : FuncData} {N ps : List Str} {k : Nat} {sp : Sp} (F : Fun K x qual st f fd) (S : FnScope N ps (defScope st)) (len : ∀ vs H Q E, sp vs H Q E → vs.length = ps.length)
    (hbody : ∀ (cdv : Value) (A : Around) (outer : List Env) (s : Shared) (H : Hp) (vs : List V) (Q : VK) (E : XK), Room k (A.deeper (envOfC qual (defScope st) s.heap.objs.size f cdv)) → sp vs H Q E →
      ∃ t, PSs (cxOf CX0 P w K mg base N qual (defScope st) f cdv A outer s H E).nox (defBody st) t ∧ t { nx := fun _ H' => Q .non H', rt := Q } (start N vs) H) : FnOk P w K mg base CX0 (k + 1) f fd ps sp := by
  obtain ⟨oc, od, kV, doc, pm, an, cdv, ct, osl, rfl, lk, hcd⟩ := F.ex
  refine fn_of lk hcd S len fun A outer s H vs Q E hr hsp => ?_
  obtain ⟨t, h, q⟩ := hbody cdv A outer s H vs Q E hr hsp
  exact ⟨t, h.nox, q⟩
/-- how its arguments bind (no defaults): h is «fun _ _ _ _ _ _ us hl => match us, hl with | [_, _], _ => rfl», one _ a parameter -/
theorem Fun.binds {x qual : Str} {st : Stmt} {f : Addr} {fd : FuncData} {ps : List Str} (F : Fun K x qual st f fd)
    (h : ∀ (kV doc pm : Value) (an : Option Addr) (cdv ct : Value) (us : List Value), us.length = ps.length → bindArgs (PySem.W.fnOf x qual (defArgs st) (defBody st) (defScope st) .none kV doc pm an cdv ct) ⟨us, []⟩ = pure (ps.zip us)) : Binds K fd ps [] := by
  obtain ⟨oc, od, kV, doc, pm, an, cdv, ct, osl, rfl, lk, hcd⟩ := F.ex
  exact .all (h kV doc pm an cdv ct)
theorem fun_mk {x qual : Str} {st : Stmt} {f : Addr} {oc : Value} {od an : Option Addr} {osl : Array (Option Value)} {kV doc pm cdv ct : Value} (l : K.lookup f = some ⟨oc, od, .func (PySem.W.fnOf x qual (defArgs st) (defBody st) (defScope st) .none kV doc pm an cdv ct), osl⟩)
    (c : PySem.W.codeIn K cdv qual = true) (k : PySem.W.keepIn K (.ref f) = true) : Fun K x qual st f (PySem.W.fnOf x qual (defArgs st) (defBody st) (defScope st) .none kV doc pm an cdv ct) := ⟨⟨oc, od, kV, doc, pm, an, cdv, ct, osl, rfl, l, c⟩, k⟩
end
theorem hu_of {A : Around} {k : Nat} (hr : Room k A) : A.units + 1 < cLine := Nat.lt_of_le_of_lt (Nat.add_le_add_left (by decide : 1 ≤ 64) _) hr.units
theorem small1000 {n : Nat} (h : n ≤ 1000) : n < sizeLine := Nat.lt_of_le_of_lt h (by decide)

/-! ### expressions in short: the name that stands in the i-th slot -/
section
variable {X : Cx}
theorem pv (i : Nat) {x : Str} {pos : Pos} (hN : X.N[i]? = some x := by rfl) (hv : Vis X.env.scope x := by first | exact Or.inl rfl | exact Or.inr (Or.inl rfl) | exact Or.inr (Or.inr rfl)) (hd : (x == ("__debug__" : Str)) = false := by decide)
    (hcd : (x == ("__classdict__" : Str)) = false := by decide) : PE X (.Name x pos) (tVar i) := pe_var hN hv hd hcd
end

/-! ### tests -/
theorem iteF {A B : Prop} (h : B) : if false = true then A else B := by
  rw [if_neg Bool.false_ne_true]
  exact h
theorem iteT {A B : Prop} (h : A) : if true = true then A else B := by
  rw [if_pos rfl]
  exact h
theorem ite2 {c A B : Prop} [Decidable c] (h1 : c → A) (h2 : ¬ c → B) : if c then A else B := by
  by_cases h : c
  · rw [if_pos h]
    exact h1 h
  · rw [if_neg h]
    exact h2 h
theorem iteNS {c A B : Prop} [Decidable c] (hc : c) (h : B) : if (!decide c) = true then A else B := by
  rw [decide_eq_true hc]
  exact iteF h

/-! ### heaps -/
/-- all that was tracked is as it was -/
def Same (H H' : Hp) : Prop := ∀ b o, H b = some o → H' b = some o
theorem Same.refl (H : Hp) : Same H H := fun _ _ h => h
theorem Same.trans {H H1 H2 : Hp} (a : Same H H1) (b : Same H1 H2) : Same H H2 := fun c o h => b c o (a c o h)
theorem Same.free {H H' : Hp} (e : Same H H') {l : Addr} (h : H' l = Option.none) : H l = Option.none := by
  cases q : H l with
  | none => rfl
  | some o =>
    rw [e l o q] at h
    cases h
theorem Same.seq {K : PySem.W.Frag} {H H' : Hp} {a : Addr} {xs : List V} (e : Same H H') (h : SqL K H a xs) : SqL K H' a xs := by
  rcases h with (h | ⟨o, h⟩) | h
  · exact .inl (.inl (e _ _ h))
  · exact .inl (.inr ⟨o, e _ _ h⟩)
  · exact .inr h

end L2

set_option Elab.async false
set_option linter.all false
set_option maxRecDepth 100000
namespace L2
open PySem PySem.Spec PyProof.Rows

/-! ### an exception on its way -/
theorem Un.onto {fs : List Addr} {H H' : Hp} {h h1 h2 : Heap} (u : Un fs [] H H' h h1)
    (k : ∀ b o, h1.get? b = some o → b ∉ fs → (∃ o', h.get? b = some o') → h2.get? b = some o)
    (sl : ∀ b o, h1.get? b = some o → b ∈ fs → (∃ o', h.get? b = some o') → ∃ s, h2.get? b = some { o with slots := s }) : Un fs [] H H' h h2 where
  keep := fun b o e n hb hx => k b o (u.keep b o e n hb hx) hb ⟨o, e⟩
  slot := fun b o e n hb hx => by
    obtain ⟨s1, e1⟩ := u.slot b o e n hb hx
    obtain ⟨s2, e2⟩ := sl b _ e1 hb ⟨o, e⟩
    exact ⟨s2, e2⟩
  free := u.free
  there := fun b o e hx => by
    obtain ⟨o', e'⟩ := u.there b o e hx
    by_cases hb : b ∈ fs
    · obtain ⟨s, z⟩ := sl b o' e' hb ⟨o, e⟩
      exact ⟨_, z⟩
    · exact ⟨o', k b o' e' hb ⟨o, e⟩⟩
  tups := u.tups
  frzs := u.frzs
  tbls := u.tbls
theorem HOk.onto {P : Program} {w : World} {H : Hp} {h1 h2 : Heap} (x : HOk P w H h1) (k : ∀ b o u, H b = some u → h1.get? b = some o → h2.get? b = some o) : HOk P w H h2 := fun a o e =>
  (x a o e).stay (fun b u hb q => by
    rcases hb with rfl | hb
    · exact k b u _ e q
    · exact k b u _ hb q) (fun _ q => q) fun _ _ q => q
theorem ObjOk.at {P : Program} {w : World} {H : Hp} {h : Heap} {a : Addr} {o : HO} (x : ObjOk P w H h a o) : ∃ ob, h.get? a = some ob := by
  cases o with
  | lst xs => obtain ⟨_, _, _, _, e⟩ := x; exact ⟨_, e⟩
  | tup xs => obtain ⟨_, _, _, p⟩ := x; obtain ⟨o, e, _⟩ := p; exact ⟨o, e⟩
  | dK kvs => obtain ⟨_, _, _, _, o, _, _, e, _⟩ := x; exact ⟨o, e⟩
  | dT kvs => obtain ⟨_, _, _, _, o, _, _, e, _⟩ := x; exact ⟨o, e⟩
  | set S n => obtain ⟨o, _, _, _, e, _⟩ := x; exact ⟨o, e⟩
  | ins C dx fs => obtain ⟨_, _, _, e, _⟩ := x; exact ⟨_, e⟩
  | own y => exact x
  | xd fs => obtain ⟨_, ⟨o, _, _, e, _⟩, _⟩ := x; exact ⟨o, e⟩
  | rng lo hi => obtain ⟨_, _, _, e⟩ := x; exact ⟨_, e⟩
  | frz ob u => obtain ⟨e, _⟩ := x; exact ⟨ob, e⟩
  | tbl ps => exact ⟨_, (show h.get? a = some _ from x)⟩
  | met f y => exact ⟨_, (show h.get? a = some _ from x)⟩
  | ext φ => obtain ⟨_, e, _⟩ := x; exact e

/-- an exception flies: B holds, as it stands, every object that is tracked or was there ahead of the call, but the frames -/
def CXF (P : Program) (w : World) : CXT := fun outer H s E ev s' =>
  ∃ (e : Addr) (cls a0 : Value) (B : Heap) (H' : Hp), ev = .ref e ∧ s'.os = s.os ∧ AllBare s'.gens ∧
    Un (frs outer) [] H H' s.heap s'.heap ∧ HOk P w H' s'.heap ∧ Heap.FlyingW B outer e cls a0 s'.heap ∧
    (∀ b o, s'.heap.get? b = some o → b ∉ frs outer → ((∃ u, H' b = some u) ∨ ∃ o', s.heap.get? b = some o') → B.get? b = some o) ∧
    H' e = none ∧ s.heap.get? e = none ∧ E cls none H'

section
variable {X : Cx} {pins : List (Addr × Obj)} {σ : St} {H : Hp} {s : Shared}
theorem Inv.noFields (I : Inv X pins σ H s) {b : Addr} (hb : b ∈ frs X.stack) {o : Obj} (e : s.heap.get? b = some o) : ∀ vs, o.data ≠ .fields vs := by
  obtain ⟨_, o', e', h⟩ := I.stack.mem hb
  rw [e] at e'; cases e'
  exact h

/-- behind a step that keeps B and the slots' frames: what a flying exception's facts become in a caller's frame. The frame's own exit. -/
theorem cxf_pass {P : Program} {w : World} {K : PySem.W.Frag} {mg : Str → Option Value} {base : Heap} {N : List Str} {qual : Str} {scope : Scope} {f : Addr} {cd : Value} {A : Around} {outer : List Env} {s₀ : Shared} {H₀ : Hp} {E E' : XK}
    (he : ∀ c a H, E' c a H → E c a H) :
    Passes (CXF P w) (cxOf (CXF P w) P w K mg base N qual scope f cd A outer s₀ H₀ E) E' := by
  intro pins σ H s ev s' I h
  obtain ⟨e, cls, a0, B, H', rfl, os, bare, un, hok, fl, cov, hn, hs, q⟩ := h
  have hlt : ∀ {b : Addr} {o : Obj}, s₀.heap.get? b = some o → b ≠ s₀.heap.objs.size := fun e => Nat.ne_of_lt (Heap.lt_size e)
  have frs_eq : frs (envOfC qual scope s₀.heap.objs.size f cd :: outer) = s₀.heap.objs.size :: frs outer := rfl
  have hfr : ∀ b ∈ frs (envOfC qual scope s₀.heap.objs.size f cd :: outer), ∀ o, s'.heap.get? b = some o → ∀ vs, o.data ≠ .fields vs := fun b hb o eo => by
    obtain ⟨_, o', e', h⟩ := fl.2.2.1.mem hb
    rw [eo] at e'; cases e'
    exact h
  have Ib := I.base
  have nex : ∀ b : Addr, b ∉ (cxOf (CXF P w) P w K mg base N qual scope f cd A outer s₀ H₀ E).ex := fun b z => absurd (show b ∈ ([] : List Addr) from z) (by simp)
  have nL : H' s₀.heap.objs.size = none := by
    obtain ⟨m, ⟨o, _, _, ho, _⟩, _⟩ := I.loc
    exact un.free _ o ho I.free (by simp)
  show wpAny _ _ (leaving _ (.ref e)) _ _ s'
  refine wpAny_leaves_onW (base := B) I.ok.frames rfl fl fun h2 fl2 up => ?_
  have keep2 : ∀ b o, s'.heap.get? b = some o → b ∉ frs outer → b ≠ s₀.heap.objs.size → ((∃ u, H' b = some u) ∨ ∃ o', s.heap.get? b = some o') → h2.get? b = some o := fun b o e1 nb nl hh =>
    fl2.1 b o (cov b o e1 (by show b ∉ s₀.heap.objs.size :: frs outer; simp [nl, nb]) hh)
  have slot2 : ∀ b o, s'.heap.get? b = some o → b ∈ frs outer → ∃ sl, h2.get? b = some { o with slots := sl } := fun b o e1 hb =>
    up b o e1 (hfr b (by rw [frs_eq]; exact List.mem_cons_of_mem _ hb) o e1)
  have thru : ∀ b o, s₀.heap.get? b = some o → ∃ o1, s.heap.get? b = some o1 := fun b o e0 => Ib.there b o e0 (nex b)
  have hUn : Un (frs outer) [] H₀ H' s₀.heap h2 := {
    keep := fun b o e0 n hb _ => by
      have e1 := Ib.keep b o e0 n hb (nex b)
      have n1 := Ib.free b o e0 n (nex b)
      have hb2 : b ∉ frs (envOfC qual scope s₀.heap.objs.size f cd :: outer) := by rw [frs_eq]; simp [hlt e0, hb]
      exact keep2 b o (un.keep b o e1 n1 hb2 (by simp)) hb (hlt e0) (.inr ⟨o, e1⟩)
    slot := fun b o e0 n hb _ => by
      obtain ⟨s1, e1⟩ := Ib.slot b o e0 n hb (nex b)
      have n1 := Ib.free b o e0 n (nex b)
      obtain ⟨s2, e2⟩ := un.any e1 n1 (by simp)
      obtain ⟨s3, e3⟩ := slot2 b _ e2 hb
      exact ⟨s3, e3⟩
    free := fun b o e0 n _ => by
      obtain ⟨o1, e1⟩ := thru b o e0
      exact un.free b o1 e1 (Ib.free b o e0 n (nex b)) (by simp)
    there := fun b o e0 _ => by
      obtain ⟨o1, e1⟩ := thru b o e0
      obtain ⟨o2, e2⟩ := un.there b o1 e1 (by simp)
      by_cases hb : b ∈ frs outer
      · obtain ⟨s3, e3⟩ := slot2 b o2 e2 hb
        exact ⟨_, e3⟩
      · exact ⟨o2, keep2 b o2 e2 hb (hlt e0) (.inr ⟨o1, e1⟩)⟩
    tups := fun b xs q => un.tups b xs (Ib.tups b xs q)
    frzs := fun b o u q => un.frzs b o u (Ib.frzs b o u q)
    tbls := fun b ps q => by
      obtain ⟨m1, e1⟩ := Ib.tbls b ps q
      obtain ⟨m2, e2⟩ := un.tbls b _ e1
      exact ⟨m1 ++ m2, by rw [e2, Array.append_assoc]⟩ }
  have frf' : ∀ b u, H' b = some u → b ∉ frs outer ∧ b ≠ s₀.heap.objs.size := fun b u e1 => by
    refine ⟨fun hb => ?_, fun z => by rw [z, nL] at e1; cases e1⟩
    have n0 : H b = none := I.stkFree b (by show b ∈ frs (envOfC qual scope s₀.heap.objs.size f cd :: outer); rw [frs_eq]; exact List.mem_cons_of_mem _ hb)
    obtain ⟨_, o, eo, _⟩ := I.stack.mem (show b ∈ frs (envOfC qual scope s₀.heap.objs.size f cd :: outer) by rw [frs_eq]; exact List.mem_cons_of_mem _ hb)
    rw [un.free b o eo n0 (by simp)] at e1; cases e1
  have hok2 : HOk P w H' h2 := hok.onto fun b o u hb eo => keep2 b o eo (frf' b u hb).1 (frf' b u hb).2 (.inl ⟨u, hb⟩)
  have cov2 : ∀ b o, h2.get? b = some o → b ∉ frs outer → ((∃ u, H' b = some u) ∨ ∃ o', s₀.heap.get? b = some o') → B.get? b = some o := fun b o e2 hb hh => by
    rcases hh with ⟨u, hu⟩ | ⟨o0, e0⟩
    · obtain ⟨o1, e1⟩ := (hok b u hu).at
      have z := keep2 b o1 e1 (frf' b u hu).1 (frf' b u hu).2 (.inl ⟨u, hu⟩)
      rw [e2] at z; cases z
      exact cov b o e1 (by show b ∉ s₀.heap.objs.size :: frs outer; simp [hb, (frf' b u hu).2]) (.inl ⟨u, hu⟩)
    · obtain ⟨o1, e1⟩ := thru b o0 e0
      obtain ⟨o2, e3⟩ := un.there b o1 e1 (by simp)
      have z := keep2 b o2 e3 hb (hlt e0) (.inr ⟨o1, e1⟩)
      rw [e2] at z; cases z
      exact cov b o e3 (by show b ∉ s₀.heap.objs.size :: frs outer; simp [hb, hlt e0]) (.inr ⟨o1, e1⟩)
  refine ⟨e, cls, a0, B, H', rfl, os.trans I.os, bare, hUn, hok2, fl2, cov2, hn, ?_, he _ _ _ q⟩
  cases z : s₀.heap.get? e with
  | none => rfl
  | some o =>
    obtain ⟨o1, e1⟩ := thru e o z
    rw [hs] at e1; cases e1
end
end L2

set_option Elab.async false
set_option linter.all false
set_option maxRecDepth 100000
namespace L2
open PySem PySem.Spec PyProof.Rows

/-! ### own error classes -/
abbrev bmVE : List Value := [.type "ValueError", .type "Exception", .type "BaseException", .type "object"]
structure ExcC (K : PySem.W.Frag) (mg : Str → Option Value) (x : Str) (C : Addr) : Prop where
  mgx : mg x = some (.ref C)
  ein : PySem.W.excIn K C bmVE "ValueError.__new__" = true
theorem exc_obj {K : PySem.W.Frag} {C : Addr} {bmB : List Value} {newId : String} {h₀ : Heap} (X : K.In h₀) (q : PySem.W.excIn K C bmB newId = true) :
    ∃ bm N nm q bs hdct sn sub ab col dd k0 k1 k2 k3 k5 mN, h₀.get? C = some (excClassObj nm q C N bs bm hdct sn sub ab col dd k0 k1 k2 k3 k5 newId) ∧ h₀.Ns N mN ∧ mN "__init__" = none ∧ OwnTail h₀ bmB bm := by
  unfold PySem.W.excIn at q
  split at q
  · rename_i dd cd sl ho
    split at q
    · rename_i C' bm k0 k1 k2 k3 n k5 hm hs
      simp only [Bool.and_eq_true, beq_iff_eq, Bool.not_eq_true'] at q
      obtain ⟨⟨⟨⟨⟨rfl, rfl⟩, hdel⟩, ht⟩, hok⟩, hni⟩ := q
      obtain ⟨nm, bs, mro, ns, qn, hd, sn, sub, ab, col, del⟩ := cd
      dsimp only at hm hdel hok hni
      subst hm hdel
      have hsl : sl = #[k0, k1, k2, k3, some (.builtin n), k5] := by
        obtain ⟨l⟩ := sl
        simp only at hs
        rw [hs]
      subst hsl
      exact ⟨bm, ns, nm, qn, bs, hd, sn, sub, ab, col, dd, k0, k1, k2, k3, k5, _, X _ _ ho, .of_isNs (PySem.W.isNs_of_in X hok), PySem.W.nsMap_none_of_in X hok hni, PySem.W.tail_of_in X ht⟩
    · cases q
  · cases q

/-! ### raise -/
/-- a made exception reaches the wish -/
def Raises (X : Cx) (E : XK) : Prop := ∀ (pins : List (Addr × Obj)) (σ : St) (H : Hp) (s : Shared) (e C : Addr) (h' : Heap) (args : List Value), Inv X pins σ H s → Heap.MadeExcOf s.heap h' e (.ref C) args → E (.ref C) none H → X.xe (.ref e) { s with heap := h' }
theorem raises_cx {P : Program} {w : World} {K : PySem.W.Frag} {mg : Str → Option Value} {base : Heap} {N : List Str} {qual : Str} {scope : Scope} {f : Addr} {cd : Value} {A : Around} {outer : List Env} {s₀ : Shared} {H₀ : Hp} {E E' : XK}
    (he : ∀ c a H, E' c a H → E c a H) : Raises (cxOf (CXF P w) P w K mg base N qual scope f cd A outer s₀ H₀ E) E' := by
  intro pins σ H s e C h' args I hx q
  have frs_eq : frs (envOfC qual scope s₀.heap.objs.size f cd :: outer) = s₀.heap.objs.size :: frs outer := rfl
  have hin : ∀ env ∈ (envOfC qual scope s₀.heap.objs.size f cd :: outer), ∀ b, env.frame = some b → b ∈ frs (envOfC qual scope s₀.heap.objs.size f cd :: outer) := fun env he b hb => List.mem_filterMap.mpr ⟨env, he, hb⟩
  have nex : ∀ b : Addr, b ∉ (cxOf (CXF P w) P w K mg base N qual scope f cd A outer s₀ H₀ E).ex := fun b z => absurd (show b ∈ ([] : List Addr) from z) (by simp)
  have hlt : ∀ {b : Addr} {o : Obj}, s₀.heap.get? b = some o → b ≠ s₀.heap.objs.size := fun e => Nat.ne_of_lt (Heap.lt_size e)
  have Ib := I.base
  show wpAny _ _ (leaving _ (.ref e)) _ _ _
  refine wpAny_leaves_madeW (base := PySem.W.hideAll s.heap (frs (envOfC qual scope s₀.heap.objs.size f cd :: outer))) (h := s.heap) (s := { s with heap := h' }) I.ok.frames rfl (fun b o q => PySem.W.of_hideAll _ q) (PySem.W.funFrames_hide I.stack hin) hx fun h2 t fl tup tn up => ?_
  have keep2 : ∀ b o, s.heap.get? b = some o → b ∉ frs outer → b ≠ s₀.heap.objs.size → h2.get? b = some o := fun b o e1 nb nl =>
    fl.1 b o (PySem.W.hideAll_get _ e1 (by rw [frs_eq]; simp [nl, nb]))
  have slot2 : ∀ b o, s.heap.get? b = some o → b ∈ frs outer → ∃ sl, h2.get? b = some { o with slots := sl } := fun b o e1 hb =>
    up b o (hx.keeps b o e1) (I.noFields (show b ∈ frs (envOfC qual scope s₀.heap.objs.size f cd :: outer) by rw [frs_eq]; exact List.mem_cons_of_mem _ hb) e1)
  have frf' : ∀ b u, H b = some u → b ∉ frs outer ∧ b ≠ s₀.heap.objs.size := fun b u e1 => by
    refine ⟨fun hb => ?_, fun z => ?_⟩
    · rw [I.stkFree b (show b ∈ frs (envOfC qual scope s₀.heap.objs.size f cd :: outer) by rw [frs_eq]; exact List.mem_cons_of_mem _ hb)] at e1; cases e1
    · rw [z, show H s₀.heap.objs.size = none from I.free] at e1; cases e1
  refine ⟨e, .ref C, .ref t, _, H, rfl, I.os, I.bare, ?_, ?_, fl, ?_, ?_, ?_, he _ _ _ q⟩
  · exact {
      keep := fun b o e0 n hb _ => keep2 b o (Ib.keep b o e0 n hb (nex b)) hb (hlt e0)
      slot := fun b o e0 n hb _ => by
        obtain ⟨s1, e1⟩ := Ib.slot b o e0 n hb (nex b)
        obtain ⟨s2, e2⟩ := slot2 b _ e1 hb
        exact ⟨s2, e2⟩
      free := fun b o e0 n _ => Ib.free b o e0 n (nex b)
      there := fun b o e0 _ => by
        obtain ⟨o1, e1⟩ := Ib.there b o e0 (nex b)
        by_cases hb : b ∈ frs outer
        · obtain ⟨s3, e3⟩ := slot2 b o1 e1 hb
          exact ⟨_, e3⟩
        · exact ⟨o1, keep2 b o1 e1 hb (hlt e0)⟩
      tups := Ib.tups
      frzs := Ib.frzs
      tbls := Ib.tbls }
  · exact I.hok.onto fun b o u hb eo => keep2 b o eo (frf' b u hb).1 (frf' b u hb).2
  · intro b o e2 hb hh
    have main : ∀ o1, s.heap.get? b = some o1 → b ≠ s₀.heap.objs.size → (PySem.W.hideAll s.heap (frs (envOfC qual scope s₀.heap.objs.size f cd :: outer))).get? b = some o := fun o1 e1 nl => by
      have z := keep2 b o1 e1 hb nl
      rw [e2] at z; cases z
      exact PySem.W.hideAll_get _ e1 (by rw [frs_eq]; simp [nl, hb])
    rcases hh with ⟨u, hu⟩ | ⟨o0, e0⟩
    · obtain ⟨o1, e1⟩ := (I.hok b u hu).at
      exact main o1 e1 (frf' b u hu).2
    · obtain ⟨o1, e1⟩ := Ib.there b o0 e0 (nex b)
      exact main o1 e1 (hlt e0)
  · cases z : H e with
    | none => rfl
    | some u =>
      obtain ⟨o1, e1⟩ := (I.hok e u z).at
      rw [hx.new] at e1; cases e1
  · cases z : s₀.heap.get? e with
    | none => rfl
    | some o =>
      obtain ⟨o1, e1⟩ := Ib.there e o z (nex e)
      rw [hx.new] at e1; cases e1

section
variable {X : Cx}
def tRaise (t : TA) (C : Addr) (E : XK) : TS := fun _ σ H => t σ H fun vs H1 => vs.length ≤ sizeLine ∧ E (.ref C) none H1
theorem ps_raise {x : Str} {np cpos pos : Pos} {e : Expr} {es : List Expr} {t : TA} {C : Addr} {E : XK} (hR : Raises X E) (hc : X.calm = true) (G : ExcC X.K X.mg x C) (hg : Gl X x) (ha : PA X (e :: es) t)
    (he : starEach (e :: es) X.env = (false, eval e X.env) :: starEach es X.env := by rfl) (hpl : (backTo cpos (starEach es X.env)).any (·.1) = false := by rfl) (hdb : (x == ("__debug__" : Str)) = false := by decide) :
    PS X (.Raise (some (.Call (.Name x np) (e :: es) [] cpos)) none pos) (tRaise t C E) := by
  intro pins s σ H D I h
  obtain ⟨tl, N, nm, q, bs, hdct, sn, sub, ab, col, dd, k0, k1, k2, k3, k5, mN, hC, hN, hni, T⟩ := exc_obj I.ok.mod.kin G.ein
  refine wpAny_Raise_call_subT (C := C) (nm := nm) (q := q) (N := N) (bs := bs) (bm := tl) (hdct := hdct) (sn := sn) (sub := sub) (ab := ab) (col := col) (dd := dd) (k0 := k0) (k1 := k1) (k2 := k2) (k3 := k3) (k5 := k5)
    PySem.F.excBase_ValueError (mN := mN) (T.hasType PySem.F.excBase_ValueError.hasBase) (I.ok.hd hc) (by rw [he]; show (false || (backTo cpos (starEach es X.env)).any (·.1)) = false; rw [hpl]; rfl) hni (ld_glob I hg G.mgx ⟨rfl, ?_⟩ hdb)
  have h2 := ha cpos pins s σ H _ I h
  rw [he] at h2 ⊢
  exact Calls.evalArgs_plain (wpAny_mono h2 (fun us s₂ ⟨vs, H1, I1, r, q1, q2⟩ => ⟨rfl, by rw [← r.length]; exact q1, I1.bk _ _ hC, hN.keeps I1.bk, T.keeps I1.bk, fun h' e hm => hR pins σ H1 s₂ e C h' us I1 hm q2⟩) fun _ _ y => y)
end

/-! ### try .. except C as n -/
section
variable {X : Cx} {pins : List (Addr × Obj)} {σ : St} {H H' : Hp} {s : Shared}
abbrev noSt (X : Cx) : St := List.replicate X.N.length none
theorem Inv.forget (I : Inv X pins σ H s) {h' : Heap} {m' : Str → Option Value} {t' : Nat} (hs : Heap.SameBut X.env.locals s.heap h') (hn : h'.Ns X.env.locals m') : Inv X pins (noSt X) H { s with heap := h', toks := t' } := by
  have ne : ∀ {b : Addr} {o : Obj}, X.s₀.heap.get? b = some o → b ≠ X.env.locals := fun e => Nat.ne_of_lt (Nat.lt_of_lt_of_le (Heap.lt_size e) I.ok.above)
  refine ⟨I.ok, I.os, I.bare, ⟨fun b o e n hb hx => (hs.2 b (ne e)).trans (I.base.keep b o e n hb hx), fun b o e n hb hx => ?_, I.base.free, fun b o e hx => ?_, I.base.tups, I.base.frzs, I.base.tbls⟩, ⟨m', hn, fun j y v e1 e2 e3 => ?_⟩, fun y c e => ?_, I.free, I.freeC, fun p hp => ?_, ?_, by simp [noSt]⟩
  · obtain ⟨sl, e1⟩ := I.base.slot b o e n hb hx
    exact ⟨sl, (hs.2 b (ne e)).trans e1⟩
  · obtain ⟨o', e1⟩ := I.base.there b o e hx
    exact ⟨o', (hs.2 b (ne e)).trans e1⟩
  · rw [List.getElem?_replicate] at e2
    split at e2 <;> cases e2
  · obtain ⟨w', z⟩ := I.cell y c e
    exact ⟨w', z.sameBut hs (I.cne y c e)⟩
  · obtain ⟨e, n, nl, nf, d⟩ := I.pin p hp
    exact ⟨(hs.2 p.1 nl).trans e, n, nl, nf, d⟩
  · exact I.hok.onto fun b o u hb eo => (hs.2 b fun z => by rw [z, I.free] at hb; cases hb).trans eo
theorem Inv.none (I : Inv X pins σ H s) : Inv X pins (noSt X) H s := I.weak (by rw [I.len]; simp [noSt]) fun i v e => by
  rw [List.getElem?_replicate] at e
  split at e <;> cases e

abbrev Cx.inH (X : Cx) (e : Addr) (E : Value → Shared → Prop) : Cx := { X with A := X.A.mark (some (.ref e)), calm := false, xe := E }
theorem Cx.Ok.inH (ok : X.Ok) (e : Addr) (E : Value → Shared → Prop) : (X.inH e E).Ok :=
  ⟨ok.mod, ok.kind, ok.glob, ok.blt, ok.above, ok.inj, ok.has, ok.cab, fun z => Bool.noConfusion z, ok.frames, ok.stk, ok.exf, ok.bs, ok.bsz, ok.noex, ok.exfs, ok.funs, ok.frf⟩
theorem Inv.inH (I : Inv X pins σ H s) (e : Addr) (E : Value → Shared → Prop) : Inv (X.inH e E) pins σ H s := ⟨I.ok.inH e E, I.os, I.bare, I.base, I.loc, I.cell, I.free, I.freeC, I.pin, I.hok, I.len⟩
theorem Inv.outH {e : Addr} {E : Value → Shared → Prop} (ok : X.Ok) (I : Inv (X.inH e E) pins σ H s) : Inv X pins σ H s := ⟨ok, I.os, I.bare, I.base, I.loc, I.cell, I.free, I.freeC, I.pin, I.hok, I.len⟩
abbrev Cx.tr (X : Cx) (E : Value → Shared → Prop) (pn : List (Addr × Obj)) : Cx := { X with xe := E, pn := pn }
theorem Cx.Ok.tr (ok : X.Ok) (E : Value → Shared → Prop) (pn : List (Addr × Obj)) : (X.tr E pn).Ok :=
  ⟨ok.mod, ok.kind, ok.glob, ok.blt, ok.above, ok.inj, ok.has, ok.cab, ok.hd, ok.frames, ok.stk, ok.exf, ok.bs, ok.bsz, ok.noex, ok.exfs, ok.funs, ok.frf⟩
theorem Inv.tr (I : Inv X pins σ H s) (E : Value → Shared → Prop) : Inv (X.tr E (X.pn ++ pins)) [] σ H s := ⟨I.ok.tr E _, I.os, I.bare, I.base, I.loc, I.cell, I.free, I.freeC, fun p hp => I.pin p (by rwa [List.append_nil] at hp), I.hok, I.len⟩
theorem Inv.untr {pins' : List (Addr × Obj)} {E : Value → Shared → Prop} (ok : X.Ok) (I : Inv (X.tr E (X.pn ++ pins)) pins' σ H s) : Inv X pins σ H s := ⟨ok, I.os, I.bare, I.base, I.loc, I.cell, I.free, I.freeC, fun p hp => I.pin p (List.mem_append_left _ hp), I.hok, I.len⟩

/-- a caught exception: an object of that class -/
def ExcO (e : Addr) (cls : Value) : HO := .ext fun h => ∃ o, h.get? e = some o ∧ o.cls = cls
/-- behind a call that raised, in the frame that catches -/
theorem Inv.landed {E : XK} {ev : Value} {s' : Shared} (I : Inv X pins σ H s) (h : CXF X.prog X.w X.stack H s E ev s') :
    ∃ (e : Addr) (cls a0 : Value) (B : Heap) (H' : Hp), ev = .ref e ∧ Heap.FlyingW B X.stack e cls a0 s'.heap ∧ H' e = Option.none ∧ E cls Option.none H' ∧
      ∀ (h2 : Heap) (t2 : Nat), Heap.FlyingW B X.stack e cls a0 h2 → s'.heap.UpToSlots h2 → Inv X pins σ (upd H' e (ExcO e cls)) { s' with heap := h2, toks := t2 } ∧ Inv X pins σ H' { s' with heap := h2, toks := t2 } := by
  obtain ⟨e, cls, a0, B, H', rfl, os, bare, un, hok, fl, cov, hn, hs, q⟩ := h
  refine ⟨e, cls, a0, B, H', rfl, fl, hn, q, fun h2 t2 fl2 up => ?_⟩
  have hfr : ∀ b ∈ frs X.stack, ∀ o, s'.heap.get? b = some o → ∀ vs, o.data ≠ .fields vs := fun b hb o eo => by
    obtain ⟨_, o', e', h⟩ := fl.2.2.1.mem hb
    rw [eo] at e'; cases e'
    exact h
  have nfr : ∀ b u, H' b = some u → b ∉ frs X.stack := fun b u e1 hb => by
    obtain ⟨_, o, eo, _⟩ := I.stack.mem hb
    rw [un.free b o eo (I.stkFree b hb) (by simp)] at e1; cases e1
  have un2 : Un (frs X.stack) [] H H' s.heap h2 := un.onto (fun b o e1 nb hh => fl2.1 b o (cov b o e1 nb (.inr hh))) fun b o e1 hb _ => up b o e1 (hfr b hb o e1)
  have hok2 : HOk X.prog X.w H' h2 := hok.onto fun b o u hu e1 => fl2.1 b o (cov b o e1 (nfr b u hu) (.inl ⟨u, hu⟩))
  have I2 : Inv X pins σ H' { s' with heap := h2, toks := t2 } := I.call' (ch := []) os un2 hok2 bare (fun b z => absurd z (by simp))
  obtain ⟨ob, hob, hcl⟩ := fl2.there
  refine ⟨?_, I2⟩
  have new : ObjOk X.prog X.w (upd H' e (ExcO e cls)) h2 e (ExcO e cls) := ⟨⟨ob, hob, hcl⟩, ⟨ob, hob⟩, fun h1 h2 ⟨o, a, b⟩ k => ⟨o, k o a, b⟩⟩
  have hok3 : HOk X.prog X.w (upd H' e (ExcO e cls)) h2 := fun b u eb => by
    by_cases hb : b = e
    · subst hb; rw [upd_same] at eb; cases eb; exact new
    · rw [upd_ne hb] at eb
      exact (hok2 b u eb).stay (fun c v _ q => q) (fun c q => by rw [upd_ne (ne_of_none q hn)]; exact q) fun c xs q => by rw [upd_ne (ne_of_none q hn)]; exact q
  have un3 : Un (frs X.stack) [] H (upd H' e (ExcO e cls)) s.heap h2 := {
    keep := un2.keep, slot := un2.slot, there := un2.there
    free := fun b o e1 n hx => by
      have nb : b ≠ e := fun z => by rw [z, hs] at e1; cases e1
      rw [upd_ne nb]; exact un2.free b o e1 n hx
    tups := fun b xs q => by
      have z := un2.tups b xs q
      rw [upd_ne (ne_of_none z hn)]; exact z
    frzs := fun b o u q => by
      have z := un2.frzs b o u q
      rw [upd_ne (ne_of_none z hn)]; exact z
    tbls := fun b ps q => by
      obtain ⟨m, z⟩ := un2.tbls b ps q
      exact ⟨m, by rw [upd_ne (ne_of_none z hn)]; exact z⟩ }
  exact I.call' (ch := []) os un3 hok3 bare (fun b z => absurd z (by simp))

/-- what a try wants of an exception: its class matches, and the suite is read with the exception in slot i, all else forgotten -/
def wTry (X : Cx) (i : Nat) (C : Addr) (th : TS) (D : Ends) : XK := fun cls _ H' => PySem.W.exmOne X.K cls (.ref C) = some true ∧
  ∀ e, H' e = Option.none → th { nx := fun _ H2 => D.nx (noSt X) H2, bk := fun _ H2 => D.bk (noSt X) H2, ct := fun _ H2 => D.ct (noSt X) H2, rt := D.rt } ((noSt X).set i (some (.ref e))) (upd H' e (ExcO e cls))
def tTry (X : Cx) (i : Nat) (C : Addr) (tb : XK → TS) (th : TS) : TS := fun D σ H => tb (wTry X i C th D) D σ H
theorem ps_try {x n : Str} {i : Nat} {C : Addr} {body : List Stmt} {b₀ : Stmt} {suite : List Stmt} {np hpos pos : Pos} {tb : XK → TS} {th : TS} (hN : X.N.Nodup) (hi : X.N[i]? = some n) (hl : X.env.scope.names.lookup n = some .local) (hg : Gl X x) (hm : X.mg x = some (.ref C))
    (hs : X.stack = X.env :: X.outer) (hf : X.env.frame = some X.env.locals)
    (hb : ∀ (E : XK) (Et : Value → Shared → Prop) (pn : List (Addr × Obj)), Passes (CXF X.prog X.w) (X.tr Et pn) E → PassesOwn (model X.prog X.w) X.A X.env Et → PSs (X.tr Et pn) body (tb E))
    (hh : ∀ (e : Addr) (E : Value → Shared → Prop), PSs (X.inH e E) (b₀ :: suite) th) (hdb : (x == ("__debug__" : Str)) = false := by decide) :
    PS X (.Try body [.ExceptHandler (some (.Name x np)) (some n) (b₀ :: suite) hpos] [] [] pos) (tTry X i C tb th) := by
  intro pins s σ H D I h
  refine wpAny_Try_except ?_
  generalize hEt : (fun (e : Value) (s₁ : Shared) => wpAny (model X.prog X.w) X.A (noteFrame e X.env) (fun _ s₂ => wpAny (model X.prog X.w) X.A (setFlight e Option.none) (fun _ s₃ => wpAny (model X.prog X.w) X.A (handleBy e X.env [.ExceptHandler (some (.Name x np)) (some n) (b₀ :: suite) hpos]) (SP X pins D) X.xe s₃) X.xe s₂) X.xe s₁) = Et
  have hown : PassesOwn (model X.prog X.w) X.A X.env Et := by rw [← hEt]; exact PassesOwn.looking
  have hps : Passes (CXF X.prog X.w) (X.tr Et (X.pn ++ pins)) (wTry X i C th D) := by
    intro pins' σ' H1 s1 ev s2 I1 hx
    have J := I1.untr (pins := pins) I.ok
    obtain ⟨e, cls, a0, B, H2, rfl, fl, hn, ⟨hmat, hth⟩, land⟩ := J.landed hx
    show Et (.ref e) s2
    rw [← hEt]
    show wpAny _ _ (noteFrame (.ref e) X.env) _ _ s2
    rw [hs] at fl
    refine wpAny_looks_onW (base := B) (outer := X.outer) (L := X.env.locals) (by rw [I.ok.frames, hs]) hf fl fun h4 held4 up4 => ?_
    refine wpAny_landsW held4 fun h5 fl5 up5 => ?_
    have up5' := up4.trans up5
    obtain ⟨_, J5⟩ := land h5 s2.toks (by rw [hs]; exact fl5) up5'
    have mk : ∀ (Ex : Value → Shared → Prop), Inv (X.inH e Ex) pins σ' H2 { s2 with heap := h5 } := fun Ex => J5.inH e Ex
    refine wpAny_handleBy_cons (codeAny_handlers_test (ld_glob (X := X.inH e (fun _ _ => True)) (mk _) hg hm ?_ hdb)) (by intro q; cases q)
    obtain ⟨ob, hob, hcl⟩ := fl5.there
    have LT : PySem.W.Looks (model X.prog X.w) h5 (typeOf (.ref e)) cls := hcl ▸ (PySem.W.Looks.ld hob).andThen .now
    refine (PySem.W.exm_one (M := model X.prog X.w) J5.kIn LT hmat).here ?_
    show codeAny _ _ _ _ _
    refine codeAny_handlers_suite_as ?_
    refine lands_againW (s := { s2 with heap := h5 }) fl5 fun h6 fl6 up6 => ?_
    obtain ⟨J6, _⟩ := land h6 s2.toks (by rw [hs]; exact fl6) (up5'.trans up6)
    refine store_ok (X := X) (i := i) (v := .ref e) J6.none hN hi (.inl hl) rfl (fun s7 J7 => ?_) (.inr hl)
    generalize hEx : (fun (x : Value) (s₃ : Shared) => _) = Ex
    refine wpAny_mono (hh e Ex pins s7 _ _ _ (J7.inH e Ex) (hth e hn)) (fun f s8 q8 => ?_) fun x s8 q8 => q8
    have fin : ∀ {σ8 : St} {H8 : Hp}, Inv (X.inH e Ex) pins σ8 H8 s8 → (∀ s9, Inv X pins (noSt X) H8 s9 → SP X pins D f s9) →
        wpAny (model X.prog X.w) X.A (do bindName X.env n .none; unbindBehindTheSuite X.env n hpos) (fun _ s9 => SP X pins D f s9) X.xe s8 := fun {σ8 H8} J8 k => by
      obtain ⟨m8, n8, _⟩ := J8.loc
      refine wpAny_nameGoes hl n8 (by rw [I.ok.kind]; rfl) fun h9 m9 n9 sb => ?_
      exact k _ ((J8.outH I.ok).forget sb n9)
    cases f with
    | next => obtain ⟨σ8, H8, J8, q⟩ := q8; exact fin J8 fun s9 J9 => ⟨_, H8, J9, q⟩
    | brk => obtain ⟨σ8, H8, J8, q⟩ := q8; exact fin J8 fun s9 J9 => ⟨_, H8, J9, q⟩
    | cont => obtain ⟨σ8, H8, J8, q⟩ := q8; exact fin J8 fun s9 J9 => ⟨_, H8, J9, q⟩
    | ret u => obtain ⟨v, σ8, H8, J8, r8, q⟩ := q8; exact fin J8 fun s9 J9 => ⟨v, _, H8, J9, r8, q⟩
  refine wpAny_mono (hb _ Et (X.pn ++ pins) hps hown [] s σ H D (I.tr Et) h) (fun f s1 q1 => ?_) fun e s1 q1 => ?_
  · have conv : SP X pins D f s1 := by
      cases f with
      | next => obtain ⟨σ8, H8, J8, q⟩ := q1; exact ⟨σ8, H8, J8.untr I.ok, q⟩
      | brk => obtain ⟨σ8, H8, J8, q⟩ := q1; exact ⟨σ8, H8, J8.untr I.ok, q⟩
      | cont => obtain ⟨σ8, H8, J8, q⟩ := q1; exact ⟨σ8, H8, J8.untr I.ok, q⟩
      | ret u => obtain ⟨v, σ8, H8, J8, r8, q⟩ := q1; exact ⟨v, σ8, H8, J8.untr I.ok, r8, q⟩
    cases f with
    | next => exact wpAny_execs_nil conv
    | brk => exact conv
    | cont => exact conv
    | ret u => exact conv
  · exact q1
end
end L2

set_option Elab.async false
set_option linter.all false
set_option maxRecDepth 100000
namespace L2
open PySem PySem.Spec PyProof.Rows

/-! ### a list comprehension of one clause, without cells of its own -/
def clOf (cells : List (Str × Addr)) : List (Str × NameKind) → List (Str × Addr) → List (Str × Addr)
  | [], cs => cs
  | (n, k) :: r, cs => clOf cells r (if k == .free then (match cells.lookup n with | some c => (n, c) :: cs | none => cs) else cs)
theorem closureFor_eq {scope : Scope} {env : Env} (h : ∀ y ∈ scope.names, y.2 = .free → ∃ c, env.cells.lookup y.1 = some c) : closureFor scope env = pure (clOf env.cells scope.names []) := by
  unfold closureFor
  have go : ∀ (l : List (Str × NameKind)) (cs : List (Str × Addr)), (∀ y ∈ l, y.2 = .free → ∃ c, env.cells.lookup y.1 = some c) →
      (forIn l cs fun x r => if (x.2 == NameKind.free) = true then do let c ← cellOf env x.1; pure (ForInStep.yield ((x.1, c) :: r)) else pure (ForInStep.yield r) : Sem (List (Str × Addr))) = pure (clOf env.cells l cs) := by
    intro l
    induction l with
    | nil => intro cs _; rfl
    | cons x r ih =>
      intro cs hl
      obtain ⟨n, k⟩ := x
      rw [List.forIn_cons]
      by_cases hk : k = .free
      · subst hk
        obtain ⟨c, hc⟩ := hl (n, .free) List.mem_cons_self rfl
        have hc' : env.cells.lookup n = some c := hc
        have e : cellOf env n = pure c := by unfold cellOf; rw [hc']
        simp only [beq_self_eq_true, if_true, e, pure_bind, clOf, hc']
        exact ih _ fun y hy => hl y (List.mem_cons_of_mem _ hy)
      · have e : (k == NameKind.free) = false := by simpa using hk
        simp only [e, Bool.false_eq_true, if_false, pure_bind, clOf]
        exact ih _ fun y hy => hl y (List.mem_cons_of_mem _ hy)
  have := go scope.names [] h
  simpa using this
theorem clOf_sub {cells : List (Str × Addr)} : ∀ {l : List (Str × NameKind)} {cs : List (Str × Addr)} {x : Str} {c : Addr}, (clOf cells l cs).lookup x = some c → (∀ y d, cs.lookup y = some d → cells.lookup y = some d) → cells.lookup x = some c
  | [], cs, x, c, h, hs => hs x c h
  | (n, k) :: r, cs, x, c, h, hs => by
    unfold clOf at h
    refine clOf_sub h ?_
    intro y d e
    split at e
    · split at e
      · rename_i c' hc'
        rw [List.lookup_cons] at e
        split at e
        · rename_i hy
          cases e
          have hy' : y = n := by simpa using hy
          rw [hy']; exact hc'
        · exact hs y d e
      · exact hs y d e
    · exact hs y d e
theorem clOf_keep {cells : List (Str × Addr)} : ∀ {l : List (Str × NameKind)} {cs : List (Str × Addr)} {x : Str}, (∃ c, cs.lookup x = some c) → ∃ c, (clOf cells l cs).lookup x = some c
  | [], cs, x, h => h
  | (n, k) :: r, cs, x, ⟨c, h⟩ => by
    unfold clOf
    refine clOf_keep ?_
    split
    · split
      · rw [List.lookup_cons]
        split
        · exact ⟨_, rfl⟩
        · exact ⟨c, h⟩
      · exact ⟨c, h⟩
    · exact ⟨c, h⟩
theorem clOf_has {cells : List (Str × Addr)} : ∀ {l : List (Str × NameKind)} {cs : List (Str × Addr)} {x : Str}, (x, NameKind.free) ∈ l → (∃ c, cells.lookup x = some c) → ∃ c, (clOf cells l cs).lookup x = some c
  | (n, k) :: r, cs, x, hm, ⟨c, hc⟩ => by
    rcases List.mem_cons.mp hm with e | hm
    · cases e
      unfold clOf
      refine clOf_keep ?_
      rw [if_pos (by rfl), hc]
      exact ⟨c, by rw [List.lookup_cons]; simp⟩
    · unfold clOf
      exact clOf_has hm ⟨c, hc⟩
theorem relabel_inv {env : Env} : ∀ {names : List (Str × NameKind)} {x : Str} {k : NameKind}, (∀ y ∈ names, y.2 ≠ .cell) →
    (names.map fun (n, k) => if (k == NameKind.free && env.scope.kind == .function && env.kindOf n == some .cell) then (n, NameKind.cell) else (n, k)).lookup x = some k → (k = .cell ∨ k = .free) → (x, NameKind.free) ∈ names
  | [], _, _, _, h, _ => by simp at h
  | (n, k0) :: r, x, k, hc, h, hk => by
    have ih := @relabel_inv env r x k (fun y hy => hc y (List.mem_cons_of_mem _ hy))
    rw [List.map_cons, List.lookup_cons] at h
    by_cases c : (k0 == NameKind.free && env.scope.kind == .function && env.kindOf n == some .cell) = true
    · have hf : k0 = .free := by
        simp only [Bool.and_eq_true, beq_iff_eq] at c
        exact c.1.1
      subst hf
      rw [if_pos c] at h
      dsimp only at h
      split at h
      · rename_i hy
        have : x = n := by simpa using hy
        subst this
        exact List.mem_cons_self
      · exact List.mem_cons_of_mem _ (ih h hk)
    · rw [if_neg c] at h
      dsimp only at h
      split at h
      · rename_i hy
        have : x = n := by simpa using hy
        subst this
        cases h
        rcases hk with rfl | rfl
        · exact absurd rfl (hc (x, .cell) List.mem_cons_self)
        · exact List.mem_cons_self
      · exact List.mem_cons_of_mem _ (ih h hk)

theorem relabel_free {env : Env} : ∀ {names : List (Str × NameKind)} {x : Str}, names.lookup x = some .free →
    (names.map fun (n, k) => if (k == NameKind.free && env.scope.kind == .function && env.kindOf n == some .cell) then (n, NameKind.cell) else (n, k)).lookup x = some .cell ∨
    (names.map fun (n, k) => if (k == NameKind.free && env.scope.kind == .function && env.kindOf n == some .cell) then (n, NameKind.cell) else (n, k)).lookup x = some .free
  | [], _, h => by simp at h
  | (n, k0) :: r, x, h => by
    have ih := @relabel_free env r x
    rw [List.lookup_cons] at h
    rw [List.map_cons, List.lookup_cons]
    by_cases c : (k0 == NameKind.free && env.scope.kind == .function && env.kindOf n == some .cell) = true
    · rw [if_pos c]
      dsimp only
      split at h
      · exact .inl rfl
      · exact ih h
    · rw [if_neg c]
      dsimp only
      split at h
      · exact .inr h
      · exact ih h

/-- the context of a comprehension's block -/
abbrev Cx.comp (X : Cx) (s : Shared) (H : Hp) (scope : Scope) (C : Addr) (N : List Str) (ex : List Addr) : Cx :=
  { X with N := N, s₀ := s, H₀ := H, env := compEnvC scope (clOf X.env.cells scope.names []) C X.env, outer := X.stack, stack := X.stack, ex := ex, fn := fun _ => false, pn := [], xe := fun _ _ => False }
/-- what a comprehension's scope must be; caps: for each of its names the slot of the outer one (none: its own) -/
structure CompSc (X : Cx) (scope : Scope) (N : List Str) (caps : List (Option Nat)) : Prop where
  kind : scope.kind = .function
  nocell : ∀ y ∈ scope.names, y.2 ≠ .cell
  names : ∀ y ∈ scope.names, y.2 = .local → scope.names.lookup y.1 = some .local
  free : ∀ y ∈ scope.names, y.2 = .free → X.env.scope.names.lookup y.1 = some .cell ∨ X.env.scope.names.lookup y.1 = some .free
  nd : N.Nodup
  len : caps.length = N.length
  capf : ∀ (j k : Nat) (x : Str), caps[j]? = some (some k) → N[j]? = some x → scope.names.lookup x = some .free
  cap : ∀ (j k : Nat) (x : Str), caps[j]? = some (some k) → N[j]? = some x → X.N[k]? = some x ∧ (X.env.scope.names.lookup x = some .cell ∨ X.env.scope.names.lookup x = some .free)
def capSt (caps : List (Option Nat)) (σ : St) : St := caps.map fun o => o.bind fun k => (σ[k]?).join
theorem capSt_get {caps : List (Option Nat)} {σ : St} {j : Nat} {v : V} (h : (capSt caps σ)[j]? = some (some v)) : ∃ k, caps[j]? = some (some k) ∧ σ[k]? = some (some v) := by
  unfold capSt at h
  rw [List.getElem?_map] at h
  cases e : caps[j]? with
  | none => rw [e] at h; cases h
  | some o =>
    rw [e] at h
    cases o with
    | none => simp at h
    | some k =>
      refine ⟨k, rfl, ?_⟩
      simp only [Option.map_some, Option.bind_some] at h
      cases e2 : σ[k]? with
      | none => rw [e2] at h; simp at h
      | some o2 => rw [e2] at h; simp at h; rw [h]

section
variable {X : Cx} {pins : List (Addr × Obj)} {σ : St} {H : Hp} {s : Shared} {scope : Scope} {N : List Str} {caps : List (Option Nat)}
theorem Inv.comp {h₁ : Heap} {C : Addr} {fp : List Addr} {t' : Nat} (I : Inv X pins σ H s) (S : CompSc X scope N caps) (hC : s.heap.objs.size ≤ C) (hf : ∀ b ∈ fp, FpOk X pins H b) (hfp : ∀ b ∈ fp, b < s.heap.objs.size)
    (old : ∀ b o, s.heap.get? b = some o → h₁.get? b = some o) (ns : ∃ m, h₁.Ns C m) : Inv (X.comp s H scope C N fp) [] (capSt caps σ) H { s with heap := h₁, toks := t' } := by
  have hcl : ∀ x c, (clOf X.env.cells scope.names []).lookup x = some c → X.env.cells.lookup x = some c := fun x c e => clOf_sub e (fun y d z => by simp at z)
  have hsub := I.stkSub
  obtain ⟨m1, hn1⟩ := ns
  have notC : ∀ {b : Addr}, b < s.heap.objs.size → b ≠ C := fun hb => Nat.ne_of_lt (Nat.lt_of_lt_of_le hb hC)
  have hasF : ∀ x, (x, NameKind.free) ∈ scope.names → ∃ c, X.env.cells.lookup x = some c := fun x hx => I.ok.has x (S.free (x, .free) hx rfl)
  refine ⟨⟨I.ok.mod, S.kind, I.ok.glob, I.ok.blt, hC, fun x y c e1 e2 => I.ok.inj x y c (hcl x c e1) (hcl y c e2), fun x hx => ?_, fun x c hx => Bool.noConfusion hx, I.ok.hd, I.ok.frames, .inl rfl, fun b hb => ⟨notC (hfp b hb), fun x c e => (hf b hb).2.2.2.2.1 x c (hcl x c e)⟩, I.bs, Nat.le_trans I.ok.bsz I.sz, fun b o e hb => ?_, fun b hb z => ?_, I.stack, I.stkFree⟩,
    rfl, I.bare, Un.kept old, ⟨m1, hn1, fun j y v e1 e2 e3 => ?_⟩, fun x c e => ?_, I.hok.fresh hC, fun x c e => I.freeC x c (hcl x c e), fun p hp => absurd (show p ∈ ([] : List (Addr × Obj)) from hp) (by simp), I.hok.kept old, by rw [show (capSt caps σ).length = caps.length by simp [capSt]]; exact S.len⟩
  · have hx' : (relabel scope X.env).names.lookup x = some .cell ∨ (relabel scope X.env).names.lookup x = some .free := hx
    have hm : (x, NameKind.free) ∈ scope.names := by
      rcases hx' with e | e
      · exact relabel_inv S.nocell e (.inl rfl)
      · exact relabel_inv S.nocell e (.inr rfl)
    exact clOf_has hm (hasF x hm)
  · obtain ⟨f0, f1, f2, f3, _⟩ := hf b hb
    rcases f3 with z | z
    · exact I.ok.noex b o e z
    · exact absurd (Nat.lt_of_lt_of_le (Heap.lt_size e) (Nat.le_trans I.ok.bsz z)) (Nat.lt_irrefl _)
  · obtain ⟨f0, f1, f2, _⟩ := hf b hb
    rcases List.mem_cons.mp (hsub b z) with e | e
    · exact f1 e
    · exact f2 e
  · obtain ⟨k, c1, c2⟩ := capSt_get e2
    obtain ⟨c3, c4⟩ := S.cap j k y c1 e1
    obtain ⟨m, hn, hl⟩ := I.loc
    obtain ⟨u, r, l⟩ := hl k y v c3 c2 (by rcases c4 with z | z; exact .inr (.inl z); exact .inr (.inr z))
    refine ⟨u, r, .inr ?_⟩
    have hv : (relabel scope X.env).names.lookup y = some .cell ∨ (relabel scope X.env).names.lookup y = some .free := relabel_free (S.capf j k y c1 e1)
    have hm : (y, NameKind.free) ∈ scope.names := by
      rcases hv with e | e
      · exact relabel_inv S.nocell e (.inl rfl)
      · exact relabel_inv S.nocell e (.inr rfl)
    obtain ⟨c, hc⟩ := clOf_has (cells := X.env.cells) (cs := []) hm (hasF y hm)
    refine ⟨hv, c, hc, ?_⟩
    rcases l with ⟨k1, _⟩ | ⟨_, c', hc', z⟩
    · exfalso
      have k1' : X.env.scope.names.lookup y = some .local := k1
      rcases c4 with z | z <;> (rw [k1'] at z; cases z)
    · rw [hcl y c hc] at hc'
      cases hc'
      obtain ⟨o, eo, d⟩ := z
      exact ⟨o, old _ _ eo, d⟩
  · obtain ⟨v, o, eo, d⟩ := I.cell x c (hcl x c e)
    exact ⟨v, o, old _ _ eo, d⟩
end

/-! ### the loop -/
section
variable {prog : Program} {w : World} {A : Around} {E : Value → Shared → Prop} {R : Result → Shared → Prop} {s : Shared}
theorem comp_loop {elt target iter : Expr} {ifs : List Expr} {scope : Scope} {pos : Pos} {it acc : Value} {env : Env} (I : Nat → Shared → Prop)
    (turn : ∀ n s, I n s → wpAny (model prog w) A (pyNext it) (fun r s₁ => match r with
      | none => R (.ok .next) s₁
      | some v => wpAny (model prog w) A (letOwnedTupleGo target it v) (fun _ s₁' => wpAny (model prog w) A (assign target env v) (fun _ s₂ =>
          wpAny (model prog w) A (forIn ifs true fun c r => if r = true then do let ok ← isTrue c env (eval c env); pure (ForInStep.yield ok) else pure (ForInStep.yield r)) (fun ok s₃ =>
            if ok = true then wpAny (model prog w) A (eval elt env) (fun x s₄ =>
              wpAny (model prog w) A (call (.builtin "list.append") [acc, x]) (fun _ s₅ => ∃ m, m < n ∧ I m s₅) (notedBy (model prog w) A env fun e s' => R (.error e) s') s₄) (notedBy (model prog w) A env fun e s' => R (.error e) s') s₃
            else ∃ m, m < n ∧ I m s₃) (notedBy (model prog w) A env fun e s' => R (.error e) s') s₂) (notedBy (model prog w) A env fun e s' => R (.error e) s') s₁') (notedBy (model prog w) A env fun e s' => R (.error e) s') s₁) (notedBy (model prog w) A env fun e s' => R (.error e) s') s)
    (n : Nat) (h : I n s) :
    codeAny (model prog w) A (.compLoop (.ListComp elt [⟨target, iter, ifs, 0⟩] scope pos) 0 it acc env) R s := by
  refine codeAny_loop rfl I (fun n s hI => ?_) n h
  show wpAny _ A ((compTurn (.ListComp elt [⟨target, iter, ifs, 0⟩] scope pos) 0 it acc env).onRaise (fun x => do noteFrame x env; theTreesLotGoes x)) _ _ s
  refine wpAny_noted ?_
  rw [compTurn_list]
  refine wpAny_bind (wpAny_standAt (wpAny_bind (wpAny_mono (turn n s hI) (fun r s₁ h₁ => ?_) fun _ _ h' => h')))
  cases r with
  | none => exact wpAny_pure h₁
  | some v =>
    refine wpAny_bind (wpAny_mono h₁ (fun _ s₁' h₁' => ?_) fun _ _ h' => h')
    refine wpAny_bind (wpAny_mono h₁' (fun _ s₂ h₂ => wpAny_bind (wpAny_mono h₂ (fun ok s₃ h₃ => ?_) fun _ _ h' => h')) fun _ _ h' => h')
    cases ok with
    | false => exact wpAny_pure ⟨rfl, h₃⟩
    | true =>
      exact wpAny_bind (wpAny_bind (wpAny_mono h₃ (fun x s₄ h₄ => wpAny_bind (wpAny_mono h₄ (fun _ s₅ h₅ => wpAny_pure (wpAny_pure ⟨rfl, h₅⟩)) fun _ _ h' => h')) fun _ _ h' => h'))
end

/-- the tests of a clause: none, or one -/
def PIf (X : Cx) (ifs : List Expr) (t : TT) : Prop :=
  ∀ (pins : List (Addr × Obj)) (s : Shared) (σ : St) (H : Hp) (Q : Bool → Hp → Prop), Inv X pins σ H s → t σ H Q →
    wpAny (model X.prog X.w) X.A (forIn ifs true fun c r => if r = true then do let ok ← isTrue c X.env (eval c X.env); pure (ForInStep.yield ok) else pure (ForInStep.yield r)) (TP X pins σ Q) X.xe s
theorem pif_nil {X : Cx} : PIf X [] (fun _ H Q => Q true H) := fun _ _ _ H _ I h => wpAny_tests_nil ⟨H, I, h⟩
theorem pif_one {X : Cx} {c : Expr} {t : TT} (h : PT X c t) : PIf X [c] t := fun pins s σ H Q I q => wpAny_tests_one (h pins s σ H Q I q)

/-- the reading of a comprehension: W by the turn, a measure and what has been gathered -/
def tComp (wi : TI) (caps : List (Option Nat)) (g : TG) (tc : TT) (te : TE) : TE := fun σ H Q => wi σ H fun J H1 => ∃ W : Nat → Nat → List V → Hp → Prop, (∃ m, W 0 m [] H1) ∧ ∀ i m ys H2, W i m ys H2 →
  (J.stop i H2 ∧ ys.length ≤ sizeLine ∧ ∀ p, H2 p = none → Q (.ref p) (upd H2 p (.lst ys))) ∨
  (J.go i H2 ∧ ∃ Nx : List V → Hp → Prop, (∀ ys' H', Nx ys' H' → ∃ m', m' < m ∧ W (i + 1) m' ys' H') ∧
    ∀ x H', J.yld i H2 x H' → g x (capSt caps σ) H' fun σ2 H3 => tc σ2 H3 fun b H4 => if b = true then ys.length ≤ sizeLine ∧ te σ2 H4 (fun y H5 => Nx (ys ++ [y]) H5) else Nx ys H4)

section
variable {X : Cx} {pins : List (Addr × Obj)} {σ : St} {H : Hp} {s : Shared} {scope : Scope} {N : List Str} {caps : List (Option Nat)}
abbrev lstO (us : List Value) : Obj := { cls := .type "list", data := .seq us.toArray us.length }
theorem lstO_snoc (ys : List Value) (y : Value) : ({ cls := .type "list", data := .seq (ys.toArray.push y) (ys.length + 1) } : Obj) = lstO (ys ++ [y]) := by
  show ({ cls := .type "list", data := .seq (ys.toArray.push y) (ys.length + 1) } : Obj) = { cls := .type "list", data := .seq (ys ++ [y]).toArray (ys ++ [y]).length }
  rw [List.length_append, List.length_singleton, List.push_toArray]
/-- only the own name is stored: all captured ones stay -/
def OnlyOwn (caps : List (Option Nat)) (g : TG) : Prop := ∀ x σ0 H Q, g x σ0 H Q → g x σ0 H fun σ2 H2 => Q σ2 H2 ∧ σ2.length = σ0.length ∧ ∀ (j k : Nat) (v : V), caps[j]? = some (some k) → σ0[j]? = some (some v) → σ2[j]? = some (some v)
theorem onlyOwn_name {i : Nat} (h : caps[i]? = some none) : OnlyOwn caps (gName i) := fun x σ0 H Q q => by
  refine ⟨q, by simp, fun j k v hj hv => ?_⟩
  have : j ≠ i := fun z => by rw [z, h] at hj; cases hj
  rw [List.getElem?_set_ne (Ne.symm this)]
  exact hv

/-- the block behind the iterator -/
theorem comp_block {elt tg iter : Expr} {ifs : List Expr} {pos : Pos} {it : Addr} {fp : List Addr} {tn : Nat → Heap → Prop} {J : It} {g : TG} {tc : TT} {te : TE} {RR : Value → Addr → Result → Shared → Prop} {E : Value → Shared → Prop}
    (hc : X.calm = true) (I : Inv X pins σ H s) (S : CompSc X scope N caps) (T : Turn X.prog X.w X.K tg J fp it tn) (st : tn 0 s.heap) (hf : ∀ b ∈ fp, FpOk X pins H b)
    (hg : ∀ C ex, PG (X.comp s H scope C N ex) tg g) (ho : OnlyOwn caps g) (ht : ∀ C ex, PIf (X.comp s H scope C N ex) ifs tc) (he : ∀ C ex, PE (X.comp s H scope C N ex) elt te)
    (W : Nat → Nat → List V → Hp → Prop) (m0 : Nat) (w0 : W 0 m0 [] H) {Q : VK}
    (turn : ∀ i m ys H2, W i m ys H2 → (J.stop i H2 ∧ ys.length ≤ sizeLine ∧ ∀ p, H2 p = none → Q (.ref p) (upd H2 p (.lst ys))) ∨
      (J.go i H2 ∧ ∃ Nx : List V → Hp → Prop, (∀ ys' H', Nx ys' H' → ∃ m', m' < m ∧ W (i + 1) m' ys' H') ∧
        ∀ x H', J.yld i H2 x H' → g x (capSt caps σ) H' fun σ2 H3 => tc σ2 H3 fun b H4 => if b = true then ys.length ≤ sizeLine ∧ te σ2 H4 (fun y H5 => Nx (ys ++ [y]) H5) else Nx ys H4))
    (hRR : ∀ (D C : Addr) (s' : Shared) (m : Str → Option Value) (H' : Hp), s'.heap.Ns C m → Inv X pins σ H' s' → FpOk X pins H' C → Q (.ref D) H' → RR (.ref D) C (.ok .next) s') :
    wpAny (model X.prog X.w) X.A (newList []) (fun acc s₃ => wpAny (model X.prog X.w) X.A (newFunctionEnv scope X.env.globals (clOf X.env.cells scope.names []) [] X.env.qual none .none (some X.env)) (fun cenv s₄ =>
      codeAny (model X.prog X.w) X.A (.compStart (.ListComp elt [⟨tg, iter, ifs, 0⟩] scope pos) 0 (.ref it) acc { cenv with scope := relabel scope X.env }) (RR acc cenv.locals) s₄) E s₃) E s := by
  refine wpAny_newObj_type (wpAny_newFunctionEnv S.nocell (by intro y hy; simp at hy) (fun h₁ hns₁ hsb₁ => ?_) S.kind)
  dsimp only at hns₁ hsb₁ ⊢
  generalize hH2 : s.heap.push { cls := .type "list", dict := none, data := .seq ([] : List Value).toArray } = H2 at hns₁ hsb₁ ⊢
  have hC : H2.objs.size = s.heap.objs.size + 1 := by rw [← hH2, Heap.size_push]
  have hDC : s.heap.objs.size ≠ H2.objs.size := by rw [hC]; exact Nat.ne_of_lt (Nat.lt_succ_self _)
  have hCle : s.heap.objs.size ≤ H2.objs.size := by rw [hC]; exact Nat.le_succ _
  have old : ∀ b o, s.heap.get? b = some o → h₁.get? b = some o := fun b o e =>
    hsb₁.extBut b o (by rw [hC]; exact Nat.ne_of_lt (Nat.lt_succ_of_lt (Heap.lt_size e))) (Heap.get?_push_of_some _ (hH2 ▸ Heap.get?_push_of_some _ e))
  have hacc : h₁.get? s.heap.objs.size = some (lstO []) := hsb₁.extBut _ _ hDC (Heap.get?_push_of_some _ (hH2 ▸ Heap.get?_push_size _ rfl))
  have hfp : ∀ b ∈ fp, b < s.heap.objs.size := fun b hb => by
    obtain ⟨o, e, _⟩ := T.obj _ _ st b hb
    exact Heap.lt_size e
  have st₁ : tn 0 h₁ := T.keep _ _ _ st fun b hb o e => old b o e
  have I₁ : Inv (X.comp s H scope H2.objs.size N fp) [] (capSt caps σ) H { s with heap := h₁, toks := s.toks + ([] : List (Str × Value)).length } := I.comp S hCle hf hfp old ⟨_, hns₁⟩
  have cne : ∀ x c, (clOf X.env.cells scope.names []).lookup x = some c → c < s.heap.objs.size := fun x c e => by
    obtain ⟨v, z⟩ := I.cell x c (clOf_sub e (fun y d z => by simp at z))
    exact z.lt
  have nfs : ∀ {b : Addr}, s.heap.objs.size ≤ b → b ∉ frs X.stack := fun hb z => by
    obtain ⟨_, o, ho, _⟩ := I.stack.mem z
    exact absurd (Nat.lt_of_lt_of_le (Heap.lt_size ho) hb) (Nat.lt_irrefl _)
  -- what stays true of the iterator's and the gathered list's objects
  have statF : ∀ {H' : Hp}, (∀ b ∈ fp, H' b = none) → ∀ b ∈ fp, FpOk (X.comp s H scope H2.objs.size N fp) [] H' b := fun hn b hb =>
    ⟨hn b hb, Nat.ne_of_lt (Nat.lt_of_lt_of_le (hfp b hb) hCle), fun z => (by
      obtain ⟨f0, f1, f2, _⟩ := hf b hb
      rcases List.mem_cons.mp (I.stkSub b z) with e | e
      · exact f1 e
      · exact f2 e), .inl hb, fun x c e => (hf b hb).2.2.2.2.1 x c (clOf_sub e (fun y d z => by simp at z)), fun p hp => absurd (show p ∈ ([] : List (Addr × Obj)) from hp) (by simp)⟩
  have statD : ∀ {H' : Hp}, H' s.heap.objs.size = none → FpOk (X.comp s H scope H2.objs.size N fp) [] H' s.heap.objs.size := fun hn =>
    ⟨hn, hDC, nfs (Nat.le_refl _), .inr (Nat.le_refl _), fun x c e => Nat.ne_of_lt (cne x c e), fun p hp => absurd (show p ∈ ([] : List (Addr × Obj)) from hp) (by simp)⟩
  have loop : ∀ s₃ : Shared, s₃ = { s with heap := h₁, toks := s.toks + ([] : List (Str × Value)).length } →
      codeAny (model X.prog X.w) X.A (.compLoop (.ListComp elt [⟨tg, iter, ifs, 0⟩] scope pos) 0 (.ref it) (.ref s.heap.objs.size) (compEnvC scope (clOf X.env.cells scope.names []) H2.objs.size X.env))
        (RR (.ref s.heap.objs.size) H2.objs.size) s₃ := by
    rintro s₃ rfl
    refine comp_loop (fun n s' => ∃ i ys us H', Inv (X.comp s H scope H2.objs.size N fp) [] (capSt caps σ) H' s' ∧ tn i s'.heap ∧ (∀ b ∈ fp, H' b = none) ∧ s'.heap.get? s.heap.objs.size = some (lstO us) ∧ H' s.heap.objs.size = none ∧ Vals ys us ∧ W i n ys H') ?_ m0
      ⟨0, [], [], H, I₁, st₁, fun b hb => (hf b hb).1, hacc, I.hok.fresh (Nat.le_refl _), .nil, w0⟩
    rintro n s3 ⟨i, ys, us, H3, I3, st3, fr3, ha3, hd3, rv3, w3⟩
    have pinD : ∀ {σ' : St} {H' : Hp} {s' : Shared}, Inv (X.comp s H scope H2.objs.size N fp) [] σ' H' s' → s'.heap.get? s.heap.objs.size = some (lstO us) → H' s.heap.objs.size = none → Inv (X.comp s H scope H2.objs.size N fp) [(s.heap.objs.size, lstO us)] σ' H' s' := fun I' e n =>
      I'.pins_of fun p hp => by
        obtain rfl := List.mem_singleton.mp hp
        exact ⟨e, n, hDC, nfs (Nat.le_refl _), fun v z => by cases z⟩
    have statP : ∀ {H' : Hp}, (∀ b ∈ fp, H' b = none) → ∀ b ∈ fp, FpOk (X.comp s H scope H2.objs.size N fp) [(s.heap.objs.size, lstO us)] H' b := fun hn b hb =>
      ⟨(statF hn b hb).1, (statF hn b hb).2.1, (statF hn b hb).2.2.1, (statF hn b hb).2.2.2.1, (statF hn b hb).2.2.2.2.1, fun p hp => by
        obtain rfl := List.mem_singleton.mp (show p ∈ [(s.heap.objs.size, lstO us)] from hp)
        exact Nat.ne_of_gt (hfp b hb)⟩
    have I3' := pinD I3 ha3 hd3
    have atD : ∀ {pl : List (Addr × Obj)} {σ' : St} {H' : Hp} {s' : Shared}, Inv (X.comp s H scope H2.objs.size N fp) ([(s.heap.objs.size, lstO us)] ++ pl) σ' H' s' → s'.heap.get? s.heap.objs.size = some (lstO us) ∧ H' s.heap.objs.size = none := fun {pl σ' H' s'} I' =>
      ⟨(I'.pin (s.heap.objs.size, lstO us) (by simp)).1, (I'.pin (s.heap.objs.size, lstO us) (by simp)).2.1⟩
    rcases turn i n ys H3 w3 with ⟨stop, hsz, fin⟩ | ⟨go, Nx, hN, step⟩
    · refine thn (wpAny_noRaise (T.done (X.comp s H scope H2.objs.size N fp) rfl rfl rfl hc i [(s.heap.objs.size, lstO us)] s3 _ H3 (fun _ _ => False) I3' (statP fr3) st3 stop)) fun r s4 ⟨hr, I4⟩ => ?_
      subst hr
      obtain ⟨ha4, hd4⟩ := atD (pl := []) I4
      obtain ⟨m4, hn4, _⟩ := id I4.loc
      have un4 : Un (frs X.stack) fp H H3 s.heap s4.heap := I4.base
      have bC : ∀ {b : Addr} {o : Obj}, s.heap.get? b = some o → b ≠ H2.objs.size ∧ b ≠ s.heap.objs.size := fun e => ⟨by rw [hC]; exact Nat.ne_of_lt (Nat.lt_succ_of_lt (Heap.lt_size e)), Nat.ne_of_lt (Heap.lt_size e)⟩
      have freeC : H3 H2.objs.size = none := I4.free
      have un' : Un (frs X.stack) fp H (upd H3 s.heap.objs.size (.lst ys)) s.heap s4.heap := {
        keep := fun b o e n hb hx => (un4.keep b o e n hb hx)
        slot := fun b o e n hb hx => by
          obtain ⟨sl, z⟩ := un4.slot b o e n hb hx
          exact ⟨sl, z⟩
        free := fun b o e n hx => by rw [upd_ne (bC e).2]; exact un4.free b o e n hx
        there := fun b o e hx => by
          obtain ⟨o', z⟩ := un4.there b o e hx
          exact ⟨o', z⟩
        tups := fun b xs q => by
          have z := un4.tups b xs q
          rw [upd_ne (ne_of_none z hd4)]; exact z
        frzs := fun b o u q => by
          have z := un4.frzs b o u q
          rw [upd_ne (ne_of_none z hd4)]; exact z
        tbls := fun b ps q => by
          obtain ⟨mo, z⟩ := un4.tbls b ps q
          exact ⟨mo, by rw [upd_ne (ne_of_none z hd4)]; exact z⟩ }
      have hok' : HOk X.prog X.w (upd H3 s.heap.objs.size (.lst ys)) s4.heap := fun b u eb => by
        by_cases hb : b = s.heap.objs.size
        · subst hb; rw [upd_same] at eb; cases eb
          exact ⟨hsz, us, _, rv3, ha4⟩
        · rw [upd_ne hb] at eb
          exact (I4.hok b u eb).stay (fun c v hcc q => q) (fun c q => by rw [upd_ne (ne_of_none q hd4)]; exact q) fun c xs q => by rw [upd_ne (ne_of_none q hd4)]; exact q
      have I4' : Inv X pins σ (upd H3 s.heap.objs.size (.lst ys)) s4 := I.call' (ch := fp) I4.os un' hok' I4.bare (fun b hb => ⟨(hf b hb).2.2.2.1, (hf b hb).2.1, (hf b hb).2.2.2.2.1, (hf b hb).2.2.2.2.2⟩)
      exact hRR _ _ s4 m4 _ hn4 I4' (I.fpOk hCle (by rw [upd_ne (Ne.symm hDC)]; exact freeC)) (fin _ hd4)
    · refine thn (wpAny_noRaise (T.item (X.comp s H scope H2.objs.size N fp) rfl rfl rfl hc i [(s.heap.objs.size, lstO us)] s3 _ H3 (fun _ _ => False) I3' (statP fr3) st3 go)) fun r s4 ⟨u, hr, h4⟩ => ?_
      subst hr
      refine thn (wpAny_noRaise h4) fun _ s5 ⟨x, H5, I5, r5, y5, st5, fr5⟩ => ?_
      have I5' := I5.pinned (statP fr5) (T.obj _ _ st5)
      refine thn (wpAny_noRaise (hg _ _ _ s5 _ H5 x u _ I5' r5 (ho _ _ _ _ (step x H5 y5)))) fun _ s6 ⟨σ6, H6, I6, q6, l6, k6⟩ => ?_
      have weak6 : ∀ {pl : List (Addr × Obj)} {H' : Hp} {s' : Shared}, Inv (X.comp s H scope H2.objs.size N fp) pl σ6 H' s' → Inv (X.comp s H scope H2.objs.size N fp) pl (capSt caps σ) H' s' := fun I' => I'.weak l6.symm fun j v e => by
        obtain ⟨k, c1, c2⟩ := capSt_get e
        exact k6 j k v c1 e
      refine thn (wpAny_noRaise (ht _ _ _ s6 σ6 H6 _ I6 q6)) fun b s7 ⟨H7, I7, q7⟩ => ?_
      have keepT : ∀ {σ' : St} {H' : Hp} {s' : Shared}, Inv (X.comp s H scope H2.objs.size N fp) ([(s.heap.objs.size, lstO us)] ++ pinsAt fp s5.heap) σ' H' s' → tn (i + 1) s'.heap ∧ ∀ b ∈ fp, H' b = none := fun {σ' H' s'} I' =>
        ⟨T.keep _ _ _ st5 fun b hb o e => (I'.pin (b, o) (List.mem_append_right _ (List.mem_append_right _ (mem_pinsAt hb e)))).1, fun b hb => by
          obtain ⟨o, e, d⟩ := T.obj _ _ st5 b hb
          exact (I'.pin (b, o) (List.mem_append_right _ (List.mem_append_right _ (mem_pinsAt hb e)))).2.1⟩
      cases b with
      | false =>
        have q7' : Nx ys H7 := q7
        obtain ⟨m', hm, w7⟩ := hN _ _ q7'
        obtain ⟨ha7, hd7⟩ := atD I7
        obtain ⟨st7, fr7⟩ := keepT I7
        exact ⟨m', hm, i + 1, ys, us, H7, weak6 (I7.pins_of fun p hp => absurd hp (by simp)), st7, fr7, ha7, hd7, rv3, w7⟩
      | true =>
        obtain ⟨hsz, q7'⟩ : ys.length ≤ sizeLine ∧ te σ6 H7 (fun y H5 => Nx (ys ++ [y]) H5) := q7
        show wpAny _ _ (eval elt _) _ _ s7
        refine thn (wpAny_noRaise (he _ _ _ s7 σ6 H7 _ I7 q7')) fun yv s8 ⟨y, H8, I8, r8, q8⟩ => ?_
        obtain ⟨ha8, hd8⟩ := atD I8
        obtain ⟨st8, fr8⟩ := keepT I8
        refine append_at ha8 (fun h9 sb hD9 => ?_) (by rw [List.size_toArray, ← rv3.length]; exact hsz)
        obtain ⟨m', hm, w8⟩ := hN _ _ q8
        have I8' : Inv (X.comp s H scope H2.objs.size N fp) [] (capSt caps σ) H8 s8 := weak6 (I8.pins_of fun p hp => absurd hp (by simp))
        have dD := statD hd8
        refine ⟨m', hm, i + 1, ys ++ [y], us ++ [yv], H8, I8'.turned (t' := s8.toks) (fun b o hb e => (sb.2 b hb).trans e) hd8 dD.2.1 dD.2.2.2.1 dD.2.2.2.2.1 dD.2.2.2.2.2, T.keep _ _ _ st8 fun b hb o e => (sb.2 b (Nat.ne_of_lt (hfp b hb))).trans e, fr8, ?_, hd8, rv3.append (.cons r8 .nil), w8⟩
        rw [hD9, lstO_snoc]
  exact codeAny_compStart_list (loop _ rfl) (T.self X.A 0 _ _ _ st₁ (loop _ rfl))

theorem pe_comp {elt tg iter : Expr} {ifs : List Expr} {pos : Pos} {wi : TI} {g : TG} {tc : TT} {te : TE} (hc : X.calm = true) (S : CompSc X scope N caps) (hi : PI X tg iter wi)
    (hg : ∀ s H C ex, PG (X.comp s H scope C N ex) tg g) (ho : OnlyOwn caps g) (ht : ∀ s H C ex, PIf (X.comp s H scope C N ex) ifs tc) (he : ∀ s H C ex, PE (X.comp s H scope C N ex) elt te)
    (hs : ∀ x, foldedSetIterable iter X.env x = pure x := by intro _; rfl) : PE X (.ListComp elt [⟨tg, iter, ifs, 0⟩] scope pos) (tComp wi caps g tc te) := by
  intro pins s σ H Q I h
  rw [eval_ListComp]
  have hcl : closureFor scope X.env = pure (clOf X.env.cells scope.names []) := closureFor_eq fun y hy hk => I.ok.has y.1 (S.free y hy hk)
  refine wpAny_comprehension_free (use := none) rfl hs hcl S.kind S.names (thn (hi pins s σ H _ I h) fun v s1 h1 => thn h1 fun itv s2 h2 => ?_)
  obtain ⟨it, fp, tn, J, H2, e, I2, T, st2, f2, W, ⟨m0, w0⟩, turn⟩ := h2
  subst e
  refine comp_block (RR := fun acc C => compPost (model X.prog X.w) X.A X.xe none (EP X pins σ Q) acc C) hc I2 S T st2 f2 (hg _ _) ho (ht _ _) (he _ _) W m0 w0 turn ?_
  intro D C s' m H' hn I' fC q
  exact ⟨m, hn, fun h' sb => ⟨.ref D, H', I'.turned (t' := s'.toks) (fun b o hb e => (sb.2 b hb).trans e) fC.1 fC.2.1 fC.2.2.2.1 fC.2.2.2.2.1 fC.2.2.2.2.2, rfl, q⟩⟩

/-- name = [..], stored ahead of the comprehension's names going -/
theorem ps_setComp {elt tg iter : Expr} {ifs : List Expr} {pos py spos : Pos} {wi : TI} {g : TG} {tc : TT} {te : TE} {y : Str} {i : Nat} (hN : X.N.Nodup) (hi : X.N[i]? = some y) (hy : X.env.scope.names.lookup y = some .local)
    (hc : X.calm = true) (S : CompSc X scope N caps) (hit : PI X tg iter wi)
    (hg : ∀ s H C ex, PG (X.comp s H scope C N ex) tg g) (ho : OnlyOwn caps g) (ht : ∀ s H C ex, PIf (X.comp s H scope C N ex) ifs tc) (he : ∀ s H C ex, PE (X.comp s H scope C N ex) elt te)
    (hsw : swapsWith (.ListComp elt [⟨tg, iter, ifs, 0⟩] scope pos) (some (.Name y py)) spos.line X.env = pure true := by rfl)
    (hs : ∀ x, foldedSetIterable iter X.env x = pure x := by intro _; rfl) : PS X (.Assign [.Name y py] (.ListComp elt [⟨tg, iter, ifs, 0⟩] scope pos) spos) (tAsg (tComp wi caps g tc te) (gName i)) := by
  intro pins s σ H D I h
  have hcl : closureFor scope X.env = pure (clOf X.env.cells scope.names []) := closureFor_eq fun y hy hk => I.ok.has y.1 (S.free y hy hk)
  rw [exec_Assign_Name_used _ _ _ _ hsw]
  refine wpAny_bind (wpAny_standAt (wpAny_bind ?_))
  show wpAny _ X.A (do let _ ← comprehension (.ListComp elt [⟨tg, iter, ifs, 0⟩] scope pos) scope X.env _ (newList []) false (eval iter X.env) (some (assign (.Name y py) X.env))) _ _ s
  refine wpAny_bind (wpAny_mono (wpAny_comprehension_free (use := some (assign (.Name y py) X.env)) (Q := fun _ s' => SP X pins D .next s') rfl hs hcl S.kind S.names
    (thn (hit pins s σ H _ I h) fun v s1 h1 => thn h1 fun itv s2 h2 => ?_)) (fun _ s' hq => wpAny_pure (wpAny_pure hq)) fun _ _ e => e)
  obtain ⟨it, fp, tn, J, H2, e, I2, T, st2, f2, W, ⟨m0, w0⟩, turn⟩ := h2
  subst e
  refine comp_block (RR := fun acc C => compPost (model X.prog X.w) X.A X.xe (some (assign (.Name y py) X.env)) (fun _ s' => SP X pins D .next s') acc C) (Q := fun x H1 => gName i x σ H1 D.nx) hc I2 S T st2 f2 (hg _ _) ho (ht _ _) (he _ _) W m0 w0 turn ?_
  intro Dd C s' m H' hn I' fC q
  show wpAny _ _ (assign (.Name y py) X.env (.ref Dd)) _ _ s'
  refine wpAny_assign_Name (store_ok2 I' (i := i) hN hi (.inl hy) (v := .ref Dd) rfl (fun s5 I5 ⟨a, sb, ha⟩ => ?_) (.inr hy))
  have ha' : a ≠ C := by
    rcases ha with z | z
    · rw [z]; exact Ne.symm fC.2.1
    · exact fC.2.2.2.2.1 _ _ z
  refine ⟨m, hn.sameBut sb (Ne.symm ha'), fun h' sb2 => ⟨_, H', I5.turned (t' := s5.toks) (fun b o hb e => (sb2.2 b hb).trans e) fC.1 fC.2.1 fC.2.2.2.1 fC.2.2.2.2.1 fC.2.2.2.2.2, q⟩⟩
end
end L2

set_option Elab.async false
set_option linter.all false
set_option maxRecDepth 100000
namespace L2
open PySem PySem.Spec PyProof.Rows

/-! ### an f-string of texts and int fields (its text is not told, only its size) -/
def PF (X : Cx) (e : Expr) (n : Nat) (t : St → Hp → Prop) : Prop :=
  ∀ (pins : List (Addr × Obj)) (s : Shared) (σ : St) (H : Hp), Inv X pins σ H s → t σ H → wpAny (model X.prog X.w) X.A (eval e X.env) (fun u s' => ∃ x tk, u = .str x tk ∧ x.length ≤ n ∧ Inv X pins σ H s') X.xe s
def PFs (X : Cx) (es : List Expr) (n : Nat) (t : St → Hp → Prop) : Prop :=
  ∀ (pins : List (Addr × Obj)) (s : Shared) (σ : St) (H : Hp) (out : Str), Inv X pins σ H s → t σ H → out.length + n ≤ sizeLine → wpAny (model X.prog X.w) X.A (joinParts out (evalEach es X.env)) (fun u s' => ∃ x tk, u = .str x tk ∧ x.length ≤ out.length + n ∧ Inv X pins σ H s') X.xe s
def tIntB (te : TE) : St → Hp → Prop := fun σ H => te σ H fun v H' => H' = H ∧ ∃ i : Int, v = .int i ∧ i.natAbs.log2 < 1920
section
variable {X : Cx}
theorem pf_str {x : Str} {j pos} : PF X (.Constant (.str x) j pos) x.length (fun _ _ => True) := fun pins s σ H I _ => Calls.Constant_str ⟨x, _, rfl, Nat.le_refl _, I.tok _⟩
theorem pf_int {e : Expr} {pos : Pos} {te : TE} (he : PE X e te) : PF X (.FormattedValue e (-1) none pos) 1921 (tIntB te) := by
  intro pins s σ H I h
  refine FormattedValue_plain (thn (he pins s σ H _ I h) fun v s1 ⟨x, H1, I1, r1, e1, i, e2, hl⟩ => ?_)
  subst e1 e2
  obtain ⟨t, rfl⟩ := r1
  refine formatField_int_small hl ⟨_, _, rfl, ?_, I1.tok _⟩
  have := int_text_length_le (k := 1920) (by decide) hl
  show (Str.ofString (toString i)).length ≤ 1921
  rw [PySem.ofString_length]
  exact this
theorem pfs_nil : PFs X [] 0 (fun _ _ => True) := fun pins s σ H out I _ hz => joinParts_nil ⟨out, _, rfl, Nat.le_add_right _ _, I.tok _⟩ (by omega)
theorem pfs_cons {e : Expr} {es : List Expr} {n m : Nat} {t u : St → Hp → Prop} (h1 : PF X e n t) (h2 : PFs X es m u) : PFs X (e :: es) (n + m) (fun σ H => t σ H ∧ u σ H) := by
  intro pins s σ H out I ⟨ht, hu⟩ hz
  show wpAny _ _ (joinParts out (eval e X.env :: evalEach es X.env)) _ _ s
  refine joinParts_cons (thn (h1 pins s σ H I ht) fun v s1 ⟨x, tk, e1, hl, I1⟩ => ?_)
  subst e1
  have el : (out ++ x).length = out.length + x.length := strLen_append ..
  refine ⟨by rw [el]; omega, thn (h2 pins s1 σ H (out ++ x) I1 hu (by rw [el]; omega)) fun v s2 ⟨y, tk2, e2, hl2, I2⟩ => ⟨y, tk2, e2, by rw [el] at hl2; omega, I2⟩⟩
/-- f".." with two parts or more: some text -/
def tFstr (t : St → Hp → Prop) : TE := fun σ H Q => t σ H ∧ ∀ x, Q (.str x) H
theorem pe_fstr {v1 v2 : Expr} {rest : List Expr} {pos : Pos} {n : Nat} {t : St → Hp → Prop} (h : PFs X (v1 :: v2 :: rest) n t) (hn : n ≤ 100000 := by decide) : PE X (.JoinedStr (v1 :: v2 :: rest) pos) (tFstr t) := by
  intro pins s σ H Q I ⟨ht, hq⟩
  refine JoinedStr_many (thn (h pins s σ H Str.empty I ht ?_) fun u s' ⟨x, tk, e, _, I'⟩ => ?_)
  · have e0 : Str.empty.length = 0 := rfl
    rw [e0, sizeLine_eq]; omega
  · subst e
    exact ⟨.str x, H, I', ⟨_, rfl⟩, hq x⟩
end

/-! ### isinstance -/
section
variable {X : Cx} {pins : List (Addr × Obj)} {σ : St} {H : Hp} {s : Shared}
/-- what of the text an own error class must have for isinstance -/
structure ExcK (K : PySem.W.Frag) (D : Addr) : Prop where
  ga : PySem.W.findIn K (.ref D) "__getattribute__" = some (some (.builtin "BaseException.__getattribute__"))
  gh : PySem.W.findIn K (.ref D) "__getattr__" = some none
  ha : PySem.W.findIn K (.ref D) "__class__" = some (some (.builtin "object.__class__"))
  hn : PySem.W.specialIn K (.builtin "object.__class__") "__get__" = some (some (.builtin "getset_descriptor.__get__"))
  htk : PySem.W.takesIn K (.builtin "object.__class__") = some true
  hm : PySem.W.mroIn K D (.type "object") = some true
  hb : PySem.W.mroIn K D (.type "BaseException") = some true
  hc : (PySem.W.clsIn K D).isSome = true
def ExcIs (e D : Addr) (h : Heap) : Prop := ∃ o, h.get? e = some o ∧ o.cls = .ref D
theorem excIs_ty {e D : Addr} {M : Model} {h : Heap} (p : ExcIs e D h) : PySem.W.Looks M h (typeOf (.ref e)) (.ref D) := by
  obtain ⟨o, h1, h2⟩ := p
  exact h2 ▸ (PySem.W.Looks.ld h1).andThen .now
end
end L2
namespace PySem.W
open PySem PySem.Spec PySem.Calls PyProof.Rows Builtin Builtin.ObjectAttr Builtin.Getset_descriptor
section
variable {prog : Program} {w : World} {A : Around} {E : Value → Shared → Prop} {s : Shared} {K : Frag} {x C : Addr}
theorem exc_class_get {R : Result → Shared → Prop} {tp : Value} (X : K.In s.heap) (I : L2.ExcIs x C s.heap) (hm : mroIn K C (.type "object") = some true)
    (h : R (.ok (.ret (.ref C))) s) : codeAny (model prog w) A (.call (.builtin "getset_descriptor.__get__") ⟨[.builtin "object.__class__", .ref x, tp], []⟩) R s := by
  obtain ⟨hh, g, dr, t, os⟩ := s
  have L0 := L2.excIs_ty (M := model prog w) I
  have L1 := looks_mroIn (M := model prog w) X hm
  refine codeAny_call_builtin KF.slot_gs.plain KF.entry_gs (KF.slot_gs.check _ _ _ _ _ _ _ _ KF.type_class (KF.args_gs _ _ _) ?_)
  unfold Builtin.«getset_descriptor.__get__» descrGet
  rw [dga_obj]
  refine wpAny_bind (wpAny_pure ?_)
  unfold descrGetter descrCheckInstance descrNameAndClass isInstance
  simp only [KF.owner_class]
  repeat lk
  refine ⟨Code.quiet_builtin _ (by decide +kernel), codeAny_builtin KF.entry_class ?_⟩
  unfold Builtin.«object.__class__» shownTypeOf
  repeat lk
  exact h
theorem exc_find {M : Model} (X : K.In s.heap) (k : L2.ExcK K C) : Looks M s.heap (find (.ref x) (.ref C) "__class__") (.bind (.builtin "getset_descriptor.__get__") (.builtin "object.__class__")) := by
  have L1 := looks_findIn (M := M) X k.ha
  have L2 : Looks M s.heap (getOf (some (.builtin "object.__class__"))) (some (.builtin "getset_descriptor.__get__")) := looks_specialIn X k.hn
  have L3 := looks_takesIn (M := M) X k.htk
  exact L1.andThen (L2.andThen ((show Looks M s.heap (dataDescriptor? (some (.builtin "object.__class__")) (some (.builtin "getset_descriptor.__get__"))) (some (.builtin "getset_descriptor.__get__", .builtin "object.__class__")) from L3.andThen .now).andThen (Looks.tag .now)))
theorem exc_entry {tk : Tok} {Q : PySem.Fin → Shared → Prop} (X : K.In s.heap) (I : L2.ExcIs x C s.heap) (k : L2.ExcK K C) (h : Q (.done (.ret (.ref C))) s) :
    wpAny (model prog w) A (Builtin.«object.__getattribute__» ⟨[.ref x, .str "__class__" tk], []⟩) Q E s := by
  obtain ⟨hh, g, d, t, os⟩ := s
  have L0 := L2.excIs_ty (M := model prog w) I
  have LF := exc_find (M := model prog w) (x := x) X k
  unfold Builtin.«object.__getattribute__»
  refine wpAny_bind (wpAny_pure ?_)
  refine wpAny_bind (wpAny_pure ?_)
  refine wpAny_bind (L0.at (wpAny_bind (LF.at ?_)))
  show wpAny _ _ (holding [.builtin "object.__class__"] (call (.builtin "getset_descriptor.__get__") [.builtin "object.__class__", .ref x, .ref C]) >>= fun v => ret v) _ _ _
  refine wpAny_bind (wpAny_holding (wpAny_call (exc_class_get (s := ⟨hh, g, d, t, os⟩) X I k.hm ?_)))
  exact wpAny_pure h
theorem exc_check {M : Model} {nameV : Value} {Q : Unit → Shared → Prop} (X : K.In s.heap) (I : L2.ExcIs x C s.heap) (k : L2.ExcK K C) (hq : Q () s) : wpAny M A (checkBuiltinCall "BaseException.__getattribute__" ⟨[.ref x, nameV], []⟩) Q E s := by
  obtain ⟨hh, g, d, t, os⟩ := s
  have L0 := L2.excIs_ty (M := M) I
  have L3 := looks_mroIn (M := M) X k.hb
  have hk : builtinKind "BaseException.__getattribute__" = some .slot := by decide +kernel
  have hsplit : splitId "BaseException.__getattribute__" = some ("BaseException", "__getattribute__") := by decide +kernel
  have hargs := PySem.F.args_bexc_ga (.ref x) nameV
  simp only [checkBuiltinCall, hk, hsplit]
  refine wpAny_bind ?_
  unfold isInstance
  refine wpAny_bind (L0.at (L3.at ?_))
  simp only [if_true, Bool.not_true, Bool.false_eq_true, if_false]
  repeat (first | assumption | wp_step)
theorem exc_class {Q : Option Value → Shared → Prop} (X : K.In s.heap) (I : L2.ExcIs x C s.heap) (k : L2.ExcK K C) (h : Q (some (.ref C)) { s with toks := s.toks + 1 }) : wpAny (model prog w) A (getAttr? (.ref x) "__class__") Q E s := by
  obtain ⟨hh, g, d, t, os⟩ := s
  have L0 := L2.excIs_ty (M := model prog w) I
  have L1 := looks_findIn (M := model prog w) X k.ga
  have L2' := looks_findIn (M := model prog w) X k.gh
  unfold getAttr? getAttrBy? getAttrBy
  refine wpAny_bind (wpAny_mkText (wpAny_bind (wpAny_attempt (wpAny_holding (wpAny_bind (L0.at (wpAny_bind (L1.at ?_))))))))
  dsimp only
  have hx : (onTheHeap (Value.ref C) && Value.builtin "BaseException.__getattribute__" == Value.builtin "object.__getattribute__") = false := by
    have hx2 : (Value.builtin "BaseException.__getattribute__" == Value.builtin "object.__getattribute__") = false := by decide +kernel
    rw [hx2]; rfl
  rw [hx]
  rw [if_neg Bool.false_ne_true]
  have f3 := PySem.F.excAttr_ValueError.ga.bind (.ref x)
  unfold getAttrByItsOwn
  refine wpAny_bind ?_
  show wpAny _ _ (typeLookup (.ref C) "__getattr__") _ _ _
  refine L2'.at ?_
  refine wpAny_bind (wpAny_attempt (wpAny_holding ?_))
  show wpAny _ _ (bindSpecial (.builtin "BaseException.__getattribute__") (.ref x) >>= fun p => call p.1 (p.2 ++ [.str "__class__" t])) _ _ _
  refine wpAny_bind (wpAny_of_eq f3 ?_)
  show wpAny _ _ (call (.builtin "BaseException.__getattribute__") [.ref x, .str "__class__" t]) _ _ _
  refine wpAny_call (codeAny_call_builtin PySem.F.excAttr_ValueError.ga.plain PySem.F.entry_bexc_ga ?_)
  refine exc_check (s := ⟨hh, g, d, t + 1, os⟩) X I k ?_
  refine exc_entry (s := ⟨hh, g, d, t + 1, os⟩) X I k ?_
  exact handed_on rfl (wpAny_pure h)
end
end PySem.W

namespace L2
open PySem PySem.Spec PyProof.Rows
theorem kitx_exc {K : PySem.W.Frag} {e D : Addr} (k : ExcK K D) : PySem.W.KitX K (.ref e) (.ref D) (ExcIs e D) where
  ty := fun _ _ _ p => excIs_ty p
  it := fun _ _ X _ => by
    have hc := k.hc
    unfold PySem.W.clsIn at hc
    split at hc
    · rename_i c' d' cd' sl' ho
      intro A' Q' E' s' k q
      unfold isType loadHead
      exact wpAny_bind (wpAny_loadPart (k _ _ (X _ _ ho)) (wpAny_pure q))
    · cases hc
  ne := fun h tp dd its n sl X htp => by
    have hc := k.hc
    refine Bool.eq_false_iff.mpr fun q => ?_
    have e : D = tp := Value.ref.inj (beq_iff_eq.mp q)
    subst e
    unfold PySem.W.clsIn at hc
    split at hc
    · rename_i c' d' cd' sl' ho
      have z := (X _ _ ho).symm.trans htp
      cases z
    · cases hc
  ca := fun X I h => PySem.W.exc_class X I k h

section
variable {X : Cx} {pins : List (Addr × Obj)} {σ : St} {H : Hp} {s : Shared}
/-- the class of a value, an exception's too -/
def TyX (K : PySem.W.Frag) (H : Hp) (x : V) (t : Value) : Prop := TyOf K H x t ∨ ∃ e D, x = .ref e ∧ t = .ref D ∧ H e = some (ExcO e (.ref D)) ∧ ExcK K D
/-- a class as a value -/
def cV : V → Value
  | .ref a => .ref a
  | .ty n => .type n
  | _ => .none
theorem cV_rel {v : V} {u : Value} (h : RelV v u) (hv : cV v ≠ .none) : u = cV v := by
  cases v with
  | ref a => exact h
  | ty n => exact h
  | _ => exact absurd rfl hv
theorem call_isi : CallR X (.builtin "isinstance") (fun xs H Q => ∃ x c t b, xs = [x, c] ∧ cV c ≠ .none ∧ TyX X.K H x t ∧ PySem.W.kitOne X.K t (cV c) = some b ∧ Q (.bl b) H) := by
  intro pins s σ H xs us Q I r h
  obtain ⟨x, c, t, b, rfl, hc, ty, hk, q⟩ := h
  obtain ⟨u1, u2, rfl, r1, r2⟩ := vals2 r
  rw [cV_rel r2 hc]
  have fin : ∀ tk, EP X pins σ Q (.bool b) { s with toks := tk } := fun tk => ⟨.bl b, H, I.tok tk, rfl, q⟩
  rcases ty with ty | ⟨e, D, rfl, rfl, he, kk⟩
  · exact isinst_ok I r1 ty hk fin
  · cases (show u1 = Value.ref e from r1)
    obtain ⟨p, _, _⟩ := (show ObjOk X.prog X.w H s.heap e (ExcO e (.ref D)) from I.hok e _ he)
    exact PySem.W.kia_one (kitx_exc kk) I.kIn p hk (fun z => nomatch z) fin
end
end L2

set_option Elab.async false
set_option linter.all false
set_option maxRecDepth 100000
namespace L2
open PySem PySem.Spec PyProof.Rows

/-! ### data -/
inductive D where
  | non | bl (b : Bool) | int (i : Int) | str (x : Str) | lst (l : List D) | tup (l : List D)
  | ins (C : Addr) (ns : List Str) (l : List D)
inductive Res (α : Type) where
  | ok (a : α) | exc (c : Addr) | bad
def Res.bind {α β : Type} : Res α → (α → Res β) → Res β
  | .ok a, f => f a
  | .exc c, _ => .exc c
  | .bad, _ => .bad
mutual
def Rep (K : PySem.W.Frag) (G : Hp) : D → V → Prop
  | .non, v => v = .non
  | .bl b, v => v = .bl b
  | .int i, v => v = .int i
  | .str x, v => v = .str x
  | .lst ds, v => ∃ a xs, v = .ref a ∧ SqL K G a xs ∧ RepL K G ds xs
  | .tup ds, v => ∃ a xs, v = .ref a ∧ SqT K G a xs ∧ RepL K G ds xs
  | .ins C ns ds, v => ∃ a dx fs, v = .ref a ∧ G a = some (.ins C dx fs) ∧ fs.map (·.1) = ns ∧ RepL K G ds (fs.map (·.2))
def RepL (K : PySem.W.Frag) (G : Hp) : List D → List V → Prop
  | [], vs => vs = []
  | d :: ds, vs => ∃ v r, vs = v :: r ∧ Rep K G d v ∧ RepL K G ds r
end
theorem Same.seqT {K : PySem.W.Frag} {H H' : Hp} {a : Addr} {xs : List V} (e : Same H H') (h : SqT K H a xs) : SqT K H' a xs := by
  rcases h with (h | ⟨o, h⟩) | h
  · exact .inl (.inl (e _ _ h))
  · exact .inl (.inr ⟨o, e _ _ h⟩)
  · exact .inr h
mutual
theorem Rep.mono {K : PySem.W.Frag} {G G' : Hp} (e : Same G G') : ∀ {d : D} {v : V}, Rep K G d v → Rep K G' d v
  | .non, _, h => h
  | .bl _, _, h => h
  | .int _, _, h => h
  | .str _, _, h => h
  | .lst _, _, h => by
    unfold Rep at h ⊢
    obtain ⟨a, xs, r, s, t⟩ := h
    exact ⟨a, xs, r, e.seq s, RepL.mono e t⟩
  | .tup _, _, h => by
    unfold Rep at h ⊢
    obtain ⟨a, xs, r, s, t⟩ := h
    exact ⟨a, xs, r, e.seqT s, RepL.mono e t⟩
  | .ins _ _ _, _, h => by
    unfold Rep at h ⊢
    obtain ⟨a, dx, fs, r, s, n, t⟩ := h
    exact ⟨a, dx, fs, r, e _ _ s, n, RepL.mono e t⟩
theorem RepL.mono {K : PySem.W.Frag} {G G' : Hp} (e : Same G G') : ∀ {ds : List D} {vs : List V}, RepL K G ds vs → RepL K G' ds vs
  | [], _, h => h
  | _ :: _, _, h => by
    unfold RepL at h ⊢
    obtain ⟨v, r, q, a, b⟩ := h
    exact ⟨v, r, q, Rep.mono e a, RepL.mono e b⟩
end

theorem RepL.length {K : PySem.W.Frag} {G : Hp} : ∀ {ds : List D} {vs : List V}, RepL K G ds vs → ds.length = vs.length
  | [], vs, h => by unfold RepL at h; rw [h]; rfl
  | d :: ds, vs, h => by
    unfold RepL at h
    obtain ⟨v, r, rfl, _, b⟩ := h
    rw [List.length_cons, List.length_cons, RepL.length b]
theorem RepL.nil {K : PySem.W.Frag} {G : Hp} : RepL K G [] [] := by unfold RepL; rfl
theorem RepL.cons {K : PySem.W.Frag} {G : Hp} {d : D} {v : V} {ds : List D} {vs : List V} (a : Rep K G d v) (b : RepL K G ds vs) : RepL K G (d :: ds) (v :: vs) := by unfold RepL; exact ⟨v, vs, rfl, a, b⟩
theorem RepL.inv {K : PySem.W.Frag} {G : Hp} {d : D} {ds : List D} {vs : List V} (h : RepL K G (d :: ds) vs) : ∃ v r, vs = v :: r ∧ Rep K G d v ∧ RepL K G ds r := by unfold RepL at h; exact h
theorem RepL.inv0 {K : PySem.W.Frag} {G : Hp} {vs : List V} (h : RepL K G [] vs) : vs = [] := by unfold RepL at h; exact h
theorem RepL.append {K : PySem.W.Frag} {G : Hp} : ∀ {ds es : List D} {vs ws : List V}, RepL K G ds vs → RepL K G es ws → RepL K G (ds ++ es) (vs ++ ws)
  | [], _, _, _, h, h' => by rw [h.inv0]; exact h'
  | _ :: _, _, _, _, h, h' => by
    obtain ⟨v, r, rfl, a, b⟩ := h.inv
    exact .cons a (RepL.append b h')
theorem RepL.get {K : PySem.W.Frag} {G : Hp} : ∀ {ds : List D} {vs : List V} {i : Nat} {d : D}, RepL K G ds vs → ds[i]? = some d → ∃ v, vs[i]? = some v ∧ Rep K G d v
  | [], _, _, _, _, e => by simp at e
  | _ :: _, _, 0, _, h, e => by
    obtain ⟨v, r, rfl, a, b⟩ := h.inv
    simp at e; subst e
    exact ⟨v, rfl, a⟩
  | _ :: _, _, i + 1, _, h, e => by
    obtain ⟨v, r, rfl, a, b⟩ := h.inv
    obtain ⟨w, h1, h2⟩ := RepL.get (i := i) b (by simpa using e)
    exact ⟨w, by simpa using h1, h2⟩
theorem RepL.take {K : PySem.W.Frag} {G : Hp} : ∀ {ds : List D} {vs : List V} (n : Nat), RepL K G ds vs → RepL K G (ds.take n) (vs.take n)
  | _, _, 0, _ => by simpa using RepL.nil
  | [], _, _ + 1, h => by rw [h.inv0]; simpa using RepL.nil
  | _ :: _, _, n + 1, h => by
    obtain ⟨v, r, rfl, a, b⟩ := h.inv
    exact .cons a (RepL.take n b)
theorem RepL.drop {K : PySem.W.Frag} {G : Hp} : ∀ {ds : List D} {vs : List V} (n : Nat), RepL K G ds vs → RepL K G (ds.drop n) (vs.drop n)
  | _, _, 0, h => h
  | [], _, _ + 1, h => by rw [h.inv0]; simpa using RepL.nil
  | _ :: _, _, n + 1, h => by
    obtain ⟨v, r, rfl, a, b⟩ := h.inv
    exact RepL.drop n b
theorem RepL.set {K : PySem.W.Frag} {G : Hp} {d : D} {v : V} (r : Rep K G d v) : ∀ {ds : List D} {vs : List V} (i : Nat), RepL K G ds vs → RepL K G (ds.set i d) (vs.set i v)
  | [], _, _, h => by rw [h.inv0]; simpa using RepL.nil
  | _ :: _, _, 0, h => by
    obtain ⟨w, q, rfl, a, b⟩ := h.inv
    exact .cons r b
  | _ :: _, _, i + 1, h => by
    obtain ⟨w, q, rfl, a, b⟩ := h.inv
    exact .cons a (RepL.set r i b)
theorem RepL.reverse {K : PySem.W.Frag} {G : Hp} : ∀ {ds : List D} {vs : List V}, RepL K G ds vs → RepL K G ds.reverse vs.reverse
  | [], _, h => by rw [h.inv0]; simpa using RepL.nil
  | _ :: _, _, h => by
    obtain ⟨v, r, rfl, a, b⟩ := h.inv
    rw [List.reverse_cons, List.reverse_cons]
    exact (RepL.reverse b).append (.cons a .nil)
theorem RepL.ints {K : PySem.W.Frag} {G : Hp} : ∀ {ns : List Int} {vs : List V}, RepL K G (ns.map D.int) vs → vs = ns.map V.int
  | [], _, h => h.inv0
  | n :: ns, _, h => by
    obtain ⟨v, r, rfl, a, b⟩ := RepL.inv (by simpa using h)
    rw [RepL.ints b]
    have a' : v = .int n := by unfold Rep at a; exact a
    rw [a']; rfl
theorem RepL.of_ints {K : PySem.W.Frag} {G : Hp} : ∀ (ns : List Int), RepL K G (ns.map D.int) (ns.map V.int)
  | [] => .nil
  | n :: ns => .cons (by unfold Rep; rfl) (RepL.of_ints ns)

/-! ### the heap's growth: H all that is tracked, G the part that the data reach -/
structure Ext (G H G' H' : Hp) : Prop where
  hh : Same H H'
  gg : Same G G'
  gh : Same G' H'
  nw : ∀ b o, G' b = some o → G b = some o ∨ H b = none
theorem Ext.refl {G H : Hp} (s : Same G H) : Ext G H G H := ⟨.refl _, .refl _, s, fun _ _ h => .inl h⟩
theorem Ext.trans {G H G1 H1 G2 H2 : Hp} (a : Ext G H G1 H1) (b : Ext G1 H1 G2 H2) : Ext G H G2 H2 :=
  ⟨a.hh.trans b.hh, a.gg.trans b.gg, b.gh, fun c o h => (b.nw c o h).elim (fun z => a.nw c o z) fun z => .inr (a.hh.free z)⟩
theorem Ext.new {G H : Hp} (s : Same G H) {p : Addr} (hp : H p = none) (o : HO) : Ext G H (upd G p o) (upd H p o) :=
  ⟨fun b u e => by rw [upd_ne (ne_of_none e hp)]; exact e, fun b u e => by rw [upd_ne (ne_of_none (s b u e) hp)]; exact e,
    fun b u e => by
      by_cases hb : b = p
      · subst hb; rw [upd_same] at e ⊢; exact e
      · rw [upd_ne hb] at e ⊢; exact s b u e,
    fun b u e => by
      by_cases hb : b = p
      · subst hb; exact .inr hp
      · rw [upd_ne hb] at e; exact .inl e⟩
/-- what is tracked may only be seen through more of the heap -/
theorem Ext.wide {G H G' H' : Hp} (a : Ext G H G' H') : Ext H H H' H' := ⟨a.hh, a.hh, .refl _, fun b o h => by
  cases e : H b with
  | none => exact .inr rfl
  | some u => rw [a.hh b u e] at h; cases h; exact .inl rfl⟩

def OkR {α : Type} (E : XK) (H : Hp) : Res α → Prop
  | .ok _ => True
  | .exc c => ∀ H', Same H H' → E (.ref c) none H'
  | .bad => False
theorem OkR.fst {α β : Type} {E : XK} {H : Hp} {x : Res α} {f : α → Res β} (h : OkR E H (x.bind f)) : OkR E H x := by
  cases x with
  | ok a => trivial
  | exc c => exact h
  | bad => exact h
theorem OkR.snd {α β : Type} {E : XK} {H H1 : Hp} {x : Res α} {f : α → Res β} {a : α} (h : OkR E H (x.bind f)) (e : x = .ok a) (s : Same H H1) : OkR E H1 (f a) := by
  subst e
  have h' : OkR E H (f a) := h
  cases q : f a with
  | ok b => trivial
  | exc c => rw [q] at h'; exact fun H' s' => h' H' (s.trans s')
  | bad => rw [q] at h'; exact h'
theorem OkR.le {α : Type} {E : XK} {H H1 : Hp} {x : Res α} (h : OkR E H x) (s : Same H H1) : OkR E H1 x := by
  cases x with
  | ok b => trivial
  | exc c => exact fun H' s' => h H' (s.trans s')
  | bad => exact h
theorem bind_ok {α β : Type} {x : Res α} {f : α → Res β} {a : α} {b : β} (e : x = .ok a) (h : f a = .ok b) : x.bind f = .ok b := by subst e; exact h

abbrev DS := List (Option D)
def Ro (K : PySem.W.Frag) (G : Hp) (σ : St) (ρ : DS) : Prop := ∀ (i : Nat) (d : D), ρ[i]? = some (some d) → ∃ v, σ[i]? = some (some v) ∧ Rep K G d v
theorem Ro.mono {K : PySem.W.Frag} {G G' : Hp} {σ : St} {ρ : DS} (h : Ro K G σ ρ) (s : Same G G') : Ro K G' σ ρ := fun i d e => let ⟨v, a, b⟩ := h i d e; ⟨v, a, b.mono s⟩
theorem Ro.nil {K : PySem.W.Frag} {G : Hp} {σ : St} : Ro K G σ [] := fun i d e => by simp at e
theorem Ro.cons {K : PySem.W.Frag} {G : Hp} {σ : St} {ρ : DS} {v : V} {d : D} (a : Rep K G d v) (h : Ro K G σ ρ) : Ro K G (some v :: σ) (some d :: ρ) := fun i e q => by
  cases i with
  | zero => simp at q; subst q; exact ⟨v, rfl, a⟩
  | succ i => simpa using h i e (by simpa using q)
theorem Ro.skip {K : PySem.W.Frag} {G : Hp} {σ : St} {ρ : DS} {o : Option V} (h : Ro K G σ ρ) : Ro K G (o :: σ) (none :: ρ) := fun i e q => by
  cases i with
  | zero => simp at q
  | succ i => simpa using h i e (by simpa using q)

/-! ### pure expressions -/
def DP (X : Cx) (pins : List (Addr × Obj)) (σ : St) (G H : Hp) (d : D) (u : Value) (s' : Shared) : Prop := ∃ v G' H', Inv X pins σ H' s' ∧ RelV v u ∧ Ext G H G' H' ∧ Rep X.K G' d v
def PD (X : Cx) (E : XK) (e : Expr) (f : DS → Res D) : Prop :=
  ∀ (pins : List (Addr × Obj)) (s : Shared) (σ : St) (G H : Hp) (ρ : DS), Inv X pins σ H s → Same G H → Ro X.K G σ ρ → OkR E H (f ρ) →
    wpAny (model X.prog X.w) X.A (eval e X.env) (fun u s' => ∃ d, f ρ = .ok d ∧ DP X pins σ G H d u s') X.xe s
def PDA (X : Cx) (E : XK) (es : List Expr) (f : DS → Res (List D)) : Prop :=
  ∀ (pos : Pos) (pins : List (Addr × Obj)) (s : Shared) (σ : St) (G H : Hp) (ρ : DS), Inv X pins σ H s → Same G H → Ro X.K G σ ρ → OkR E H (f ρ) →
    wpAny (model X.prog X.w) X.A (spliced (backTo pos (starEach es X.env))) (fun us s' => ∃ ds, f ρ = .ok ds ∧ ∃ vs G' H', Inv X pins σ H' s' ∧ Vals vs us ∧ Ext G H G' H' ∧ RepL X.K G' ds vs) X.xe s
def PDT (X : Cx) (E : XK) (e : Expr) (f : DS → Res Bool) : Prop :=
  ∀ (pins : List (Addr × Obj)) (s : Shared) (σ : St) (G H : Hp) (ρ : DS), Inv X pins σ H s → Same G H → Ro X.K G σ ρ → OkR E H (f ρ) →
    wpAny (model X.prog X.w) X.A (isTrue e X.env (eval e X.env)) (fun b s' => f ρ = .ok b ∧ ∃ G' H', Inv X pins σ H' s' ∧ Ext G H G' H') X.xe s
def PDW (X : Cx) (E : XK) (e : Expr) (f : DS → Res Bool) : Prop :=
  ∀ (whole : Sem Value) (pins : List (Addr × Obj)) (s : Shared) (σ : St) (G H : Hp) (ρ : DS), Inv X pins σ H s → Same G H → Ro X.K G σ ρ → OkR E H (f ρ) →
    wpAny (model X.prog X.w) X.A (isTrue e X.env whole) (fun b s' => f ρ = .ok b ∧ ∃ G' H', Inv X pins σ H' s' ∧ Ext G H G' H') X.xe s
theorem PDW.pt {X : Cx} {E : XK} {e : Expr} {f : DS → Res Bool} (h : PDW X E e f) : PDT X E e f := h _
/-- an expression, a test as the layer reads them -/
def tD (K : PySem.W.Frag) (E : XK) (f : DS → Res D) : TE := fun σ H Q => ∃ G ρ, Same G H ∧ Ro K G σ ρ ∧ OkR E H (f ρ) ∧ ∀ d, f ρ = .ok d → ∀ v G' H', Ext G H G' H' → Rep K G' d v → Q v H'
theorem pe_d {X : Cx} {E : XK} {e : Expr} {f : DS → Res D} (h : PD X E e f) : PE X e (tD X.K E f) := by
  intro pins s σ H Q I ⟨G, ρ, hs, hr, ho, k⟩
  refine thn (h pins s σ G H ρ I hs hr ho) fun u s' ⟨d, e, v, G', H', I', rv, x, rp⟩ => ⟨v, H', I', rv, k d e v G' H' x rp⟩
def tDT (K : PySem.W.Frag) (E : XK) (f : DS → Res Bool) : TT := fun σ H Q => ∃ G ρ, Same G H ∧ Ro K G σ ρ ∧ OkR E H (f ρ) ∧ ∀ b, f ρ = .ok b → ∀ G' H', Ext G H G' H' → Q b H'
theorem pt_d {X : Cx} {E : XK} {e : Expr} {f : DS → Res Bool} (h : PDT X E e f) : PT X e (tDT X.K E f) := by
  intro pins s σ H Q I ⟨G, ρ, hs, hr, ho, k⟩
  refine thn (h pins s σ G H ρ I hs hr ho) fun b s' ⟨e, G', H', I', x⟩ => ⟨H', I', k b e G' H' x⟩
def tDA (K : PySem.W.Frag) (E : XK) (f : DS → Res (List D)) : TA := fun σ H Q => ∃ G ρ, Same G H ∧ Ro K G σ ρ ∧ OkR E H (f ρ) ∧ ∀ ds, f ρ = .ok ds → ∀ vs G' H', Ext G H G' H' → RepL K G' ds vs → Q vs H'
theorem pa_d {X : Cx} {E : XK} {es : List Expr} {f : DS → Res (List D)} (h : PDA X E es f) : PA X es (tDA X.K E f) := by
  intro pos pins s σ H Q I ⟨G, ρ, hs, hr, ho, k⟩
  refine thn (h pos pins s σ G H ρ I hs hr ho) fun us s' ⟨ds, e, vs, G', H', I', rv, x, rp⟩ => ⟨vs, H', I', rv, k ds e vs G' H' x rp⟩

section
variable {X : Cx} {E : XK}
theorem pd_var {i : Nat} {x : Str} {pos : Pos} (hN : X.N[i]? = some x) (hv : Vis X.env.scope x) (hd : (x == ("__debug__" : Str)) = false := by decide) (hcd : (x == ("__classdict__" : Str)) = false := by decide) :
    PD X E (.Name x pos) (fun ρ => match ρ[i]? with | some (some d) => .ok d | _ => .bad) := by
  intro pins s σ G H ρ I hs hr ho
  cases e : ρ[i]? with
  | none => simp only [e] at ho; exact ho.elim
  | some o =>
    cases o with
    | none => simp only [e] at ho; exact ho.elim
    | some d =>
      obtain ⟨v, hv', rp⟩ := hr i d e
      exact thn (pe_var hN hv hd hcd pins s σ H (fun v' H' => H' = H ∧ v' = v) I ⟨v, hv', rfl, rfl⟩) fun u s' ⟨v', H', I', r, e1, e2⟩ => by
        subst e1 e2
        exact ⟨d, by simp only [e], v', G, H', I', r, .refl hs, rp⟩
/-- from a value's rule: the same heap -/
theorem pd_flat {e : Expr} {t : TE} {d : D} (h : PE X e t) (ht : ∀ σ H, t σ H fun v H' => H' = H ∧ ∀ G, Rep X.K G d v) : PD X E e (fun _ => .ok d) := by
  intro pins s σ G H ρ I hs hr ho
  refine thn (h pins s σ H _ I (ht σ H)) fun u s' ⟨v, H', I', r, e1, e2⟩ => ?_
  subst e1
  exact ⟨d, rfl, v, G, H', I', r, .refl hs, e2 G⟩
theorem pd_int {i j pos} : PD X E (.Constant (.int i) j pos) (fun _ => .ok (.int i)) := pd_flat pe_int fun _ _ => ⟨rfl, fun _ => by unfold Rep; rfl⟩
theorem pd_bl {b j pos} : PD X E (.Constant (.bool b) j pos) (fun _ => .ok (.bl b)) := pd_flat pe_bl fun _ _ => ⟨rfl, fun _ => by unfold Rep; rfl⟩
theorem pd_non {j pos} : PD X E (.Constant .none j pos) (fun _ => .ok .non) := pd_flat pe_non fun _ _ => ⟨rfl, fun _ => by unfold Rep; rfl⟩
theorem pd_str {x j pos} : PD X E (.Constant (.str x) j pos) (fun _ => .ok (.str x)) := pd_flat pe_str fun _ _ => ⟨rfl, fun _ => by unfold Rep; rfl⟩
theorem pd_globI {x : Str} {i : Int} {u : Value} {pos : Pos} (hg : Gl X x) (hm : X.mg x = some u) (r : ∃ t, u = .int i t) (hd : (x == ("__debug__" : Str)) = false := by decide) : PD X E (.Name x pos) (fun _ => .ok (.int i)) :=
  pd_flat (pe_glob (v := .int i) hg hm r hd) fun _ _ => ⟨rfl, fun _ => by unfold Rep; rfl⟩
theorem pda_nil : PDA X E [] (fun _ => .ok []) := fun _ _ _ _ G H _ I hs _ _ => Calls.spliced_nil ⟨[], rfl, [], G, H, I, .nil, .refl hs, .nil⟩
theorem pda_cons {e : Expr} {es : List Expr} {f : DS → Res D} {g : DS → Res (List D)} (ha : PD X E e f) (hr : PDA X E es g) (hs : starEach (e :: es) X.env = (false, eval e X.env) :: starEach es X.env := by rfl) :
    PDA X E (e :: es) (fun ρ => (f ρ).bind fun d => (g ρ).bind fun ds => .ok (d :: ds)) := by
  intro pos pins s σ G H ρ I hsm hro ho
  have key : PA X (e :: es) (tCons (fun σ H Q => ∃ (G : Hp) (ρ : DS), Same G H ∧ Ro X.K G σ ρ ∧ OkR E H (f ρ) ∧ ∀ d, f ρ = .ok d → ∀ v G' H', Ext G H G' H' → Rep X.K G' d v → Q v H')
      (fun σ H Q => ∃ (G : Hp) (ρ : DS), Same G H ∧ Ro X.K G σ ρ ∧ OkR E H (g ρ) ∧ ∀ ds, g ρ = .ok ds → ∀ vs G' H', Ext G H G' H' → RepL X.K G' ds vs → Q vs H')) := pa_cons (pe_d ha) (pa_d hr) hs
  refine thn (key pos pins s σ H (fun vs H' => ∃ ds, ((f ρ).bind fun d => (g ρ).bind fun ds => .ok (d :: ds)) = .ok ds ∧ ∃ G', Ext G H G' H' ∧ RepL X.K G' ds vs) I ?_) fun us s' ⟨vs, H', I', r, ds, e1, G', x, rp⟩ => ⟨ds, e1, vs, G', H', I', r, x, rp⟩
  refine ⟨G, ρ, hsm, hro, ho.fst, fun d ed v G1 H1 x1 r1 => ⟨G1, ρ, x1.gh, hro.mono x1.gg, (ho.snd ed x1.hh).fst, fun ds eds vs G2 H2 x2 r2 => ⟨d :: ds, bind_ok ed (bind_ok eds rfl), G2, x1.trans x2, .cons (r1.mono x2.gg) r2⟩⟩⟩

/-- a two-place operation upon data -/
def DOp (X : Cx) (E : XK) (f : Value → Value → Sem Value) (g : D → D → Res D) : Prop :=
  ∀ (pins : List (Addr × Obj)) (s : Shared) (σ : St) (G H : Hp) (x y : V) (dx dy : D) (v u : Value), Inv X pins σ H s → Same G H → Rep X.K G dx x → Rep X.K G dy y → RelV x v → RelV y u → OkR E H (g dx dy) →
    wpAny (model X.prog X.w) X.A (f v u) (fun w s' => ∃ d, g dx dy = .ok d ∧ DP X pins σ G H d w s') X.xe s
theorem DOp.of {f : Value → Value → Sem Value} {r : R2} {g : D → D → Res D} (ho : OpR X f r)
    (h : ∀ (G H : Hp) (x y : V) (dx dy : D), Same G H → Rep X.K G dx x → Rep X.K G dy y → OkR E H (g dx dy) → r x y H (fun v' H' => ∃ d G', g dx dy = .ok d ∧ Ext G H G' H' ∧ Rep X.K G' d v')) : DOp X E f g := by
  intro pins s σ G H x y dx dy v u I hs rx ry rv ru ok
  refine thn (ho pins s σ H x y v u _ I rv ru (h G H x y dx dy hs rx ry ok)) fun w s' ⟨v', H', I', r', d, G', e, x', rp⟩ => ⟨d, e, v', G', H', I', r', x', rp⟩
def OpR2 (f : DS → Res D) (g : DS → Res D) (o : D → D → Res D) : DS → Res D := fun ρ => (f ρ).bind fun a => (g ρ).bind fun b => o a b
theorem pd_two {a b : Expr} {fa fb : DS → Res D} (ha : PD X E a fa) (hb : PD X E b fb) {op : Value → Value → Sem Value} {o : D → D → Res D} (hop : DOp X E op o) {pins : List (Addr × Obj)} {s : Shared} {σ : St} {G H : Hp} {ρ : DS} (I : Inv X pins σ H s) (hs : Same G H) (hro : Ro X.K G σ ρ) (ho : OkR E H (OpR2 fa fb o ρ)) :
    wpAny (model X.prog X.w) X.A (eval a X.env) (fun v s₁ => wpAny (model X.prog X.w) X.A (eval b X.env) (fun u s₂ => wpAny (model X.prog X.w) X.A (op v u) (fun u s' => ∃ d, OpR2 fa fb o ρ = .ok d ∧ DP X pins σ G H d u s') X.xe s₂) X.xe s₁) X.xe s := by
  refine thn (ha pins s σ G H ρ I hs hro ho.fst) fun v s1 ⟨d1, e1, v1, G1, H1, I1, r1, x1, p1⟩ => ?_
  refine thn (hb pins s1 σ G1 H1 ρ I1 x1.gh (hro.mono x1.gg) (ho.snd e1 x1.hh).fst) fun u s2 ⟨d2, e2, v2, G2, H2, I2, r2, x2, p2⟩ => ?_
  refine thn (hop pins s2 σ G2 H2 v1 v2 d1 d2 v u I2 x2.gh (p1.mono x2.gg) p2 r1 r2 ((ho.snd e1 x1.hh).snd e2 x2.hh)) fun w s3 ⟨d, e, v3, G3, H3, I3, r3, x3, p3⟩ => ?_
  exact ⟨d, bind_ok e1 (bind_ok e2 e), v3, G3, H3, I3, r3, (x1.trans x2).trans x3, p3⟩
theorem pd_bin {op : Operator} {a b : Expr} {fa fb : DS → Res D} {o : D → D → Res D} {pos : Pos} (hop : DOp X E (binaryOp op) o) (ha : PD X E a fa) (hb : PD X E b fb) : PD X E (.BinOp a op b pos) (OpR2 fa fb o) :=
  fun pins s σ G H ρ I hs hro ho => wpAny_BinOp (pd_two ha hb hop I hs hro ho)
theorem pd_cmp {op : CmpOp} {a b : Expr} {fa fb : DS → Res D} {o : D → D → Res D} {pos : Pos} (hop : DOp X E (compareOp op) o) (ha : PD X E a fa) (hb : PD X E b fb) (hm : behindInMarks op b = false) : PD X E (.Compare a [op] [b] pos) (OpR2 fa fb o) :=
  fun pins s σ G H ρ I hs hro ho => wpAny_Compare1 (pd_two ha hb hop I hs hro ho) hm
/-- a value that is a bool, as a test -/
def asB (f : DS → Res D) : DS → Res Bool := fun ρ => (f ρ).bind fun d => match d with | .bl b => .ok b | _ => .bad
theorem pdt_cmp {op : CmpOp} {a b : Expr} {fa fb : DS → Res D} {o : D → D → Res D} {pos : Pos} (hop : DOp X E (compareOp op) o) (ha : PD X E a fa) (hb : PD X E b fb) (hm : behindInMarks op b = false) : PDT X E (.Compare a [op] [b] pos) (asB (OpR2 fa fb o)) := by
  intro pins s σ G H ρ I hs hro ho
  refine wpAny_isTrue_Compare1 (thn (pd_two ha hb hop I hs hro ho.fst) fun v s1 h1 => thn h1 fun u s2 h2 => thn h2 fun c s3 ⟨d, e, v3, G3, H3, I3, r3, x3, p3⟩ => ?_) hm
  have k := ho.snd e (Same.refl H)
  cases d with
  | bl b =>
    unfold Rep at p3; subst p3; cases r3
    exact wpAny_truthy_bool ⟨bind_ok e rfl, G3, H3, I3, x3⟩
  | _ => exact k.elim
theorem pdt_val {e : Expr} {f : DS → Res D} (h : PD X E e f) (he : ∀ whole, isTrue e X.env whole = (do let v ← whole; standAt e.pos; holding [v] (truthy v)) := by intro _; rfl) : PDT X E e (asB f) := by
  intro pins s σ G H ρ I hs hro ho
  refine isTrue_plain (thn (h pins s σ G H ρ I hs hro ho.fst) fun v s1 ⟨d, e, v3, G3, H3, I3, r3, x3, p3⟩ => ?_) (he _)
  have k := ho.snd e (Same.refl H)
  cases d with
  | bl b =>
    unfold Rep at p3; subst p3; cases r3
    exact wpAny_truthy_bool ⟨bind_ok e rfl, G3, H3, I3, x3⟩
  | _ => exact k.elim
end
end L2

set_option Elab.async false
set_option linter.all false
set_option maxRecDepth 100000
namespace L2
open PySem PySem.Spec PyProof.Rows

theorem rep_int {K : PySem.W.Frag} {G : Hp} {i : Int} {v : V} : Rep K G (.int i) v ↔ v = .int i := by unfold Rep; exact Iff.rfl
theorem rep_bl {K : PySem.W.Frag} {G : Hp} {i : Bool} {v : V} : Rep K G (.bl i) v ↔ v = .bl i := by unfold Rep; exact Iff.rfl
theorem rep_non {K : PySem.W.Frag} {G : Hp} {v : V} : Rep K G .non v ↔ v = .non := by unfold Rep; exact Iff.rfl
theorem rep_str {K : PySem.W.Frag} {G : Hp} {i : Str} {v : V} : Rep K G (.str i) v ↔ v = .str i := by unfold Rep; exact Iff.rfl
theorem rep_lst {K : PySem.W.Frag} {G : Hp} {ds : List D} {v : V} : Rep K G (.lst ds) v ↔ ∃ a xs, v = .ref a ∧ SqL K G a xs ∧ RepL K G ds xs := by unfold Rep; exact Iff.rfl
theorem rep_tup {K : PySem.W.Frag} {G : Hp} {ds : List D} {v : V} : Rep K G (.tup ds) v ↔ ∃ a xs, v = .ref a ∧ SqT K G a xs ∧ RepL K G ds xs := by unfold Rep; exact Iff.rfl
theorem rep_ins {K : PySem.W.Frag} {G : Hp} {C : Addr} {ns : List Str} {ds : List D} {v : V} : Rep K G (.ins C ns ds) v ↔ ∃ a dx fs, v = .ref a ∧ G a = some (.ins C dx fs) ∧ fs.map (·.1) = ns ∧ RepL K G ds (fs.map (·.2)) := by unfold Rep; exact Iff.rfl

/-! ### ints -/
def intO (c : Int → Int → Bool) (g : Int → Int → D) : D → D → Res D
  | .int i, .int j => if c i j = true then .ok (g i j) else .bad
  | _, _ => .bad
section
variable {X : Cx} {E : XK}
theorem dop_int {f : Value → Value → Sem Value} {C : Int → Int → Prop} {g : Int → Int → V} {c : Int → Int → Bool} {gD : Int → Int → D} (ho : OpR X f (rI C g)) (hc : ∀ i j, c i j = true → C i j) (hg : ∀ i j G, Rep X.K G (gD i j) (g i j)) : DOp X E f (intO c gD) :=
  DOp.of ho fun G H x y dx dy hs rx ry ok => by
    unfold intO at ok ⊢
    split at ok
    · rename_i i j
      rw [rep_int] at rx ry
      subst rx ry
      by_cases h : c i j = true
      · rw [if_pos h]
        exact ⟨i, j, rfl, rfl, hc i j h, _, G, rfl, .refl hs, hg i j G⟩
      · rw [if_neg h] at ok; exact ok.elim
    · exact ok.elim
theorem dop_int0 {f : Value → Value → Sem Value} {g : Int → Int → V} {gD : Int → Int → D} (ho : OpR X f (rI0 g)) (hg : ∀ i j G, Rep X.K G (gD i j) (g i j)) : DOp X E f (intO (fun _ _ => true) gD) :=
  DOp.of ho fun G H x y dx dy hs rx ry ok => by
    unfold intO at ok ⊢
    split at ok
    · rename_i i j
      rw [rep_int] at rx ry
      subst rx ry
      exact ⟨i, j, rfl, rfl, _, G, rfl, .refl hs, hg i j G⟩
    · exact ok.elim
instance (i j : Int) : Decidable (CMul i j) := by unfold CMul; infer_instance
instance (i j : Int) : Decidable (CDiv i j) := by unfold CDiv; infer_instance
instance (i j : Int) : Decidable (CPow i j) := by unfold CPow; infer_instance
def addI : D → D → Res D := intO (fun _ _ => true) fun i j => .int (i + j)
def subI : D → D → Res D := intO (fun _ _ => true) fun i j => .int (i - j)
def mulI : D → D → Res D := intO (fun i j => decide (CMul i j)) fun i j => .int (i * j)
def fdivI : D → D → Res D := intO (fun i j => decide (CDiv i j)) fun i j => .int (i / j)
def modI : D → D → Res D := intO (fun _ j => decide (0 < j)) fun i j => .int (i % j)
def powI : D → D → Res D := intO (fun i j => decide (CPow i j)) fun i j => .int (i ^ j.toNat)
def ltI : D → D → Res D := intO (fun _ _ => true) fun i j => .bl (decide (i < j))
def leI : D → D → Res D := intO (fun _ _ => true) fun i j => .bl (decide (i ≤ j))
def gtI : D → D → Res D := intO (fun _ _ => true) fun i j => .bl (decide (j < i))
def geI : D → D → Res D := intO (fun _ _ => true) fun i j => .bl (decide (j ≤ i))
theorem do_add : DOp X E (binaryOp .Add) addI := dop_int0 op_add fun _ _ _ => rep_int.mpr rfl
theorem do_sub : DOp X E (binaryOp .Sub) subI := dop_int0 op_sub fun _ _ _ => rep_int.mpr rfl
theorem do_mul : DOp X E (binaryOp .Mult) mulI := dop_int op_mul (fun _ _ h => of_decide_eq_true h) fun _ _ _ => rep_int.mpr rfl
theorem do_fdiv : DOp X E (binaryOp .FloorDiv) fdivI := dop_int op_fdiv (fun _ _ h => of_decide_eq_true h) fun _ _ _ => rep_int.mpr rfl
theorem do_mod : DOp X E (binaryOp .Mod) modI := dop_int op_mod (fun _ _ h => of_decide_eq_true h) fun _ _ _ => rep_int.mpr rfl
theorem do_pow : DOp X E (binaryOp .Pow) powI := dop_int op_pow (fun _ _ h => of_decide_eq_true h) fun _ _ _ => rep_int.mpr rfl
theorem do_lt : DOp X E (compareOp .Lt) ltI := dop_int0 op_lt fun _ _ _ => rep_bl.mpr rfl
theorem do_le : DOp X E (compareOp .LtE) leI := dop_int0 op_le fun _ _ _ => rep_bl.mpr rfl
theorem do_gt : DOp X E (compareOp .Gt) gtI := dop_int0 op_gt fun _ _ _ => rep_bl.mpr rfl
theorem do_ge : DOp X E (compareOp .GtE) geI := dop_int0 op_ge fun _ _ _ => rep_bl.mpr rfl
def negI : D → Res D
  | .int i => .ok (.int (-i))
  | _ => .bad
theorem pd_neg {a : Expr} {fa : DS → Res D} {pos : Pos} (ha : PD X E a fa) : PD X E (.UnaryOp .USub a pos) (fun ρ => (fa ρ).bind negI) := by
  intro pins s σ G H ρ I hs hro ho
  refine UnaryOp_ (thn (ha pins s σ G H ρ I hs hro ho.fst) fun v s1 ⟨d1, e1, v1, G1, H1, I1, r1, x1, p1⟩ => ?_)
  have k := ho.snd e1 x1.hh
  cases d1 with
  | int i =>
    rw [rep_int] at p1; subst p1
    exact thn (un_neg pins s1 σ H1 (.int i) v (fun v' H' => H' = H1 ∧ v' = .int (-i)) I1 r1 ⟨i, rfl, rfl, rfl⟩) fun w s2 ⟨v2, H2, I2, r2, h1, h2⟩ => by
      subst h1 h2
      exact ⟨.int (-i), bind_ok e1 rfl, _, G1, _, I2, r2, x1, rep_int.mpr rfl⟩
  | _ => exact k.elim

/-! ### is None -/
def isN (d : D) : Bool := match d with | .non => true | _ => false
theorem rep_none {K : PySem.W.Frag} {G : Hp} {d : D} {v : V} (h : Rep K G d v) : decide (v = V.non) = isN d := by
  cases d with
  | non => rw [rep_non] at h; subst h; rfl
  | bl b => rw [rep_bl] at h; subst h; rfl
  | int i => rw [rep_int] at h; subst h; rfl
  | str x => rw [rep_str] at h; subst h; rfl
  | lst l => rw [rep_lst] at h; obtain ⟨a, xs, rfl, _⟩ := h; rfl
  | tup l => rw [rep_tup] at h; obtain ⟨a, xs, rfl, _⟩ := h; rfl
  | ins C ns l => rw [rep_ins] at h; obtain ⟨a, dx, fs, rfl, _⟩ := h; rfl
def isNo (d e : D) : Res D := match e with | .non => .ok (.bl (isN d)) | _ => .bad
def notNo (d e : D) : Res D := match e with | .non => .ok (.bl (!isN d)) | _ => .bad
theorem do_isN : DOp X E (compareOp .Is) isNo := DOp.of op_isN fun G H x y dx dy hs rx ry ok => by
  cases dy with
  | non => rw [rep_non] at ry; exact ⟨ry, _, G, rfl, .refl hs, by rw [rep_none rx]; exact rep_bl.mpr rfl⟩
  | _ => exact ok.elim
theorem do_notN : DOp X E (compareOp .IsNot) notNo := DOp.of op_notN fun G H x y dx dy hs rx ry ok => by
  cases dy with
  | non => rw [rep_non] at ry; exact ⟨ry, _, G, rfl, .refl hs, by rw [rep_none rx]; exact rep_bl.mpr rfl⟩
  | _ => exact ok.elim

/-! ### and, or, not, if -/
theorem pdw_and1 {a : Expr} {pos : Pos} {f : DS → Res Bool} (ha : PDT X E a f) : PDW X E (.BoolOp .And [a] pos) f := by
  intro wh pins s σ G H ρ I hs hro ho
  refine isTrue_and (thn (ha pins s σ G H ρ I hs hro ho) fun c s1 e => ?_)
  cases c with
  | true => exact isTrue_and_nil e
  | false => exact e
theorem pdw_or1 {a : Expr} {pos : Pos} {f : DS → Res Bool} (ha : PDT X E a f) : PDW X E (.BoolOp .Or [a] pos) f := by
  intro wh pins s σ G H ρ I hs hro ho
  refine isTrue_or (thn (ha pins s σ G H ρ I hs hro ho) fun c s1 e => ?_)
  cases c with
  | false => exact isTrue_or_nil e
  | true => exact e
def andR (f g : DS → Res Bool) : DS → Res Bool := fun ρ => (f ρ).bind fun b => if b = true then g ρ else .ok false
def orR (f g : DS → Res Bool) : DS → Res Bool := fun ρ => (f ρ).bind fun b => if b = true then .ok true else g ρ
theorem pdw_and {a b : Expr} {rest : List Expr} {pos : Pos} {f g : DS → Res Bool} (ha : PDT X E a f) (hb : PDW X E (.BoolOp .And (b :: rest) pos) g) : PDW X E (.BoolOp .And (a :: b :: rest) pos) (andR f g) := by
  intro wh pins s σ G H ρ I hs hro ho
  refine isTrue_and (thn (ha pins s σ G H ρ I hs hro ho.fst) fun c s1 ⟨e, G1, H1, I1, x1⟩ => ?_)
  cases c with
  | true => exact thn (hb wh pins s1 σ G1 H1 ρ I1 x1.gh (hro.mono x1.gg) (ho.snd e x1.hh)) fun c2 s2 ⟨e2, G2, H2, I2, x2⟩ => ⟨bind_ok e (by rw [if_pos rfl]; exact e2), G2, H2, I2, x1.trans x2⟩
  | false => exact ⟨bind_ok e rfl, G1, H1, I1, x1⟩
theorem pdw_or {a b : Expr} {rest : List Expr} {pos : Pos} {f g : DS → Res Bool} (ha : PDT X E a f) (hb : PDW X E (.BoolOp .Or (b :: rest) pos) g) : PDW X E (.BoolOp .Or (a :: b :: rest) pos) (orR f g) := by
  intro wh pins s σ G H ρ I hs hro ho
  refine isTrue_or (thn (ha pins s σ G H ρ I hs hro ho.fst) fun c s1 ⟨e, G1, H1, I1, x1⟩ => ?_)
  cases c with
  | false => exact thn (hb wh pins s1 σ G1 H1 ρ I1 x1.gh (hro.mono x1.gg) (ho.snd e x1.hh)) fun c2 s2 ⟨e2, G2, H2, I2, x2⟩ => ⟨bind_ok e (by rw [if_neg Bool.false_ne_true]; exact e2), G2, H2, I2, x1.trans x2⟩
  | true => exact ⟨bind_ok e rfl, G1, H1, I1, x1⟩
def notR (f : DS → Res Bool) : DS → Res Bool := fun ρ => (f ρ).bind fun b => .ok (!b)
theorem pdt_not {a : Expr} {pos : Pos} {f : DS → Res Bool} (ha : PDT X E a f) : PDT X E (.UnaryOp .Not a pos) (notR f) := by
  intro pins s σ G H ρ I hs hro ho
  exact isTrue_not (thn (ha pins s σ G H ρ I hs hro ho.fst) fun c s1 ⟨e, G1, H1, I1, x1⟩ => ⟨bind_ok e rfl, G1, H1, I1, x1⟩)
/-- as values (bools) -/
def andV (f g : DS → Res D) : DS → Res D := fun ρ => (f ρ).bind fun d => match d with | .bl true => g ρ | .bl false => .ok (.bl false) | _ => .bad
def orV (f g : DS → Res D) : DS → Res D := fun ρ => (f ρ).bind fun d => match d with | .bl true => .ok (.bl true) | .bl false => g ρ | _ => .bad
def notV (f : DS → Res D) : DS → Res D := fun ρ => (f ρ).bind fun d => match d with | .bl b => .ok (.bl (!b)) | _ => .bad
theorem pd_one {op} {a : Expr} {pos : Pos} {f : DS → Res D} (h : PD X E a f) : PD X E (.BoolOp op [a] pos) f := fun pins s σ G H ρ I hs hro ho => BoolOp_one (h pins s σ G H ρ I hs hro ho)
theorem pd_and {a b : Expr} {rest : List Expr} {pos : Pos} {f g : DS → Res D} (ha : PD X E a f) (hb : PD X E (.BoolOp .And (b :: rest) pos) g) : PD X E (.BoolOp .And (a :: b :: rest) pos) (andV f g) := by
  intro pins s σ G H ρ I hs hro ho
  refine BoolOp_and (thn (ha pins s σ G H ρ I hs hro ho.fst) fun v s1 ⟨d1, e1, v1, G1, H1, I1, r1, x1, p1⟩ => ?_)
  have k := ho.snd e1 x1.hh
  cases d1 with
  | bl c =>
    rw [rep_bl] at p1; subst p1; cases r1
    refine wpAny_truthy_bool ?_
    cases c with
    | true => exact thn (hb pins s1 σ G1 H1 ρ I1 x1.gh (hro.mono x1.gg) k) fun w s2 ⟨d2, e2, v2, G2, H2, I2, r2, x2, p2⟩ => ⟨d2, bind_ok e1 e2, v2, G2, H2, I2, r2, x1.trans x2, p2⟩
    | false => exact ⟨_, bind_ok e1 rfl, .bl false, G1, H1, I1, rfl, x1, rep_bl.mpr rfl⟩
  | _ => exact k.elim
theorem pd_or {a b : Expr} {rest : List Expr} {pos : Pos} {f g : DS → Res D} (ha : PD X E a f) (hb : PD X E (.BoolOp .Or (b :: rest) pos) g) : PD X E (.BoolOp .Or (a :: b :: rest) pos) (orV f g) := by
  intro pins s σ G H ρ I hs hro ho
  refine BoolOp_or (thn (ha pins s σ G H ρ I hs hro ho.fst) fun v s1 ⟨d1, e1, v1, G1, H1, I1, r1, x1, p1⟩ => ?_)
  have k := ho.snd e1 x1.hh
  cases d1 with
  | bl c =>
    rw [rep_bl] at p1; subst p1; cases r1
    refine wpAny_truthy_bool ?_
    cases c with
    | false => exact thn (hb pins s1 σ G1 H1 ρ I1 x1.gh (hro.mono x1.gg) k) fun w s2 ⟨d2, e2, v2, G2, H2, I2, r2, x2, p2⟩ => ⟨d2, bind_ok e1 e2, v2, G2, H2, I2, r2, x1.trans x2, p2⟩
    | true => exact ⟨_, bind_ok e1 rfl, .bl true, G1, H1, I1, rfl, x1, rep_bl.mpr rfl⟩
  | _ => exact k.elim
theorem pd_not {a : Expr} {pos : Pos} {f : DS → Res D} (ha : PD X E a f) : PD X E (.UnaryOp .Not a pos) (notV f) := by
  intro pins s σ G H ρ I hs hro ho
  refine UnaryOp_ (thn (ha pins s σ G H ρ I hs hro ho.fst) fun v s1 ⟨d1, e1, v1, G1, H1, I1, r1, x1, p1⟩ => ?_)
  have k := ho.snd e1 x1.hh
  cases d1 with
  | bl c =>
    rw [rep_bl] at p1; subst p1; cases r1
    exact not_of (wpAny_truthy_bool ⟨_, bind_ok e1 rfl, .bl (!c), G1, H1, I1, rfl, x1, rep_bl.mpr rfl⟩)
  | _ => exact k.elim
def ifR (c : DS → Res Bool) (f g : DS → Res D) : DS → Res D := fun ρ => (c ρ).bind fun b => if b = true then f ρ else g ρ
theorem pd_if {c a b : Expr} {pos : Pos} {fc : DS → Res Bool} {fa fb : DS → Res D} (hc : PDT X E c fc) (ha : PD X E a fa) (hb : PD X E b fb) : PD X E (.IfExp c a b pos) (ifR fc fa fb) := by
  intro pins s σ G H ρ I hs hro ho
  refine wpAny_IfExp (thn (hc pins s σ G H ρ I hs hro ho.fst) fun d s1 ⟨e1, G1, H1, I1, x1⟩ => ?_)
  have k := ho.snd e1 x1.hh
  cases d with
  | true => exact thn (ha pins s1 σ G1 H1 ρ I1 x1.gh (hro.mono x1.gg) k) fun w s2 ⟨d2, e2, v2, G2, H2, I2, r2, x2, p2⟩ => ⟨d2, bind_ok e1 (by rw [if_pos rfl]; exact e2), v2, G2, H2, I2, r2, x1.trans x2, p2⟩
  | false => exact thn (hb pins s1 σ G1 H1 ρ I1 x1.gh (hro.mono x1.gg) k) fun w s2 ⟨d2, e2, v2, G2, H2, I2, r2, x2, p2⟩ => ⟨d2, bind_ok e1 (by rw [if_neg Bool.false_ne_true]; exact e2), v2, G2, H2, I2, r2, x1.trans x2, p2⟩
/-- a < b < c -/
def chainR (fa fb fc : DS → Res D) (o o' : D → D → Res D) : DS → Res Bool := fun ρ => (fa ρ).bind fun a => (fb ρ).bind fun b => (o a b).bind fun r => match r with | .bl true => (fc ρ).bind fun c => (o' b c).bind fun q => (match q with | .bl k => .ok k | _ => .bad) | .bl false => .ok false | _ => .bad

/-! ### displays -/
def lenOk (n : Nat) : Bool := decide (n ≤ 100000)
theorem lenOk_line {n : Nat} (h : lenOk n = true) : n ≤ sizeLine := Nat.le_trans (of_decide_eq_true h) (by decide)
def lstR (f : DS → Res (List D)) : DS → Res D := fun ρ => (f ρ).bind fun ds => if lenOk ds.length = true then .ok (.lst ds) else .bad
def tupR (f : DS → Res (List D)) : DS → Res D := fun ρ => (f ρ).bind fun ds => if lenOk ds.length = true then .ok (.tup ds) else .bad
theorem pd_lst {es : List Expr} {pos : Pos} {f : DS → Res (List D)} (h : PDA X E es f) : PD X E (.List es pos) (lstR f) := by
  intro pins s σ G H ρ I hs hro ho
  refine thn (pe_lst (pa_d h) pins s σ H (fun v H' => ∃ d G', lstR f ρ = .ok d ∧ Ext G H G' H' ∧ Rep X.K G' d v) I ?_) fun u s' ⟨v, H', I', r, d, G', e, x, rp⟩ => ⟨d, e, v, G', H', I', r, x, rp⟩
  refine ⟨G, ρ, hs, hro, ho.fst, fun ds e vs G1 H1 x1 r1 => ?_⟩
  have k := ho.snd e x1.hh
  by_cases hl : lenOk ds.length = true
  · refine ⟨by rw [← r1.length]; exact lenOk_line hl, fun p hp => ⟨.lst ds, upd G1 p (.lst vs), bind_ok e (if_pos hl), x1.trans (.new x1.gh hp _), rep_lst.mpr ⟨p, vs, rfl, .of upd_same, r1.mono (Ext.new x1.gh hp _).gg⟩⟩⟩
  · rw [if_neg hl] at k; exact k.elim
theorem pd_tup {es : List Expr} {x1} {pos : Pos} {f : DS → Res (List D)} (h : PDA X E es f) : PD X E (.Tuple es x1 pos) (tupR f) := by
  intro pins s σ G H ρ I hs hro ho
  refine thn (pe_tup (pa_d h) pins s σ H (fun v H' => ∃ d G', tupR f ρ = .ok d ∧ Ext G H G' H' ∧ Rep X.K G' d v) I ?_) fun u s' ⟨v, H', I', r, d, G', e, x, rp⟩ => ⟨d, e, v, G', H', I', r, x, rp⟩
  refine ⟨G, ρ, hs, hro, ho.fst, fun ds e vs G1 H1 x1 r1 => ?_⟩
  have k := ho.snd e x1.hh
  by_cases hl : lenOk ds.length = true
  · refine ⟨by rw [← r1.length]; exact lenOk_line hl, fun p hp => ⟨.tup ds, upd G1 p (.tup vs), bind_ok e (if_pos hl), x1.trans (.new x1.gh hp _), rep_tup.mpr ⟨p, vs, rfl, .of upd_same, r1.mono (Ext.new x1.gh hp _).gg⟩⟩⟩
  · rw [if_neg hl] at k; exact k.elim
end
end L2

set_option Elab.async false
set_option linter.all false
set_option maxRecDepth 100000
namespace L2
open PySem PySem.Spec PyProof.Rows
section
variable {X : Cx} {E : XK}
/-- from the layer's reading of two expressions -/
theorem pd_tOp {e : Expr} {r : R2} {fa fb : DS → Res D} {o : D → D → Res D} (he : PE X e (tOp r (tD X.K E fa) (tD X.K E fb)))
    (h : ∀ (G H : Hp) (x y : V) (dx dy : D) (Q : VK), Same G H → Rep X.K G dx x → Rep X.K G dy y → OkR E H (o dx dy) → (∀ d v' G' H', o dx dy = .ok d → Ext G H G' H' → Rep X.K G' d v' → Q v' H') → r x y H Q) : PD X E e (OpR2 fa fb o) := by
  intro pins s σ G H ρ I hs hro ho
  refine thn (he pins s σ H (fun v H' => ∃ d G', OpR2 fa fb o ρ = .ok d ∧ Ext G H G' H' ∧ Rep X.K G' d v) I ?_) fun u s' ⟨v, H', I', r', d, G', e, x, rp⟩ => ⟨d, e, v, G', H', I', r', x, rp⟩
  refine ⟨G, ρ, hs, hro, ho.fst, fun d1 e1 v1 G1 H1 x1 p1 => ⟨G1, ρ, x1.gh, hro.mono x1.gg, (ho.snd e1 x1.hh).fst, fun d2 e2 v2 G2 H2 x2 p2 => ?_⟩⟩
  exact h G2 H2 v1 v2 d1 d2 _ x2.gh (p1.mono x2.gg) p2 ((ho.snd e1 x1.hh).snd e2 x2.hh) fun d v' G' H' ed xx rp => ⟨d, G', bind_ok e1 (bind_ok e2 ed), (x1.trans x2).trans xx, rp⟩

/-! ### a[i] -/
theorem RepL.atI {K : PySem.W.Frag} {G : Hp} {ds : List D} {vs : List V} {i : Int} {d : D} (h : RepL K G ds vs) (e : atI ds i = some d) : ∃ v, L2.atI vs i = some v ∧ Rep K G d v := by
  unfold L2.atI at e ⊢
  rw [← h.length]
  cases q : ixN ds.length i with
  | none => rw [q] at e; cases e
  | some j =>
    rw [q] at e
    exact h.get (by simpa using e)
def ixD : D → D → Res D
  | .lst l, .int i => match L2.atI l i with | some d => .ok d | none => .bad
  | .tup l, .int i => match L2.atI l i with | some d => .ok d | none => .bad
  | _, _ => .bad
theorem pd_ix {a b : Expr} {pos : Pos} {fa fb : DS → Res D} (ha : PD X E a fa) (hb : PD X E b fb) (hp : PlainIx b := by intro _ _; rfl) : PD X E (.Subscript a b pos) (OpR2 fa fb ixD) := by
  refine pd_tOp (pe_ix ix_seq (pe_d ha) (pe_d hb) hp) fun G H x y dx dy Q hs rx ry ok k => ?_
  unfold ixD at ok k
  split at ok
  · rename_i l i
    rw [rep_lst] at rx; rw [rep_int] at ry
    obtain ⟨p, xs, rfl, sq, rl⟩ := rx
    subst ry
    dsimp only at ok k
    cases q : L2.atI l i with
    | none => rw [q] at ok; exact ok.elim
    | some d =>
      obtain ⟨v, hv, rv⟩ := rl.atI q
      rw [q] at k
      exact .inl ⟨p, xs, i, v, rfl, rfl, hs.seq sq, hv, k d v G H rfl (.refl hs) rv⟩
  · rename_i l i
    rw [rep_tup] at rx; rw [rep_int] at ry
    obtain ⟨p, xs, rfl, sq, rl⟩ := rx
    subst ry
    dsimp only at ok k
    cases q : L2.atI l i with
    | none => rw [q] at ok; exact ok.elim
    | some d =>
      obtain ⟨v, hv, rv⟩ := rl.atI q
      rw [q] at k
      exact .inr (.inl ⟨p, xs, i, v, rfl, rfl, hs.seqT sq, hv, k d v G H rfl (.refl hs) rv⟩)
  · exact ok.elim

/-! ### built-in calls -/
/-- a call by values, upon data -/
def DCl (K : PySem.W.Frag) (E : XK) (r : List V → Hp → VK → Prop) (g : List D → Res D) : Prop :=
  ∀ (G H : Hp) (vs : List V) (ds : List D) (Q : VK), Same G H → RepL K G ds vs → OkR E H (g ds) → (∀ d v' G' H', g ds = .ok d → Ext G H G' H' → Rep K G' d v' → Q v' H') → r vs H Q
def ClR (fs : DS → Res (List D)) (g : List D → Res D) : DS → Res D := fun ρ => (fs ρ).bind g
theorem pd_tCB {e : Expr} {r : List V → Hp → VK → Prop} {fs : DS → Res (List D)} {g : List D → Res D} (he : PE X e (tCB r (tDA X.K E fs))) (h : DCl X.K E r g) : PD X E e (ClR fs g) := by
  intro pins s σ G H ρ I hs hro ho
  refine thn (he pins s σ H (fun v H' => ∃ d G', ClR fs g ρ = .ok d ∧ Ext G H G' H' ∧ Rep X.K G' d v) I ?_) fun u s' ⟨v, H', I', r', d, G', e, x, rp⟩ => ⟨d, e, v, G', H', I', r', x, rp⟩
  refine ⟨G, ρ, hs, hro, ho.fst, fun ds e1 vs G1 H1 x1 p1 => ?_⟩
  exact h G1 H1 vs ds _ x1.gh p1 (ho.snd e1 x1.hh) fun d v' G' H' ed xx rp => ⟨d, G', bind_ok e1 ed, x1.trans xx, rp⟩
theorem pd_callB {x : Str} {p pos : Pos} {e : Expr} {es : List Expr} {id : String} {r : List V → Hp → VK → Prop} {fs : DS → Res (List D)} {g : List D → Res D} (hc : CallR X (.builtin id) r) (h : DCl X.K E r g) (hg : Gl X x) (hm : X.mg x = none) (hv : bootBuiltins x = some (.builtin id)) (ha : PDA X E (e :: es) fs)
    (hn : x ≠ "__name__" := by decide) (hdb : (x == ("__debug__" : Str)) = false := by decide)
    (he : starEach (e :: es) X.env = (false, eval e X.env) :: starEach es X.env := by rfl) (hpl : (backTo pos (starEach es X.env)).any (·.1) = false := by rfl) : PD X E (.Call (.Name x p) (e :: es) [] pos) (ClR fs g) :=
  pd_tCB (pe_callB hc hg hm hv (pa_d ha) hn hdb he hpl) h
theorem pd_callTy {x : Str} {p pos : Pos} {e : Expr} {es : List Expr} {T : String} {r : List V → Hp → VK → Prop} {fs : DS → Res (List D)} {g : List D → Res D} (hc : CallR X (.type T) r) (h : DCl X.K E r g) (hg : Gl X x) (hm : X.mg x = none) (hv : bootBuiltins x = some (.type T)) (ha : PDA X E (e :: es) fs)
    (hn : x ≠ "__name__" := by decide) (hdb : (x == ("__debug__" : Str)) = false := by decide)
    (he : starEach (e :: es) X.env = (false, eval e X.env) :: starEach es X.env := by rfl) (hpl : (backTo pos (starEach es X.env)).any (·.1) = false := by rfl) : PD X E (.Call (.Name x p) (e :: es) [] pos) (ClR fs g) :=
  pd_tCB (pe_callTy hc hg hm hv (pa_d ha) hn hdb he hpl) h
/-! len -/
def lenD : List D → Res D
  | [.lst l] => .ok (.int l.length)
  | [.tup l] => .ok (.int l.length)
  | _ => .bad
theorem dc_len {K : PySem.W.Frag} : DCl K E (fun xs H Q => ∃ p ys, xs = [.ref p] ∧ (SqL K H p ys ∨ SqT K H p ys) ∧ Q (.int ys.length) H) lenD := by
  intro G H vs ds Q hs rl ok k
  unfold lenD at ok k
  split at ok
  · obtain ⟨v, r, rfl, rx, r0⟩ := rl.inv
    rw [r0.inv0]
    rw [rep_lst] at rx
    obtain ⟨p, xs, rfl, sq, rx⟩ := rx
    exact ⟨p, xs, rfl, .inl (hs.seq sq), k _ _ G H rfl (.refl hs) (by rw [rx.length]; exact rep_int.mpr rfl)⟩
  · obtain ⟨v, r, rfl, rx, r0⟩ := rl.inv
    rw [r0.inv0]
    rw [rep_tup] at rx
    obtain ⟨p, xs, rfl, sq, rx⟩ := rx
    exact ⟨p, xs, rfl, .inr (hs.seqT sq), k _ _ G H rfl (.refl hs) (by rw [rx.length]; exact rep_int.mpr rfl)⟩
  · exact ok.elim
/-! min, max of two -/
def min2D : List D → Res D
  | [.int i, .int j] => .ok (.int (min i j))
  | _ => .bad
def max2D : List D → Res D
  | [.int i, .int j] => .ok (.int (max i j))
  | _ => .bad
theorem min_if (i j : Int) : (if j < i then j else i) = min i j := by omega
theorem max_if (i j : Int) : (if j > i then j else i) = max i j := by omega
theorem dc_min2 {K : PySem.W.Frag} : DCl K E (fun xs H Q => ∃ i j, xs = [.int i, .int j] ∧ Q (.int (if j < i then j else i)) H) min2D := by
  intro G H vs ds Q hs rl ok k
  unfold min2D at ok k
  split at ok
  · obtain ⟨v, r, rfl, rx, r0⟩ := rl.inv
    obtain ⟨v2, r2, rfl, ry, r1⟩ := r0.inv
    rw [r1.inv0]
    rw [rep_int] at rx ry; subst rx ry
    refine ⟨_, _, rfl, ?_⟩
    rw [min_if]
    exact k _ _ G H rfl (.refl hs) (rep_int.mpr rfl)
  · exact ok.elim
theorem dc_max2 {K : PySem.W.Frag} : DCl K E (fun xs H Q => ∃ i j, xs = [.int i, .int j] ∧ Q (.int (if j > i then j else i)) H) max2D := by
  intro G H vs ds Q hs rl ok k
  unfold max2D at ok k
  split at ok
  · obtain ⟨v, r, rfl, rx, r0⟩ := rl.inv
    obtain ⟨v2, r2, rfl, ry, r1⟩ := r0.inv
    rw [r1.inv0]
    rw [rep_int] at rx ry; subst rx ry
    refine ⟨_, _, rfl, ?_⟩
    rw [max_if]
    exact k _ _ G H rfl (.refl hs) (rep_int.mpr rfl)
  · exact ok.elim
/-! list(xs), tuple(xs) -/
def listD : List D → Res D
  | [.lst l] => .ok (.lst l)
  | [.tup l] => .ok (.lst l)
  | _ => .bad
def tupleD : List D → Res D
  | [.lst l] => .ok (.tup l)
  | [.tup l] => .ok (.tup l)
  | _ => .bad
theorem dc_list {K : PySem.W.Frag} : DCl K E (fun xs H Q => ∃ p ys, xs = [.ref p] ∧ (SqL K H p ys ∨ SqT K H p ys) ∧ ∀ l, H l = none → Q (.ref l) (upd H l (.lst ys))) listD := by
  intro G H vs ds Q hs rl ok k
  unfold listD at ok k
  split at ok
  · obtain ⟨v, r, rfl, rx, r0⟩ := rl.inv
    rw [r0.inv0]
    rw [rep_lst] at rx
    obtain ⟨p, xs, rfl, sq, rx⟩ := rx
    exact ⟨p, xs, rfl, .inl (hs.seq sq), fun l hl => k _ _ _ _ rfl (.new hs hl _) (rep_lst.mpr ⟨l, xs, rfl, .of upd_same, rx.mono (Ext.new hs hl _).gg⟩)⟩
  · obtain ⟨v, r, rfl, rx, r0⟩ := rl.inv
    rw [r0.inv0]
    rw [rep_tup] at rx
    obtain ⟨p, xs, rfl, sq, rx⟩ := rx
    exact ⟨p, xs, rfl, .inr (hs.seqT sq), fun l hl => k _ _ _ _ rfl (.new hs hl _) (rep_lst.mpr ⟨l, xs, rfl, .of upd_same, rx.mono (Ext.new hs hl _).gg⟩)⟩
  · exact ok.elim
theorem dc_tuple {K : PySem.W.Frag} : DCl K E (fun xs H Q => ∃ p ys, xs = [.ref p] ∧ ((SqL K H p ys ∧ ∀ l, H l = none → Q (.ref l) (upd H l (.tup ys))) ∨ (SqT K H p ys ∧ Q (.ref p) H))) tupleD := by
  intro G H vs ds Q hs rl ok k
  unfold tupleD at ok k
  split at ok
  · obtain ⟨v, r, rfl, rx, r0⟩ := rl.inv
    rw [r0.inv0]
    rw [rep_lst] at rx
    obtain ⟨p, xs, rfl, sq, rx⟩ := rx
    exact ⟨p, xs, rfl, .inl ⟨hs.seq sq, fun l hl => k _ _ _ _ rfl (.new hs hl _) (rep_tup.mpr ⟨l, xs, rfl, .of upd_same, rx.mono (Ext.new hs hl _).gg⟩)⟩⟩
  · obtain ⟨v, r, rfl, rx, r0⟩ := rl.inv
    rw [r0.inv0]
    have rx' := rx
    rw [rep_tup] at rx
    obtain ⟨p, xs, rfl, sq, rx⟩ := rx
    exact ⟨p, xs, rfl, .inr ⟨hs.seqT sq, k _ _ G H rfl (.refl hs) rx'⟩⟩
  · exact ok.elim

/-! ### calls of pure defs -/
/-- the promise of a pure def: m upon data -/
def pureSp (K : PySem.W.Frag) (m : List D → Res D) : Sp := fun vs H Q E => ∃ ds G, Same G H ∧ RepL K G ds vs ∧ OkR E H (m ds) ∧ ∀ d, m ds = .ok d → ∀ v G' H', Ext G H G' H' → Rep K G' d v → Q v H'
theorem pd_call {CX : CXT} {k : Nat} {f : Addr} {fd : FuncData} {ps : List Str} {m : List D → Res D} {x : Str} {p pos : Pos} {e : Expr} {es : List Expr} {fs : DS → Res (List D)} (F : FnOk X.prog X.w X.K X.mg X.base CX k f fd ps (pureSp X.K m)) (hr : Room k X.A) (hg : Gl X x) (hm : X.mg x = some (.ref f)) (hk : PySem.W.keepIn X.K (.ref f) = true) (hb : Binds X.K fd ps []) (hx : Passes CX X E)
    (ha : PDA X E (e :: es) fs) (hdb : (x == ("__debug__" : Str)) = false := by decide) (he : starEach (e :: es) X.env = (false, eval e X.env) :: starEach es X.env := by rfl) (hpl : (backTo pos (starEach es X.env)).any (·.1) = false := by rfl) :
    PD X E (.Call (.Name x p) (e :: es) [] pos) (ClR fs m) := by
  intro pins s σ G H ρ I hs hro ho
  refine thn (pe_call F hr hg hm hk hb .nil hx (pa_d ha) hdb he hpl pins s σ H (fun v H' => ∃ d G', ClR fs m ρ = .ok d ∧ Ext G H G' H' ∧ Rep X.K G' d v) I ?_) fun u s' ⟨v, H', I', r', d, G', e, x, rp⟩ => ⟨d, e, v, G', H', I', r', x, rp⟩
  refine ⟨G, ρ, hs, hro, ho.fst, fun ds e1 vs G1 H1 x1 p1 => ⟨ds, G1, x1.gh, by rw [List.append_nil]; exact p1, ho.snd e1 x1.hh, fun d ed v G' H' xx rp => ⟨d, G', bind_ok e1 ed, x1.trans xx, rp⟩⟩⟩
/-- o.m() of an instance of the class at C -/
def insOf (C : Addr) (m : Str) : D → Bool
  | .ins C' ns _ => C' == C && !ns.contains m
  | _ => false
def methR (C : Addr) (m : Str) (fo : DS → Res D) (g : List D → Res D) : DS → Res D := fun ρ => (fo ρ).bind fun o => if insOf C m o = true then g [o] else .bad
theorem lookup_none_of {fs : List (Str × V)} {m : Str} (h : (fs.map (·.1)).contains m = false) : fs.lookup m = none := by
  induction fs with
  | nil => rfl
  | cons p r ih =>
    rw [List.map_cons, List.contains_cons, Bool.or_eq_false_iff] at h
    rw [List.lookup_cons]
    have : (m == p.1) = false := h.1
    rw [this]
    exact ih h.2
theorem pd_meth0 {pl : Sem Bool} {CX : CXT} {k : Nat} {f C : Addr} {fd : FuncData} {ps : List Str} {g : List D → Res D} {m : Str} {apos pos : Pos} {o : Expr} {fo : DS → Res D} (hoo : PD X E o fo) (c : Cls X.K C) (hm : Meth X.K C m f) (F : FnOk X.prog X.w X.K X.mg X.base CX k f fd ps (pureSp X.K g)) (hr : Room k X.A) (hb : Binds X.K fd ps []) (hx : Passes CX X E)
    (hpe : PE X (.Call (.Attribute o m apos) [] [] pos) (tMeth C m (pureSp X.K g) [] E (tD X.K E fo) tNil)) : PD X E (.Call (.Attribute o m apos) [] [] pos) (methR C m fo g) := by
  intro pins s σ G H ρ I hs hro ho
  refine thn (hpe pins s σ H (fun v H' => ∃ d G', methR C m fo g ρ = .ok d ∧ Ext G H G' H' ∧ Rep X.K G' d v) I ?_) fun u s' ⟨v, H', I', r', d, G', e, x, rp⟩ => ⟨d, e, v, G', H', I', r', x, rp⟩
  refine ⟨G, ρ, hs, hro, ho.fst, fun dO e1 v G1 H1 x1 p1 => ?_⟩
  have kk := ho.snd e1 x1.hh
  by_cases hi : insOf C m dO = true
  · rw [if_pos hi] at kk
    cases dO with
    | ins C' ns l =>
      have hi' := hi
      unfold insOf at hi'
      rw [Bool.and_eq_true, beq_iff_eq, Bool.not_eq_true'] at hi'
      obtain ⟨rfl, hn⟩ := hi'
      have p1' := p1
      rw [rep_ins] at p1
      obtain ⟨a, dx, fs, rfl, ha, hns, _⟩ := p1
      refine ⟨a, dx, fs, rfl, x1.gh _ _ ha, lookup_none_of (by rw [hns]; exact hn), ?_⟩
      exact ⟨[.ins C' ns l], G1, x1.gh, .cons p1' .nil, kk, fun d ed v G' H' xx rp => ⟨d, G', bind_ok e1 (by rw [if_pos hi]; exact ed), x1.trans xx, rp⟩⟩
    | _ => cases hi
  · rw [if_neg hi] at kk; exact kk.elim

/-! ### e.f -/
def getF : List Str → List D → Str → Option D
  | n :: ns, d :: ds, f => if n = f then some d else getF ns ds f
  | _, _, _ => none
def fldD (C : Addr) (f : Str) : D → Res D
  | .ins C' ns ds => if C' = C then (match getF ns ds f with | some d => .ok d | none => .bad) else .bad
  | _ => .bad
theorem lookup_getF {K : PySem.W.Frag} {G : Hp} {f : Str} {d : D} : ∀ {fs : List (Str × V)} {ds : List D}, RepL K G ds (fs.map (·.2)) → getF (fs.map (·.1)) ds f = some d → ∃ v, fs.lookup f = some v ∧ Rep K G d v
  | [], ds, _, h => by cases ds <;> cases h
  | (n, v) :: r, [], _, h => by cases h
  | (n, v) :: r, e :: ds, hr, h => by
    obtain ⟨v', r', q, a, b⟩ := hr.inv
    rw [List.map_cons] at q
    cases q
    rw [List.map_cons] at h
    unfold getF at h
    rw [List.lookup_cons]
    by_cases hn : n = f
    · subst hn
      rw [if_pos rfl] at h
      cases h
      rw [show (n == n) = true by simp]
      exact ⟨v, rfl, a⟩
    · rw [if_neg hn] at h
      rw [show (f == n) = false by simpa using Ne.symm hn]
      exact lookup_getF b h
theorem pd_fld {C : Addr} {o : Expr} {f : Str} {pos : Pos} {fo : DS → Res D} (ho : PD X E o fo) (c : Cls X.K C) (n : NoAttr X.K C f) (hb : attributeBase o f X.env (eval o X.env) = eval o X.env := by rfl) : PD X E (.Attribute o f pos) (fun ρ => (fo ρ).bind (fldD C f)) := by
  intro pins s σ G H ρ I hs hro hok
  refine thn (pe_fld (pe_d ho) hb pins s σ H (fun v H' => ∃ d G', ((fo ρ).bind (fldD C f)) = .ok d ∧ Ext G H G' H' ∧ Rep X.K G' d v) I ?_) fun u s' ⟨v, H', I', r', d, G', e, x, rp⟩ => ⟨d, e, v, G', H', I', r', x, rp⟩
  refine ⟨G, ρ, hs, hro, hok.fst, fun dO e1 v G1 H1 x1 p1 => ?_⟩
  have kk := hok.snd e1 x1.hh
  cases dO with
  | ins C' ns l =>
    unfold fldD at kk
    dsimp only at kk
    by_cases hc : C' = C
    · subst hc
      rw [if_pos rfl] at kk
      rw [rep_ins] at p1
      obtain ⟨a, dx, fs, rfl, ha, hns, rl⟩ := p1
      subst hns
      cases q : getF (fs.map (·.1)) l f with
      | none => rw [q] at kk; exact kk.elim
      | some d =>
        obtain ⟨v, hv, rv⟩ := lookup_getF rl q
        exact ⟨a, C', dx, fs, v, rfl, x1.gh _ _ ha, c, n, hv, d, G1, bind_ok e1 (by unfold fldD; dsimp only; rw [if_pos rfl, q]), x1, rv⟩
    · rw [if_neg hc] at kk; exact kk.elim
  | _ => exact kk.elim

/-! ### a op b op' c -/
theorem pdt_chain {op op' : CmpOp} {a b c : Expr} {pos : Pos} {fa fb fc : DS → Res D} {o o' : D → D → Res D} (ho : DOp X E (compareOp op) o) (ho' : DOp X E (compareOp op') o') (ha : PD X E a fa) (hb : PD X E b fb) (hc : PD X E c fc)
    (hm : lastMarks [op, op'] [b, c] = false := by with_unfolding_all rfl) : PDT X E (.Compare a [op, op'] [b, c] pos) (chainR fa fb fc o o') := by
  intro pins s σ G H ρ I hs hro hok
  refine isTrue_chain (thn (ha pins s σ G H ρ I hs hro hok.fst) fun v s1 ⟨d1, e1, v1, G1, H1, I1, r1, x1, p1⟩ => test_link (thn (hb pins s1 σ G1 H1 ρ I1 x1.gh (hro.mono x1.gg) (hok.snd e1 x1.hh).fst) fun u s2 ⟨d2, e2, v2, G2, H2, I2, r2, x2, p2⟩ => ?_)) hm
  have k2 := (hok.snd e1 x1.hh).snd e2 x2.hh
  refine thn (ho pins s2 σ G2 H2 v1 v2 d1 d2 v u I2 x2.gh (p1.mono x2.gg) p2 r1 r2 k2.fst) fun d s3 ⟨d3, e3, v3, G3, H3, I3, r3, x3, p3⟩ => ?_
  have k3 := k2.snd e3 x3.hh
  cases d3 with
  | bl k =>
    rw [rep_bl] at p3; subst p3; cases r3
    refine wpAny_truthy_bool ?_
    cases k with
    | false => exact ite_ff ⟨bind_ok e1 (bind_ok e2 (bind_ok e3 rfl)), G3, H3, I3, (x1.trans x2).trans x3⟩
    | true =>
      refine ite_tt (test_last (thn (hc pins s3 σ G3 H3 ρ I3 x3.gh (hro.mono ((x1.gg.trans x2.gg).trans x3.gg)) k3.fst) fun w' s4 ⟨d4, e4, v4, G4, H4, I4, r4, x4, p4⟩ => ?_))
      have k4 := k3.snd e4 x4.hh
      refine thn (ho' pins s4 σ G4 H4 v2 v4 d2 d4 u w' I4 x4.gh (p2.mono (x3.gg.trans x4.gg)) p4 r2 r4 k4.fst) fun d' s5 ⟨d5, e5, v5, G5, H5, I5, r5, x5, p5⟩ => ?_
      have k5 := k4.snd e5 x5.hh
      cases d5 with
      | bl k =>
        rw [rep_bl] at p5; subst p5; cases r5
        exact wpAny_truthy_bool ⟨bind_ok e1 (bind_ok e2 (bind_ok e3 (bind_ok e4 (bind_ok e5 rfl)))), G5, H5, I5, (((x1.trans x2).trans x3).trans x4).trans x5⟩
      | _ => exact k5.elim
  | _ => exact k3.elim
end
end L2

set_option Elab.async false
set_option linter.all false
set_option maxRecDepth 100000
namespace L2
open PySem PySem.Spec PyProof.Rows

/-! ### == -/
mutual
def eqB : D → D → Bool
  | .non, .non => true
  | .bl a, .bl b => a == b
  | .int a, .int b => a == b
  | .bl a, .int b => (if a then (1 : Int) else 0) == b
  | .int a, .bl b => a == (if b then (1 : Int) else 0)
  | .str a, .str b => a == b
  | .lst a, .lst b => eqBL a b
  | .tup a, .tup b => eqBL a b
  | _, _ => false
def eqBL : List D → List D → Bool
  | [], [] => true
  | a :: as, b :: bs => eqB a b && eqBL as bs
  | _, _ => false
end
mutual
/-- no instances, nested at most n deep -/
def plD : Nat → D → Bool
  | _, .non => true
  | _, .bl _ => true
  | _, .int _ => true
  | _, .str _ => true
  | n, .lst l => decide (1 ≤ n) && plL (n - 1) l
  | n, .tup l => decide (1 ≤ n) && plL (n - 1) l
  | _, .ins _ _ _ => false
def plL : Nat → List D → Bool
  | _, [] => true
  | n, d :: ds => plD n d && plL n ds
end
theorem plL_get : ∀ {n : Nat} {ds : List D} {i : Nat} {d : D}, plL n ds = true → ds[i]? = some d → plD n d = true
  | _, [], _, _, _, e => by simp at e
  | n, a :: as, 0, _, h, e => by
    simp at e; subst e
    unfold plL at h; rw [Bool.and_eq_true] at h; exact h.1
  | n, a :: as, i + 1, d, h, e => by
    unfold plL at h; rw [Bool.and_eq_true] at h
    exact plL_get (i := i) h.2 (by simpa using e)
theorem eqBL_all : ∀ {as bs : List D} {n : Nat} {e : Nat → Bool}, as.length = bs.length → (∀ (i : Nat) (a b : D), as[i]? = some a → bs[i]? = some b → e i = eqB a b) → n = as.length → (List.range n).all e = eqBL as bs
  | [], [], _, _, _, _, hn => by subst hn; unfold eqBL; rfl
  | [], _ :: _, _, _, h, _, _ => by simp at h
  | _ :: _, [], _, _, h, _, _ => by simp at h
  | a :: as, b :: bs, n, e, h, he, hn => by
    subst hn
    unfold eqBL
    rw [List.length_cons, List.range_succ_eq_map, List.all_cons, he 0 a b rfl rfl, List.all_map]
    congr 1
    exact eqBL_all (e := e ∘ Nat.succ) (by simpa using h) (fun i x y hx hy => he (i + 1) x y (by simpa using hx) (by simpa using hy)) rfl
theorem eqBL_len : ∀ {as bs : List D}, as.length ≠ bs.length → eqBL as bs = false
  | [], [], h => absurd rfl h
  | [], _ :: _, _ => by unfold eqBL; rfl
  | _ :: _, [], _ => by unfold eqBL; rfl
  | a :: as, b :: bs, h => by
    unfold eqBL
    rw [eqBL_len (as := as) (bs := bs) (fun z => h (by simp [z])), Bool.and_false]
mutual
theorem eqB_refl : ∀ {n : Nat} {d : D}, plD n d = true → eqB d d = true
  | _, .non, _ => by unfold eqB; rfl
  | _, .bl b, _ => by unfold eqB; simp
  | _, .int b, _ => by unfold eqB; simp
  | _, .str b, _ => by unfold eqB; simp
  | n, .lst l, h => by
    unfold plD at h; rw [Bool.and_eq_true] at h
    unfold eqB; exact eqBL_refl h.2
  | n, .tup l, h => by
    unfold plD at h; rw [Bool.and_eq_true] at h
    unfold eqB; exact eqBL_refl h.2
  | _, .ins _ _ _, h => by unfold plD at h; cases h
theorem eqBL_refl : ∀ {n : Nat} {ds : List D}, plL n ds = true → eqBL ds ds = true
  | _, [], _ => by unfold eqBL; rfl
  | n, d :: ds, h => by
    unfold plL at h; rw [Bool.and_eq_true] at h
    unfold eqBL; rw [eqB_refl h.1, eqBL_refl h.2]; rfl
end
section
variable {X : Cx} {E : XK} {pins : List (Addr × Obj)} {σ : St} {G H : Hp} {s : Shared}
theorem Inv.isTup (I : Inv X pins σ H s) {a : Addr} {xs : List V} (h : SqT X.K H a xs) : ∃ its : List Value, Vals xs its ∧ s.heap.IsTuple a its.toArray := by
  obtain ⟨its, r, p, _⟩ := I.tuple h
  exact ⟨its, r, p⟩
theorem Inv.isLst (I : Inv X pins σ H s) {a : Addr} {xs : List V} (h : SqL X.K H a xs) : ∃ its : List Value, Vals xs its ∧ s.heap.IsList a its.toArray := by
  obtain ⟨its, r, p, _⟩ := I.list h
  exact ⟨its, r, p.isList⟩
mutual
/-- one value, one datum -/
theorem Rep.inj (I : Inv X pins σ H s) (hs : Same G H) : ∀ {n m : Nat} {d e : D} {x : V}, plD n d = true → plD m e = true → Rep X.K G d x → Rep X.K G e x → d = e
  | _, _, .non, e, x, _, he, hx, hy => by
    rw [rep_non] at hx; subst hx
    cases e with
    | non => rfl
    | bl b => rw [rep_bl] at hy; cases hy
    | int b => rw [rep_int] at hy; cases hy
    | str b => rw [rep_str] at hy; cases hy
    | lst b => rw [rep_lst] at hy; obtain ⟨_, _, q, _⟩ := hy; cases q
    | tup b => rw [rep_tup] at hy; obtain ⟨_, _, q, _⟩ := hy; cases q
    | ins _ _ _ => unfold plD at he; cases he
  | _, _, .bl c, e, x, _, he, hx, hy => by
    rw [rep_bl] at hx; subst hx
    cases e with
    | non => rw [rep_non] at hy; cases hy
    | bl b => rw [rep_bl] at hy; cases hy; rfl
    | int b => rw [rep_int] at hy; cases hy
    | str b => rw [rep_str] at hy; cases hy
    | lst b => rw [rep_lst] at hy; obtain ⟨_, _, q, _⟩ := hy; cases q
    | tup b => rw [rep_tup] at hy; obtain ⟨_, _, q, _⟩ := hy; cases q
    | ins _ _ _ => unfold plD at he; cases he
  | _, _, .int c, e, x, _, he, hx, hy => by
    rw [rep_int] at hx; subst hx
    cases e with
    | non => rw [rep_non] at hy; cases hy
    | bl b => rw [rep_bl] at hy; cases hy
    | int b => rw [rep_int] at hy; cases hy; rfl
    | str b => rw [rep_str] at hy; cases hy
    | lst b => rw [rep_lst] at hy; obtain ⟨_, _, q, _⟩ := hy; cases q
    | tup b => rw [rep_tup] at hy; obtain ⟨_, _, q, _⟩ := hy; cases q
    | ins _ _ _ => unfold plD at he; cases he
  | _, _, .str c, e, x, _, he, hx, hy => by
    rw [rep_str] at hx; subst hx
    cases e with
    | non => rw [rep_non] at hy; cases hy
    | bl b => rw [rep_bl] at hy; cases hy
    | int b => rw [rep_int] at hy; cases hy
    | str b => rw [rep_str] at hy; cases hy; rfl
    | lst b => rw [rep_lst] at hy; obtain ⟨_, _, q, _⟩ := hy; cases q
    | tup b => rw [rep_tup] at hy; obtain ⟨_, _, q, _⟩ := hy; cases q
    | ins _ _ _ => unfold plD at he; cases he
  | n, m, .lst c, e, x, hd, he, hx, hy => by
    rw [rep_lst] at hx
    obtain ⟨a, xs, rfl, sq, rl⟩ := hx
    unfold plD at hd; rw [Bool.and_eq_true] at hd
    cases e with
    | non => rw [rep_non] at hy; cases hy
    | bl b => rw [rep_bl] at hy; cases hy
    | int b => rw [rep_int] at hy; cases hy
    | str b => rw [rep_str] at hy; cases hy
    | lst b =>
      rw [rep_lst] at hy
      obtain ⟨a', ys, q, sq', rl'⟩ := hy
      cases q
      rw [I.list_inj (hs.seq sq') (hs.seq sq)] at rl'
      unfold plD at he; rw [Bool.and_eq_true] at he
      rw [RepL.inj I hs hd.2 he.2 rl rl']
    | tup b =>
      rw [rep_tup] at hy
      obtain ⟨a', ys, q, sq', rl'⟩ := hy
      cases q
      obtain ⟨_, _, p1⟩ := I.isLst (hs.seq sq)
      obtain ⟨_, _, p2⟩ := I.isTup (hs.seqT sq')
      exact absurd rfl (SeqAt.ne_of_list_tuple p1 p2)
    | ins _ _ _ => unfold plD at he; cases he
  | n, m, .tup c, e, x, hd, he, hx, hy => by
    rw [rep_tup] at hx
    obtain ⟨a, xs, rfl, sq, rl⟩ := hx
    unfold plD at hd; rw [Bool.and_eq_true] at hd
    cases e with
    | non => rw [rep_non] at hy; cases hy
    | bl b => rw [rep_bl] at hy; cases hy
    | int b => rw [rep_int] at hy; cases hy
    | str b => rw [rep_str] at hy; cases hy
    | tup b =>
      rw [rep_tup] at hy
      obtain ⟨a', ys, q, sq', rl'⟩ := hy
      cases q
      rw [I.tuple_inj (hs.seqT sq') (hs.seqT sq)] at rl'
      unfold plD at he; rw [Bool.and_eq_true] at he
      rw [RepL.inj I hs hd.2 he.2 rl rl']
    | lst b =>
      rw [rep_lst] at hy
      obtain ⟨a', ys, q, sq', rl'⟩ := hy
      cases q
      obtain ⟨_, _, p1⟩ := I.isLst (hs.seq sq')
      obtain ⟨_, _, p2⟩ := I.isTup (hs.seqT sq)
      exact absurd rfl (SeqAt.ne_of_list_tuple p1 p2)
    | ins _ _ _ => unfold plD at he; cases he
  | _, _, .ins _ _ _, _, _, hd, _, _, _ => by unfold plD at hd; cases hd
theorem RepL.inj (I : Inv X pins σ H s) (hs : Same G H) : ∀ {n m : Nat} {ds es : List D} {xs : List V}, plL n ds = true → plL m es = true → RepL X.K G ds xs → RepL X.K G es xs → ds = es
  | _, _, [], es, _, _, _, h, h' => by
    rw [h.inv0] at h'
    cases es with
    | nil => rfl
    | cons e es => obtain ⟨_, _, q, _⟩ := h'.inv; cases q
  | _, _, d :: ds, es, _, hd, he, h, h' => by
    obtain ⟨v, r, rfl, a, b⟩ := h.inv
    cases es with
    | nil => have z := h'.inv0; cases z
    | cons e es =>
      obtain ⟨v', r', q, a', b'⟩ := h'.inv
      cases q
      unfold plL at hd he
      rw [Bool.and_eq_true] at hd he
      rw [Rep.inj I hs hd.1 he.1 a a', RepL.inj I hs hd.2 he.2 b b']
end
end
end L2

set_option Elab.async false
set_option linter.all false
set_option maxRecDepth 100000
namespace L2
open PySem PySem.Spec PyProof.Rows PySem.SeqAt
section
variable {X : Cx} {E : XK} {pins : List (Addr × Obj)} {σ : St} {G H : Hp} {s : Shared}
def Eq3 (A : Around) (s : Shared) (u v : Value) (b : Bool) : Prop := EqAt A s u v b ∧ RcAt A s u v b ∧ RcNeAt A s u v (!b)
theorem vals_at {xs : List V} {us : List Value} (r : Vals xs us) {j : Nat} (h : j < us.toArray.size) : ∃ x, xs[j]? = some x ∧ RelV x us.toArray[j] := by
  have hl := r.length
  have h' : j < us.length := by simpa using h
  have hx : j < xs.length := by omega
  obtain ⟨u, hu, ru⟩ := r.get (i := j) (x := xs[j]) (by simp [hx])
  refine ⟨xs[j], by simp [hx], ?_⟩
  have e : us.toArray[j] = u := by
    have q : us[j]? = some us[j] := by simp [h']
    rw [q] at hu
    cases hu
    simp
  rw [e]; exact ru
theorem eq3_seqs {n : Nat} {ds es : List D} {xs ys : List V} {us vs : List Value} {A : Around} (rd : RepL X.K G ds xs) (re : RepL X.K G es ys) (ru : Vals xs us) (rv : Vals ys vs)
    (ih : ∀ (d e : D) (x y : V) (u v : Value), d ∈ ds → e ∈ es → Rep X.K G d x → Rep X.K G e y → RelV x u → RelV y v → EqAt A s u v (eqB d e)) :
    ∀ j (h1 : j < us.toArray.size) (h2 : j < vs.toArray.size), EqAt A s us.toArray[j] vs.toArray[j] (eqB (ds.getD j .non) (es.getD j .non)) := by
  intro j h1 h2
  obtain ⟨x, hx, rx⟩ := vals_at ru h1
  obtain ⟨y, hy, ry⟩ := vals_at rv h2
  have l1 := rd.length
  have l2 := re.length
  have jx : j < ds.length := by rw [l1]; exact (List.getElem?_eq_some_iff.mp hx).1
  have jy : j < es.length := by rw [l2]; exact (List.getElem?_eq_some_iff.mp hy).1
  have e1 : ds[j]? = some ds[j] := by simp [jx]
  have e2 : es[j]? = some es[j] := by simp [jy]
  obtain ⟨x', hx', px⟩ := rd.get e1
  obtain ⟨y', hy', py⟩ := re.get e2
  rw [hx] at hx'; cases hx'
  rw [hy] at hy'; cases hy'
  have g1 : ds.getD j .non = ds[j] := by simp [List.getD, e1]
  have g2 : es.getD j .non = es[j] := by simp [List.getD, e2]
  rw [g1, g2]
  exact ih _ _ x y _ _ (List.getElem_mem jx) (List.getElem_mem jy) px py rx ry
theorem getD_eq {ds : List D} {i : Nat} {d : D} (h : ds[i]? = some d) : ds.getD i .non = d := by simp [List.getD, h]
theorem eqBL_range {ds es : List D} {us vs : List Value} {xs ys : List V} (rd : RepL X.K G ds xs) (re : RepL X.K G es ys) (ru : Vals xs us) (rv : Vals ys vs) (hsz : us.toArray.size = vs.toArray.size) :
    (List.range us.toArray.size).all (fun j => eqB (ds.getD j .non) (es.getD j .non)) = eqBL ds es := by
  have l1 := rd.length; have l2 := re.length; have l3 := ru.length; have l4 := rv.length
  have h1 : us.length = vs.length := by simpa using hsz
  refine eqBL_all (by omega) (fun i a b ha hb => ?_) (by simp; omega)
  rw [getD_eq ha, getD_eq hb]
/-- a datum at the machine's level -/
def KVal (K : PySem.W.Frag) (G : Hp) (s : Shared) : D → Value → Prop
  | .non, u => u = .none
  | .bl b, u => u = .bool b
  | .int i, u => ∃ t, u = .int i t
  | .str x, u => ∃ t, u = .str x t
  | .lst ds, u => ∃ a its xs, u = .ref a ∧ s.heap.IsList a its.toArray ∧ RepL K G ds xs ∧ Vals xs its
  | .tup ds, u => ∃ a its xs, u = .ref a ∧ s.heap.IsTuple a its.toArray ∧ RepL K G ds xs ∧ Vals xs its
  | .ins _ _ _, _ => True
theorem kval_of (I : Inv X pins σ H s) (hs : Same G H) {d : D} {x : V} {u : Value} (rx : Rep X.K G d x) (ru : RelV x u) : KVal X.K G s d u := by
  cases d with
  | non => rw [rep_non] at rx; subst rx; exact ru
  | bl b => rw [rep_bl] at rx; subst rx; exact ru
  | int i => rw [rep_int] at rx; subst rx; exact ru
  | str i => rw [rep_str] at rx; subst rx; exact ru
  | lst l =>
    rw [rep_lst] at rx
    obtain ⟨a, xs, rfl, sq, rl⟩ := rx
    obtain ⟨its, r, p⟩ := I.isLst (hs.seq sq)
    exact ⟨a, its, xs, ru, p, rl, r⟩
  | tup l =>
    rw [rep_tup] at rx
    obtain ⟨a, xs, rfl, sq, rl⟩ := rx
    obtain ⟨its, r, p⟩ := I.isTup (hs.seqT sq)
    exact ⟨a, its, xs, ru, p, rl, r⟩
  | ins _ _ _ => trivial
theorem eqB_nf (d e : D) : eqB d e = eqB d e := rfl
theorem eq3_lists {n m : Nat} {ds es : List D} {a b : Addr} {xs ys : List V} {us vs : List Value} {A : Around} (hu : A.units < cLine) (ha : s.heap.IsList a us.toArray) (hb : s.heap.IsList b vs.toArray) (rd : RepL X.K G ds xs) (re : RepL X.K G es ys) (ru : Vals xs us) (rv : Vals ys vs)
    (same : a = b → eqBL ds es = true)
    (ih : ∀ (d e : D) (x y : V) (u v : Value), d ∈ ds → e ∈ es → Rep X.K G d x → Rep X.K G e y → RelV x u → RelV y v → EqAt A.in1 s u v (eqB d e)) : Eq3 A s (.ref a) (.ref b) (eqBL ds es) := by
  have l1 := rd.length; have l2 := re.length; have l3 := ru.length; have l4 := rv.length
  have rc : RcAt A s (.ref a) (.ref b) (eqBL ds es) ∧ RcNeAt A s (.ref a) (.ref b) (!eqBL ds es) := by
    by_cases hsz : us.toArray.size = vs.toArray.size
    · have e1 := eqBL_range rd re ru rv hsz
      rw [← e1]
      exact ⟨RcAt.lists ha hb hsz hu (eq3_seqs (n := n) rd re ru rv ih), RcNeAt.lists ha hb hsz hu (eq3_seqs (n := n) rd re ru rv ih)⟩
    · have e1 : eqBL ds es = false := eqBL_len fun z => hsz (by simp; omega)
      rw [e1]
      have hne : (us.toArray.size != vs.toArray.size) = true := by simpa using hsz
      exact ⟨RcAt.lists_lengths ha hb hne hu, RcNeAt.lists_lengths ha hb hne hu⟩
  refine ⟨?_, rc.1, rc.2⟩
  by_cases hab : a = b
  · subst hab
    rw [same rfl]
    exact EqAt.same _
  · exact EqAt.of_refs hab rc.1
theorem eq3_tuples {n m : Nat} {ds es : List D} {a b : Addr} {xs ys : List V} {us vs : List Value} {A : Around} (hu : A.units < cLine) (ha : s.heap.IsTuple a us.toArray) (hb : s.heap.IsTuple b vs.toArray) (rd : RepL X.K G ds xs) (re : RepL X.K G es ys) (ru : Vals xs us) (rv : Vals ys vs)
    (same : a = b → eqBL ds es = true)
    (ih : ∀ (d e : D) (x y : V) (u v : Value), d ∈ ds → e ∈ es → Rep X.K G d x → Rep X.K G e y → RelV x u → RelV y v → EqAt A.in1 s u v (eqB d e)) : Eq3 A s (.ref a) (.ref b) (eqBL ds es) := by
  have l1 := rd.length; have l2 := re.length; have l3 := ru.length; have l4 := rv.length
  have val : ((List.range (min us.toArray.size vs.toArray.size)).all (fun j => eqB (ds.getD j .non) (es.getD j .non)) && us.toArray.size == vs.toArray.size) = eqBL ds es := by
    by_cases hsz : us.toArray.size = vs.toArray.size
    · have e1 := eqBL_range rd re ru rv hsz
      rw [← hsz, Nat.min_self, e1]
      simp
    · have e1 : eqBL ds es = false := eqBL_len fun z => hsz (by simp; omega)
      have e2 : (us.toArray.size == vs.toArray.size) = false := by simpa using hsz
      rw [e1, e2, Bool.and_false]
  have rc : RcAt A s (.ref a) (.ref b) (eqBL ds es) ∧ RcNeAt A s (.ref a) (.ref b) (!eqBL ds es) := by
    rw [← val]
    exact ⟨RcAt.tuples ha hb hu (eq3_seqs (n := n) rd re ru rv ih), RcNeAt.tuples ha hb hu (eq3_seqs (n := n) rd re ru rv ih)⟩
  refine ⟨?_, rc.1, rc.2⟩
  by_cases hab : a = b
  · subst hab
    rw [same rfl]
    exact EqAt.same _
  · exact EqAt.of_refs hab rc.1
theorem plL_mem {n : Nat} {ds : List D} {d : D} (h : plL n ds = true) (hd : d ∈ ds) : plD n d = true := by
  obtain ⟨i, hi⟩ := List.getElem?_of_mem hd
  exact plL_get h hi
theorem eq3_D (I : Inv X pins σ H s) (hs : Same G H) : ∀ (n m : Nat) (d e : D) (x y : V) (u v : Value) (A : Around), plD n d = true → plD m e = true → Rep X.K G d x → Rep X.K G e y → RelV x u → RelV y v → A.units + n < cLine → Eq3 A s u v (eqB d e) := by
  intro n
  induction n with
  | zero =>
    intro m d e x y u v A hd he rx ry ru rv hu
    have kd := kval_of I hs rx ru
    have ke := kval_of I hs ry rv
    have hu0 : A.units < cLine := by omega
    cases d with
    | lst l => unfold plD at hd; simp at hd
    | tup l => unfold plD at hd; simp at hd
    | ins _ _ _ => unfold plD at hd; cases hd
    | non =>
      cases (show u = .none from kd)
      cases e with
      | non => cases (show v = .none from ke); unfold eqB; exact ⟨EqAt.same _, RcAt.none_none, RcNeAt.none_none⟩
      | bl b => cases (show v = .bool b from ke); unfold eqB; exact ⟨EqAt.none_bool _, RcAt.none_bool _, RcNeAt.none_bool _⟩
      | int b => obtain ⟨t, rfl⟩ := ke; unfold eqB; exact ⟨EqAt.none_int _ _, RcAt.none_int _ _, RcNeAt.none_int _ _⟩
      | str b => obtain ⟨t, rfl⟩ := ke; unfold eqB; exact ⟨EqAt.none_str _ _, RcAt.none_str _ _, RcNeAt.none_str _ _⟩
      | lst b => obtain ⟨a, its, xs, rfl, p, _⟩ := ke; unfold eqB; exact ⟨EqAt.none_list p hu0, RcAt.none_list p hu0, RcNeAt.none_list p hu0⟩
      | tup b => obtain ⟨a, its, xs, rfl, p, _⟩ := ke; unfold eqB; exact ⟨EqAt.none_tuple p hu0, RcAt.none_tuple p hu0, RcNeAt.none_tuple p hu0⟩
      | ins _ _ _ => unfold plD at he; cases he
    | bl c =>
      cases (show u = .bool c from kd)
      cases e with
      | non => cases (show v = .none from ke); unfold eqB; exact ⟨EqAt.bool_none _, RcAt.bool_none _, RcNeAt.bool_none _⟩
      | bl b => cases (show v = .bool b from ke); unfold eqB; exact ⟨EqAt.bool_bool _ _, RcAt.bool_bool _ _, RcNeAt.bool_bool _ _⟩
      | int b => obtain ⟨t, rfl⟩ := ke; unfold eqB; exact ⟨EqAt.bool_int _ _ _, RcAt.bool_int _ _ _, RcNeAt.bool_int _ _ _⟩
      | str b => obtain ⟨t, rfl⟩ := ke; unfold eqB; exact ⟨EqAt.bool_str _ _ _, RcAt.bool_str _ _ _, RcNeAt.bool_str _ _ _⟩
      | lst b => obtain ⟨a, its, xs, rfl, p, _⟩ := ke; unfold eqB; exact ⟨EqAt.bool_list _ p hu0, RcAt.bool_list _ p hu0, RcNeAt.bool_list _ p hu0⟩
      | tup b => obtain ⟨a, its, xs, rfl, p, _⟩ := ke; unfold eqB; exact ⟨EqAt.bool_tuple _ p hu0, RcAt.bool_tuple _ p hu0, RcNeAt.bool_tuple _ p hu0⟩
      | ins _ _ _ => unfold plD at he; cases he
    | int c =>
      obtain ⟨t0, rfl⟩ := kd
      cases e with
      | non => cases (show v = .none from ke); unfold eqB; exact ⟨EqAt.int_none _ _, RcAt.int_none _ _, RcNeAt.int_none _ _⟩
      | bl b => cases (show v = .bool b from ke); unfold eqB; exact ⟨EqAt.int_bool _ _ _, RcAt.int_bool _ _ _, RcNeAt.int_bool _ _ _⟩
      | int b => obtain ⟨t, rfl⟩ := ke; unfold eqB; exact ⟨EqAt.int_int _ _ _ _, RcAt.int_int _ _ _ _, RcNeAt.int_int _ _ _ _⟩
      | str b => obtain ⟨t, rfl⟩ := ke; unfold eqB; exact ⟨EqAt.int_str _ _ _ _, RcAt.int_str _ _ _ _, RcNeAt.int_str _ _ _ _⟩
      | lst b => obtain ⟨a, its, xs, rfl, p, _⟩ := ke; unfold eqB; exact ⟨EqAt.int_list _ _ p hu0, RcAt.int_list _ _ p hu0, RcNeAt.int_list _ _ p hu0⟩
      | tup b => obtain ⟨a, its, xs, rfl, p, _⟩ := ke; unfold eqB; exact ⟨EqAt.int_tuple _ _ p hu0, RcAt.int_tuple _ _ p hu0, RcNeAt.int_tuple _ _ p hu0⟩
      | ins _ _ _ => unfold plD at he; cases he
    | str c =>
      obtain ⟨t0, rfl⟩ := kd
      cases e with
      | non => cases (show v = .none from ke); unfold eqB; exact ⟨EqAt.str_none _ _, RcAt.str_none _ _, RcNeAt.str_none _ _⟩
      | bl b => cases (show v = .bool b from ke); unfold eqB; exact ⟨EqAt.str_bool _ _ _, RcAt.str_bool _ _ _, RcNeAt.str_bool _ _ _⟩
      | int b => obtain ⟨t, rfl⟩ := ke; unfold eqB; exact ⟨EqAt.str_int _ _ _ _, RcAt.str_int _ _ _ _, RcNeAt.str_int _ _ _ _⟩
      | str b => obtain ⟨t, rfl⟩ := ke; unfold eqB; exact ⟨EqAt.str_str _ _ _ _, RcAt.str_str _ _ _ _, RcNeAt.str_str _ _ _ _⟩
      | lst b => obtain ⟨a, its, xs, rfl, p, _⟩ := ke; unfold eqB; exact ⟨EqAt.str_list _ _ p hu0, RcAt.str_list _ _ p hu0, RcNeAt.str_list _ _ p hu0⟩
      | tup b => obtain ⟨a, its, xs, rfl, p, _⟩ := ke; unfold eqB; exact ⟨EqAt.str_tuple _ _ p hu0, RcAt.str_tuple _ _ p hu0, RcNeAt.str_tuple _ _ p hu0⟩
      | ins _ _ _ => unfold plD at he; cases he
  | succ n ih =>
    intro m d e x y u v A hd he rx ry ru rv hu
    have kd := kval_of I hs rx ru
    have ke := kval_of I hs ry rv
    have hu0 : A.units < cLine := by omega
    have hu1 : A.in1.units + n < cLine := by show A.units + 1 + n < cLine; omega
    have low : ∀ (c : D), plD (n + 1) c = true → (match c with | .lst _ => False | .tup _ => False | _ => True) → plD n c = true := fun c h hc => by cases c <;> first | exact hc.elim | (unfold plD at h ⊢; exact h)
    cases d with
    | lst l =>
      obtain ⟨a, us, xs, rfl, pa, rl, r1⟩ := kd
      have hd' := hd
      unfold plD at hd'; rw [Bool.and_eq_true] at hd'
      cases e with
      | non => cases (show v = .none from ke); unfold eqB; exact ⟨EqAt.list_none pa hu0, RcAt.list_none pa hu0, RcNeAt.list_none pa hu0⟩
      | bl b => cases (show v = .bool b from ke); unfold eqB; exact ⟨EqAt.list_bool _ pa hu0, RcAt.list_bool _ pa hu0, RcNeAt.list_bool _ pa hu0⟩
      | int b => obtain ⟨t, rfl⟩ := ke; unfold eqB; exact ⟨EqAt.list_int _ _ pa hu0, RcAt.list_int _ _ pa hu0, RcNeAt.list_int _ _ pa hu0⟩
      | str b => obtain ⟨t, rfl⟩ := ke; unfold eqB; exact ⟨EqAt.list_str _ _ pa hu0, RcAt.list_str _ _ pa hu0, RcNeAt.list_str _ _ pa hu0⟩
      | lst l2 =>
        obtain ⟨b, vs, ys, rfl, pb, rl2, r2⟩ := ke
        have he' := he
        unfold plD at he'; rw [Bool.and_eq_true] at he'
        unfold eqB
        refine eq3_lists (X := X) (n := n) (m := m) hu0 pa pb rl rl2 r1 r2 (fun hab => ?_) fun d' e' x' y' u' v' hm1 hm2 q1 q2 q3 q4 => (ih (m - 1) d' e' x' y' u' v' A.in1 (plL_mem hd'.2 hm1) (plL_mem he'.2 hm2) q1 q2 q3 q4 hu1).1
        subst hab
        have ex : x = .ref a := by rw [rep_lst] at rx; obtain ⟨a', _, rfl, _⟩ := rx; cases ru; rfl
        have ey : y = .ref a := by rw [rep_lst] at ry; obtain ⟨a', _, rfl, _⟩ := ry; cases rv; rfl
        subst ex ey
        have z := Rep.inj I hs hd he rx ry
        cases z
        exact eqBL_refl hd'.2
      | tup l2 =>
        obtain ⟨b, vs, ys, rfl, pb, rl2, r2⟩ := ke
        unfold eqB
        exact ⟨EqAt.list_tuple pa pb hu0, RcAt.list_tuple pa pb hu0, RcNeAt.list_tuple pa pb hu0⟩
      | ins _ _ _ => unfold plD at he; cases he
    | tup l =>
      obtain ⟨a, us, xs, rfl, pa, rl, r1⟩ := kd
      have hd' := hd
      unfold plD at hd'; rw [Bool.and_eq_true] at hd'
      cases e with
      | non => cases (show v = .none from ke); unfold eqB; exact ⟨EqAt.tuple_none pa hu0, RcAt.tuple_none pa hu0, RcNeAt.tuple_none pa hu0⟩
      | bl b => cases (show v = .bool b from ke); unfold eqB; exact ⟨EqAt.tuple_bool _ pa hu0, RcAt.tuple_bool _ pa hu0, RcNeAt.tuple_bool _ pa hu0⟩
      | int b => obtain ⟨t, rfl⟩ := ke; unfold eqB; exact ⟨EqAt.tuple_int _ _ pa hu0, RcAt.tuple_int _ _ pa hu0, RcNeAt.tuple_int _ _ pa hu0⟩
      | str b => obtain ⟨t, rfl⟩ := ke; unfold eqB; exact ⟨EqAt.tuple_str _ _ pa hu0, RcAt.tuple_str _ _ pa hu0, RcNeAt.tuple_str _ _ pa hu0⟩
      | tup l2 =>
        obtain ⟨b, vs, ys, rfl, pb, rl2, r2⟩ := ke
        have he' := he
        unfold plD at he'; rw [Bool.and_eq_true] at he'
        unfold eqB
        refine eq3_tuples (X := X) (n := n) (m := m) hu0 pa pb rl rl2 r1 r2 (fun hab => ?_) fun d' e' x' y' u' v' hm1 hm2 q1 q2 q3 q4 => (ih (m - 1) d' e' x' y' u' v' A.in1 (plL_mem hd'.2 hm1) (plL_mem he'.2 hm2) q1 q2 q3 q4 hu1).1
        subst hab
        have ex : x = .ref a := by rw [rep_tup] at rx; obtain ⟨a', _, rfl, _⟩ := rx; cases ru; rfl
        have ey : y = .ref a := by rw [rep_tup] at ry; obtain ⟨a', _, rfl, _⟩ := ry; cases rv; rfl
        subst ex ey
        have z := Rep.inj I hs hd he rx ry
        cases z
        exact eqBL_refl hd'.2
      | lst l2 =>
        obtain ⟨b, vs, ys, rfl, pb, rl2, r2⟩ := ke
        unfold eqB
        exact ⟨EqAt.tuple_list pa pb hu0, RcAt.tuple_list pa pb hu0, RcNeAt.tuple_list pa pb hu0⟩
      | ins _ _ _ => unfold plD at he; cases he
    | ins _ _ _ => unfold plD at hd; cases hd
    | non => exact ih m _ e x y u v A (low _ hd trivial) he rx ry ru rv (by omega)
    | bl c => exact ih m _ e x y u v A (low _ hd trivial) he rx ry ru rv (by omega)
    | int c => exact ih m _ e x y u v A (low _ hd trivial) he rx ry ru rv (by omega)
    | str c => exact ih m _ e x y u v A (low _ hd trivial) he rx ry ru rv (by omega)
/-! the operators -/
def eqO (d e : D) : Res D := if plD 20 d = true ∧ plD 20 e = true then .ok (.bl (eqB d e)) else .bad
def neO (d e : D) : Res D := if plD 20 d = true ∧ plD 20 e = true then .ok (.bl (!eqB d e)) else .bad
theorem do_eq (hu : X.A.units + 64 < cLine) : DOp X E (compareOp .Eq) eqO := by
  intro pins s σ G H x y dx dy v u I hs rx ry rv ru ok
  unfold eqO at ok ⊢
  by_cases h : plD 20 dx = true ∧ plD 20 dy = true
  · rw [if_pos h]
    exact (eq3_D I hs 20 20 dx dy x y v u X.A h.1 h.2 rx ry rv ru (by omega)).2.1 _ _ _ _ ⟨_, rfl, .bl (eqB dx dy), G, H, I, rfl, .refl hs, rep_bl.mpr rfl⟩
  · rw [if_neg h] at ok; exact ok.elim
theorem do_ne (hu : X.A.units + 64 < cLine) : DOp X E (compareOp .NotEq) neO := by
  intro pins s σ G H x y dx dy v u I hs rx ry rv ru ok
  unfold neO at ok ⊢
  by_cases h : plD 20 dx = true ∧ plD 20 dy = true
  · rw [if_pos h]
    exact (eq3_D I hs 20 20 dx dy x y v u X.A h.1 h.2 rx ry rv ru (by omega)).2.2 _ _ _ _ ⟨_, rfl, .bl (!eqB dx dy), G, H, I, rfl, .refl hs, rep_bl.mpr rfl⟩
  · rw [if_neg h] at ok; exact ok.elim
end
end L2

set_option Elab.async false
set_option linter.all false
set_option maxRecDepth 100000
namespace L2
open PySem PySem.Spec PyProof.Rows PySem.SeqAt
section
variable {X : Cx} {E : XK} {pins : List (Addr × Obj)} {σ : St} {G H : Hp} {s : Shared}
/-! ### in -/
open Classical in
noncomputable def inE (K : PySem.W.Frag) (G : Hp) (ds : List D) (dx : D) (u : Value) : Bool := decide (∃ d x, d ∈ ds ∧ Rep K G d x ∧ RelV x u ∧ eqB d dx = true)
theorem inE_at (I : Inv X pins σ H s) (hs : Same G H) {ds : List D} {dx d : D} {x : V} {u : Value} (hp : plL 19 ds = true) (hd : d ∈ ds) (rx : Rep X.K G d x) (ru : RelV x u) : inE X.K G ds dx u = eqB d dx := by
  unfold inE
  cases e : eqB d dx with
  | true => exact @decide_eq_true _ (Classical.propDecidable _) ⟨d, x, hd, rx, ru, e⟩
  | false =>
    refine @decide_eq_false _ (Classical.propDecidable _) fun ⟨d', x', hd', rx', ru', e'⟩ => ?_
    have hx : x' = x := RelV.inj ru' ru
    subst hx
    rw [Rep.inj I hs (plL_mem hp hd') (plL_mem hp hd) rx' rx, e] at e'
    cases e'
theorem any_paired {ds : List D} {xs : List V} {us : List Value} {f : Value → Bool} {g : D → Bool} : RepL X.K G ds xs → Vals xs us → (∀ d x u, d ∈ ds → Rep X.K G d x → RelV x u → f u = g d) → us.any f = ds.any g := by
  intro rd
  induction ds generalizing xs us with
  | nil => intro r _; rw [rd.inv0] at r; cases r; rfl
  | cons d ds ih =>
    intro r h
    obtain ⟨v, q, rfl, a, b⟩ := rd.inv
    cases r with
    | cons r1 r2 =>
      rw [List.any_cons, List.any_cons, h d v _ List.mem_cons_self a r1, ih b r2 fun d' x' u' hm => h d' x' u' (List.mem_cons_of_mem _ hm)]
def inO (neg : Bool) (d e : D) : Res D := match e with
  | .lst l => if plL 19 l = true ∧ plD 19 d = true then .ok (.bl (if neg then !(l.any fun y => eqB y d) else l.any fun y => eqB y d)) else .bad
  | .tup l => if plL 19 l = true ∧ plD 19 d = true then .ok (.bl (if neg then !(l.any fun y => eqB y d) else l.any fun y => eqB y d)) else .bad
  | _ => .bad
theorem mem_val {ds : List D} {xs : List V} {us : List Value} {u : Value} (rd : RepL X.K G ds xs) (r : Vals xs us) (hu : u ∈ us) : ∃ d x, d ∈ ds ∧ Rep X.K G d x ∧ RelV x u := by
  induction ds generalizing xs us with
  | nil => rw [rd.inv0] at r; cases r; cases hu
  | cons d ds ih =>
    obtain ⟨v, q, rfl, a, b⟩ := rd.inv
    cases r with
    | cons r1 r2 =>
      rcases List.mem_cons.mp hu with rfl | hu
      · exact ⟨d, v, List.mem_cons_self, a, r1⟩
      · obtain ⟨d', x', h1, h2, h3⟩ := ih b r2 hu
        exact ⟨d', x', List.mem_cons_of_mem _ h1, h2, h3⟩
theorem do_in (hu : X.A.units + 64 < cLine) : DOp X E (compareOp .In) (inO false) := by
  intro pins s σ G H x y dx dy v u I hs rx ry rv ru ok
  unfold inO at ok ⊢
  cases dy with
  | lst l =>
    dsimp only at ok ⊢
    by_cases h : plL 19 l = true ∧ plD 19 dx = true
    · rw [if_pos h]
      rw [rep_lst] at ry
      obtain ⟨a, xs, rfl, sq, rl⟩ := ry
      cases (show u = .ref a from ru)
      obtain ⟨its, r, p⟩ := I.isLst (hs.seq sq)
      refine in_listAt (inE X.K G l dx) p (fun w hw => ?_) ?_
      · obtain ⟨d, z, h1, h2, h3⟩ := mem_val rl r (by simpa using hw)
        rw [inE_at I hs h.1 h1 h2 h3]
        exact (eq3_D I hs 19 19 d dx z x w v X.A.in1 (plL_mem h.1 h1) h.2 h2 rx h3 rv (by show X.A.units + 1 + 19 < cLine; omega)).1
      · have e1 : its.toArray.any (inE X.K G l dx) = l.any fun y => eqB y dx := by
          rw [List.any_toArray]
          exact any_paired rl r fun d z w hm h2 h3 => inE_at I hs h.1 hm h2 h3
        rw [e1]
        exact ⟨_, rfl, .bl (l.any fun y => eqB y dx), G, H, I, rfl, .refl hs, rep_bl.mpr rfl⟩
    · rw [if_neg h] at ok; exact ok.elim
  | tup l =>
    dsimp only at ok ⊢
    by_cases h : plL 19 l = true ∧ plD 19 dx = true
    · rw [if_pos h]
      rw [rep_tup] at ry
      obtain ⟨a, xs, rfl, sq, rl⟩ := ry
      cases (show u = .ref a from ru)
      obtain ⟨its, r, p⟩ := I.isTup (hs.seqT sq)
      refine in_tupleAt (inE X.K G l dx) p (fun w hw => ?_) ?_
      · obtain ⟨d, z, h1, h2, h3⟩ := mem_val rl r (by simpa using hw)
        rw [inE_at I hs h.1 h1 h2 h3]
        exact (eq3_D I hs 19 19 d dx z x w v X.A.in1 (plL_mem h.1 h1) h.2 h2 rx h3 rv (by show X.A.units + 1 + 19 < cLine; omega)).1
      · have e1 : its.toArray.any (inE X.K G l dx) = l.any fun y => eqB y dx := by
          rw [List.any_toArray]
          exact any_paired rl r fun d z w hm h2 h3 => inE_at I hs h.1 hm h2 h3
        rw [e1]
        exact ⟨_, rfl, .bl (l.any fun y => eqB y dx), G, H, I, rfl, .refl hs, rep_bl.mpr rfl⟩
    · rw [if_neg h] at ok; exact ok.elim
  | _ => exact ok.elim
theorem do_notIn (hu : X.A.units + 64 < cLine) : DOp X E (compareOp .NotIn) (inO true) := by
  intro pins s σ G H x y dx dy v u I hs rx ry rv ru ok
  unfold inO at ok ⊢
  cases dy with
  | lst l =>
    dsimp only at ok ⊢
    by_cases h : plL 19 l = true ∧ plD 19 dx = true
    · rw [if_pos h]
      rw [rep_lst] at ry
      obtain ⟨a, xs, rfl, sq, rl⟩ := ry
      cases (show u = .ref a from ru)
      obtain ⟨its, r, p⟩ := I.isLst (hs.seq sq)
      refine notIn_listAt (inE X.K G l dx) p (fun w hw => ?_) ?_
      · obtain ⟨d, z, h1, h2, h3⟩ := mem_val rl r (by simpa using hw)
        rw [inE_at I hs h.1 h1 h2 h3]
        exact (eq3_D I hs 19 19 d dx z x w v X.A.in1 (plL_mem h.1 h1) h.2 h2 rx h3 rv (by show X.A.units + 1 + 19 < cLine; omega)).1
      · have e1 : its.toArray.any (inE X.K G l dx) = l.any fun y => eqB y dx := by
          rw [List.any_toArray]
          exact any_paired rl r fun d z w hm h2 h3 => inE_at I hs h.1 hm h2 h3
        rw [e1]
        exact ⟨_, rfl, .bl (!(l.any fun y => eqB y dx)), G, H, I, rfl, .refl hs, rep_bl.mpr rfl⟩
    · rw [if_neg h] at ok; exact ok.elim
  | tup l =>
    dsimp only at ok ⊢
    by_cases h : plL 19 l = true ∧ plD 19 dx = true
    · rw [if_pos h]
      rw [rep_tup] at ry
      obtain ⟨a, xs, rfl, sq, rl⟩ := ry
      cases (show u = .ref a from ru)
      obtain ⟨its, r, p⟩ := I.isTup (hs.seqT sq)
      refine notIn_tupleAt (inE X.K G l dx) p (fun w hw => ?_) ?_
      · obtain ⟨d, z, h1, h2, h3⟩ := mem_val rl r (by simpa using hw)
        rw [inE_at I hs h.1 h1 h2 h3]
        exact (eq3_D I hs 19 19 d dx z x w v X.A.in1 (plL_mem h.1 h1) h.2 h2 rx h3 rv (by show X.A.units + 1 + 19 < cLine; omega)).1
      · have e1 : its.toArray.any (inE X.K G l dx) = l.any fun y => eqB y dx := by
          rw [List.any_toArray]
          exact any_paired rl r fun d z w hm h2 h3 => inE_at I hs h.1 hm h2 h3
        rw [e1]
        exact ⟨_, rfl, .bl (!(l.any fun y => eqB y dx)), G, H, I, rfl, .refl hs, rep_bl.mpr rfl⟩
    · rw [if_neg h] at ok; exact ok.elim
  | _ => exact ok.elim

/-! ### isinstance -/
def tyD : D → Option Value
  | .non => some (.type "NoneType")
  | .bl _ => some (.type "bool")
  | .int _ => some (.type "int")
  | .str _ => some (.type "str")
  | .lst _ => some (.type "list")
  | .tup _ => some (.type "tuple")
  | .ins _ _ _ => none
def isiD (K : PySem.W.Frag) (c : Value) (d : D) : Res D := match tyD d with
  | some t => match PySem.W.kitOne K t c with | some b => .ok (.bl b) | none => .bad
  | none => .bad
theorem isi_call {A : Around} {u : Value} {c : Value} {d : D} {x : V} {b : Bool} {t : Value} {Q : Value → Shared → Prop} {E' : Value → Shared → Prop} (I : Inv X pins σ H s) (hs : Same G H) (rx : Rep X.K G d x) (ru : RelV x u) (ht : tyD d = some t) (e : PySem.W.kitOne X.K t c = some b) (h : ∀ tk, Q (.bool b) { s with toks := tk }) :
    wpAny (model X.prog X.w) A (call (.builtin "isinstance") [u, c]) Q E' s := by
  have kv := kval_of I hs rx ru
  cases d with
  | non => cases ht; cases (show u = .none from kv); exact PySem.W.kia_one PySem.W.kitx_none I.kIn True.intro e (fun z => nomatch z) h
  | bl y => cases ht; cases (show u = .bool y from kv); exact PySem.W.kia_one PySem.W.kitx_bool I.kIn True.intro e (fun z => nomatch z) h
  | int i => cases ht; obtain ⟨t, rfl⟩ := kv; exact PySem.W.kia_one PySem.W.kitx_int I.kIn True.intro e (fun z => nomatch z) h
  | str i => cases ht; obtain ⟨t, rfl⟩ := kv; exact PySem.W.kia_one PySem.W.kitx_str I.kIn True.intro e (fun z => nomatch z) h
  | lst l =>
    cases ht
    obtain ⟨a, its, xs, rfl, ⟨o, h1, h2, _⟩, _⟩ := kv
    exact PySem.W.kia_one PySem.W.kitx_list I.kIn ⟨o, h1, h2⟩ e (fun z => nomatch z) h
  | tup l =>
    cases ht
    obtain ⟨a, its, xs, rfl, ⟨o, h1, h2, _⟩, _⟩ := kv
    exact PySem.W.kia_one PySem.W.kitx_tuple I.kIn ⟨o, h1, h2⟩ e (fun z => nomatch z) h
  | ins _ _ _ => cases ht
/-- isinstance(a, c): c a class by its name -/
theorem pd_isi {a c : Expr} {p pos : Pos} {fa : DS → Res D} {vc : V} (ha : PD X E a fa) (hcl : PE X c (tC vc)) (hvc : cV vc ≠ .none) (hg : Gl X "isinstance") (hm : X.mg "isinstance" = none)
    (hs1 : starEach [a, c] X.env = (false, eval a X.env) :: starEach [c] X.env := by rfl) (hs2 : starEach [c] X.env = (false, eval c X.env) :: starEach [] X.env := by rfl) (hpl : (backTo pos (starEach [c] X.env)).any (·.1) = false := by rfl) :
    PD X E (.Call (.Name "isinstance" p) [a, c] [] pos) (fun ρ => (fa ρ).bind (isiD X.K (cV vc))) := by
  intro pins s σ G H ρ I hs hro ho
  have hp : PA X [a, c] (tCons (tD X.K E fa) (tCons (tC vc) tNil)) := pa_cons (pe_d ha) (pa_cons hcl pa_nil hs2) hs1
  refine wpAny_Call_Name_kw (ld_blt I hg hm PyProof.Rows.boot_isinstance ?_ (by decide) (by decide))
  refine PyProof.Rows.callWith_builtin1 (thn (hp pos pins s σ H (fun vs H' => ∃ d x G', fa ρ = .ok d ∧ vs = [x, vc] ∧ Ext G H G' H' ∧ Rep X.K G' d x) I ?_) fun us s1 ⟨vs, H1, I1, r1, d, x, G1, e1, e2, x1, rp⟩ => ?_) hs1 hpl
  · exact ⟨G, ρ, hs, hro, ho.fst, fun d e v G1 H1 x1 rp => ⟨d, v, G1, e, rfl, x1, rp⟩⟩
  · subst e2
    obtain ⟨u1, u2, rfl, q1, q2⟩ := vals2 r1
    rw [cV_rel q2 hvc]
    have k := ho.snd e1 x1.hh
    unfold isiD at k
    cases ht : tyD d with
    | none => rw [ht] at k; exact k.elim
    | some t =>
      rw [ht] at k
      dsimp only at k
      cases hk : PySem.W.kitOne X.K t (cV vc) with
      | none => rw [hk] at k; exact k.elim
      | some b => exact isi_call I1 x1.gh rp q1 ht hk fun tk => ⟨.bl b, bind_ok e1 (by unfold isiD; rw [ht]; dsimp only; rw [hk]), .bl b, G1, H1, I1.tok tk, rfl, x1, rep_bl.mpr rfl⟩
end
end L2

set_option Elab.async false
set_option linter.all false
set_option maxRecDepth 100000
namespace L2
open PySem PySem.Spec PyProof.Rows

/-! ### what a loop walks, as data -/
/-- J yields the data ds, one after the other, at every heap that still bears G -/
def Src (K : PySem.W.Frag) (J : It) (ds : List D) (G : Hp) : Prop := ∀ (G2 H2 : Hp), Same G G2 → Same G2 H2 → ∀ (i : Nat),
  (∀ d, ds[i]? = some d → J.go i H2 ∧ ∀ x H', J.yld i H2 x H' → ∃ G', Ext G2 H2 G' H' ∧ Rep K G' d x) ∧ (ds.length ≤ i → J.stop i H2)
def tDI (K : PySem.W.Frag) (E : XK) (fi : DS → Res (List D)) : TI := fun σ H R => ∃ G ρ, Same G H ∧ Ro K G σ ρ ∧ OkR E H (fi ρ) ∧ ∀ ds, fi ρ = .ok ds → ∀ J G' H', Ext G H G' H' → Src K J ds G' → R J H'
section
variable {X : Cx} {E : XK} {tg : Expr}
def seqD : D → Res (List D)
  | .lst l => .ok l
  | _ => .bad
def tupS : D → Res (List D)
  | .tup l => .ok l
  | _ => .bad
theorem src_list {K : PySem.W.Frag} {G : Hp} {a : Addr} {xs : List V} {ds : List D} (sq : SqL K G a xs) (rl : RepL K G ds xs) : Src K (Itl K a) ds G := by
  intro G2 H2 g1 g2 i
  have sq2 : SqL K H2 a xs := g2.seq (g1.seq sq)
  refine ⟨fun d hd => ?_, fun hl => ⟨xs, sq2, by rw [← rl.length]; exact hl⟩⟩
  obtain ⟨v, hv, rv⟩ := rl.get hd
  refine ⟨⟨xs, v, sq2, hv⟩, fun y H' ⟨e, h⟩ => ?_⟩
  subst e
  have q := h xs sq2
  rw [hv] at q; cases q
  exact ⟨G2, .refl g2, rv.mono g1⟩
theorem src_tup {K : PySem.W.Frag} {G : Hp} {a : Addr} {xs : List V} {ds : List D} (sq : SqT K G a xs) (rl : RepL K G ds xs) : Src K (Itt K a) ds G := by
  intro G2 H2 g1 g2 i
  have sq2 : SqT K H2 a xs := g2.seqT (g1.seqT sq)
  refine ⟨fun d hd => ?_, fun hl => ⟨xs, sq2, by rw [← rl.length]; exact hl⟩⟩
  obtain ⟨v, hv, rv⟩ := rl.get hd
  refine ⟨⟨xs, v, sq2, hv⟩, fun y H' ⟨e, h⟩ => ?_⟩
  subst e
  have q := h xs sq2
  rw [hv] at q; cases q
  exact ⟨G2, .refl g2, rv.mono g1⟩
def rngD (lo : Int) (n : Nat) : List D := (List.range n).map fun (i : Nat) => D.int (lo + (i : Int))
theorem src_range {K : PySem.W.Frag} {G : Hp} (lo : Int) (n : Nat) : Src K (Itr lo n) (rngD lo n) G := by
  intro G2 H2 g1 g2 i
  refine ⟨fun d hd => ?_, fun hl => (show n ≤ i by simpa [rngD] using hl)⟩
  unfold rngD at hd
  rw [List.getElem?_map] at hd
  cases e : (List.range n)[i]? with
  | none => rw [e] at hd; cases hd
  | some j =>
    rw [e] at hd
    obtain ⟨hj, rfl⟩ := List.getElem?_eq_some_iff.mp e
    cases hd
    have hi : i < n := by simpa using hj
    refine ⟨hi, fun y H' ⟨e1, e2⟩ => ?_⟩
    subst e1 e2
    refine ⟨G2, .refl g2, rep_int.mpr ?_⟩
    rw [List.getElem_range]
theorem pi_dlist {e : Expr} {f : DS → Res D} (h : PD X E e f) : PI X tg e (tDI X.K E (fun ρ => (f ρ).bind seqD)) := by
  intro pins s σ H R I ⟨G, ρ, hs, hro, ho, k⟩
  refine pi_list (pe_d h) pins s σ H R I ⟨G, ρ, hs, hro, ho.fst, fun d e v G1 H1 x1 p1 => ?_⟩
  have kk := ho.snd e x1.hh
  cases d with
  | lst l =>
    rw [rep_lst] at p1
    obtain ⟨a, xs, rfl, sq, rl⟩ := p1
    exact ⟨a, rfl, ⟨xs, x1.gh.seq sq⟩, k l (bind_ok e rfl) (Itl X.K a) G1 H1 x1 (src_list sq rl)⟩
  | _ => exact kk.elim
theorem pi_dtup {e : Expr} {f : DS → Res D} (h : PD X E e f) : PI X tg e (tDI X.K E (fun ρ => (f ρ).bind tupS)) := by
  intro pins s σ H R I ⟨G, ρ, hs, hro, ho, k⟩
  refine pi_tup (pe_d h) pins s σ H R I ⟨G, ρ, hs, hro, ho.fst, fun d e v G1 H1 x1 p1 => ?_⟩
  have kk := ho.snd e x1.hh
  cases d with
  | tup l =>
    rw [rep_tup] at p1
    obtain ⟨a, xs, rfl, sq, rl⟩ := p1
    exact ⟨a, rfl, ⟨xs, x1.gh.seqT sq⟩, k l (bind_ok e rfl) (Itt X.K a) G1 H1 x1 (src_tup sq rl)⟩
  | _ => exact kk.elim
def smallI (i : Int) : Bool := decide (-(2 ^ 62) ≤ i) && decide (i < 2 ^ 62)
def rng1 : List D → Res (List D)
  | [.int j] => if smallI j = true then .ok (rngD 0 j.toNat) else .bad
  | _ => .bad
def rng2 : List D → Res (List D)
  | [.int i, .int j] => if (smallI i && smallI j) = true then .ok (rngD i (j - i).toNat) else .bad
  | _ => .bad
theorem pi_drange1 {a : Expr} {p pos : Pos} {fs : DS → Res (List D)} (hg : Gl X "range") (hm : X.mg "range" = none) (ha : PDA X E [a] fs) (hs : starEach [a] X.env = [(false, eval a X.env)] := by rfl) : PI X tg (.Call (.Name "range" p) [a] [] pos) (tDI X.K E (fun ρ => (fs ρ).bind rng1)) := by
  intro pins s σ H R I ⟨G, ρ, hsm, hro, ho, k⟩
  refine pi_range1 hg hm (pa_d ha) hs pins s σ H R I ⟨G, ρ, hsm, hro, ho.fst, fun ds e vs G1 H1 x1 p1 => ?_⟩
  have kk := ho.snd e x1.hh
  unfold rng1 at kk
  split at kk
  · rename_i j
    obtain ⟨v, r, rfl, rv, r0⟩ := p1.inv
    rw [r0.inv0]
    rw [rep_int] at rv; subst rv
    by_cases hj : smallI j = true
    · have hj' := hj
      unfold smallI at hj'
      rw [Bool.and_eq_true] at hj'
      exact ⟨j, rfl, of_decide_eq_true hj'.1, of_decide_eq_true hj'.2, k _ (bind_ok e (if_pos hj)) _ G1 H1 x1 (src_range 0 j.toNat)⟩
    · rw [if_neg hj] at kk; exact kk.elim
  · exact kk.elim
theorem pi_drange2 {a b : Expr} {p pos : Pos} {fs : DS → Res (List D)} (hg : Gl X "range") (hm : X.mg "range" = none) (ha : PDA X E [a, b] fs) (hs : starEach [a, b] X.env = [(false, eval a X.env), (false, eval b X.env)] := by rfl) (hs2 : starEach [b] X.env = [(false, eval b X.env)] := by rfl) : PI X tg (.Call (.Name "range" p) [a, b] [] pos) (tDI X.K E (fun ρ => (fs ρ).bind rng2)) := by
  intro pins s σ H R I ⟨G, ρ, hsm, hro, ho, k⟩
  refine pi_range2 hg hm (pa_d ha) hs hs2 pins s σ H R I ⟨G, ρ, hsm, hro, ho.fst, fun ds e vs G1 H1 x1 p1 => ?_⟩
  have kk := ho.snd e x1.hh
  unfold rng2 at kk
  split at kk
  · rename_i i j
    obtain ⟨v, r, rfl, rv, r0⟩ := p1.inv
    obtain ⟨v2, r2, rfl, rv2, r02⟩ := r0.inv
    rw [r02.inv0]
    rw [rep_int] at rv rv2; subst rv rv2
    by_cases hj : (smallI i && smallI j) = true
    · have hj' := hj
      unfold smallI at hj'
      rw [Bool.and_eq_true, Bool.and_eq_true, Bool.and_eq_true] at hj'
      exact ⟨i, j, rfl, ⟨of_decide_eq_true hj'.1.1, of_decide_eq_true hj'.1.2, of_decide_eq_true hj'.2.1, of_decide_eq_true hj'.2.2⟩, k _ (bind_ok e (if_pos hj)) _ G1 H1 x1 (src_range i (j - i).toNat)⟩
    · rw [if_neg hj] at kk; exact kk.elim
  · exact kk.elim

/-! ### a comprehension upon data -/
def fmapB (t : D → Res Bool) (f : D → Res D) : List D → Res (List D)
  | [] => .ok []
  | d :: ds => match t d with
    | .ok true => (match f d with
      | .ok e => (fmapB t f ds).bind fun es => .ok (e :: es)
      | _ => .bad)
    | .ok false => fmapB t f ds
    | _ => .bad
theorem fmapB_app {t : D → Res Bool} {f : D → Res D} : ∀ {as bs es : List D}, fmapB t f (as ++ bs) = .ok es → ∃ e1 e2, fmapB t f as = .ok e1 ∧ fmapB t f bs = .ok e2 ∧ es = e1 ++ e2
  | [], bs, es, h => ⟨[], es, rfl, h, rfl⟩
  | a :: as, bs, es, h => by
    rw [List.cons_append] at h
    unfold fmapB at h
    cases ht : t a with
    | bad => rw [ht] at h; cases h
    | exc c => rw [ht] at h; cases h
    | ok b =>
      rw [ht] at h
      cases b with
      | false =>
        obtain ⟨e1, e2, h1, h2, h3⟩ := fmapB_app h
        exact ⟨e1, e2, by unfold fmapB; rw [ht]; exact h1, h2, h3⟩
      | true =>
        cases hf : f a with
        | bad => rw [hf] at h; cases h
        | exc c => rw [hf] at h; cases h
        | ok e =>
          rw [hf] at h
          dsimp only at h
          cases hr : fmapB t f (as ++ bs) with
          | bad => rw [hr] at h; cases h
          | exc c => rw [hr] at h; cases h
          | ok es' =>
            rw [hr] at h
            have h' : Res.ok (e :: es') = Res.ok es := h
            cases h'
            obtain ⟨e1, e2, h1, h2, h3⟩ := fmapB_app hr
            subst h3
            exact ⟨e :: e1, e2, by unfold fmapB; rw [ht, hf]; dsimp only; rw [h1]; rfl, h2, rfl⟩
theorem fmapB_len {t : D → Res Bool} {f : D → Res D} : ∀ {as es : List D}, fmapB t f as = .ok es → es.length ≤ as.length
  | [], es, h => by unfold fmapB at h; cases h; exact Nat.le_refl _
  | a :: as, es, h => by
    unfold fmapB at h
    cases ht : t a with
    | bad => rw [ht] at h; cases h
    | exc c => rw [ht] at h; cases h
    | ok b =>
      rw [ht] at h
      cases b with
      | false => exact Nat.le_succ_of_le (fmapB_len h)
      | true =>
        cases hf : f a with
        | bad => rw [hf] at h; cases h
        | exc c => rw [hf] at h; cases h
        | ok e =>
          rw [hf] at h
          dsimp only at h
          cases hr : fmapB t f as with
          | bad => rw [hr] at h; cases h
          | exc c => rw [hr] at h; cases h
          | ok es' =>
            rw [hr] at h
            have h' : Res.ok (e :: es') = Res.ok es := h
            cases h'
            have := fmapB_len hr
            rw [List.length_cons, List.length_cons]; omega
def capD (caps : List (Option Nat)) (ρ : DS) : DS := caps.map fun o => o.bind fun k => (ρ[k]?).join
theorem capD_ro {K : PySem.W.Frag} {G : Hp} {σ : St} {ρ : DS} {caps : List (Option Nat)} (h : Ro K G σ ρ) : Ro K G (capSt caps σ) (capD caps ρ) := by
  intro i d e
  unfold capD at e
  rw [List.getElem?_map] at e
  unfold capSt
  rw [List.getElem?_map]
  cases q : caps[i]? with
  | none => rw [q] at e; cases e
  | some o =>
    rw [q] at e
    cases o with
    | none => simp at e
    | some k =>
      simp only [Option.map_some, Option.bind_some, Option.some.injEq] at e ⊢
      cases q2 : ρ[k]? with
      | none => rw [q2] at e; simp at e
      | some o2 =>
        rw [q2] at e
        simp at e
        subst e
        obtain ⟨v, hv, rv⟩ := h k d q2
        exact ⟨v, by rw [hv]; rfl, rv⟩
theorem Ro.set {K : PySem.W.Frag} {G : Hp} {σ : St} {ρ : DS} {j : Nat} {v : V} {d : D} (h : Ro K G σ ρ) (hj : j < σ.length) (r : Rep K G d v) : Ro K G (σ.set j (some v)) (ρ.set j (some d)) := by
  intro i e q
  by_cases hi : i = j
  · subst hi
    by_cases hl : i < ρ.length
    · rw [List.getElem?_set_self hl] at q
      cases q
      exact ⟨v, List.getElem?_set_self hj, r⟩
    · rw [List.getElem?_eq_none (by simpa using hl)] at q
      cases q
  · rw [List.getElem?_set_ne (Ne.symm hi)] at q ⊢
    exact h i e q
abbrev E00 : XK := fun _ _ _ => False
/-- the tests of the clause -/
def PDIf (X : Cx) (E : XK) (ifs : List Expr) (f : DS → Res Bool) : Prop := PIf X ifs (tDT X.K E f)
theorem pdif_nil : PDIf X E [] (fun _ => .ok true) := fun pins s σ H Q I ⟨G, ρ, hs, hr, ho, k⟩ => pif_nil pins s σ H Q I (k true rfl G H (.refl hs))
theorem pdif_one {c : Expr} {f : DS → Res Bool} (h : PDT X E c f) : PDIf X E [c] f := pif_one (pt_d h)
def compR (fi : DS → Res (List D)) (caps : List (Option Nat)) (j : Nat) (ft : DS → Res Bool) (fe : DS → Res D) : DS → Res D := fun ρ => (fi ρ).bind fun ds => if lenOk ds.length = true then
  (fmapB (fun d => ft ((capD caps ρ).set j (some d))) (fun d => fe ((capD caps ρ).set j (some d))) ds).bind fun es => .ok (.lst es) else .bad
/-- the comprehension's reading, upon data -/
theorem tComp_d {K : PySem.W.Frag} {caps : List (Option Nat)} {j : Nat} {fi : DS → Res (List D)} {ft : DS → Res Bool} {fe : DS → Res D} {σ : St} {G H : Hp} {ρ : DS} {Q : VK} (hj : j < caps.length) (hs : Same G H) (hro : Ro K G σ ρ) (ho : OkR E H (compR fi caps j ft fe ρ))
    (k : ∀ es, compR fi caps j ft fe ρ = .ok (.lst es) → ∀ p vs G' H', Ext G H G' H' → H p = none → H' p = some (.lst vs) → RepL K G' es vs → Rep K G' (.lst es) (.ref p) → Q (.ref p) H') :
    tComp (tDI K E fi) caps (gName j) (tDT K E00 ft) (tD K E00 fe) σ H Q := by
  refine ⟨G, ρ, hs, hro, ho.fst, fun ds e J G1 H1 x1 src => ?_⟩
  have kk := ho.snd e x1.hh
  by_cases hl : lenOk ds.length = true
  · rw [if_pos hl] at kk
    have kk0 := kk
    cases hm : fmapB (fun d => ft ((capD caps ρ).set j (some d))) (fun d => fe ((capD caps ρ).set j (some d))) ds with
    | bad => rw [hm] at kk; exact kk.elim
    | exc c =>
      exfalso
      have noexc : ∀ (l : List D), fmapB (fun d => ft ((capD caps ρ).set j (some d))) (fun d => fe ((capD caps ρ).set j (some d))) l ≠ .exc c := by
        intro l
        induction l with
        | nil => intro z; unfold fmapB at z; cases z
        | cons a as ih =>
          intro z
          unfold fmapB at z
          split at z
          · split at z
            · cases q : fmapB (fun d => ft ((capD caps ρ).set j (some d))) (fun d => fe ((capD caps ρ).set j (some d))) as with
              | bad => rw [q] at z; cases z
              | ok x => rw [q] at z; cases z
              | exc c' => rw [q] at z; have z' : Res.exc c' = Res.exc c := z; cases z'; exact ih q
            · cases z
          · exact ih z
          · cases z
      exact noexc ds hm
    | ok es =>
      have hres : compR fi caps j ft fe ρ = .ok (.lst es) := bind_ok e (by rw [if_pos hl]; exact bind_ok hm rfl)
      refine ⟨fun i m ys H2 => m = ds.length - i ∧ i ≤ ds.length ∧ ∃ G2 es1, Ext G1 H1 G2 H2 ∧ fmapB (fun d => ft ((capD caps ρ).set j (some d))) (fun d => fe ((capD caps ρ).set j (some d))) (ds.take i) = .ok es1 ∧ RepL K G2 es1 ys,
        ⟨_, rfl, Nat.zero_le _, G1, [], .refl x1.gh, rfl, .nil⟩, ?_⟩
      rintro i m ys H2 ⟨rfl, hi, G2, es1, x2, hm1, rl1⟩
      have hlen : ys.length ≤ sizeLine := by
        have h1 := fmapB_len hm1
        rw [List.length_take] at h1
        have h2 := lenOk_line hl
        rw [← rl1.length]; omega
      obtain ⟨sg, ss⟩ := src G2 H2 x2.gg x2.gh i
      by_cases hlt : i < ds.length
      · obtain ⟨go, yl⟩ := sg ds[i] (by simp [hlt])
        have hsplit : ds = ds.take i ++ (ds[i] :: ds.drop (i + 1)) := by rw [List.getElem_cons_drop, List.take_append_drop]
        refine .inr ⟨go, fun ys' H' => ∃ G2 es1, Ext G1 H1 G2 H' ∧ fmapB (fun d => ft ((capD caps ρ).set j (some d))) (fun d => fe ((capD caps ρ).set j (some d))) (ds.take (i + 1)) = .ok es1 ∧ RepL K G2 es1 ys', fun ys' H' ⟨G3, es3, a, b, c⟩ => ⟨ds.length - (i + 1), by omega, rfl, hlt, G3, es3, a, b, c⟩, fun x H' hy => ?_⟩
        obtain ⟨G3, x3, rx⟩ := yl x H' hy
        have htk : ds.take (i + 1) = ds.take i ++ [ds[i]] := by rw [List.take_add_one]; simp [hlt]
        have hm2 := hm
        rw [hsplit] at hm2
        obtain ⟨ea, eb, q1, q2, q3⟩ := fmapB_app hm2
        rw [hm1] at q1; cases q1
        have hcl : (capSt caps σ).length = caps.length := by simp [capSt]
        have ro3 : Ro K G3 ((capSt caps σ).set j (some x)) ((capD caps ρ).set j (some ds[i])) := (capD_ro (hro.mono ((x1.gg.trans x2.gg).trans x3.gg))).set (by rw [hcl]; exact hj) rx
        unfold fmapB at q2
        show tDT K E00 ft ((capSt caps σ).set j (some x)) H' _
        cases ht : ft ((capD caps ρ).set j (some ds[i])) with
        | bad => rw [ht] at q2; cases q2
        | exc c => rw [ht] at q2; cases q2
        | ok b =>
          rw [ht] at q2
          refine ⟨G3, _, x3.gh, ro3, by rw [ht]; trivial, fun b' eb' G4 H4 x4 => ?_⟩
          rw [ht] at eb'
          cases eb'
          cases b with
          | false =>
            rw [if_neg Bool.false_ne_true]
            refine ⟨G4, es1, (x2.trans x3).trans x4, ?_, rl1.mono (x3.gg.trans x4.gg)⟩
            rw [htk]
            have : fmapB (fun d => ft ((capD caps ρ).set j (some d))) (fun d => fe ((capD caps ρ).set j (some d))) (ds.take i ++ [ds[i]]) = .ok es1 := by
              clear q3 hsplit
              have aux : ∀ (as : List D) (e1 : List D), fmapB (fun d => ft ((capD caps ρ).set j (some d))) (fun d => fe ((capD caps ρ).set j (some d))) as = .ok e1 → fmapB (fun d => ft ((capD caps ρ).set j (some d))) (fun d => fe ((capD caps ρ).set j (some d))) (as ++ [ds[i]]) = .ok e1 := by
                intro as
                induction as with
                | nil => intro e1 h; unfold fmapB at h; cases h; unfold fmapB; rw [List.nil_append]; dsimp only; rw [ht]; rfl
                | cons a as ih =>
                  intro e1 h
                  rw [List.cons_append]
                  unfold fmapB at h ⊢
                  split at h
                  · rename_i ha
                    split at h
                    · rename_i e0 hf
                      cases q : fmapB (fun d => ft ((capD caps ρ).set j (some d))) (fun d => fe ((capD caps ρ).set j (some d))) as with
                      | bad => rw [q] at h; cases h
                      | exc c => rw [q] at h; cases h
                      | ok e2 => rw [q] at h; rw [ih e2 q]; exact h
                    · cases h
                  · exact ih e1 h
                  · cases h
              exact aux _ _ hm1
            exact this
          | true =>
            rw [if_pos rfl]
            refine ⟨hlen, G4, (capD caps ρ).set j (some ds[i]), x4.gh, ro3.mono x4.gg, ?_, fun y ey v G5 H5 x5 ry => ?_⟩
            · cases hf : fe ((capD caps ρ).set j (some ds[i])) with
              | ok y => trivial
              | exc c => rw [hf] at q2; cases q2
              | bad => rw [hf] at q2; cases q2
            · refine ⟨G5, es1 ++ [y], ((x2.trans x3).trans x4).trans x5, ?_, (rl1.mono ((x3.gg.trans x4.gg).trans x5.gg)).append (.cons ry .nil)⟩
              rw [htk]
              have aux : ∀ (as : List D) (e1 : List D), fmapB (fun d => ft ((capD caps ρ).set j (some d))) (fun d => fe ((capD caps ρ).set j (some d))) as = .ok e1 → fmapB (fun d => ft ((capD caps ρ).set j (some d))) (fun d => fe ((capD caps ρ).set j (some d))) (as ++ [ds[i]]) = .ok (e1 ++ [y]) := by
                intro as
                induction as with
                | nil => intro e1 h; unfold fmapB at h; cases h; unfold fmapB; rw [List.nil_append]; dsimp only; rw [ht, ey]; rfl
                | cons a as ih =>
                  intro e1 h
                  rw [List.cons_append]
                  unfold fmapB at h ⊢
                  split at h
                  · rename_i ha
                    split at h
                    · rename_i e0 hf
                      cases q : fmapB (fun d => ft ((capD caps ρ).set j (some d))) (fun d => fe ((capD caps ρ).set j (some d))) as with
                      | bad => rw [q] at h; cases h
                      | exc c => rw [q] at h; cases h
                      | ok e2 =>
                        rw [q] at h
                        have h' : Res.ok (e0 :: e2) = Res.ok e1 := h
                        cases h'
                        rw [ih e2 q]; rfl
                    · cases h
                  · exact ih e1 h
                  · cases h
              exact aux _ _ hm1
      · have hie : i = ds.length := by omega
        subst hie
        rw [List.take_length, hm] at hm1
        cases hm1
        refine .inl ⟨ss (Nat.le_refl _), hlen, fun p hp => ?_⟩
        have x3 := (x1.trans x2).trans (Ext.new x2.gh hp (.lst ys))
        have rl2 := rl1.mono (Ext.new x2.gh hp (.lst ys)).gg
        exact k es hres p ys _ _ x3 ((x1.trans x2).hh.free hp) upd_same rl2 (rep_lst.mpr ⟨p, ys, rfl, .of upd_same, rl2⟩)
  · rw [if_neg hl] at kk; exact kk.elim
theorem pd_comp {elt iter : Expr} {ifs : List Expr} {x : Str} {px pos : Pos} {scope : Scope} {N : List Str} {caps : List (Option Nat)} {j : Nat} {fi : DS → Res (List D)} {ft : DS → Res Bool} {fe : DS → Res D} (hc : X.calm = true) (S : CompSc X scope N caps) (hjN : N[j]? = some x) (hjc : caps[j]? = some none) (hjl : scope.names.lookup x = some .local)
    (hi : PI X (.Name x px) iter (tDI X.K E fi)) (ht : ∀ s H C ex, PDIf (X.comp s H scope C N ex) E00 ifs ft) (he : ∀ s H C ex, PD (X.comp s H scope C N ex) E00 elt fe)
    (hs : ∀ x, foldedSetIterable iter X.env x = pure x := by intro _; rfl) : PD X E (.ListComp elt [⟨.Name x px, iter, ifs, 0⟩] scope pos) (compR fi caps j ft fe) := by
  intro pins s σ G H ρ I hsm hro ho
  have hlb := lookup_relabel_local (env := X.env) hjl
  have hp := pe_comp (pos := pos) (te := tD X.K E00 fe) (tc := tDT X.K E00 ft) hc S hi (fun s H C ex => pg_name (X := X.comp s H scope C N ex) (i := j) S.nd hjN (.inl hlb) (.inr hlb)) (onlyOwn_name hjc) (fun s H C ex => ht s H C ex) (fun s H C ex => pe_d (he s H C ex)) hs
  refine thn (hp pins s σ H (fun v H' => ∃ d G', compR fi caps j ft fe ρ = .ok d ∧ Ext G H G' H' ∧ Rep X.K G' d v) I ?_) fun u s' ⟨v, H', I', r, d, G', e, xx, rp⟩ => ⟨d, e, v, G', H', I', r, xx, rp⟩
  exact tComp_d (List.getElem?_eq_some_iff.mp hjc).1 hsm hro ho fun es e p vs G' H' xx _ _ _ rp => ⟨.lst es, G', e, xx, rp⟩
end
end L2

set_option Elab.async false
set_option linter.all false
set_option maxRecDepth 100000
namespace L2
open PySem PySem.Spec PyProof.Rows
section
variable {X : Cx} {E : XK}
/-! ### min, max of a list of ints -/
def allInts : List D → Option (List Int)
  | [] => some []
  | .int i :: ds => (allInts ds).map (i :: ·)
  | _ => none
theorem allInts_eq : ∀ {ds : List D} {ns : List Int}, allInts ds = some ns → ds = ns.map D.int
  | [], ns, h => by unfold allInts at h; cases h; rfl
  | d :: ds, ns, h => by
    cases d with
    | int i =>
      unfold allInts at h
      cases q : allInts ds with
      | none => rw [q] at h; cases h
      | some ms => rw [q] at h; cases h; rw [allInts_eq q]; rfl
    | _ => unfold allInts at h; cases h
theorem allInts_map : ∀ (ns : List Int), allInts (ns.map D.int) = some ns
  | [] => rfl
  | n :: ns => by show (allInts (ns.map D.int)).map (n :: ·) = _; rw [allInts_map ns]; rfl
def minL : List Int → Int
  | [] => 0
  | [a] => a
  | a :: as => min a (minL as)
def maxL : List Int → Int
  | [] => 0
  | [a] => a
  | a :: as => max a (maxL as)
theorem minL_spec : ∀ {ns : List Int}, ns ≠ [] → minL ns ∈ ns ∧ ∀ a ∈ ns, minL ns ≤ a
  | [], h => absurd rfl h
  | [a], _ => ⟨List.mem_singleton.mpr rfl, fun b hb => by rw [List.mem_singleton.mp hb]; exact Int.le_refl _⟩
  | a :: b :: r, _ => by
    obtain ⟨h1, h2⟩ := minL_spec (ns := b :: r) (by simp)
    show min a (minL (b :: r)) ∈ _ ∧ _
    refine ⟨?_, fun c hc => ?_⟩
    · by_cases h : a ≤ minL (b :: r)
      · rw [Int.min_eq_left h]; exact List.mem_cons_self
      · rw [Int.min_eq_right (by omega)]; exact List.mem_cons_of_mem _ h1
    · show min a (minL (b :: r)) ≤ c
      rcases List.mem_cons.mp hc with rfl | hc
      · exact Int.min_le_left _ _
      · exact Int.le_trans (Int.min_le_right _ _) (h2 c hc)
theorem maxL_spec : ∀ {ns : List Int}, ns ≠ [] → maxL ns ∈ ns ∧ ∀ a ∈ ns, a ≤ maxL ns
  | [], h => absurd rfl h
  | [a], _ => ⟨List.mem_singleton.mpr rfl, fun b hb => by rw [List.mem_singleton.mp hb]; exact Int.le_refl _⟩
  | a :: b :: r, _ => by
    obtain ⟨h1, h2⟩ := maxL_spec (ns := b :: r) (by simp)
    show max a (maxL (b :: r)) ∈ _ ∧ _
    refine ⟨?_, fun c hc => ?_⟩
    · by_cases h : maxL (b :: r) ≤ a
      · rw [Int.max_eq_left h]; exact List.mem_cons_self
      · rw [Int.max_eq_right (by omega)]; exact List.mem_cons_of_mem _ h1
    · show c ≤ max a (maxL (b :: r))
      rcases List.mem_cons.mp hc with rfl | hc
      · exact Int.le_max_left _ _
      · exact Int.le_trans (h2 c hc) (Int.le_max_right _ _)
def minD : List D → Res D
  | [.lst l] => match allInts l with | some (n :: ns) => .ok (.int (minL (n :: ns))) | _ => .bad
  | _ => .bad
def maxD : List D → Res D
  | [.lst l] => match allInts l with | some (n :: ns) => .ok (.int (maxL (n :: ns))) | _ => .bad
  | _ => .bad
theorem call_minL (hc : X.calm = true) : CallR X (.builtin "min") (fun xs H Q => ∃ p ns, xs = [.ref p] ∧ SqL X.K H p (ns.map V.int) ∧ ns ≠ [] ∧ Q (.int (minL ns)) H) := by
  intro pins s σ H xs us Q I r h
  obtain ⟨p, ns, rfl, sq, hne, q⟩ := h
  obtain ⟨u, rfl, ru⟩ := vals1 r
  cases (show u = .ref p from ru)
  obtain ⟨its, rv, pl, _⟩ := I.list sq
  have hi := intsAre_of rv
  obtain ⟨ys, e⟩ := hi.allInts.items
  have hns : ns = ys.toList.map (·.1) := by rw [← hi.numsOf, ← nums_intItems, ← e]
  have hsz : 0 < ys.size := by
    have h3 : 0 < ns.length := List.length_pos_iff.mpr hne
    rw [hns, List.length_map, Array.length_toList] at h3; exact h3
  have hl := pl.isList
  rw [e] at hl
  refine min_intList (I.ok.hd hc) hl hsz fun v h' tk hv hk => ?_
  obtain ⟨t, rfl⟩ := intItems_at hv
  obtain ⟨h1, h2⟩ := argBest_lt (numAt ys) (ys.size - 1)
  have hm : numAt ys (argBest (fun i j => decide (numAt ys i < numAt ys j)) (ys.size - 1)) = minL ns := by
    obtain ⟨m1, m2⟩ := minL_spec hne
    refine Int.le_antisymm ?_ (m2 _ ?_)
    · rw [hns] at m1
      obtain ⟨j, hj, ej⟩ := mem_getD m1
      rw [List.length_map, Array.length_toList] at hj
      rw [← hns] at ej
      rw [← ej, hns, ← numAt_eq]; exact h2 j (by omega)
    · rw [hns, numAt_eq]; exact getD_mem (by rw [List.length_map, Array.length_toList]; omega)
  rw [hm]
  exact ⟨.int (minL ns), H, I.kept hk, ⟨t, rfl⟩, q⟩
theorem call_maxL (hc : X.calm = true) : CallR X (.builtin "max") (fun xs H Q => ∃ p ns, xs = [.ref p] ∧ SqL X.K H p (ns.map V.int) ∧ ns ≠ [] ∧ Q (.int (maxL ns)) H) := by
  intro pins s σ H xs us Q I r h
  obtain ⟨p, ns, rfl, sq, hne, q⟩ := h
  obtain ⟨u, rfl, ru⟩ := vals1 r
  cases (show u = .ref p from ru)
  obtain ⟨its, rv, pl, _⟩ := I.list sq
  have hi := intsAre_of rv
  obtain ⟨ys, e⟩ := hi.allInts.items
  have hns : ns = ys.toList.map (·.1) := by rw [← hi.numsOf, ← nums_intItems, ← e]
  have hsz : 0 < ys.size := by
    have h3 : 0 < ns.length := List.length_pos_iff.mpr hne
    rw [hns, List.length_map, Array.length_toList] at h3; exact h3
  have hl := pl.isList
  rw [e] at hl
  refine max_intList (I.ok.hd hc) hl hsz fun v h' tk hv hk => ?_
  obtain ⟨t, rfl⟩ := intItems_at hv
  obtain ⟨h1, h2⟩ := argBest_gt (numAt ys) (ys.size - 1)
  have hm : numAt ys (argBest (fun i j => decide (numAt ys i > numAt ys j)) (ys.size - 1)) = maxL ns := by
    obtain ⟨m1, m2⟩ := maxL_spec hne
    refine Int.le_antisymm (m2 _ ?_) ?_
    · rw [hns, numAt_eq]; exact getD_mem (by rw [List.length_map, Array.length_toList]; omega)
    · rw [hns] at m1
      obtain ⟨j, hj, ej⟩ := mem_getD m1
      rw [List.length_map, Array.length_toList] at hj
      rw [← hns] at ej
      rw [← ej, hns, ← numAt_eq]; exact h2 j (by omega)
  rw [hm]
  exact ⟨.int (maxL ns), H, I.kept hk, ⟨t, rfl⟩, q⟩
theorem dc_minL {K : PySem.W.Frag} : DCl K E (fun xs H Q => ∃ p ns, xs = [.ref p] ∧ SqL K H p (ns.map V.int) ∧ ns ≠ [] ∧ Q (.int (minL ns)) H) minD := by
  intro G H vs ds Q hs rl ok k
  unfold minD at ok k
  split at ok
  · rename_i l
    obtain ⟨v, r, rfl, rx, r0⟩ := rl.inv
    rw [r0.inv0]
    rw [rep_lst] at rx
    obtain ⟨p, xs, rfl, sq, rx⟩ := rx
    dsimp only at k
    cases q : allInts l with
    | none => rw [q] at ok; exact ok.elim
    | some ns =>
      cases ns with
      | nil => rw [q] at ok; exact ok.elim
      | cons n ns =>
        rw [q] at k
        have e := allInts_eq q
        subst e
        have ex := rx.ints
        subst ex
        exact ⟨p, n :: ns, rfl, hs.seq sq, by simp, k _ _ G H rfl (.refl hs) (rep_int.mpr rfl)⟩
  · exact ok.elim
theorem dc_maxL {K : PySem.W.Frag} : DCl K E (fun xs H Q => ∃ p ns, xs = [.ref p] ∧ SqL K H p (ns.map V.int) ∧ ns ≠ [] ∧ Q (.int (maxL ns)) H) maxD := by
  intro G H vs ds Q hs rl ok k
  unfold maxD at ok k
  split at ok
  · rename_i l
    obtain ⟨v, r, rfl, rx, r0⟩ := rl.inv
    rw [r0.inv0]
    rw [rep_lst] at rx
    obtain ⟨p, xs, rfl, sq, rx⟩ := rx
    dsimp only at k
    cases q : allInts l with
    | none => rw [q] at ok; exact ok.elim
    | some ns =>
      cases ns with
      | nil => rw [q] at ok; exact ok.elim
      | cons n ns =>
        rw [q] at k
        have e := allInts_eq q
        subst e
        have ex := rx.ints
        subst ex
        exact ⟨p, n :: ns, rfl, hs.seq sq, by simp, k _ _ G H rfl (.refl hs) (rep_int.mpr rfl)⟩
  · exact ok.elim

/-! ### list(range(a, b)), list(range(a, b, c)) -/
def rngDown (hi : Int) (n : Nat) : List D := (List.range n).map fun (i : Nat) => D.int (hi - (i : Int))
theorem list_of_range {a b c : Int} {t u v : Tok} {n : Nat} {r : Addr} {pins : List (Addr × Obj)} {σ : St} {H : Hp} {s : Shared} {Q : VK} (hc : X.calm = true) (I : Inv X pins σ H s) (hr : IsRange s.heap r a b c t u v) (hsm : Builtin.Range.small a b c = true) (hn : Builtin.Range.rangeSize a b c = n) (hz : n ≤ 100000)
    (q : ∀ p, H p = none → Q (.ref p) (upd H p (.lst ((List.range n).map fun (i : Nat) => V.int (a + (i : Int) * c))))) : wpAny (model X.prog X.w) X.A (call (.type "list") [.ref r]) (EP X pins σ Q) X.xe s := by
  refine call_list_range (I.ok.hd hc) hr hsm hn (Nat.le_trans hz (by decide)) fun h' tk acc c' hk hD hI => ?_
  obtain ⟨h1, h2⟩ := hI
  have hv : Vals ((List.range n).map fun (i : Nat) => V.int (a + (i : Int) * c)) acc.toList := by
    have aux : ∀ (m : Nat) (f : Nat → V) (l : List Value), l.length = m → (∀ j u, l[j]? = some u → RelV (f j) u) → Vals ((List.range m).map f) l := by
      intro m
      induction m with
      | zero =>
        intro f l hl _
        cases l with
        | nil => exact .nil
        | cons x xs => simp at hl
      | succ m ih =>
        intro f l hl h
        cases l with
        | nil => simp at hl
        | cons x xs =>
          rw [List.range_succ_eq_map, List.map_cons, List.map_map]
          exact .cons (h 0 x rfl) (ih (f ∘ Nat.succ) xs (by simpa using hl) fun j u e => h (j + 1) u (by simpa using e))
    refine aux n _ acc.toList (by simpa using h1) fun j u e => ?_
    obtain ⟨t', rfl⟩ := h2 j u (by simpa using e)
    exact ⟨t', rfl⟩
  refine ⟨.ref s.heap.objs.size, _, I.laid (o := .lst ((List.range n).map fun (i : Nat) => V.int (a + (i : Int) * c))) hk (Nat.le_refl _) ⟨?_, acc.toList, c', hv, ?_⟩, rfl, q _ (I.hok.fresh (Nat.le_refl _))⟩
  · rw [List.length_map, List.length_range]
    exact Nat.le_trans hz (by decide)
  · rw [hD]

theorem fitsLong {i : Int} (h1 : -(2 ^ 62) ≤ i) (h2 : i ≤ 2 ^ 62) : Builtin.Range.rangeFitsLong i = true := by
  unfold Builtin.Range.rangeFitsLong
  simp only [Bool.and_eq_true, decide_eq_true_eq]
  omega
theorem size_down {a b : Int} : Builtin.Range.rangeSize a b (-1) = ((a - b).toNat : Int) := by
  unfold Builtin.Range.rangeSize
  rw [if_neg (by decide)]
  split
  · have : (-(-1 : Int)) = 1 := by decide
    rw [this, Int.ediv_one]; omega
  · omega
theorem small_any {a b c : Int} (h1 : -(2 ^ 60) ≤ a) (h2 : a < 2 ^ 60) (h3 : -(2 ^ 60) ≤ b) (h4 : b < 2 ^ 60) (hc : c = 1 ∨ c = -1) : Builtin.Range.small a b c = true := by
  rcases hc with rfl | rfl
  · exact small_one (by omega) (by omega) (by omega) (by omega)
  · unfold Builtin.Range.small
    rw [size_down, fitsLong (i := a) (by omega) (by omega), fitsLong (i := b) (by omega) (by omega), fitsLong (i := -1) (by decide) (by decide), fitsLong (i := ((a - b).toNat : Int)) (by omega) (by omega)]
    rw [if_neg (by decide), fitsLong (i := b + (-1 + 1)) (by omega) (by omega)]
    simp
def RngE (p : Addr) (a b c : Int) : HO := .ext fun h => ∃ t u v, IsRange h p a b c t u v
theorem Inv.rng {pins : List (Addr × Obj)} {σ : St} {H : Hp} {s : Shared} {a b c : Int} {t u v : Tok} {tk : Nat} (I : Inv X pins σ H s) : Inv X pins σ (upd H s.heap.objs.size (RngE s.heap.objs.size a b c)) { s with heap := s.heap.push { cls := .type "range", data := .fields #[.int a t, .int b u, .int c v] }, toks := tk } :=
  I.laid (fun b o e => Heap.get?_push_of_some _ e) (Nat.le_refl _) ⟨⟨t, u, v, Heap.get?_push_size _ rfl⟩, ⟨_, Heap.get?_push_size _ rfl⟩, fun h1 h2 ⟨t, u, v, e⟩ k => ⟨t, u, v, k _ e⟩⟩
theorem call_range2 : CallR X (.type "range") (fun xs H Q => ∃ i j, xs = [.int i, .int j] ∧ ∀ p, H p = none → Q (.ref p) (upd H p (RngE p i j 1))) := by
  intro pins s σ H xs us Q I r h
  obtain ⟨i, j, rfl, q⟩ := h
  obtain ⟨u1, u2, rfl, ⟨t1, rfl⟩, ⟨t2, rfl⟩⟩ := vals2 r
  exact call_range_2 ⟨.ref s.heap.objs.size, _, I.rng, rfl, q _ (I.hok.fresh (Nat.le_refl _))⟩
theorem vals3 {x y z : V} {us : List Value} (r : Vals [x, y, z] us) : ∃ u v w, us = [u, v, w] ∧ RelV x u ∧ RelV y v ∧ RelV z w := by
  cases r with
  | cons a b => cases b with
    | cons c d => cases d with
      | cons e f => cases f; exact ⟨_, _, _, rfl, a, c, e⟩
theorem call_range3 : CallR X (.type "range") (fun xs H Q => ∃ i j, xs = [.int i, .int j, .int (-1)] ∧ ∀ p, H p = none → Q (.ref p) (upd H p (RngE p i j (-1)))) := by
  intro pins s σ H xs us Q I r h
  obtain ⟨i, j, rfl, q⟩ := h
  obtain ⟨u1, u2, u3, rfl, ⟨t1, rfl⟩, ⟨t2, rfl⟩, ⟨t3, rfl⟩⟩ := vals3 r
  exact call_range_3 (by decide) ⟨.ref s.heap.objs.size, _, I.rng (tk := s.toks), rfl, q _ (I.hok.fresh (Nat.le_refl _))⟩ (.inl (PyProof.noPylong_small (by decide)))
theorem call_listRng (hc : X.calm = true) : CallR X (.type "list") (fun xs H Q => ∃ p a b c n, xs = [.ref p] ∧ H p = some (RngE p a b c) ∧ Builtin.Range.small a b c = true ∧ Builtin.Range.rangeSize a b c = ((n : Nat) : Int) ∧ n ≤ 100000 ∧ ∀ l, H l = none → Q (.ref l) (upd H l (.lst ((List.range n).map fun (i : Nat) => V.int (a + (i : Int) * c))))) := by
  intro pins s σ H xs us Q I r h
  obtain ⟨p, a, b, c, n, rfl, hp, hsm, hn, hz, q⟩ := h
  obtain ⟨u, rfl, ru⟩ := vals1 r
  cases (show u = .ref p from ru)
  obtain ⟨⟨t, u, v, e⟩, _, _⟩ := (show ObjOk X.prog X.w H s.heap p (RngE p a b c) from I.hok p _ hp)
  exact list_of_range hc I e hsm hn hz q
def tinyI (i : Int) : Bool := decide (-(2 ^ 60) ≤ i) && decide (i < 2 ^ 60)
/-- list(range(a, b)) -/
def lrng2 : List D → Res D
  | [.int i, .int j] => if (tinyI i && tinyI j && lenOk (j - i).toNat) = true then .ok (.lst (rngD i (j - i).toNat)) else .bad
  | _ => .bad
def lrng3 : List D → Res D
  | [.int i, .int j, .int k] => if (tinyI i && tinyI j && lenOk (i - j).toNat && decide (k = -1)) = true then .ok (.lst (rngDown i (i - j).toNat)) else .bad
  | _ => .bad
theorem repL_map {K : PySem.W.Frag} {G : Hp} {f : Nat → D} {g : Nat → V} (h : ∀ i, Rep K G (f i) (g i)) : ∀ (l : List Nat), RepL K G (l.map f) (l.map g)
  | [] => .nil
  | a :: r => .cons (h a) (repL_map h r)
theorem pd_lrange2 {a b : Expr} {p1 p2 pos1 pos2 : Pos} {fs : DS → Res (List D)} (hc : X.calm = true) (hgl : Gl X "list") (hml : X.mg "list" = none) (hg : Gl X "range") (hm : X.mg "range" = none) (ha : PDA X E [a, b] fs)
    (hs : starEach [a, b] X.env = (false, eval a X.env) :: starEach [b] X.env := by rfl) (hpl : (backTo pos2 (starEach [b] X.env)).any (·.1) = false := by rfl)
    (hs3 : starEach [.Call (.Name "range" p2) [a, b] [] pos2] X.env = (false, eval (.Call (.Name "range" p2) [a, b] [] pos2) X.env) :: starEach [] X.env := by rfl) :
    PD X E (.Call (.Name "list" p1) [.Call (.Name "range" p2) [a, b] [] pos2] [] pos1) (ClR fs lrng2) := by
  intro pins s σ G H ρ I hsm hro ho
  have he := pe_callTy (pos := pos1) (p := p1) (call_listRng hc) hgl hml PyProof.Rows.boot_list (pa_cons (pe_callTy (pos := pos2) (p := p2) call_range2 hg hm boot_range (pa_d ha) (by decide) (by decide) hs hpl) pa_nil hs3) (by decide) (by decide) hs3 rfl
  refine thn (he pins s σ H (fun v H' => ∃ d G', ClR fs lrng2 ρ = .ok d ∧ Ext G H G' H' ∧ Rep X.K G' d v) I ?_) fun u s' ⟨v, H', I', r, d, G', e, xx, rp⟩ => ⟨d, e, v, G', H', I', r, xx, rp⟩
  refine ⟨G, ρ, hsm, hro, ho.fst, fun ds e vs G1 H1 x1 p1 => ?_⟩
  have kk := ho.snd e x1.hh
  unfold lrng2 at kk
  split at kk
  · rename_i i j
    obtain ⟨v, r, rfl, rv, r0⟩ := p1.inv
    obtain ⟨v2, r2, rfl, rv2, r02⟩ := r0.inv
    rw [r02.inv0]
    rw [rep_int] at rv rv2; subst rv rv2
    by_cases hj : (tinyI i && tinyI j && lenOk (j - i).toNat) = true
    · have hj' := hj
      unfold tinyI at hj'
      simp only [Bool.and_eq_true, decide_eq_true_eq] at hj'
      obtain ⟨⟨⟨a1, a2⟩, b1, b2⟩, l1⟩ := hj'
      refine ⟨i, j, rfl, fun p hp => ⟨p, i, j, 1, (j - i).toNat, rfl, upd_same, small_any a1 a2 b1 b2 (.inl rfl), by rw [rangeSize_one]; split <;> omega, of_decide_eq_true l1, fun l hl => ?_⟩⟩
      have x2 := x1.trans (Ext.new x1.gh hp (RngE p i j 1))
      have x3 := x2.trans (Ext.new x2.gh hl (.lst ((List.range (j - i).toNat).map fun (k : Nat) => V.int (i + (k : Int) * 1))))
      refine ⟨_, _, bind_ok e (if_pos hj), x3, rep_lst.mpr ⟨l, _, rfl, .of upd_same, repL_map (fun k => rep_int.mpr (by rw [Int.mul_one])) _⟩⟩
    · rw [if_neg hj] at kk; exact kk.elim
  · exact kk.elim
theorem pd_lrange3 {a b c : Expr} {p1 p2 pos1 pos2 : Pos} {fs : DS → Res (List D)} (hc : X.calm = true) (hgl : Gl X "list") (hml : X.mg "list" = none) (hg : Gl X "range") (hm : X.mg "range" = none) (ha : PDA X E [a, b, c] fs)
    (hs : starEach [a, b, c] X.env = (false, eval a X.env) :: starEach [b, c] X.env := by rfl) (hpl : (backTo pos2 (starEach [b, c] X.env)).any (·.1) = false := by rfl)
    (hs3 : starEach [.Call (.Name "range" p2) [a, b, c] [] pos2] X.env = (false, eval (.Call (.Name "range" p2) [a, b, c] [] pos2) X.env) :: starEach [] X.env := by rfl) :
    PD X E (.Call (.Name "list" p1) [.Call (.Name "range" p2) [a, b, c] [] pos2] [] pos1) (ClR fs lrng3) := by
  intro pins s σ G H ρ I hsm hro ho
  have he := pe_callTy (pos := pos1) (p := p1) (call_listRng hc) hgl hml PyProof.Rows.boot_list (pa_cons (pe_callTy (pos := pos2) (p := p2) call_range3 hg hm boot_range (pa_d ha) (by decide) (by decide) hs hpl) pa_nil hs3) (by decide) (by decide) hs3 rfl
  refine thn (he pins s σ H (fun v H' => ∃ d G', ClR fs lrng3 ρ = .ok d ∧ Ext G H G' H' ∧ Rep X.K G' d v) I ?_) fun u s' ⟨v, H', I', r, d, G', e, xx, rp⟩ => ⟨d, e, v, G', H', I', r, xx, rp⟩
  refine ⟨G, ρ, hsm, hro, ho.fst, fun ds e vs G1 H1 x1 p1 => ?_⟩
  have kk := ho.snd e x1.hh
  unfold lrng3 at kk
  split at kk
  · rename_i i j k
    obtain ⟨v, r, rfl, rv, r0⟩ := p1.inv
    obtain ⟨v2, r2, rfl, rv2, r02⟩ := r0.inv
    obtain ⟨v3, r3, rfl, rv3, r03⟩ := r02.inv
    rw [r03.inv0]
    rw [rep_int] at rv rv2 rv3; subst rv rv2 rv3
    by_cases hj : (tinyI i && tinyI j && lenOk (i - j).toNat && decide (k = -1)) = true
    · have hj' := hj
      unfold tinyI at hj'
      simp only [Bool.and_eq_true, decide_eq_true_eq] at hj'
      obtain ⟨⟨⟨⟨a1, a2⟩, b1, b2⟩, l1⟩, rfl⟩ := hj'
      refine ⟨i, j, rfl, fun p hp => ⟨p, i, j, -1, (i - j).toNat, rfl, upd_same, small_any a1 a2 b1 b2 (.inr rfl), size_down, of_decide_eq_true l1, fun l hl => ?_⟩⟩
      have x2 := x1.trans (Ext.new x1.gh hp (RngE p i j (-1)))
      have x3 := x2.trans (Ext.new x2.gh hl (.lst ((List.range (i - j).toNat).map fun (k : Nat) => V.int (i + (k : Int) * (-1)))))
      refine ⟨_, _, bind_ok e (if_pos hj), x3, rep_lst.mpr ⟨l, _, rfl, .of upd_same, repL_map (fun k => rep_int.mpr (by congr 1; omega)) _⟩⟩
    · rw [if_neg hj] at kk; exact kk.elim
  · exact kk.elim

/-! ### a[lo:hi] -/
def cutD (l : List D) (lo hi : Option Int) : List D := (l.drop (HT.sIx l.length 0 lo)).take (HT.sIx l.length l.length hi - HT.sIx l.length 0 lo)
theorem cut_rep {K : PySem.W.Frag} {G : Hp} {ds : List D} {xs : List V} (h : RepL K G ds xs) (lo hi : Option Int) : RepL K G (cutD ds lo hi) (cutV xs lo hi) := by
  unfold cutD cutV
  rw [← h.length]
  exact (h.drop _).take _
def sliceD (lo hi : Option Int) : D → Res D
  | .lst l => .ok (.lst (cutD l lo hi))
  | .tup l => if HT.sIx l.length 0 lo = 0 ∧ HT.sIx l.length l.length hi = l.length then .bad else .ok (.tup (cutD l lo hi))
  | _ => .bad
/-- parts of a slice -/
def PDO (X : Cx) (E : XK) (e : Option Expr) (f : DS → Res (Option Int)) : Prop := PO X e (fun σ H Q => ∃ G ρ, Same G H ∧ Ro X.K G σ ρ ∧ OkR E H (f ρ) ∧ ∀ o, f ρ = .ok o → ∀ G' H', Ext G H G' H' → Q o H')
theorem pdo_none : PDO X E none (fun _ => .ok none) := fun pins s σ H Q I ⟨G, ρ, hs, hr, ho, k⟩ => po_none pins s σ H Q I (k none rfl G H (.refl hs))
def asI : D → Res (Option Int)
  | .int i => .ok (some i)
  | _ => .bad
theorem pdo_some {e : Expr} {f : DS → Res D} (h : PD X E e f) : PDO X E (some e) (fun ρ => (f ρ).bind asI) := by
  intro pins s σ H Q I ⟨G, ρ, hs, hr, ho, k⟩
  refine po_some (pe_d h) pins s σ H Q I ⟨G, ρ, hs, hr, ho.fst, fun d e v G1 H1 x1 p1 => ?_⟩
  have kk := ho.snd e x1.hh
  cases d with
  | int i => rw [rep_int] at p1; exact ⟨i, p1, k (some i) (bind_ok e rfl) G1 H1 x1⟩
  | _ => exact kk.elim
def slR (f : DS → Res D) (lo hi : DS → Res (Option Int)) : DS → Res D := fun ρ => (f ρ).bind fun d => (lo ρ).bind fun l => (hi ρ).bind fun u => sliceD l u d
theorem pd_slice {e : Expr} {lo hi : Option Expr} {p2 pos : Pos} {f : DS → Res D} {fl fh : DS → Res (Option Int)} (he : PD X E e f) (hl : PDO X E lo fl) (hh : PDO X E hi fh) : PD X E (.Subscript e (.Slice lo hi none p2) pos) (slR f fl fh) := by
  intro pins s σ G H ρ I hsm hro ho
  have hp := pe_slice (pos := pos) (p2 := p2) (sl_list.or sl_tup) (pe_d he) hl hh
  refine thn (hp pins s σ H (fun v H' => ∃ d G', slR f fl fh ρ = .ok d ∧ Ext G H G' H' ∧ Rep X.K G' d v) I ?_) fun u s' ⟨v, H', I', r, d, G', e, xx, rp⟩ => ⟨d, e, v, G', H', I', r, xx, rp⟩
  refine ⟨G, ρ, hsm, hro, ho.fst, fun d e v G1 H1 x1 p1 => ?_⟩
  have k1 := ho.snd e x1.hh
  refine ⟨G1, ρ, x1.gh, hro.mono x1.gg, k1.fst, fun l el G2 H2 x2 => ?_⟩
  have k2 := k1.snd el x2.hh
  refine ⟨G2, ρ, x2.gh, (hro.mono x1.gg).mono x2.gg, k2.fst, fun u eu G3 H3 x3 => ?_⟩
  have k3 := k2.snd eu x3.hh
  have x13 := (x1.trans x2).trans x3
  have p3 := p1.mono (x2.gg.trans x3.gg)
  cases d with
  | lst ds =>
    rw [rep_lst] at p3
    obtain ⟨a, xs, rfl, sq, rl⟩ := p3
    exact .inl ⟨a, xs, rfl, x3.gh.seq sq, fun p hp => ⟨_, _, bind_ok e (bind_ok el (bind_ok eu rfl)), x13.trans (.new x3.gh hp _), rep_lst.mpr ⟨p, _, rfl, .of upd_same, (cut_rep rl l u).mono (Ext.new x3.gh hp _).gg⟩⟩⟩
  | tup ds =>
    rw [rep_tup] at p3
    obtain ⟨a, xs, rfl, sq, rl⟩ := p3
    unfold sliceD at k3
    dsimp only at k3
    by_cases hw : HT.sIx ds.length 0 l = 0 ∧ HT.sIx ds.length ds.length u = ds.length
    · rw [if_pos hw] at k3; exact k3.elim
    · exact .inr ⟨a, xs, rfl, x3.gh.seqT sq, by rw [← rl.length]; exact hw, fun p hp => ⟨_, _, bind_ok e (bind_ok el (bind_ok eu (if_neg hw))), x13.trans (.new x3.gh hp _), rep_tup.mpr ⟨p, _, rfl, .of upd_same, (cut_rep rl l u).mono (Ext.new x3.gh hp _).gg⟩⟩⟩
  | _ => exact k3.elim
end
end L2

set_option Elab.async false
set_option linter.all false
set_option maxRecDepth 100000
namespace L2
open PySem PySem.Spec PyProof.Rows

/-! ### pure statements: the frame's data go in, an outcome comes out -/
inductive Out where
  | nx (ρ : DS) | rt (d : D) | bk (ρ : DS) | ct (ρ : DS) | exc (c : Addr) | bad
def OkO (E : XK) (H : Hp) : Out → Prop
  | .exc c => ∀ H', Same H H' → E (.ref c) none H'
  | .bad => False
  | _ => True
def Out.then : Out → (DS → Out) → Out
  | .nx ρ, f => f ρ
  | o, _ => o
def Res.out {α : Type} : Res α → (α → Out) → Out
  | .ok a, f => f a
  | .exc c, _ => .exc c
  | .bad, _ => .bad
def SO (X : Cx) (pins : List (Addr × Obj)) (G H : Hp) (o : Out) (fl : Flow) (s' : Shared) : Prop :=
  match fl with
  | .next => ∃ ρ' σ' G' H', o = .nx ρ' ∧ Inv X pins σ' H' s' ∧ Ext G H G' H' ∧ Ro X.K G' σ' ρ'
  | .brk => ∃ ρ' σ' G' H', o = .bk ρ' ∧ Inv X pins σ' H' s' ∧ Ext G H G' H' ∧ Ro X.K G' σ' ρ'
  | .cont => ∃ ρ' σ' G' H', o = .ct ρ' ∧ Inv X pins σ' H' s' ∧ Ext G H G' H' ∧ Ro X.K G' σ' ρ'
  | .ret u => ∃ d v σ' G' H', o = .rt d ∧ Inv X pins σ' H' s' ∧ RelV v u ∧ Ext G H G' H' ∧ Rep X.K G' d v
def PO1 (X : Cx) (E : XK) (st : Stmt) (F : DS → Out) : Prop :=
  ∀ (pins : List (Addr × Obj)) (s : Shared) (σ : St) (G H : Hp) (ρ : DS), Inv X pins σ H s → Same G H → Ro X.K G σ ρ → OkO E H (F ρ) →
    wpAny (model X.prog X.w) X.A (exec st X.env) (SO X pins G H (F ρ)) X.xe s
def POs (X : Cx) (E : XK) (sts : List Stmt) (F : DS → Out) : Prop :=
  ∀ (pins : List (Addr × Obj)) (s : Shared) (σ : St) (G H : Hp) (ρ : DS), Inv X pins σ H s → Same G H → Ro X.K G σ ρ → OkO E H (F ρ) →
    wpAny (model X.prog X.w) X.A (execs sts X.env) (SO X pins G H (F ρ)) X.xe s
theorem OkO.fst {E : XK} {H : Hp} {o : Out} {f : DS → Out} (h : OkO E H (o.then f)) : OkO E H o := by cases o <;> first | exact h | trivial
theorem OkO.snd {E : XK} {H H1 : Hp} {o : Out} {f : DS → Out} {ρ : DS} (h : OkO E H (o.then f)) (e : o = .nx ρ) (s : Same H H1) : OkO E H1 (f ρ) := by
  subst e
  have h' : OkO E H (f ρ) := h
  cases q : f ρ with
  | exc c => rw [q] at h'; exact fun H' s' => h' H' (s.trans s')
  | bad => rw [q] at h'; exact h'
  | nx _ => trivial
  | rt _ => trivial
  | bk _ => trivial
  | ct _ => trivial
theorem OkO.le {E : XK} {H H1 : Hp} {o : Out} (h : OkO E H o) (s : Same H H1) : OkO E H1 o := by
  cases o with
  | exc c => exact fun H' s' => h H' (s.trans s')
  | bad => exact h
  | _ => trivial
theorem OkO.res {α : Type} {E : XK} {H : Hp} {x : Res α} {f : α → Out} (h : OkO E H (x.out f)) : OkR E H x := by cases x <;> first | exact h | trivial
theorem OkO.res2 {α : Type} {E : XK} {H H1 : Hp} {x : Res α} {f : α → Out} {a : α} (h : OkO E H (x.out f)) (e : x = .ok a) (s : Same H H1) : OkO E H1 (f a) := by
  subst e
  exact OkO.le (show OkO E H (f a) from h) s
theorem out_ok {α : Type} {x : Res α} {f : α → Out} {a : α} (e : x = .ok a) : x.out f = f a := by subst e; rfl
section
variable {X : Cx} {E : XK}
theorem SO.ext {pins : List (Addr × Obj)} {G H G1 H1 : Hp} {o : Out} {fl : Flow} {s' : Shared} (x : Ext G H G1 H1) (h : SO X pins G1 H1 o fl s') : SO X pins G H o fl s' := by
  cases fl with
  | next => obtain ⟨ρ', σ', G', H', e, I, y, r⟩ := h; exact ⟨ρ', σ', G', H', e, I, x.trans y, r⟩
  | brk => obtain ⟨ρ', σ', G', H', e, I, y, r⟩ := h; exact ⟨ρ', σ', G', H', e, I, x.trans y, r⟩
  | cont => obtain ⟨ρ', σ', G', H', e, I, y, r⟩ := h; exact ⟨ρ', σ', G', H', e, I, x.trans y, r⟩
  | ret u => obtain ⟨d, v, σ', G', H', e, I, r, y, rp⟩ := h; exact ⟨d, v, σ', G', H', e, I, r, x.trans y, rp⟩
theorem pos_nil : POs X E [] (fun ρ => .nx ρ) := fun _ _ σ G H ρ I hs hr _ => wpAny_execs_nil ⟨ρ, σ, G, H, rfl, I, .refl hs, hr⟩
def seqO (F R : DS → Out) : DS → Out := fun ρ => (F ρ).then R
theorem pos_cons {st : Stmt} {rest : List Stmt} {F R : DS → Out} (h1 : PO1 X E st F) (h2 : POs X E rest R) : POs X E (st :: rest) (seqO F R) := by
  intro pins s σ G H ρ I hs hr ho
  refine wpAny_execs_cons (thn (h1 pins s σ G H ρ I hs hr ho.fst) fun fl s1 q => ?_)
  cases fl with
  | next =>
    obtain ⟨ρ', σ', G', H', e, I', x, r⟩ := q
    refine thn (h2 pins s1 σ' G' H' ρ' I' x.gh r (ho.snd e x.hh)) fun fl2 s2 q2 => ?_
    have e2 : seqO F R ρ = R ρ' := by unfold seqO; rw [e]; rfl
    rw [e2]
    exact q2.ext x
  | brk => obtain ⟨ρ', σ', G', H', e, I', x, r⟩ := q; exact ⟨ρ', σ', G', H', by unfold seqO; rw [e]; rfl, I', x, r⟩
  | cont => obtain ⟨ρ', σ', G', H', e, I', x, r⟩ := q; exact ⟨ρ', σ', G', H', by unfold seqO; rw [e]; rfl, I', x, r⟩
  | ret u => obtain ⟨d, v, σ', G', H', e, I', rv, x, rp⟩ := q; exact ⟨d, v, σ', G', H', by unfold seqO; rw [e]; rfl, I', rv, x, rp⟩
theorem pos_one {st : Stmt} {F : DS → Out} (h1 : PO1 X E st F) : POs X E [st] F := by
  intro pins s σ G H ρ I hs hr ho
  refine wpAny_execs_cons (thn (h1 pins s σ G H ρ I hs hr ho) fun fl s1 q => ?_)
  cases fl with
  | next => exact wpAny_execs_nil q
  | brk => exact q
  | cont => exact q
  | ret u => exact q
theorem po_pass {pos : Pos} : PO1 X E (.Pass pos) (fun ρ => .nx ρ) := fun _ _ σ G H ρ I hs hr _ => wpAny_Pass ⟨ρ, σ, G, H, rfl, I, .refl hs, hr⟩
def retO (f : DS → Res D) : DS → Out := fun ρ => (f ρ).out .rt
theorem po_ret {e : Expr} {pos : Pos} {f : DS → Res D} (h : PD X E e f) : PO1 X E (.Return (some e) pos) (retO f) := by
  intro pins s σ G H ρ I hs hr ho
  refine thn (ps_ret (pos := pos) (pe_d h) pins s σ H { nx := fun _ _ => False, bk := fun _ _ => False, ct := fun _ _ => False, rt := fun v H' => ∃ d G', f ρ = .ok d ∧ Ext G H G' H' ∧ Rep X.K G' d v } I ⟨G, ρ, hs, hr, ho.res, fun d e v G' H' x rp => ⟨d, G', e, x, rp⟩⟩) fun fl s1 q => ?_
  cases fl with
  | next => obtain ⟨_, _, _, q⟩ := q; exact q.elim
  | brk => obtain ⟨_, _, _, q⟩ := q; exact q.elim
  | cont => obtain ⟨_, _, _, q⟩ := q; exact q.elim
  | ret u =>
    obtain ⟨v, σ', H', I', rv, d, G', e, x, rp⟩ := q
    exact ⟨d, v, σ', G', H', out_ok e, I', rv, x, rp⟩
def setO (i : Nat) (f : DS → Res D) : DS → Out := fun ρ => (f ρ).out fun d => .nx (ρ.set i (some d))
theorem po_set {i : Nat} {x : Str} {e : Expr} {pos' pos : Pos} {f : DS → Res D} (hN : X.N.Nodup) (hi : X.N[i]? = some x) (hx : Loc X.env.scope x) (h : PD X E e f) (hf : X.fn x = true ∨ X.env.scope.names.lookup x = some .local := by first | exact .inl rfl | exact .inr rfl)
    (hsw : swapsWith e (some (.Name x pos')) pos.line X.env = pure false := by rfl) :
    PO1 X E (.Assign [.Name x pos'] e pos) (setO i f) := by
  intro pins s σ G H ρ I hs hr ho
  have hiσ : i < σ.length := by rw [I.len]; exact (List.getElem?_eq_some_iff.mp hi).1
  refine thn (ps_set (pos := pos) (pos' := pos') hN hi hx (pe_d h) hsw hf pins s σ H { nx := fun σ' H' => ∃ d v G', f ρ = .ok d ∧ σ' = σ.set i (some v) ∧ Ext G H G' H' ∧ Rep X.K G' d v, bk := fun _ _ => False, ct := fun _ _ => False, rt := fun _ _ => False } I ⟨G, ρ, hs, hr, ho.res, fun d e v G' H' x rp => ⟨d, v, G', e, rfl, x, rp⟩⟩) fun fl s1 q => ?_
  cases fl with
  | next =>
    obtain ⟨σ', H', I', d, v, G', e, e2, x, rp⟩ := q
    subst e2
    exact ⟨_, _, G', H', out_ok e, I', x, (hr.mono x.gg).set hiσ rp⟩
  | brk => obtain ⟨_, _, _, q⟩ := q; exact q.elim
  | cont => obtain ⟨_, _, _, q⟩ := q; exact q.elim
  | ret u => obtain ⟨_, _, _, _, _, q⟩ := q; exact q.elim
def ifO (fc : DS → Res Bool) (Fa Fb : DS → Out) : DS → Out := fun ρ => (fc ρ).out fun k => if k = true then Fa ρ else Fb ρ
theorem po_if {c : Expr} {a b : List Stmt} {pos : Pos} {fc : DS → Res Bool} {Fa Fb : DS → Out} (hc : PDT X E c fc) (ha : POs X E a Fa) (hb : POs X E b Fb) : PO1 X E (.If c a b pos) (ifO fc Fa Fb) := by
  intro pins s σ G H ρ I hs hr ho
  refine wpAny_If (thn (hc pins s σ G H ρ I hs hr ho.res) fun k s1 ⟨e, G1, H1, I1, x1⟩ => ?_)
  have kk := ho.res2 e x1.hh
  have e0 : ifO fc Fa Fb ρ = if k = true then Fa ρ else Fb ρ := out_ok e
  rw [e0]
  cases k with
  | true => rw [if_pos rfl] at kk ⊢; exact thn (ha pins s1 σ G1 H1 ρ I1 x1.gh (hr.mono x1.gg) kk) fun fl s2 q => q.ext x1
  | false => rw [if_neg Bool.false_ne_true] at kk ⊢; exact thn (hb pins s1 σ G1 H1 ρ I1 x1.gh (hr.mono x1.gg) kk) fun fl s2 q => q.ext x1
def raiseO (C : Addr) (ok : DS → Bool) : DS → Out := fun ρ => if ok ρ = true then .exc C else .bad
/-- raise C(..): the arguments are evaluated, the class is told -/
theorem po_raise {x : Str} {np cpos pos : Pos} {e : Expr} {es : List Expr} {C : Addr} {t : TA} (hR : Raises X E) (hc : X.calm = true) (Gx : ExcC X.K X.mg x C) (hg : Gl X x) (ha : PA X (e :: es) t) (ok : DS → Bool)
    (ht : ∀ σ G H ρ, Same G H → Ro X.K G σ ρ → ok ρ = true → t σ H fun vs H1 => vs.length ≤ sizeLine ∧ H1 = H)
    (he : starEach (e :: es) X.env = (false, eval e X.env) :: starEach es X.env := by rfl) (hpl : (backTo cpos (starEach es X.env)).any (·.1) = false := by rfl) (hdb : (x == ("__debug__" : Str)) = false := by decide)
    (hmono : ∀ σ H Q Q', (∀ vs H1, Q vs H1 → Q' vs H1) → t σ H Q → t σ H Q') :
    PO1 X E (.Raise (some (.Call (.Name x np) (e :: es) [] cpos)) none pos) (raiseO C ok) := by
  intro pins s σ G H ρ I hs hr ho
  unfold raiseO at ho ⊢
  by_cases hk : ok ρ = true
  · rw [if_pos hk] at ho ⊢
    refine wpAny_mono (ps_raise hR hc Gx hg ha he hpl hdb pins s σ H { nx := fun _ _ => False, bk := fun _ _ => False, ct := fun _ _ => False, rt := fun _ _ => False } I (hmono _ _ _ _ (fun vs H1 ⟨a, b⟩ => ⟨a, by subst b; exact ho _ (.refl _)⟩) (ht σ G H ρ hs hr hk))) (fun fl s1 q => ?_) fun _ _ z => z
    cases fl with
    | next => obtain ⟨_, _, _, q⟩ := q; exact q.elim
    | brk => obtain ⟨_, _, _, q⟩ := q; exact q.elim
    | cont => obtain ⟨_, _, _, q⟩ := q; exact q.elim
    | ret u => obtain ⟨_, _, _, _, _, q⟩ := q; exact q.elim
  · rw [if_neg hk] at ho; exact ho.elim
/-! for x in .. -/
def forO (j : Nat) (F : DS → Out) : List D → DS → Out
  | [], ρ => .nx ρ
  | d :: ds, ρ => match F (ρ.set j (some d)) with
    | .nx ρ' => forO j F ds ρ'
    | .ct ρ' => forO j F ds ρ'
    | .bk ρ' => .nx ρ'
    | .rt d => .rt d
    | .exc c => .exc c
    | .bad => .bad
def forR (fi : DS → Res (List D)) (j : Nat) (F : DS → Out) : DS → Out := fun ρ => (fi ρ).out fun ds => forO j F ds ρ
theorem po_for {x : Str} {px pos : Pos} {iter : Expr} {body : List Stmt} {j : Nat} {fi : DS → Res (List D)} {F : DS → Out} (hp : PassesOwn (model X.prog X.w) X.A X.env X.xe) (hc : X.calm = true) (hN : X.N.Nodup) (hj : X.N[j]? = some x) (hx : Loc X.env.scope x) (hi : PI X (.Name x px) iter (tDI X.K E fi)) (hb : POs X E body F)
    (hf : X.fn x = true ∨ X.env.scope.names.lookup x = some .local := by first | exact .inl rfl | exact .inr rfl) (hs : ∀ x, foldedSetIterable iter X.env x = pure x := by intro _; rfl) : PO1 X E (.For (.Name x px) iter body [] pos) (forR fi j F) := by
  intro pins s σ G H ρ I hsm hr ho
  have hjσ : ∀ {σ' : St} {H' : Hp} {s' : Shared} {pl : List (Addr × Obj)}, Inv X pl σ' H' s' → j < σ'.length := fun I' => by rw [I'.len]; exact (List.getElem?_eq_some_iff.mp hj).1
  refine wpAny_For (thn (hi pins s σ H _ I ⟨G, ρ, hsm, hr, ho.res, fun ds e J G1 H1 x1 src => (show (fun (J : It) (H1 : Hp) => ∃ ds G1, fi ρ = .ok ds ∧ Ext G H G1 H1 ∧ Src X.K J ds G1) J H1 from ⟨ds, G1, e, x1, src⟩)⟩) fun v s1 h1 => thn h1 fun itv s2 h2 => ?_) hs
  obtain ⟨it, fp, tn, J, H2, e, I2, T, st2, f2, ds, G2, eds, x2, src⟩ := h2
  subst e
  have kk : OkO E H2 (forO j F ds ρ) := ho.res2 eds x2.hh
  have e0 : forR fi j F ρ = forO j F ds ρ := out_ok eds
  rw [e0]
  have stat : ∀ {H' : Hp}, (∀ b ∈ fp, H' b = none) → ∀ b ∈ fp, FpOk X pins H' b := fun hn b hb => ⟨hn b hb, (f2 b hb).2⟩
  refine codeAny_forLoop_any (fun n s' => ∃ i σ' G' H' ρ', n = ds.length - i ∧ i ≤ ds.length ∧ Inv X pins σ' H' s' ∧ tn i s'.heap ∧ (∀ b ∈ fp, H' b = none) ∧ Ext G2 H2 G' H' ∧ Ro X.K G' σ' ρ' ∧ forO j F ds ρ = forO j F (ds.drop i) ρ') ?_ ds.length
    ⟨0, σ, G2, H2, ρ, rfl, Nat.zero_le _, I2, st2, fun b hb => (f2 b hb).1, .refl x2.gh, hr.mono x2.gg, rfl⟩
  rintro n s3 ⟨i, σ3, G3, H3, ρ3, rfl, hi3, I3, st3, fr3, x3, r3, e3⟩
  obtain ⟨sg, ss⟩ := src G3 H3 x3.gg x3.gh i
  by_cases hlt : i < ds.length
  · obtain ⟨go, yl⟩ := sg ds[i] (by simp [hlt])
    have hdrop : ds.drop i = ds[i] :: ds.drop (i + 1) := by rw [List.getElem_cons_drop]
    rw [hdrop] at e3
    refine wpAny_passesOwn hp (thn (T.item X rfl rfl rfl hc i pins s3 σ3 H3 X.xe I3 (stat fr3) st3 go) fun r s4 ⟨u, hr4, h4⟩ => ?_)
    subst hr4
    refine wpAny_passesOwn hp (thn h4 fun _ s5 ⟨xv, H5, I5, r5, y5, st5, fr5⟩ => ?_)
    obtain ⟨G5, x5, rp5⟩ := yl xv H5 y5
    have I5' := I5.pinned (stat fr5) (T.obj _ _ st5)
    refine wpAny_passesOwn hp (thn (pg_name (i := j) hN hj hx hf _ s5 σ3 H5 xv u (fun σ6 H6 => σ6 = σ3.set j (some xv) ∧ H6 = H5) I5' r5 ⟨rfl, rfl⟩) fun _ s6 ⟨σ6, H6, I6, e6, e6'⟩ => ?_)
    subst e6 e6'
    have x35 := x3.trans x5
    have r6 : Ro X.K G5 (σ3.set j (some xv)) (ρ3.set j (some ds[i])) := (r3.mono x5.gg).set (hjσ I5) rp5
    have kk6 : OkO E H6 (F (ρ3.set j (some ds[i]))) := by
      have k0 : OkO E H6 (forO j F (ds[i] :: ds.drop (i + 1)) ρ3) := by rw [← e3]; exact kk.le x35.hh
      unfold forO at k0
      cases q : F (ρ3.set j (some ds[i])) with
      | exc c => rw [q] at k0; exact k0
      | bad => rw [q] at k0; exact k0
      | _ => trivial
    refine wpAny_passesOwn hp (thn (hb _ s6 _ G5 H6 _ I6 x35.gh r6 kk6) fun f s7 q7 => ?_)
    have unf : ∀ {o : Out}, F (ρ3.set j (some ds[i])) = o → forO j F ds ρ = (match o with | .nx ρ' => forO j F (ds.drop (i + 1)) ρ' | .ct ρ' => forO j F (ds.drop (i + 1)) ρ' | .bk ρ' => .nx ρ' | .rt d => .rt d | .exc c => .exc c | .bad => .bad) := fun {o} q => by
      rw [e3]
      rw [forO, q]
    have again : ∀ {σ7 : St} {G7 H7 : Hp} {ρ7 : DS}, Inv X (pins ++ pinsAt fp s5.heap) σ7 H7 s7 → Ext G5 H6 G7 H7 → Ro X.K G7 σ7 ρ7 → forO j F ds ρ = forO j F (ds.drop (i + 1)) ρ7 → ∃ m, m < ds.length - i ∧ ∃ i σ' G' H' ρ', m = ds.length - i ∧ i ≤ ds.length ∧ Inv X pins σ' H' s7 ∧ tn i s7.heap ∧ (∀ b ∈ fp, H' b = none) ∧ Ext G2 H2 G' H' ∧ Ro X.K G' σ' ρ' ∧ forO j F ds ρ = forO j F (ds.drop i) ρ' := fun {σ7 G7 H7 ρ7} I7 x7 r7 e7 => by
      refine ⟨ds.length - (i + 1), by omega, i + 1, σ7, G7, H7, ρ7, rfl, hlt, I7.unpinned, T.keep _ _ _ st5 fun b hb o e => (I7.pin (b, o) (List.mem_append_right _ (List.mem_append_right _ (mem_pinsAt hb e)))).1, fun b hb => ?_, x35.trans x7, r7, e7⟩
      obtain ⟨o, e, d⟩ := T.obj _ _ st5 b hb
      exact (I7.pin (b, o) (List.mem_append_right _ (List.mem_append_right _ (mem_pinsAt hb e)))).2.1
    cases f with
    | next => obtain ⟨ρ7, σ7, G7, H7, e7, I7, x7, r7⟩ := q7; exact again I7 x7 r7 (unf e7)
    | cont => obtain ⟨ρ7, σ7, G7, H7, e7, I7, x7, r7⟩ := q7; exact again I7 x7 r7 (unf e7)
    | brk =>
      obtain ⟨ρ7, σ7, G7, H7, e7, I7, x7, r7⟩ := q7
      exact ⟨ρ7, σ7, G7, H7, unf e7, I7.unpinned, (x2.trans x35).trans x7, r7⟩
    | ret v =>
      obtain ⟨d, v7, σ7, G7, H7, e7, I7, rv7, x7, rp7⟩ := q7
      exact ⟨d, v7, σ7, G7, H7, unf e7, I7.unpinned, rv7, (x2.trans x35).trans x7, rp7⟩
  · have hie : i = ds.length := by omega
    subst hie
    refine wpAny_passesOwn hp (thn (T.done X rfl rfl rfl hc ds.length pins s3 σ3 H3 X.xe I3 (stat fr3) st3 (ss (Nat.le_refl _))) fun r s4 ⟨hr4, I4⟩ => ?_)
    subst hr4
    rw [List.drop_length] at e3
    exact wpAny_execs_nil ⟨ρ3, σ3, G3, H3, e3, I4, x2.trans x3, r3⟩
end
end L2

set_option Elab.async false
set_option linter.all false
set_option maxRecDepth 100000
namespace L2
open PySem PySem.Spec PyProof.Rows

def outM : Out → Res D
  | .rt d => .ok d
  | .nx _ => .ok .non
  | .exc c => .exc c
  | _ => .bad
def startD (N : List Str) (ds : List D) : DS := ds.map some ++ List.replicate (N.length - ds.length) none
theorem ro_start {K : PySem.W.Frag} {G : Hp} {N : List Str} {ds : List D} {vs : List V} (h : RepL K G ds vs) : Ro K G (start N vs) (startD N ds) := by
  intro i d e
  unfold startD at e
  unfold start
  by_cases hi : i < ds.length
  · rw [List.getElem?_append_left (by simpa using hi), List.getElem?_map] at e
    cases q : ds[i]? with
    | none => rw [q] at e; cases e
    | some d' =>
      rw [q] at e; cases e
      obtain ⟨v, hv, rv⟩ := h.get q
      have hv2 : i < vs.length := (List.getElem?_eq_some_iff.mp hv).1
      exact ⟨v, by rw [List.getElem?_append_left (by simpa using hv2), List.getElem?_map, hv]; rfl, rv⟩
  · rw [List.getElem?_append_right (by simpa using hi), List.getElem?_replicate] at e
    split at e <;> cases e
section
variable {P : Program} {w : World} {K : PySem.W.Frag} {mg : Str → Option Value} {base : Heap}
abbrev CXof (P : Program) (w : World) (K : PySem.W.Frag) (mg : Str → Option Value) (base : Heap) (N : List Str) (qual : Str) (scope : Scope) (f : Addr) (cdv : Value) (A : Around) (outer : List Env) (s : Shared) (H : Hp) (E : XK) : Cx := cxOf (CXF P w) P w K mg base N qual scope f cdv A outer s H E
/-- THE RULE for a def, exceptions and all -/
theorem Fun.okF {x qual : Str} {st : Stmt} {f : Addr} {fd : FuncData} {N ps : List Str} {k : Nat} {sp : Sp} (F : Fun K x qual st f fd) (S : FnScope N ps (defScope st)) (len : ∀ vs H Q E, sp vs H Q E → vs.length = ps.length)
    (hbody : ∀ (cdv : Value) (A : Around) (outer : List Env) (s : Shared) (H : Hp) (vs : List V) (Q : VK) (E : XK), Room k (A.deeper (envOfC qual (defScope st) s.heap.objs.size f cdv)) → sp vs H Q E →
      ∃ t, PSs (CXof P w K mg base N qual (defScope st) f cdv A outer s H E) (defBody st) t ∧ t { nx := fun _ H' => Q .non H', rt := Q } (start N vs) H) : FnOk P w K mg base (CXF P w) (k + 1) f fd ps sp := by
  obtain ⟨oc, od, kV, doc, pm, an, cdv, ct, osl, rfl, lk, hcd⟩ := F.ex
  exact fn_of lk hcd S len fun A outer s H vs Q E hr hsp => hbody cdv A outer s H vs Q E hr hsp
/-- .. a pure one -/
theorem Fun.pure {x qual : Str} {st : Stmt} {f : Addr} {fd : FuncData} {N ps : List Str} {k : Nat} {m : List D → Res D} (F : Fun K x qual st f fd) (S : FnScope N ps (defScope st)) (len : ∀ ds, m ds ≠ .bad → ds.length = ps.length)
    (hbody : ∀ (cdv : Value) (A : Around) (outer : List Env) (s : Shared) (H : Hp) (E : XK), Room k (A.deeper (envOfC qual (defScope st) s.heap.objs.size f cdv)) →
      ∃ Fb, POs (CXof P w K mg base N qual (defScope st) f cdv A outer s H E) E (defBody st) Fb ∧ ∀ ds, m ds ≠ .bad → outM (Fb (startD N ds)) = m ds) : FnOk P w K mg base (CXF P w) (k + 1) f fd ps (pureSp K m) := by
  have nb : ∀ {E : XK} {H : Hp} {r : Res D}, OkR E H r → r ≠ .bad := fun h z => by rw [z] at h; exact h
  obtain ⟨oc, od, kV, doc, pm, an, cdv, ct, osl, rfl, lk, hcd⟩ := F.ex
  refine fn_of lk hcd S (fun vs H Q E ⟨ds, G, _, rl, ho, _⟩ => by rw [← rl.length]; exact len ds (nb ho)) fun A outer s H vs Q E hr hsp => ?_
  obtain ⟨ds, G, hs, rl, ho, k⟩ := hsp
  obtain ⟨Fb, hb, hm⟩ := hbody cdv A outer s H E hr
  have hme := hm ds (nb ho)
  have hoO : OkO E H (Fb (startD N ds)) := by
    rw [← hme] at ho
    cases q : Fb (startD N ds) with
    | exc c => rw [q] at ho; exact ho
    | bad => rw [q] at ho; exact ho
    | _ => trivial
  refine ⟨fun D σ H1 => (σ = start N vs ∧ H1 = H ∧ (D.nx = fun _ H' => Q .non H') ∧ D.rt = Q), ?_, rfl, rfl, rfl, rfl⟩
  intro pins s1 σ H1 D I ⟨e1, e2, e3, e4⟩
  subst e1 e2
  refine thn (hb pins s1 _ G H1 (startD N ds) I hs (ro_start rl) hoO) fun fl s2 q => ?_
  cases fl with
  | next =>
    obtain ⟨ρ', σ', G', H', e, I', x, r⟩ := q
    refine ⟨σ', H', I', ?_⟩
    rw [e3]
    exact k .non (by rw [← hme, e]; rfl) .non G' H' x (rep_non.mpr rfl)
  | brk =>
    obtain ⟨ρ', σ', G', H', e, I', x, r⟩ := q
    rw [e] at hme
    exact absurd hme.symm (nb ho)
  | cont =>
    obtain ⟨ρ', σ', G', H', e, I', x, r⟩ := q
    rw [e] at hme
    exact absurd hme.symm (nb ho)
  | ret u =>
    obtain ⟨d, v, σ', G', H', e, I', rv, x, rp⟩ := q
    refine ⟨v, σ', H', I', rv, ?_⟩
    rw [e4]
    exact k d (by rw [← hme, e]; rfl) v G' H' x rp
end
section
variable {X : Cx} {E : XK}
def varR (i : Nat) : DS → Res D := fun ρ => match ρ[i]? with | some (some d) => .ok d | _ => .bad
theorem dv (i : Nat) {x : Str} {pos : Pos} (hN : X.N[i]? = some x := by rfl) (hv : Vis X.env.scope x := by first | exact Or.inl rfl | exact Or.inr (Or.inl rfl) | exact Or.inr (Or.inr rfl)) (hd : (x == ("__debug__" : Str)) = false := by decide)
    (hcd : (x == ("__classdict__" : Str)) = false := by decide) : PD X E (.Name x pos) (varR i) := pd_var hN hv hd hcd
end
end L2

set_option Elab.async false
set_option linter.all false
set_option maxRecDepth 100000
namespace L2
open PySem PySem.Spec PyProof.Rows
/-! ### how the mirrors are reckoned -/
section
variable {α β : Type} {a : α} {f : α → Res β} {g : α → Out} {c : Addr}
theorem ev_bind_ok : (Res.ok a).bind f = f a := id rfl
theorem ev_bind_exc : (Res.exc c : Res α).bind f = .exc c := id rfl
theorem ev_bind_bad : (Res.bad : Res α).bind f = .bad := id rfl
theorem ev_out_ok : (Res.ok a).out g = g a := id rfl
theorem ev_out_exc : (Res.exc c : Res α).out g = .exc c := id rfl
theorem ev_out_bad : (Res.bad : Res α).out g = .bad := id rfl
end
section
variable {ρ : DS} {R : DS → Out} {d e : D} {i j : Int} {l : List D} {c : Addr} {F F' : DS → Out} {f f' : DS → Res D} {fc : DS → Res Bool} {b : Bool}
theorem ev_then_nx : (Out.nx ρ).then R = R ρ := id rfl
theorem ev_then_rt : (Out.rt d).then R = .rt d := id rfl
theorem ev_then_exc : (Out.exc c).then R = .exc c := id rfl
theorem ev_seq : seqO F R ρ = (F ρ).then R := id rfl
theorem ev_set {k : Nat} : setO k f ρ = (f ρ).out fun d => .nx (ρ.set k (some d)) := id rfl
theorem ev_ret : retO f ρ = (f ρ).out .rt := id rfl
theorem ev_if : ifO fc F F' ρ = (fc ρ).out fun k => if k = true then F ρ else F' ρ := id rfl
theorem ev_op {o : D → D → Res D} : OpR2 f f' o ρ = (f ρ).bind fun a => (f' ρ).bind fun b => o a b := id rfl
theorem ev_cl {fs : DS → Res (List D)} {g : List D → Res D} : ClR fs g ρ = (fs ρ).bind g := id rfl
theorem ev_asB : asB f ρ = (f ρ).bind fun d => match d with | .bl b => .ok b | _ => .bad := id rfl
theorem ev_var {k : Nat} (h : ρ[k]? = some (some d)) : varR k ρ = .ok d := by unfold varR; rw [h]
theorem ev_var0 : varR 0 (some d :: ρ) = .ok d := id rfl
theorem ev_varS {k : Nat} {o : Option D} : varR (k + 1) (o :: ρ) = varR k ρ := id rfl
theorem ev_set0 {o o' : Option D} : (o :: ρ).set 0 o' = o' :: ρ := id rfl
theorem ev_setS {k : Nat} {o o' : Option D} : (o :: ρ).set (k + 1) o' = o :: ρ.set k o' := id rfl
theorem ev_bl : (match D.bl b with | .bl b => Res.ok b | _ => Res.bad) = .ok b := id rfl
theorem ev_outrt : outM (.rt d) = .ok d := id rfl
theorem ev_outnx : outM (.nx ρ) = .ok .non := id rfl
theorem ev_outexc : outM (.exc c) = .exc c := id rfl
theorem ev_add : addI (.int i) (.int j) = .ok (.int (i + j)) := id rfl
theorem ev_sub : subI (.int i) (.int j) = .ok (.int (i - j)) := id rfl
theorem ev_mulR (h1 : -(2 ^ 64) < j) (h2 : j < 2 ^ 64) : mulI (.int i) (.int j) = .ok (.int (i * j)) := by
  unfold mulI intO; dsimp only; rw [if_pos (decide_eq_true (show CMul i j from Or.inr ⟨h1, h2⟩))]
theorem ev_mulL (h1 : -(2 ^ 64) < i) (h2 : i < 2 ^ 64) : mulI (.int i) (.int j) = .ok (.int (i * j)) := by
  unfold mulI intO; dsimp only; rw [if_pos (decide_eq_true (show CMul i j from Or.inl ⟨h1, h2⟩))]
theorem ev_mod (h : 0 < j) : modI (.int i) (.int j) = .ok (.int (i % j)) := by
  unfold modI intO; dsimp only; rw [if_pos (decide_eq_true h)]
theorem ev_fdiv (h1 : 0 < j) (h2 : j < 1073741824) : fdivI (.int i) (.int j) = .ok (.int (i / j)) := by
  unfold fdivI intO; dsimp only; rw [if_pos (decide_eq_true (show CDiv i j from ⟨h1, h2⟩))]
theorem ev_lt : ltI (.int i) (.int j) = .ok (.bl (decide (i < j))) := id rfl
theorem ev_le : leI (.int i) (.int j) = .ok (.bl (decide (i ≤ j))) := id rfl
theorem ev_gt : gtI (.int i) (.int j) = .ok (.bl (decide (j < i))) := id rfl
theorem ev_ge : geI (.int i) (.int j) = .ok (.bl (decide (j ≤ i))) := id rfl
theorem ev_lenL : lenD [.lst l] = .ok (.int l.length) := id rfl
theorem ev_lenT : lenD [.tup l] = .ok (.int l.length) := id rfl
theorem ev_ixL {d : D} (h : atI l i = some d) : ixD (.lst l) (.int i) = .ok d := by unfold ixD; dsimp only; rw [h]
theorem ev_ixT {d : D} (h : atI l i = some d) : ixD (.tup l) (.int i) = .ok d := by unfold ixD; dsimp only; rw [h]
theorem atI_of {α : Type} {xs : List α} {i : Int} {v : α} (h0 : 0 ≤ i) (h : xs[i.toNat]? = some v) : atI xs i = some v := by
  have := atI_nat (j := i.toNat) h
  rwa [Int.toNat_of_nonneg h0] at this
theorem ev_if_true {F F' : Out} : (if true = true then F else F') = F := id rfl
theorem ev_if_false {F F' : Out} : (if false = true then F else F') = F' := id rfl
theorem ev_min2 : min2D [.int i, .int j] = .ok (.int (min i j)) := id rfl
theorem ev_max2 : max2D [.int i, .int j] = .ok (.int (max i j)) := id rfl
end
end L2

set_option Elab.async false
set_option linter.all false
set_option maxRecDepth 100000
namespace L2
open PySem PySem.Spec PyProof.Rows
section
variable {X : Cx} {E : XK}
/-! ### an expression whose value is dropped -/
def exprO (f : DS → Res D) : DS → Out := fun ρ => (f ρ).out fun _ => .nx ρ
theorem po_expr {e : Expr} {pos : Pos} {f : DS → Res D} (h : PD X E e f) (hs : swapsWith e none pos.line X.env = pure false := by rfl) : PO1 X E (.Expr e pos) (exprO f) := by
  intro pins s σ G H ρ I hsm hr ho
  refine thn (ps_expr (pe_d h) hs pins s σ H { nx := fun σ' H' => ∃ d G', f ρ = .ok d ∧ σ' = σ ∧ Ext G H G' H', bk := fun _ _ => False, ct := fun _ _ => False, rt := fun _ _ => False } I ⟨G, ρ, hsm, hr, ho.res, fun d e v G' H' x rp => ⟨d, G', e, rfl, x⟩⟩) fun fl s1 q => ?_
  cases fl with
  | next =>
    obtain ⟨σ', H', I', d, G', e, e2, x⟩ := q
    subst e2
    exact ⟨ρ, _, G', H', out_ok e, I', x, hr.mono x.gg⟩
  | brk => obtain ⟨_, _, _, q⟩ := q; exact q.elim
  | cont => obtain ⟨_, _, _, q⟩ := q; exact q.elim
  | ret u => obtain ⟨_, _, _, _, _, q⟩ := q; exact q.elim
/-! ### raise C(text) -/
theorem po_raiseF {x : Str} {np cpos pos jp : Pos} {v1 v2 : Expr} {rest : List Expr} {n : Nat} {t : St → Hp → Prop} {C : Addr} (hR : Raises X E) (hc : X.calm = true) (Gx : ExcC X.K X.mg x C) (hg : Gl X x) (h : PFs X (v1 :: v2 :: rest) n t) (ok : DS → Bool)
    (ht : ∀ σ G H ρ, Same G H → Ro X.K G σ ρ → ok ρ = true → t σ H) (hn : n ≤ 100000 := by decide)
    (he : starEach [.JoinedStr (v1 :: v2 :: rest) jp] X.env = (false, eval (.JoinedStr (v1 :: v2 :: rest) jp) X.env) :: starEach [] X.env := by rfl) (hdb : (x == ("__debug__" : Str)) = false := by decide) :
    PO1 X E (.Raise (some (.Call (.Name x np) [.JoinedStr (v1 :: v2 :: rest) jp] [] cpos)) none pos) (raiseO C ok) :=
  po_raise hR hc Gx hg (pa_cons (pe_fstr h hn) pa_nil he) ok (fun σ G H ρ hs hr hk => ⟨ht σ G H ρ hs hr hk, fun x => ⟨by show 1 ≤ sizeLine; decide, rfl⟩⟩) he rfl hdb fun σ H Q Q' hq ⟨a, b⟩ => ⟨a, fun x => hq _ _ (b x)⟩
theorem po_raiseT {x : Str} {np cpos pos jp : Pos} {y : Str} {j : Nat} {C : Addr} (hR : Raises X E) (hc : X.calm = true) (Gx : ExcC X.K X.mg x C) (hg : Gl X x)
    (he : starEach [.Constant (.str y) j jp] X.env = (false, eval (.Constant (.str y) j jp) X.env) :: starEach [] X.env := by rfl) (hdb : (x == ("__debug__" : Str)) = false := by decide) :
    PO1 X E (.Raise (some (.Call (.Name x np) [.Constant (.str y) j jp] [] cpos)) none pos) (raiseO C fun _ => true) :=
  po_raise hR hc Gx hg (pa_cons pe_str pa_nil he) (fun _ => true) (fun σ G H ρ hs hr hk => ⟨by show 1 ≤ sizeLine; decide, rfl⟩) he rfl hdb fun σ H Q Q' hq h => hq _ _ h
/-- an int in slot i, of less than 1920 bits -/
def okI (i : Nat) (ρ : DS) : Bool := match ρ[i]? with | some (some (.int n)) => decide (n.natAbs.log2 < 1920) | _ => false
theorem okI_t {i : Nat} {K : PySem.W.Frag} {σ : St} {G H : Hp} {ρ : DS} (hr : Ro K G σ ρ) (h : okI i ρ = true) : tIntB (tVar i) σ H := by
  unfold okI at h
  split at h
  · rename_i n q
    obtain ⟨v, hv, rv⟩ := hr i _ q
    rw [rep_int] at rv; subst rv
    exact ⟨_, hv, rfl, n, rfl, of_decide_eq_true h⟩
  · cases h

/-! ### C(..) of an own class -/
/-- the promise of __init__: m tells the instance upon the arguments' data -/
def initSp (K : PySem.W.Frag) (C : Addr) (m : List D → Res D) : Sp := fun vs H Q E => ∃ p dx rest ds G, vs = .ref p :: rest ∧ H p = some (.ins C dx []) ∧ Same G H ∧ G p = none ∧ RepL K G ds rest ∧ OkR E H (m ds) ∧
  ∀ ns fds, m ds = .ok (.ins C ns fds) → ∀ fs G' H', fs.map (·.1) = ns → RepL K G' fds (fs.map (·.2)) → H' p = some (.ins C dx fs) → (∀ b o, H b = some o → b ≠ p → H' b = some o) → Same G G' → Same G' H' → (∀ b o, G' b = some o → G b = some o ∨ H b = none) → G' p = none → Q .non H'
/-- m tells instances of C only -/
def MkOf (C : Addr) (m : List D → Res D) : Prop := ∀ ds d, m ds = .ok d → ∃ ns fds, d = .ins C ns fds
theorem pd_make {CX : CXT} {k : Nat} {f C : Addr} {fd : FuncData} {ps : List Str} {m : List D → Res D} {x : Str} {p pos : Pos} {e : Expr} {es : List Expr} {fs : DS → Res (List D)} (M : Mk X.K C f) (F : FnOk X.prog X.w X.K X.mg X.base CX k f fd ps (initSp X.K C m)) (hmk : MkOf C m) (hr : Room (k + 1) X.A) (hg : Gl X x) (hm : X.mg x = some (.ref C)) (hb : Binds X.K fd ps []) (hx : Passes CX X E)
    (ha : PDA X E (e :: es) fs) (hpe : ∀ t, PA X (e :: es) t → PE X (.Call (.Name x p) (e :: es) [] pos) (tMake C (initSp X.K C m) [] E t)) :
    PD X E (.Call (.Name x p) (e :: es) [] pos) (ClR fs m) := by
  intro pins s σ G H ρ I hs hro ho
  refine thn (hpe _ (pa_d ha) pins s σ H (fun v H' => ∃ d G', ClR fs m ρ = .ok d ∧ Ext G H G' H' ∧ Rep X.K G' d v) I ?_) fun u s' ⟨v, H', I', r', d, G', e, x, rp⟩ => ⟨d, e, v, G', H', I', r', x, rp⟩
  refine ⟨G, ρ, hs, hro, ho.fst, fun ds e1 vs G1 H1 x1 p1 y dy hy hdy hne => ?_⟩
  have kk := ho.snd e1 x1.hh
  have s12 : Same H1 (upd (upd H1 dy (.own y)) y (.ins C dy [])) := fun b o eb => by rw [upd_ne (ne_of_none eb hy), upd_ne (ne_of_none eb hdy)]; exact eb
  have fr2 : ∀ b, (upd (upd H1 dy (.own y)) y (.ins C dy [])) b = none → H1 b = none := fun b eb => s12.free eb
  have g1y : G1 y = none := by
    cases q : G1 y with
    | none => rfl
    | some o => rw [x1.gh y o q] at hy; cases hy
  refine ⟨y, dy, vs, ds, G1, by rw [List.append_nil], upd_same, x1.gh.trans s12, g1y, p1, kk.le s12, fun ns fds em fs2 G' H' hn rl hp kp sg sh nw gp => ⟨rfl, ?_⟩⟩
  refine ⟨.ins C ns fds, upd G' y (.ins C dy fs2), bind_ok e1 em, x1.trans ⟨?_, ?_, ?_, ?_⟩, rep_ins.mpr ⟨y, dy, fs2, rfl, upd_same, hn, rl.mono ?_⟩⟩
  · exact fun b o eb => kp b o (s12 b o eb) (ne_of_none eb hy)
  · exact fun b o eb => by rw [upd_ne (ne_of_none (sg b o eb) gp)]; exact sg b o eb
  · intro b o eb
    by_cases hb' : b = y
    · subst hb'; rw [upd_same] at eb; cases eb; exact hp
    · rw [upd_ne hb'] at eb; exact sh b o eb
  · intro b o eb
    by_cases hb' : b = y
    · subst hb'; exact .inr hy
    · rw [upd_ne hb'] at eb
      exact (nw b o eb).imp id (fr2 b)
  · exact fun b o eb => by rw [upd_ne (ne_of_none eb gp)]; exact eb

/-! ### try .. except -/
/-- the handler tells: the class's mark gives the outcome d -/
def tryO (F : DS → Out) (g : Addr → Option D) : DS → Out := fun ρ => match F ρ with
  | .exc c => (match g c with | some d => .rt d | none => .bad)
  | o => o
theorem po_try {x n : Str} {i : Nat} {C : Addr} {body : List Stmt} {b₀ : Stmt} {suite : List Stmt} {np hpos pos : Pos} {F : DS → Out} {g : Addr → Option D} {th : TS} (hN : X.N.Nodup) (hi : X.N[i]? = some n) (hl : X.env.scope.names.lookup n = some .local) (hg : Gl X x) (hm : X.mg x = some (.ref C))
    (hs : X.stack = X.env :: X.outer) (hf : X.env.frame = some X.env.locals)
    (hb : ∀ (E : XK) (Et : Value → Shared → Prop) (pn : List (Addr × Obj)), Passes (CXF X.prog X.w) (X.tr Et pn) E → PassesOwn (model X.prog X.w) X.A X.env Et → POs (X.tr Et pn) E body F)
    (hh : ∀ (e : Addr) (E : Value → Shared → Prop), PSs (X.inH e E) (b₀ :: suite) th)
    (hgm : ∀ c d, g c = some d → PySem.W.exmOne X.K (.ref c) (.ref C) = some true)
    (hth : ∀ c d, g c = some d → ∀ (Dn : Ends) (H : Hp) (e : Addr), H e = none → (∀ v G' H', Same H H' → Same G' H' → (∀ b o, G' b = some o → H b = none) → Rep X.K G' d v → Dn.rt v H') → th Dn ((noSt X).set i (some (.ref e))) (upd H e (ExcO e (.ref c))))
    (hdb : (x == ("__debug__" : Str)) = false := by decide) :
    PO1 X E (.Try body [.ExceptHandler (some (.Name x np)) (some n) (b₀ :: suite) hpos] [] [] pos) (tryO F g) := by
  intro pins s σ G H ρ I hsm hr ho
  -- the body, as the layer reads it: its end is told by what F tells
  have hps := ps_try (X := X) (x := x) (n := n) (i := i) (C := C) (np := np) (hpos := hpos) (pos := pos) (body := body) (tb := fun E D σ' H' => σ' = σ ∧ H' = H ∧ OkO E H (F ρ) ∧ (∀ fl : Flow, True) ∧
      (∀ ρ' σ2 G2 H2, F ρ = .nx ρ' → Ext G H G2 H2 → Ro X.K G2 σ2 ρ' → D.nx σ2 H2) ∧ (∀ ρ' σ2 G2 H2, F ρ = .bk ρ' → Ext G H G2 H2 → Ro X.K G2 σ2 ρ' → D.bk σ2 H2) ∧ (∀ ρ' σ2 G2 H2, F ρ = .ct ρ' → Ext G H G2 H2 → Ro X.K G2 σ2 ρ' → D.ct σ2 H2) ∧ (∀ d v G2 H2, F ρ = .rt d → Ext G H G2 H2 → Rep X.K G2 d v → D.rt v H2))
    hN hi hl hg hm hs hf (fun E' Et pn hpa hpo pins' s' σ' H' D' I' ⟨e1, e2, hok, _, k1, k2, k3, k4⟩ => by
      subst e1 e2
      refine thn (hb E' Et pn hpa hpo pins' s' _ G _ ρ I' hsm hr hok) fun fl s2 q => ?_
      cases fl with
      | next => obtain ⟨ρ', σ2, G2, H2, e, J, xx, r⟩ := q; exact ⟨σ2, H2, J, k1 ρ' σ2 G2 H2 e xx r⟩
      | brk => obtain ⟨ρ', σ2, G2, H2, e, J, xx, r⟩ := q; exact ⟨σ2, H2, J, k2 ρ' σ2 G2 H2 e xx r⟩
      | cont => obtain ⟨ρ', σ2, G2, H2, e, J, xx, r⟩ := q; exact ⟨σ2, H2, J, k3 ρ' σ2 G2 H2 e xx r⟩
      | ret u => obtain ⟨d, v, σ2, G2, H2, e, J, rv, xx, rp⟩ := q; exact ⟨v, σ2, H2, J, rv, k4 d v G2 H2 e xx rp⟩) hh hdb
  refine thn (hps pins s σ H { nx := fun σ2 H2 => ∃ ρ' G2, tryO F g ρ = .nx ρ' ∧ Ext G H G2 H2 ∧ Ro X.K G2 σ2 ρ', bk := fun σ2 H2 => ∃ ρ' G2, tryO F g ρ = .bk ρ' ∧ Ext G H G2 H2 ∧ Ro X.K G2 σ2 ρ', ct := fun σ2 H2 => ∃ ρ' G2, tryO F g ρ = .ct ρ' ∧ Ext G H G2 H2 ∧ Ro X.K G2 σ2 ρ', rt := fun v H2 => ∃ d G2, tryO F g ρ = .rt d ∧ Ext G H G2 H2 ∧ Rep X.K G2 d v } I
    ⟨rfl, rfl, ?_, fun _ => trivial, fun ρ' σ2 G2 H2 e xx r => ⟨ρ', G2, by unfold tryO; rw [e], xx, r⟩, fun ρ' σ2 G2 H2 e xx r => ⟨ρ', G2, by unfold tryO; rw [e], xx, r⟩, fun ρ' σ2 G2 H2 e xx r => ⟨ρ', G2, by unfold tryO; rw [e], xx, r⟩, fun d v G2 H2 e xx rp => ⟨d, G2, by unfold tryO; rw [e], xx, rp⟩⟩) fun fl s1 q => ?_
  · cases q : F ρ with
    | bad => unfold tryO at ho; rw [q] at ho; exact ho
    | nx _ => trivial
    | rt _ => trivial
    | bk _ => trivial
    | ct _ => trivial
    | exc c =>
      unfold tryO at ho
      rw [q] at ho
      dsimp only at ho
      cases gc : g c with
      | none => rw [gc] at ho; exact ho.elim
      | some d =>
        intro H' hs'
        refine ⟨hgm c d gc, fun e he => hth c d gc _ H' e he fun v G' H2 s1 s2 nw rp => ?_⟩
        refine ⟨d, fun b => if (G b).isSome then G b else G' b, by unfold tryO; rw [q]; dsimp only; rw [gc], ⟨hs'.trans s1, fun b o eb => by rw [eb]; rfl, fun b o eb => ?_, fun b o eb => ?_⟩, rp.mono fun b o eb => ?_⟩
        · skip
          split at eb
          · exact s1 b o (hs' b o (hsm b o eb))
          · exact s2 b o eb
        · skip
          split at eb
          · exact .inl eb
          · exact .inr (hs'.free (nw b o eb))
        · skip
          have hb : H' b = none := nw b o eb
          have hgn : G b = none := by
            cases z : G b with
            | none => rfl
            | some u => rw [hs' b u (hsm b u z)] at hb; cases hb
          rw [hgn]
          exact eb
  · cases fl with
    | next => obtain ⟨σ2, H2, J, ρ', G2, e, xx, r⟩ := q; exact ⟨ρ', σ2, G2, H2, e, J, xx, r⟩
    | brk => obtain ⟨σ2, H2, J, ρ', G2, e, xx, r⟩ := q; exact ⟨ρ', σ2, G2, H2, e, J, xx, r⟩
    | cont => obtain ⟨σ2, H2, J, ρ', G2, e, xx, r⟩ := q; exact ⟨ρ', σ2, G2, H2, e, J, xx, r⟩
    | ret u => obtain ⟨v, σ2, H2, J, rv, d, G2, e, xx, rp⟩ := q; exact ⟨d, v, σ2, G2, H2, e, J, rv, xx, rp⟩
end
end L2

set_option Elab.async false
set_option linter.all false
set_option maxRecDepth 100000
namespace L2
open PySem PySem.Spec PyProof.Rows
theorem bo_list : bootBuiltins "list" = some (.type "list") := by decide +kernel
theorem bo_tuple : bootBuiltins "tuple" = some (.type "tuple") := by decide +kernel
theorem bo_int : bootBuiltins "int" = some (.type "int") := by decide +kernel
theorem bo_bool : bootBuiltins "bool" = some (.type "bool") := by decide +kernel
theorem bo_ve : bootBuiltins "ValueError" = some (.type "ValueError") := by decide +kernel
theorem bo_min : bootBuiltins "min" = some (.builtin "min") := by decide +kernel
theorem bo_max : bootBuiltins "max" = some (.builtin "max") := by decide +kernel
section
variable {X : Cx} {E : XK}
theorem pd_gI {x : Str} {i : Int} {pos : Pos} (hm : ∃ t, X.mg x = some (.int i t)) (hg : Gl X x := by rfl) (hd : (x == ("__debug__" : Str)) = false := by decide) : PD X E (.Name x pos) (fun _ => .ok (.int i)) := by
  obtain ⟨t, hm⟩ := hm
  exact pd_globI hg hm ⟨t, rfl⟩ hd
theorem pe_gI {x : Str} {i : Int} {pos : Pos} (hm : ∃ t, X.mg x = some (.int i t)) (hg : Gl X x := by rfl) (hd : (x == ("__debug__" : Str)) = false := by decide) : PE X (.Name x pos) (tC (.int i)) := by
  obtain ⟨t, hm⟩ := hm
  exact pe_glob hg hm ⟨t, rfl⟩ hd
theorem tIntB_c {i : Int} {σ : St} {H : Hp} (h : i.natAbs.log2 < 1920) : tIntB (tC (.int i)) σ H := ⟨rfl, i, rfl, h⟩
end
/-! ### reckoning -/
section
variable {ρ : DS} {fa fb fc : DS → Res D} {f g : DS → Res Bool} {b : Bool} {c : Addr} {F : DS → Out} {j : Nat} {d : D} {ds : List D}
def leC : Res D → Res D → Res D → Res Bool
  | .ok (.int a), .ok (.int b), .ok (.int c) => .ok (decide (a ≤ b) && decide (b ≤ c))
  | _, _, _ => .bad
theorem ev_leC {x y z : Int} : leC (.ok (.int x)) (.ok (.int y)) (.ok (.int z)) = .ok (decide (x ≤ y) && decide (y ≤ z)) := id rfl
theorem ev_chain {x y z : Int} (ha : fa ρ = .ok (.int x)) (hb : fb ρ = .ok (.int y)) (hc : fc ρ = .ok (.int z)) : chainR fa fb fc leI leI ρ = .ok (decide (x ≤ y) && decide (y ≤ z)) := by
  unfold chainR
  rw [ha, hb]
  simp only [ev_bind_ok, ev_le]
  by_cases h : x ≤ y
  · rw [decide_eq_true h]
    simp only [hc, ev_bind_ok, ev_le, Bool.true_and]
  · rw [decide_eq_false h]
    rfl
theorem ev_and : andR f g ρ = (f ρ).bind fun b => if b = true then g ρ else .ok false := id rfl
theorem ev_or : orR f g ρ = (f ρ).bind fun b => if b = true then .ok true else g ρ := id rfl
theorem ev_not : notR f ρ = (f ρ).bind fun b => .ok (!b) := id rfl
theorem ev_expr : exprO fa ρ = (fa ρ).out fun _ => .nx ρ := id rfl
theorem ev_for {fi : DS → Res (List D)} : forR fi j F ρ = (fi ρ).out fun ds => forO j F ds ρ := id rfl
theorem ev_for0 : forO j F [] ρ = .nx ρ := id rfl
theorem ev_forN {ρ' : DS} (h : F (ρ.set j (some d)) = .nx ρ') : forO j F (d :: ds) ρ = forO j F ds ρ' := by show (match F (ρ.set j (some d)) with | .nx ρ' => forO j F ds ρ' | .ct ρ' => forO j F ds ρ' | .bk ρ' => .nx ρ' | .rt d => .rt d | .exc c => .exc c | .bad => .bad) = _; rw [h]
theorem ev_forX (h : F (ρ.set j (some d)) = .exc c) : forO j F (d :: ds) ρ = .exc c := by show (match F (ρ.set j (some d)) with | .nx ρ' => forO j F ds ρ' | .ct ρ' => forO j F ds ρ' | .bk ρ' => .nx ρ' | .rt d => .rt d | .exc c => .exc c | .bad => .bad) = _; rw [h]
theorem ev_forR {e : D} (h : F (ρ.set j (some d)) = .rt e) : forO j F (d :: ds) ρ = .rt e := by show (match F (ρ.set j (some d)) with | .nx ρ' => forO j F ds ρ' | .ct ρ' => forO j F ds ρ' | .bk ρ' => .nx ρ' | .rt d => .rt d | .exc c => .exc c | .bad => .bad) = _; rw [h]
theorem ev_raise {ok : DS → Bool} (h : ok ρ = true) : raiseO c ok ρ = .exc c := if_pos h
theorem ev_rb_true {α : Type} {p q : Res α} : (if true = true then p else q) = p := id rfl
theorem ev_rb_false {α : Type} {p q : Res α} : (if false = true then p else q) = q := id rfl
theorem ev_neI {a b : Int} : neO (.int a) (.int b) = .ok (.bl (!(a == b))) := id rfl
theorem ev_eqI {a b : Int} : eqO (.int a) (.int b) = .ok (.bl (a == b)) := id rfl
theorem ev_andV : andV fa fb ρ = (fa ρ).bind fun d => match d with | .bl true => fb ρ | .bl false => .ok (.bl false) | _ => .bad := id rfl
theorem ev_notV : notV fa ρ = (fa ρ).bind fun d => match d with | .bl b => .ok (.bl (!b)) | _ => .bad := id rfl
theorem ev_lstR {fs : DS → Res (List D)} : lstR fs ρ = (fs ρ).bind fun ds => if lenOk ds.length = true then .ok (.lst ds) else .bad := id rfl
theorem ev_tupR {fs : DS → Res (List D)} : tupR fs ρ = (fs ρ).bind fun ds => if lenOk ds.length = true then .ok (.tup ds) else .bad := id rfl
theorem ev_meth {C : Addr} {m : Str} {gm : List D → Res D} : methR C m fa gm ρ = (fa ρ).bind fun o => if insOf C m o = true then gm [o] else .bad := id rfl
theorem ev_slice {lo hi : DS → Res (Option Int)} : slR fa lo hi ρ = (fa ρ).bind fun d => (lo ρ).bind fun l => (hi ρ).bind fun u => sliceD l u d := id rfl
theorem ev_try {F : DS → Out} {gx : Addr → Option D} : tryO F gx ρ = match F ρ with | .exc c => (match gx c with | some d => .rt d | none => .bad) | o => o := id rfl
theorem ev_isn {d : D} : isNo d .non = .ok (.bl (isN d)) := id rfl
theorem ev_notn {d : D} : notNo d .non = .ok (.bl (!isN d)) := id rfl
theorem ev_int0 {i : Int} : (fun (_ : DS) => (Res.ok (D.int i) : Res D)) ρ = .ok (.int i) := id rfl
theorem log_small {n : Int} (h1 : -(10 ^ 20) < n) (h2 : n < 10 ^ 20) : n.natAbs.log2 < 1920 := by
  have h : n.natAbs < 2 ^ 100 := by omega
  by_cases hz : n.natAbs = 0
  · rw [hz]; decide
  · exact Nat.lt_of_lt_of_le ((Nat.log2_lt hz).mpr h) (by decide)
end
/-! ### a pure block, as a reading -/
def tO (K : PySem.W.Frag) (E : XK) (n : Nat) (F : DS → Out) : TS := fun D σ H => ∃ G ρ, Same G H ∧ Ro K G σ ρ ∧ OkO E H (F ρ) ∧
  (∀ ρ' σ' G' H', F ρ = .nx ρ' → Ext G H G' H' → Ro K G' σ' ρ' → σ'.length = n → D.nx σ' H') ∧ (∀ ρ' σ' G' H', F ρ = .bk ρ' → Ext G H G' H' → Ro K G' σ' ρ' → D.bk σ' H') ∧
  (∀ ρ' σ' G' H', F ρ = .ct ρ' → Ext G H G' H' → Ro K G' σ' ρ' → D.ct σ' H') ∧ (∀ d v G' H', F ρ = .rt d → Ext G H G' H' → Rep K G' d v → D.rt v H')
theorem pss_d {X : Cx} {E : XK} {sts : List Stmt} {F : DS → Out} (h : POs X E sts F) : PSs X sts (tO X.K E X.N.length F) := by
  intro pins s σ H D I ⟨G, ρ, hs, hr, ho, k1, k2, k3, k4⟩
  refine thn (h pins s σ G H ρ I hs hr ho) fun fl s1 q => ?_
  cases fl with
  | next => obtain ⟨ρ', σ2, G2, H2, e, J, xx, r⟩ := q; exact ⟨σ2, H2, J, k1 ρ' σ2 G2 H2 e xx r J.len⟩
  | brk => obtain ⟨ρ', σ2, G2, H2, e, J, xx, r⟩ := q; exact ⟨σ2, H2, J, k2 ρ' σ2 G2 H2 e xx r⟩
  | cont => obtain ⟨ρ', σ2, G2, H2, e, J, xx, r⟩ := q; exact ⟨σ2, H2, J, k3 ρ' σ2 G2 H2 e xx r⟩
  | ret u => obtain ⟨d, v, σ2, G2, H2, e, J, rv, xx, rp⟩ := q; exact ⟨v, σ2, H2, J, rv, k4 d v G2 H2 e xx rp⟩
/-! ### raise in short -/
section
variable {X : Cx} {E : XK}
theorem po_rF {x : Str} {np cpos pos jp : Pos} {v1 v2 : Expr} {rest : List Expr} {n : Nat} {t : St → Hp → Prop} {C : Addr} (Gx : ExcC X.K X.mg x C) (h : PFs X (v1 :: v2 :: rest) n t) (ok : DS → Bool)
    (ht : ∀ σ G H ρ, Same G H → Ro X.K G σ ρ → ok ρ = true → t σ H) (hR : Raises X E := by exact raises_cx fun _ _ _ h => h) (hc : X.calm = true := by rfl) (hg : Gl X x := by rfl) (hn : n ≤ 100000 := by decide)
    (he : starEach [.JoinedStr (v1 :: v2 :: rest) jp] X.env = (false, eval (.JoinedStr (v1 :: v2 :: rest) jp) X.env) :: starEach [] X.env := by rfl) (hdb : (x == ("__debug__" : Str)) = false := by decide) :
    PO1 X E (.Raise (some (.Call (.Name x np) [.JoinedStr (v1 :: v2 :: rest) jp] [] cpos)) none pos) (raiseO C ok) := po_raiseF hR hc Gx hg h ok ht hn he hdb
theorem po_rT {x : Str} {np cpos pos jp : Pos} {y : Str} {j : Nat} {C : Addr} (Gx : ExcC X.K X.mg x C) (hR : Raises X E := by exact raises_cx fun _ _ _ h => h) (hc : X.calm = true := by rfl) (hg : Gl X x := by rfl)
    (he : starEach [.Constant (.str y) j jp] X.env = (false, eval (.Constant (.str y) j jp) X.env) :: starEach [] X.env := by rfl) (hdb : (x == ("__debug__" : Str)) = false := by decide) :
    PO1 X E (.Raise (some (.Call (.Name x np) [.Constant (.str y) j jp] [] cpos)) none pos) (raiseO C fun _ => true) := po_raiseT hR hc Gx hg he hdb
end
/-! ### calls in short -/
section
variable {X : Cx} {E : XK}
theorem pd_cl {k : Nat} {f : Addr} {fd : FuncData} {ps : List Str} {m : List D → Res D} {x : Str} {p pos : Pos} {e : Expr} {es : List Expr} {fs : DS → Res (List D)} (F : FnOk X.prog X.w X.K X.mg X.base (CXF X.prog X.w) k f fd ps (pureSp X.K m)) (hr : Room k X.A) (hm : X.mg x = some (.ref f)) (hk : PySem.W.keepIn X.K (.ref f) = true) (hb : Binds X.K fd ps [])
    (ha : PDA X E (e :: es) fs) (hx : Passes (CXF X.prog X.w) X E := by exact cxf_pass fun _ _ _ h => h) (hg : Gl X x := by rfl) (hdb : (x == ("__debug__" : Str)) = false := by decide) (he : starEach (e :: es) X.env = (false, eval e X.env) :: starEach es X.env := by rfl) (hpl : (backTo pos (starEach es X.env)).any (·.1) = false := by rfl) :
    PD X E (.Call (.Name x p) (e :: es) [] pos) (ClR fs m) := pd_call F hr hg hm hk hb hx ha hdb he hpl
theorem pd_m0 {pl : Sem Bool} {k : Nat} {f C : Addr} {fd : FuncData} {ps : List Str} {g : List D → Res D} {m : Str} {apos pos : Pos} {o : Expr} {fo : DS → Res D} (hoo : PD X E o fo) (c : Cls X.K C) (hm : Meth X.K C m f) (F : FnOk X.prog X.w X.K X.mg X.base (CXF X.prog X.w) k f fd ps (pureSp X.K g)) (hr : Room k X.A) (hb : Binds X.K fd ps [])
    (hx : Passes (CXF X.prog X.w) X E := by exact cxf_pass fun _ _ _ h => h)
    (ht : eval (.Call (.Attribute o m apos) [] [] pos) X.env = (do
      let ov ← eval o X.env
      standAt apos.atName
      let (f, first) ← holding [ov] (getMethod ov m pl)
      callWith pos f first (backTo pos (starEach [] X.env)) (backToKw pos (keywordEach [] X.env))) := by rfl) : PD X E (.Call (.Attribute o m apos) [] [] pos) (methR C m fo g) :=
  pd_meth0 (pl := pl) hoo c hm F hr hb hx (pe_meth0 (pl := pl) (pe_d hoo) c hm F hr hb .nil hx ht)
end
/-! ### a loop that only looks -/
def Out.stops : Out → Bool
  | .rt _ => true
  | .exc _ => true
  | _ => false
def lastSet (j : Nat) (ρ : DS) (ds : List D) : DS := match ds.getLast? with
  | none => ρ
  | some d => ρ.set j (some d)
theorem for_looks {F : DS → Out} {j : Nat} {R : Out} {good : D → Bool} (hR : R.stops = true) : ∀ (ds : List D) (ρ : DS), (∀ d ∈ ds, F (ρ.set j (some d)) = if good d = true then .nx (ρ.set j (some d)) else R) →
    forO j F ds ρ = if ds.all good = true then .nx (lastSet j ρ ds) else R
  | [], ρ, _ => rfl
  | d :: ds, ρ, h => by
    have h1 := h d (List.mem_cons_self ..)
    rw [List.all_cons]
    by_cases hg : good d = true
    · rw [if_pos hg] at h1
      rw [ev_forN h1, hg, Bool.true_and, for_looks hR ds (ρ.set j (some d)) fun e he => by rw [List.set_set]; exact h e (List.mem_cons_of_mem _ he)]
      have e : lastSet j (ρ.set j (some d)) ds = lastSet j ρ (d :: ds) := by
        unfold lastSet
        cases ds with
        | nil => rfl
        | cons x r =>
          rw [List.getLast?_cons_cons]
          cases q : (x :: r).getLast? with
          | none => simp at q
          | some y => dsimp only; rw [List.set_set]
      rw [e]
    · rw [if_neg hg] at h1
      rw [Bool.eq_false_iff.mpr hg, Bool.false_and]
      cases R with
      | rt e => exact ev_forR h1
      | exc c => exact ev_forX h1
      | _ => cases hR
/-! ### builtins in short -/
section
variable {X : Cx} {E : XK} {e e2 : Expr} {p pos : Pos} {f f2 : DS → Res D}
def l1 (f : DS → Res D) : DS → Res (List D) := fun ρ => (f ρ).bind fun a => (Res.ok [] : Res (List D)).bind fun as => .ok (a :: as)
theorem pd_len (hm : X.mg "len" = none) (h : PD X E e f) (hg : Gl X "len" := by rfl) (he : starEach [e] X.env = (false, eval e X.env) :: starEach [] X.env := by rfl) : PD X E (.Call (.Name "len" p) [e] [] pos) (fun ρ => (f ρ).bind fun a => lenD [a]) := by
  have q := pd_callB (X := X) (E := E) (p := p) (pos := pos) call_len_seq dc_len hg hm PySem.boot_len (pda_cons h pda_nil he) (by decide) (by decide) he rfl
  have e : ClR (fun ρ => (f ρ).bind fun d => (Res.ok [] : Res (List D)).bind fun ds => .ok (d :: ds)) lenD = fun ρ => (f ρ).bind fun a => lenD [a] := funext fun ρ => by
    show ((f ρ).bind _).bind _ = _
    cases f ρ <;> rfl
  exact e ▸ q
theorem pd_list (hm : X.mg "list" = none) (h : PD X E e f) (hg : Gl X "list" := by rfl) (he : starEach [e] X.env = (false, eval e X.env) :: starEach [] X.env := by rfl) : PD X E (.Call (.Name "list" p) [e] [] pos) (fun ρ => (f ρ).bind fun a => listD [a]) := by
  have q := pd_callTy (X := X) (E := E) (p := p) (pos := pos) call_list_of dc_list hg hm bo_list (pda_cons h pda_nil he) (by decide) (by decide) he rfl
  have e : ClR (fun ρ => (f ρ).bind fun d => (Res.ok [] : Res (List D)).bind fun ds => .ok (d :: ds)) listD = fun ρ => (f ρ).bind fun a => listD [a] := funext fun ρ => by
    show ((f ρ).bind _).bind _ = _
    cases f ρ <;> rfl
  exact e ▸ q
theorem pd_tuple (hm : X.mg "tuple" = none) (h : PD X E e f) (hg : Gl X "tuple" := by rfl) (he : starEach [e] X.env = (false, eval e X.env) :: starEach [] X.env := by rfl) : PD X E (.Call (.Name "tuple" p) [e] [] pos) (fun ρ => (f ρ).bind fun a => tupleD [a]) := by
  have q := pd_callTy (X := X) (E := E) (p := p) (pos := pos) call_tuple_of dc_tuple hg hm bo_tuple (pda_cons h pda_nil he) (by decide) (by decide) he rfl
  have e : ClR (fun ρ => (f ρ).bind fun d => (Res.ok [] : Res (List D)).bind fun ds => .ok (d :: ds)) tupleD = fun ρ => (f ρ).bind fun a => tupleD [a] := funext fun ρ => by
    show ((f ρ).bind _).bind _ = _
    cases f ρ <;> rfl
  exact e ▸ q
theorem pd_minL (hm : X.mg "min" = none) (h : PD X E e f) (hc : X.calm = true := by rfl) (hg : Gl X "min" := by rfl) (he : starEach [e] X.env = (false, eval e X.env) :: starEach [] X.env := by rfl) : PD X E (.Call (.Name "min" p) [e] [] pos) (fun ρ => (f ρ).bind fun a => minD [a]) := by
  have q := pd_callB (X := X) (E := E) (p := p) (pos := pos) (call_minL hc) dc_minL hg hm bo_min (pda_cons h pda_nil he) (by decide) (by decide) he rfl
  have e : ClR (fun ρ => (f ρ).bind fun d => (Res.ok [] : Res (List D)).bind fun ds => .ok (d :: ds)) minD = fun ρ => (f ρ).bind fun a => minD [a] := funext fun ρ => by
    show ((f ρ).bind _).bind _ = _
    cases f ρ <;> rfl
  exact e ▸ q
theorem pd_maxL (hm : X.mg "max" = none) (h : PD X E e f) (hc : X.calm = true := by rfl) (hg : Gl X "max" := by rfl) (he : starEach [e] X.env = (false, eval e X.env) :: starEach [] X.env := by rfl) : PD X E (.Call (.Name "max" p) [e] [] pos) (fun ρ => (f ρ).bind fun a => maxD [a]) := by
  have q := pd_callB (X := X) (E := E) (p := p) (pos := pos) (call_maxL hc) dc_maxL hg hm bo_max (pda_cons h pda_nil he) (by decide) (by decide) he rfl
  have e : ClR (fun ρ => (f ρ).bind fun d => (Res.ok [] : Res (List D)).bind fun ds => .ok (d :: ds)) maxD = fun ρ => (f ρ).bind fun a => maxD [a] := funext fun ρ => by
    show ((f ρ).bind _).bind _ = _
    cases f ρ <;> rfl
  exact e ▸ q
theorem pd_min2 {fs : DS → Res (List D)} (hm : X.mg "min" = none) (h : PDA X E [e, e2] fs) (hc : X.calm = true := by rfl) (hg : Gl X "min" := by rfl) (he : starEach [e, e2] X.env = (false, eval e X.env) :: starEach [e2] X.env := by rfl) (hpl : (backTo pos (starEach [e2] X.env)).any (·.1) = false := by rfl) : PD X E (.Call (.Name "min" p) [e, e2] [] pos) (ClR fs min2D) :=
  pd_callB (call_min2 hc) dc_min2 hg hm bo_min h (by decide) (by decide) he hpl
theorem pd_max2 {fs : DS → Res (List D)} (hm : X.mg "max" = none) (h : PDA X E [e, e2] fs) (hc : X.calm = true := by rfl) (hg : Gl X "max" := by rfl) (he : starEach [e, e2] X.env = (false, eval e X.env) :: starEach [e2] X.env := by rfl) (hpl : (backTo pos (starEach [e2] X.env)).any (·.1) = false := by rfl) : PD X E (.Call (.Name "max" p) [e, e2] [] pos) (ClR fs max2D) :=
  pd_callB (call_max2 hc) dc_max2 hg hm bo_max h (by decide) (by decide) he hpl
theorem pe_ty {x : Str} {n : String} {pos : Pos} (hm : X.mg x = none) (hv : bootBuiltins x = some (.type n)) (hg : Gl X x := by rfl) (hn : x ≠ "__name__" := by decide) (hd : (x == ("__debug__" : Str)) = false := by decide) : PE X (.Name x pos) (tC (.ty n)) := pe_bltn hg hm hv rfl hn hd
theorem pe_cls {x : Str} {C : Addr} {pos : Pos} (hm : X.mg x = some (.ref C)) (hg : Gl X x := by rfl) (hd : (x == ("__debug__" : Str)) = false := by decide) : PE X (.Name x pos) (tC (.ref C)) := pe_glob hg hm rfl hd
theorem pd_is {a c : Expr} {p pos : Pos} {fa : DS → Res D} {vc : V} (hm : X.mg "isinstance" = none) (ha : PD X E a fa) (hcl : PE X c (tC vc)) (hvc : cV vc ≠ .none := by exact fun z => nomatch z) (hg : Gl X "isinstance" := by rfl)
    (hs1 : starEach [a, c] X.env = (false, eval a X.env) :: starEach [c] X.env := by rfl) (hs2 : starEach [c] X.env = (false, eval c X.env) :: starEach [] X.env := by rfl) (hpl : (backTo pos (starEach [c] X.env)).any (·.1) = false := by rfl) :
    PD X E (.Call (.Name "isinstance" p) [a, c] [] pos) (fun ρ => (fa ρ).bind (isiD X.K (cV vc))) := pd_isi ha hcl hvc hg hm hs1 hs2 hpl
end
/-! ### what no list is part of, rests upon no list -/
mutual
def noL : D → Bool
  | .lst _ => false
  | .tup l => noLs l
  | .ins _ _ l => noLs l
  | _ => true
def noLs : List D → Bool
  | [] => true
  | d :: ds => noL d && noLs ds
end
def offL (G : Hp) : Hp := fun b => match G b with
  | some (.lst _) => none
  | some (.frz _ (.lst _)) => none
  | o => o
theorem offL_same {G : Hp} : Same (offL G) G := fun b o e => by
  unfold offL at e
  split at e
  · cases e
  · cases e
  · exact e
end L2

set_option Elab.async false
set_option linter.all false
set_option maxRecDepth 100000
namespace L2
open PySem PySem.Spec PyProof.Rows
section
variable {ρ : DS} {fa fb fc : DS → Res D} {c : Addr} {l : List D} {i : Int}
def leT : D → D → Res D → Res Bool
  | .int a, .int b, z => if a ≤ b then z.bind fun c => (match c with | .int c => .ok (decide (b ≤ c)) | _ => .bad) else .ok false
  | _, _, _ => .bad
theorem ev_leT {x y z : Int} : leT (.int x) (.int y) (.ok (.int z)) = .ok (decide (x ≤ y) && decide (y ≤ z)) := by
  unfold leT
  dsimp only
  by_cases h : x ≤ y
  · rw [if_pos h, decide_eq_true h]; rfl
  · rw [if_neg h, decide_eq_false h]; rfl
theorem ev_chain2 : chainR fa fb fc leI leI ρ = (fa ρ).bind fun a => (fb ρ).bind fun b => leT a b (fc ρ) := by
  unfold chainR
  cases fa ρ with
  | ok a =>
    cases fb ρ with
    | ok b =>
      rw [ev_bind_ok, ev_bind_ok, ev_bind_ok, ev_bind_ok]
      cases a with
      | int x =>
        cases b with
        | int y =>
          rw [ev_le, ev_bind_ok]
          unfold leT
          dsimp only
          by_cases h : x ≤ y
          · rw [decide_eq_true h, if_pos h]
            dsimp only
            cases fc ρ with
            | ok c =>
              rw [ev_bind_ok, ev_bind_ok]
              cases c <;> rfl
            | _ => rfl
          · rw [decide_eq_false h, if_neg h]
        | _ => rfl
      | _ => cases b <;> rfl
    | _ => rfl
  | _ => rfl
theorem ev_asI : asI (.int i) = .ok (some i) := id rfl
theorem ev_tupS : tupS (.tup l) = .ok l := id rfl
theorem ev_seqD : seqD (.lst l) = .ok l := id rfl
theorem ev_rT : raiseO c (fun _ => true) ρ = .exc c := id rfl
theorem ev_neg : negI (.int i) = .ok (.int (-i)) := id rfl
theorem ev_tup3 {x y z : D} : (([x, y, z] : List D).length : Int) = 3 := id rfl
theorem ev_t0 {x : D} {r : List D} : ixD (.tup (x :: r)) (.int 0) = .ok x := ev_ixT (atI_of (by decide) rfl)
theorem ev_t1 {x y : D} {r : List D} : ixD (.tup (x :: y :: r)) (.int 1) = .ok y := ev_ixT (atI_of (by decide) rfl)
theorem ev_t2 {x y z : D} {r : List D} : ixD (.tup (x :: y :: z :: r)) (.int 2) = .ok z := ev_ixT (atI_of (by decide) rfl)
theorem ev_l0 {x : D} {r : List D} : ixD (.lst (x :: r)) (.int 0) = .ok x := ev_ixL (atI_of (by decide) rfl)
theorem ev_l1 {x y : D} {r : List D} : ixD (.lst (x :: y :: r)) (.int 1) = .ok y := ev_ixL (atI_of (by decide) rfl)
theorem ev_lk0 {α : Type} : lenOk ([] : List α).length = true := decide_eq_true (by show 0 ≤ 100000; decide)
theorem ev_lk1 {α : Type} {a : α} : lenOk [a].length = true := decide_eq_true (by show 1 ≤ 100000; decide)
theorem ev_lk2 {α : Type} {a b : α} : lenOk [a, b].length = true := decide_eq_true (by show 2 ≤ 100000; decide)
theorem ev_lk3 {α : Type} {a b c : α} : lenOk [a, b, c].length = true := decide_eq_true (by show 3 ≤ 100000; decide)
theorem ev_lk4 {α : Type} {a b c d : α} : lenOk [a, b, c, d].length = true := decide_eq_true (by show 4 ≤ 100000; decide)
theorem ev_sl2 {x y z : D} : sliceD none (some 2) (.tup [x, y, z]) = .ok (.tup [x, y]) := by
  unfold sliceD
  dsimp only
  rw [if_neg (by simp [HT.sIx])]
  rfl
end
theorem ext_put {G H G2 H2 H4 : Hp} {p : Addr} {o : HO} (x : Ext G H G2 H2) (np : H2 p = none) (s : ∀ b u, H2 b = some u → b ≠ p → H4 b = some u) (hp : H4 p = some o) : Ext G H (upd G2 p o) H4 := by
  refine ⟨fun b u e => s b u (x.hh b u e) (ne_of_none (x.hh b u e) np), fun b u e => ?_, fun b u e => ?_, fun b u e => ?_⟩
  · have := x.gg b u e
    rw [upd_ne (ne_of_none (x.gh b u this) np)]
    exact this
  · by_cases h : b = p
    · subst h; rw [upd_same] at e; rw [← e]; exact hp
    · rw [upd_ne h] at e; exact s b u (x.gh b u e) h
  · by_cases h : b = p
    · subst h; exact .inr (x.hh.free np)
    · rw [upd_ne h] at e; exact x.nw b u e
theorem Ro.over {K : PySem.W.Frag} {G : Hp} {σ : St} {ρ : DS} {j : Nat} {v : Option V} (h : Ro K G σ ρ) (hj : ∀ d, ρ[j]? ≠ some (some d)) : Ro K G (σ.set j v) ρ := by
  intro i d e
  have hne : i ≠ j := fun z => by subst z; exact hj d e
  obtain ⟨u, hu, ru⟩ := h i d e
  exact ⟨u, by rw [List.getElem?_set_ne (Ne.symm hne)]; exact hu, ru⟩
theorem ps_d {X : Cx} {E : XK} {st : Stmt} {F : DS → Out} (h : PO1 X E st F) : PS X st (tO X.K E X.N.length F) := by
  intro pins s σ H D I ⟨G, ρ, hs, hr, ho, k1, k2, k3, k4⟩
  refine thn (h pins s σ G H ρ I hs hr ho) fun fl s1 q => ?_
  cases fl with
  | next => obtain ⟨ρ', σ2, G2, H2, e, J, xx, r⟩ := q; exact ⟨σ2, H2, J, k1 ρ' σ2 G2 H2 e xx r J.len⟩
  | brk => obtain ⟨ρ', σ2, G2, H2, e, J, xx, r⟩ := q; exact ⟨σ2, H2, J, k2 ρ' σ2 G2 H2 e xx r⟩
  | cont => obtain ⟨ρ', σ2, G2, H2, e, J, xx, r⟩ := q; exact ⟨σ2, H2, J, k3 ρ' σ2 G2 H2 e xx r⟩
  | ret u => obtain ⟨d, v, σ2, G2, H2, e, J, rv, xx, rp⟩ := q; exact ⟨v, σ2, H2, J, rv, k4 d v G2 H2 e xx rp⟩
end L2

set_option Elab.async false
set_option linter.all false
set_option maxRecDepth 100000
namespace L2
open PySem PySem.Spec PyProof.Rows
theorem passes00 {P : Program} {w : World} {X : Cx} : Passes (CXF P w) X E00 := by
  intro pins σ H s e s' I h
  obtain ⟨_, _, _, _, _, _, _, _, _, _, _, _, _, _, q⟩ := h
  exact q.elim
theorem fmapB_map {t : D → Res Bool} {f : D → Res D} {g : D → D} : ∀ (ds : List D), (∀ d ∈ ds, t d = .ok true ∧ f d = .ok (g d)) → fmapB t f ds = .ok (ds.map g)
  | [], _ => rfl
  | d :: ds, h => by
    have h1 := h d (List.mem_cons_self ..)
    unfold fmapB
    rw [h1.1, h1.2, fmapB_map ds fun e he => h e (List.mem_cons_of_mem _ he)]
    rfl
theorem for_inv {F : DS → Out} {j : Nat} {Pv : DS → Prop} : ∀ (ds : List D) (ρ : DS), Pv ρ → (∀ d ∈ ds, ∀ ρ, Pv ρ → ∃ ρ', F (ρ.set j (some d)) = .nx ρ' ∧ Pv ρ') → ∃ ρ', forO j F ds ρ = .nx ρ' ∧ Pv ρ'
  | [], ρ, h, _ => ⟨ρ, rfl, h⟩
  | d :: ds, ρ, h, hF => by
    obtain ⟨ρ1, e1, h1⟩ := hF d (List.mem_cons_self ..) ρ h
    obtain ⟨ρ2, e2, h2⟩ := for_inv ds ρ1 h1 fun e he => hF e (List.mem_cons_of_mem _ he)
    exact ⟨ρ2, by rw [ev_forN e1]; exact e2, h2⟩
/-! ### a list that no data rests upon is taken out -/
mutual
def avoid (n : Nat) : D → Bool
  | .lst l => decide (l.length ≠ n) && avoids n l
  | .tup l => avoids n l
  | .ins _ _ l => avoids n l
  | _ => true
def avoids (n : Nat) : List D → Bool
  | [] => true
  | d :: ds => avoid n d && avoids n ds
end
def del (G : Hp) (l : Addr) : Hp := fun b => if b = l then none else G b
theorem del_ne {G : Hp} {l b : Addr} (h : b ≠ l) : del G l b = G b := if_neg h
theorem del_same {G : Hp} {l : Addr} : del G l l = none := if_pos rfl
theorem del_le {G : Hp} {l : Addr} : Same (del G l) G := fun b o e => by
  by_cases h : b = l
  · subst h; rw [del_same] at e; cases e
  · rwa [del_ne h] at e
mutual
theorem Rep.del {K : PySem.W.Frag} {G : Hp} {l : Addr} {xs : List V} (hl : G l = some (.lst xs)) : ∀ {d : D} {v : V}, avoid xs.length d = true → Rep K G d v → Rep K (L2.del G l) d v
  | .non, _, _, h => by unfold Rep at h ⊢; exact h
  | .bl _, _, _, h => by unfold Rep at h ⊢; exact h
  | .int _, _, _, h => by unfold Rep at h ⊢; exact h
  | .str _, _, _, h => by unfold Rep at h ⊢; exact h
  | .lst ds, _, ha, h => by
    unfold Rep at h ⊢
    unfold avoid at ha
    rw [Bool.and_eq_true, decide_eq_true_eq] at ha
    obtain ⟨a, ys, r, s, t⟩ := h
    have hlen : ys.length ≠ xs.length := by rw [← t.length]; exact ha.1
    refine ⟨a, ys, r, ?_, RepL.del hl ha.2 t⟩
    rcases s with (s | ⟨o, s⟩) | s
    · exact .inl (.inl (by rw [del_ne (fun z => by subst z; rw [hl] at s; cases s; exact hlen rfl)]; exact s))
    · exact .inl (.inr ⟨o, by rw [del_ne (fun z => by subst z; rw [hl] at s; cases s)]; exact s⟩)
    · exact .inr s
  | .tup ds, _, ha, h => by
    unfold Rep at h ⊢
    unfold avoid at ha
    obtain ⟨a, ys, r, s, t⟩ := h
    refine ⟨a, ys, r, ?_, RepL.del hl ha t⟩
    rcases s with (s | ⟨o, s⟩) | s
    · exact .inl (.inl (by rw [del_ne (fun z => by subst z; rw [hl] at s; cases s)]; exact s))
    · exact .inl (.inr ⟨o, by rw [del_ne (fun z => by subst z; rw [hl] at s; cases s)]; exact s⟩)
    · exact .inr s
  | .ins _ _ ds, _, ha, h => by
    unfold Rep at h ⊢
    unfold avoid at ha
    obtain ⟨a, dx, fs, r, s, n, t⟩ := h
    exact ⟨a, dx, fs, r, by rw [del_ne (fun z => by subst z; rw [hl] at s; cases s)]; exact s, n, RepL.del hl ha t⟩
theorem RepL.del {K : PySem.W.Frag} {G : Hp} {l : Addr} {xs : List V} (hl : G l = some (.lst xs)) : ∀ {ds : List D} {vs : List V}, avoids xs.length ds = true → RepL K G ds vs → RepL K (L2.del G l) ds vs
  | [], _, _, h => by unfold RepL at h ⊢; exact h
  | _ :: _, _, ha, h => by
    unfold RepL at h ⊢
    unfold avoids at ha
    rw [Bool.and_eq_true] at ha
    obtain ⟨v, r, q, a, b⟩ := h
    exact ⟨v, r, q, Rep.del hl ha.1 a, RepL.del hl ha.2 b⟩
end
theorem avoids_ints {n : Nat} : ∀ (ns : List Int), avoids n (ns.map D.int) = true
  | [] => by unfold avoids; rfl
  | _ :: ns => by rw [List.map_cons]; unfold avoids avoid; rw [avoids_ints ns]; rfl
/-! ### equality of data, reckoned -/
theorem eqBL_ints : ∀ (ns : List Int), eqBL (ns.map D.int) (ns.map D.int) = true
  | [] => by unfold eqBL; rfl
  | n :: ns => by rw [List.map_cons]; unfold eqBL eqB; rw [eqBL_ints ns]; simp
theorem plL_ints {n : Nat} : ∀ (ns : List Int), plL n (ns.map D.int) = true
  | [] => by unfold plL; rfl
  | _ :: ns => by rw [List.map_cons]; unfold plL plD; rw [plL_ints ns]; rfl
theorem ne_ints {ns : List Int} : neO (.lst (ns.map D.int)) (.lst (ns.map D.int)) = .ok (.bl false) := by
  have h : plD 20 (.lst (ns.map D.int)) = true := by unfold plD; rw [plL_ints]; rfl
  unfold neO
  rw [if_pos ⟨h, h⟩]
  unfold eqB
  rw [eqBL_ints]
  rfl
theorem ne_nil : neO (.lst []) (.lst []) = .ok (.bl false) := ne_ints (ns := [])
end L2

set_option Elab.async false
set_option linter.all false
set_option maxRecDepth 100000
set_option maxHeartbeats 4000000
namespace K1
open PySem L2
def top (i : Nat) : Stmt := PySem.Challenge.pw_haltline_k01_lines_made.main.body.getD i (.Pass ⟨0, 0, 0, 0⟩)
abbrev sDrawn : Stmt := top 15
structure Bl (mg : Str → Option Value) : Prop where
  len : mg "len" = none
section
variable {P : Program} {w : World} {K : PySem.W.Frag} {mg : Str → Option Value} {base : Heap}
def cellOf (ns : List Int) (k : Int) : Int := if ns.length = 0 then 7 else ns.getD (k % ns.length).toNat 0
def stir1 (ns : List Int) (k : Int) : Int := (cellOf ns k * 48271 + (k + 1) * 7919 + ns.length) % 2147483647
def stir2 (ns : List Int) (k : Int) : Int := (stir1 ns k * stir1 ns k + k * 16807 + 11) % 2147483647
def drawn (ns : List Int) (k many : Int) : Int := stir2 ns k * 48271 % 2147483647 / 16 % many
def mDrawn : List D → Res D
  | [.lst l, .int k, .int many] => match allInts l with
    | some ns => if 0 ≤ k ∧ k < 1000 ∧ 0 < many ∧ many < 1000 then .ok (.int (drawn ns k many)) else .bad
    | none => .bad
  | _ => .bad
theorem scDrawn : FnScope ["script", "k", "many", "cell", "stir"] ["script", "k", "many"] (defScope sDrawn) := ⟨rfl, rfl, rfl, by decide +kernel, rfl, by decide +kernel, by decide +kernel⟩
theorem ok_drawn {f : Addr} {fd : FuncData} (F : Fun K "_law_drawn" "_law_drawn" sDrawn f fd) (T : Bl mg) : FnOk P w K mg base (CXF P w) 1 f fd ["script", "k", "many"] (pureSp K mDrawn) := by
  refine F.pure scDrawn (fun ds h => ?_) (fun cdv A outer s H E hr => ?_)
  · unfold mDrawn at h
    split at h
    · rfl
    · exact absurd rfl h
  · refine ⟨_, pos_cons (po_set (i := 3) scDrawn.nd rfl (Or.inl rfl) pd_int)
      (pos_cons (po_if (pdt_cmp do_gt (pd_callB call_len_seq dc_len rfl T.len PySem.boot_len (pda_cons (dv 0) pda_nil)) pd_int (nomark _))
        (pos_one (po_set (i := 3) scDrawn.nd rfl (Or.inl rfl) (pd_ix (dv 0) (pd_bin do_mod (dv 1) (pd_callB call_len_seq dc_len rfl T.len PySem.boot_len (pda_cons (dv 0) pda_nil)))))) pos_nil)
      (pos_cons (po_set (i := 4) scDrawn.nd rfl (Or.inl rfl) (pd_bin do_mod (pd_bin do_add (pd_bin do_add (pd_bin do_mul (dv 3) pd_int) (pd_bin do_mul (pd_bin do_add (dv 1) pd_int) pd_int)) (pd_callB call_len_seq dc_len rfl T.len PySem.boot_len (pda_cons (dv 0) pda_nil))) pd_int))
      (pos_cons (po_set (i := 4) scDrawn.nd rfl (Or.inl rfl) (pd_bin do_mod (pd_bin do_add (pd_bin do_add (pd_bin do_mul (dv 4) (dv 4)) (pd_bin do_mul (dv 1) pd_int)) pd_int) pd_int))
      (pos_one (po_ret (pd_bin do_mod (pd_bin do_fdiv (pd_bin do_mod (pd_bin do_mul (dv 4) pd_int) pd_int) pd_int) (dv 2))))))), ?_⟩
    intro ds h
    unfold mDrawn at h ⊢
    split at h
    · rename_i l k many
      cases q : allInts l with
      | none => rw [q] at h; exact absurd rfl h
      | some ns =>
        rw [q] at h
        dsimp only at h ⊢
        by_cases hc : 0 ≤ k ∧ k < 1000 ∧ 0 < many ∧ many < 1000
        · rw [if_pos hc]
          have e := allInts_eq q
          subst e
          clear h q
          have e0 : startD ["script", "k", "many", "cell", "stir"] [D.lst (ns.map D.int), .int k, .int many] = [some (.lst (ns.map D.int)), some (.int k), some (.int many), none, none] := rfl
          rw [e0]
          obtain ⟨h0, h1, h2, h3⟩ := hc
          have st1 : 0 ≤ stir1 ns k ∧ stir1 ns k < 2147483647 := ⟨Int.emod_nonneg _ (by decide), Int.emod_lt_of_pos _ (by decide)⟩
          have hl : ((ns.map D.int).length : Int) = ns.length := by simp
          by_cases hz : ns.length = 0
          · have hd : decide (0 < (ns.length : Int)) = false := decide_eq_false (by omega)
            have hc7 : cellOf ns k = 7 := if_pos hz
            simp (disch := omega) only [ev_seq, ev_set, ev_if, ev_op, ev_cl, ev_asB, ev_ret, ev_var0, ev_varS, ev_set0, ev_setS, ev_bind_ok, ev_out_ok, ev_then_nx, ev_then_rt, ev_outrt, ev_lenL, ev_gt, ev_mulR, ev_add, ev_mod, ev_fdiv, hl, hd, ev_if_false, Bool.false_eq_true, if_false]
            unfold drawn stir2 stir1
            rw [hc7]
          · have hd : decide (0 < (ns.length : Int)) = true := decide_eq_true (by omega)
            have hm0 : 0 ≤ k % (ns.length : Int) := Int.emod_nonneg _ (by omega)
            have hm1 : k % (ns.length : Int) < ns.length := Int.emod_lt_of_pos _ (by omega)
            have hix : atI (ns.map D.int) (k % (ns.length : Int)) = some (.int (cellOf ns k)) := by
              refine atI_of hm0 ?_
              have hlt : (k % (ns.length : Int)).toNat < ns.length := by omega
              rw [List.getElem?_map, List.getElem?_eq_getElem hlt]
              unfold cellOf
              rw [if_neg hz]
              simp [List.getD, List.getElem?_eq_getElem hlt]
            simp (disch := omega) only [ev_seq, ev_set, ev_if, ev_op, ev_cl, ev_asB, ev_ret, ev_var0, ev_varS, ev_set0, ev_setS, ev_bind_ok, ev_out_ok, ev_then_nx, ev_then_rt, ev_outrt, ev_lenL, ev_gt, ev_mulR, ev_add, ev_mod, ev_fdiv, hl, hd, if_true, ev_ixL hix]
            rfl
        · rw [if_neg hc] at h; exact absurd rfl h
    · exact absurd rfl h
end
end K1

set_option Elab.async false
set_option linter.all false
set_option maxRecDepth 100000
set_option maxHeartbeats 4000000
namespace K1
open PySem L2
abbrev sInit : Stmt := inClass (top 10) 0
abbrev sRuns : Stmt := inClass (top 10) 1
abbrev sClear : Stmt := inClass (top 10) 2
abbrev sCheckLine : Stmt := top 11
abbrev sWay : Stmt := top 12
abbrev sCheckTrain : Stmt := top 13
abbrev sWhole : Stmt := top 16
abbrev sRow : Stmt := top 17
structure Txt (K : PySem.W.Frag) (mg : Str → Option Value) (CL CHE CBL CBT CBO : Addr) : Prop where
  len : mg "len" = none
  lst : mg "list" = none
  tup : mg "tuple" = none
  rng : mg "range" = none
  isi : mg "isinstance" = none
  mn : mg "min" = none
  mx : mg "max" = none
  tint : mg "int" = none
  tbool : mg "bool" = none
  tve : mg "ValueError" = none
  mS : ∃ t, mg "MOST_STRETCHES" = some (.int 5 t)
  mR : ∃ t, mg "MOST_RUN" = some (.int 20 t)
  mC : ∃ t, mg "MOST_CLEAR" = some (.int 5 t)
  mD : ∃ t, mg "MOST_READY" = some (.int 60 t)
  bl : ExcC K mg "BadLine" CBL
  bt : ExcC K mg "BadTrains" CBT
  mgH : mg "HaltError" = some (.ref CHE)
  mgO : mg "BadOrders" = some (.ref CBO)
  mgL : mg "Line" = some (.ref CL)
  cl : Cls K CL
  nM : NoAttr K CL "minutes"
  nG : NoAttr K CL "gap"
  kL : ExcK K CBL
  kT : ExcK K CBT
  eL : PySem.W.exmOne K (.ref CBL) (.ref CHE) = some true
  eT : PySem.W.exmOne K (.ref CBT) (.ref CHE) = some true
  iLL : PySem.W.kitOne K (.ref CBL) (.ref CBL) = some true
  iLV : PySem.W.kitOne K (.ref CBL) (.type "ValueError") = some true
  iLT : PySem.W.kitOne K (.ref CBL) (.ref CBT) = some false
  iLO : PySem.W.kitOne K (.ref CBL) (.ref CBO) = some false
  iTL : PySem.W.kitOne K (.ref CBT) (.ref CBL) = some false
  iTV : PySem.W.kitOne K (.ref CBT) (.type "ValueError") = some true
  iTT : PySem.W.kitOne K (.ref CBT) (.ref CBT) = some true
  iTO : PySem.W.kitOne K (.ref CBT) (.ref CBO) = some false
  kii : PySem.W.kitOne K (.type "int") (.type "int") = some true
  kib : PySem.W.kitOne K (.type "int") (.type "bool") = some false
  kll : PySem.W.kitOne K (.type "list") (.type "list") = some true
section
variable {P : Program} {w : World} {K : PySem.W.Frag} {mg : Str → Option Value} {base : Heap} {CL CHE CBL CBT CBO : Addr}
/-! ### check_line -/
def sm (n : Int) : Bool := decide (-(10 ^ 20) < n) && decide (n < 10 ^ 20)
theorem sm_log {n : Int} (h : sm n = true) : n.natAbs.log2 < 1920 := by
  unfold sm at h
  rw [Bool.and_eq_true, decide_eq_true_eq, decide_eq_true_eq] at h
  exact log_small h.1 h.2
def runOk (n : Int) : Bool := decide (1 ≤ n) && decide (n ≤ 20)
def lineOk (ns : List Int) (c : Int) : Bool := decide (1 ≤ (ns.length : Int)) && decide ((ns.length : Int) ≤ 5) && ns.all runOk && (decide (0 ≤ c) && decide (c ≤ 5))
def mCheckLine (CBL : Addr) : List D → Res D
  | [.lst l, .int c] => match allInts l with
    | some ns => if (ns.all sm && sm c) = true then (if lineOk ns c = true then .ok .non else .exc CBL) else .bad
    | none => .bad
  | _ => .bad
theorem scCL : FnScope ["runs", "clear", "run"] ["runs", "clear"] (defScope sCheckLine) := ⟨rfl, rfl, rfl, by decide +kernel, rfl, by decide +kernel, by decide +kernel⟩
theorem loopCL {F : DS → Out} {a b : Option D} {C : Addr} (hF : ∀ n : Int, sm n = true → F [a, b, some (.int n)] = if runOk n = true then .nx [a, b, some (.int n)] else .exc C) : ∀ (ns : List Int) (o : Option D), ns.all sm = true →
    (ns.all runOk = true → ∃ o', forO 2 F (ns.map D.int) [a, b, o] = .nx [a, b, o']) ∧ (ns.all runOk = false → forO 2 F (ns.map D.int) [a, b, o] = .exc C)
  | [], o, _ => ⟨fun _ => ⟨o, rfl⟩, fun h => by cases h⟩
  | n :: ns, o, hs => by
    rw [List.all_cons, Bool.and_eq_true] at hs
    have ih := loopCL hF ns (some (.int n)) hs.2
    have h1 := hF n hs.1
    rw [List.all_cons, List.map_cons]
    by_cases hr : runOk n = true
    · rw [hr, Bool.true_and]
      rw [if_pos hr] at h1
      have e : forO 2 F (D.int n :: ns.map D.int) [a, b, o] = forO 2 F (ns.map D.int) [a, b, some (.int n)] := ev_forN h1
      rw [e]
      exact ih
    · rw [if_neg hr] at h1
      rw [Bool.eq_false_iff.mpr hr, Bool.false_and]
      exact ⟨fun h => (by cases h), fun _ => (show forO 2 F (D.int n :: ns.map D.int) [a, b, o] = .exc C from ev_forX h1)⟩
theorem ok_checkLine {f : Addr} {fd : FuncData} (F : Fun K "check_line" "check_line" sCheckLine f fd) (T : Txt K mg CL CHE CBL CBT CBO) : FnOk P w K mg base (CXF P w) 1 f fd ["runs", "clear"] (pureSp K (mCheckLine CBL)) := by
  refine F.pure scCL (fun ds h => ?_) (fun cdv A outer s H E hr => ?_)
  · unfold mCheckLine at h
    split at h
    · rfl
    · exact absurd rfl h
  · refine ⟨_, pos_cons (po_if (pdt_not (pdt_chain do_le do_le pd_int (pd_callB call_len_seq dc_len rfl T.len PySem.boot_len (pda_cons (dv 0) pda_nil)) (pd_gI T.mS)))
        (pos_one (po_rF T.bl (pfs_cons pf_str (pfs_cons (pf_int (pe_gI T.mS)) (pfs_cons pf_str pfs_nil))) (fun _ => true) (fun σ G H ρ _ _ _ => ⟨trivial, tIntB_c (by decide), trivial, trivial⟩))) pos_nil)
      (pos_cons (po_for PassesOwn.leaving rfl scCL.nd (j := 2) rfl (Or.inl rfl) (pi_dlist (dv 0))
        (pos_one (po_if (pdt_not (pdt_chain do_le do_le pd_int (dv 2) (pd_gI T.mR)))
          (pos_one (po_rF T.bl (pfs_cons pf_str (pfs_cons (pf_int (pv 2)) (pfs_cons pf_str (pfs_cons (pf_int (pe_gI T.mR)) pfs_nil)))) (okI 2) (fun σ G H ρ _ hr hk => ⟨trivial, okI_t hr hk, trivial, tIntB_c (by decide), trivial⟩))) pos_nil)))
      (pos_one (po_if (pdt_not (pdt_chain do_le do_le pd_int (dv 1) (pd_gI T.mC)))
        (pos_one (po_rF T.bl (pfs_cons pf_str (pfs_cons (pf_int (pv 1)) (pfs_cons pf_str (pfs_cons (pf_int (pe_gI T.mC)) pfs_nil)))) (okI 1) (fun σ G H ρ _ hr hk => ⟨trivial, okI_t hr hk, trivial, tIntB_c (by decide), trivial⟩))) pos_nil))), ?_⟩
    intro ds h
    unfold mCheckLine at h ⊢
    split at h
    · rename_i l c
      cases q : allInts l with
      | none => rw [q] at h; exact absurd rfl h
      | some ns =>
        rw [q] at h
        dsimp only at h ⊢
        by_cases hc : (ns.all sm && sm c) = true
        · rw [if_pos hc]
          have e := allInts_eq q
          subst e
          clear h q
          rw [Bool.and_eq_true] at hc
          have e0 : startD ["runs", "clear", "run"] [D.lst (ns.map D.int), .int c] = [some (.lst (ns.map D.int)), some (.int c), none] := rfl
          rw [e0]
          have hl : ((ns.map D.int).length : Int) = ns.length := by simp
          have c1 : ∀ {ρ : DS} {x y z : Int} {fa fb fc : DS → Res D}, fa ρ = .ok (.int x) → fb ρ = .ok (.int y) → fc ρ = .ok (.int z) → notR (chainR fa fb fc leI leI) ρ = .ok (!(decide (x ≤ y) && decide (y ≤ z))) := fun h1 h2 h3 => by
            rw [ev_not, ev_chain h1 h2 h3]; rfl
          rw [ev_seq, ev_if, c1 (y := (ns.length : Int)) rfl (by show lenD [.lst (ns.map D.int)] = _; rw [ev_lenL, hl]) rfl]
          unfold lineOk
          by_cases h1 : (decide (1 ≤ (ns.length : Int)) && decide ((ns.length : Int) ≤ 5)) = true
          · rw [h1, Bool.true_and]
            simp only [Bool.not_true, ev_out_ok, ev_if_false, ev_then_nx]
            rw [ev_seq, ev_for]
            show outM ((forO 2 _ (ns.map D.int) _).then _) = _
            obtain ⟨L1, L2⟩ := loopCL (a := some (.lst (ns.map D.int))) (b := some (.int c)) (C := CBL) (F := ifO (notR (chainR (fun _ => .ok (.int 1)) (varR 2) (fun _ => .ok (.int 20)) leI leI)) (raiseO CBL (okI 2)) (fun ρ => .nx ρ)) (fun n hn => by
              rw [ev_if, c1 (y := n) rfl rfl rfl, ev_out_ok]
              unfold runOk
              cases (decide (1 ≤ n) && decide (n ≤ 20)) with
              | true => rfl
              | false => exact ev_raise (decide_eq_true (sm_log hn))) ns none hc.1
            by_cases h2 : ns.all runOk = true
            · obtain ⟨o', e2⟩ := L1 h2
              rw [e2, h2, Bool.true_and, ev_then_nx, ev_if, c1 (y := c) rfl rfl rfl, ev_out_ok]
              cases (decide (0 ≤ c) && decide (c ≤ 5)) with
              | true => rfl
              | false =>
                have e3 : raiseO CBL (okI 1) [some (.lst (ns.map D.int)), some (.int c), o'] = .exc CBL := ev_raise (decide_eq_true (sm_log hc.2))
                simp only [Bool.not_false, if_true, e3, ev_outexc, Bool.false_eq_true, if_false]
            · have h2' := Bool.eq_false_iff.mpr h2
              rw [L2 h2', h2', Bool.false_and]
              rfl
          · have h1' := Bool.eq_false_iff.mpr h1
            rw [h1', Bool.false_and, Bool.false_and]
            rfl
        · rw [if_neg hc] at h; exact absurd rfl h
    · exact absurd rfl h
end
end K1

set_option Elab.async false
set_option linter.all false
set_option maxRecDepth 100000
set_option maxHeartbeats 4000000
namespace K1
open PySem L2
section
variable {P : Program} {w : World} {K : PySem.W.Frag} {mg : Str → Option Value} {base : Heap} {CL CHE CBL CBT CBO : Addr}
def lineD (CL : Addr) (ns : List Int) (c : Int) : D := .ins CL ["minutes", "gap"] [.tup (ns.map D.int), .int c]
/-! ### runs, clear -/
def mRuns (CL : Addr) : List D → Res D
  | [d] => (fldD CL "minutes" d).bind fun x => listD [x]
  | _ => .bad
def mClear (CL : Addr) : List D → Res D
  | [d] => fldD CL "gap" d
  | _ => .bad
theorem scR : FnScope ["self"] ["self"] (defScope sRuns) := ⟨rfl, rfl, rfl, by decide +kernel, rfl, by decide +kernel, by decide +kernel⟩
theorem ok_runs {f : Addr} {fd : FuncData} (F : Fun K "runs" "Line.runs" sRuns f fd) (T : Txt K mg CL CHE CBL CBT CBO) : FnOk P w K mg base (CXF P w) 1 f fd ["self"] (pureSp K (mRuns CL)) := by
  refine F.pure scR (fun ds h => ?_) (fun cdv A outer s H E hr => ?_)
  · unfold mRuns at h
    split at h
    · rfl
    · exact absurd rfl h
  · refine ⟨_, pos_one (po_ret (pd_callTy call_list_of dc_list rfl T.lst bo_list (pda_cons (pd_fld (dv 0) T.cl T.nM) pda_nil))), ?_⟩
    intro ds h
    match ds, h with
    | [d], h =>
      show outM ((((fldD CL "minutes" d).bind _).bind _).out _) = (fldD CL "minutes" d).bind _
      cases fldD CL "minutes" d with
      | ok x =>
        show outM ((listD [x]).out Out.rt) = listD [x]
        cases listD [x] <;> rfl
      | _ => rfl
    | [], h => exact absurd rfl h
    | _ :: _ :: _, h => exact absurd rfl h
theorem scC : FnScope ["self"] ["self"] (defScope sClear) := ⟨rfl, rfl, rfl, by decide +kernel, rfl, by decide +kernel, by decide +kernel⟩
theorem ok_clear {f : Addr} {fd : FuncData} (F : Fun K "clear" "Line.clear" sClear f fd) (T : Txt K mg CL CHE CBL CBT CBO) : FnOk P w K mg base (CXF P w) 1 f fd ["self"] (pureSp K (mClear CL)) := by
  refine F.pure scC (fun ds h => ?_) (fun cdv A outer s H E hr => ?_)
  · unfold mClear at h
    split at h
    · rfl
    · exact absurd rfl h
  · refine ⟨_, pos_one (po_ret (pd_fld (dv 0) T.cl T.nG)), ?_⟩
    intro ds h
    match ds, h with
    | [d], h =>
      show outM ((fldD CL "gap" d).out _) = fldD CL "gap" d
      cases fldD CL "gap" d <;> rfl
    | [], h => exact absurd rfl h
    | _ :: _ :: _, h => exact absurd rfl h
theorem runs_line {ns : List Int} {c : Int} : mRuns CL [lineD CL ns c] = .ok (.lst (ns.map D.int)) := by
  unfold mRuns lineD fldD
  dsimp only
  rw [if_pos rfl]
  rfl
theorem clear_line {ns : List Int} {c : Int} : mClear CL [lineD CL ns c] = .ok (.int c) := by
  unfold mClear lineD fldD
  dsimp only
  rw [if_pos rfl]
  have : getF ["minutes", "gap"] [.tup (ns.map D.int), .int c] "gap" = some (.int c) := by
    unfold getF
    rw [if_neg (by decide +kernel)]
    unfold getF
    rw [if_pos rfl]
  rw [this]
theorem isLine {ns : List Int} {c : Int} {m : Str} (h : (["minutes", "gap"] : List Str).contains m = false) : insOf CL m (lineD CL ns c) = true := by
  unfold insOf lineD
  dsimp only
  rw [h]
  simp
/-! ### _law_whole, _law_row -/
def mWhole : List D → Res D
  | [.int _] => .ok (.bl true)
  | _ => .bad
theorem scW : FnScope ["found"] ["found"] (defScope sWhole) := ⟨rfl, rfl, rfl, by decide +kernel, rfl, by decide +kernel, by decide +kernel⟩
theorem ok_whole {f : Addr} {fd : FuncData} (F : Fun K "_law_whole" "_law_whole" sWhole f fd) (T : Txt K mg CL CHE CBL CBT CBO) : FnOk P w K mg base (CXF P w) 1 f fd ["found"] (pureSp K mWhole) := by
  refine F.pure scW (fun ds h => ?_) (fun cdv A outer s H E hr => ?_)
  · unfold mWhole at h
    split at h
    · rfl
    · exact absurd rfl h
  · refine ⟨_, pos_one (po_ret (pd_and (pd_isi (vc := .ty "int") (dv 0) (pe_bltn rfl T.tint bo_int rfl) (fun z => nomatch z) rfl T.isi) (pd_one (pd_not (pd_isi (vc := .ty "bool") (dv 0) (pe_bltn rfl T.tbool bo_bool rfl) (fun z => nomatch z) rfl T.isi))))), ?_⟩
    intro ds h
    unfold mWhole at h ⊢
    split at h
    · rename_i i
      have e1 : isiD K (.type "int") (.int i) = .ok (.bl true) := by unfold isiD tyD; dsimp only; rw [T.kii]
      have e2 : isiD K (.type "bool") (.int i) = .ok (.bl false) := by unfold isiD tyD; dsimp only; rw [T.kib]
      have e0 : startD ["found"] [D.int i] = [some (.int i)] := rfl
      rw [e0]
      have e1' : isiD (CXof P w K mg base ["found"] "_law_whole" (defScope sWhole) f cdv A outer s H E).K (cV (.ty "int")) (.int i) = .ok (.bl true) := e1
      have e2' : isiD (CXof P w K mg base ["found"] "_law_whole" (defScope sWhole) f cdv A outer s H E).K (cV (.ty "bool")) (.int i) = .ok (.bl false) := e2
      simp only [ev_seq, ev_set, ev_if, ev_op, ev_cl, ev_asB, ev_ret, ev_var0, ev_varS, ev_set0, ev_setS, ev_bind_ok, ev_bind_exc, ev_out_ok, ev_out_exc, ev_then_nx, ev_then_rt, ev_then_exc, ev_outrt, ev_outnx, ev_outexc, ev_lenL, ev_lenT, ev_lt, ev_le, ev_gt, ev_ge, ev_add, ev_sub, ev_and, ev_or, ev_not, ev_expr, ev_for, ev_neI, ev_eqI, ev_andV, ev_notV, ev_min2, ev_max2, ev_lstR, ev_tupR, ev_meth, ev_slice, ev_try, ev_isn, ev_notn, if_true, if_false, Bool.false_eq_true, Bool.not_true, Bool.not_false, Bool.true_and, Bool.false_and, Bool.true_or, Bool.false_or, e1', e2']
    · exact absurd rfl h
def mRow : List D → Res D
  | [.lst l, .lst l'] => match allInts l, allInts l' with
    | some ns, some ns' => if ns'.length ≤ 1000 then .ok (.bl (decide (ns = ns'))) else .bad
    | _, _ => .bad
  | _ => .bad
theorem mRow_ok {ns ns' : List Int} (h : ns'.length ≤ 1000) : mRow [.lst (ns.map D.int), .lst (ns'.map D.int)] = .ok (.bl (decide (ns = ns'))) := by
  unfold mRow
  dsimp only
  rw [allInts_map, allInts_map]
  exact if_pos h
theorem scRow : FnScope ["found", "due", "k"] ["found", "due"] (defScope sRow) := ⟨rfl, rfl, rfl, by decide +kernel, rfl, by decide +kernel, by decide +kernel⟩
def sameAt (ns ns' : List Int) : D → Bool
  | .int k => decide (ns[k.toNat]? = ns'[k.toNat]?)
  | _ => false
theorem rows_eq : ∀ {ns ns' : List Int}, ns.length = ns'.length → (rngD 0 ns'.length).all (sameAt ns ns') = decide (ns = ns') := by
  intro ns ns' hl
  by_cases e : ns = ns'
  · subst e
    rw [decide_eq_true rfl, List.all_eq_true]
    intro d hd
    unfold rngD at hd
    obtain ⟨i, _, rfl⟩ := List.mem_map.mp hd
    exact decide_eq_true rfl
  · rw [decide_eq_false e, Bool.eq_false_iff]
    intro h
    rw [List.all_eq_true] at h
    refine e (List.ext_getElem? fun i => ?_)
    by_cases hi : i < ns'.length
    · have := h (.int (0 + (i : Int))) (List.mem_map.mpr ⟨i, List.mem_range.mpr hi, rfl⟩)
      have h2 : ns[(0 + (i : Int)).toNat]? = ns'[(0 + (i : Int)).toNat]? := of_decide_eq_true this
      have h3 : (0 + (i : Int)).toNat = i := by omega
      rw [h3] at h2
      exact h2
    · rw [List.getElem?_eq_none (by omega), List.getElem?_eq_none (by omega)]
theorem ok_row {f fW : Addr} {fd fdW : FuncData} (F : Fun K "_law_row" "_law_row" sRow f fd) (T : Txt K mg CL CHE CBL CBT CBO) (GW : FnOk P w K mg base (CXF P w) 1 fW fdW ["found"] (pureSp K mWhole)) (bW : Binds K fdW ["found"] []) (mW : mg "_law_whole" = some (.ref fW)) (kW : PySem.W.keepIn K (.ref fW) = true) : FnOk P w K mg base (CXF P w) 2 f fd ["found", "due"] (pureSp K mRow) := by
  refine F.pure scRow (fun ds h => ?_) (fun cdv A outer s H E hr => ?_)
  · unfold mRow at h
    split at h
    · rfl
    · exact absurd rfl h
  · refine ⟨_, pos_cons (po_if (PDW.pt (pdw_or (pdt_not (pdt_val (pd_is T.isi (dv 0) (pe_ty T.lst bo_list))))
          (pdw_or1 (pdt_cmp (do_ne hr.units) (pd_len T.len (dv 0)) (pd_len T.len (dv 1)) (nomark _)))))
        (pos_one (po_ret pd_bl)) pos_nil)
      (pos_cons (po_for PassesOwn.leaving rfl scRow.nd (j := 2) rfl (Or.inl rfl) (pi_drange1 rfl T.rng (pda_cons (pd_len T.len (dv 1)) pda_nil))
        (pos_one (po_if (PDW.pt (pdw_or (pdt_not (pdt_val (pd_cl GW hr mW kW bW (pda_cons (pd_ix (dv 0) (dv 2)) pda_nil)))) (pdw_or1 (pdt_cmp (do_ne hr.units) (pd_ix (dv 0) (dv 2)) (pd_ix (dv 1) (dv 2)) (nomark _)))))
          (pos_one (po_ret pd_bl)) pos_nil)))
      (pos_one (po_ret pd_bl))), ?_⟩
    intro ds h
    unfold mRow at h ⊢
    split at h
    · rename_i l l'
      cases q : allInts l with
      | none => rw [q] at h; exact absurd rfl h
      | some ns =>
        cases q' : allInts l' with
        | none => rw [q, q'] at h; exact absurd rfl h
        | some ns' =>
          rw [q, q'] at h
          dsimp only at h ⊢
          by_cases hc : ns'.length ≤ 1000
          · rw [if_pos hc]
            have e := allInts_eq q
            have e' := allInts_eq q'
            subst e e'
            clear h q q'
            have e0 : startD ["found", "due", "k"] [D.lst (ns.map D.int), .lst (ns'.map D.int)] = [some (.lst (ns.map D.int)), some (.lst (ns'.map D.int)), none] := rfl
            rw [e0]
            have hl : ((ns.map D.int).length : Int) = ns.length := by simp
            have hl' : ((ns'.map D.int).length : Int) = ns'.length := by simp
            have e1 : isiD K (.type "list") (.lst (ns.map D.int)) = .ok (.bl true) := by unfold isiD tyD; dsimp only; rw [T.kll]
            have c1 : ∀ {a b : Int}, neO (.int a) (.int b) = .ok (.bl (!(a == b))) := rfl
            have e1' : isiD (CXof P w K mg base ["found", "due", "k"] "_law_row" (defScope sRow) f cdv A outer s H E).K (cV (.ty "list")) (.lst (ns.map D.int)) = .ok (.bl true) := e1
            simp only [ev_seq, ev_set, ev_if, ev_op, ev_cl, ev_asB, ev_ret, ev_var0, ev_varS, ev_set0, ev_setS, ev_bind_ok, ev_bind_exc, ev_out_ok, ev_out_exc, ev_then_nx, ev_then_rt, ev_then_exc, ev_outrt, ev_outnx, ev_outexc, ev_lenL, ev_lenT, ev_lt, ev_le, ev_gt, ev_ge, ev_add, ev_sub, ev_and, ev_or, ev_not, ev_expr, ev_for, ev_neI, ev_eqI, ev_andV, ev_notV, ev_min2, ev_max2, ev_lstR, ev_tupR, ev_meth, ev_slice, ev_try, ev_isn, ev_notn, if_true, if_false, Bool.false_eq_true, Bool.not_true, Bool.not_false, Bool.true_and, Bool.false_and, Bool.true_or, Bool.false_or, e1', hl, hl']
            by_cases hn : ns.length = ns'.length
            · have hb : ((ns.length : Int) == (ns'.length : Int)) = true := by rw [hn]; simp
              rw [hb]
              have er : rng1 [.int (ns'.length : Int)] = .ok (rngD 0 ns'.length) := by
                unfold rng1
                dsimp only
                rw [if_pos (by unfold smallI; rw [decide_eq_true (by omega), decide_eq_true (by omega)]; rfl)]
                rw [Int.toNat_natCast]
              simp only [ev_seq, ev_set, ev_if, ev_op, ev_cl, ev_asB, ev_ret, ev_var0, ev_varS, ev_set0, ev_setS, ev_bind_ok, ev_bind_exc, ev_out_ok, ev_out_exc, ev_then_nx, ev_then_rt, ev_then_exc, ev_outrt, ev_outnx, ev_outexc, ev_lenL, ev_lenT, ev_lt, ev_le, ev_gt, ev_ge, ev_add, ev_sub, ev_and, ev_or, ev_not, ev_expr, ev_for, ev_neI, ev_eqI, ev_andV, ev_notV, ev_min2, ev_max2, ev_lstR, ev_tupR, ev_meth, ev_slice, ev_try, ev_isn, ev_notn, if_true, if_false, Bool.false_eq_true, Bool.not_true, Bool.not_false, Bool.true_and, Bool.false_and, Bool.true_or, Bool.false_or, hl', er]
              rw [for_looks (R := .rt (.bl false)) (good := sameAt ns ns') rfl (rngD 0 ns'.length)]
              · rw [rows_eq hn]
                cases decide (ns = ns') with
                | true => rfl
                | false => rfl
              · intro d hd
                unfold rngD at hd
                obtain ⟨i, hi, rfl⟩ := List.mem_map.mp hd
                have hi' := List.mem_range.mp hi
                have g1 : atI (ns.map D.int) (0 + (i : Int)) = some (.int (ns[i]'(by omega))) := atI_of (by omega) (by
                  have : (0 + (i : Int)).toNat = i := by omega
                  rw [this, List.getElem?_map, List.getElem?_eq_getElem (by omega)]; rfl)
                have g2 : atI (ns'.map D.int) (0 + (i : Int)) = some (.int (ns'[i]'hi')) := atI_of (by omega) (by
                  have : (0 + (i : Int)).toNat = i := by omega
                  rw [this, List.getElem?_map, List.getElem?_eq_getElem (by omega)]; rfl)
                have e5 : ([some (.lst (ns.map D.int)), some (.lst (ns'.map D.int)), none] : DS).set 2 (some (.int (0 + (i : Int)))) = [some (.lst (ns.map D.int)), some (.lst (ns'.map D.int)), some (.int (0 + (i : Int)))] := rfl
                rw [e5]
                have w0 : ∀ {n : Int}, mWhole [.int n] = .ok (.bl true) := rfl
                simp only [ev_seq, ev_set, ev_if, ev_op, ev_cl, ev_asB, ev_ret, ev_var0, ev_varS, ev_set0, ev_setS, ev_bind_ok, ev_bind_exc, ev_out_ok, ev_out_exc, ev_then_nx, ev_then_rt, ev_then_exc, ev_outrt, ev_outnx, ev_outexc, ev_lenL, ev_lenT, ev_lt, ev_le, ev_gt, ev_ge, ev_add, ev_sub, ev_and, ev_or, ev_not, ev_expr, ev_for, ev_neI, ev_eqI, ev_andV, ev_notV, ev_min2, ev_max2, ev_lstR, ev_tupR, ev_meth, ev_slice, ev_try, ev_isn, ev_notn, if_true, if_false, Bool.false_eq_true, Bool.not_true, Bool.not_false, Bool.true_and, Bool.false_and, Bool.true_or, Bool.false_or, ev_ixL g1, ev_ixL g2, w0]
                have h3 : (0 + (i : Int)).toNat = i := by omega
                have h4 : sameAt ns ns' (.int (0 + (i : Int))) = ((ns[i]'(by omega)) == (ns'[i]'hi')) := by
                  show decide (ns[(0 + (i : Int)).toNat]? = ns'[(0 + (i : Int)).toNat]?) = _
                  rw [h3, List.getElem?_eq_getElem (by omega), List.getElem?_eq_getElem (by omega)]
                  by_cases hq : (ns[i]'(by omega)) = (ns'[i]'hi')
                  · rw [hq]; simp
                  · have h5 : ((ns[i]'(by omega)) == (ns'[i]'hi')) = false := beq_eq_false_iff_ne.mpr hq
                    rw [h5]
                    simp [hq]
                rw [h4]
                cases ((ns[i]'(by omega)) == (ns'[i]'hi')) <;> rfl
            · have hb : ((ns.length : Int) == (ns'.length : Int)) = false := beq_eq_false_iff_ne.mpr (by omega)
              rw [hb]
              have : ns ≠ ns' := fun z => hn (by rw [z])
              rw [decide_eq_false this]
              rfl
          · rw [if_neg hc] at h; exact absurd rfl h
    · exact absurd rfl h
end
end K1

set_option Elab.async false
set_option linter.all false
set_option maxRecDepth 100000
set_option maxHeartbeats 4000000
namespace K1
open PySem L2
section
variable {P : Program} {w : World} {K : PySem.W.Frag} {mg : Str → Option Value} {base : Heap} {CL CHE CBL CBT CBO : Addr}
def asLine (CL : Addr) : D → Option (List Int × Int)
  | .ins C' fn [.tup l, .int c] => if C' = CL ∧ fn = (["minutes", "gap"] : List Str) then (allInts l).map (·, c) else none
  | _ => none
theorem asLine_eq {d : D} {ns : List Int} {c : Int} (h : asLine CL d = some (ns, c)) : d = lineD CL ns c := by
  unfold asLine at h
  split at h
  · rename_i C' fn l c'
    split at h
    · rename_i hc
      cases q : allInts l with
      | none => rw [q] at h; cases h
      | some m =>
        rw [q] at h
        cases h
        obtain ⟨rfl, rfl⟩ := hc
        rw [allInts_eq q]
        rfl
    · cases h
  · cases h
theorem asLine_ok {ns : List Int} {c : Int} : asLine CL (lineD CL ns c) = some (ns, c) := by
  unfold asLine lineD
  dsimp only
  rw [if_pos ⟨rfl, rfl⟩, allInts_map]
  rfl
/-! ### check_train, way -/
def trainOk (n a b r : Int) : Bool := (decide (0 ≤ a) && decide (a ≤ n)) && (decide (0 ≤ b) && decide (b ≤ n)) && !(a == b) && (decide (0 ≤ r) && decide (r ≤ 60))
def mTrain (CL CBT : Addr) (good : Int → Int → D) : List D → Res D
  | [o, .tup [.int a, .int b, .int r]] => match asLine CL o with
    | some (ns, _) => if (decide (ns.length ≤ 5) && (sm a && sm b && sm r)) = true then (if trainOk ns.length a b r = true then .ok (good a b) else .exc CBT) else .bad
    | none => .bad
  | _ => .bad
theorem mTrain_inv {good : Int → Int → D} {ds : List D} (h : mTrain CL CBT good ds ≠ .bad) : ∃ (ns : List Int) (c a b r : Int), ds = [lineD CL ns c, .tup [.int a, .int b, .int r]] ∧ ns.length ≤ 5 ∧ sm a = true ∧ sm b = true ∧ sm r = true ∧
    mTrain CL CBT good ds = if trainOk ns.length a b r = true then .ok (good a b) else .exc CBT := by
  unfold mTrain at h ⊢
  split at h
  · rename_i o a b r
    cases q : asLine CL o with
    | none => rw [q] at h; exact absurd rfl h
    | some p =>
      obtain ⟨ns, c⟩ := p
      rw [q] at h
      dsimp only at h ⊢
      split at h
      · rename_i hc
        have hc' := hc
        simp only [Bool.and_eq_true, decide_eq_true_eq] at hc'
        rw [if_pos hc]
        exact ⟨ns, c, a, b, r, by rw [asLine_eq q], hc'.1, hc'.2.1.1, hc'.2.1.2, hc'.2.2, rfl⟩
      · exact absurd rfl h
  · exact absurd rfl h
theorem mTrain_ok {good : Int → Int → D} {ns : List Int} {c a b r : Int} (h1 : ns.length ≤ 5) (h2 : sm a = true) (h3 : sm b = true) (h4 : sm r = true) : mTrain CL CBT good [lineD CL ns c, .tup [.int a, .int b, .int r]] = if trainOk ns.length a b r = true then .ok (good a b) else .exc CBT := by
  unfold mTrain
  dsimp only
  rw [asLine_ok]
  dsimp only
  rw [if_pos (by rw [decide_eq_true h1, h2, h3, h4]; rfl)]
def inH (n : Int) : D → Bool
  | .int k => decide (0 ≤ k) && decide (k ≤ n)
  | _ => false
theorem scCT : FnScope ["line", "train", "last_halt", "halt", "ready"] ["line", "train"] (defScope sCheckTrain) := ⟨rfl, rfl, rfl, by decide +kernel, rfl, by decide +kernel, by decide +kernel⟩
theorem ok_checkTrain {f fR : Addr} {fd fdR : FuncData} (F : Fun K "check_train" "check_train" sCheckTrain f fd) (T : Txt K mg CL CHE CBL CBT CBO) (GR : FnOk P w K mg base (CXF P w) 1 fR fdR ["self"] (pureSp K (mRuns CL))) (bR : Binds K fdR ["self"] []) (mR : Meth K CL "runs" fR) : FnOk P w K mg base (CXF P w) 2 f fd ["line", "train"] (pureSp K (mTrain CL CBT fun _ _ => .non)) := by
  refine F.pure scCT (fun ds h => ?_) (fun cdv A outer s H E hr => ?_)
  · obtain ⟨ns, c, a, b, r, rfl, _⟩ := mTrain_inv h
    rfl
  · refine ⟨_, pos_cons (po_if (pdt_cmp (do_ne hr.units) (pd_len T.len (dv 1)) pd_int (nomark _)) (pos_one (po_rT T.bt)) pos_nil)
      (pos_cons (po_set (i := 2) scCT.nd rfl (Or.inl rfl) (pd_len T.len (pd_m0 (dv 0) T.cl mR GR hr bR)))
      (pos_cons (po_for PassesOwn.leaving rfl scCT.nd (j := 3) rfl (Or.inl rfl) (pi_dtup (pd_slice (dv 1) pdo_none (pdo_some pd_int)))
        (pos_one (po_if (pdt_not (pdt_chain do_le do_le pd_int (dv 3) (dv 2))) (pos_one (po_rF T.bt (pfs_cons pf_str (pfs_cons (pf_int (pv 3)) pfs_nil)) (okI 3) (fun σ G H ρ _ hr hk => ⟨trivial, okI_t hr hk, trivial⟩))) pos_nil)))
      (pos_cons (po_if (pdt_cmp (do_eq hr.units) (pd_ix (dv 1) pd_int) (pd_ix (dv 1) pd_int) (nomark _)) (pos_one (po_rT T.bt)) pos_nil)
      (pos_cons (po_set (i := 4) scCT.nd rfl (Or.inl rfl) (pd_ix (dv 1) pd_int))
      (pos_one (po_if (pdt_not (pdt_chain do_le do_le pd_int (dv 4) (pd_gI T.mD))) (pos_one (po_rF T.bt (pfs_cons pf_str (pfs_cons (pf_int (pv 4)) (pfs_cons pf_str (pfs_cons (pf_int (pe_gI T.mD)) pfs_nil)))) (okI 4) (fun σ G H ρ _ hr hk => ⟨trivial, okI_t hr hk, trivial, tIntB_c (by decide), trivial⟩))) pos_nil)))))), ?_⟩
    intro ds h
    obtain ⟨ns, c, a, b, r, rfl, hn, ha, hb, hr', em⟩ := mTrain_inv h
    rw [em]
    clear em h
    have e0 : startD ["line", "train", "last_halt", "halt", "ready"] [lineD CL ns c, .tup [.int a, .int b, .int r]] = [some (lineD CL ns c), some (.tup [.int a, .int b, .int r]), none, none, none] := rfl
    rw [e0]
    have hl : ((ns.map D.int).length : Int) = ns.length := by simp
    have i1 : insOf CL "runs" (lineD CL ns c) = true := isLine (by decide +kernel)
    have b3 : ((3 : Int) == 3) = true := rfl
    simp only [ev_seq, ev_set, ev_if, ev_op, ev_cl, ev_asB, ev_ret, ev_var0, ev_varS, ev_set0, ev_setS, ev_bind_ok, ev_bind_exc, ev_out_ok, ev_out_exc, ev_then_nx, ev_then_rt, ev_then_exc, ev_outrt, ev_outnx, ev_outexc, ev_lenL, ev_lenT, ev_lt, ev_le, ev_gt, ev_ge, ev_add, ev_sub, ev_and, ev_or, ev_not, ev_expr, ev_for, ev_neI, ev_eqI, ev_andV, ev_notV, ev_min2, ev_max2, ev_lstR, ev_tupR, ev_meth, ev_slice, ev_try, ev_isn, ev_notn, ev_chain2, ev_leT, ev_asI, ev_tupS, ev_seqD, ev_rT, ev_neg, ev_tup3, ev_t0, ev_t1, ev_t2, ev_l0, ev_l1, ev_sl2, if_true, if_false, Bool.false_eq_true, Bool.not_true, Bool.not_false, Bool.true_and, Bool.false_and, Bool.true_or, Bool.false_or, b3, i1, runs_line, hl]
    rw [for_looks (R := .exc CBT) (good := inH ns.length) rfl [.int a, .int b]]
    · unfold trainOk
      have e1 : ([D.int a, D.int b].all (inH ns.length)) = ((decide (0 ≤ a) && decide (a ≤ (ns.length : Int))) && (decide (0 ≤ b) && decide (b ≤ (ns.length : Int)))) := by
        show ((decide (0 ≤ a) && decide (a ≤ (ns.length : Int))) && ((decide (0 ≤ b) && decide (b ≤ (ns.length : Int))) && true)) = _
        rw [Bool.and_true]
      rw [e1]
      cases ((decide (0 ≤ a) && decide (a ≤ (ns.length : Int))) && (decide (0 ≤ b) && decide (b ≤ (ns.length : Int)))) with
      | false => rfl
      | true =>
        have e2 : lastSet 3 [some (lineD CL ns c), some (.tup [.int a, .int b, .int r]), some (.int ns.length), none, none] [.int a, .int b] = [some (lineD CL ns c), some (.tup [.int a, .int b, .int r]), some (.int ns.length), some (.int b), none] := rfl
        rw [e2]
        simp only [ev_seq, ev_set, ev_if, ev_op, ev_cl, ev_asB, ev_ret, ev_var0, ev_varS, ev_set0, ev_setS, ev_bind_ok, ev_bind_exc, ev_out_ok, ev_out_exc, ev_then_nx, ev_then_rt, ev_then_exc, ev_outrt, ev_outnx, ev_outexc, ev_lenL, ev_lenT, ev_lt, ev_le, ev_gt, ev_ge, ev_add, ev_sub, ev_and, ev_or, ev_not, ev_expr, ev_for, ev_neI, ev_eqI, ev_andV, ev_notV, ev_min2, ev_max2, ev_lstR, ev_tupR, ev_meth, ev_slice, ev_try, ev_isn, ev_notn, ev_chain2, ev_leT, ev_asI, ev_tupS, ev_seqD, ev_rT, ev_neg, ev_tup3, ev_t0, ev_t1, ev_t2, ev_l0, ev_l1, ev_sl2, if_true, if_false, Bool.false_eq_true, Bool.not_true, Bool.not_false, Bool.true_and, Bool.false_and, Bool.true_or, Bool.false_or]
        by_cases hab : a = b
        · have : (a == b) = true := by rw [hab]; simp
          rw [this]
          simp only [ev_seq, ev_set, ev_if, ev_op, ev_cl, ev_asB, ev_ret, ev_var0, ev_varS, ev_set0, ev_setS, ev_bind_ok, ev_bind_exc, ev_out_ok, ev_out_exc, ev_then_nx, ev_then_rt, ev_then_exc, ev_outrt, ev_outnx, ev_outexc, ev_lenL, ev_lenT, ev_lt, ev_le, ev_gt, ev_ge, ev_add, ev_sub, ev_and, ev_or, ev_not, ev_expr, ev_for, ev_neI, ev_eqI, ev_andV, ev_notV, ev_min2, ev_max2, ev_lstR, ev_tupR, ev_meth, ev_slice, ev_try, ev_isn, ev_notn, ev_chain2, ev_leT, ev_asI, ev_tupS, ev_seqD, ev_rT, ev_neg, ev_tup3, ev_t0, ev_t1, ev_t2, ev_l0, ev_l1, ev_sl2, if_true, if_false, Bool.false_eq_true, Bool.not_true, Bool.not_false, Bool.true_and, Bool.false_and, Bool.true_or, Bool.false_or]
        · have : (a == b) = false := beq_eq_false_iff_ne.mpr hab
          rw [this]
          simp only [ev_seq, ev_set, ev_if, ev_op, ev_cl, ev_asB, ev_ret, ev_var0, ev_varS, ev_set0, ev_setS, ev_bind_ok, ev_bind_exc, ev_out_ok, ev_out_exc, ev_then_nx, ev_then_rt, ev_then_exc, ev_outrt, ev_outnx, ev_outexc, ev_lenL, ev_lenT, ev_lt, ev_le, ev_gt, ev_ge, ev_add, ev_sub, ev_and, ev_or, ev_not, ev_expr, ev_for, ev_neI, ev_eqI, ev_andV, ev_notV, ev_min2, ev_max2, ev_lstR, ev_tupR, ev_meth, ev_slice, ev_try, ev_isn, ev_notn, ev_chain2, ev_leT, ev_asI, ev_tupS, ev_seqD, ev_rT, ev_neg, ev_tup3, ev_t0, ev_t1, ev_t2, ev_l0, ev_l1, ev_sl2, if_true, if_false, Bool.false_eq_true, Bool.not_true, Bool.not_false, Bool.true_and, Bool.false_and, Bool.true_or, Bool.false_or]
          cases (decide (0 ≤ r) && decide (r ≤ 60)) with
          | true => rfl
          | false =>
            have e3 : raiseO CBT (okI 4) [some (lineD CL ns c), some (.tup [.int a, .int b, .int r]), some (.int ns.length), some (.int b), some (.int r)] = .exc CBT := ev_raise (decide_eq_true (sm_log hr'))
            simp only [ev_seq, ev_set, ev_if, ev_op, ev_cl, ev_asB, ev_ret, ev_var0, ev_varS, ev_set0, ev_setS, ev_bind_ok, ev_bind_exc, ev_out_ok, ev_out_exc, ev_then_nx, ev_then_rt, ev_then_exc, ev_outrt, ev_outnx, ev_outexc, ev_lenL, ev_lenT, ev_lt, ev_le, ev_gt, ev_ge, ev_add, ev_sub, ev_and, ev_or, ev_not, ev_expr, ev_for, ev_neI, ev_eqI, ev_andV, ev_notV, ev_min2, ev_max2, ev_lstR, ev_tupR, ev_meth, ev_slice, ev_try, ev_isn, ev_notn, ev_chain2, ev_leT, ev_asI, ev_tupS, ev_seqD, ev_rT, ev_neg, ev_tup3, ev_t0, ev_t1, ev_t2, ev_l0, ev_l1, ev_sl2, if_true, if_false, Bool.false_eq_true, Bool.not_true, Bool.not_false, Bool.true_and, Bool.false_and, Bool.true_or, Bool.false_or, e3]
    · intro d hd
      have hd' : ∃ k : Int, d = .int k ∧ sm k = true := by
        rcases List.mem_cons.mp hd with h | h
        · exact ⟨a, h, ha⟩
        · exact ⟨b, List.mem_singleton.mp h, hb⟩
      obtain ⟨k, rfl, hk⟩ := hd'
      have e5 : ([some (lineD CL ns c), some (.tup [.int a, .int b, .int r]), some (.int ns.length), none, none] : DS).set 3 (some (.int k)) = [some (lineD CL ns c), some (.tup [.int a, .int b, .int r]), some (.int ns.length), some (.int k), none] := rfl
      rw [e5]
      simp only [ev_seq, ev_set, ev_if, ev_op, ev_cl, ev_asB, ev_ret, ev_var0, ev_varS, ev_set0, ev_setS, ev_bind_ok, ev_bind_exc, ev_out_ok, ev_out_exc, ev_then_nx, ev_then_rt, ev_then_exc, ev_outrt, ev_outnx, ev_outexc, ev_lenL, ev_lenT, ev_lt, ev_le, ev_gt, ev_ge, ev_add, ev_sub, ev_and, ev_or, ev_not, ev_expr, ev_for, ev_neI, ev_eqI, ev_andV, ev_notV, ev_min2, ev_max2, ev_lstR, ev_tupR, ev_meth, ev_slice, ev_try, ev_isn, ev_notn, ev_chain2, ev_leT, ev_asI, ev_tupS, ev_seqD, ev_rT, ev_neg, ev_tup3, ev_t0, ev_t1, ev_t2, ev_l0, ev_l1, ev_sl2, if_true, if_false, Bool.false_eq_true, Bool.not_true, Bool.not_false, Bool.true_and, Bool.false_and, Bool.true_or, Bool.false_or]
      have e6 : inH ns.length (.int k) = (decide (0 ≤ k) && decide (k ≤ (ns.length : Int))) := rfl
      rw [e6]
      cases (decide (0 ≤ k) && decide (k ≤ (ns.length : Int))) with
      | true => rfl
      | false =>
        have e3 : raiseO CBT (okI 3) [some (lineD CL ns c), some (.tup [.int a, .int b, .int r]), some (.int ns.length), some (.int k), none] = .exc CBT := ev_raise (decide_eq_true (sm_log hk))
        simp only [ev_seq, ev_set, ev_if, ev_op, ev_cl, ev_asB, ev_ret, ev_var0, ev_varS, ev_set0, ev_setS, ev_bind_ok, ev_bind_exc, ev_out_ok, ev_out_exc, ev_then_nx, ev_then_rt, ev_then_exc, ev_outrt, ev_outnx, ev_outexc, ev_lenL, ev_lenT, ev_lt, ev_le, ev_gt, ev_ge, ev_add, ev_sub, ev_and, ev_or, ev_not, ev_expr, ev_for, ev_neI, ev_eqI, ev_andV, ev_notV, ev_min2, ev_max2, ev_lstR, ev_tupR, ev_meth, ev_slice, ev_try, ev_isn, ev_notn, ev_chain2, ev_leT, ev_asI, ev_tupS, ev_seqD, ev_rT, ev_neg, ev_tup3, ev_t0, ev_t1, ev_t2, ev_l0, ev_l1, ev_sl2, if_true, if_false, Bool.false_eq_true, Bool.not_true, Bool.not_false, Bool.true_and, Bool.false_and, Bool.true_or, Bool.false_or, e3]
def wayI (a b : Int) : List Int := if a < b then (List.range (b - a).toNat).map (fun (i : Nat) => a + (i : Int)) else (List.range (a - b).toNat).map (fun (i : Nat) => a - 1 - (i : Int))
theorem scWay : FnScope ["line", "train", "start", "end"] ["line", "train"] (defScope sWay) := ⟨rfl, rfl, rfl, by decide +kernel, rfl, by decide +kernel, by decide +kernel⟩
theorem ok_way {f fC : Addr} {fd fdC : FuncData} (F : Fun K "way" "way" sWay f fd) (T : Txt K mg CL CHE CBL CBT CBO) (GC : FnOk P w K mg base (CXF P w) 2 fC fdC ["line", "train"] (pureSp K (mTrain CL CBT fun _ _ => .non))) (bC : Binds K fdC ["line", "train"] []) (mC : mg "check_train" = some (.ref fC)) (kC : PySem.W.keepIn K (.ref fC) = true) : FnOk P w K mg base (CXF P w) 3 f fd ["line", "train"] (pureSp K (mTrain CL CBT fun a b => .lst ((wayI a b).map D.int))) := by
  refine F.pure scWay (fun ds h => ?_) (fun cdv A outer s H E hr => ?_)
  · obtain ⟨ns, c, a, b, r, rfl, _⟩ := mTrain_inv h
    rfl
  · refine ⟨_, pos_cons (po_expr (pd_cl GC hr mC kC bC (pda_cons (dv 0) (pda_cons (dv 1) pda_nil))))
      (pos_cons (po_set (i := 2) scWay.nd rfl (Or.inl rfl) (pd_ix (dv 1) pd_int))
      (pos_cons (po_set (i := 3) scWay.nd rfl (Or.inl rfl) (pd_ix (dv 1) pd_int))
      (pos_cons (po_if (pdt_cmp do_lt (dv 2) (dv 3) (nomark _)) (pos_one (po_ret (pd_lrange2 rfl rfl T.lst rfl T.rng (pda_cons (dv 2) (pda_cons (dv 3) pda_nil))))) pos_nil)
      (pos_one (po_ret (pd_lrange3 rfl rfl T.lst rfl T.rng (pda_cons (pd_bin do_sub (dv 2) pd_int) (pda_cons (pd_bin do_sub (dv 3) pd_int) (pda_cons (pd_neg pd_int) pda_nil))))))))), ?_⟩
    intro ds h
    obtain ⟨ns, c, a, b, r, rfl, hn, ha, hb, hr', em⟩ := mTrain_inv h
    rw [em]
    clear em h
    have e0 : startD ["line", "train", "start", "end"] [lineD CL ns c, .tup [.int a, .int b, .int r]] = [some (lineD CL ns c), some (.tup [.int a, .int b, .int r]), none, none] := rfl
    rw [e0]
    have e1 := mTrain_ok (CL := CL) (CBT := CBT) (good := fun _ _ => .non) (c := c) hn ha hb hr'
    simp only [ev_seq, ev_set, ev_if, ev_op, ev_cl, ev_asB, ev_ret, ev_var0, ev_varS, ev_set0, ev_setS, ev_bind_ok, ev_bind_exc, ev_out_ok, ev_out_exc, ev_then_nx, ev_then_rt, ev_then_exc, ev_outrt, ev_outnx, ev_outexc, ev_lenL, ev_lenT, ev_lt, ev_le, ev_gt, ev_ge, ev_add, ev_sub, ev_and, ev_or, ev_not, ev_expr, ev_for, ev_neI, ev_eqI, ev_andV, ev_notV, ev_min2, ev_max2, ev_lstR, ev_tupR, ev_meth, ev_slice, ev_try, ev_isn, ev_notn, ev_chain2, ev_leT, ev_asI, ev_tupS, ev_seqD, ev_rT, ev_neg, ev_tup3, ev_t0, ev_t1, ev_t2, ev_l0, ev_l1, ev_sl2, if_true, if_false, Bool.false_eq_true, Bool.not_true, Bool.not_false, Bool.true_and, Bool.false_and, Bool.true_or, Bool.false_or, e1]
    by_cases ht : trainOk ns.length a b r = true
    · rw [if_pos ht, if_pos ht]
      simp only [ev_seq, ev_set, ev_if, ev_op, ev_cl, ev_asB, ev_ret, ev_var0, ev_varS, ev_set0, ev_setS, ev_bind_ok, ev_bind_exc, ev_out_ok, ev_out_exc, ev_then_nx, ev_then_rt, ev_then_exc, ev_outrt, ev_outnx, ev_outexc, ev_lenL, ev_lenT, ev_lt, ev_le, ev_gt, ev_ge, ev_add, ev_sub, ev_and, ev_or, ev_not, ev_expr, ev_for, ev_neI, ev_eqI, ev_andV, ev_notV, ev_min2, ev_max2, ev_lstR, ev_tupR, ev_meth, ev_slice, ev_try, ev_isn, ev_notn, ev_chain2, ev_leT, ev_asI, ev_tupS, ev_seqD, ev_rT, ev_neg, ev_tup3, ev_t0, ev_t1, ev_t2, ev_l0, ev_l1, ev_sl2, if_true, if_false, Bool.false_eq_true, Bool.not_true, Bool.not_false, Bool.true_and, Bool.false_and, Bool.true_or, Bool.false_or]
      unfold trainOk at ht
      simp only [Bool.and_eq_true, decide_eq_true_eq] at ht
      obtain ⟨⟨⟨⟨h1, h2⟩, h3, h4⟩, _⟩, _⟩ := ht
      unfold wayI
      by_cases hab : a < b
      · have e2 : lrng2 [.int a, .int b] = .ok (.lst (((List.range (b - a).toNat).map (fun (i : Nat) => a + (i : Int))).map D.int)) := by
          unfold lrng2 tinyI lenOk
          dsimp only
          rw [if_pos (by simp only [Bool.and_eq_true, decide_eq_true_eq]; omega)]
          unfold rngD
          rw [List.map_map]
          rfl
        rw [decide_eq_true hab, if_pos hab]
        simp only [ev_seq, ev_set, ev_if, ev_op, ev_cl, ev_asB, ev_ret, ev_var0, ev_varS, ev_set0, ev_setS, ev_bind_ok, ev_bind_exc, ev_out_ok, ev_out_exc, ev_then_nx, ev_then_rt, ev_then_exc, ev_outrt, ev_outnx, ev_outexc, ev_lenL, ev_lenT, ev_lt, ev_le, ev_gt, ev_ge, ev_add, ev_sub, ev_and, ev_or, ev_not, ev_expr, ev_for, ev_neI, ev_eqI, ev_andV, ev_notV, ev_min2, ev_max2, ev_lstR, ev_tupR, ev_meth, ev_slice, ev_try, ev_isn, ev_notn, ev_chain2, ev_leT, ev_asI, ev_tupS, ev_seqD, ev_rT, ev_neg, ev_tup3, ev_t0, ev_t1, ev_t2, ev_l0, ev_l1, ev_sl2, if_true, if_false, Bool.false_eq_true, Bool.not_true, Bool.not_false, Bool.true_and, Bool.false_and, Bool.true_or, Bool.false_or, e2]
      · have e2 : lrng3 [.int (a - 1), .int (b - 1), .int (-1)] = .ok (.lst (((List.range (a - b).toNat).map (fun (i : Nat) => a - 1 - (i : Int))).map D.int)) := by
          unfold lrng3 tinyI lenOk
          dsimp only
          rw [if_pos (by simp only [Bool.and_eq_true, decide_eq_true_eq]; exact ⟨by omega, trivial⟩)]
          unfold rngDown
          rw [List.map_map]
          have : (a - 1 - (b - 1)).toNat = (a - b).toNat := by omega
          rw [this]
          rfl
        rw [decide_eq_false hab, if_neg hab]
        simp only [ev_seq, ev_set, ev_if, ev_op, ev_cl, ev_asB, ev_ret, ev_var0, ev_varS, ev_set0, ev_setS, ev_bind_ok, ev_bind_exc, ev_out_ok, ev_out_exc, ev_then_nx, ev_then_rt, ev_then_exc, ev_outrt, ev_outnx, ev_outexc, ev_lenL, ev_lenT, ev_lt, ev_le, ev_gt, ev_ge, ev_add, ev_sub, ev_and, ev_or, ev_not, ev_expr, ev_for, ev_neI, ev_eqI, ev_andV, ev_notV, ev_min2, ev_max2, ev_lstR, ev_tupR, ev_meth, ev_slice, ev_try, ev_isn, ev_notn, ev_chain2, ev_leT, ev_asI, ev_tupS, ev_seqD, ev_rT, ev_neg, ev_tup3, ev_t0, ev_t1, ev_t2, ev_l0, ev_l1, ev_sl2, if_true, if_false, Bool.false_eq_true, Bool.not_true, Bool.not_false, Bool.true_and, Bool.false_and, Bool.true_or, Bool.false_or, e2]
    · rw [if_neg ht, if_neg ht]
      rfl
end
end K1

set_option Elab.async false
set_option linter.all false
set_option maxRecDepth 100000
set_option maxHeartbeats 4000000
namespace K1
open PySem L2
abbrev sTold : Stmt := top 19
abbrev sWent : Stmt := top 20
section
variable {P : Program} {w : World} {K : PySem.W.Frag} {mg : Str → Option Value} {base : Heap} {CL CHE CBL CBT CBO : Addr}
/-! ### Line.__init__ -/
def mInit (CL CBL : Addr) : List D → Res D
  | [.lst l, .int c] => (mCheckLine CBL [.lst l, .int c]).bind fun _ => .ok (.ins CL ["minutes", "gap"] [.tup l, .int c])
  | _ => .bad
theorem mInit_mk : MkOf CL (mInit CL CBL) := by
  intro ds d h
  unfold mInit at h
  split at h
  · rename_i l c
    cases q : mCheckLine CBL [.lst l, .int c] with
    | ok x => rw [q] at h; cases h; exact ⟨_, _, rfl⟩
    | exc x => rw [q] at h; cases h
    | bad => rw [q] at h; cases h
  · cases h
theorem mInit_inv {E : XK} {H : Hp} {ds : List D} (h : OkR E H (mInit CL CBL ds)) : ∃ l c, ds = [.lst l, .int c] := by
  unfold mInit at h
  split at h
  · exact ⟨_, _, rfl⟩
  · exact h.elim
theorem flds_eq (v u : V) : putF "gap" u (putF "minutes" v []) = ([("minutes", v), ("gap", u)] : List (Str × V)) := by
  show (if ("minutes" : Str) = "gap" then [(("minutes" : Str), u)] else (("minutes" : Str), v) :: putF "gap" u []) = ([("minutes", v), ("gap", u)] : List (Str × V))
  rw [if_neg (by decide +kernel)]
  rfl
theorem scI : FnScope ["self", "runs", "clear"] ["self", "runs", "clear"] (defScope sInit) := ⟨rfl, rfl, rfl, by decide +kernel, rfl, by decide +kernel, by decide +kernel⟩
theorem ok_init {f fC : Addr} {fd fdC : FuncData} (F : Fun K "__init__" "Line.__init__" sInit f fd) (T : Txt K mg CL CHE CBL CBT CBO) (GC : FnOk P w K mg base (CXF P w) 1 fC fdC ["runs", "clear"] (pureSp K (mCheckLine CBL))) (bC : Binds K fdC ["runs", "clear"] []) (mC : mg "check_line" = some (.ref fC)) (kC : PySem.W.keepIn K (.ref fC) = true) : FnOk P w K mg base (CXF P w) 2 f fd ["self", "runs", "clear"] (initSp K CL (mInit CL CBL)) := by
  refine F.okF scI (fun vs H Q E h => ?_) (fun cdv A outer s H vs Q E hr h => ?_)
  · obtain ⟨p, dx, rest, ds, G, rfl, _, _, _, rl, ho, _⟩ := h
    obtain ⟨l, c, rfl⟩ := mInit_inv ho
    have := rl.length
    simp only [List.length_cons, List.length_nil] at this ⊢
    omega
  · obtain ⟨p, dx, rest, ds, G, rfl, hp, hs, gp, rl, ho, k⟩ := h
    obtain ⟨l, c, rfl⟩ := mInit_inv ho
    · obtain ⟨v1, r1, rfl, p1, rl⟩ := rl.inv
      obtain ⟨v2, r2, rfl, p2, rl⟩ := rl.inv
      cases rl.inv0
      have ho' : OkR E H ((mCheckLine CBL [.lst l, .int c]).bind fun _ => .ok (D.ins CL ["minutes", "gap"] [.tup l, .int c])) := ho
      refine ⟨_, pss_cons (ps_expr (pe_d (E := E) (pd_cl GC hr mC kC bC (pda_cons (dv 1) (pda_cons (dv 2) pda_nil)))))
        (pss_cons (ps_fld (pv 0) (pe_d (E := E) (pd_tuple T.tup (dv 1))) rfl) (pss_one (ps_fld (pv 0) (pv 2) rfl))), ?_⟩
      have ro : Ro K G (start ["self", "runs", "clear"] [.ref p, v1, v2]) [none, some (.lst l), some (.int c)] := Ro.skip (Ro.cons p1 (Ro.cons p2 Ro.nil))
      refine ⟨G, _, hs, ro, ho'.fst, fun d ed v G1 H1 x1 rp1 => ?_⟩
      refine ⟨G1, _, x1.gh, ro.mono x1.gg, trivial, fun d2 ed2 u G2 H2 x2 rp2 => ?_⟩
      have ed3 : d2 = .tup l := by cases ed2; rfl
      subst ed3
      have x := x1.trans x2
      have h2p : H2 p = some (.ins CL dx []) := x.hh _ _ hp
      have g2p : G2 p = none := by
        cases q : G2 p with
        | none => rfl
        | some o =>
          rcases x.nw p o q with z | z
          · rw [gp] at z; cases z
          · rw [hp] at z; cases z
      refine ⟨_, rfl, p, CL, dx, [], rfl, h2p, T.cl, T.nM, (by show 0 < 1000; decide), _, rfl, _, rfl, p, CL, dx, _, rfl, upd_same, T.cl, T.nG, (by show 1 < 1000; decide), ?_⟩
      refine k ["minutes", "gap"] [.tup l, .int c] ?_ [("minutes", u), ("gap", v2)] G2 _ rfl (.cons rp2 (.cons (p2.mono x.gg) .nil)) (by rw [upd_same, flds_eq]) (fun b o e hb => ?_) x.gg (fun b o e => ?_) x.nw g2p
      · show (mCheckLine CBL [.lst l, .int c]).bind _ = _
        have : mCheckLine CBL [.lst l, .int c] = .ok d := ed
        rw [this]
        rfl
      · rw [upd_ne hb, upd_ne hb]
        exact x.hh b o e
      · have hb : b ≠ p := fun z => by subst z; rw [g2p] at e; cases e
        rw [upd_ne hb, upd_ne hb]
        exact x.gh b o e
end
end K1

set_option Elab.async false
set_option linter.all false
set_option maxRecDepth 100000
set_option maxHeartbeats 4000000
namespace K1
open PySem L2
section
variable {P : Program} {w : World} {K : PySem.W.Frag} {mg : Str → Option Value} {base : Heap} {CL CHE CBL CBT CBO : Addr}
theorem boot_isi : bootBuiltins "isinstance" = some (.builtin "isinstance") := by decide +kernel
def rIsi (K : PySem.W.Frag) : List V → Hp → VK → Prop := fun xs H Q => ∃ x c t b, xs = [x, c] ∧ cV c ≠ .none ∧ TyX K H x t ∧ PySem.W.kitOne K t (cV c) = some b ∧ Q (.bl b) H
theorem call_isiK {X : Cx} (K : PySem.W.Frag) (h : X.K = K) : CallR X (.builtin "isinstance") (rIsi K) := by subst h; exact call_isi
def marked (a b c d : Bool) : D := .tup [.non, .lst [.bl a, .bl b, .bl c, .bl d]]
/-! the handler that tells marks -/
theorem marks_end {K : PySem.W.Frag} {H : Hp} {e : Addr} {o : HO} {a b c d : Bool} {Q : VK} (k : ∀ v G' H', Same H H' → Same G' H' → (∀ b o, G' b = some o → H b = none) → Rep K G' (marked a b c d) v → Q v H')
    (he : H e = none) (l t : Addr) (hl : (upd H e o) l = none) (ht : (upd (upd H e o) l (.lst [.bl a, .bl b, .bl c, .bl d])) t = none) : Q (.ref t) (upd (upd (upd H e o) l (.lst [.bl a, .bl b, .bl c, .bl d])) t (.tup [.non, .ref l])) := by
  have nl : H l = none := by
    by_cases z : l = e
    · subst z; exact he
    · rwa [upd_ne z] at hl
  have tl : t ≠ l := fun z => by subst z; rw [upd_same] at ht; cases ht
  have ht' : (upd H e o) t = none := by rwa [upd_ne tl] at ht
  have nt : H t = none := by
    by_cases z : t = e
    · subst z; exact he
    · rwa [upd_ne z] at ht'
  refine k (.ref t) (upd (upd (fun _ => none) l (.lst [.bl a, .bl b, .bl c, .bl d])) t (.tup [.non, .ref l])) _ ?_ ?_ ?_ ?_
  · intro x u ex
    rw [upd_ne (ne_of_none ex nt), upd_ne (ne_of_none ex nl), upd_ne (ne_of_none ex he)]
    exact ex
  · intro x u ex
    by_cases h1 : x = t
    · subst h1; rw [upd_same] at ex ⊢; exact ex
    · rw [upd_ne h1] at ex ⊢
      by_cases h2 : x = l
      · subst h2; rw [upd_same] at ex ⊢; exact ex
      · rw [upd_ne h2] at ex; cases ex
  · intro x u ex
    by_cases h1 : x = t
    · subst h1; exact nt
    · rw [upd_ne h1] at ex
      by_cases h2 : x = l
      · subst h2; exact nl
      · rw [upd_ne h2] at ex; cases ex
  · unfold marked
    rw [rep_tup]
    refine ⟨t, [.non, .ref l], rfl, .inl (.inl upd_same), .cons (rep_non.mpr rfl) (.cons ?_ .nil)⟩
    rw [rep_lst]
    refine ⟨l, [.bl a, .bl b, .bl c, .bl d], rfl, .inl (.inl (by rw [upd_ne tl.symm, upd_same])), .cons (rep_bl.mpr rfl) (.cons (rep_bl.mpr rfl) (.cons (rep_bl.mpr rfl) (.cons (rep_bl.mpr rfl) .nil)))⟩
/-! ### _law_told -/
def mTold (CL CBL : Addr) (ds : List D) : Res D := match mInit CL CBL ds with
  | .ok d => .ok (.tup [d, .lst []])
  | .exc _ => .ok (marked true true false false)
  | .bad => .bad
def gTold (CBL : Addr) (c : Addr) : Option D := if c = CBL then some (marked true true false false) else none
theorem mInit_exc {ds : List D} {c : Addr} (h : mInit CL CBL ds = .exc c) : c = CBL := by
  unfold mInit at h
  split at h
  · rename_i l c'
    unfold mCheckLine at h
    dsimp only at h
    split at h
    · split at h
      · split at h
        · cases h
        · cases h; rfl
      · cases h
    · cases h
  · cases h
theorem scTo : FnScope ["runs", "gap", "found", "e", "marks"] ["runs", "gap"] (defScope sTold) := ⟨rfl, rfl, rfl, by decide +kernel, rfl, by decide +kernel, by decide +kernel⟩
theorem ok_told {f fI : Addr} {fd fdI : FuncData} (F : Fun K "_law_told" "_law_told" sTold f fd) (T : Txt K mg CL CHE CBL CBT CBO) (M : Mk K CL fI) (GI : FnOk P w K mg base (CXF P w) 2 fI fdI ["self", "runs", "clear"] (initSp K CL (mInit CL CBL))) (bI : Binds K fdI ["self", "runs", "clear"] []) : FnOk P w K mg base (CXF P w) 4 f fd ["runs", "gap"] (pureSp K (mTold CL CBL)) := by
  refine F.pure scTo (fun ds h => ?_) (fun cdv A outer s H E hr => ?_)
  · unfold mTold mInit at h
    split at h <;> rename_i q
    · split at q
      · rfl
      · cases q
    · split at q
      · rfl
      · cases q
    · exact absurd rfl h
  · refine ⟨_, pos_cons (po_try (i := 3) (C := CHE) (g := gTold CBL) scTo.nd rfl rfl rfl T.mgH rfl rfl
        (fun E' Et pn hx _ => pos_one (po_set (i := 2) scTo.nd rfl (Or.inl rfl) (pd_make M GI mInit_mk hr rfl T.mgL bI hx (pda_cons (dv 0) (pda_cons (dv 1) pda_nil)) fun t ht => pe_make M GI hr rfl T.mgL bI .nil hx ht)))
        (fun e E' => pss_cons (ps_set (i := 4) scTo.nd rfl (Or.inl rfl) (pe_lst (pa_cons (pe_callB (call_isiK K rfl) rfl T.isi boot_isi (pa_cons (pv 3) (pa_cons (pe_cls T.bl.mgx) pa_nil)))
            (pa_cons (pe_callB (call_isiK K rfl) rfl T.isi boot_isi (pa_cons (pv 3) (pa_cons (pe_ty T.tve bo_ve) pa_nil)))
            (pa_cons (pe_callB (call_isiK K rfl) rfl T.isi boot_isi (pa_cons (pv 3) (pa_cons (pe_cls T.bt.mgx) pa_nil)))
            (pa_cons (pe_callB (call_isiK K rfl) rfl T.isi boot_isi (pa_cons (pv 3) (pa_cons (pe_cls T.mgO) pa_nil))) pa_nil))))))
          (pss_one (ps_ret (pe_tup (pa_cons pe_non (pa_cons (pv 4) pa_nil))))))
        ?hgm ?hth)
      (pos_one (po_ret (pd_tup (pda_cons (dv 2) (pda_cons (pd_lst pda_nil) pda_nil))))), ?_⟩
    case hgm =>
      intro c d hg
      unfold gTold at hg
      split at hg
      · rename_i z; subst z; exact T.eL
      · cases hg
    case hth =>
      intro c d hg Dn H1 e he k
      unfold gTold at hg
      split at hg
      · rename_i z
        subst z
        cases hg
        have ty : TyX K (upd H1 e (ExcO e (.ref c))) (.ref e) (.ref c) := .inr ⟨e, c, rfl, rfl, upd_same, T.kL⟩
        refine ⟨_, rfl, _, _, _, _, rfl, (fun z => nomatch z), ty, T.iLL, _, rfl, _, _, _, _, rfl, (fun z => nomatch z), ty, T.iLV, _, rfl, _, _, _, _, rfl, (fun z => nomatch z), ty, T.iLT, _, rfl, _, _, _, _, rfl, (fun z => nomatch z), ty, T.iLO, (by show 4 ≤ sizeLine; decide), fun l hl => ?_⟩
        refine ⟨_, rfl, (by show 2 ≤ sizeLine; decide), fun t ht => ?_⟩
        exact marks_end k he l t hl ht
      · cases hg
    · intro ds h
      unfold mTold at h ⊢
      cases q : mInit CL CBL ds with
      | bad => rw [q] at h; exact absurd rfl h
      | ok d =>
        have hds : ∃ l c, ds = [.lst l, .int c] := mInit_inv (E := fun _ _ _ => False) (H := fun _ => none) (by rw [q]; trivial)
        obtain ⟨l, c, rfl⟩ := hds
        have e0 : startD ["runs", "gap", "found", "e", "marks"] [D.lst l, .int c] = [some (.lst l), some (.int c), none, none, none] := rfl
        rw [e0]
        simp only [ev_seq, ev_set, ev_if, ev_op, ev_cl, ev_asB, ev_ret, ev_var0, ev_varS, ev_set0, ev_setS, ev_bind_ok, ev_bind_exc, ev_out_ok, ev_out_exc, ev_then_nx, ev_then_rt, ev_then_exc, ev_outrt, ev_outnx, ev_outexc, ev_lenL, ev_lenT, ev_lt, ev_le, ev_gt, ev_ge, ev_add, ev_sub, ev_and, ev_or, ev_not, ev_expr, ev_for, ev_neI, ev_eqI, ev_andV, ev_notV, ev_min2, ev_max2, ev_lstR, ev_tupR, ev_meth, ev_slice, ev_try, ev_isn, ev_notn, ev_chain2, ev_leT, ev_asI, ev_tupS, ev_seqD, ev_rT, ev_neg, ev_tup3, ev_t0, ev_t1, ev_t2, ev_l0, ev_l1, ev_sl2, ev_lk0, ev_lk1, ev_lk2, ev_lk3, ev_lk4, if_true, if_false, Bool.false_eq_true, Bool.not_true, Bool.not_false, Bool.true_and, Bool.false_and, Bool.true_or, Bool.false_or, q]
      | exc c =>
        have hc := mInit_exc q
        subst hc
        have hds : ∃ l c, ds = [.lst l, .int c] := mInit_inv (E := fun _ _ _ => True) (H := fun _ => none) (by rw [q]; exact fun _ _ => trivial)
        obtain ⟨l, x, rfl⟩ := hds
        have e0 : startD ["runs", "gap", "found", "e", "marks"] [D.lst l, .int x] = [some (.lst l), some (.int x), none, none, none] := rfl
        rw [e0]
        have e1 : gTold c c = some (marked true true false false) := if_pos rfl
        simp only [ev_seq, ev_set, ev_if, ev_op, ev_cl, ev_asB, ev_ret, ev_var0, ev_varS, ev_set0, ev_setS, ev_bind_ok, ev_bind_exc, ev_out_ok, ev_out_exc, ev_then_nx, ev_then_rt, ev_then_exc, ev_outrt, ev_outnx, ev_outexc, ev_lenL, ev_lenT, ev_lt, ev_le, ev_gt, ev_ge, ev_add, ev_sub, ev_and, ev_or, ev_not, ev_expr, ev_for, ev_neI, ev_eqI, ev_andV, ev_notV, ev_min2, ev_max2, ev_lstR, ev_tupR, ev_meth, ev_slice, ev_try, ev_isn, ev_notn, ev_chain2, ev_leT, ev_asI, ev_tupS, ev_seqD, ev_rT, ev_neg, ev_tup3, ev_t0, ev_t1, ev_t2, ev_l0, ev_l1, ev_sl2, ev_lk0, ev_lk1, ev_lk2, ev_lk3, ev_lk4, if_true, if_false, Bool.false_eq_true, Bool.not_true, Bool.not_false, Bool.true_and, Bool.false_and, Bool.true_or, Bool.false_or, q, e1]
/-! ### _law_went -/
def mWent (CL CBT : Addr) (ds : List D) : Res D := match mTrain CL CBT (fun a b => .lst ((wayI a b).map D.int)) ds with
  | .ok d => .ok (.tup [d, .lst []])
  | .exc _ => .ok (marked false true true false)
  | .bad => .bad
def gWent (CBT : Addr) (c : Addr) : Option D := if c = CBT then some (marked false true true false) else none
theorem scWe : FnScope ["line", "train", "found", "e", "marks"] ["line", "train"] (defScope sWent) := ⟨rfl, rfl, rfl, by decide +kernel, rfl, by decide +kernel, by decide +kernel⟩
theorem ok_went {f fI : Addr} {fd fdI : FuncData} (F : Fun K "_law_went" "_law_went" sWent f fd) (T : Txt K mg CL CHE CBL CBT CBO) (GI : FnOk P w K mg base (CXF P w) 3 fI fdI ["line", "train"] (pureSp K (mTrain CL CBT fun a b => .lst ((wayI a b).map D.int)))) (bI : Binds K fdI ["line", "train"] []) (mW : mg "way" = some (.ref fI)) (kW : PySem.W.keepIn K (.ref fI) = true) : FnOk P w K mg base (CXF P w) 4 f fd ["line", "train"] (pureSp K (mWent CL CBT)) := by
  have nb : ∀ {ds : List D}, mWent CL CBT ds ≠ .bad → mTrain CL CBT (fun a b => .lst ((wayI a b).map D.int)) ds ≠ .bad := fun h z => by
    unfold mWent at h; rw [z] at h; exact h rfl
  refine F.pure scWe (fun ds h => ?_) (fun cdv A outer s H E hr => ?_)
  · obtain ⟨ns, c, a, b, r, rfl, _⟩ := mTrain_inv (nb h)
    rfl
  · refine ⟨_, pos_cons (po_try (i := 3) (C := CHE) (g := gWent CBT) scWe.nd rfl rfl rfl T.mgH rfl rfl
        (fun E' Et pn hx _ => pos_one (po_set (i := 2) scWe.nd rfl (Or.inl rfl) (pd_cl GI hr mW kW bI (pda_cons (dv 0) (pda_cons (dv 1) pda_nil)) hx)))
        (fun e E' => pss_cons (ps_set (i := 4) scWe.nd rfl (Or.inl rfl) (pe_lst (pa_cons (pe_callB (call_isiK K rfl) rfl T.isi boot_isi (pa_cons (pv 3) (pa_cons (pe_cls T.bl.mgx) pa_nil)))
            (pa_cons (pe_callB (call_isiK K rfl) rfl T.isi boot_isi (pa_cons (pv 3) (pa_cons (pe_ty T.tve bo_ve) pa_nil)))
            (pa_cons (pe_callB (call_isiK K rfl) rfl T.isi boot_isi (pa_cons (pv 3) (pa_cons (pe_cls T.bt.mgx) pa_nil)))
            (pa_cons (pe_callB (call_isiK K rfl) rfl T.isi boot_isi (pa_cons (pv 3) (pa_cons (pe_cls T.mgO) pa_nil))) pa_nil))))))
          (pss_one (ps_ret (pe_tup (pa_cons pe_non (pa_cons (pv 4) pa_nil))))))
        ?hgm ?hth)
      (pos_one (po_ret (pd_tup (pda_cons (dv 2) (pda_cons (pd_lst pda_nil) pda_nil))))), ?_⟩
    case hgm =>
      intro c d hg
      unfold gWent at hg
      split at hg
      · rename_i z; subst z; exact T.eT
      · cases hg
    case hth =>
      intro c d hg Dn H1 e he k
      unfold gWent at hg
      split at hg
      · rename_i z
        subst z
        cases hg
        have ty : TyX K (upd H1 e (ExcO e (.ref c))) (.ref e) (.ref c) := .inr ⟨e, c, rfl, rfl, upd_same, T.kT⟩
        refine ⟨_, rfl, _, _, _, _, rfl, (fun z => nomatch z), ty, T.iTL, _, rfl, _, _, _, _, rfl, (fun z => nomatch z), ty, T.iTV, _, rfl, _, _, _, _, rfl, (fun z => nomatch z), ty, T.iTT, _, rfl, _, _, _, _, rfl, (fun z => nomatch z), ty, T.iTO, (by show 4 ≤ sizeLine; decide), fun l hl => ?_⟩
        refine ⟨_, rfl, (by show 2 ≤ sizeLine; decide), fun t ht => ?_⟩
        exact marks_end k he l t hl ht
      · cases hg
    · intro ds h
      obtain ⟨ns, c, a, b, r, rfl, hn, ha, hb, hr', em⟩ := mTrain_inv (nb h)
      unfold mWent at h ⊢
      have e0 : startD ["line", "train", "found", "e", "marks"] [lineD CL ns c, .tup [.int a, .int b, .int r]] = [some (lineD CL ns c), some (.tup [.int a, .int b, .int r]), none, none, none] := rfl
      rw [e0]
      by_cases ht : trainOk ns.length a b r = true
      · rw [if_pos ht] at em
        simp only [ev_seq, ev_set, ev_if, ev_op, ev_cl, ev_asB, ev_ret, ev_var0, ev_varS, ev_set0, ev_setS, ev_bind_ok, ev_bind_exc, ev_out_ok, ev_out_exc, ev_then_nx, ev_then_rt, ev_then_exc, ev_outrt, ev_outnx, ev_outexc, ev_lenL, ev_lenT, ev_lt, ev_le, ev_gt, ev_ge, ev_add, ev_sub, ev_and, ev_or, ev_not, ev_expr, ev_for, ev_neI, ev_eqI, ev_andV, ev_notV, ev_min2, ev_max2, ev_lstR, ev_tupR, ev_meth, ev_slice, ev_try, ev_isn, ev_notn, ev_chain2, ev_leT, ev_asI, ev_tupS, ev_seqD, ev_rT, ev_neg, ev_tup3, ev_t0, ev_t1, ev_t2, ev_l0, ev_l1, ev_sl2, ev_lk0, ev_lk1, ev_lk2, ev_lk3, ev_lk4, if_true, if_false, Bool.false_eq_true, Bool.not_true, Bool.not_false, Bool.true_and, Bool.false_and, Bool.true_or, Bool.false_or, em]
      · rw [if_neg ht] at em
        have e1 : gWent CBT CBT = some (marked false true true false) := if_pos rfl
        simp only [ev_seq, ev_set, ev_if, ev_op, ev_cl, ev_asB, ev_ret, ev_var0, ev_varS, ev_set0, ev_setS, ev_bind_ok, ev_bind_exc, ev_out_ok, ev_out_exc, ev_then_nx, ev_then_rt, ev_then_exc, ev_outrt, ev_outnx, ev_outexc, ev_lenL, ev_lenT, ev_lt, ev_le, ev_gt, ev_ge, ev_add, ev_sub, ev_and, ev_or, ev_not, ev_expr, ev_for, ev_neI, ev_eqI, ev_andV, ev_notV, ev_min2, ev_max2, ev_lstR, ev_tupR, ev_meth, ev_slice, ev_try, ev_isn, ev_notn, ev_chain2, ev_leT, ev_asI, ev_tupS, ev_seqD, ev_rT, ev_neg, ev_tup3, ev_t0, ev_t1, ev_t2, ev_l0, ev_l1, ev_sl2, ev_lk0, ev_lk1, ev_lk2, ev_lk3, ev_lk4, if_true, if_false, Bool.false_eq_true, Bool.not_true, Bool.not_false, Bool.true_and, Bool.false_and, Bool.true_or, Bool.false_or, em, e1]
end
end K1

set_option Elab.async false
set_option linter.all false
set_option maxRecDepth 100000
set_option maxHeartbeats 4000000
namespace L2
open PySem PySem.Spec PyProof.Rows
theorem ps_setCompD {X : Cx} {E : XK} {elt iter : Expr} {ifs : List Expr} {x y : Str} {px py pos spos : Pos} {scope : Scope} {N : List Str} {caps : List (Option Nat)} {i j : Nat} {fi : DS → Res (List D)} {ft : DS → Res Bool} {fe : DS → Res D} (hN : X.N.Nodup) (hi : X.N[i]? = some y) (hy : X.env.scope.names.lookup y = some .local)
    (hc : X.calm = true) (S : CompSc X scope N caps) (hjN : N[j]? = some x) (hjc : caps[j]? = some none) (hjl : scope.names.lookup x = some .local)
    (hit : PI X (.Name x px) iter (tDI X.K E fi)) (ht : ∀ s H C ex, PDIf (X.comp s H scope C N ex) E00 ifs ft) (he : ∀ s H C ex, PD (X.comp s H scope C N ex) E00 elt fe)
    (hsw : swapsWith (.ListComp elt [⟨.Name x px, iter, ifs, 0⟩] scope pos) (some (.Name y py)) spos.line X.env = pure true := by rfl)
    (hs : ∀ x, foldedSetIterable iter X.env x = pure x := by intro _; rfl) : PS X (.Assign [.Name y py] (.ListComp elt [⟨.Name x px, iter, ifs, 0⟩] scope pos) spos) (tAsg (tComp (tDI X.K E fi) caps (gName j) (tDT X.K E00 ft) (tD X.K E00 fe)) (gName i)) := by
  have hlb := lookup_relabel_local (env := X.env) hjl
  exact ps_setComp hN hi hy hc S hit (fun s H C ex => pg_name (X := X.comp s H scope C N ex) (i := j) S.nd hjN (.inl hlb) (.inr hlb)) (onlyOwn_name hjc) (fun s H C ex => ht s H C ex) (fun s H C ex => pe_d (he s H C ex)) hsw hs
end L2
namespace K1
open PySem L2
abbrev sDue : Stmt := top 21
abbrev bd (s : Stmt) (i : Nat) : Stmt := (defBody s).getD i (.Pass ⟨0, 0, 0, 0⟩)
section
variable {P : Program} {w : World} {K : PySem.W.Frag} {mg : Str → Option Value} {base : Heap} {CL CHE CBL CBT CBO : Addr}
def mDue : List D → Res D
  | [.int n, .tup [.int a, .int b, .int r]] => if (decide (0 ≤ n) && decide (n ≤ 1000)) = true then .ok (if trainOk n a b r = true then .lst ((wayI a b).map D.int) else .non) else .bad
  | _ => .bad
theorem mDue_inv {ds : List D} (h : mDue ds ≠ .bad) : ∃ n a b r, ds = [.int n, .tup [.int a, .int b, .int r]] ∧ 0 ≤ n ∧ n ≤ 1000 ∧ mDue ds = .ok (if trainOk n a b r = true then .lst ((wayI a b).map D.int) else .non) := by
  unfold mDue at h ⊢
  split at h
  · rename_i n a b r
    split at h
    · rename_i hc
      have hc' := hc
      simp only [Bool.and_eq_true, decide_eq_true_eq] at hc'
      refine ⟨n, a, b, r, rfl, hc'.1, hc'.2, if_pos hc⟩
    · exact absurd rfl h
  · exact absurd rfl h
theorem scDue : FnScope ["stretches", "train", "row"] ["stretches", "train"] (defScope sDue) := ⟨rfl, rfl, rfl, by decide +kernel, rfl, by decide +kernel, by decide +kernel⟩
theorem way_rev {a b : Int} (h : b < a) : (wayI a b) = ((List.range (a - b).toNat).map (fun (i : Nat) => b + (i : Int))).reverse := by
  unfold wayI
  rw [if_neg (by omega)]
  apply List.ext_getElem?
  intro i
  by_cases hi : i < (a - b).toNat
  · rw [List.getElem?_map, List.getElem?_range hi, List.getElem?_reverse (by simpa using hi)]
    simp only [List.length_map, List.length_range]
    rw [List.getElem?_map, List.getElem?_range (by omega)]
    simp only [Option.map_some]
    congr 1
    omega
  · rw [List.getElem?_eq_none (by simpa using hi), List.getElem?_eq_none (by simpa using hi)]
theorem fmap_ids : ∀ (ds : List D), fmapB (fun _ => .ok true) (fun d => .ok d) ds = .ok ds
  | [] => rfl
  | d :: ds => by
    unfold fmapB
    dsimp only
    rw [fmap_ids ds]
    rfl
theorem ok_due {f : Addr} {fd : FuncData} (F : Fun K "_law_due" "_law_due" sDue f fd) (T : Txt K mg CL CHE CBL CBT CBO) : FnOk P w K mg base (CXF P w) 1 f fd ["stretches", "train"] (pureSp K mDue) := by
  have nb : ∀ {E : XK} {H : Hp} {r : Res D}, OkR E H r → r ≠ .bad := fun h z => by rw [z] at h; exact h
  refine F.okF scDue (fun vs H Q E h => ?_) (fun cdv A outer s H vs Q E hr h => ?_)
  · obtain ⟨ds, G, hs, rl, ho, _⟩ := h
    obtain ⟨n, a, b, r, rfl, _⟩ := mDue_inv (nb ho)
    exact rl.length.symm
  · obtain ⟨ds, G, hs, rl, ho, k⟩ := h
    obtain ⟨n, a, b, r, rfl, hn0, hn1, em⟩ := mDue_inv (nb ho)
    obtain ⟨v1, r1, rfl, p1, rl⟩ := rl.inv
    obtain ⟨v2, r2, rfl, p2, rl⟩ := rl.inv
    cases rl.inv0
    rw [em] at k
    have ro : Ro K G (start ["stretches", "train", "row"] [v1, v2]) [some (.int n), some (.tup [.int a, .int b, .int r]), none] := Ro.cons p1 (Ro.cons p2 (Ro.skip Ro.nil))
    have eσ : start ["stretches", "train", "row"] [v1, v2] = [some v1, some v2, none] := rfl
    rw [eσ] at ro ⊢
    obtain ⟨F1, q1, e1⟩ : ∃ F1, PO1 (CXof P w K mg base ["stretches", "train", "row"] "_law_due" (defScope sDue) f cdv A outer s H E) E (bd sDue 0) F1 ∧
        F1 [some (.int n), some (.tup [.int a, .int b, .int r]), none] = (if (a == b || decide (min a b < 0) || decide (n < max a b)) = true then .rt .non else .nx [some (.int n), some (.tup [.int a, .int b, .int r]), none]) :=
      ⟨_, po_if (PDW.pt (pdw_or (pdt_cmp (do_eq hr.units) (pd_ix (dv 1) pd_int) (pd_ix (dv 1) pd_int) (nomark _)) (pdw_or (pdt_cmp do_lt (pd_min2 T.mn (pda_cons (pd_ix (dv 1) pd_int) (pda_cons (pd_ix (dv 1) pd_int) pda_nil))) pd_int (nomark _)) (pdw_or1 (pdt_cmp do_gt (pd_max2 T.mx (pda_cons (pd_ix (dv 1) pd_int) (pda_cons (pd_ix (dv 1) pd_int) pda_nil))) (dv 0) (nomark _)))))) (pos_one (po_ret pd_non)) pos_nil, by
        simp only [ev_seq, ev_set, ev_if, ev_op, ev_cl, ev_asB, ev_ret, ev_var0, ev_varS, ev_set0, ev_setS, ev_bind_ok, ev_bind_exc, ev_out_ok, ev_out_exc, ev_then_nx, ev_then_rt, ev_then_exc, ev_outrt, ev_outnx, ev_outexc, ev_lenL, ev_lenT, ev_lt, ev_le, ev_gt, ev_ge, ev_add, ev_sub, ev_and, ev_or, ev_not, ev_expr, ev_for, ev_neI, ev_eqI, ev_andV, ev_notV, ev_min2, ev_max2, ev_lstR, ev_tupR, ev_meth, ev_slice, ev_try, ev_isn, ev_notn, ev_chain2, ev_leT, ev_asI, ev_tupS, ev_seqD, ev_rT, ev_neg, ev_tup3, ev_t0, ev_t1, ev_t2, ev_l0, ev_l1, ev_sl2, ev_lk0, ev_lk1, ev_lk2, ev_lk3, ev_lk4, if_true, if_false, Bool.false_eq_true, Bool.not_true, Bool.not_false, Bool.true_and, Bool.false_and, Bool.true_or, Bool.false_or]
        cases (a == b) <;> cases decide (min a b < 0) <;> cases decide (n < max a b) <;> rfl⟩
    obtain ⟨F2, q2, e2⟩ : ∃ F2, PO1 (CXof P w K mg base ["stretches", "train", "row"] "_law_due" (defScope sDue) f cdv A outer s H E) E (bd sDue 1) F2 ∧
        F2 [some (.int n), some (.tup [.int a, .int b, .int r]), none] = (if (decide (r < 0) || decide (60 < r)) = true then .rt .non else .nx [some (.int n), some (.tup [.int a, .int b, .int r]), none]) :=
      ⟨_, po_if (PDW.pt (pdw_or (pdt_cmp do_lt (pd_ix (dv 1) pd_int) pd_int (nomark _)) (pdw_or1 (pdt_cmp do_gt (pd_ix (dv 1) pd_int) pd_int (nomark _))))) (pos_one (po_ret pd_non)) pos_nil, by
        simp only [ev_seq, ev_set, ev_if, ev_op, ev_cl, ev_asB, ev_ret, ev_var0, ev_varS, ev_set0, ev_setS, ev_bind_ok, ev_bind_exc, ev_out_ok, ev_out_exc, ev_then_nx, ev_then_rt, ev_then_exc, ev_outrt, ev_outnx, ev_outexc, ev_lenL, ev_lenT, ev_lt, ev_le, ev_gt, ev_ge, ev_add, ev_sub, ev_and, ev_or, ev_not, ev_expr, ev_for, ev_neI, ev_eqI, ev_andV, ev_notV, ev_min2, ev_max2, ev_lstR, ev_tupR, ev_meth, ev_slice, ev_try, ev_isn, ev_notn, ev_chain2, ev_leT, ev_asI, ev_tupS, ev_seqD, ev_rT, ev_neg, ev_tup3, ev_t0, ev_t1, ev_t2, ev_l0, ev_l1, ev_sl2, ev_lk0, ev_lk1, ev_lk2, ev_lk3, ev_lk4, if_true, if_false, Bool.false_eq_true, Bool.not_true, Bool.not_false, Bool.true_and, Bool.false_and, Bool.true_or, Bool.false_or]
        cases decide (r < 0) <;> cases decide (60 < r) <;> rfl⟩
    have S : CompSc (CXof P w K mg base ["stretches", "train", "row"] "_law_due" (defScope sDue) f cdv A outer s H E) { kind := .function, names := [(".0", .local), ("k", .local)], isGenerator := false, isCoroutine := false } ["k"] [none] :=
      ⟨rfl, by decide +kernel, by decide +kernel, (by intro y hy hk; rcases List.mem_cons.mp hy with rfl | hy; (· cases hk); rcases List.mem_cons.mp hy with rfl | hy; (· cases hk); cases hy), by decide +kernel, rfl, fun j k x h1 h2 => by (match j, h1 with | 0, h1 => cases h1), fun j k x h1 h2 => by (match j, h1 with | 0, h1 => cases h1)⟩
    obtain ⟨fi, ft, fe, q3, e3⟩ : ∃ fi ft fe, PS (CXof P w K mg base ["stretches", "train", "row"] "_law_due" (defScope sDue) f cdv A outer s H E) (bd sDue 2) (tAsg (tComp (tDI K E fi) [none] (gName 0) (tDT K E00 ft) (tD K E00 fe)) (gName 2)) ∧
        ((0 ≤ min a b ∧ max a b ≤ n) → compR fi [none] 0 ft fe [some (.int n), some (.tup [.int a, .int b, .int r]), none] = .ok (.lst (((List.range (max a b - min a b).toNat).map (fun (i : Nat) => min a b + (i : Int))).map D.int))) :=
      ⟨_, _, _, ps_setCompD (E := E) scDue.nd rfl rfl rfl S rfl rfl rfl (pi_drange2 rfl T.rng (pda_cons (pd_min2 T.mn (pda_cons (pd_ix (dv 1) pd_int) (pda_cons (pd_ix (dv 1) pd_int) pda_nil))) (pda_cons (pd_max2 T.mx (pda_cons (pd_ix (dv 1) pd_int) (pda_cons (pd_ix (dv 1) pd_int) pda_nil))) pda_nil))) (fun _ _ _ _ => pdif_nil) (fun _ _ _ _ => dv 0), by
        intro hc
        unfold compR
        have er : rng2 [.int (min a b), .int (max a b)] = .ok (rngD (min a b) (max a b - min a b).toNat) := by
          unfold rng2
          dsimp only
          rw [if_pos (by unfold smallI; simp only [Bool.and_eq_true, decide_eq_true_eq]; omega)]
        simp only [ev_seq, ev_set, ev_if, ev_op, ev_cl, ev_asB, ev_ret, ev_var0, ev_varS, ev_set0, ev_setS, ev_bind_ok, ev_bind_exc, ev_out_ok, ev_out_exc, ev_then_nx, ev_then_rt, ev_then_exc, ev_outrt, ev_outnx, ev_outexc, ev_lenL, ev_lenT, ev_lt, ev_le, ev_gt, ev_ge, ev_add, ev_sub, ev_and, ev_or, ev_not, ev_expr, ev_for, ev_neI, ev_eqI, ev_andV, ev_notV, ev_min2, ev_max2, ev_lstR, ev_tupR, ev_meth, ev_slice, ev_try, ev_isn, ev_notn, ev_chain2, ev_leT, ev_asI, ev_tupS, ev_seqD, ev_rT, ev_neg, ev_tup3, ev_t0, ev_t1, ev_t2, ev_l0, ev_l1, ev_sl2, ev_lk0, ev_lk1, ev_lk2, ev_lk3, ev_lk4, if_true, if_false, Bool.false_eq_true, Bool.not_true, Bool.not_false, Bool.true_and, Bool.false_and, Bool.true_or, Bool.false_or, er]
        rw [if_pos (by unfold lenOk rngD; rw [decide_eq_true_eq, List.length_map, List.length_range]; omega)]
        have ec : capD [none] [some (.int n), some (.tup [.int a, .int b, .int r]), none] = [none] := rfl
        rw [ec]
        simp only [ev_seq, ev_set, ev_if, ev_op, ev_cl, ev_asB, ev_ret, ev_var0, ev_varS, ev_set0, ev_setS, ev_bind_ok, ev_bind_exc, ev_out_ok, ev_out_exc, ev_then_nx, ev_then_rt, ev_then_exc, ev_outrt, ev_outnx, ev_outexc, ev_lenL, ev_lenT, ev_lt, ev_le, ev_gt, ev_ge, ev_add, ev_sub, ev_and, ev_or, ev_not, ev_expr, ev_for, ev_neI, ev_eqI, ev_andV, ev_notV, ev_min2, ev_max2, ev_lstR, ev_tupR, ev_meth, ev_slice, ev_try, ev_isn, ev_notn, ev_chain2, ev_leT, ev_asI, ev_tupS, ev_seqD, ev_rT, ev_neg, ev_tup3, ev_t0, ev_t1, ev_t2, ev_l0, ev_l1, ev_sl2, ev_lk0, ev_lk1, ev_lk2, ev_lk3, ev_lk4, if_true, if_false, Bool.false_eq_true, Bool.not_true, Bool.not_false, Bool.true_and, Bool.false_and, Bool.true_or, Bool.false_or]
        rw [fmap_ids]
        simp only [ev_seq, ev_set, ev_if, ev_op, ev_cl, ev_asB, ev_ret, ev_var0, ev_varS, ev_set0, ev_setS, ev_bind_ok, ev_bind_exc, ev_out_ok, ev_out_exc, ev_then_nx, ev_then_rt, ev_then_exc, ev_outrt, ev_outnx, ev_outexc, ev_lenL, ev_lenT, ev_lt, ev_le, ev_gt, ev_ge, ev_add, ev_sub, ev_and, ev_or, ev_not, ev_expr, ev_for, ev_neI, ev_eqI, ev_andV, ev_notV, ev_min2, ev_max2, ev_lstR, ev_tupR, ev_meth, ev_slice, ev_try, ev_isn, ev_notn, ev_chain2, ev_leT, ev_asI, ev_tupS, ev_seqD, ev_rT, ev_neg, ev_tup3, ev_t0, ev_t1, ev_t2, ev_l0, ev_l1, ev_sl2, ev_lk0, ev_lk1, ev_lk2, ev_lk3, ev_lk4, if_true, if_false, Bool.false_eq_true, Bool.not_true, Bool.not_false, Bool.true_and, Bool.false_and, Bool.true_or, Bool.false_or]
        unfold rngD
        rw [List.map_map]
        rfl⟩
    refine ⟨_, pss_cons (ps_d q1) (pss_cons (ps_d q2) (pss_cons q3 (pss_cons (ps_if (pt_d (E := E) (pdt_cmp do_gt (pd_ix (dv 1) pd_int) (pd_ix (dv 1) pd_int) (nomark _))) (pss_one (ps_expr (pe_bm0 PySem.F.plainAttrs_list PySem.F.slot_list_reverse PySem.F.type_list_reverse mt_reverse (pv 2)))) pss_nil) (pss_one (ps_ret (pv 2)))))), ?_⟩
    have tk : ∀ {c : Bool}, trainOk n a b r = c → (if trainOk n a b r = true then D.lst ((wayI a b).map D.int) else .non) = if c = true then D.lst ((wayI a b).map D.int) else .non := fun h => by rw [h]
    by_cases c1 : (a == b || decide (min a b < 0) || decide (n < max a b)) = true
    · rw [if_pos c1] at e1
      refine ⟨G, _, hs, ro, by rw [e1]; trivial, fun ρ' σ' G' H' z => (by rw [e1] at z; cases z), fun ρ' σ' G' H' z => (by rw [e1] at z; cases z), fun ρ' σ' G' H' z => (by rw [e1] at z; cases z), fun d v G' H' z x rp => ?_⟩
      rw [e1] at z
      cases z
      refine k .non ?_ v G' H' x rp
      have ht : trainOk n a b r = false := by
        rw [Bool.eq_false_iff]
        intro ht
        unfold trainOk at ht
        simp only [Bool.and_eq_true, decide_eq_true_eq, Bool.not_eq_true', beq_eq_false_iff_ne] at ht
        simp only [Bool.or_eq_true, decide_eq_true_eq, beq_iff_eq] at c1
        omega
      rw [tk ht]
      rfl
    · rw [if_neg c1] at e1
      simp only [Bool.or_eq_true, decide_eq_true_eq, beq_iff_eq] at c1
      refine ⟨G, _, hs, ro, by rw [e1]; trivial, fun ρ' σ1 G1 H1 z x1 r1 l1 => ?_, fun ρ' σ' G' H' z => (by rw [e1] at z; cases z), fun ρ' σ' G' H' z => (by rw [e1] at z; cases z), fun d v G' H' z => (by rw [e1] at z; cases z)⟩
      rw [e1] at z
      cases z
      by_cases c2 : (decide (r < 0) || decide (60 < r)) = true
      · rw [if_pos c2] at e2
        refine ⟨G1, _, x1.gh, r1, by rw [e2]; trivial, fun ρ' σ' G' H' z => (by rw [e2] at z; cases z), fun ρ' σ' G' H' z => (by rw [e2] at z; cases z), fun ρ' σ' G' H' z => (by rw [e2] at z; cases z), fun d v G' H' z x rp => ?_⟩
        rw [e2] at z
        cases z
        refine k .non ?_ v G' H' (x1.trans x) rp
        have ht : trainOk n a b r = false := by
          rw [Bool.eq_false_iff]
          intro ht
          unfold trainOk at ht
          simp only [Bool.and_eq_true, decide_eq_true_eq, Bool.not_eq_true', beq_eq_false_iff_ne] at ht
          simp only [Bool.or_eq_true, decide_eq_true_eq] at c2
          omega
        rw [tk ht]
        rfl
      · rw [if_neg c2] at e2
        simp only [Bool.or_eq_true, decide_eq_true_eq] at c2
        refine ⟨G1, _, x1.gh, r1, by rw [e2]; trivial, fun ρ' σ2 G2 H2 z x2 r2 l2 => ?_, fun ρ' σ' G' H' z => (by rw [e2] at z; cases z), fun ρ' σ' G' H' z => (by rw [e2] at z; cases z), fun d v G' H' z => (by rw [e2] at z; cases z)⟩
        rw [e2] at z
        cases z
        have x12 := x1.trans x2
        have ht : trainOk n a b r = true := by
          unfold trainOk
          simp only [Bool.and_eq_true, decide_eq_true_eq, Bool.not_eq_true', beq_eq_false_iff_ne]
          omega
        have e3' := e3 (by omega)
        dsimp only [tSeq, tAsg]
        refine tComp_d (K := K) (E := E) (caps := [none]) (j := 0) (by decide) x12.gh r2 (by rw [e3']; trivial) fun es ee p vs G3 H3 x3 np hp rl3 rp3 => ?_
        rw [e3'] at ee
        cases ee
        have hvs := rl3.ints
        have g1 : (σ2.set 2 (some (V.ref p)))[2]? = some (some (.ref p)) := List.getElem?_set_self (by rw [l2]; show 2 < 3; decide)
        show tSeq _ _ _ (σ2.set 2 (some (V.ref p))) H3
        refine ⟨G2, _, x12.gh.trans x3.hh, r2.over (j := 2) (fun d z => by cases z), ?_, fun bb eb G4 H4 x4 => ?_⟩
        · simp only [ev_seq, ev_set, ev_if, ev_op, ev_cl, ev_asB, ev_ret, ev_var0, ev_varS, ev_set0, ev_setS, ev_bind_ok, ev_bind_exc, ev_out_ok, ev_out_exc, ev_then_nx, ev_then_rt, ev_then_exc, ev_outrt, ev_outnx, ev_outexc, ev_lenL, ev_lenT, ev_lt, ev_le, ev_gt, ev_ge, ev_add, ev_sub, ev_and, ev_or, ev_not, ev_expr, ev_for, ev_neI, ev_eqI, ev_andV, ev_notV, ev_min2, ev_max2, ev_lstR, ev_tupR, ev_meth, ev_slice, ev_try, ev_isn, ev_notn, ev_chain2, ev_leT, ev_asI, ev_tupS, ev_seqD, ev_rT, ev_neg, ev_tup3, ev_t0, ev_t1, ev_t2, ev_l0, ev_l1, ev_sl2, ev_lk0, ev_lk1, ev_lk2, ev_lk3, ev_lk4, if_true, if_false, Bool.false_eq_true, Bool.not_true, Bool.not_false, Bool.true_and, Bool.false_and, Bool.true_or, Bool.false_or]
          trivial
        · have eb' : bb = decide (b < a) := by
            simp only [ev_seq, ev_set, ev_if, ev_op, ev_cl, ev_asB, ev_ret, ev_var0, ev_varS, ev_set0, ev_setS, ev_bind_ok, ev_bind_exc, ev_out_ok, ev_out_exc, ev_then_nx, ev_then_rt, ev_then_exc, ev_outrt, ev_outnx, ev_outexc, ev_lenL, ev_lenT, ev_lt, ev_le, ev_gt, ev_ge, ev_add, ev_sub, ev_and, ev_or, ev_not, ev_expr, ev_for, ev_neI, ev_eqI, ev_andV, ev_notV, ev_min2, ev_max2, ev_lstR, ev_tupR, ev_meth, ev_slice, ev_try, ev_isn, ev_notn, ev_chain2, ev_leT, ev_asI, ev_tupS, ev_seqD, ev_rT, ev_neg, ev_tup3, ev_t0, ev_t1, ev_t2, ev_l0, ev_l1, ev_sl2, ev_lk0, ev_lk1, ev_lk2, ev_lk3, ev_lk4, if_true, if_false, Bool.false_eq_true, Bool.not_true, Bool.not_false, Bool.true_and, Bool.false_and, Bool.true_or, Bool.false_or] at eb
            cases eb
            rfl
          subst eb'
          have h4p : H4 p = some (.lst vs) := x4.hh _ _ hp
          by_cases hba : b < a
          · rw [decide_eq_true hba]
            refine iteT ?_
            refine ⟨_, g1, .inl ⟨rfl, _, SqL.of h4p⟩, p, vs, rfl, rfl, h4p, _, g1, ?_⟩
            refine k (.lst ((wayI a b).map D.int)) (by rw [tk ht]; rfl) (.ref p) (upd G2 p (.lst vs.reverse)) _ (ext_put x12 np (fun c u e hc => by rw [upd_ne hc]; exact x4.hh _ _ (x3.hh _ _ e)) upd_same) ?_
            rw [rep_lst]
            refine ⟨p, vs.reverse, rfl, .inl (.inl upd_same), ?_⟩
            rw [hvs, way_rev hba, ← List.map_reverse]
            have m1 : min a b = b := by omega
            have m2 : max a b = a := by omega
            rw [m1, m2]
            exact RepL.of_ints _
          · rw [decide_eq_false hba]
            refine iteF ?_
            refine ⟨_, g1, ?_⟩
            refine k (.lst ((wayI a b).map D.int)) (by rw [tk ht]; rfl) (.ref p) (upd G2 p (.lst vs)) _ (ext_put x12 np (fun c u e hc => x4.hh _ _ (x3.hh _ _ e)) h4p) ?_
            rw [rep_lst]
            refine ⟨p, vs, rfl, .inl (.inl upd_same), ?_⟩
            rw [hvs]
            unfold wayI
            have hab : a < b := by omega
            have m1 : min a b = a := by omega
            have m2 : max a b = b := by omega
            rw [m1, m2, if_pos hab]
            exact RepL.of_ints _
end
end K1

set_option Elab.async false
set_option linter.all false
set_option maxRecDepth 100000
set_option maxHeartbeats 4000000
namespace K1
open PySem L2
section
variable {P : Program} {w : World} {K : PySem.W.Frag} {mg : Str → Option Value} {base : Heap} {CL CHE CBL CBT CBO : Addr}
/-! ### runs once more: the list is new -/
def spRunsF (K : PySem.W.Frag) (CL : Addr) : Sp := fun vs H Q _ => ∃ p dx fs t xs, vs = [.ref p] ∧ H p = some (.ins CL dx fs) ∧ fs.lookup ("minutes" : Str) = some (V.ref t) ∧ SqT K H t xs ∧ ∀ l, H l = none → Q (.ref l) (upd H l (.lst xs))
theorem ok_runsF {f : Addr} {fd : FuncData} (F : Fun K "runs" "Line.runs" sRuns f fd) (T : Txt K mg CL CHE CBL CBT CBO) : FnOk P w K mg base (CXF P w) 1 f fd ["self"] (spRunsF K CL) := by
  refine F.okF scR (fun vs H Q E h => ?_) (fun cdv A outer s H vs Q E hr h => ?_)
  · obtain ⟨p, dx, fs, t, xs, rfl, _⟩ := h
    rfl
  · obtain ⟨p, dx, fs, t, xs, rfl, hp, hl, sq, k⟩ := h
    exact ⟨_, pss_one (ps_ret (pe_callTy call_list_of rfl T.lst bo_list (pa_cons (pe_fld (pv 0) rfl) pa_nil))), _, rfl, p, CL, dx, fs, _, rfl, hp, T.cl, T.nM, hl, t, xs, rfl, .inr sq, fun l hl => k l hl⟩
def clearO (CL : Addr) (fo : DS → Res D) : DS → Out := fun ρ => (fo ρ).out fun d => if (asLine CL d).isSome = true then .nx ρ else .bad
theorem po_runsClear {X : Cx} {E : XK} {fR : Addr} {fdR : FuncData} {o : Expr} {fo : DS → Res D} {apos pos apos2 pos2 pos3 : Pos} {pl : Sem Bool} (ho : PD X E o fo) (c : Cls X.K CL) (hm : Meth X.K CL "runs" fR) (GR : FnOk X.prog X.w X.K X.mg X.base (CXF X.prog X.w) 1 fR fdR ["self"] (spRunsF X.K CL)) (hr : Room 1 X.A) (hb : Binds X.K fdR ["self"] [])
    (hx : Passes (CXF X.prog X.w) X E := by exact cxf_pass fun _ _ _ h => h)
    (ht : eval (.Call (.Attribute o "runs" apos) [] [] pos) X.env = (do
      let ov ← eval o X.env
      standAt apos.atName
      let (f, first) ← holding [ov] (getMethod ov "runs" pl)
      callWith pos f first (backTo pos (starEach [] X.env)) (backToKw pos (keywordEach [] X.env))) := by rfl)
    (hbase : attributeBase (.Call (.Attribute o "runs" apos) [] [] pos) "clear" X.env (eval (.Call (.Attribute o "runs" apos) [] [] pos) X.env) = eval (.Call (.Attribute o "runs" apos) [] [] pos) X.env := by rfl) (hline : (apos2.endLine == pos2.line) = true := by rfl)
    (hs : swapsWith (.Call (.Attribute (.Call (.Attribute o "runs" apos) [] [] pos) "clear" apos2) [] [] pos2) none pos3.line X.env = pure false := by rfl) :
    PO1 X E (.Expr (.Call (.Attribute (.Call (.Attribute o "runs" apos) [] [] pos) "clear" apos2) [] [] pos2) pos3) (clearO CL fo) := by
  intro pins s σ G H ρ I hsm hro hok
  have hpe := pe_bm0 (apos := apos2) (cpos := pos2) PySem.F.plainAttrs_list PySem.F.slot_list_clear PySem.F.type_list_clear mt_clear (pe_meth0 (pl := pl) (pe_d ho) c hm GR hr hb .nil hx ht) hbase hline
  refine thn (ps_expr hpe hs pins s σ H { nx := fun σ' H' => ∃ G', σ' = σ ∧ clearO CL fo ρ = .nx ρ ∧ Ext G H G' H', bk := fun _ _ => False, ct := fun _ _ => False, rt := fun _ _ => False } I ?_) fun fl s1 q => ?_
  · refine ⟨G, ρ, hsm, hro, hok.res, fun d e v G1 H1 x1 rp => ?_⟩
    have kk := hok.res2 e x1.hh
    cases q : asLine CL d with
    | none => rw [q] at kk; exact kk.elim
    | some p =>
      obtain ⟨ns, c0⟩ := p
      have ef : clearO CL fo ρ = .nx ρ := by unfold clearO; rw [e, ev_out_ok, q]; rfl
      have ed := asLine_eq q
      subst ed
      unfold lineD at rp
      rw [rep_ins] at rp
      obtain ⟨a, dx, fs, rfl, ha, hns, rl⟩ := rp
      have hg : getF (fs.map (·.1)) [.tup (ns.map D.int), .int c0] "minutes" = some (.tup (ns.map D.int)) := by rw [hns]; rfl
      obtain ⟨u, hu, ru⟩ := lookup_getF rl hg
      rw [rep_tup] at ru
      obtain ⟨t, xs, rfl, sq, _⟩ := ru
      refine ⟨a, dx, fs, rfl, x1.gh _ _ ha, lookup_none_of (by rw [hns]; decide +kernel), ?_⟩
      refine ⟨a, dx, fs, t, xs, rfl, x1.gh _ _ ha, hu, x1.gh.seqT sq, fun l hl => ⟨.inl ⟨rfl, _, SqL.of upd_same⟩, l, xs, rfl, rfl, upd_same, G1, rfl, ef, ?_⟩⟩
      have hne : ∀ b u, H1 b = some u → (upd (upd H1 l (.lst xs)) l (.lst [])) b = some u := fun b u eb => by
        rw [upd_ne (ne_of_none eb hl), upd_ne (ne_of_none eb hl)]; exact eb
      exact ⟨fun b u eb => hne b u (x1.hh b u eb), x1.gg, fun b u eb => hne b u (x1.gh b u eb), x1.nw⟩
  · cases fl with
    | next =>
      obtain ⟨σ', H', I', G', e2, e, x⟩ := q
      subst e2
      exact ⟨ρ, _, G', H', e, I', x, hro.mono x.gg⟩
    | brk => obtain ⟨_, _, _, q⟩ := q; exact q.elim
    | cont => obtain ⟨_, _, _, q⟩ := q; exact q.elim
    | ret u => obtain ⟨_, _, _, _, _, q⟩ := q; exact q.elim
/-! ### the law's numbers -/
theorem dr_ok {sc : List Int} {k m : Int} (h0 : 0 ≤ k) (h1 : k < 1000) (h2 : 0 < m) (h3 : m < 1000) : mDrawn [.lst (sc.map D.int), .int k, .int m] = .ok (.int (drawn sc k m)) := by
  unfold mDrawn
  dsimp only
  rw [allInts_map]
  exact if_pos ⟨h0, h1, h2, h3⟩
theorem dr_lo {sc : List Int} {k m : Int} (h : 0 < m) : 0 ≤ drawn sc k m := Int.emod_nonneg _ (by omega)
theorem dr_hi {sc : List Int} {k m : Int} (h : 0 < m) : drawn sc k m < m := Int.emod_lt_of_pos _ h
theorem ev_pow9 : powI (.int 10) (.int 9) = .ok (.int 1000000000) := by
  unfold powI intO
  dsimp only
  rw [if_pos (by decide)]
  rfl
theorem went_ok {ns : List Int} {c a b r : Int} (h1 : ns.length ≤ 5) (h2 : sm a = true) (h3 : sm b = true) (h4 : sm r = true) : mWent CL CBT [lineD CL ns c, .tup [.int a, .int b, .int r]] = .ok (if trainOk ns.length a b r = true then .tup [.lst ((wayI a b).map D.int), .lst []] else marked false true true false) := by
  unfold mWent
  rw [mTrain_ok h1 h2 h3 h4]
  by_cases ht : trainOk ns.length a b r = true
  · rw [if_pos ht, if_pos ht]
  · rw [if_neg ht, if_neg ht]
theorem due_ok {n a b r : Int} (h0 : 0 ≤ n) (h1 : n ≤ 1000) : mDue [.int n, .tup [.int a, .int b, .int r]] = .ok (if trainOk n a b r = true then .lst ((wayI a b).map D.int) else .non) := by
  unfold mDue
  dsimp only
  rw [if_pos (by simp only [Bool.and_eq_true, decide_eq_true_eq]; exact ⟨h0, h1⟩)]
theorem ne_marked : neO (marked false true true false) (.tup [.non, .lst [.bl false, .bl true, .bl true, .bl false]]) = .ok (.bl false) := by
  unfold neO marked
  simp [plD, plL, eqB, eqBL]
theorem eq_marked : eqO (marked true true false false) (.tup [.non, .lst [.bl true, .bl true, .bl false, .bl false]]) = .ok (.bl true) := by
  unfold eqO marked
  simp [plD, plL, eqB, eqBL]
theorem way_len {n a b r : Int} (h : trainOk n a b r = true) (hn : n ≤ 1000) : (wayI a b).length ≤ 1000 := by
  unfold trainOk at h
  simp only [Bool.and_eq_true, decide_eq_true_eq] at h
  unfold wayI
  split <;> simp only [List.length_map, List.length_range] <;> omega
theorem sm_of {n : Int} (h1 : -1000000000 ≤ n) (h2 : n ≤ 1000000000) : sm n = true := by
  unfold sm
  rw [decide_eq_true (by omega), decide_eq_true (by omega)]
  rfl
theorem three {x y z : Int} {i : Int} (h : 0 < (3 : Int)) : ∃ r, ixD (.lst [.int x, .int y, .int z]) (.int (i % 3)) = .ok (.int r) ∧ (r = x ∨ r = y ∨ r = z) := by
  have h0 := Int.emod_nonneg i (show (3 : Int) ≠ 0 by decide)
  have h1 := Int.emod_lt_of_pos i (show (0 : Int) < 3 by decide)
  have : i % 3 = 0 ∨ i % 3 = 1 ∨ i % 3 = 2 := by omega
  rcases this with e | e | e
  · rw [e]; exact ⟨x, ev_l0, .inl rfl⟩
  · rw [e]; exact ⟨y, ev_l1, .inr (.inl rfl)⟩
  · rw [e]; exact ⟨z, ev_ixL (atI_of (by decide) rfl), .inr (.inr rfl)⟩
theorem four {x y z u : Int} {i : Int} (h0 : 0 ≤ i) (h1 : i < 4) : ∃ r, ixD (.lst [.int x, .int y, .int z, .int u]) (.int i) = .ok (.int r) ∧ (r = x ∨ r = y ∨ r = z ∨ r = u) := by
  have : i = 0 ∨ i = 1 ∨ i = 2 ∨ i = 3 := by omega
  rcases this with e | e | e | e
  · rw [e]; exact ⟨x, ev_l0, .inl rfl⟩
  · rw [e]; exact ⟨y, ev_l1, .inr (.inl rfl)⟩
  · rw [e]; exact ⟨z, ev_ixL (atI_of (by decide) rfl), .inr (.inr (.inl rfl))⟩
  · rw [e]; exact ⟨u, ev_ixL (atI_of (by decide) rfl), .inr (.inr (.inr rfl))⟩
end
end K1

set_option Elab.async false
set_option linter.all false
set_option maxRecDepth 100000
set_option maxHeartbeats 8000000
namespace K1
open PySem L2
abbrev sLaw : Stmt := top 22
abbrev NL : List Str := ["script", "runs", "gap", "way_here", "handed", "told", "line", "lap", "k", "halts", "ready", "due", "found"]
theorem scL : FnScope NL ["script"] (defScope sLaw) := ⟨rfl, rfl, rfl, by decide +kernel, rfl, by decide +kernel, by decide +kernel⟩
structure Adr where
  (fD fRow fTo fWe fDu fR fC : Addr)
  (dD dRow dTo dWe dDu dR dC : FuncData)
structure Fns (P : Program) (w : World) (K : PySem.W.Frag) (mg : Str → Option Value) (base : Heap) (CL CHE CBL CBT CBO : Addr) (a : Adr) : Prop where
  T : Txt K mg CL CHE CBL CBT CBO
  GD : FnOk P w K mg base (CXF P w) 1 a.fD a.dD ["script", "k", "many"] (pureSp K mDrawn)
  bD : Binds K a.dD ["script", "k", "many"] []
  mD : mg "_law_drawn" = some (.ref a.fD)
  kD : PySem.W.keepIn K (.ref a.fD) = true
  GRow : FnOk P w K mg base (CXF P w) 2 a.fRow a.dRow ["found", "due"] (pureSp K mRow)
  bRow : Binds K a.dRow ["found", "due"] []
  mRow : mg "_law_row" = some (.ref a.fRow)
  kRow : PySem.W.keepIn K (.ref a.fRow) = true
  GTo : FnOk P w K mg base (CXF P w) 4 a.fTo a.dTo ["runs", "gap"] (pureSp K (mTold CL CBL))
  bTo : Binds K a.dTo ["runs", "gap"] []
  mTo : mg "_law_told" = some (.ref a.fTo)
  kTo : PySem.W.keepIn K (.ref a.fTo) = true
  GWe : FnOk P w K mg base (CXF P w) 4 a.fWe a.dWe ["line", "train"] (pureSp K (mWent CL CBT))
  bWe : Binds K a.dWe ["line", "train"] []
  mWe : mg "_law_went" = some (.ref a.fWe)
  kWe : PySem.W.keepIn K (.ref a.fWe) = true
  GDu : FnOk P w K mg base (CXF P w) 1 a.fDu a.dDu ["stretches", "train"] (pureSp K mDue)
  bDu : Binds K a.dDu ["stretches", "train"] []
  mDu : mg "_law_due" = some (.ref a.fDu)
  kDu : PySem.W.keepIn K (.ref a.fDu) = true
  GR : FnOk P w K mg base (CXF P w) 1 a.fR a.dR ["self"] (pureSp K (mRuns CL))
  GRf : FnOk P w K mg base (CXF P w) 1 a.fR a.dR ["self"] (spRunsF K CL)
  bR : Binds K a.dR ["self"] []
  mR : Meth K CL "runs" a.fR
  GC : FnOk P w K mg base (CXF P w) 1 a.fC a.dC ["self"] (pureSp K (mClear CL))
  bC : Binds K a.dC ["self"] []
  mC : Meth K CL "clear" a.fC
section
variable {P : Program} {w : World} {K : PySem.W.Frag} {mg : Str → Option Value} {base : Heap} {CL CHE CBL CBT CBO : Addr} {a : Adr}
abbrev XL (P : Program) (w : World) (K : PySem.W.Frag) (mg : Str → Option Value) (base : Heap) (f : Addr) (cdv : Value) (A : Around) (outer : List Env) (s : Shared) (H : Hp) (E : XK) : Cx := CXof P w K mg base NL "law" (defScope sLaw) f cdv A outer s H E
def lineT (CL : Addr) (rs : List Int) (gap : Int) : D := .tup [lineD CL rs gap, .lst []]
def ρS (CL : Addr) (sc rs : List Int) (gap : Int) (o3 o7 o8 o9 o10 o11 o12 : Option D) : DS := [some (.lst (sc.map D.int)), some (.lst (rs.map D.int)), some (.int gap), o3, none, some (lineT CL rs gap), some (lineD CL rs gap), o7, o8, o9, o10, o11, o12]
theorem lap_ok (Z : Fns P w K mg base CL CHE CBL CBT CBO a) {f : Addr} {cdv : Value} {A : Around} {outer : List Env} {s : Shared} {H : Hp} {E : XK} (hr : Room 4 (A.deeper (PyProof.Rows.envOfC "law" (defScope sLaw) s.heap.objs.size f cdv))) :
    ∃ F, PO1 (XL P w K mg base f cdv A outer s H E) E (bd sLaw 11) F ∧ ∀ (sc rs : List Int) (gap : Int) (o3 : Option D), rs.length ≤ 5 → ∃ o7, F (ρS CL sc rs gap o3 none none none none none none) = .nx (ρS CL sc rs gap o3 o7 none none none none none) := by
  have T := Z.T
  have hr1 : Room 1 _ := hr.mono (by decide : 1 ≤ 4)
  have hr2 : Room 2 _ := hr.mono (by decide : 2 ≤ 4)
  refine ⟨_, po_for PassesOwn.leaving rfl scL.nd (j := 7) rfl (Or.inl rfl) (pi_drange1 rfl T.rng (pda_cons pd_int pda_nil))
    (pos_cons (po_if (PDW.pt (pdw_or (pdt_cmp (do_ne hr.units) (pd_ix (dv 5) pd_int) (pd_lst pda_nil) (nomark _))
        (pdw_or (pdt_not (pdt_val (pd_cl Z.GRow hr2 Z.mRow Z.kRow Z.bRow (pda_cons (pd_m0 (dv 6) T.cl Z.mR Z.GR hr1 Z.bR) (pda_cons (dv 1) pda_nil)))))
          (pdw_or1 (pdt_not (pdt_val (pd_cl Z.GRow hr2 Z.mRow Z.kRow Z.bRow (pda_cons (pd_lst (pda_cons (pd_m0 (dv 6) T.cl Z.mC Z.GC hr1 Z.bC) pda_nil)) (pda_cons (pd_lst (pda_cons (dv 2) pda_nil)) pda_nil)))))))))
        (pos_one (po_ret pd_bl)) pos_nil)
      (pos_one (po_runsClear (dv 6) T.cl Z.mR Z.GRf hr1 Z.bR))), ?_⟩
  intro sc rs gap o3 hn
  have er : rng1 [.int 2] = .ok [.int 0, .int 1] := by
    unfold rng1
    dsimp only
    rw [if_pos (by unfold smallI; rw [decide_eq_true (by omega), decide_eq_true (by omega)]; rfl)]
    rfl
  have i1 : insOf CL "runs" (lineD CL rs gap) = true := isLine (by decide +kernel)
  have i2 : insOf CL "clear" (lineD CL rs gap) = true := isLine (by decide +kernel)
  have r1 : K1.mRow [.lst (rs.map D.int), .lst (rs.map D.int)] = .ok (.bl true) := by rw [mRow_ok (by omega), decide_eq_true rfl]
  have r2 : K1.mRow [.lst [.int gap], .lst [.int gap]] = .ok (.bl true) := by
    have := mRow_ok (ns := [gap]) (ns' := [gap]) (by show 1 ≤ 1000; decide)
    rw [decide_eq_true rfl] at this
    exact this
  rw [ev_for]
  simp only [ev_bind_ok, er, ev_out_ok]
  have key : ∀ (F : DS → Out), (∀ (i : Int) (o7 : Option D), F ((ρS CL sc rs gap o3 o7 none none none none none).set 7 (some (.int i))) = .nx (ρS CL sc rs gap o3 (some (.int i)) none none none none none)) → forO 7 F [.int 0, .int 1] (ρS CL sc rs gap o3 none none none none none none) = .nx (ρS CL sc rs gap o3 (some (.int 1)) none none none none none) := by
    intro F hF
    rw [ev_forN (hF 0 none), ev_forN (hF 1 _)]
    rfl
  refine ⟨_, key _ fun i o7 => ?_⟩
  have e5 : (ρS CL sc rs gap o3 o7 none none none none none).set 7 (some (.int i)) = [some (.lst (sc.map D.int)), some (.lst (rs.map D.int)), some (.int gap), o3, none, some (.tup [lineD CL rs gap, .lst []]), some (lineD CL rs gap), some (.int i), none, none, none, none, none] := rfl
  rw [e5]
  have cl : clearO CL (varR 6) [some (.lst (sc.map D.int)), some (.lst (rs.map D.int)), some (.int gap), o3, none, some (.tup [lineD CL rs gap, .lst []]), some (lineD CL rs gap), some (.int i), none, none, none, none, none] = .nx [some (.lst (sc.map D.int)), some (.lst (rs.map D.int)), some (.int gap), o3, none, some (.tup [lineD CL rs gap, .lst []]), some (lineD CL rs gap), some (.int i), none, none, none, none, none] := by
    unfold clearO
    simp only [ev_seq, ev_set, ev_if, ev_op, ev_cl, ev_asB, ev_ret, ev_var0, ev_varS, ev_set0, ev_setS, ev_bind_ok, ev_bind_exc, ev_out_ok, ev_out_exc, ev_then_nx, ev_then_rt, ev_then_exc, ev_outrt, ev_outnx, ev_outexc, ev_lenL, ev_lenT, ev_lt, ev_le, ev_gt, ev_ge, ev_add, ev_sub, ev_and, ev_or, ev_not, ev_expr, ev_for, ev_neI, ev_eqI, ev_andV, ev_notV, ev_min2, ev_max2, ev_lstR, ev_tupR, ev_meth, ev_slice, ev_try, ev_isn, ev_notn, ev_chain2, ev_leT, ev_asI, ev_tupS, ev_seqD, ev_rT, ev_neg, ev_tup3, ev_t0, ev_t1, ev_t2, ev_l0, ev_l1, ev_sl2, ev_lk0, ev_lk1, ev_lk2, ev_lk3, ev_lk4, if_true, if_false, Bool.false_eq_true, Bool.not_true, Bool.not_false, Bool.true_and, Bool.false_and, Bool.true_or, Bool.false_or, asLine_ok, Option.isSome_some]
  simp only [ev_seq, ev_set, ev_if, ev_op, ev_cl, ev_asB, ev_ret, ev_var0, ev_varS, ev_set0, ev_setS, ev_bind_ok, ev_bind_exc, ev_out_ok, ev_out_exc, ev_then_nx, ev_then_rt, ev_then_exc, ev_outrt, ev_outnx, ev_outexc, ev_lenL, ev_lenT, ev_lt, ev_le, ev_gt, ev_ge, ev_add, ev_sub, ev_and, ev_or, ev_not, ev_expr, ev_for, ev_neI, ev_eqI, ev_andV, ev_notV, ev_min2, ev_max2, ev_lstR, ev_tupR, ev_meth, ev_slice, ev_try, ev_isn, ev_notn, ev_chain2, ev_leT, ev_asI, ev_tupS, ev_seqD, ev_rT, ev_neg, ev_tup3, ev_t0, ev_t1, ev_t2, ev_l0, ev_l1, ev_sl2, ev_lk0, ev_lk1, ev_lk2, ev_lk3, ev_lk4, if_true, if_false, Bool.false_eq_true, Bool.not_true, Bool.not_false, Bool.true_and, Bool.false_and, Bool.true_or, Bool.false_or, ne_nil, i1, i2, runs_line, clear_line, r1, r2, cl]
  rfl
theorem last_ok (Z : Fns P w K mg base CL CHE CBL CBT CBO a) {f : Addr} {cdv : Value} {A : Around} {outer : List Env} {s : Shared} {H : Hp} {E : XK} (hr : Room 4 (A.deeper (PyProof.Rows.envOfC "law" (defScope sLaw) s.heap.objs.size f cdv))) :
    ∃ F, PO1 (XL P w K mg base f cdv A outer s H E) E (bd sLaw 13) F ∧ ∀ (sc rs : List Int) (gap : Int) (o3 o7 o8 o9 o10 o11 o12 : Option D), rs.length ≤ 5 → F (ρS CL sc rs gap o3 o7 o8 o9 o10 o11 o12) = .rt (.bl true) := by
  have T := Z.T
  have hr1 : Room 1 _ := hr.mono (by decide : 1 ≤ 4)
  have hr2 : Room 2 _ := hr.mono (by decide : 2 ≤ 4)
  refine ⟨_, po_ret (pd_cl Z.GRow hr2 Z.mRow Z.kRow Z.bRow (pda_cons (pd_m0 (dv 6) T.cl Z.mR Z.GR hr1 Z.bR) (pda_cons (dv 1) pda_nil))), ?_⟩
  intro sc rs gap o3 o7 o8 o9 o10 o11 o12 hn
  have i1 : insOf CL "runs" (lineD CL rs gap) = true := isLine (by decide +kernel)
  have r1 : K1.mRow [.lst (rs.map D.int), .lst (rs.map D.int)] = .ok (.bl true) := by rw [mRow_ok (by omega), decide_eq_true rfl]
  unfold ρS
  simp only [ev_seq, ev_set, ev_if, ev_op, ev_cl, ev_asB, ev_ret, ev_var0, ev_varS, ev_set0, ev_setS, ev_bind_ok, ev_bind_exc, ev_out_ok, ev_out_exc, ev_then_nx, ev_then_rt, ev_then_exc, ev_outrt, ev_outnx, ev_outexc, ev_lenL, ev_lenT, ev_lt, ev_le, ev_gt, ev_ge, ev_add, ev_sub, ev_and, ev_or, ev_not, ev_expr, ev_for, ev_neI, ev_eqI, ev_andV, ev_notV, ev_min2, ev_max2, ev_lstR, ev_tupR, ev_meth, ev_slice, ev_try, ev_isn, ev_notn, ev_chain2, ev_leT, ev_asI, ev_tupS, ev_seqD, ev_rT, ev_neg, ev_tup3, ev_t0, ev_t1, ev_t2, ev_l0, ev_l1, ev_sl2, ev_lk0, ev_lk1, ev_lk2, ev_lk3, ev_lk4, if_true, if_false, Bool.false_eq_true, Bool.not_true, Bool.not_false, Bool.true_and, Bool.false_and, Bool.true_or, Bool.false_or, i1, runs_line, r1]
theorem trains_ok (Z : Fns P w K mg base CL CHE CBL CBT CBO a) {f : Addr} {cdv : Value} {A : Around} {outer : List Env} {s : Shared} {H : Hp} {E : XK} (hr : Room 4 (A.deeper (PyProof.Rows.envOfC "law" (defScope sLaw) s.heap.objs.size f cdv))) :
    ∃ F, PO1 (XL P w K mg base f cdv A outer s H E) E (bd sLaw 12) F ∧ ∀ (sc rs : List Int) (gap : Int) (o3 o7 : Option D), rs.length ≤ 5 → ∃ o8 o9 o10 o11 o12, F (ρS CL sc rs gap o3 o7 none none none none none) = .nx (ρS CL sc rs gap o3 o7 o8 o9 o10 o11 o12) := by
  have T := Z.T
  have hr1 : Room 1 _ := hr.mono (by decide : 1 ≤ 4)
  have hr2 : Room 2 _ := hr.mono (by decide : 2 ≤ 4)
  refine ⟨_, po_for PassesOwn.leaving rfl scL.nd (j := 8) rfl (Or.inl rfl) (pi_drange1 rfl T.rng (pda_cons pd_int pda_nil))
    (pos_cons (po_set (i := 9) scL.nd rfl (Or.inl rfl) (pd_lst (pda_cons (pd_bin do_sub (pd_cl Z.GD hr1 Z.mD Z.kD Z.bD (pda_cons (dv 0) (pda_cons (pd_bin do_add pd_int (pd_bin do_mul pd_int (dv 8))) (pda_cons (pd_bin do_add (pd_len T.len (dv 1)) pd_int) pda_nil)))) pd_int)
        (pda_cons (pd_bin do_sub (pd_cl Z.GD hr1 Z.mD Z.kD Z.bD (pda_cons (dv 0) (pda_cons (pd_bin do_add pd_int (pd_bin do_mul pd_int (dv 8))) (pda_cons (pd_bin do_add (pd_len T.len (dv 1)) pd_int) pda_nil)))) pd_int) pda_nil))))
      (pos_cons (po_set (i := 10) scL.nd rfl (Or.inl rfl) (pd_cl Z.GD hr1 Z.mD Z.kD Z.bD (pda_cons (dv 0) (pda_cons (pd_bin do_add pd_int (pd_bin do_mul pd_int (dv 8))) (pda_cons pd_int pda_nil)))))
      (pos_cons (po_if (pdt_cmp (do_eq hr.units) (pd_cl Z.GD hr1 Z.mD Z.kD Z.bD (pda_cons (dv 0) (pda_cons (pd_bin do_add pd_int (pd_bin do_mul pd_int (dv 8))) (pda_cons pd_int pda_nil)))) pd_int (nomark _))
          (pos_one (po_set (i := 10) scL.nd rfl (Or.inl rfl) (pd_ix (pd_lst (pda_cons pd_int (pda_cons (pd_neg pd_int) (pda_cons (pd_bin do_pow pd_int pd_int) pda_nil)))) (pd_bin do_mod (dv 10) pd_int)))) pos_nil)
      (pos_cons (po_set (i := 11) scL.nd rfl (Or.inl rfl) (pd_cl Z.GDu hr1 Z.mDu Z.kDu Z.bDu (pda_cons (pd_len T.len (dv 1)) (pda_cons (pd_tup (pda_cons (pd_ix (dv 9) pd_int) (pda_cons (pd_ix (dv 9) pd_int) (pda_cons (dv 10) pda_nil)))) pda_nil))))
      (pos_cons (po_set (i := 12) scL.nd rfl (Or.inl rfl) (pd_cl Z.GWe hr Z.mWe Z.kWe Z.bWe (pda_cons (dv 6) (pda_cons (pd_tup (pda_cons (pd_ix (dv 9) pd_int) (pda_cons (pd_ix (dv 9) pd_int) (pda_cons (dv 10) pda_nil)))) pda_nil))))
      (pos_one (po_if (pdt_cmp do_isN (dv 11) pd_non (nomark _))
        (pos_one (po_if (pdt_cmp (do_ne hr.units) (dv 12) (pd_tup (pda_cons pd_non (pda_cons (pd_lst (pda_cons pd_bl (pda_cons pd_bl (pda_cons pd_bl (pda_cons pd_bl pda_nil))))) pda_nil))) (nomark _)) (pos_one (po_ret pd_bl)) pos_nil))
        (pos_one (po_if (PDW.pt (pdw_or (pdt_cmp (do_ne hr.units) (pd_ix (dv 12) pd_int) (pd_lst pda_nil) (nomark _)) (pdw_or1 (pdt_not (pdt_val (pd_cl Z.GRow hr2 Z.mRow Z.kRow Z.bRow (pda_cons (pd_ix (dv 12) pd_int) (pda_cons (dv 11) pda_nil)))))))) (pos_one (po_ret pd_bl)) pos_nil))))))))), ?_⟩
  intro sc rs gap o3 o7 hn
  have er : rng1 [.int 4] = .ok [.int 0, .int 1, .int 2, .int 3] := by
    unfold rng1
    dsimp only
    rw [if_pos (by unfold smallI; rw [decide_eq_true (by omega), decide_eq_true (by omega)]; rfl)]
    rfl
  rw [ev_for]
  simp only [ev_bind_ok, er, ev_out_ok]
  have key : ∀ (F : DS → Out), (∀ (i : Int) (o8 o9 o10 o11 o12 : Option D), 0 ≤ i → i < 4 → ∃ p9 p10 p11 p12, F [some (.lst (sc.map D.int)), some (.lst (rs.map D.int)), some (.int gap), o3, none, some (lineT CL rs gap), some (lineD CL rs gap), o7, some (.int i), o9, o10, o11, o12] = .nx (ρS CL sc rs gap o3 o7 (some (.int i)) p9 p10 p11 p12)) →
      ∃ o8 o9 o10 o11 o12, forO 8 F [.int 0, .int 1, .int 2, .int 3] (ρS CL sc rs gap o3 o7 none none none none none) = .nx (ρS CL sc rs gap o3 o7 o8 o9 o10 o11 o12) := by
    intro F hF
    obtain ⟨ρ', e, o8, o9, o10, o11, o12, rfl⟩ := for_inv (F := F) (j := 8) (Pv := fun ρ => ∃ o8 o9 o10 o11 o12, ρ = ρS CL sc rs gap o3 o7 o8 o9 o10 o11 o12) [.int 0, .int 1, .int 2, .int 3] (ρS CL sc rs gap o3 o7 none none none none none) ⟨_, _, _, _, _, rfl⟩ (fun d hd ρ ⟨o8, o9, o10, o11, o12, hρ⟩ => by
      subst hρ
      have hi : ∃ i : Int, d = .int i ∧ 0 ≤ i ∧ i < 4 := by
        simp only [List.mem_cons, List.not_mem_nil, or_false] at hd
        rcases hd with rfl | rfl | rfl | rfl
        · exact ⟨0, rfl, by omega, by omega⟩
        · exact ⟨1, rfl, by omega, by omega⟩
        · exact ⟨2, rfl, by omega, by omega⟩
        · exact ⟨3, rfl, by omega, by omega⟩
      obtain ⟨i, rfl, h0, h4⟩ := hi
      obtain ⟨p9, p10, p11, p12, e⟩ := hF i o8 o9 o10 o11 o12 h0 h4
      exact ⟨_, e, _, _, _, _, _, rfl⟩)
    exact ⟨o8, o9, o10, o11, o12, e⟩
  refine key _ fun i o8 o9 o10 o11 o12 h0 h4 => ?_
  have hl : ((rs.map D.int).length : Int) = rs.length := by simp
  have hlen : (rs.length : Int) ≤ 5 := by omega
  have d1 : mDrawn [.lst (sc.map D.int), .int (20 + 4 * i), .int ((rs.length : Int) + 3)] = .ok (.int (drawn sc (20 + 4 * i) ((rs.length : Int) + 3))) := dr_ok (by omega) (by omega) (by omega) (by omega)
  have d2 : mDrawn [.lst (sc.map D.int), .int (21 + 4 * i), .int ((rs.length : Int) + 3)] = .ok (.int (drawn sc (21 + 4 * i) ((rs.length : Int) + 3))) := dr_ok (by omega) (by omega) (by omega) (by omega)
  have d3 : mDrawn [.lst (sc.map D.int), .int (22 + 4 * i), .int 61] = .ok (.int (drawn sc (22 + 4 * i) 61)) := dr_ok (by omega) (by omega) (by omega) (by omega)
  have d4 : mDrawn [.lst (sc.map D.int), .int (23 + 4 * i), .int 3] = .ok (.int (drawn sc (23 + 4 * i) 3)) := dr_ok (by omega) (by omega) (by omega) (by omega)
  have hm : mulI (.int 4) (.int i) = .ok (.int (4 * i)) := ev_mulL (by omega) (by omega)
  have ba : 0 ≤ drawn sc (20 + 4 * i) ((rs.length : Int) + 3) := dr_lo (by omega)
  have ba' : drawn sc (20 + 4 * i) ((rs.length : Int) + 3) < (rs.length : Int) + 3 := dr_hi (by omega)
  have bb : 0 ≤ drawn sc (21 + 4 * i) ((rs.length : Int) + 3) := dr_lo (by omega)
  have bb' : drawn sc (21 + 4 * i) ((rs.length : Int) + 3) < (rs.length : Int) + 3 := dr_hi (by omega)
  have br : 0 ≤ drawn sc (22 + 4 * i) 61 := dr_lo (by omega)
  have br' : drawn sc (22 + 4 * i) 61 < 61 := dr_hi (by omega)
  have em : modI (.int (drawn sc (22 + 4 * i) 61)) (.int 3) = .ok (.int (drawn sc (22 + 4 * i) 61 % 3)) := ev_mod (by decide)
  obtain ⟨r3, e3, h3⟩ := three (x := 61) (y := -1) (z := 1000000000) (i := drawn sc (22 + 4 * i) 61) (by decide)
  generalize drawn sc (20 + 4 * i) ((rs.length : Int) + 3) = ha at *
  generalize drawn sc (21 + 4 * i) ((rs.length : Int) + 3) = hb at *
  generalize drawn sc (22 + 4 * i) 61 = rd at *
  generalize drawn sc (23 + 4 * i) 3 = q4 at *
  have fin : ∀ r : Int, sm r = true → ∃ D1 D2, mDue [.int (rs.length : Int), .tup [.int (ha - 1), .int (hb - 1), .int r]] = .ok D1 ∧ mWent CL CBT [lineD CL rs gap, .tup [.int (ha - 1), .int (hb - 1), .int r]] = .ok D2 ∧
      ((D1 = .non ∧ D2 = marked false true true false) ∨ (∃ l, D1 = .lst l ∧ D2 = .tup [.lst l, .lst []] ∧ K1.mRow [.lst l, .lst l] = .ok (.bl true))) := by
    intro r hr
    refine ⟨_, _, due_ok (by omega) (by omega), went_ok hn (sm_of (by omega) (by omega)) (sm_of (by omega) (by omega)) hr, ?_⟩
    by_cases ht : trainOk rs.length (ha - 1) (hb - 1) r = true
    · rw [if_pos ht, if_pos ht]
      exact .inr ⟨_, rfl, rfl, by rw [mRow_ok (way_len ht (by omega)), decide_eq_true rfl]⟩
    · rw [if_neg ht, if_neg ht]
      exact .inl ⟨rfl, rfl⟩
  have isl : ∀ l : List D, isN (.lst l) = false := fun _ => rfl
  have isnn : isN .non = true := rfl
  unfold lineT
  by_cases hq : (q4 == 1) = true
  · have hr3 : sm r3 = true := sm_of (by omega) (by omega)
    obtain ⟨D1, D2, f1, f2, hc⟩ := fin r3 hr3
    rcases hc with ⟨rfl, rfl⟩ | ⟨l, rfl, rfl, hrow⟩
    · simp only [ev_seq, ev_set, ev_if, ev_op, ev_cl, ev_asB, ev_ret, ev_var0, ev_varS, ev_set0, ev_setS, ev_bind_ok, ev_bind_exc, ev_out_ok, ev_out_exc, ev_then_nx, ev_then_rt, ev_then_exc, ev_outrt, ev_outnx, ev_outexc, ev_lenL, ev_lenT, ev_lt, ev_le, ev_gt, ev_ge, ev_add, ev_sub, ev_and, ev_or, ev_not, ev_expr, ev_for, ev_neI, ev_eqI, ev_andV, ev_notV, ev_min2, ev_max2, ev_lstR, ev_tupR, ev_meth, ev_slice, ev_try, ev_isn, ev_notn, ev_chain2, ev_leT, ev_asI, ev_tupS, ev_seqD, ev_rT, ev_neg, ev_tup3, ev_t0, ev_t1, ev_t2, ev_l0, ev_l1, ev_sl2, ev_lk0, ev_lk1, ev_lk2, ev_lk3, ev_lk4, if_true, if_false, Bool.false_eq_true, Bool.not_true, Bool.not_false, Bool.true_and, Bool.false_and, Bool.true_or, Bool.false_or, d1, d2, d3, d4, hm, hl, hq, em, e3, ev_pow9, f1, f2, isnn, ne_marked]
      exact ⟨_, _, _, _, rfl⟩
    · simp only [ev_seq, ev_set, ev_if, ev_op, ev_cl, ev_asB, ev_ret, ev_var0, ev_varS, ev_set0, ev_setS, ev_bind_ok, ev_bind_exc, ev_out_ok, ev_out_exc, ev_then_nx, ev_then_rt, ev_then_exc, ev_outrt, ev_outnx, ev_outexc, ev_lenL, ev_lenT, ev_lt, ev_le, ev_gt, ev_ge, ev_add, ev_sub, ev_and, ev_or, ev_not, ev_expr, ev_for, ev_neI, ev_eqI, ev_andV, ev_notV, ev_min2, ev_max2, ev_lstR, ev_tupR, ev_meth, ev_slice, ev_try, ev_isn, ev_notn, ev_chain2, ev_leT, ev_asI, ev_tupS, ev_seqD, ev_rT, ev_neg, ev_tup3, ev_t0, ev_t1, ev_t2, ev_l0, ev_l1, ev_sl2, ev_lk0, ev_lk1, ev_lk2, ev_lk3, ev_lk4, if_true, if_false, Bool.false_eq_true, Bool.not_true, Bool.not_false, Bool.true_and, Bool.false_and, Bool.true_or, Bool.false_or, d1, d2, d3, d4, hm, hl, hq, em, e3, ev_pow9, f1, f2, isl, ne_nil, hrow]
      exact ⟨_, _, _, _, rfl⟩
  · have hq' := Bool.eq_false_iff.mpr hq
    obtain ⟨D1, D2, f1, f2, hc⟩ := fin rd (sm_of (by omega) (by omega))
    rcases hc with ⟨rfl, rfl⟩ | ⟨l, rfl, rfl, hrow⟩
    · simp only [ev_seq, ev_set, ev_if, ev_op, ev_cl, ev_asB, ev_ret, ev_var0, ev_varS, ev_set0, ev_setS, ev_bind_ok, ev_bind_exc, ev_out_ok, ev_out_exc, ev_then_nx, ev_then_rt, ev_then_exc, ev_outrt, ev_outnx, ev_outexc, ev_lenL, ev_lenT, ev_lt, ev_le, ev_gt, ev_ge, ev_add, ev_sub, ev_and, ev_or, ev_not, ev_expr, ev_for, ev_neI, ev_eqI, ev_andV, ev_notV, ev_min2, ev_max2, ev_lstR, ev_tupR, ev_meth, ev_slice, ev_try, ev_isn, ev_notn, ev_chain2, ev_leT, ev_asI, ev_tupS, ev_seqD, ev_rT, ev_neg, ev_tup3, ev_t0, ev_t1, ev_t2, ev_l0, ev_l1, ev_sl2, ev_lk0, ev_lk1, ev_lk2, ev_lk3, ev_lk4, if_true, if_false, Bool.false_eq_true, Bool.not_true, Bool.not_false, Bool.true_and, Bool.false_and, Bool.true_or, Bool.false_or, d1, d2, d3, d4, hm, hl, hq', em, e3, ev_pow9, f1, f2, isnn, ne_marked]
      exact ⟨_, _, _, _, rfl⟩
    · simp only [ev_seq, ev_set, ev_if, ev_op, ev_cl, ev_asB, ev_ret, ev_var0, ev_varS, ev_set0, ev_setS, ev_bind_ok, ev_bind_exc, ev_out_ok, ev_out_exc, ev_then_nx, ev_then_rt, ev_then_exc, ev_outrt, ev_outnx, ev_outexc, ev_lenL, ev_lenT, ev_lt, ev_le, ev_gt, ev_ge, ev_add, ev_sub, ev_and, ev_or, ev_not, ev_expr, ev_for, ev_neI, ev_eqI, ev_andV, ev_notV, ev_min2, ev_max2, ev_lstR, ev_tupR, ev_meth, ev_slice, ev_try, ev_isn, ev_notn, ev_chain2, ev_leT, ev_asI, ev_tupS, ev_seqD, ev_rT, ev_neg, ev_tup3, ev_t0, ev_t1, ev_t2, ev_l0, ev_l1, ev_sl2, ev_lk0, ev_lk1, ev_lk2, ev_lk3, ev_lk4, if_true, if_false, Bool.false_eq_true, Bool.not_true, Bool.not_false, Bool.true_and, Bool.false_and, Bool.true_or, Bool.false_or, d1, d2, d3, d4, hm, hl, hq', em, e3, ev_pow9, f1, f2, isl, ne_nil, hrow]
      exact ⟨_, _, _, _, rfl⟩
end
end K1

set_option Elab.async false
set_option linter.all false
set_option maxRecDepth 100000
set_option maxHeartbeats 8000000
namespace L2
open PySem PySem.Spec PyProof.Rows
theorem rd_any {K : PySem.W.Frag} {E : XK} {f : DS → Res D} {σ : St} {H : Hp} {Q : VK} {d : D} (G : Hp) (ρ : DS) (hs : Same G H) (ro : Ro K G σ ρ) (e : f ρ = .ok d) (k : ∀ v G' H', Ext G H G' H' → Rep K G' d v → Q v H') : tD K E f σ H Q :=
  ⟨G, ρ, hs, ro, by rw [e]; trivial, fun d' ed v G' H' x rp => by rw [e] at ed; cases ed; exact k v G' H' x rp⟩
theorem rd_int {K : PySem.W.Frag} {E : XK} {f : DS → Res D} {σ : St} {H : Hp} {Q : VK} {n : Int} (G : Hp) (ρ : DS) (hs : Same G H) (ro : Ro K G σ ρ) (e : f ρ = .ok (.int n)) (k : ∀ H', Same H H' → Q (.int n) H') : tD K E f σ H Q :=
  rd_any G ρ hs ro e fun v G' H' x rp => by rw [rep_int.mp rp]; exact k H' x.hh
theorem rd_bool {K : PySem.W.Frag} {E : XK} {f : DS → Res D} {σ : St} {H : Hp} {Q : VK} {b : Bool} (G : Hp) (ρ : DS) (hs : Same G H) (ro : Ro K G σ ρ) (e : f ρ = .ok (.bl b)) (k : ∀ H', Same H H' → Q (.bl b) H') : tD K E f σ H Q :=
  rd_any G ρ hs ro e fun v G' H' x rp => by rw [rep_bl.mp rp]; exact k H' x.hh
theorem rd_test {K : PySem.W.Frag} {E : XK} {f : DS → Res Bool} {σ : St} {H : Hp} {Q : Bool → Hp → Prop} {b : Bool} (G : Hp) (ρ : DS) (hs : Same G H) (ro : Ro K G σ ρ) (e : f ρ = .ok b) (k : ∀ H', Same H H' → Q b H') : tDT K E f σ H Q :=
  ⟨G, ρ, hs, ro, by rw [e]; trivial, fun b' eb G' H' x => by rw [e] at eb; cases eb; exact k H' x.hh⟩
theorem same_upd {G H : Hp} {p : Addr} {o : HO} (s : Same G H) (h : H p = some o) : Same (upd G p o) H := fun b u e => by
  by_cases z : b = p
  · subst z; rw [upd_same] at e; rw [← e]; exact h
  · rw [upd_ne z] at e; exact s b u e
theorem same_grow {G : Hp} {p : Addr} {o : HO} (h : G p = none) : Same G (upd G p o) := fun b u e => by rw [upd_ne (ne_of_none e h)]; exact e
end L2
namespace K1
open PySem L2
def ifT (s : Stmt) : Expr := match s with | .If c _ _ _ => c | _ => .Constant .none 0 ⟨0, 0, 0, 0⟩
section
variable {P : Program} {w : World} {K : PySem.W.Frag} {mg : Str → Option Value} {base : Heap} {CL CHE CBL CBT CBO : Addr} {a : Adr}
theorem told_ok {rs : List Int} {gap : Int} (h1 : rs.all sm = true) (h2 : sm gap = true) : mTold CL CBL [.lst (rs.map D.int), .int gap] = .ok (if lineOk rs gap = true then lineT CL rs gap else marked true true false false) := by
  unfold mTold mInit mCheckLine
  dsimp only
  rw [allInts_map]
  dsimp only
  rw [if_pos (by rw [h1, h2]; rfl)]
  by_cases h : lineOk rs gap = true
  · rw [if_pos h, if_pos h]
    rfl
  · rw [if_neg h, if_neg h]
    rfl
theorem all_min {n : Int} {ns : List Int} : (n :: ns).all runOk = (decide (1 ≤ minL (n :: ns)) && decide (maxL (n :: ns) ≤ 20)) := by
  obtain ⟨m1, m2⟩ := minL_spec (ns := n :: ns) (by simp)
  obtain ⟨x1, x2⟩ := maxL_spec (ns := n :: ns) (by simp)
  rw [Bool.eq_iff_iff, List.all_eq_true, Bool.and_eq_true, decide_eq_true_eq, decide_eq_true_eq]
  constructor
  · intro h
    have a1 := h _ m1
    have a2 := h _ x1
    unfold runOk at a1 a2
    simp only [Bool.and_eq_true, decide_eq_true_eq] at a1 a2
    exact ⟨a1.1, a2.2⟩
  · intro ⟨h1, h2⟩ y hy
    unfold runOk
    have := m2 y hy
    have := x2 y hy
    simp only [Bool.and_eq_true, decide_eq_true_eq]
    omega
theorem test_ok (Z : Fns P w K mg base CL CHE CBL CBT CBO a) {f : Addr} {cdv : Value} {A : Around} {outer : List Env} {s : Shared} {H : Hp} {E : XK} (hr : Room 4 (A.deeper (PyProof.Rows.envOfC "law" (defScope sLaw) s.heap.objs.size f cdv))) :
    ∃ F, PDT (XL P w K mg base f cdv A outer s H E) E (ifT (bd sLaw 8)) F ∧ ∀ (rs : List Int) (gap : Int), F [none, some (.lst (rs.map D.int)), some (.int gap)] = .ok (!lineOk rs gap) := by
  have T := Z.T
  refine ⟨_, PDW.pt (pdw_or (pdt_cmp do_lt (pd_len T.len (dv 1)) pd_int (nomark _)) (pdw_or (pdt_cmp do_gt (pd_len T.len (dv 1)) pd_int (nomark _)) (pdw_or (pdt_cmp do_lt (pd_minL T.mn (dv 1)) pd_int (nomark _)) (pdw_or (pdt_cmp do_gt (pd_maxL T.mx (dv 1)) pd_int (nomark _)) (pdw_or (pdt_cmp do_lt (dv 2) pd_int (nomark _)) (pdw_or1 (pdt_cmp do_gt (dv 2) pd_int (nomark _)))))))), ?_⟩
  intro rs gap
  have hl : ((rs.map D.int).length : Int) = rs.length := by simp
  unfold lineOk
  cases rs with
  | nil => rfl
  | cons n ns =>
    have e1 : minD [.lst ((n :: ns).map D.int)] = .ok (.int (minL (n :: ns))) := by unfold minD; dsimp only; rw [allInts_map]
    have e2 : maxD [.lst ((n :: ns).map D.int)] = .ok (.int (maxL (n :: ns))) := by unfold maxD; dsimp only; rw [allInts_map]
    simp only [ev_seq, ev_set, ev_if, ev_op, ev_cl, ev_asB, ev_ret, ev_var0, ev_varS, ev_set0, ev_setS, ev_bind_ok, ev_bind_exc, ev_out_ok, ev_out_exc, ev_then_nx, ev_then_rt, ev_then_exc, ev_outrt, ev_outnx, ev_outexc, ev_lenL, ev_lenT, ev_lt, ev_le, ev_gt, ev_ge, ev_add, ev_sub, ev_and, ev_or, ev_not, ev_expr, ev_for, ev_neI, ev_eqI, ev_andV, ev_notV, ev_min2, ev_max2, ev_lstR, ev_tupR, ev_meth, ev_slice, ev_try, ev_isn, ev_notn, ev_chain2, ev_leT, ev_asI, ev_tupS, ev_seqD, ev_rT, ev_neg, ev_tup3, ev_t0, ev_t1, ev_t2, ev_l0, ev_l1, ev_sl2, ev_lk0, ev_lk1, ev_lk2, ev_lk3, ev_lk4, if_true, if_false, Bool.false_eq_true, Bool.not_true, Bool.not_false, Bool.true_and, Bool.false_and, Bool.true_or, Bool.false_or, hl, e1, e2]
    rw [all_min]
    generalize ((n :: ns).length : Int) = L
    generalize minL (n :: ns) = m
    generalize maxL (n :: ns) = x
    by_cases q1 : L < 1 <;> by_cases q2 : 5 < L <;> by_cases q3 : m < 1 <;> by_cases q4 : 20 < x <;> by_cases q5 : gap < 0 <;> by_cases q6 : 5 < gap <;> simp [q1, q2, q3, q4, q5, q6] <;> omega
theorem tail_ok (Z : Fns P w K mg base CL CHE CBL CBT CBO a) {f : Addr} {cdv : Value} {A : Around} {outer : List Env} {s : Shared} {H : Hp} {E : XK} (hr : Room 4 (A.deeper (PyProof.Rows.envOfC "law" (defScope sLaw) s.heap.objs.size f cdv))) :
    ∃ t, PSs (XL P w K mg base f cdv A outer s H E) ((defBody sLaw).drop 5) t ∧ ∀ (Dn : Ends) (ad p : Addr) (sc rs : List Int) (gap wh : Int) (H' G : Hp), (∀ H2, Dn.rt (.bl true) H2) → Same G H' → G p = none → H' p = some (.lst (rs.map V.int)) → SqL K G ad (sc.map V.int) → rs.all sm = true → sm gap = true →
      t Dn [some (.ref ad), some (.ref p), some (.int gap), some (.int wh), none, none, none, none, none, none, none, none, none] H' := by
  have T := Z.T
  obtain ⟨F11, q11, e11⟩ := lap_ok Z (outer := outer) (H := H) (E := E) hr
  obtain ⟨F12, q12, e12⟩ := trains_ok Z (outer := outer) (H := H) (E := E) hr
  obtain ⟨F13, q13, e13⟩ := last_ok Z (outer := outer) (H := H) (E := E) hr
  obtain ⟨F8, q8, e8⟩ := test_ok Z (outer := outer) (H := H) (E := E) hr
  refine ⟨_, pss_cons (ps_set (i := 4) scL.nd rfl (Or.inl rfl) (pe_callTy call_list_of rfl T.lst bo_list (pa_cons (pv 1) pa_nil)))
    (pss_cons (ps_set (i := 5) scL.nd rfl (Or.inl rfl) (pe_d (E := E) (pd_cl Z.GTo hr Z.mTo Z.kTo Z.bTo (pda_cons (dv 4) (pda_cons (dv 2) pda_nil)))))
    (pss_cons (ps_if (pt_d (E := E) (pdt_cmp (do_ne hr.units) (dv 4) (dv 1) (nomark _))) (pss_one (ps_ret pe_bl)) pss_nil)
    (pss_cons (ps_if (pt_d q8) (pss_one (ps_ret (pe_d (E := E) (pd_cmp (do_eq hr.units) (dv 5) (pd_tup (pda_cons pd_non (pda_cons (pd_lst (pda_cons pd_bl (pda_cons pd_bl (pda_cons pd_bl (pda_cons pd_bl pda_nil))))) pda_nil))) (nomark _))))) pss_nil)
    (pss_cons (ps_set (i := 6) scL.nd rfl (Or.inl rfl) (pe_d (E := E) (pd_ix (dv 5) pd_int)))
    (pss_cons (ps_asg pe_int (pg_sub (pv 4) pe_int set_list))
    (pss_d (pos_cons q11 (pos_cons q12 (pos_one q13))))))))), ?_⟩
  intro Dn ad p sc rs gap wh H' G kQ hs gp hp hS hall hgap
  have rS : Rep K G (.lst (sc.map D.int)) (.ref ad) := rep_lst.mpr ⟨ad, _, rfl, hS, RepL.of_ints sc⟩
  -- handed = list(runs)
  refine ⟨_, rfl, p, _, rfl, .inl (SqL.of hp), fun l hl => ?_⟩
  have npl : p ≠ l := ne_of_none hp hl
  have gl : G l = none := hs.free hl
  have s5 : Same H' (upd H' l (.lst (rs.map V.int))) := same_grow hl
  have h5p : (upd H' l (.lst (rs.map V.int))) p = some (.lst (rs.map V.int)) := s5 _ _ hp
  have sB : Same (upd G l (.lst (rs.map V.int))) (upd H' l (.lst (rs.map V.int))) := same_upd (hs.trans s5) upd_same
  have rH : Rep K (upd G l (.lst (rs.map V.int))) (.lst (rs.map D.int)) (.ref l) := rep_lst.mpr ⟨l, _, rfl, .inl (.inl upd_same), RepL.of_ints rs⟩
  -- told = _law_told(handed, gap)
  refine rd_any (d := if lineOk rs gap = true then lineT CL rs gap else marked true true false false) (upd G l (.lst (rs.map V.int))) [none, none, some (.int gap), none, some (.lst (rs.map D.int))] sB (Ro.skip (Ro.skip (Ro.cons (rep_int.mpr rfl) (Ro.skip (Ro.cons rH Ro.nil))))) (by simp only [ev_seq, ev_set, ev_if, ev_op, ev_cl, ev_asB, ev_ret, ev_var0, ev_varS, ev_set0, ev_setS, ev_bind_ok, ev_bind_exc, ev_out_ok, ev_out_exc, ev_then_nx, ev_then_rt, ev_then_exc, ev_outrt, ev_outnx, ev_outexc, ev_lenL, ev_lenT, ev_lt, ev_le, ev_gt, ev_ge, ev_add, ev_sub, ev_and, ev_or, ev_not, ev_expr, ev_for, ev_neI, ev_eqI, ev_andV, ev_notV, ev_min2, ev_max2, ev_lstR, ev_tupR, ev_meth, ev_slice, ev_try, ev_isn, ev_notn, ev_chain2, ev_leT, ev_asI, ev_tupS, ev_seqD, ev_rT, ev_neg, ev_tup3, ev_t0, ev_t1, ev_t2, ev_l0, ev_l1, ev_sl2, ev_lk0, ev_lk1, ev_lk2, ev_lk3, ev_lk4, if_true, if_false, Bool.false_eq_true, Bool.not_true, Bool.not_false, Bool.true_and, Bool.false_and, Bool.true_or, Bool.false_or, told_ok hall hgap]) fun v6 G6 H6 x6 rp6 => ?_
  have h6p := x6.hh _ _ h5p
  have g6p : G6 p = none := by
    cases q : G6 p with
    | none => rfl
    | some o =>
      rcases x6.nw p o q with z | z
      · rw [upd_ne npl, gp] at z; cases z
      · rw [h5p] at z; cases z
  have g6l : G6 l = some (.lst (rs.map V.int)) := x6.gg _ _ upd_same
  -- if handed != runs
  refine rd_test (b := false) (upd G6 p (.lst (rs.map V.int))) [none, some (.lst (rs.map D.int)), none, none, some (.lst (rs.map D.int))] (same_upd x6.gh h6p)
    (Ro.skip (Ro.cons (rep_lst.mpr ⟨p, _, rfl, .inl (.inl upd_same), RepL.of_ints rs⟩) (Ro.skip (Ro.skip (Ro.cons ((rH.mono x6.gg).mono (same_grow g6p)) Ro.nil))))) (by simp only [ev_seq, ev_set, ev_if, ev_op, ev_cl, ev_asB, ev_ret, ev_var0, ev_varS, ev_set0, ev_setS, ev_bind_ok, ev_bind_exc, ev_out_ok, ev_out_exc, ev_then_nx, ev_then_rt, ev_then_exc, ev_outrt, ev_outnx, ev_outexc, ev_lenL, ev_lenT, ev_lt, ev_le, ev_gt, ev_ge, ev_add, ev_sub, ev_and, ev_or, ev_not, ev_expr, ev_for, ev_neI, ev_eqI, ev_andV, ev_notV, ev_min2, ev_max2, ev_lstR, ev_tupR, ev_meth, ev_slice, ev_try, ev_isn, ev_notn, ev_chain2, ev_leT, ev_asI, ev_tupS, ev_seqD, ev_rT, ev_neg, ev_tup3, ev_t0, ev_t1, ev_t2, ev_l0, ev_l1, ev_sl2, ev_lk0, ev_lk1, ev_lk2, ev_lk3, ev_lk4, if_true, if_false, Bool.false_eq_true, Bool.not_true, Bool.not_false, Bool.true_and, Bool.false_and, Bool.true_or, Bool.false_or, ne_ints]) fun H7 s7 => ?_
  refine iteF ?_
  have h7p := s7 _ _ h6p
  -- the test
  refine rd_test (b := !lineOk rs gap) (upd G6 p (.lst (rs.map V.int))) [none, some (.lst (rs.map D.int)), some (.int gap)] (same_upd (x6.gh.trans s7) h7p)
    (Ro.skip (Ro.cons (rep_lst.mpr ⟨p, _, rfl, .inl (.inl upd_same), RepL.of_ints rs⟩) (Ro.cons (rep_int.mpr rfl) Ro.nil))) (e8 rs gap) fun H8 s8 => ?_
  have h8p := s8 _ _ h7p
  have s68 : Same G6 H8 := (x6.gh.trans s7).trans s8
  by_cases hk : lineOk rs gap = true
  · rw [if_pos hk] at rp6
    rw [hk]
    refine iteF ?_
    have hk' := hk
    unfold lineOk at hk'
    simp only [Bool.and_eq_true, decide_eq_true_eq] at hk'
    have hlo : 1 ≤ rs.length := by omega
    have hhi : rs.length ≤ 5 := by omega
    -- line = told[0]
    refine rd_any (d := lineD CL rs gap) G6 [none, none, none, none, none, some (lineT CL rs gap)] s68 (Ro.skip (Ro.skip (Ro.skip (Ro.skip (Ro.skip (Ro.cons rp6 Ro.nil)))))) (by unfold lineT; simp only [ev_seq, ev_set, ev_if, ev_op, ev_cl, ev_asB, ev_ret, ev_var0, ev_varS, ev_set0, ev_setS, ev_bind_ok, ev_bind_exc, ev_out_ok, ev_out_exc, ev_then_nx, ev_then_rt, ev_then_exc, ev_outrt, ev_outnx, ev_outexc, ev_lenL, ev_lenT, ev_lt, ev_le, ev_gt, ev_ge, ev_add, ev_sub, ev_and, ev_or, ev_not, ev_expr, ev_for, ev_neI, ev_eqI, ev_andV, ev_notV, ev_min2, ev_max2, ev_lstR, ev_tupR, ev_meth, ev_slice, ev_try, ev_isn, ev_notn, ev_chain2, ev_leT, ev_asI, ev_tupS, ev_seqD, ev_rT, ev_neg, ev_tup3, ev_t0, ev_t1, ev_t2, ev_l0, ev_l1, ev_sl2, ev_lk0, ev_lk1, ev_lk2, ev_lk3, ev_lk4, if_true, if_false, Bool.false_eq_true, Bool.not_true, Bool.not_false, Bool.true_and, Bool.false_and, Bool.true_or, Bool.false_or]) fun v9 G9 H9 x9 rp9 => ?_
    have g9l : G9 l = some (.lst (rs.map V.int)) := x9.gg _ _ g6l
    have h9l : H9 l = some (.lst (rs.map V.int)) := x9.gh _ _ g9l
    have h9p : H9 p = some (.lst (rs.map V.int)) := x9.hh _ _ h8p
    have g9p : G9 p = none := by
      cases q : G9 p with
      | none => rfl
      | some o =>
        rcases x9.nw p o q with z | z
        · rw [g6p] at z; cases z
        · rw [h8p] at z; cases z
    -- handed[0] = 7
    refine ⟨_, rfl, l, rs.map V.int, 0, 0, rfl, rfl, h9l, (by unfold ixN; rw [if_pos (by decide), if_pos (by rw [List.length_map]; omega)]; rfl), ?_⟩
    have av : avoid (rs.map V.int).length (lineD CL rs gap) = true := by
      unfold lineD avoid avoids avoids avoids avoid
      rw [avoids_ints]
      rfl
    have av2 : avoid (rs.map V.int).length (lineT CL rs gap) = true := by
      unfold lineT avoid avoids avoids avoids
      rw [av]
      unfold avoid avoids
      rw [decide_eq_true (by rw [List.length_map, List.length_nil]; omega)]
      rfl
    have r6 : Rep K (del G9 l) (lineT CL rs gap) v6 := Rep.del g9l av2 (rp6.mono x9.gg)
    have r9 : Rep K (del G9 l) (lineD CL rs gap) v9 := Rep.del g9l av rp9
    have sdl : ∀ {o : HO}, Same (del G9 l) (upd H9 l o) := fun b u e => by
      have hb : b ≠ l := fun z => by subst z; rw [del_same] at e; cases e
      rw [del_ne hb] at e
      rw [upd_ne hb]
      exact x9.gh b u e
    have dp : del G9 l p = none := by rw [del_ne npl]; exact g9p
    have sG : Same G (del G9 l) := fun b u e => by
      have hb : b ≠ l := fun z => by subst z; rw [gl] at e; cases e
      rw [del_ne hb]
      exact x9.gg _ _ (x6.gg _ _ (by rw [upd_ne hb]; exact e))
    obtain ⟨o7, f1⟩ := e11 sc rs gap (some (.int wh)) hhi
    obtain ⟨o8, o9, o10, o11, o12, f2⟩ := e12 sc rs gap (some (.int wh)) o7 hhi
    have f3 := e13 sc rs gap (some (.int wh)) o7 o8 o9 o10 o11 o12 hhi
    have ff : seqO F11 (seqO F12 F13) (ρS CL sc rs gap (some (.int wh)) none none none none none none) = .rt (.bl true) := by
      rw [ev_seq, f1, ev_then_nx, ev_seq, f2, ev_then_nx, f3]
    refine ⟨upd (del G9 l) p (.lst (rs.map V.int)), ρS CL sc rs gap (some (.int wh)) none none none none none none, same_upd sdl (by rw [upd_ne npl]; exact h9p), ?_, by rw [ff]; trivial, fun ρ' σ' G' H' z => (by rw [ff] at z; cases z), fun ρ' σ' G' H' z => (by rw [ff] at z; cases z), fun ρ' σ' G' H' z => (by rw [ff] at z; cases z), fun d v G' H' z x rp => ?_⟩
    · have sg := same_grow (G := del G9 l) (p := p) (o := .lst (rs.map V.int)) dp
      exact Ro.cons ((rS.mono sG).mono sg) (Ro.cons (rep_lst.mpr ⟨p, _, rfl, .inl (.inl upd_same), RepL.of_ints rs⟩) (Ro.cons (rep_int.mpr rfl) (Ro.cons (rep_int.mpr rfl) (Ro.skip (Ro.cons (r6.mono sg) (Ro.cons (r9.mono sg) (Ro.skip (Ro.skip (Ro.skip (Ro.skip (Ro.skip (Ro.skip Ro.nil))))))))))))
    · rw [ff] at z
      cases z
      rw [rep_bl.mp rp]
      exact kQ H'
  · rw [if_neg hk] at rp6
    rw [Bool.eq_false_iff.mpr hk]
    refine iteT ?_
    exact rd_bool (b := true) G6 [none, none, none, none, none, some (marked true true false false)] s68 (Ro.skip (Ro.skip (Ro.skip (Ro.skip (Ro.skip (Ro.cons rp6 Ro.nil)))))) (by simp only [ev_seq, ev_set, ev_if, ev_op, ev_cl, ev_asB, ev_ret, ev_var0, ev_varS, ev_set0, ev_setS, ev_bind_ok, ev_bind_exc, ev_out_ok, ev_out_exc, ev_then_nx, ev_then_rt, ev_then_exc, ev_outrt, ev_outnx, ev_outexc, ev_lenL, ev_lenT, ev_lt, ev_le, ev_gt, ev_ge, ev_add, ev_sub, ev_and, ev_or, ev_not, ev_expr, ev_for, ev_neI, ev_eqI, ev_andV, ev_notV, ev_min2, ev_max2, ev_lstR, ev_tupR, ev_meth, ev_slice, ev_try, ev_isn, ev_notn, ev_chain2, ev_leT, ev_asI, ev_tupS, ev_seqD, ev_rT, ev_neg, ev_tup3, ev_t0, ev_t1, ev_t2, ev_l0, ev_l1, ev_sl2, ev_lk0, ev_lk1, ev_lk2, ev_lk3, ev_lk4, if_true, if_false, Bool.false_eq_true, Bool.not_true, Bool.not_false, Bool.true_and, Bool.false_and, Bool.true_or, Bool.false_or, eq_marked]) fun H9 _ => kQ H9
end
end K1

set_option Elab.async false
set_option linter.all false
set_option maxRecDepth 100000
set_option maxHeartbeats 8000000
namespace K1
open PySem L2
section
variable {P : Program} {w : World} {K : PySem.W.Frag} {mg : Str → Option Value} {base : Heap} {CL CHE CBL CBT CBO : Addr} {a : Adr}
theorem gap_ok (Z : Fns P w K mg base CL CHE CBL CBT CBO a) {f : Addr} {cdv : Value} {A : Around} {outer : List Env} {s : Shared} {H : Hp} {E : XK} (hr : Room 4 (A.deeper (PyProof.Rows.envOfC "law" (defScope sLaw) s.heap.objs.size f cdv))) :
    ∃ t, PSs (XL P w K mg base f cdv A outer s H E) ((defBody sLaw).drop 4) t ∧ ∀ (Dn : Ends) (ad p : Addr) (sc rs : List Int) (gap wh : Int) (H' G : Hp), (∀ H2, Dn.rt (.bl true) H2) → Same G H' → G p = none → H' p = some (.lst (rs.map V.int)) → SqL K G ad (sc.map V.int) → rs.all sm = true → sm gap = true →
      t Dn [some (.ref ad), some (.ref p), some (.int gap), some (.int wh), none, none, none, none, none, none, none, none, none] H' := by
  have T := Z.T
  have hr1 : Room 1 _ := hr.mono (by decide : 1 ≤ 4)
  obtain ⟨tT, qT, eT⟩ := tail_ok Z (outer := outer) (H := H) (E := E) hr
  refine ⟨_, pss_cons (ps_if (pt_d (E := E) (pdt_cmp (do_eq hr.units) (dv 3) pd_int (nomark _))) (pss_one (ps_set (i := 2) scL.nd rfl (Or.inl rfl) (pe_d (E := E) (pd_ix (pd_lst (pda_cons (pd_neg pd_int) (pda_cons pd_int (pda_cons (pd_bin do_pow pd_int pd_int) (pda_cons (pd_neg (pd_bin do_pow pd_int pd_int)) pda_nil))))) (pd_cl Z.GD hr1 Z.mD Z.kD Z.bD (pda_cons (dv 0) (pda_cons pd_int (pda_cons pd_int pda_nil)))))))) pss_nil) qT, ?_⟩
  intro Dn ad p sc rs gap wh H' G kQ hs gp hp hS hall hgap
  have rS : Rep K G (.lst (sc.map D.int)) (.ref ad) := rep_lst.mpr ⟨ad, _, rfl, hS, RepL.of_ints sc⟩
  refine rd_test (b := wh == 2) G [none, none, none, some (.int wh)] hs (Ro.skip (Ro.skip (Ro.skip (Ro.cons (rep_int.mpr rfl) Ro.nil)))) (by simp only [ev_seq, ev_set, ev_if, ev_op, ev_cl, ev_asB, ev_ret, ev_var0, ev_varS, ev_set0, ev_setS, ev_bind_ok, ev_bind_exc, ev_out_ok, ev_out_exc, ev_then_nx, ev_then_rt, ev_then_exc, ev_outrt, ev_outnx, ev_outexc, ev_lenL, ev_lenT, ev_lt, ev_le, ev_gt, ev_ge, ev_add, ev_sub, ev_and, ev_or, ev_not, ev_expr, ev_for, ev_neI, ev_eqI, ev_andV, ev_notV, ev_min2, ev_max2, ev_lstR, ev_tupR, ev_meth, ev_slice, ev_try, ev_isn, ev_notn, ev_chain2, ev_leT, ev_asI, ev_tupS, ev_seqD, ev_rT, ev_neg, ev_tup3, ev_t0, ev_t1, ev_t2, ev_l0, ev_l1, ev_sl2, ev_lk0, ev_lk1, ev_lk2, ev_lk3, ev_lk4, if_true, if_false, Bool.false_eq_true, Bool.not_true, Bool.not_false, Bool.true_and, Bool.false_and, Bool.true_or, Bool.false_or]) fun H1 s1 => ?_
  refine ite2 (fun _ => ?_) (fun _ => ?_)
  · have d4 : mDrawn [.lst (sc.map D.int), .int 4, .int 4] = .ok (.int (drawn sc 4 4)) := dr_ok (by omega) (by omega) (by omega) (by omega)
    obtain ⟨g, eg, hg⟩ := four (x := -1) (y := 6) (z := 1000000000) (u := -1000000000) (i := drawn sc 4 4) (dr_lo (by omega)) (dr_hi (by omega))
    refine rd_int (n := g) G [some (.lst (sc.map D.int))] (hs.trans s1) (Ro.cons rS Ro.nil) (by simp only [ev_seq, ev_set, ev_if, ev_op, ev_cl, ev_asB, ev_ret, ev_var0, ev_varS, ev_set0, ev_setS, ev_bind_ok, ev_bind_exc, ev_out_ok, ev_out_exc, ev_then_nx, ev_then_rt, ev_then_exc, ev_outrt, ev_outnx, ev_outexc, ev_lenL, ev_lenT, ev_lt, ev_le, ev_gt, ev_ge, ev_add, ev_sub, ev_and, ev_or, ev_not, ev_expr, ev_for, ev_neI, ev_eqI, ev_andV, ev_notV, ev_min2, ev_max2, ev_lstR, ev_tupR, ev_meth, ev_slice, ev_try, ev_isn, ev_notn, ev_chain2, ev_leT, ev_asI, ev_tupS, ev_seqD, ev_rT, ev_neg, ev_tup3, ev_t0, ev_t1, ev_t2, ev_l0, ev_l1, ev_sl2, ev_lk0, ev_lk1, ev_lk2, ev_lk3, ev_lk4, if_true, if_false, Bool.false_eq_true, Bool.not_true, Bool.not_false, Bool.true_and, Bool.false_and, Bool.true_or, Bool.false_or, ev_pow9, d4, eg]) fun H2 s2 => ?_
    exact eT Dn ad p sc rs g wh H2 G kQ ((hs.trans s1).trans s2) gp (s2 _ _ (s1 _ _ hp)) hS hall (sm_of (by omega) (by omega))
  · exact eT Dn ad p sc rs gap wh H1 G kQ (hs.trans s1) gp (s1 _ _ hp) hS hall hgap
def spLaw (K : PySem.W.Frag) : Sp := fun vs H Q _ => ∃ (ad : Addr) (sc : List Int), vs = [.ref ad] ∧ SqL K H ad (sc.map V.int) ∧ ∀ H', Q (.bl true) H'
theorem all_set {rs : List Int} {j : Nat} {x : Int} (h : rs.all sm = true) (hx : sm x = true) : (rs.set j x).all sm = true := by
  rw [List.all_eq_true] at h ⊢
  intro y hy
  rcases List.mem_or_eq_of_mem_set hy with h1 | h1
  · exact h y h1
  · rw [h1]; exact hx
theorem ok_law {f : Addr} {fd : FuncData} (F : Fun K "law" "law" sLaw f fd) (Z : Fns P w K mg base CL CHE CBL CBT CBO a) : FnOk P w K mg base (CXF P w) 5 f fd ["script"] (spLaw K) := by
  refine F.okF scL (fun vs H Q E h => ?_) (fun cdv A outer s H vs Q E hr h => ?_)
  · obtain ⟨ad, sc, rfl, _⟩ := h
    rfl
  · obtain ⟨ad, sc, rfl, hS, k⟩ := h
    have T := Z.T
    have hr1 : Room 1 _ := hr.mono (by decide : 1 ≤ 4)
    obtain ⟨tT, qT, eT⟩ := gap_ok Z (outer := outer) (H := H) (E := E) hr
    have S : CompSc (XL P w K mg base f cdv A outer s H E) { kind := .function, names := [(".0", .local), ("k", .local), ("_law_drawn", .globalImplicit), ("script", .free)], isGenerator := false, isCoroutine := false } ["k", "script"] [none, some 0] :=
      ⟨rfl, by decide +kernel, by decide +kernel, (by intro y hy hk; rcases List.mem_cons.mp hy with rfl | hy; (· cases hk); rcases List.mem_cons.mp hy with rfl | hy; (· cases hk); rcases List.mem_cons.mp hy with rfl | hy; (· cases hk); rcases List.mem_cons.mp hy with rfl | hy; (· exact .inl rfl); cases hy), by decide +kernel, rfl,
        (fun j k x h1 h2 => by (match j, h1, h2 with | 0, h1, _ => cases h1 | 1, h1, h2 => cases h2; rfl)), (fun j k x h1 h2 => by (match j, h1, h2 with | 0, h1, _ => cases h1 | 1, h1, h2 => cases h1; cases h2; exact ⟨rfl, .inl rfl⟩))⟩
    obtain ⟨fi, ft, fe, q0, rs0, e0, h0, h7⟩ : ∃ fi ft fe, PS (XL P w K mg base f cdv A outer s H E) (bd sLaw 0) (tAsg (tComp (tDI K E fi) [none, some 0] (gName 0) (tDT K E00 ft) (tD K E00 fe)) (gName 1)) ∧
        ∃ rs0 : List Int, compR fi [none, some 0] 0 ft fe [some (.lst (sc.map D.int))] = .ok (.lst (rs0.map D.int)) ∧ rs0.all sm = true ∧ rs0.length ≤ 7 :=
      ⟨_, _, _, ps_setCompD (E := E) scL.nd rfl rfl rfl S rfl rfl rfl (pi_drange1 rfl T.rng (pda_cons (pd_cl Z.GD hr1 Z.mD Z.kD Z.bD (pda_cons (dv 0) (pda_cons pd_int (pda_cons pd_int pda_nil)))) pda_nil)) (fun _ _ _ _ => pdif_nil)
          (fun _ _ _ _ => pd_bin do_add pd_int (pd_cl Z.GD hr1 Z.mD Z.kD Z.bD (pda_cons (dv 1) (pda_cons (pd_bin do_add pd_int (dv 0)) (pda_cons pd_int pda_nil))) passes00)), by
        have d0 : mDrawn [.lst (sc.map D.int), .int 0, .int 8] = .ok (.int (drawn sc 0 8)) := dr_ok (by omega) (by omega) (by omega) (by omega)
        have b0 : 0 ≤ drawn sc 0 8 := dr_lo (by omega)
        have b1 : drawn sc 0 8 < 8 := dr_hi (by omega)
        have er : rng1 [.int (drawn sc 0 8)] = .ok (rngD 0 (drawn sc 0 8).toNat) := by
          unfold rng1
          dsimp only
          rw [if_pos (by unfold smallI; simp only [Bool.and_eq_true, decide_eq_true_eq]; omega)]
        refine ⟨(List.range (drawn sc 0 8).toNat).map fun (i : Nat) => 1 + drawn sc (10 + (0 + (i : Int))) 20, ?_, ?_, by rw [List.length_map, List.length_range]; omega⟩
        · unfold compR
          simp only [ev_seq, ev_set, ev_if, ev_op, ev_cl, ev_asB, ev_ret, ev_var0, ev_varS, ev_set0, ev_setS, ev_bind_ok, ev_bind_exc, ev_out_ok, ev_out_exc, ev_then_nx, ev_then_rt, ev_then_exc, ev_outrt, ev_outnx, ev_outexc, ev_lenL, ev_lenT, ev_lt, ev_le, ev_gt, ev_ge, ev_add, ev_sub, ev_and, ev_or, ev_not, ev_expr, ev_for, ev_neI, ev_eqI, ev_andV, ev_notV, ev_min2, ev_max2, ev_lstR, ev_tupR, ev_meth, ev_slice, ev_try, ev_isn, ev_notn, ev_chain2, ev_leT, ev_asI, ev_tupS, ev_seqD, ev_rT, ev_neg, ev_tup3, ev_t0, ev_t1, ev_t2, ev_l0, ev_l1, ev_sl2, ev_lk0, ev_lk1, ev_lk2, ev_lk3, ev_lk4, if_true, if_false, Bool.false_eq_true, Bool.not_true, Bool.not_false, Bool.true_and, Bool.false_and, Bool.true_or, Bool.false_or, d0, er]
          rw [if_pos (by unfold lenOk rngD; rw [decide_eq_true_eq, List.length_map, List.length_range]; omega)]
          have ec : capD [none, some 0] [some (.lst (sc.map D.int))] = [none, some (.lst (sc.map D.int))] := rfl
          rw [ec]
          rw [fmapB_map (g := fun d => match d with | .int i => .int (1 + drawn sc (10 + i) 20) | d => d)]
          · simp only [ev_seq, ev_set, ev_if, ev_op, ev_cl, ev_asB, ev_ret, ev_var0, ev_varS, ev_set0, ev_setS, ev_bind_ok, ev_bind_exc, ev_out_ok, ev_out_exc, ev_then_nx, ev_then_rt, ev_then_exc, ev_outrt, ev_outnx, ev_outexc, ev_lenL, ev_lenT, ev_lt, ev_le, ev_gt, ev_ge, ev_add, ev_sub, ev_and, ev_or, ev_not, ev_expr, ev_for, ev_neI, ev_eqI, ev_andV, ev_notV, ev_min2, ev_max2, ev_lstR, ev_tupR, ev_meth, ev_slice, ev_try, ev_isn, ev_notn, ev_chain2, ev_leT, ev_asI, ev_tupS, ev_seqD, ev_rT, ev_neg, ev_tup3, ev_t0, ev_t1, ev_t2, ev_l0, ev_l1, ev_sl2, ev_lk0, ev_lk1, ev_lk2, ev_lk3, ev_lk4, if_true, if_false, Bool.false_eq_true, Bool.not_true, Bool.not_false, Bool.true_and, Bool.false_and, Bool.true_or, Bool.false_or]
            unfold rngD
            rw [List.map_map, List.map_map]
            rfl
          · intro d hd
            unfold rngD at hd
            obtain ⟨i, hi, rfl⟩ := List.mem_map.mp hd
            have hi' := List.mem_range.mp hi
            have d1 : mDrawn [.lst (sc.map D.int), .int (10 + (0 + (i : Int))), .int 20] = .ok (.int (drawn sc (10 + (0 + (i : Int))) 20)) := dr_ok (by omega) (by omega) (by omega) (by omega)
            refine ⟨rfl, ?_⟩
            simp only [ev_seq, ev_set, ev_if, ev_op, ev_cl, ev_asB, ev_ret, ev_var0, ev_varS, ev_set0, ev_setS, ev_bind_ok, ev_bind_exc, ev_out_ok, ev_out_exc, ev_then_nx, ev_then_rt, ev_then_exc, ev_outrt, ev_outnx, ev_outexc, ev_lenL, ev_lenT, ev_lt, ev_le, ev_gt, ev_ge, ev_add, ev_sub, ev_and, ev_or, ev_not, ev_expr, ev_for, ev_neI, ev_eqI, ev_andV, ev_notV, ev_min2, ev_max2, ev_lstR, ev_tupR, ev_meth, ev_slice, ev_try, ev_isn, ev_notn, ev_chain2, ev_leT, ev_asI, ev_tupS, ev_seqD, ev_rT, ev_neg, ev_tup3, ev_t0, ev_t1, ev_t2, ev_l0, ev_l1, ev_sl2, ev_lk0, ev_lk1, ev_lk2, ev_lk3, ev_lk4, if_true, if_false, Bool.false_eq_true, Bool.not_true, Bool.not_false, Bool.true_and, Bool.false_and, Bool.true_or, Bool.false_or, d1]
        · rw [List.all_eq_true]
          intro y hy
          obtain ⟨i, _, rfl⟩ := List.mem_map.mp hy
          have := dr_lo (sc := sc) (k := 10 + (0 + (i : Int))) (show (0 : Int) < 20 by omega)
          have := dr_hi (sc := sc) (k := 10 + (0 + (i : Int))) (show (0 : Int) < 20 by omega)
          exact sm_of (by omega) (by omega)⟩
    refine ⟨_, pss_cons q0 (pss_cons (ps_set (i := 2) scL.nd rfl (Or.inl rfl) (pe_d (E := E) (pd_cl Z.GD hr1 Z.mD Z.kD Z.bD (pda_cons (dv 0) (pda_cons pd_int (pda_cons pd_int pda_nil))))))
      (pss_cons (ps_set (i := 3) scL.nd rfl (Or.inl rfl) (pe_d (E := E) (pd_cl Z.GD hr1 Z.mD Z.kD Z.bD (pda_cons (dv 0) (pda_cons pd_int (pda_cons pd_int pda_nil))))))
      (pss_cons (ps_if (pt_d (E := E) (PDW.pt (pdw_and (pdt_cmp (do_eq hr.units) (dv 3) pd_int (nomark _)) (pdw_and1 (pdt_cmp do_gt (pd_len T.len (dv 1)) pd_int (nomark _))))))
        (pss_one (ps_asg (pe_d (E := E) (pd_ix (pd_lst (pda_cons pd_int (pda_cons pd_int (pda_cons (pd_neg pd_int) (pda_cons (pd_bin do_pow pd_int pd_int) pda_nil))))) (pd_cl Z.GD hr1 Z.mD Z.kD Z.bD (pda_cons (dv 0) (pda_cons pd_int (pda_cons pd_int pda_nil))))))
          (pg_sub (pv 1) (pe_d (E := E) (pd_cl Z.GD hr1 Z.mD Z.kD Z.bD (pda_cons (dv 0) (pda_cons pd_int (pda_cons (pd_len T.len (dv 1)) pda_nil))))) set_list))) pss_nil) qT))), ?_⟩
    have rS : Rep K H (.lst (sc.map D.int)) (.ref ad) := rep_lst.mpr ⟨ad, _, rfl, hS, RepL.of_ints sc⟩
    dsimp only [tSeq, tAsg]
    refine tComp_d (K := K) (E := E) (caps := [none, some 0]) (j := 0) (by decide) (.refl H) (Ro.cons rS Ro.nil) (by rw [e0]; trivial) fun es ee p vs G1 H1 x1 np hp rl1 rp1 => ?_
    rw [e0] at ee
    cases ee
    have hvs := rl1.ints
    subst hvs
    have d1 : mDrawn [.lst (sc.map D.int), .int 1, .int 6] = .ok (.int (drawn sc 1 6)) := dr_ok (by omega) (by omega) (by omega) (by omega)
    have d2 : mDrawn [.lst (sc.map D.int), .int 2, .int 4] = .ok (.int (drawn sc 2 4)) := dr_ok (by omega) (by omega) (by omega) (by omega)
    have hgap : sm (drawn sc 1 6) = true := sm_of (by have := dr_lo (sc := sc) (k := 1) (show (0 : Int) < 6 by omega); omega) (by have := dr_hi (sc := sc) (k := 1) (show (0 : Int) < 6 by omega); omega)
    refine rd_int (n := drawn sc 1 6) H [some (.lst (sc.map D.int))] x1.hh (Ro.cons rS Ro.nil) (by simp only [ev_seq, ev_set, ev_if, ev_op, ev_cl, ev_asB, ev_ret, ev_var0, ev_varS, ev_set0, ev_setS, ev_bind_ok, ev_bind_exc, ev_out_ok, ev_out_exc, ev_then_nx, ev_then_rt, ev_then_exc, ev_outrt, ev_outnx, ev_outexc, ev_lenL, ev_lenT, ev_lt, ev_le, ev_gt, ev_ge, ev_add, ev_sub, ev_and, ev_or, ev_not, ev_expr, ev_for, ev_neI, ev_eqI, ev_andV, ev_notV, ev_min2, ev_max2, ev_lstR, ev_tupR, ev_meth, ev_slice, ev_try, ev_isn, ev_notn, ev_chain2, ev_leT, ev_asI, ev_tupS, ev_seqD, ev_rT, ev_neg, ev_tup3, ev_t0, ev_t1, ev_t2, ev_l0, ev_l1, ev_sl2, ev_lk0, ev_lk1, ev_lk2, ev_lk3, ev_lk4, if_true, if_false, Bool.false_eq_true, Bool.not_true, Bool.not_false, Bool.true_and, Bool.false_and, Bool.true_or, Bool.false_or, d1]) fun H2 s2 => ?_
    refine rd_int (n := drawn sc 2 4) H [some (.lst (sc.map D.int))] (x1.hh.trans s2) (Ro.cons rS Ro.nil) (by simp only [ev_seq, ev_set, ev_if, ev_op, ev_cl, ev_asB, ev_ret, ev_var0, ev_varS, ev_set0, ev_setS, ev_bind_ok, ev_bind_exc, ev_out_ok, ev_out_exc, ev_then_nx, ev_then_rt, ev_then_exc, ev_outrt, ev_outnx, ev_outexc, ev_lenL, ev_lenT, ev_lt, ev_le, ev_gt, ev_ge, ev_add, ev_sub, ev_and, ev_or, ev_not, ev_expr, ev_for, ev_neI, ev_eqI, ev_andV, ev_notV, ev_min2, ev_max2, ev_lstR, ev_tupR, ev_meth, ev_slice, ev_try, ev_isn, ev_notn, ev_chain2, ev_leT, ev_asI, ev_tupS, ev_seqD, ev_rT, ev_neg, ev_tup3, ev_t0, ev_t1, ev_t2, ev_l0, ev_l1, ev_sl2, ev_lk0, ev_lk1, ev_lk2, ev_lk3, ev_lk4, if_true, if_false, Bool.false_eq_true, Bool.not_true, Bool.not_false, Bool.true_and, Bool.false_and, Bool.true_or, Bool.false_or, d2]) fun H3 s3 => ?_
    have h3p := s3 _ _ (s2 _ _ hp)
    have s13 := (x1.hh.trans s2).trans s3
    have hl : ((rs0.map D.int).length : Int) = rs0.length := by simp
    refine rd_test (b := (drawn sc 2 4 == 1) && decide (0 < (rs0.length : Int))) (upd H p (.lst (rs0.map V.int))) [none, some (.lst (rs0.map D.int)), none, some (.int (drawn sc 2 4))] (same_upd s13 h3p)
      (Ro.skip (Ro.cons (rep_lst.mpr ⟨p, _, rfl, .inl (.inl upd_same), RepL.of_ints rs0⟩) (Ro.skip (Ro.cons (rep_int.mpr rfl) Ro.nil)))) (by simp only [ev_seq, ev_set, ev_if, ev_op, ev_cl, ev_asB, ev_ret, ev_var0, ev_varS, ev_set0, ev_setS, ev_bind_ok, ev_bind_exc, ev_out_ok, ev_out_exc, ev_then_nx, ev_then_rt, ev_then_exc, ev_outrt, ev_outnx, ev_outexc, ev_lenL, ev_lenT, ev_lt, ev_le, ev_gt, ev_ge, ev_add, ev_sub, ev_and, ev_or, ev_not, ev_expr, ev_for, ev_neI, ev_eqI, ev_andV, ev_notV, ev_min2, ev_max2, ev_lstR, ev_tupR, ev_meth, ev_slice, ev_try, ev_isn, ev_notn, ev_chain2, ev_leT, ev_asI, ev_tupS, ev_seqD, ev_rT, ev_neg, ev_tup3, ev_t0, ev_t1, ev_t2, ev_l0, ev_l1, ev_sl2, ev_lk0, ev_lk1, ev_lk2, ev_lk3, ev_lk4, if_true, if_false, Bool.false_eq_true, Bool.not_true, Bool.not_false, Bool.true_and, Bool.false_and, Bool.true_or, Bool.false_or, hl]; cases (drawn sc 2 4 == 1) <;> rfl) fun H4 s4 => ?_
    have h4p := s4 _ _ h3p
    have s14 := s13.trans s4
    refine ite2 (fun hb => ?_) (fun _ => ?_)
    · rw [Bool.and_eq_true, decide_eq_true_eq] at hb
      have hpos : 0 < (rs0.length : Int) := hb.2
      have d4 : mDrawn [.lst (sc.map D.int), .int 4, .int 4] = .ok (.int (drawn sc 4 4)) := dr_ok (by omega) (by omega) (by omega) (by omega)
      have d3 : mDrawn [.lst (sc.map D.int), .int 3, .int (rs0.length : Int)] = .ok (.int (drawn sc 3 (rs0.length : Int))) := dr_ok (by omega) (by omega) (by omega) (by omega)
      obtain ⟨x, ex, hx⟩ := four (x := 0) (y := 21) (z := -1) (u := 1000000000) (i := drawn sc 4 4) (dr_lo (by omega)) (dr_hi (by omega))
      refine rd_int (n := x) H [some (.lst (sc.map D.int))] s14 (Ro.cons rS Ro.nil) (by simp only [ev_seq, ev_set, ev_if, ev_op, ev_cl, ev_asB, ev_ret, ev_var0, ev_varS, ev_set0, ev_setS, ev_bind_ok, ev_bind_exc, ev_out_ok, ev_out_exc, ev_then_nx, ev_then_rt, ev_then_exc, ev_outrt, ev_outnx, ev_outexc, ev_lenL, ev_lenT, ev_lt, ev_le, ev_gt, ev_ge, ev_add, ev_sub, ev_and, ev_or, ev_not, ev_expr, ev_for, ev_neI, ev_eqI, ev_andV, ev_notV, ev_min2, ev_max2, ev_lstR, ev_tupR, ev_meth, ev_slice, ev_try, ev_isn, ev_notn, ev_chain2, ev_leT, ev_asI, ev_tupS, ev_seqD, ev_rT, ev_neg, ev_tup3, ev_t0, ev_t1, ev_t2, ev_l0, ev_l1, ev_sl2, ev_lk0, ev_lk1, ev_lk2, ev_lk3, ev_lk4, if_true, if_false, Bool.false_eq_true, Bool.not_true, Bool.not_false, Bool.true_and, Bool.false_and, Bool.true_or, Bool.false_or, ev_pow9, d4, ex]) fun H5 s5 => ?_
      have h5p := s5 _ _ h4p
      refine ⟨_, rfl, rd_int (n := drawn sc 3 (rs0.length : Int)) (upd H p (.lst (rs0.map V.int))) [some (.lst (sc.map D.int)), some (.lst (rs0.map D.int))] (same_upd (s14.trans s5) h5p) (Ro.cons (rS.mono (same_grow np)) (Ro.cons (rep_lst.mpr ⟨p, _, rfl, .inl (.inl upd_same), RepL.of_ints rs0⟩) Ro.nil)) (by simp only [ev_seq, ev_set, ev_if, ev_op, ev_cl, ev_asB, ev_ret, ev_var0, ev_varS, ev_set0, ev_setS, ev_bind_ok, ev_bind_exc, ev_out_ok, ev_out_exc, ev_then_nx, ev_then_rt, ev_then_exc, ev_outrt, ev_outnx, ev_outexc, ev_lenL, ev_lenT, ev_lt, ev_le, ev_gt, ev_ge, ev_add, ev_sub, ev_and, ev_or, ev_not, ev_expr, ev_for, ev_neI, ev_eqI, ev_andV, ev_notV, ev_min2, ev_max2, ev_lstR, ev_tupR, ev_meth, ev_slice, ev_try, ev_isn, ev_notn, ev_chain2, ev_leT, ev_asI, ev_tupS, ev_seqD, ev_rT, ev_neg, ev_tup3, ev_t0, ev_t1, ev_t2, ev_l0, ev_l1, ev_sl2, ev_lk0, ev_lk1, ev_lk2, ev_lk3, ev_lk4, if_true, if_false, Bool.false_eq_true, Bool.not_true, Bool.not_false, Bool.true_and, Bool.false_and, Bool.true_or, Bool.false_or, hl, d3]) fun H6 s6 => ?_⟩
      have j0 := dr_lo (sc := sc) (k := 3) hpos
      have j1 := dr_hi (sc := sc) (k := 3) hpos
      refine ⟨p, rs0.map V.int, drawn sc 3 (rs0.length : Int), (drawn sc 3 (rs0.length : Int)).toNat, rfl, rfl, s6 _ _ h5p, (by unfold ixN; rw [if_pos j0, if_pos (by rw [List.length_map]; exact j1)]), ?_⟩
      have em : (rs0.map V.int).set (drawn sc 3 (rs0.length : Int)).toNat (.int x) = (rs0.set (drawn sc 3 (rs0.length : Int)).toNat x).map V.int := List.map_set.symm
      refine eT _ ad p sc (rs0.set (drawn sc 3 (rs0.length : Int)).toNat x) _ _ _ H k (fun b u e => ?_) np (by rw [upd_same, em]) hS (all_set h0 (sm_of (by omega) (by omega))) hgap
      rw [upd_ne (ne_of_none e np)]
      exact s6 _ _ (s5 _ _ (s14 _ _ e))
    · exact eT _ ad p sc rs0 _ _ H4 H k s14 np h4p hS h0 hgap
end
end K1

set_option Elab.async false
set_option linter.all false
set_option maxRecDepth 100000
namespace K1
open PySem L2
theorem kit_self {K : PySem.W.Frag} {t : Value} : PySem.W.kitOne K t t = some true := by
  unfold PySem.W.kitOne
  rw [if_pos (beq_iff_eq.mpr rfl)]
theorem kit_ref {K : PySem.W.Frag} {C D : Addr} {b : Bool} (hne : C ≠ D) (hc : (PySem.W.clsIn K D).isSome = true) (ht : PySem.W.typeIn K (.ref D) = some (.type "type")) (hm : PySem.W.mroIn K C (.ref D) = some b) : PySem.W.kitOne K (.ref C) (.ref D) = some b := by
  unfold PySem.W.kitOne
  rw [if_neg (fun q => hne (Value.ref.inj (beq_iff_eq.mp q)))]
  unfold PySem.W.kitCls
  dsimp only
  rw [if_pos (by rw [hc, ht]; rfl)]
  exact hm
theorem kit_ty {K : PySem.W.Frag} {C : Addr} {T : String} {b : Bool} (hk : PySem.W.kitMeta T = true) (hm : PySem.W.mroIn K C (.type T) = some b) : PySem.W.kitOne K (.ref C) (.type T) = some b := by
  unfold PySem.W.kitOne
  rw [if_neg (fun q => by have := beq_iff_eq.mp q; cases this)]
  unfold PySem.W.kitCls
  dsimp only
  rw [if_pos hk]
  exact hm
theorem kit_ib {K : PySem.W.Frag} : PySem.W.kitOne K (.type "int") (.type "bool") = some false := by
  unfold PySem.W.kitOne
  rw [if_neg (by decide +kernel)]
  unfold PySem.W.kitCls
  dsimp only
  rw [if_pos (by decide +kernel)]
  show Option.map (fun x => x.contains (Value.type "bool")) (fastBuiltinMro "int") = some false
  decide +kernel
theorem exm_ref {K : PySem.W.Frag} {C D : Addr} (hb : PySem.W.mroIn K D (.type "BaseException") = some true) (hc : (PySem.W.clsIn K D).isSome = true) (ht : PySem.W.typeIn K (.ref D) = some (.type "type")) (hm : PySem.W.mroIn K C (.ref D) = some true) : PySem.W.exmOne K (.ref C) (.ref D) = some true := by
  unfold PySem.W.exmOne
  have h1 : PySem.W.subIn K (.ref D) (.type "BaseException") = some true := hb
  rw [if_pos (by rw [h1]; rfl)]
  unfold PySem.W.kitCls
  dsimp only
  rw [if_pos (by rw [hc, ht]; rfl)]
  exact hm
theorem all_mk {l : PySem.W.OpenLaw} {w : World} {K : PySem.W.Frag} {h : Heap} {mg : Str → Option Value} {fa CL CHE CBL CBT CBO f1 f2 f3 f4 f5 f6 f7 f8 f9 f10 f11 f12 f13 : Addr} (X : K.In h) (G : h.Ns mainGlobals mg) (hfa : mg "law" = some (.ref fa)) {od1 an1 od2 an2 od3 an3 od4 an4 od5 an5 od6 an6 od7 an7 od8 an8 od9 an9 od10 an10 od11 an11 od12 an12 od13 an13 : Option Addr} {sl1 sl2 sl3 sl4 sl5 sl6 sl7 sl8 sl9 sl10 sl11 sl12 sl13 : Array (Option Value)} {oc1 kV1 dc1 pm1 cd1 ct1 oc2 kV2 dc2 pm2 cd2 ct2 oc3 kV3 dc3 pm3 cd3 ct3 oc4 kV4 dc4 pm4 cd4 ct4 oc5 kV5 dc5 pm5 cd5 ct5 oc6 kV6 dc6 pm6 cd6 ct6 oc7 kV7 dc7 pm7 cd7 ct7 oc8 kV8 dc8 pm8 cd8 ct8 oc9 kV9 dc9 pm9 cd9 ct9 oc10 kV10 dc10 pm10 cd10 ct10 oc11 kV11 dc11 pm11 cd11 ct11 oc12 kV12 dc12 pm12 cd12 ct12 oc13 kV13 dc13 pm13 cd13 ct13 : Value} {tS tR tC tD : Tok}
    (aCL : PySem.W.nsIn K mainGlobals "Line" = some (some (.ref CL)))
    (aCHE : PySem.W.nsIn K mainGlobals "HaltError" = some (some (.ref CHE)))
    (aCBL : PySem.W.nsIn K mainGlobals "BadLine" = some (some (.ref CBL)))
    (aCBT : PySem.W.nsIn K mainGlobals "BadTrains" = some (some (.ref CBT)))
    (aCBO : PySem.W.nsIn K mainGlobals "BadOrders" = some (some (.ref CBO)))
    (a1 : PySem.W.nsIn K mainGlobals "check_line" = some (some (.ref f1)))
    (l1 : K.lookup f1 = some ⟨oc1, od1, .func (PySem.W.fnOf "check_line" "check_line" (defArgs sCheckLine) (defBody sCheckLine) (defScope sCheckLine) .none kV1 dc1 pm1 an1 cd1 ct1), sl1⟩)
    (c1 : PySem.W.codeIn K cd1 "check_line" = true)
    (k1 : PySem.W.keepIn K (.ref f1) = true)
    (a2 : PySem.W.nsIn K mainGlobals "way" = some (some (.ref f2)))
    (l2 : K.lookup f2 = some ⟨oc2, od2, .func (PySem.W.fnOf "way" "way" (defArgs sWay) (defBody sWay) (defScope sWay) .none kV2 dc2 pm2 an2 cd2 ct2), sl2⟩)
    (c2 : PySem.W.codeIn K cd2 "way" = true)
    (k2 : PySem.W.keepIn K (.ref f2) = true)
    (a3 : PySem.W.nsIn K mainGlobals "check_train" = some (some (.ref f3)))
    (l3 : K.lookup f3 = some ⟨oc3, od3, .func (PySem.W.fnOf "check_train" "check_train" (defArgs sCheckTrain) (defBody sCheckTrain) (defScope sCheckTrain) .none kV3 dc3 pm3 an3 cd3 ct3), sl3⟩)
    (c3 : PySem.W.codeIn K cd3 "check_train" = true)
    (k3 : PySem.W.keepIn K (.ref f3) = true)
    (a4 : PySem.W.nsIn K mainGlobals "_law_drawn" = some (some (.ref f4)))
    (l4 : K.lookup f4 = some ⟨oc4, od4, .func (PySem.W.fnOf "_law_drawn" "_law_drawn" (defArgs sDrawn) (defBody sDrawn) (defScope sDrawn) .none kV4 dc4 pm4 an4 cd4 ct4), sl4⟩)
    (c4 : PySem.W.codeIn K cd4 "_law_drawn" = true)
    (k4 : PySem.W.keepIn K (.ref f4) = true)
    (a5 : PySem.W.nsIn K mainGlobals "_law_whole" = some (some (.ref f5)))
    (l5 : K.lookup f5 = some ⟨oc5, od5, .func (PySem.W.fnOf "_law_whole" "_law_whole" (defArgs sWhole) (defBody sWhole) (defScope sWhole) .none kV5 dc5 pm5 an5 cd5 ct5), sl5⟩)
    (c5 : PySem.W.codeIn K cd5 "_law_whole" = true)
    (k5 : PySem.W.keepIn K (.ref f5) = true)
    (a6 : PySem.W.nsIn K mainGlobals "_law_row" = some (some (.ref f6)))
    (l6 : K.lookup f6 = some ⟨oc6, od6, .func (PySem.W.fnOf "_law_row" "_law_row" (defArgs sRow) (defBody sRow) (defScope sRow) .none kV6 dc6 pm6 an6 cd6 ct6), sl6⟩)
    (c6 : PySem.W.codeIn K cd6 "_law_row" = true)
    (k6 : PySem.W.keepIn K (.ref f6) = true)
    (a7 : PySem.W.nsIn K mainGlobals "_law_told" = some (some (.ref f7)))
    (l7 : K.lookup f7 = some ⟨oc7, od7, .func (PySem.W.fnOf "_law_told" "_law_told" (defArgs sTold) (defBody sTold) (defScope sTold) .none kV7 dc7 pm7 an7 cd7 ct7), sl7⟩)
    (c7 : PySem.W.codeIn K cd7 "_law_told" = true)
    (k7 : PySem.W.keepIn K (.ref f7) = true)
    (a8 : PySem.W.nsIn K mainGlobals "_law_went" = some (some (.ref f8)))
    (l8 : K.lookup f8 = some ⟨oc8, od8, .func (PySem.W.fnOf "_law_went" "_law_went" (defArgs sWent) (defBody sWent) (defScope sWent) .none kV8 dc8 pm8 an8 cd8 ct8), sl8⟩)
    (c8 : PySem.W.codeIn K cd8 "_law_went" = true)
    (k8 : PySem.W.keepIn K (.ref f8) = true)
    (a9 : PySem.W.nsIn K mainGlobals "_law_due" = some (some (.ref f9)))
    (l9 : K.lookup f9 = some ⟨oc9, od9, .func (PySem.W.fnOf "_law_due" "_law_due" (defArgs sDue) (defBody sDue) (defScope sDue) .none kV9 dc9 pm9 an9 cd9 ct9), sl9⟩)
    (c9 : PySem.W.codeIn K cd9 "_law_due" = true)
    (k9 : PySem.W.keepIn K (.ref f9) = true)
    (a10 : PySem.W.nsIn K mainGlobals "law" = some (some (.ref f10)))
    (l10 : K.lookup f10 = some ⟨oc10, od10, .func (PySem.W.fnOf "law" "law" (defArgs sLaw) (defBody sLaw) (defScope sLaw) .none kV10 dc10 pm10 an10 cd10 ct10), sl10⟩)
    (c10 : PySem.W.codeIn K cd10 "law" = true)
    (k10 : PySem.W.keepIn K (.ref f10) = true)
    (a11 : PySem.W.findIn K (.ref CL) "__init__" = some (some (.ref f11)))
    (i11 : PySem.W.isFn K (.ref f11) = true)
    (l11 : K.lookup f11 = some ⟨oc11, od11, .func (PySem.W.fnOf "__init__" "Line.__init__" (defArgs sInit) (defBody sInit) (defScope sInit) .none kV11 dc11 pm11 an11 cd11 ct11), sl11⟩)
    (c11 : PySem.W.codeIn K cd11 "Line.__init__" = true)
    (k11 : PySem.W.keepIn K (.ref f11) = true)
    (a12 : PySem.W.findIn K (.ref CL) "runs" = some (some (.ref f12)))
    (i12 : PySem.W.isFn K (.ref f12) = true)
    (l12 : K.lookup f12 = some ⟨oc12, od12, .func (PySem.W.fnOf "runs" "Line.runs" (defArgs sRuns) (defBody sRuns) (defScope sRuns) .none kV12 dc12 pm12 an12 cd12 ct12), sl12⟩)
    (c12 : PySem.W.codeIn K cd12 "Line.runs" = true)
    (k12 : PySem.W.keepIn K (.ref f12) = true)
    (a13 : PySem.W.findIn K (.ref CL) "clear" = some (some (.ref f13)))
    (i13 : PySem.W.isFn K (.ref f13) = true)
    (l13 : K.lookup f13 = some ⟨oc13, od13, .func (PySem.W.fnOf "clear" "Line.clear" (defArgs sClear) (defBody sClear) (defScope sClear) .none kV13 dc13 pm13 an13 cd13 ct13), sl13⟩)
    (c13 : PySem.W.codeIn K cd13 "Line.clear" = true)
    (k13 : PySem.W.keepIn K (.ref f13) = true)
    (pg : PySem.W.plainGet K CL Str.empty = true)
    (hd : PySem.W.hasDictIn K CL = true)
    (po : PySem.W.plainOver K CL = true)
    (sa : PySem.W.findIn K (.ref CL) "__setattr__" = some (some (.builtin "object.__setattr__")))
    (mk : PySem.W.makesIn K CL = true)
    (kc : PySem.W.keepIn K (.ref CL) = true)
    (nM : PySem.W.findIn K (.ref CL) "minutes" = some none)
    (nG : PySem.W.findIn K (.ref CL) "gap" = some none)
    (z0 : PySem.W.nsIn K mainGlobals "len" = some none)
    (z1 : PySem.W.nsIn K mainGlobals "list" = some none)
    (z2 : PySem.W.nsIn K mainGlobals "tuple" = some none)
    (z3 : PySem.W.nsIn K mainGlobals "range" = some none)
    (z4 : PySem.W.nsIn K mainGlobals "isinstance" = some none)
    (z5 : PySem.W.nsIn K mainGlobals "min" = some none)
    (z6 : PySem.W.nsIn K mainGlobals "max" = some none)
    (z7 : PySem.W.nsIn K mainGlobals "int" = some none)
    (z8 : PySem.W.nsIn K mainGlobals "bool" = some none)
    (z9 : PySem.W.nsIn K mainGlobals "ValueError" = some none)
    (mS : PySem.W.nsIn K mainGlobals "MOST_STRETCHES" = some (some (.int 5 tS)))
    (mR : PySem.W.nsIn K mainGlobals "MOST_RUN" = some (some (.int 20 tR)))
    (mC : PySem.W.nsIn K mainGlobals "MOST_CLEAR" = some (some (.int 5 tC)))
    (mD : PySem.W.nsIn K mainGlobals "MOST_READY" = some (some (.int 60 tD)))
    (eCBL : PySem.W.excIn K CBL bmVE "ValueError.__new__" = true)
    (gaCBL : PySem.W.findIn K (.ref CBL) "__getattribute__" = some (some (.builtin "BaseException.__getattribute__")))
    (ghCBL : PySem.W.findIn K (.ref CBL) "__getattr__" = some none)
    (haCBL : PySem.W.findIn K (.ref CBL) "__class__" = some (some (.builtin "object.__class__")))
    (hmCBL : PySem.W.mroIn K CBL (.type "object") = some true)
    (hbCBL : PySem.W.mroIn K CBL (.type "BaseException") = some true)
    (rVCBL : PySem.W.mroIn K CBL (.type "ValueError") = some true)
    (rHCBL : PySem.W.mroIn K CBL (.ref CHE) = some true)
    (eCBT : PySem.W.excIn K CBT bmVE "ValueError.__new__" = true)
    (gaCBT : PySem.W.findIn K (.ref CBT) "__getattribute__" = some (some (.builtin "BaseException.__getattribute__")))
    (ghCBT : PySem.W.findIn K (.ref CBT) "__getattr__" = some none)
    (haCBT : PySem.W.findIn K (.ref CBT) "__class__" = some (some (.builtin "object.__class__")))
    (hmCBT : PySem.W.mroIn K CBT (.type "object") = some true)
    (hbCBT : PySem.W.mroIn K CBT (.type "BaseException") = some true)
    (rVCBT : PySem.W.mroIn K CBT (.type "ValueError") = some true)
    (rHCBT : PySem.W.mroIn K CBT (.ref CHE) = some true)
    (rBH : PySem.W.mroIn K CHE (.type "BaseException") = some true)
    (rLT : PySem.W.mroIn K CBL (.ref CBT) = some false)
    (rLO : PySem.W.mroIn K CBL (.ref CBO) = some false)
    (rTL : PySem.W.mroIn K CBT (.ref CBL) = some false)
    (rTO : PySem.W.mroIn K CBT (.ref CBO) = some false)
    (hcCHE : (PySem.W.clsIn K CHE).isSome = true)
    (htCHE : PySem.W.typeIn K (.ref CHE) = some (.type "type"))
    (hcCBL : (PySem.W.clsIn K CBL).isSome = true)
    (htCBL : PySem.W.typeIn K (.ref CBL) = some (.type "type"))
    (hcCBT : (PySem.W.clsIn K CBT).isSome = true)
    (htCBT : PySem.W.typeIn K (.ref CBT) = some (.type "type"))
    (hcCBO : (PySem.W.clsIn K CBO).isSome = true)
    (htCBO : PySem.W.typeIn K (.ref CBO) = some (.type "type"))
    (nLT : CBL ≠ CBT)
    (nLO : CBL ≠ CBO)
    (nTO : CBT ≠ CBO)
    (sp : PySem.W.specialIn K (.builtin "object.__class__") "__get__" = some (some (.builtin "getset_descriptor.__get__")))
    (tk : PySem.W.takesIn K (.builtin "object.__class__") = some true) :
    ∃ fd : FuncData, (∀ (s : Shared) (v : Value), BindsTo s fd ⟨[v], []⟩ [("script", v)]) ∧ ∀ base : Heap, K.In base → base.Ns mainGlobals mg → FnOk l.prog w K mg base (CXF l.prog w) 5 fa fd ["script"] (spLaw K) := by
  have e := hfa.symm.trans (PySem.W.mg_of X G a10)
  cases e
  have T : Txt K mg CL CHE CBL CBT CBO := {
    len := PySem.W.mg_none_of X G z0, lst := PySem.W.mg_none_of X G z1, tup := PySem.W.mg_none_of X G z2, rng := PySem.W.mg_none_of X G z3, isi := PySem.W.mg_none_of X G z4
    mn := PySem.W.mg_none_of X G z5, mx := PySem.W.mg_none_of X G z6, tint := PySem.W.mg_none_of X G z7, tbool := PySem.W.mg_none_of X G z8, tve := PySem.W.mg_none_of X G z9
    mS := ⟨_, PySem.W.mg_of X G mS⟩, mR := ⟨_, PySem.W.mg_of X G mR⟩, mC := ⟨_, PySem.W.mg_of X G mC⟩, mD := ⟨_, PySem.W.mg_of X G mD⟩
    bl := ⟨PySem.W.mg_of X G aCBL, eCBL⟩, bt := ⟨PySem.W.mg_of X G aCBT, eCBT⟩, mgH := PySem.W.mg_of X G aCHE, mgO := PySem.W.mg_of X G aCBO, mgL := PySem.W.mg_of X G aCL
    cl := ⟨pg, hd, po, sa⟩, nM := nM, nG := nG, kL := ⟨gaCBL, ghCBL, haCBL, sp, tk, hmCBL, hbCBL, hcCBL⟩, kT := ⟨gaCBT, ghCBT, haCBT, sp, tk, hmCBT, hbCBT, hcCBT⟩
    eL := exm_ref rBH hcCHE htCHE rHCBL, eT := exm_ref rBH hcCHE htCHE rHCBT, iLL := kit_self, iLV := kit_ty (by decide +kernel) rVCBL, iLT := kit_ref nLT hcCBT htCBT rLT, iLO := kit_ref nLO hcCBO htCBO rLO, iTL := kit_ref nLT.symm hcCBL htCBL rTL, iTV := kit_ty (by decide +kernel) rVCBT, iTT := kit_self, iTO := kit_ref nTO hcCBO htCBO rTO, kii := kit_self, kib := kit_ib, kll := kit_self }
  have F1 := fun_mk (st := sCheckLine) l1 c1 k1
  have b1 := F1.binds (ps := ["runs", "clear"]) fun _ _ _ _ _ _ us hl => match us, hl with | [_, _], _ => rfl
  have F2 := fun_mk (st := sWay) l2 c2 k2
  have b2 := F2.binds (ps := ["line", "train"]) fun _ _ _ _ _ _ us hl => match us, hl with | [_, _], _ => rfl
  have F3 := fun_mk (st := sCheckTrain) l3 c3 k3
  have b3 := F3.binds (ps := ["line", "train"]) fun _ _ _ _ _ _ us hl => match us, hl with | [_, _], _ => rfl
  have F4 := fun_mk (st := sDrawn) l4 c4 k4
  have b4 := F4.binds (ps := ["script", "k", "many"]) fun _ _ _ _ _ _ us hl => match us, hl with | [_, _, _], _ => rfl
  have F5 := fun_mk (st := sWhole) l5 c5 k5
  have b5 := F5.binds (ps := ["found"]) fun _ _ _ _ _ _ us hl => match us, hl with | [_], _ => rfl
  have F6 := fun_mk (st := sRow) l6 c6 k6
  have b6 := F6.binds (ps := ["found", "due"]) fun _ _ _ _ _ _ us hl => match us, hl with | [_, _], _ => rfl
  have F7 := fun_mk (st := sTold) l7 c7 k7
  have b7 := F7.binds (ps := ["runs", "gap"]) fun _ _ _ _ _ _ us hl => match us, hl with | [_, _], _ => rfl
  have F8 := fun_mk (st := sWent) l8 c8 k8
  have b8 := F8.binds (ps := ["line", "train"]) fun _ _ _ _ _ _ us hl => match us, hl with | [_, _], _ => rfl
  have F9 := fun_mk (st := sDue) l9 c9 k9
  have b9 := F9.binds (ps := ["stretches", "train"]) fun _ _ _ _ _ _ us hl => match us, hl with | [_, _], _ => rfl
  have F10 := fun_mk (st := sLaw) l10 c10 k10
  have b10 := F10.binds (ps := ["script"]) fun _ _ _ _ _ _ us hl => match us, hl with | [_], _ => rfl
  have F11 := fun_mk (st := sInit) l11 c11 k11
  have b11 := F11.binds (ps := ["self", "runs", "clear"]) fun _ _ _ _ _ _ us hl => match us, hl with | [_, _, _], _ => rfl
  have F12 := fun_mk (st := sRuns) l12 c12 k12
  have b12 := F12.binds (ps := ["self"]) fun _ _ _ _ _ _ us hl => match us, hl with | [_], _ => rfl
  have F13 := fun_mk (st := sClear) l13 c13 k13
  have b13 := F13.binds (ps := ["self"]) fun _ _ _ _ _ _ us hl => match us, hl with | [_], _ => rfl
  refine ⟨PySem.W.fnOf "law" "law" (defArgs sLaw) (defBody sLaw) (defScope sLaw) .none kV10 dc10 pm10 an10 cd10 ct10, fun s v => .of_eq rfl, fun base _ _ => ?_⟩
  have G1 := ok_checkLine (P := l.prog) (w := w) (base := base) F1 T
  have GR := ok_runs (P := l.prog) (w := w) (base := base) F12 T
  have G3 := ok_checkTrain (P := l.prog) (w := w) (base := base) F3 T GR b12 ⟨a12, i12, k12⟩
  have G2 := ok_way (P := l.prog) (w := w) (base := base) F2 T G3 b3 (PySem.W.mg_of X G a3) k3
  have G5 := ok_whole (P := l.prog) (w := w) (base := base) F5 T
  have GI := ok_init (P := l.prog) (w := w) (base := base) F11 T G1 b1 (PySem.W.mg_of X G a1) k1
  exact ok_law (a := { fD := f4, fRow := f6, fTo := f7, fWe := f8, fDu := f9, fR := f12, fC := f13, dD := _, dRow := _, dTo := _, dWe := _, dDu := _, dR := _, dC := _ }) F10 { T := T, GD := ok_drawn F4 ⟨T.len⟩, bD := b4, mD := PySem.W.mg_of X G a4, kD := k4, GRow := ok_row F6 T G5 b5 (PySem.W.mg_of X G a5) k5, bRow := b6, mRow := PySem.W.mg_of X G a6, kRow := k6, GTo := ok_told F7 T ⟨mk, a11, i11, kc⟩ GI b11, bTo := b7, mTo := PySem.W.mg_of X G a7, kTo := k7, GWe := ok_went F8 T G2 b2 (PySem.W.mg_of X G a2) k2, bWe := b8, mWe := PySem.W.mg_of X G a8, kWe := k8, GDu := ok_due F9 T, bDu := b9, mDu := PySem.W.mg_of X G a9, kDu := k9, GR := GR, GRf := ok_runsF F12 T, bR := b12, mR := ⟨a12, i12, k12⟩, GC := ok_clear F13 T, bC := b13, mC := ⟨a13, i13, k13⟩ } 
theorem cxf_false {P : Program} {w : World} {H : Hp} {s : Shared} {e : Value} {s' : Shared} (h : CXF P w [] H s (fun _ _ _ => False) e s') : False := by
  obtain ⟨_, _, _, _, _, _, _, _, _, _, _, _, _, _, q⟩ := h
  exact q
theorem walk {l : PySem.W.OpenLaw} {q : Program} {loose : List Str} {XP : (Str → Option Value) → Heap → Prop} {YP : World → Heap → Prop} {d : DefRec} {K : Params → PySem.W.Frag} (hn : l.most = some 63) (hdf : d.params.defaults = [])
    (hY : ∀ (w : World) (h : Heap), YP w h → (K w.params).In h)
    (F : ∀ (w : World) (mg : Str → Option Value) (fa : Addr) (h : Heap), (K w.params).In h → h.Ns mainGlobals mg → mg d.name = some (.ref fa) →
      ∃ fd : FuncData, (∀ (s : Shared) (u : Value), BindsTo s fd ⟨[u], []⟩ [("script", u)]) ∧ ∀ base : Heap, (K w.params).In base → base.Ns mainGlobals mg → FnOk l.prog w (K w.params) mg base (CXF l.prog w) 5 fa fd ["script"] (spLaw (K w.params))) :
    PySem.W.WalkO q loose XP YP l.row.toRowW d [] (fun f vs => PySem.call f vs) :=
  L2.walk_of (n := 63) (k := 5) (x := "script") (CX := fun w => CXF l.prog w) (sp := fun w => spLaw (K w.params)) hn (by decide) hdf ⟨rfl, by decide, by decide⟩ hY F (fun _ _ a ns _ _ hS => ⟨a, ns, rfl, hS, fun _ => rfl⟩) fun _ _ _ _ _ z => cxf_false z
end K1
open PySem PySem.W PyProof.Rows
set_option Elab.async false
set_option linter.all false
set_option maxRecDepth 100000 in
set_option maxHeartbeats 0 in
theorem PySem.Challenge.cw_haltline_k01_lines_made_holds : PySem.Challenge.rw_haltline_k01_lines_made.Holds := by
  w_on; o_law; k_head; (case hw => w_witness2)
  k_fill
  refine K1.walk (l := PySem.Challenge.rw_haltline_k01_lines_made) rfl rfl (fun w h Y => PySem.W.kIn_of Y) ?F
  case F =>
    intro w mg fa h KX G hmg
    refine' K1.all_mk KX G hmg ?aCL ?aCHE ?aCBL ?aCBT ?aCBO ?a1 ?l1 ?c1 ?k1 ?a2 ?l2 ?c2 ?k2 ?a3 ?l3 ?c3 ?k3 ?a4 ?l4 ?c4 ?k4 ?a5 ?l5 ?c5 ?k5 ?a6 ?l6 ?c6 ?k6 ?a7 ?l7 ?c7 ?k7 ?a8 ?l8 ?c8 ?k8 ?a9 ?l9 ?c9 ?k9 ?a10 ?l10 ?c10 ?k10 ?a11 ?i11 ?l11 ?c11 ?k11 ?a12 ?i12 ?l12 ?c12 ?k12 ?a13 ?i13 ?l13 ?c13 ?k13 ?pg ?hd ?po ?sa ?mk ?kc ?nM ?nG ?z0 ?z1 ?z2 ?z3 ?z4 ?z5 ?z6 ?z7 ?z8 ?z9 ?mS ?mR ?mC ?mD ?eCBL ?gaCBL ?ghCBL ?haCBL ?hmCBL ?hbCBL ?rVCBL ?rHCBL ?eCBT ?gaCBT ?ghCBT ?haCBT ?hmCBT ?hbCBT ?rVCBT ?rHCBT ?rBH ?rLT ?rLO ?rTL ?rTO ?hcCHE ?htCHE ?hcCBL ?htCBL ?hcCBT ?htCBT ?hcCBO ?htCBO ?nLT ?nLO ?nTO ?sp ?tk
    (case aCL => k_is)
    (case aCHE => k_is)
    (case aCBL => k_is)
    (case aCBT => k_is)
    (case aCBO => k_is)
    (case a1 => k_is)
    (case l1 => k_is)
    (case c1 => k_is)
    (case k1 => k_is)
    (case a2 => k_is)
    (case l2 => k_is)
    (case c2 => k_is)
    (case k2 => k_is)
    (case a3 => k_is)
    (case l3 => k_is)
    (case c3 => k_is)
    (case k3 => k_is)
    (case a4 => k_is)
    (case l4 => k_is)
    (case c4 => k_is)
    (case k4 => k_is)
    (case a5 => k_is)
    (case l5 => k_is)
    (case c5 => k_is)
    (case k5 => k_is)
    (case a6 => k_is)
    (case l6 => k_is)
    (case c6 => k_is)
    (case k6 => k_is)
    (case a7 => k_is)
    (case l7 => k_is)
    (case c7 => k_is)
    (case k7 => k_is)
    (case a8 => k_is)
    (case l8 => k_is)
    (case c8 => k_is)
    (case k8 => k_is)
    (case a9 => k_is)
    (case l9 => k_is)
    (case c9 => k_is)
    (case k9 => k_is)
    (case a10 => k_is)
    (case l10 => k_is)
    (case c10 => k_is)
    (case k10 => k_is)
    (case a11 => k_is)
    (case i11 => k_is)
    (case l11 => k_is)
    (case c11 => k_is)
    (case k11 => k_is)
    (case a12 => k_is)
    (case i12 => k_is)
    (case l12 => k_is)
    (case c12 => k_is)
    (case k12 => k_is)
    (case a13 => k_is)
    (case i13 => k_is)
    (case l13 => k_is)
    (case c13 => k_is)
    (case k13 => k_is)
    (case pg => k_is)
    (case hd => k_is)
    (case po => k_is)
    (case sa => k_is)
    (case mk => k_is)
    (case kc => k_is)
    (case nM => k_is)
    (case nG => k_is)
    (case z0 => k_is)
    (case z1 => k_is)
    (case z2 => k_is)
    (case z3 => k_is)
    (case z4 => k_is)
    (case z5 => k_is)
    (case z6 => k_is)
    (case z7 => k_is)
    (case z8 => k_is)
    (case z9 => k_is)
    (case mS => k_is)
    (case mR => k_is)
    (case mC => k_is)
    (case mD => k_is)
    (case eCBL => k_exc)
    (case gaCBL => k_is)
    (case ghCBL => k_is)
    (case haCBL => k_is)
    (case hmCBL => k_is)
    (case hbCBL => k_is)
    (case rVCBL => k_is)
    (case rHCBL => k_is)
    (case eCBT => k_exc)
    (case gaCBT => k_is)
    (case ghCBT => k_is)
    (case haCBT => k_is)
    (case hmCBT => k_is)
    (case hbCBT => k_is)
    (case rVCBT => k_is)
    (case rHCBT => k_is)
    (case rBH => k_is)
    (case rLT => k_is)
    (case rLO => k_is)
    (case rTL => k_is)
    (case rTO => k_is)
    (case hcCHE => rfl)
    (case htCHE => k_is)
    (case hcCBL => rfl)
    (case htCBL => k_is)
    (case hcCBT => rfl)
    (case htCBT => k_is)
    (case hcCBO => rfl)
    (case htCBO => k_is)
    (case nLT => decide)
    (case nLO => decide)
    (case nTO => decide)
    (case sp => k_is)
    (case tk => k_is)
#print axioms PySem.Challenge.cw_haltline_k01_lines_made_holds

