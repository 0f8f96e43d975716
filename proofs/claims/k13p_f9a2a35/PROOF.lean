import PyProof.Rows.All
import Wide.All
import OpenK.AllK
import Wide.FinOn
import Lean
import PyProof.EqAt
import PyProof.EqKinds
import PyProof.TupleCall
import PyProof.NeKinds
import PyProof.StrLawsTight
import PyProof.Conv_int
import PyProof.StrLawsRepr
import PyProof.ReprStr
import PySem.Challenge.RW_haltline_k13_texts_refused
set_option Elab.async false
set_option linter.all false
set_option maxRecDepth 100000
namespace L2
open PySem PySem.Spec PyProof.Rows
abbrev Key := Sum Int Str
def keyIs : Key → Value → Bool
  | .inl k, v => Value.isInt k v
  | .inr x, v => Value.isStrOf x v
def keyH (w : World) : Key → Int
  | .inl k => hashInt k
  | .inr x => hashStr w x
theorem keyIs_shape : ∀ {k : Key} {v : Value}, keyIs k v = true → (∃ i t, k = Sum.inl i ∧ v = Value.int i t) ∨ (∃ x t, k = Sum.inr x ∧ v = Value.str x t)
  | .inl i, v, h => by
    obtain ⟨t, e⟩ := Value.isInt_shape (k := i) (v := v) h
    exact .inl ⟨i, t, rfl, e⟩
  | .inr x, v, h => by
    obtain ⟨t, e⟩ := Value.isStrOf_shape (x := x) (v := v) h
    exact .inr ⟨x, t, rfl, e⟩
theorem key_ll (a b : Int) : decide ((Sum.inl a : Key) = Sum.inl b) = (a == b) := by
  by_cases e : a = b
  · subst e; simp
  · have h : ¬ (Sum.inl a : Key) = Sum.inl b := fun q => e (Sum.inl.inj q)
    rw [decide_eq_false h]
    exact (beq_eq_false_iff_ne.mpr e).symm
theorem key_rr (a b : Str) : decide ((Sum.inr a : Key) = Sum.inr b) = decide (a = b) := by
  by_cases e : a = b
  · subst e; simp
  · have h : ¬ (Sum.inr a : Key) = Sum.inr b := fun q => e (Sum.inr.inj q)
    rw [decide_eq_false h, decide_eq_false e]
theorem key_lr (a : Int) (b : Str) : decide ((Sum.inl a : Key) = Sum.inr b) = false := decide_eq_false (fun q => nomatch q)
theorem key_rl (a : Str) (b : Int) : decide ((Sum.inr a : Key) = Sum.inl b) = false := decide_eq_false (fun q => nomatch q)
def mixKind (prog : Program) (w : World) : PySem.KeyKind prog w Key where
  is := keyIs
  hash := keyH w
  inj := fun v a b ha hb => by
    rcases keyIs_shape ha with ⟨i, t, rfl, rfl⟩ | ⟨x, t, rfl, rfl⟩
    · rcases keyIs_shape hb with ⟨j, u, rfl, e⟩ | ⟨y, u, rfl, e⟩
      · injection e with e1 _; rw [e1]
      · exact nomatch e
    · rcases keyIs_shape hb with ⟨j, u, rfl, e⟩ | ⟨y, u, rfl, e⟩
      · exact nomatch e
      · injection e with e1 _; rw [e1]
  byValue := fun k v h => by
    rcases keyIs_shape h with ⟨i, t, rfl, rfl⟩ | ⟨x, t, rfl, rfl⟩ <;> rfl
  pyHash := fun hv h => by
    rcases keyIs_shape hv with ⟨i, t, rfl, rfl⟩ | ⟨x, t, rfl, rfl⟩
    · exact wpAny_pyHash_int h
    · exact wpAny_pyHash_str h
  eqBool := fun hu hv h => by
    rcases keyIs_shape hu with ⟨i, t, rfl, rfl⟩ | ⟨x, t, rfl, rfl⟩
    · rcases keyIs_shape hv with ⟨j, u, rfl, rfl⟩ | ⟨y, u, rfl, rfl⟩
      · rw [key_ll] at h; exact wpAny_eqBool_int h
      · rw [key_lr] at h; exact SeqAt.EqAt.int_str i t y u _ _ _ _ h
    · rcases keyIs_shape hv with ⟨j, u, rfl, rfl⟩ | ⟨y, u, rfl, rfl⟩
      · rw [key_rl] at h; exact SeqAt.EqAt.str_int x t j u _ _ _ _ h
      · rw [key_rr] at h; exact wpAny_eqBool_str h
  «strs» := fun k x t v h => by
    rcases keyIs_shape h with ⟨i, u, rfl, e⟩ | ⟨y, u, rfl, e⟩
    · exact nomatch e
    · injection e with e1 _
      subst e1
      cases v <;> rfl
end L2
namespace L2
open PySem PySem.Spec PyProof.Rows
inductive V where
  | non | bl (b : Bool) | int (i : Int) | str (x : Str) | byt (b : Array UInt8) | flt (b : UInt64) | ref (a : Addr) | ty (n : String)
  deriving DecidableEq
def RelV : V → Value → Prop
  | .non, u => u = Value.none
  | .bl b, u => u = Value.bool b
  | .int i, u => ∃ t, u = Value.int i t
  | .str x, u => ∃ t, u = Value.str x t
  | .byt b, u => ∃ t, u = Value.bytes b t
  | .flt b, u => ∃ t, u = Value.float b t
  | .ref a, u => u = Value.ref a
  | .ty n, u => u = Value.type n
abbrev Vals : List V → List Value → Prop := Paired RelV
theorem Vals.length {xs : List V} {us : List Value} (r : Vals xs us) : xs.length = us.length := Paired.length r
theorem Vals.get : ∀ {xs : List V} {us : List Value} {i : Nat} {x : V}, Vals xs us → xs[i]? = some x → ∃ u, us[i]? = some u ∧ RelV x u
  | _, _, _, _, .nil, e => by simp at e
  | _, _, 0, _, .cons r _, e => by simp at e; subst e; exact ⟨_, rfl, r⟩
  | _, _, i + 1, x, .cons _ t, e => by
    obtain ⟨u, h1, h2⟩ := Vals.get (i := i) (x := x) t (by simpa using e)
    exact ⟨u, by simpa using h1, h2⟩
theorem Vals.append : ∀ {xs ys : List V} {us ws : List Value}, Vals xs us → Vals ys ws → Vals (xs ++ ys) (us ++ ws)
  | _, _, _, _, .nil, s => s
  | _, _, _, _, .cons r t, s => .cons r (Vals.append t s)
theorem Vals.take : ∀ {xs : List V} {us : List Value} (n : Nat), Vals xs us → Vals (xs.take n) (us.take n)
  | _, _, 0, _ => .nil
  | _, _, _ + 1, .nil => .nil
  | _, _, n + 1, .cons r t => .cons r (Vals.take n t)
theorem Vals.drop : ∀ {xs : List V} {us : List Value} (n : Nat), Vals xs us → Vals (xs.drop n) (us.drop n)
  | _, _, 0, r => r
  | _, _, _ + 1, .nil => .nil
  | _, _, n + 1, .cons _ t => Vals.drop n t
def RelO : Option V → Option Value → Prop
  | some v, some u => RelV v u
  | none, none => True
  | _, _ => False
def KV {κ : Type} : List (κ × V) → List (κ × Value) → Prop := Paired fun (p : κ × V) (q : κ × Value) => p.1 = q.1 ∧ RelV p.2 q.2
def kV : Key → V
  | .inl i => .int i
  | .inr x => .str x
inductive HO where
  /-- a list -/
  | lst (xs : List V)
  /-- a tuple (never changes) -/
  | tup (xs : List V)
  /-- a dict whose keys are ints and texts; one whose keys are tuples of ints and texts (the empty one is both) -/
  | dK (kvs : List (Key × V)) | dT (kvs : List (List Key × V))
  /-- a set of ints: its members, its size -/
  | set (S : Int → Bool) (n : Nat)
  /-- an instance of the class at C, its dict at dx, its attributes -/
  | ins (C dx : Addr) (fs : List (Str × V))
  /-- the dict of the instance at x -/
  | own (x : Addr)
  /-- the dict of an exception -/
  | xd (fs : List (Str × V))
  /-- a bound method, f of x -/
  | met (f x : Addr)
  /-- a range object lo, lo + 1, .. below hi -/
  | rng (lo hi : Int)
  /-- a thing that is known to the object (the script; a dict while a loop walks it): read, never written while it is so -/
  | frz (o : Obj) (u : HO)
  /-- a code object's table -/
  | tbl (ps : Array Value)
  /-- any other thing, by what is true of its one object (a def of one's own: SetO a S n := HO.ext fun h => ..) -/
  | ext (φ : Heap → Prop)
abbrev Hp := Addr → Option HO
def upd (H : Hp) (a : Addr) (o : HO) : Hp := fun b => if b = a then some o else H b
theorem upd_same {H : Hp} {a : Addr} {o : HO} : upd H a o a = some o := by unfold upd; rw [if_pos rfl]
theorem upd_ne {H : Hp} {a b : Addr} {o : HO} (h : b ≠ a) : upd H a o b = H b := by unfold upd; rw [if_neg h]
theorem ne_of_none {H : Hp} {a b : Addr} {o : HO} (h : H a = some o) (h' : H b = none) : a ≠ b := by
  intro e; subst e; rw [h] at h'; cases h'
section
variable (P : Program) (w : World)
def ObjOk (H : Hp) (h : Heap) (a : Addr) : HO → Prop
  | .lst xs => xs.length ≤ sizeLine ∧ ∃ (its : List Value) (n : Nat), Vals xs its ∧ h.get? a = some { cls := .type "list", data := .seq its.toArray n }
  | .tup xs => xs.length ≤ sizeLine ∧ ∃ its : List Value, Vals xs its ∧ IsTup h a its.toArray
  | .dK kvs => kvs.length ≤ sizeLine ∧ (a == sysModules) = false ∧ ∃ vs, KV kvs vs ∧ h.DictOf (mixKind P w) a vs
  | .dT kvs => kvs.length ≤ sizeLine ∧ (a == sysModules) = false ∧ ∃ xs : List (List Key × Addr × Value),
      Paired (fun (p : List Key × V) (q : List Key × Addr × Value) => p.1 = q.1 ∧ H q.2.1 = some (.tup (p.1.map kV)) ∧ RelV p.2 q.2.2) kvs xs ∧
      ∃ o es ep, h.get? a = some o ∧ o.ExactDict ∧ o.data = .dict es ep ∧ es.toList = xs.map (entryOfKey (tupleKind (mixKind P w))) ∧ (xs.map (·.1)).Nodup
  | .set S n => h.SetOf (intKind P w) a S n
  | .ins C dx fs => H dx = some (.own a) ∧ fs.length ≤ 1000 ∧ dx ≠ a ∧ h.get? a = some (PySem.W.instObj C dx) ∧
      ∃ mA, h.Ns1 dx mA ∧ (∀ f, RelO (fs.lookup f) (mA f)) ∧ PySem.Within mA (fs.map (·.1))
  | .own _ => ∃ o, h.get? a = some o
  | .xd fs => ∃ mA, h.Ns1 a mA ∧ ∀ f, RelO (fs.lookup f) (mA f)
  | .rng lo hi => ∃ t u v, h.get? a = some { cls := .type "range", data := .fields #[.int lo t, .int hi u, .int 1 v] }
  | .frz o u => h.get? a = some o ∧ ObjOk H h a u
  | .tbl ps => h.get? a = some { cls := .none, data := .fields ps }
  | .met f x => h.get? a = some (PySem.W.methodObj (.ref f) (.ref x))
  | .ext φ => φ h ∧ (∃ o, h.get? a = some o) ∧ ∀ h1 h2 : Heap, φ h1 → (∀ o, h1.get? a = some o → h2.get? a = some o) → φ h2
def HOk (H : Hp) (h : Heap) : Prop := ∀ a o, H a = some o → ObjOk P w H h a o
end
section
variable {P : Program} {w : World} {H H' : Hp} {h h' : Heap} {a : Addr} {o : HO}
theorem ObjOk.lt (x : ObjOk P w H h a o) : a < h.objs.size := by
  cases o with
  | lst xs => obtain ⟨_, _, _, _, e⟩ := x; exact Heap.lt_size e
  | tup xs => obtain ⟨_, _, _, p⟩ := x; exact p.lt
  | dK kvs => obtain ⟨_, _, _, _, o, _, _, e, _⟩ := x; exact Heap.lt_size e
  | dT kvs => obtain ⟨_, _, _, _, o, _, _, e, _⟩ := x; exact Heap.lt_size e
  | set S n => obtain ⟨o, _, _, _, e, _⟩ := x; exact Heap.lt_size e
  | ins C dx fs => obtain ⟨_, _, _, e, _⟩ := x; exact Heap.lt_size e
  | own y => obtain ⟨_, e⟩ := x; exact Heap.lt_size e
  | xd fs => obtain ⟨_, ⟨_, _, _, e, _⟩, _⟩ := x; exact Heap.lt_size e
  | rng lo hi => obtain ⟨_, _, _, e⟩ := x; exact Heap.lt_size e
  | frz ob u => obtain ⟨e, _⟩ := x; exact Heap.lt_size e
  | tbl ps => exact Heap.lt_size (show h.get? a = some _ from x)
  | met f y => exact Heap.lt_size (show h.get? a = some _ from x)
  | ext φ => obtain ⟨_, ⟨_, e⟩, _⟩ := x; exact Heap.lt_size e
theorem Paired.mapP {α β : Type} {F G : α → β → Prop} : ∀ {l₁ : List α} {l₂ : List β}, Paired F l₁ l₂ → (∀ a b, F a b → G a b) → Paired G l₁ l₂
  | _, _, .nil, _ => .nil
  | _, _, .cons r t, f => .cons (f _ _ r) (Paired.mapP t f)
theorem ObjOk.stay (x : ObjOk P w H h a o) (k : ∀ b u, (b = a ∨ H b = some (.own a)) → h.get? b = some u → h'.get? b = some u)
    (ho : ∀ b, H b = some (.own a) → H' b = some (.own a)) (ht : ∀ b xs, H b = some (.tup xs) → H' b = some (.tup xs)) : ObjOk P w H' h' a o := by
  induction o with
  | lst xs => obtain ⟨z, its, n, r, e⟩ := x; exact ⟨z, its, n, r, k _ _ (.inl rfl) e⟩
  | tup xs => obtain ⟨z, its, r, ob, e, c⟩ := x; exact ⟨z, its, r, ob, k _ _ (.inl rfl) e, c⟩
  | dK kvs => obtain ⟨z, y, vs, r, ob, es, ep, e, c⟩ := x; exact ⟨z, y, vs, r, ob, es, ep, k _ _ (.inl rfl) e, c⟩
  | dT kvs =>
    obtain ⟨z, y, xs, r, ob, es, ep, e, c⟩ := x
    exact ⟨z, y, xs, Paired.mapP r fun p q z => ⟨z.1, ht _ _ z.2.1, z.2.2⟩, ob, es, ep, k _ _ (.inl rfl) e, c⟩
  | set S n => obtain ⟨ob, es, ep, t, e, c⟩ := x; exact ⟨ob, es, ep, t, k _ _ (.inl rfl) e, c⟩
  | ins C dx fs =>
    obtain ⟨d, z, ne, e, mA, ⟨od, es, ep, e2, c⟩, r⟩ := x
    exact ⟨ho _ d, z, ne, k _ _ (.inl rfl) e, mA, ⟨od, es, ep, k _ _ (.inr d) e2, c⟩, r⟩
  | own y => obtain ⟨ob, e⟩ := x; exact ⟨ob, k _ _ (.inl rfl) e⟩
  | xd fs => obtain ⟨mA, ⟨od, es, ep, e, c⟩, r⟩ := x; exact ⟨mA, ⟨od, es, ep, k _ _ (.inl rfl) e, c⟩, r⟩
  | rng lo hi => obtain ⟨t, u, v, e⟩ := x; exact ⟨t, u, v, k _ _ (.inl rfl) e⟩
  | frz ob u ih => obtain ⟨e, q⟩ := x; exact ⟨k _ _ (.inl rfl) e, ih q⟩
  | tbl ps =>
    have e : h.get? a = some { cls := .none, data := .fields ps } := x
    show h'.get? a = some { cls := .none, data := .fields ps }
    exact k a _ (.inl rfl) e
  | met f y =>
    have e : h.get? a = some (PySem.W.methodObj (.ref f) (.ref y)) := x
    show h'.get? a = some (PySem.W.methodObj (.ref f) (.ref y))
    exact k a _ (.inl rfl) e
  | ext φ => obtain ⟨p, ⟨o, e⟩, st⟩ := x; exact ⟨st _ _ p fun o q => k _ _ (.inl rfl) q, ⟨o, k _ _ (.inl rfl) e⟩, st⟩
theorem HOk.lt (x : HOk P w H h) (e : H a = some o) : a < h.objs.size := (x a o e).lt
theorem HOk.fresh (x : HOk P w H h) (e : h.objs.size ≤ a) : H a = none := by
  cases q : H a with
  | none => rfl
  | some u => exact absurd (Nat.lt_of_lt_of_le (x.lt q) e) (Nat.lt_irrefl _)
theorem HOk.kept (x : HOk P w H h) (k : ∀ b u, h.get? b = some u → h'.get? b = some u) : HOk P w H h' := fun a o e =>
  (x a o e).stay (fun b u _ q => k b u q) (fun _ q => q) fun _ _ q => q
theorem HOk.laid (x : HOk P w H h) (k : ∀ b u, h.get? b = some u → h'.get? b = some u) (hp : h.objs.size ≤ a) (new : ObjOk P w (upd H a o) h' a o) : HOk P w (upd H a o) h' := fun b u e => by
  have hn := x.fresh hp
  by_cases hb : b = a
  · subst hb; rw [upd_same] at e; cases e; exact new
  · rw [upd_ne hb] at e
    exact (x b u e).stay (fun c v _ q => k c v q) (fun c q => by rw [upd_ne (ne_of_none q hn)]; exact q) fun c xs q => by rw [upd_ne (ne_of_none q hn)]; exact q
end
def Rd (H : Hp) (a : Addr) (u : HO) : Prop := H a = some u ∨ ∃ o, H a = some (.frz o u)
theorem Rd.ok {P : Program} {w : World} {H : Hp} {h : Heap} {a : Addr} {u : HO} (r : Rd H a u) (x : HOk P w H h) : ObjOk P w H h a u := by
  rcases r with r | ⟨o, r⟩
  · exact x a u r
  · obtain ⟨_, q⟩ := x a _ r
    exact q
def Mut : Option HO → Prop
  | some (.lst _) => True
  | some (.dK _) => True
  | some (.dT _) => True
  | some (.set _ _) => True
  | some (.ins _ _ _) => True
  | some (.ext _) => True
  | _ => False
section
variable {P : Program} {w : World} {H : Hp} {h h' : Heap} {x e : Addr} {o' : HO}
theorem HOk.write (ok : HOk P w H h) (mu : Mut (H x)) (he : e = x ∨ H e = some (.own x)) (k : ∀ b u, b ≠ e → h.get? b = some u → h'.get? b = some u) (heo : ∃ u, h'.get? e = some u)
    (new : ObjOk P w (upd H x o') h' x o') : HOk P w (upd H x o') h' := fun b u q => by
  have nown : ∀ c y, H c = some (.own y) → c ≠ x := fun c y r z => by subst z; rw [r] at mu; exact mu
  have ntup : ∀ c xs, H c = some (.tup xs) → c ≠ x := fun c xs r z => by subst z; rw [r] at mu; exact mu
  by_cases hb : b = x
  · subst hb; rw [upd_same] at q; cases q; exact new
  · rw [upd_ne hb] at q
    by_cases hbe : b = e
    · have q' : H b = some (.own x) := by
        rcases he with z | z
        · exact absurd (hbe.trans z) hb
        · rw [hbe]; exact z
      rw [q] at q'; cases q'
      obtain ⟨v, hv⟩ := heo
      exact ⟨v, by rw [hbe]; exact hv⟩
    · refine (ok b u q).stay (fun c v hc r => k c v ?_ r) (fun c r => by rw [upd_ne (nown c b r)]; exact r) fun c xs r => by rw [upd_ne (ntup c xs r)]; exact r
      rcases hc with rfl | hc
      · exact hbe
      · rintro rfl
        rcases he with z | z
        · exact nown c b hc z
        · rw [hc] at z; cases z; exact hb rfl
end
structure Un (fs ex : List Addr) (H H' : Hp) (h h' : Heap) : Prop where
  keep : ∀ b o, h.get? b = some o → H b = none → b ∉ fs → b ∉ ex → h'.get? b = some o
  slot : ∀ b o, h.get? b = some o → H b = none → b ∈ fs → b ∉ ex → ∃ sl, h'.get? b = some { o with slots := sl }
  free : ∀ b o, h.get? b = some o → H b = none → b ∉ ex → H' b = none
  there : ∀ b o, h.get? b = some o → b ∉ ex → ∃ o', h'.get? b = some o'
  tups : ∀ b xs, H b = some (.tup xs) → H' b = some (.tup xs)
  frzs : ∀ b o u, H b = some (.frz o u) → H' b = some (.frz o u)
  tbls : ∀ b ps, H b = some (.tbl ps) → ∃ more, H' b = some (.tbl (ps ++ more))
section
variable {fs fs' ex ex' : List Addr} {H H1 H2 : Hp} {h h1 h2 h' : Heap} {a x e : Addr} {o : HO}
theorem Un.any (u : Un fs ex H H1 h h1) {b : Addr} {ob : Obj} (q : h.get? b = some ob) (n : H b = none) (hx : b ∉ ex) : ∃ sl, h1.get? b = some { ob with slots := sl } := by
  by_cases hb : b ∈ fs
  · exact u.slot b ob q n hb hx
  · exact ⟨ob.slots, u.keep b ob q n hb hx⟩
theorem Un.trans (a : Un fs ex H H1 h h1) (b : Un fs ex H1 H2 h1 h2) : Un fs ex H H2 h h2 where
  keep := fun c ob q n hc hx => b.keep c ob (a.keep c ob q n hc hx) (a.free c ob q n hx) hc hx
  slot := fun c ob q n hc hx => by
    obtain ⟨sl, e1⟩ := a.slot c ob q n hc hx
    obtain ⟨sl', e2⟩ := b.slot c _ e1 (a.free c ob q n hx) hc hx
    exact ⟨sl', e2⟩
  free := fun c ob q n hx => by
    obtain ⟨o', e1⟩ := a.there c ob q hx
    exact b.free c o' e1 (a.free c ob q n hx) hx
  there := fun c ob q hx => by
    obtain ⟨o', e1⟩ := a.there c ob q hx
    exact b.there c o' e1 hx
  tups := fun c xs q => b.tups c xs (a.tups c xs q)
  frzs := fun c ob xs q => b.frzs c ob xs (a.frzs c ob xs q)
  tbls := fun c ps q => by
    obtain ⟨m1, e1⟩ := a.tbls c ps q
    obtain ⟨m2, e2⟩ := b.tbls c _ e1
    exact ⟨m1 ++ m2, by rw [e2, Array.append_assoc]⟩
theorem Un.kept (k : ∀ b u, h.get? b = some u → h'.get? b = some u) : Un fs ex H H h h' :=
  ⟨fun b ob q _ _ _ => k b ob q, fun b ob q _ _ _ => ⟨ob.slots, k b ob q⟩, fun _ _ _ n _ => n, fun b ob q _ => ⟨ob, k b ob q⟩, fun _ _ q => q, fun _ _ _ q => q, fun _ ps q => ⟨#[], by rw [q]; simp⟩⟩
theorem Un.refl : Un fs ex H H h h := Un.kept fun _ _ q => q
theorem Un.laid (k : ∀ b u, h.get? b = some u → h'.get? b = some u) (hp : h.objs.size ≤ a) (hn : H a = none) : Un fs ex H (upd H a o) h h' where
  keep := fun b u q _ _ _ => k b u q
  slot := fun b u q _ _ _ => ⟨u.slots, k b u q⟩
  free := fun b u q n _ => by rw [upd_ne (Nat.ne_of_lt (Nat.lt_of_lt_of_le (Heap.lt_size q) hp))]; exact n
  there := fun b u q _ => ⟨u, k b u q⟩
  tups := fun b xs q => by rw [upd_ne (ne_of_none q hn)]; exact q
  frzs := fun b u xs q => by rw [upd_ne (ne_of_none q hn)]; exact q
  tbls := fun b ps q => ⟨#[], by rw [upd_ne (ne_of_none q hn), q]; simp⟩
theorem Un.write (mu : Mut (H x)) (he : e = x ∨ H e = some (.own x)) (k : ∀ b u, b ≠ e → h.get? b = some u → h'.get? b = some u) (heo : ∃ u, h'.get? e = some u) : Un fs ex H (upd H x o) h h' := by
  have hx : ∀ b, H b = none → b ≠ x := fun b n z => by subst z; rw [n] at mu; exact mu
  have hb : ∀ b, H b = none → b ≠ e := fun b n z => by
    subst z
    rcases he with r | r
    · exact hx b n r
    · rw [n] at r; cases r
  have hm : ∀ b u, H b = some u → ¬ Mut (some u) → b ≠ x := fun b u q nm z => by subst z; rw [q] at mu; exact nm mu
  refine ⟨fun b u q n _ _ => k b u (hb b n) q, fun b u q n _ _ => ⟨u.slots, k b u (hb b n) q⟩, fun b u q n _ => by rw [upd_ne (hx b n)]; exact n, fun b u q _ => ?_,
    fun b xs q => by rw [upd_ne (hm b _ q fun z => z)]; exact q, fun b u xs q => by rw [upd_ne (hm b _ q fun z => z)]; exact q, fun b ps q => ⟨#[], by rw [upd_ne (hm b _ q fun z => z), q]; simp⟩⟩
  by_cases hbe : b = e
  · subst hbe; exact heo
  · exact ⟨u, k b u hbe q⟩
theorem Un.mono (u : Un fs ex H H1 h h1) (hs : ∀ b ∈ fs, b ∈ fs') (hx : ∀ b ∈ ex, b ∈ ex') : Un fs' ex' H H1 h h1 :=
  ⟨fun b ob q n hb he => u.keep b ob q n (fun z => hb (hs b z)) fun z => he (hx b z), fun _ _ q n _ he => u.any q n fun z => he (hx _ z), fun b ob q n he => u.free b ob q n fun z => he (hx b z), fun b ob q he => u.there b ob q fun z => he (hx b z), u.tups, u.frzs, u.tbls⟩
end
def trk (h : Heap) (H : Hp) : List Addr := (List.range h.objs.size).filter fun a => (H a).isSome
def hidT (h : Heap) (H : Hp) : Heap := PySem.W.hideAll h (trk h H)
theorem hidT_size (h : Heap) (H : Hp) : (hidT h H).objs.size = h.objs.size := PySem.W.hideAll_size _ _
theorem hidT_get {h : Heap} {H : Hp} {b : Addr} {o : Obj} (e : h.get? b = some o) (n : H b = none) : (hidT h H).get? b = some o :=
  PySem.W.hideAll_get _ e fun hm => by
    have q : (H b).isSome = true := (List.mem_filter.mp hm).2
    rw [n] at q; simp at q
theorem of_hidT {h : Heap} {H : Hp} {b : Addr} {o : Obj} (e : (hidT h H).get? b = some o) : h.get? b = some o ∧ H b = none := by
  have e' : h.get? b = some o := PySem.W.of_hideAll (trk h H) e
  refine ⟨e', ?_⟩
  cases q : H b with
  | none => rfl
  | some x =>
    have hm : b ∈ trk h H := List.mem_filter.mpr ⟨List.mem_range.mpr (Heap.lt_size e'), by simp [q]⟩
    have z : (hidT h H).get? b = none := PySem.W.hideAll_none (trk h H) hm
    rw [z] at e; cases e
end L2
namespace L2
open PySem PySem.Spec PyProof.Rows
structure Mod (K : PySem.W.Frag) (mg : Str → Option Value) (base : Heap) : Prop where
  kin : K.In base
  glob : base.Ns mainGlobals mg
  blt : ∃ mb, base.Ns builtinsNs mb ∧ ∀ x : Str, x ≠ "__name__" → mb x = bootBuiltins x
  nolimit : base.NoLimit
structure Cx where
  prog : Program
  w : World
  K : PySem.W.Frag
  mg : Str → Option Value
  base : Heap
  A : Around
  N : List Str
  s₀ : Shared
  H₀ : Hp
  env : Env
  outer : List Env
  stack : List Env
  ex : List Addr
  fn : Str → Bool
  calm : Bool
  pn : List (Addr × Obj)
  xe : Value → Shared → Prop
def frs (l : List Env) : List Addr := l.filterMap (·.frame)
abbrev Cx.fs (X : Cx) : List Addr := frs X.outer
def Vis (sc : Scope) (x : Str) : Prop := sc.names.lookup x = some .local ∨ sc.names.lookup x = some .cell ∨ sc.names.lookup x = some .free
def Loc (sc : Scope) (x : Str) : Prop := sc.names.lookup x = some .local ∨ sc.names.lookup x = some .cell
def Look (env : Env) (h : Heap) (m : Str → Option Value) (x : Str) (u : Value) : Prop :=
  (env.kindOf x = some .local ∧ m x = some u) ∨ ((env.kindOf x = some .cell ∨ env.kindOf x = some .free) ∧ ∃ c, env.cells.lookup x = some c ∧ h.IsCell c (some u))
structure Cx.Ok (X : Cx) : Prop where
  mod : Mod X.K X.mg X.base
  kind : X.env.scope.kind = .function
  glob : X.env.globals = mainGlobals
  blt : X.env.builtins = builtinsNs
  above : X.s₀.heap.objs.size ≤ X.env.locals
  inj : ∀ x y c, X.env.cells.lookup x = some c → X.env.cells.lookup y = some c → x = y
  has : ∀ x, (X.env.kindOf x = some .cell ∨ X.env.kindOf x = some .free) → ∃ c, X.env.cells.lookup x = some c
  cab : ∀ x c, X.fn x = true → X.env.cells.lookup x = some c → X.s₀.heap.objs.size ≤ c
  hd : X.calm = true → X.A.handled = none
  frames : X.A.frames = some X.stack
  stk : X.stack = X.outer ∨ (X.stack = X.env :: X.outer ∧ X.env.frame = some X.env.locals)
  exf : ∀ b ∈ X.ex, b ≠ X.env.locals ∧ ∀ x c, X.env.cells.lookup x = some c → c ≠ b
  bs : ∀ b o, X.base.get? b = some o → X.s₀.heap.get? b = some o ∧ X.H₀ b = none
  bsz : X.base.objs.size ≤ X.s₀.heap.objs.size
  noex : ∀ b o, X.base.get? b = some o → b ∉ X.ex
  exfs : ∀ b ∈ X.ex, b ∉ X.fs
  funs : X.s₀.heap.FunFrames X.base X.outer
  frf : ∀ b ∈ X.fs, X.H₀ b = none
structure Inv (X : Cx) (pins : List (Addr × Obj)) (σ : List (Option V)) (H : Hp) (s : Shared) : Prop where
  ok : X.Ok
  os : s.os = X.s₀.os
  bare : AllBare s.gens
  base : Un X.fs X.ex X.H₀ H X.s₀.heap s.heap
  loc : ∃ m, s.heap.Ns X.env.locals m ∧ ∀ (i : Nat) (x : Str) (v : V), X.N[i]? = some x → σ[i]? = some (some v) → Vis X.env.scope x → ∃ u, RelV v u ∧ Look X.env s.heap m x u
  cell : ∀ x c, X.env.cells.lookup x = some c → ∃ v, s.heap.IsCell c v
  free : H X.env.locals = none
  freeC : ∀ x c, X.env.cells.lookup x = some c → H c = none
  pin : ∀ p ∈ X.pn ++ pins, s.heap.get? p.1 = some p.2 ∧ H p.1 = none ∧ p.1 ≠ X.env.locals ∧ p.1 ∉ X.fs ∧ ∀ v, p.2.data ≠ .cell v
  hok : HOk X.prog X.w H s.heap
  len : σ.length = X.N.length
section
variable {X : Cx} {pins : List (Addr × Obj)} {σ : List (Option V)} {H H' : Hp} {s : Shared} {h' : Heap}
theorem Cx.Ok.nofr (ok : X.Ok) {b : Addr} {o : Obj} (e : X.base.get? b = some o) : b ∉ X.fs := fun hb => by
  have := (ok.funs.mem hb).1
  rw [e] at this; cases this
theorem Inv.bs (I : Inv X pins σ H s) : ∀ b o, X.base.get? b = some o → s.heap.get? b = some o ∧ H b = none := fun b o e =>
  ⟨I.base.keep b o (I.ok.bs b o e).1 (I.ok.bs b o e).2 (I.ok.nofr e) (I.ok.noex b o e), I.base.free b o (I.ok.bs b o e).1 (I.ok.bs b o e).2 (I.ok.noex b o e)⟩
theorem Inv.bk (I : Inv X pins σ H s) : ∀ b o, X.base.get? b = some o → s.heap.get? b = some o := fun b o e => (I.bs b o e).1
theorem Inv.mod (I : Inv X pins σ H s) : Mod X.K X.mg X.base := I.ok.mod
theorem Inv.kIn (I : Inv X pins σ H s) : X.K.In s.heap := I.ok.mod.kin.keeps I.bk
theorem Inv.lt (I : Inv X pins σ H s) : X.env.locals < s.heap.objs.size := let ⟨_, hn, _⟩ := I.loc; hn.lt
theorem Inv.sz (I : Inv X pins σ H s) : X.s₀.heap.objs.size ≤ s.heap.objs.size := Nat.le_trans I.ok.above (Nat.le_of_lt I.lt)
theorem Inv.nofs (I : Inv X pins σ H s) {a : Addr} (h : s.heap.objs.size ≤ a) : a ∉ X.fs := fun hb => by
  obtain ⟨_, o, ho, _⟩ := I.ok.funs.mem hb
  exact absurd (Nat.lt_of_lt_of_le (Heap.lt_size ho) (Nat.le_trans I.sz h)) (Nat.lt_irrefl _)
theorem Inv.cne (I : Inv X pins σ H s) : ∀ x c, X.env.cells.lookup x = some c → c ≠ X.env.locals := fun x c e z => by
  obtain ⟨v, o, ho, hd⟩ := I.cell x c e
  obtain ⟨m, ⟨o', es, ep, ho', hd', _⟩, _⟩ := I.loc
  rw [z, ho'] at ho; cases ho; rw [hd'] at hd; cases hd
theorem Inv.funs (I : Inv X pins σ H s) : s.heap.FunFrames X.base X.outer := by
  have all : ∀ (l : List Env), (∀ b ∈ frs l, b ∈ X.fs) → X.s₀.heap.FunFrames X.base l → s.heap.FunFrames X.base l := by
    intro l
    induction l with
    | nil => intro _ _; trivial
    | cons env r ih =>
      intro hs hl
      obtain ⟨hk, ⟨L, o, hf, hn, ho, hd⟩, hr⟩ := hl
      have hL : L ∈ X.fs := hs L (by unfold frs; rw [List.filterMap_cons, hf]; exact List.mem_cons_self)
      obtain ⟨sl, e⟩ := I.base.slot L o ho (I.ok.frf L hL) hL fun z => I.ok.exfs L z hL
      exact ⟨hk, ⟨L, _, hf, hn, e, hd⟩, ih (fun b hb => hs b (by unfold frs; rw [List.filterMap_cons, hf]; exact List.mem_cons_of_mem _ hb)) hr⟩
  exact all X.outer (fun _ hb => hb) I.ok.funs
theorem Inv.stack (I : Inv X pins σ H s) : s.heap.FunFrames X.base X.stack := by
  rcases I.ok.stk with e | ⟨e, hf⟩
  · rw [e]; exact I.funs
  · rw [e]
    obtain ⟨m, hn, _⟩ := I.loc
    refine .cons (by rw [I.ok.kind]; decide) hf hn ?_ I.funs
    exact Heap.get?_none_of_le (Nat.le_trans I.ok.bsz I.ok.above)
theorem Inv.stkSub (I : Inv X pins σ H s) : ∀ b ∈ frs X.stack, b ∈ X.env.locals :: X.fs := fun b hb => by
  rcases I.ok.stk with e | ⟨e, hf⟩
  · rw [e] at hb; exact List.mem_cons_of_mem _ hb
  · rw [e] at hb
    unfold frs at hb
    rw [List.filterMap_cons, hf] at hb
    exact hb
theorem Inv.stkFree (I : Inv X pins σ H s) : ∀ b ∈ frs X.stack, H b = none := fun b hb => by
  rcases List.mem_cons.mp (I.stkSub b hb) with e | hb
  · rw [e]; exact I.free
  · obtain ⟨_, o, ho, _⟩ := I.ok.funs.mem hb
    exact I.base.free b o ho (I.ok.frf b hb) fun z => I.ok.exfs b z hb
theorem Inv.step {g' : Array GenState} {t' : Nat} {d' : Drawn} {ch : List Addr} (I : Inv X pins σ H s)
    (hch : ∀ b ∈ ch, (b ∈ X.ex ∨ X.s₀.heap.objs.size ≤ b) ∧ b ≠ X.env.locals ∧ (∀ x c, X.env.cells.lookup x = some c → c ≠ b) ∧ ∀ p ∈ X.pn ++ pins, p.1 ≠ b)
    (keep : ∀ b o, b ≠ X.env.locals → b ∉ X.fs → b ∉ ch → s.heap.get? b = some o → H b = none → h'.get? b = some o)
    (slot : ∀ b o, b ≠ X.env.locals → b ∈ X.fs → b ∉ ch → s.heap.get? b = some o → H b = none → ∃ sl, h'.get? b = some { o with slots := sl }) (free : ∀ b o, b ∉ ch → s.heap.get? b = some o → H b = none → H' b = none)
    (there : ∀ b o, b ∉ ch → s.heap.get? b = some o → ∃ o', h'.get? b = some o')
    (tups : ∀ b xs, H b = some (.tup xs) → H' b = some (.tup xs)) (frzs : ∀ b o u, H b = some (.frz o u) → H' b = some (.frz o u)) (tbls : ∀ b ps, H b = some (.tbl ps) → ∃ more, H' b = some (.tbl (ps ++ more)))
    (ns : ∀ m, s.heap.Ns X.env.locals m → h'.Ns X.env.locals m) (hok : HOk X.prog X.w H' h') (hg : AllBare g') :
    Inv X pins σ H' { s with heap := h', gens := g', drawn := d', toks := t' } := by
  have neL : ∀ b o, X.s₀.heap.get? b = some o → b ≠ X.env.locals := fun b o e => Nat.ne_of_lt (Nat.lt_of_lt_of_le (Heap.lt_size e) I.ok.above)
  have neC : ∀ b o, X.s₀.heap.get? b = some o → b ∉ X.ex → b ∉ ch := fun b o e hx hb => by
    rcases (hch b hb).1 with z | z
    · exact hx z
    · exact absurd (Nat.lt_of_lt_of_le (Heap.lt_size e) z) (Nat.lt_irrefl _)
  have cellK : ∀ x c, X.env.cells.lookup x = some c → ∀ v, s.heap.IsCell c v → h'.IsCell c v := fun x c e v ⟨o, ho, hd⟩ => by
    have nch : c ∉ ch := fun z => (hch c z).2.2.1 x c e rfl
    by_cases hc : c ∈ X.fs
    · obtain ⟨sl, q⟩ := slot c o (I.cne x c e) hc nch ho (I.freeC x c e)
      exact ⟨_, q, hd⟩
    · exact ⟨o, keep c o (I.cne x c e) hc nch ho (I.freeC x c e), hd⟩
  refine ⟨I.ok, I.os, hg, ⟨fun b o e n hb hx => ?_, fun b o e n hb hx => ?_, fun b o e n hx => ?_, fun b o e hx => ?_, fun b xs e => tups b xs (I.base.tups b xs e), fun b o xs e => frzs b o xs (I.base.frzs b o xs e), fun b ps e => ?_⟩, ?_, fun x c e => ?_, ?_, fun x c e => ?_, fun p hp => ?_, hok, I.len⟩
  · exact keep b o (neL b o e) hb (neC b o e hx) (I.base.keep b o e n hb hx) (I.base.free b o e n hx)
  · obtain ⟨sl, e1⟩ := I.base.slot b o e n hb hx
    obtain ⟨sl', e2⟩ := slot b _ (neL b o e) hb (neC b o e hx) e1 (I.base.free b o e n hx)
    exact ⟨sl', e2⟩
  · obtain ⟨o', e1⟩ := I.base.there b o e hx
    exact free b o' (neC b o e hx) e1 (I.base.free b o e n hx)
  · obtain ⟨o', e1⟩ := I.base.there b o e hx
    exact there b o' (neC b o e hx) e1
  · obtain ⟨m1, e1⟩ := I.base.tbls b ps e
    obtain ⟨m2, e2⟩ := tbls b _ e1
    exact ⟨m1 ++ m2, by rw [e2, Array.append_assoc]⟩
  · obtain ⟨m, hn, hl⟩ := I.loc
    refine ⟨m, ns m hn, fun i x v e1 e2 e3 => ?_⟩
    obtain ⟨u, r, l⟩ := hl i x v e1 e2 e3
    refine ⟨u, r, ?_⟩
    rcases l with l | ⟨k, c, e, z⟩
    · exact .inl l
    · exact .inr ⟨k, c, e, cellK x c e _ z⟩
  · obtain ⟨v, z⟩ := I.cell x c e
    exact ⟨v, cellK x c e v z⟩
  · obtain ⟨m, ⟨o, _, _, ho, _⟩, _⟩ := I.loc
    exact free _ o (fun z => (hch _ z).2.1 rfl) ho I.free
  · obtain ⟨v, o, ho, hd⟩ := I.cell x c e
    exact free c o (fun z => (hch c z).2.2.1 x c e rfl) ho (I.freeC x c e)
  · obtain ⟨e, n, ne, nf, d⟩ := I.pin p hp
    have nch : p.1 ∉ ch := fun z => (hch p.1 z).2.2.2 p hp rfl
    exact ⟨keep p.1 p.2 ne nf nch e n, free p.1 p.2 nch e n, ne, nf, d⟩
theorem Inv.un {t' : Nat} (I : Inv X pins σ H s) (u : Un X.fs [] H H' s.heap h') (hok : HOk X.prog X.w H' h') : Inv X pins σ H' { s with heap := h', toks := t' } := by
  obtain ⟨m, ⟨o, es, ep, ho, r⟩, _⟩ := id I.loc
  obtain ⟨sl, hL⟩ := u.any ho I.free (by simp)
  exact I.step (g' := s.gens) (d' := s.drawn) (ch := []) (fun _ z => nomatch z) (fun b o _ hb _ e n => u.keep b o e n hb (by simp)) (fun b o _ hb _ e n => u.slot b o e n hb (by simp)) (fun b o _ e n => u.free b o e n (by simp)) (fun b o _ e => u.there b o e (by simp)) u.tups u.frzs u.tbls (fun m' hm => by
    obtain ⟨o', es', ep', ho', r'⟩ := hm
    rw [ho] at ho'; cases ho'
    exact ⟨_, es', ep', hL, r'⟩) hok I.bare
theorem Inv.call {g' : Array GenState} {t' : Nat} {d' : Drawn} {ch : List Addr} (I : Inv X pins σ H s) (u : Un (frs X.stack) ch H H' s.heap h') (hok : HOk X.prog X.w H' h') (hg : AllBare g')
    (hch : ∀ b ∈ ch, (b ∈ X.ex ∨ X.s₀.heap.objs.size ≤ b) ∧ b ≠ X.env.locals ∧ (∀ x c, X.env.cells.lookup x = some c → c ≠ b) ∧ ∀ p ∈ X.pn ++ pins, p.1 ≠ b) :
    Inv X pins σ H' { s with heap := h', gens := g', drawn := d', toks := t' } := by
  obtain ⟨m, ⟨o, es, ep, ho, r⟩, _⟩ := id I.loc
  obtain ⟨sl, hL⟩ := u.any ho I.free fun z => (hch _ z).2.1 rfl
  exact I.step (ch := ch) hch (fun b o hL hb hc e n => u.keep b o e n (fun z => (List.mem_cons.mp (I.stkSub b z)).elim hL hb) hc) (fun b o _ _ hc e n => u.any e n hc) (fun b o hc e n => u.free b o e n hc) (fun b o hc e => u.there b o e hc) u.tups u.frzs u.tbls (fun m' hm => by
    obtain ⟨o', es', ep', ho', r'⟩ := hm
    rw [ho] at ho'; cases ho'
    exact ⟨_, es', ep', hL, r'⟩) hok hg
theorem Inv.turned {t' : Nat} {it : Addr} (I : Inv X pins σ H s) (k : ∀ b o, b ≠ it → s.heap.get? b = some o → h'.get? b = some o) (hn : H it = none) (hL : it ≠ X.env.locals)
    (h1 : it ∈ X.ex ∨ X.s₀.heap.objs.size ≤ it) (h2 : ∀ x c, X.env.cells.lookup x = some c → c ≠ it) (h3 : ∀ p ∈ X.pn ++ pins, p.1 ≠ it) : Inv X pins σ H { s with heap := h', toks := t' } := by
  have nit : ∀ b u, H b = some u → b ≠ it := fun b u e z => by rw [z, hn] at e; cases e
  refine I.step (g' := s.gens) (d' := s.drawn) (ch := [it]) (fun b hb => ?_) (fun b o _ _ hc e _ => k b o (fun z => hc (by simp [z])) e) (fun b o _ _ hc e _ => ⟨o.slots, k b o (fun z => hc (by simp [z])) e⟩) (fun _ _ _ _ n => n)
    (fun b o hc e => ⟨o, k b o (fun z => hc (by simp [z])) e⟩) (fun _ _ e => e) (fun _ _ _ e => e) (fun b ps e => ⟨#[], by rw [e]; simp⟩) (fun m hm => ?_) (fun b u e => ?_) I.bare
  · have e : b = it := by simpa using hb
    subst e
    exact ⟨h1, hL, h2, h3⟩
  · obtain ⟨o, es, ep, ho, r⟩ := hm
    exact ⟨o, es, ep, k _ o (Ne.symm hL) ho, r⟩
  · refine (I.hok b u e).stay (fun c v hc q => k c v ?_ q) (fun _ q => q) fun _ _ q => q
    rcases hc with z | z
    · rw [z]; exact nit b u e
    · exact nit c _ z
theorem Inv.tok (I : Inv X pins σ H s) (t : Nat) : Inv X pins σ H { s with toks := t } := I.un (h' := s.heap) (t' := t) Un.refl I.hok
theorem Inv.kept {t' : Nat} (I : Inv X pins σ H s) (k : ∀ b u, s.heap.get? b = some u → h'.get? b = some u) : Inv X pins σ H { s with heap := h', toks := t' } := I.un (Un.kept k) (I.hok.kept k)
theorem Inv.laid {a : Addr} {o : HO} {t' : Nat} (I : Inv X pins σ H s) (k : ∀ b u, s.heap.get? b = some u → h'.get? b = some u) (hp : s.heap.objs.size ≤ a) (new : ObjOk X.prog X.w (upd H a o) h' a o) :
    Inv X pins σ (upd H a o) { s with heap := h', toks := t' } := I.un (Un.laid k hp (I.hok.fresh hp)) (I.hok.laid k hp new)
theorem Inv.write {x e : Addr} {o : HO} {t' : Nat} (I : Inv X pins σ H s) (mu : Mut (H x)) (he : e = x ∨ H e = some (.own x)) (k : ∀ b u, b ≠ e → s.heap.get? b = some u → h'.get? b = some u) (heo : ∃ u, h'.get? e = some u)
    (new : ObjOk X.prog X.w (upd H x o) h' x o) : Inv X pins σ (upd H x o) { s with heap := h', toks := t' } := I.un (Un.write mu he k heo) (I.hok.write mu he k heo new)
theorem Inv.weak {σ' : List (Option V)} (I : Inv X pins σ H s) (hl : σ'.length = σ.length) (w : ∀ (i : Nat) v, σ'[i]? = some (some v) → σ[i]? = some (some v)) : Inv X pins σ' H s :=
  ⟨I.ok, I.os, I.bare, I.base, let ⟨m, hn, hl'⟩ := I.loc; ⟨m, hn, fun i x v e1 e2 e3 => hl' i x v e1 (w i v e2) e3⟩, I.cell, I.free, I.freeC, I.pin, I.hok, hl.trans I.len⟩
theorem Inv.pins_of {pins' : List (Addr × Obj)} (I : Inv X pins σ H s) (h : ∀ p ∈ pins', s.heap.get? p.1 = some p.2 ∧ H p.1 = none ∧ p.1 ≠ X.env.locals ∧ p.1 ∉ X.fs ∧ ∀ v, p.2.data ≠ .cell v) : Inv X pins' σ H s :=
  ⟨I.ok, I.os, I.bare, I.base, I.loc, I.cell, I.free, I.freeC, fun p hp => (List.mem_append.mp hp).elim (fun z => I.pin p (List.mem_append_left _ z)) (h p), I.hok, I.len⟩
theorem nodup_ix {N : List Str} (hN : N.Nodup) {i j : Nat} {x : Str} (a : N[i]? = some x) (b : N[j]? = some x) : i = j := by
  obtain ⟨h1, e1⟩ := List.getElem?_eq_some_iff.mp a
  obtain ⟨h2, e2⟩ := List.getElem?_eq_some_iff.mp b
  exact (List.getElem_inj hN).mp (e1.trans e2.symm)
theorem store_ok2 {M : Model} {A : Around} {E : Value → Shared → Prop} {i : Nat} {x : Str} {v : V} {u : Value} {Q : Unit → Shared → Prop} (I : Inv X pins σ H s) (hN : X.N.Nodup) (hi : X.N[i]? = some x) (hx : Loc X.env.scope x) (r : RelV v u)
    (h : ∀ s', Inv X pins (σ.set i (some v)) H s' → (∃ a, Heap.SameBut a s.heap s'.heap ∧ (a = X.env.locals ∨ X.env.cells.lookup x = some a)) → Q () s') (hf : X.fn x = true ∨ X.env.scope.names.lookup x = some .local := by first | exact .inl rfl | exact .inr rfl | assumption) : wpAny M A (storeName X.env x u) Q E s := by
  obtain ⟨m, hn, hl⟩ := id I.loc
  have hcls : (X.env.scope.kind == .class || (X.env.scope.kind == .module && X.env.locals != X.env.globals)) = false := by rw [I.ok.kind]; rfl
  have hiσ : i < σ.length := by rw [I.len]; exact (List.getElem?_eq_some_iff.mp hi).1
  have cne := I.cne
  have tracked : ∀ {a : Addr} {h' : Heap}, (∃ o, s.heap.get? a = some o ∧ H a = none) → Heap.SameBut a s.heap h' → HOk X.prog X.w H h' := fun {a h'} ha hs b ob e => by
    obtain ⟨_, _, hfree⟩ := ha
    refine (I.hok b ob e).stay (fun c w' hc q => (hs.2 c ?_).trans q) (fun _ q => q) fun _ _ q => q
    rintro rfl
    rcases hc with rfl | hc
    · rw [hfree] at e; cases e
    · rw [hfree] at hc; cases hc
  rcases hx with hk | hk
  · refine wpAny_storeName_local hk hn (fun h' hn' hs => ?_) hcls
    obtain ⟨oL, _, _, hoL, _⟩ := id hn
    refine h _ ⟨I.ok, I.os, I.bare, ⟨fun b o e n hb hx => ?_, fun b o e n hb hx => ?_, I.base.free, fun b o e hx => ?_, I.base.tups, I.base.frzs, I.base.tbls⟩, ⟨_, hn', fun j y v' e1 e2 e3 => ?_⟩, fun y c e => ?_, I.free, I.freeC, fun p hp => ?_, tracked ⟨oL, hoL, I.free⟩ hs, by simpa using I.len⟩ ⟨_, hs, .inl rfl⟩
    · exact (hs.2 b (Nat.ne_of_lt (Nat.lt_of_lt_of_le (Heap.lt_size e) I.ok.above))).trans (I.base.keep b o e n hb hx)
    · obtain ⟨sl, e1⟩ := I.base.slot b o e n hb hx
      exact ⟨sl, (hs.2 b (Nat.ne_of_lt (Nat.lt_of_lt_of_le (Heap.lt_size e) I.ok.above))).trans e1⟩
    · obtain ⟨o', e1⟩ := I.base.there b o e hx
      exact ⟨o', (hs.2 b (Nat.ne_of_lt (Nat.lt_of_lt_of_le (Heap.lt_size e) I.ok.above))).trans e1⟩
    · by_cases hj : j = i
      · subst hj
        rw [hi] at e1; cases e1
        rw [List.getElem?_set_self hiσ] at e2
        cases e2
        exact ⟨u, r, .inl ⟨hk, by simp⟩⟩
      · rw [List.getElem?_set_ne (Ne.symm hj)] at e2
        obtain ⟨u', r', q⟩ := hl j y v' e1 e2 e3
        refine ⟨u', r', ?_⟩
        rcases q with ⟨k, e⟩ | ⟨k, c, e, z⟩
        · refine .inl ⟨k, ?_⟩
          have : y ≠ x := fun e => hj (nodup_ix hN e1 (e ▸ hi))
          simp [this, e]
        · exact .inr ⟨k, c, e, z.sameBut hs (cne y c e)⟩
    · obtain ⟨w', z⟩ := I.cell y c e
      exact ⟨w', z.sameBut hs (cne y c e)⟩
    · obtain ⟨e, n, ne, nf, d⟩ := I.pin p hp
      exact ⟨(hs.2 p.1 ne).trans e, n, ne, nf, d⟩
  · have hfn : X.fn x = true := by
      rcases hf with z | z
      · exact z
      · rw [z] at hk; cases hk
    obtain ⟨c, hc⟩ := I.ok.has x (.inl hk)
    obtain ⟨w', z⟩ := I.cell x c hc
    refine wpAny_storeName_cell I.ok.kind hk hc z (fun h' hc' hs => ?_)
    obtain ⟨oc, hoc, hocd⟩ := id z
    refine h { s with heap := h' } ⟨I.ok, I.os, I.bare, ⟨fun b o e n hb hx => ?_, fun b o e n hb hx => ?_, I.base.free, fun b o e hx => ?_, I.base.tups, I.base.frzs, I.base.tbls⟩, ⟨m, hn.sameBut hs (Ne.symm (cne x c hc)), fun j y v' e1 e2 e3 => ?_⟩, fun y c' e => ?_, I.free, I.freeC, fun p hp => ?_, tracked ⟨oc, hoc, I.freeC x c hc⟩ hs, by simpa using I.len⟩ ⟨c, hs, .inr hc⟩
    · exact (hs.2 b (Nat.ne_of_lt (Nat.lt_of_lt_of_le (Heap.lt_size e) (I.ok.cab x c hfn hc)))).trans (I.base.keep b o e n hb hx)
    · obtain ⟨sl, e1⟩ := I.base.slot b o e n hb hx
      exact ⟨sl, (hs.2 b (Nat.ne_of_lt (Nat.lt_of_lt_of_le (Heap.lt_size e) (I.ok.cab x c hfn hc)))).trans e1⟩
    · obtain ⟨o', e1⟩ := I.base.there b o e hx
      exact ⟨o', (hs.2 b (Nat.ne_of_lt (Nat.lt_of_lt_of_le (Heap.lt_size e) (I.ok.cab x c hfn hc)))).trans e1⟩
    · by_cases hj : j = i
      · subst hj
        rw [hi] at e1; cases e1
        rw [List.getElem?_set_self hiσ] at e2
        cases e2
        exact ⟨u, r, .inr ⟨.inl hk, c, hc, hc'⟩⟩
      · rw [List.getElem?_set_ne (Ne.symm hj)] at e2
        obtain ⟨u', r', q⟩ := hl j y v' e1 e2 e3
        refine ⟨u', r', ?_⟩
        rcases q with q | ⟨k, c', e, z'⟩
        · exact .inl q
        · refine .inr ⟨k, c', e, z'.sameBut hs ?_⟩
          rintro rfl
          exact hj (nodup_ix hN e1 (I.ok.inj _ _ _ e hc ▸ hi))
    · by_cases hcc : c' = c
      · subst hcc; exact ⟨_, hc'⟩
      · obtain ⟨w2, z2⟩ := I.cell y c' e
        exact ⟨w2, z2.sameBut hs hcc⟩
    · obtain ⟨e, n, ne, nf, d⟩ := I.pin p hp
      refine ⟨(hs.2 p.1 ?_).trans e, n, ne, nf, d⟩
      intro q
      rw [q, hoc] at e
      have q' : oc = p.2 := Option.some.inj e
      exact d w' (by rw [← q']; exact hocd)
theorem store_ok {M : Model} {A : Around} {E : Value → Shared → Prop} {i : Nat} {x : Str} {v : V} {u : Value} {Q : Unit → Shared → Prop} (I : Inv X pins σ H s) (hN : X.N.Nodup) (hi : X.N[i]? = some x) (hx : Loc X.env.scope x) (r : RelV v u)
    (h : ∀ s', Inv X pins (σ.set i (some v)) H s' → Q () s') (hf : X.fn x = true ∨ X.env.scope.names.lookup x = some .local := by first | exact .inl rfl | exact .inr rfl | assumption) : wpAny M A (storeName X.env x u) Q E s :=
  store_ok2 I hN hi hx r (fun s' I' _ => h s' I') hf
theorem Inv.call' {s' : Shared} {ch : List Addr} (I : Inv X pins σ H s) (ho : s'.os = s.os) (u : Un (frs X.stack) ch H H' s.heap s'.heap) (hok : HOk X.prog X.w H' s'.heap) (hg : AllBare s'.gens)
    (hch : ∀ b ∈ ch, (b ∈ X.ex ∨ X.s₀.heap.objs.size ≤ b) ∧ b ≠ X.env.locals ∧ (∀ x c, X.env.cells.lookup x = some c → c ≠ b) ∧ ∀ p ∈ X.pn ++ pins, p.1 ≠ b) : Inv X pins σ H' s' := by
  obtain ⟨h', g', d', t', o'⟩ := s'
  have e : o' = s.os := ho
  subst e
  exact I.call (g' := g') (t' := t') (d' := d') u hok hg hch
end
abbrev XK := Value → Option Addr → Hp → Prop
abbrev St := List (Option V)
abbrev VK := V → Hp → Prop
abbrev TE := St → Hp → VK → Prop
abbrev TA := St → Hp → (List V → Hp → Prop) → Prop
structure Ends where
  nx : St → Hp → Prop
  rt : VK
  bk : St → Hp → Prop := fun _ _ => False
  ct : St → Hp → Prop := fun _ _ => False
abbrev TS := Ends → St → Hp → Prop
def EP (X : Cx) (pins : List (Addr × Obj)) (σ : St) (Q : VK) (u : Value) (s' : Shared) : Prop := ∃ v H', Inv X pins σ H' s' ∧ RelV v u ∧ Q v H'
def AP (X : Cx) (pins : List (Addr × Obj)) (σ : St) (Q : List V → Hp → Prop) (us : List Value) (s' : Shared) : Prop := ∃ vs H', Inv X pins σ H' s' ∧ Vals vs us ∧ Q vs H'
def SP (X : Cx) (pins : List (Addr × Obj)) (D : Ends) (f : Flow) (s' : Shared) : Prop :=
  match f with
  | .next => ∃ σ' H', Inv X pins σ' H' s' ∧ D.nx σ' H'
  | .brk => ∃ σ' H', Inv X pins σ' H' s' ∧ D.bk σ' H'
  | .cont => ∃ σ' H', Inv X pins σ' H' s' ∧ D.ct σ' H'
  | .ret u => ∃ v σ' H', Inv X pins σ' H' s' ∧ RelV v u ∧ D.rt v H'
def PE (X : Cx) (e : Expr) (t : TE) : Prop :=
  ∀ (pins : List (Addr × Obj)) (s : Shared) (σ : St) (H : Hp) (Q : VK), Inv X pins σ H s → t σ H Q → wpAny (model X.prog X.w) X.A (eval e X.env) (EP X pins σ Q) X.xe s
def PA (X : Cx) (es : List Expr) (t : TA) : Prop :=
  ∀ (pos : Pos) (pins : List (Addr × Obj)) (s : Shared) (σ : St) (H : Hp) (Q : List V → Hp → Prop), Inv X pins σ H s → t σ H Q → wpAny (model X.prog X.w) X.A (spliced (backTo pos (starEach es X.env))) (AP X pins σ Q) X.xe s
def PS (X : Cx) (st : Stmt) (t : TS) : Prop :=
  ∀ (pins : List (Addr × Obj)) (s : Shared) (σ : St) (H : Hp) (D : Ends), Inv X pins σ H s → t D σ H → wpAny (model X.prog X.w) X.A (exec st X.env) (SP X pins D) X.xe s
def PSs (X : Cx) (st : List Stmt) (t : TS) : Prop :=
  ∀ (pins : List (Addr × Obj)) (s : Shared) (σ : St) (H : Hp) (D : Ends), Inv X pins σ H s → t D σ H → wpAny (model X.prog X.w) X.A (execs st X.env) (SP X pins D) X.xe s
theorem thn {α : Type} {t : Sem α} {Q Q' : α → Shared → Prop} {M : Model} {A : Around} {E : Value → Shared → Prop} {s : Shared} (h : wpAny M A t Q E s) (hQ : ∀ a s, Q a s → Q' a s) : wpAny M A t Q' E s := wpAny_mono h hQ fun _ _ x => x
end L2
namespace L2
open PySem PySem.Spec PyProof.Rows
section
variable {X : Cx}
def tVar (i : Nat) : TE := fun σ H Q => ∃ v, σ[i]? = some (some v) ∧ Q v H
def tC (v : V) : TE := fun _ H Q => Q v H
theorem pe_var {i : Nat} {x : Str} {pos : Pos} (hN : X.N[i]? = some x) (hv : Vis X.env.scope x) (hd : (x == ("__debug__" : Str)) = false := by decide) (hcd : (x == ("__classdict__" : Str)) = false := by decide) : PE X (.Name x pos) (tVar i) := by
  intro pins s σ H Q I h
  obtain ⟨v, e, h⟩ := h
  obtain ⟨m, hn, hl⟩ := I.loc
  obtain ⟨u, r, l⟩ := hl i x v hN e hv
  have fin : EP X pins σ Q u s := ⟨v, H, I, r, h⟩
  rcases l with ⟨hk, hm⟩ | ⟨hk, c, hc, hcell⟩
  · exact wpAny_Name (wpAny_loadName_local I.ok.kind hk hn hm fin) hd
  · rcases hk with hk | hk
    · exact wpAny_Name (wpAny_loadName_cell I.ok.kind hk hc hcell fin) hd
    · exact wpAny_Name (wpAny_loadName_free I.ok.kind hk hc hcell fin hcd) hd
theorem pe_int {i j pos} : PE X (.Constant (.int i) j pos) (tC (.int i)) := fun _ _ _ H _ I h => wpAny_Constant_int ⟨.int i, H, I.tok _, ⟨_, rfl⟩, h⟩
theorem pe_bl {b j pos} : PE X (.Constant (.bool b) j pos) (tC (.bl b)) := fun _ _ _ H _ I h => Constant_bool ⟨.bl b, H, I, rfl, h⟩
theorem pe_non {j pos} : PE X (.Constant .none j pos) (tC .non) := fun _ _ _ H _ I h => Constant_none ⟨.non, H, I, rfl, h⟩
theorem pe_str {x j pos} : PE X (.Constant (.str x) j pos) (tC (.str x)) := fun _ _ _ H _ I h => Calls.Constant_str ⟨.str x, H, I.tok _, ⟨_, rfl⟩, h⟩
def Gl (X : Cx) (x : Str) : Prop := X.env.kindOf x = some .globalImplicit
theorem ld_glob {E : Value → Shared → Prop} {pins : List (Addr × Obj)} {s : Shared} {σ : St} {H : Hp} {x : Str} {u : Value} {pos : Pos} {Q : Value → Shared → Prop} (I : Inv X pins σ H s) (hg : Gl X x) (hm : X.mg x = some u) (h : Q u s)
    (hd : (x == ("__debug__" : Str)) = false := by decide) : wpAny (model X.prog X.w) X.A (eval (.Name x pos) X.env) Q E s :=
  Calls.Name_function_global I.ok.kind hg (Calls.loadGlobal_global (by rw [I.ok.glob]; exact I.mod.glob.keeps I.bk) hm h) hd
theorem ld_blt {E : Value → Shared → Prop} {pins : List (Addr × Obj)} {s : Shared} {σ : St} {H : Hp} {x : Str} {u : Value} {pos : Pos} {Q : Value → Shared → Prop} (I : Inv X pins σ H s) (hg : Gl X x) (hm : X.mg x = none) (hv : bootBuiltins x = some u) (h : Q u s)
    (hn : x ≠ "__name__" := by decide) (hd : (x == ("__debug__" : Str)) = false := by decide) : wpAny (model X.prog X.w) X.A (eval (.Name x pos) X.env) Q E s := by
  obtain ⟨mb, h1, h2⟩ := I.mod.blt
  exact Calls.Name_function_global I.ok.kind hg (Calls.loadGlobal_builtin (by rw [I.ok.glob]; exact I.mod.glob.keeps I.bk) hm (by rw [I.ok.blt]; exact h1.keeps I.bk) ((h2 x hn).trans hv) h) hd
theorem pe_glob {x : Str} {v : V} {u : Value} {pos : Pos} (hg : Gl X x) (hm : X.mg x = some u) (r : RelV v u) (hd : (x == ("__debug__" : Str)) = false := by decide) : PE X (.Name x pos) (tC v) :=
  fun _ _ _ H _ I h => ld_glob I hg hm ⟨v, H, I, r, h⟩ hd
theorem pe_bltn {x : Str} {v : V} {u : Value} {pos : Pos} (hg : Gl X x) (hm : X.mg x = none) (hv : bootBuiltins x = some u) (r : RelV v u) (hn : x ≠ "__name__" := by decide) (hd : (x == ("__debug__" : Str)) = false := by decide) : PE X (.Name x pos) (tC v) :=
  fun _ _ _ H _ I h => ld_blt I hg hm hv ⟨v, H, I, r, h⟩ hn hd
variable {a b : Expr} {ta tb : TE} {pos : Pos}
variable {tA tB' : TT} {rest : List Expr}
end
end L2
namespace L2
open PySem PySem.Spec PyProof.Rows
def SqL (K : PySem.W.Frag) (H : Hp) (a : Addr) (xs : List V) : Prop :=
  Rd H a (.lst xs) ∨
    ∃ (o : Obj) (its : Array Value) (n : Nat), K.lookup a = some o ∧ o.cls = .type "list" ∧ o.dict = none ∧ o.data = .seq its n ∧ its.size ≤ sizeLine ∧ Vals xs its.toList
def SqT (K : PySem.W.Frag) (H : Hp) (a : Addr) (xs : List V) : Prop :=
  Rd H a (.tup xs) ∨
    ∃ (o : Obj) (its : Array Value) (n : Nat), K.lookup a = some o ∧ o.cls = .type "tuple" ∧ o.data = .seq its n ∧ its.size ≤ sizeLine ∧ Vals xs its.toList
def absV : Value → Option V
  | .none => some .non
  | .bool b => some (.bl b)
  | .int i _ => some (.int i)
  | .str x _ => some (.str x)
  | .bytes b _ => some (.byt b)
  | .float b _ => some (.flt b)
  | .ref a => some (.ref a)
  | .type n => some (.ty n)
  | _ => none
theorem RelV.abs {x : V} {u : Value} (r : RelV x u) : absV u = some x := by
  cases x with
  | non => cases r; rfl
  | bl _ => cases r; rfl
  | int _ => obtain ⟨t, rfl⟩ := r; rfl
  | str _ => obtain ⟨t, rfl⟩ := r; rfl
  | byt _ => obtain ⟨t, rfl⟩ := r; rfl
  | flt _ => obtain ⟨t, rfl⟩ := r; rfl
  | ref _ => cases r; rfl
  | ty _ => cases r; rfl
theorem RelV.inj {x y : V} {u : Value} (r : RelV x u) (q : RelV y u) : x = y := Option.some.inj (r.abs.symm.trans q.abs)
theorem Vals.inj : ∀ {xs ys : List V} {us : List Value}, Vals xs us → Vals ys us → xs = ys
  | _, _, _, .nil, .nil => rfl
  | _, _, _, .cons r t, .cons r' t' => by rw [r.inj r', Vals.inj t t']
section
variable {X : Cx} {pins : List (Addr × Obj)} {σ : St} {H : Hp} {s : Shared} {a : Addr} {xs ys : List V}
theorem Inv.list (I : Inv X pins σ H s) (h : SqL X.K H a xs) : ∃ its : List Value, Vals xs its ∧ PlainL s.heap a its.toArray ∧ xs.length ≤ sizeLine := by
  rcases h with h | ⟨o, its, n, hk, hc, hd, hs, hz, r⟩
  · obtain ⟨z, its, n, r, e⟩ := h.ok I.hok
    exact ⟨its, r, ⟨_, n, e, rfl, rfl, rfl⟩, z⟩
  · refine ⟨its.toList, r, ⟨o, n, I.kIn a o hk, hc, hd, by simpa using hs⟩, ?_⟩
    have e := r.length
    simp only [Array.length_toList] at e
    omega
theorem Inv.tuple (I : Inv X pins σ H s) (h : SqT X.K H a xs) : ∃ its : List Value, Vals xs its ∧ IsTup s.heap a its.toArray ∧ xs.length ≤ sizeLine := by
  rcases h with h | ⟨o, its, n, hk, hc, hs, hz, r⟩
  · obtain ⟨z, its, r, p⟩ := h.ok I.hok
    exact ⟨its, r, p, z⟩
  · refine ⟨its.toList, r, ⟨o, I.kIn a o hk, hc, n, by simpa using hs⟩, ?_⟩
    have e := r.length
    simp only [Array.length_toList] at e
    omega
theorem Inv.list_inj (I : Inv X pins σ H s) (h : SqL X.K H a xs) (h' : SqL X.K H a ys) : xs = ys := by
  obtain ⟨its, r, ⟨o, n, e, _, _, d⟩, _⟩ := I.list h
  obtain ⟨its', r', ⟨o', n', e', _, _, d'⟩, _⟩ := I.list h'
  rw [e] at e'; cases e'
  rw [d] at d'
  injection d' with d1 _
  have : its = its' := by simpa using congrArg Array.toList d1
  subst this
  exact r.inj r'
theorem Inv.tuple_inj (I : Inv X pins σ H s) (h : SqT X.K H a xs) (h' : SqT X.K H a ys) : xs = ys := by
  obtain ⟨its, r, ⟨o, e, _, n, d⟩, _⟩ := I.tuple h
  obtain ⟨its', r', ⟨o', e', _, n', d'⟩, _⟩ := I.tuple h'
  rw [e] at e'; cases e'
  rw [d] at d'
  injection d' with d1 _
  have : its = its' := by simpa using congrArg Array.toList d1
  subst this
  exact r.inj r'
end
section
variable {X : Cx} {pins : List (Addr × Obj)} {σ : St} {H : Hp} {s : Shared} {E : Value → Shared → Prop}
end
section
variable {X : Cx} {st : Stmt} {rest : List Stmt} {t u : TS} {e : Expr} {te : TE} {pos : Pos}
def tSeq (t u : TS) : TS := fun D σ H => t { D with nx := u D } σ H
theorem pss_cons (h1 : PS X st t) (h2 : PSs X rest u) : PSs X (st :: rest) (tSeq t u) := by
  intro pins s σ H D I h
  refine wpAny_execs_cons (thn (h1 pins s σ H { D with nx := u D } I h) fun f s1 q => ?_)
  cases f with
  | next =>
    obtain ⟨σ', H', I', q⟩ := q
    exact h2 pins s1 σ' H' D I' q
  | ret v => exact q
  | brk => exact q
  | cont => exact q
theorem pss_one (h1 : PS X st t) : PSs X [st] t := by
  intro pins s σ H D I h
  refine wpAny_execs_cons (thn (h1 pins s σ H D I h) fun f s1 q => ?_)
  cases f with
  | next => exact wpAny_execs_nil q
  | ret v => exact q
  | brk => exact q
  | cont => exact q
theorem Inv.quiet {pins : List (Addr × Obj)} {σ : St} {H : Hp} {s : Shared} (I : Inv X pins σ H s) : interactive X.env = false := by simp [interactive, I.ok.kind]
def tDrop (te : TE) : TS := fun D σ H => te σ H fun _ H1 => D.nx σ H1
theorem ps_expr (he : PE X e te) (hs : swapsWith e none pos.line X.env = pure false := by rfl) : PS X (.Expr e pos) (tDrop te) := by
  intro pins s σ H D I h
  exact wpAny_Expr_any (thn (he pins s σ H _ I h) fun v s1 ⟨x, H1, I1, r1, q1⟩ => ⟨σ, H1, I1, q1⟩) I.quiet hs
def tRet (te : TE) : TS := fun D σ H => te σ H D.rt
theorem ps_ret (he : PE X e te) : PS X (.Return (some e) pos) (tRet te) := by
  intro pins s σ H D I h
  exact wpAny_Return_some (thn (he pins s σ H _ I h) fun v s1 ⟨x, H1, I1, r1, q1⟩ => ⟨x, σ, H1, I1, r1, q1⟩)
end
abbrev TG := V → St → Hp → (St → Hp → Prop) → Prop
def PG (X : Cx) (target : Expr) (t : TG) : Prop :=
  ∀ (pins : List (Addr × Obj)) (s : Shared) (σ : St) (H : Hp) (v : V) (u : Value) (Q : St → Hp → Prop), Inv X pins σ H s → RelV v u → t v σ H Q →
    wpAny (model X.prog X.w) X.A (assign target X.env u) (fun _ s' => ∃ σ' H', Inv X pins σ' H' s' ∧ Q σ' H') X.xe s
section
variable {X : Cx} {pos : Pos}
def gName (i : Nat) : TG := fun v σ H Q => Q (σ.set i (some v)) H
theorem pg_name {i : Nat} {x : Str} (hN : X.N.Nodup) (hi : X.N[i]? = some x) (hx : Loc X.env.scope x) (hf : X.fn x = true ∨ X.env.scope.names.lookup x = some .local := by first | exact .inl rfl | exact .inr rfl | assumption) : PG X (.Name x pos) (gName i) := by
  intro pins s σ H v u Q I r h
  exact wpAny_assign_Name (store_ok I hN hi hx r (fun s' I' => ⟨_, H, I', h⟩) hf)
def tAsg (te : TE) (g : TG) : TS := fun D σ H => te σ H fun x H1 => g x σ H1 D.nx
theorem ps_set {i : Nat} {x : Str} {e : Expr} {te : TE} {pos' : Pos} (hN : X.N.Nodup) (hi : X.N[i]? = some x) (hx : Loc X.env.scope x) (he : PE X e te) (hs : swapsWith e (some (.Name x pos')) pos.line X.env = pure false := by rfl) (hf : X.fn x = true ∨ X.env.scope.names.lookup x = some .local := by first | exact .inl rfl | exact .inr rfl | assumption) :
    PS X (.Assign [.Name x pos'] e pos) (tAsg te (gName i)) := by
  intro pins s σ H D I h
  refine wpAny_Assign_Name (thn (he pins s σ H _ I h) fun v s1 ⟨y, H1, I1, r1, q1⟩ => ?_) hs
  exact store_ok I1 hN hi hx r1 (fun s2 I2 => ⟨_, H1, I2, q1⟩) hf
end
section
variable {X : Cx} {pos : Pos}
end
structure It where
  go : Nat → Hp → Prop
  yld : Nat → Hp → V → Hp → Prop
  stop : Nat → Hp → Prop
def FpOk (X : Cx) (pins : List (Addr × Obj)) (H : Hp) (b : Addr) : Prop :=
  H b = none ∧ b ≠ X.env.locals ∧ b ∉ X.fs ∧ (b ∈ X.ex ∨ X.s₀.heap.objs.size ≤ b) ∧ (∀ x c, X.env.cells.lookup x = some c → c ≠ b) ∧ ∀ p ∈ X.pn ++ pins, p.1 ≠ b
theorem Inv.fpOk {X : Cx} {pins : List (Addr × Obj)} {σ : St} {H H' : Hp} {s : Shared} {b : Addr} (I : Inv X pins σ H s) (hb : s.heap.objs.size ≤ b) (hn : H' b = none) : FpOk X pins H' b := by
  refine ⟨hn, Nat.ne_of_gt (Nat.lt_of_lt_of_le I.lt hb), I.nofs hb, .inr (Nat.le_trans I.sz hb), fun x c e z => ?_, fun p hp z => ?_⟩
  · obtain ⟨v, q⟩ := I.cell x c e
    exact absurd (Nat.lt_of_lt_of_le q.lt (by rw [z]; exact hb)) (Nat.lt_irrefl _)
  · exact absurd (Nat.lt_of_lt_of_le (Heap.lt_size (I.pin p hp).1) (by rw [z]; exact hb)) (Nat.lt_irrefl _)
structure Turn (P : Program) (w : World) (K : PySem.W.Frag) (tg : Expr) (J : It) (fp : List Addr) (it : Addr) (tn : Nat → Heap → Prop) : Prop where
  mem : it ∈ fp
  obj : ∀ i h, tn i h → ∀ b ∈ fp, ∃ o, h.get? b = some o ∧ ∀ v, o.data ≠ .cell v
  keep : ∀ i h h', tn i h → (∀ b ∈ fp, ∀ o, h.get? b = some o → h'.get? b = some o) → tn i h'
  item : ∀ (X : Cx), X.prog = P → X.w = w → X.K = K → X.calm = true → ∀ (i : Nat) (pins : List (Addr × Obj)) (s : Shared) (σ : St) (H : Hp) (E : Value → Shared → Prop), Inv X pins σ H s → (∀ b ∈ fp, FpOk X pins H b) → tn i s.heap → J.go i H →
    wpAny (model P w) X.A (pyNext (.ref it)) (fun r s1 => ∃ u, r = some u ∧
      wpAny (model P w) X.A (letOwnedTupleGo tg (.ref it) u) (fun _ s2 => ∃ x H', Inv X pins σ H' s2 ∧ RelV x u ∧ J.yld i H x H' ∧ tn (i + 1) s2.heap ∧ ∀ b ∈ fp, H' b = none) E s1) E s
  done : ∀ (X : Cx), X.prog = P → X.w = w → X.K = K → X.calm = true → ∀ (i : Nat) (pins : List (Addr × Obj)) (s : Shared) (σ : St) (H : Hp) (E : Value → Shared → Prop), Inv X pins σ H s → (∀ b ∈ fp, FpOk X pins H b) → tn i s.heap → J.stop i H →
    wpAny (model P w) X.A (pyNext (.ref it)) (fun r s1 => r = none ∧ Inv X pins σ H s1) E s
  self : ∀ (A : Around) (i : Nat) (s : Shared) (Q : Value → Shared → Prop) (E : Value → Shared → Prop), tn i s.heap → Q (.ref it) s → wpAny (model P w) A (pyIter (.ref it)) Q E s
abbrev TI := St → Hp → (It → Hp → Prop) → Prop
def PIE (X : Cx) (pins : List (Addr × Obj)) (σ : St) (tg : Expr) (R : It → Hp → Prop) (itv : Value) (s2 : Shared) : Prop :=
  ∃ (it : Addr) (fp : List Addr) (tn : Nat → Heap → Prop) (J : It) (H' : Hp), itv = .ref it ∧ Inv X pins σ H' s2 ∧ Turn X.prog X.w X.K tg J fp it tn ∧ tn 0 s2.heap ∧ (∀ b ∈ fp, FpOk X pins H' b) ∧ R J H'
def PI (X : Cx) (tg iter : Expr) (wi : TI) : Prop :=
  ∀ (pins : List (Addr × Obj)) (s : Shared) (σ : St) (H : Hp) (R : It → Hp → Prop), Inv X pins σ H s → wi σ H R →
    wpAny (model X.prog X.w) X.A (eval iter X.env) (fun v s1 => wpAny (model X.prog X.w) X.A (pyIter v) (PIE X pins σ tg R) X.xe s1) X.xe s
theorem go_of {M : Model} {A : Around} {E : Value → Shared → Prop} {s : Shared} {tg : Expr} {it : Addr} {u : Value} {o : Obj} {n : String} {vs : Array Value} {Q : Unit → Shared → Prop} (ho : s.heap.get? it = some o) (hc : o.cls = .type n) (hd : o.data = .fields vs)
    (hn : ["enumerate", "zip", "dict_itemiterator", "dict_reverseitemiterator", "odict_iterator", "itertools.zip_longest", "itertools.pairwise"].contains n = false) (hQ : Q () s) : wpAny M A (letOwnedTupleGo tg (.ref it) u) Q E s := by
  unfold letOwnedTupleGo
  cases tg <;> first
    | exact wpAny_pure hQ
    | (cases u <;> first
        | exact wpAny_pure hQ
        | (refine wpAny_bind (wpAny_load ho ?_)
           rw [hc, hd]
           show wpAny M A (if (["enumerate", "zip", "dict_itemiterator", "dict_reverseitemiterator", "odict_iterator", "itertools.zip_longest", "itertools.pairwise"].contains n && vs[0]? == some (rawInt _)) = true then _ else _) Q E s
           rw [if_neg (by intro h; rw [hn, Bool.false_and] at h; cases h)]
           exact wpAny_pure hQ))
def Itl (K : PySem.W.Frag) (a : Addr) : It :=
  ⟨fun i H => ∃ xs x, SqL K H a xs ∧ xs[i]? = some x, fun i H x H' => H' = H ∧ ∀ xs, SqL K H a xs → xs[i]? = some x, fun i H => ∃ xs, SqL K H a xs ∧ xs.length ≤ i⟩
def Itr (lo : Int) (n : Nat) : It := ⟨fun i _ => i < n, fun i H x H' => H' = H ∧ x = .int (lo + i), fun i _ => n ≤ i⟩
theorem turn_list {P : Program} {w : World} {K : PySem.W.Frag} {tg : Expr} (a it : Addr) : Turn P w K tg (Itl K a) [it] it (fun i h => h.IsListIter it a i) where
  mem := by simp
  obj := fun i h st b hb => by
    have e : b = it := by simpa using hb
    subst e
    obtain ⟨o, e, c, d⟩ := st
    exact ⟨o, e, fun v z => by rw [d] at z; cases z⟩
  keep := fun i h h' st k => st.at fun o e => k it (by simp) o e
  item := by
    intro X hP hw hK hc i pins s σ H E I hf st hg
    subst hP hw hK
    obtain ⟨xs, x, hq, hx⟩ := hg
    obtain ⟨its, rv, p, hz⟩ := I.list hq
    obtain ⟨u, hu, ru⟩ := rv.get hx
    obtain ⟨f0, f1, f2, f3, f4, f5⟩ := hf it (by simp)
    refine wpAny_pyNext_list_item st p.isList (x := u) (by simpa using hu) fun h' st' sb => ?_
    have I1 : Inv X pins σ H { s with heap := h' } := I.turned (t' := s.toks) (fun b o hb e => (sb.2 b hb).trans e) f0 f1 f3 f4 f5
    obtain ⟨o, e, c, d⟩ := id st'
    exact ⟨u, rfl, go_of (s := { s with heap := h' }) e c d (by decide) ⟨x, H, I1, ru, ⟨rfl, fun ys hy => by rw [I.list_inj hy hq]; exact hx⟩, st', fun b hb => (hf b hb).1⟩⟩
  done := by
    intro X hP hw hK hc i pins s σ H E I hf st hg
    subst hP hw hK
    obtain ⟨xs, hq, hx⟩ := hg
    obtain ⟨its, rv, p, hz⟩ := I.list hq
    obtain ⟨f0, f1, f2, f3, f4, f5⟩ := hf it (by simp)
    have hl := rv.length
    exact wpAny_pyNext_list_end (I.ok.hd hc) st p.isList (by simp; omega) fun h' eb => ⟨rfl, I.turned (t' := s.toks) (fun b o hb e => eb b o hb e) f0 f1 f3 f4 f5⟩
  self := fun _ _ _ _ _ st h => wpAny_pyIter_listiter st h
theorem turn_range {P : Program} {w : World} {K : PySem.W.Frag} {tg : Expr} (it : Addr) (lo : Int) (n : Nat) : Turn P w K tg (Itr lo n) [it] it (fun i h => IsRangeIter h it (lo + (i : Nat) * 1) ((n : Int) - (i : Nat)) 1) where
  mem := by simp
  obj := fun i h st b hb => by
    have e : b = it := by simpa using hb
    subst e
    exact ⟨_, st, fun v z => by
      have z' : Data.fields _ = Data.cell v := z
      cases z'⟩
  keep := fun i h h' st k => k it (by simp) _ st
  item := by
    intro X hP hw hK hc i pins s σ H E I hf st hg
    subst hP hw hK
    obtain ⟨f0, f1, f2, f3, f4, f5⟩ := hf it (by simp)
    have W := Walks.range (prog := X.prog) (w := X.w) (I.ok.hd hc) it lo 1 n
    refine W.item i s _ _ hg st fun v h' tk hv st' kk => ?_
    obtain ⟨t, rfl⟩ := hv
    have I1 : Inv X pins σ H { s with heap := h', toks := tk } := I.turned (fun b o hb e => kk b o (by simpa using hb) e) f0 f1 f3 f4 f5
    refine ⟨_, rfl, go_of (s := { s with heap := h', toks := tk }) (n := "range_iterator") st' rfl rfl (by decide) ⟨.int (lo + i), H, I1, ⟨t, ?_⟩, ⟨rfl, rfl⟩, st', fun b hb => (hf b hb).1⟩⟩
    rw [Int.mul_one]
  done := by
    intro X hP hw hK hc i pins s σ H E I hf st hg
    subst hP hw hK
    obtain ⟨f0, f1, f2, f3, f4, f5⟩ := hf it (by simp)
    exact wpAny_pyNext_range_end (I.ok.hd hc) st (by have : n ≤ i := hg; omega) fun h' eb => ⟨rfl, I.turned (t' := s.toks) (fun b o hb e => eb b o hb e) f0 f1 f3 f4 f5⟩
  self := fun _ _ _ _ _ st h => wpAny_pyIter_rangeiter st h
end L2
namespace L2
open PySem PySem.Spec PyProof.Rows
section
variable {X : Cx} {tg : Expr}
def iList (K : PySem.W.Frag) (tl : TE) : TI := fun σ H R => tl σ H fun x H1 => ∃ a, x = .ref a ∧ (∃ xs, SqL K H1 a xs) ∧ R (Itl K a) H1
theorem pi_list {l : Expr} {tl : TE} (hl : PE X l tl) : PI X tg l (iList X.K tl) := by
  intro pins s σ H R I h
  refine thn (hl pins s σ H _ I h) fun v s1 ⟨x, H1, I1, r1, q1⟩ => ?_
  obtain ⟨a, e, ⟨xs, hq⟩, q⟩ := q1
  subst e
  cases r1
  obtain ⟨its, rv, p, hz⟩ := I1.list hq
  refine wpAny_pyIter_list p.isList ?_
  refine ⟨s1.heap.objs.size, [s1.heap.objs.size], _, _, H1, rfl, I1.kept (t' := s1.toks) fun b o e => Heap.get?_push_of_some _ e, turn_list a _, ⟨_, Heap.get?_push_size _ rfl, rfl, rfl⟩, fun b hb => ?_, q⟩
  have e : b = s1.heap.objs.size := by simpa using hb
  subst e
  exact I1.fpOk (Nat.le_refl _) (I1.hok.fresh (Nat.le_refl _))
theorem range_it {pins : List (Addr × Obj)} {σ : St} {H : Hp} {s : Shared} {R : It → Hp → Prop} {E : Value → Shared → Prop} {lo hi : Int} {t u v : Tok} {tk : Nat} (I : Inv X pins σ H s) (h1 : -(2 ^ 62) ≤ lo) (h2 : lo < 2 ^ 62) (h3 : -(2 ^ 62) ≤ hi) (h4 : hi < 2 ^ 62)
    (q : R (Itr lo (hi - lo).toNat) H) : wpAny (model X.prog X.w) X.A (pyIter (.ref s.heap.objs.size)) (PIE X pins σ tg R) E { s with heap := s.heap.push { cls := .type "range", data := .fields #[.int lo t, .int hi u, .int 1 v] }, toks := tk } := by
  refine wpAny_pyIter_range (IsRange.new ..) (small_one h1 h2 h3 h4) ?_
  have I1 : Inv X pins σ H { s with heap := s.heap.push { cls := .type "range", data := .fields #[.int lo t, .int hi u, .int 1 v] }, toks := tk } := I.kept fun b o e => Heap.get?_push_of_some _ e
  refine ⟨(s.heap.push { cls := .type "range", data := .fields #[.int lo t, .int hi u, .int 1 v] }).objs.size, [(s.heap.push { cls := .type "range", data := .fields #[.int lo t, .int hi u, .int 1 v] }).objs.size], _, _, H, rfl,
    I1.kept (t' := tk) fun b o e => Heap.get?_push_of_some _ e, turn_range _ lo (hi - lo).toNat, ?_, fun b hb => ?_, q⟩
  · have e1 : lo + ((0 : Nat) : Int) * 1 = lo := by simp
    have e2 : (((hi - lo).toNat : Nat) : Int) - ((0 : Nat) : Int) = Builtin.Range.rangeSize lo hi 1 := by rw [rangeSize_one]; split <;> omega
    show IsRangeIter _ _ (lo + ((0 : Nat) : Int) * 1) ((((hi - lo).toNat : Nat) : Int) - ((0 : Nat) : Int)) 1
    rw [e1, e2]
    exact Heap.get?_push_size _ rfl
  · have e : b = (s.heap.push { cls := .type "range", data := .fields #[.int lo t, .int hi u, .int 1 v] }).objs.size := by simpa using hb
    subst e
    exact I1.fpOk (Nat.le_refl _) (I1.hok.fresh (Nat.le_refl _))
def iRng1 (ta : TA) : TI := fun σ H R => ta σ H fun vs H1 => ∃ j : Int, vs = [.int j] ∧ -(2 ^ 62) ≤ j ∧ j < 2 ^ 62 ∧ R (Itr 0 j.toNat) H1
def iRng2 (ta : TA) : TI := fun σ H R => ta σ H fun vs H1 => ∃ i j : Int, vs = [.int i, .int j] ∧ (-(2 ^ 62) ≤ i ∧ i < 2 ^ 62 ∧ -(2 ^ 62) ≤ j ∧ j < 2 ^ 62) ∧ R (Itr i (j - i).toNat) H1
theorem pi_range1 {a : Expr} {ta : TA} {p pos : Pos} (hg : Gl X "range") (hm : X.mg "range" = none) (ha : PA X [a] ta) (hs : starEach [a] X.env = [(false, eval a X.env)] := by rfl) : PI X tg (.Call (.Name "range" p) [a] [] pos) (iRng1 ta) := by
  intro pins s σ H R I h
  refine Call_ (ld_blt I hg hm boot_range (PyProof.Rows.callWith_type1 (thn (ha pos pins s σ H _ I h) fun us s1 ⟨vs, H1, I1, r1, q1⟩ => ?_) hs rfl))
  obtain ⟨j, e, q1, q2, q⟩ := q1
  subst e
  cases r1 with
  | cons r rr =>
    cases rr
    obtain ⟨t, rfl⟩ := r
    exact call_range_1 (range_it I1 (by omega) (by omega) q1 q2 (by simpa using q))
theorem pi_range2 {a b : Expr} {ta : TA} {p pos : Pos} (hg : Gl X "range") (hm : X.mg "range" = none) (ha : PA X [a, b] ta) (hs : starEach [a, b] X.env = [(false, eval a X.env), (false, eval b X.env)] := by rfl) (hs2 : starEach [b] X.env = [(false, eval b X.env)] := by rfl) :
    PI X tg (.Call (.Name "range" p) [a, b] [] pos) (iRng2 ta) := by
  intro pins s σ H R I h
  refine Call_ (ld_blt I hg hm boot_range (PyProof.Rows.callWith_type1 (thn (ha pos pins s σ H _ I h) fun us s1 ⟨vs, H1, I1, r1, q1⟩ => ?_) (by rw [hs, hs2]) (by rw [hs2]; rfl)))
  obtain ⟨i, j, e, ⟨q1, q2, q3, q4⟩, q⟩ := q1
  subst e
  cases r1 with
  | cons r rr =>
    cases rr with
    | cons r' rr =>
      cases rr
      obtain ⟨t, rfl⟩ := r
      obtain ⟨t', rfl⟩ := r'
      exact call_range_2 (range_it I1 q1 q2 q3 q4 q)
def pinsAt (fp : List Addr) (h : Heap) : List (Addr × Obj) := fp.filterMap fun b => (h.get? b).map fun o => (b, o)
theorem mem_pinsAt {fp : List Addr} {h : Heap} {b : Addr} {o : Obj} (hb : b ∈ fp) (e : h.get? b = some o) : (b, o) ∈ pinsAt fp h := List.mem_filterMap.mpr ⟨b, hb, by rw [e]; rfl⟩
theorem of_pinsAt {fp : List Addr} {h : Heap} {p : Addr × Obj} (hp : p ∈ pinsAt fp h) : p.1 ∈ fp ∧ h.get? p.1 = some p.2 := by
  obtain ⟨b, hb, e⟩ := List.mem_filterMap.mp hp
  cases q : h.get? b with
  | none => rw [q] at e; cases e
  | some o =>
    rw [q] at e
    have e' : (b, o) = p := Option.some.inj e
    subst e'
    exact ⟨hb, q⟩
theorem Inv.pinned {pins : List (Addr × Obj)} {σ : St} {H : Hp} {s : Shared} {fp : List Addr} (I : Inv X pins σ H s) (hf : ∀ b ∈ fp, FpOk X pins H b) (ho : ∀ b ∈ fp, ∃ o, s.heap.get? b = some o ∧ ∀ v, o.data ≠ .cell v) : Inv X (pins ++ pinsAt fp s.heap) σ H s :=
  I.pins_of fun p hp => (List.mem_append.mp hp).elim (fun z => I.pin p (List.mem_append_right _ z)) fun z => by
    obtain ⟨hb, e⟩ := of_pinsAt z
    obtain ⟨f0, f1, f2, _⟩ := hf p.1 hb
    obtain ⟨o, e', d⟩ := ho p.1 hb
    rw [e] at e'; cases e'
    exact ⟨e, f0, f1, f2, d⟩
theorem Inv.unpinned {pins pl : List (Addr × Obj)} {σ : St} {H : Hp} {s : Shared} (I : Inv X (pins ++ pl) σ H s) : Inv X pins σ H s := I.pins_of fun p hp => I.pin p (List.mem_append_right _ (List.mem_append_left _ hp))
end
end L2
namespace L2
open PySem PySem.Spec PyProof.Rows
abbrev R2 := V → V → Hp → VK → Prop
def OpR (X : Cx) (f : Value → Value → Sem Value) (r : R2) : Prop :=
  ∀ (pins : List (Addr × Obj)) (s : Shared) (σ : St) (H : Hp) (x y : V) (v u : Value) (Q : VK), Inv X pins σ H s → RelV x v → RelV y u → r x y H Q →
    wpAny (model X.prog X.w) X.A (f v u) (EP X pins σ Q) X.xe s
def CallR (X : Cx) (f : Value) (r : List V → Hp → VK → Prop) : Prop :=
  ∀ (pins : List (Addr × Obj)) (s : Shared) (σ : St) (H : Hp) (xs : List V) (us : List Value) (Q : VK), Inv X pins σ H s → Vals xs us → r xs H Q →
    wpAny (model X.prog X.w) X.A (call f us) (EP X pins σ Q) X.xe s
def tOp (r : R2) (ta tb : TE) : TE := fun σ H Q => ta σ H fun x H1 => tb σ H1 fun y H2 => r x y H2 Q
def rI (C : Int → Int → Prop) (g : Int → Int → V) : R2 := fun x y H Q => ∃ i j, x = .int i ∧ y = .int j ∧ C i j ∧ Q (g i j) H
def rI0 (g : Int → Int → V) : R2 := fun x y H Q => ∃ i j, x = .int i ∧ y = .int j ∧ Q (g i j) H
section
variable {X : Cx} {a b c : Expr} {ta tb tc : TE} {pos : Pos}
theorem binT (ha : PE X a ta) (hb : PE X b tb) {pins : List (Addr × Obj)} {s : Shared} {σ : St} {H : Hp} {R : V → V → Hp → Prop} (I : Inv X pins σ H s)
    (h : ta σ H fun x H1 => tb σ H1 fun y H2 => R x y H2) {Q : Value → Shared → Prop} {f : Value → Value → Sem Value}
    (hf : ∀ v u s2 x y H2, Inv X pins σ H2 s2 → RelV x v → RelV y u → R x y H2 → wpAny (model X.prog X.w) X.A (f v u) Q X.xe s2) :
    wpAny (model X.prog X.w) X.A (eval a X.env) (fun v s₁ => wpAny (model X.prog X.w) X.A (eval b X.env) (fun u s₂ => wpAny (model X.prog X.w) X.A (f v u) Q X.xe s₂) X.xe s₁) X.xe s := by
  refine thn (ha pins s σ H _ I h) fun v s1 ⟨x, H1, I1, r1, q1⟩ => ?_
  refine thn (hb pins s1 σ H1 _ I1 q1) fun u s2 ⟨y, H2, I2, r2, q2⟩ => ?_
  exact hf v u s2 x y H2 I2 r1 r2 q2
theorem opI {f : Value → Value → Sem Value} {C : Int → Int → Prop} {g : Int → Int → Int}
    (rule : ∀ (i j : Int) (t u : Tok) (s : Shared) (Q : Value → Shared → Prop) (E : Value → Shared → Prop), C i j → Q (.int (g i j) s.toks) { s with toks := s.toks + 1 } → wpAny (model X.prog X.w) X.A (f (.int i t) (.int j u)) Q E s) :
    OpR X f (rI C fun i j => .int (g i j)) := by
  intro pins s σ H x y v u Q I rx ry h
  obtain ⟨i, j, rfl, rfl, hc, q⟩ := h
  obtain ⟨t, rfl⟩ := rx
  obtain ⟨t', rfl⟩ := ry
  exact rule i j t t' s _ _ hc ⟨.int (g i j), H, I.tok _, ⟨_, rfl⟩, q⟩
theorem opI0 {f : Value → Value → Sem Value} {g : Int → Int → Int}
    (rule : ∀ (i j : Int) (t u : Tok) (s : Shared) (Q : Value → Shared → Prop) (E : Value → Shared → Prop), Q (.int (g i j) s.toks) { s with toks := s.toks + 1 } → wpAny (model X.prog X.w) X.A (f (.int i t) (.int j u)) Q E s) :
    OpR X f (rI0 fun i j => .int (g i j)) := by
  intro pins s σ H x y v u Q I rx ry h
  obtain ⟨i, j, rfl, rfl, q⟩ := h
  obtain ⟨t, rfl⟩ := rx
  obtain ⟨t', rfl⟩ := ry
  exact rule i j t t' s _ _ ⟨.int (g i j), H, I.tok _, ⟨_, rfl⟩, q⟩
theorem opB0 {f : Value → Value → Sem Value} {g : Int → Int → Bool}
    (rule : ∀ (i j : Int) (t u : Tok) (s : Shared) (Q : Value → Shared → Prop) (E : Value → Shared → Prop), Q (.bool (g i j)) s → wpAny (model X.prog X.w) X.A (f (.int i t) (.int j u)) Q E s) :
    OpR X f (rI0 fun i j => .bl (g i j)) := by
  intro pins s σ H x y v u Q I rx ry h
  obtain ⟨i, j, rfl, rfl, q⟩ := h
  obtain ⟨t, rfl⟩ := rx
  obtain ⟨t', rfl⟩ := ry
  exact rule i j t t' s _ _ ⟨.bl (g i j), H, I, rfl, q⟩
def CDiv (i j : Int) : Prop := 0 < j ∧ j < 1073741824
def CMul (i j : Int) : Prop := (-(2 ^ 64) < i ∧ i < 2 ^ 64) ∨ (-(2 ^ 64) < j ∧ j < 2 ^ 64)
theorem CMul.ok {i j : Int} (h : CMul i j) : IntMulOk i j := by
  rcases h with ⟨h1, h2⟩ | ⟨h1, h2⟩
  · exact .of_left (intBits_le_64 h1 h2)
  · exact .of_right (intBits_le_64 h1 h2)
theorem op_add : OpR X (binaryOp .Add) (rI0 fun i j => .int (i + j)) := opI0 fun _ _ _ _ _ _ _ q => add_int q
theorem op_mul : OpR X (binaryOp .Mult) (rI CMul fun i j => .int (i * j)) := opI fun _ _ _ _ _ _ _ hc q => mul_int q hc.ok
theorem op_fdiv : OpR X (binaryOp .FloorDiv) (rI CDiv fun i j => .int (i / j)) := opI fun i j _ _ _ _ _ hc q => by
  have h1 : (0 : Int) < j := hc.1
  have h2 : j < 1073741824 := hc.2
  exact floordiv_int (by omega) (by rw [Int.fdiv_eq_ediv_of_nonneg i (by omega)]; exact q) (.inl (PyProof.noPylong_small (by omega)))
theorem op_mod : OpR X (binaryOp .Mod) (rI (fun _ j => 0 < j) fun i j => .int (i % j)) := opI fun i j _ _ _ _ _ hc q => by
  have h1 : (0 : Int) < j := hc
  exact mod_int' (by omega) (by rw [Int.fmod_eq_emod_of_nonneg i (by omega)]; exact q)
end
section
variable {X : Cx} {a b c : Expr} {ta tb tc : TE} {pos : Pos}
theorem fin_bl {pins : List (Addr × Obj)} {σ : St} {H : Hp} {s : Shared} {Q : VK} {k k' : Bool} (I : Inv X pins σ H s) (q : Q (.bl k) H) (e : k = k') : EP X pins σ Q (.bool k') s := by
  subst e
  exact ⟨.bl k, H, I, rfl, q⟩
theorem op_lt : OpR X (compareOp .Lt) (rI0 fun i j => .bl (decide (i < j))) := opB0 fun _ _ _ _ _ _ _ q => lt_int q
theorem op_le : OpR X (compareOp .LtE) (rI0 fun i j => .bl (decide (i ≤ j))) := opB0 fun _ _ _ _ _ _ _ q => le_int q
theorem op_gt : OpR X (compareOp .Gt) (rI0 fun i j => .bl (decide (j < i))) := opB0 fun _ _ _ _ _ _ _ q => gt_int q
theorem op_isN : OpR X (compareOp .Is) (fun x y H Q => y = .non ∧ Q (.bl (decide (x = .non))) H) := by
  intro pins s σ H x y v u Q I rx ry h
  obtain ⟨rfl, q⟩ := h
  cases ry
  refine is_none_gen (fin_bl I q ?_)
  cases x <;> first
    | (cases rx; rfl)
    | (obtain ⟨t, rfl⟩ := rx; rfl)
theorem op_notN : OpR X (compareOp .IsNot) (fun x y H Q => y = .non ∧ Q (.bl (!decide (x = .non))) H) := by
  intro pins s σ H x y v u Q I rx ry h
  obtain ⟨rfl, q⟩ := h
  cases ry
  refine isnot_none_gen (fin_bl I q ?_)
  cases x <;> first
    | (cases rx; rfl)
    | (obtain ⟨t, rfl⟩ := rx; rfl)
theorem nomark (b : Expr) {op : CmpOp} (h : op ≠ .In := by decide) (h2 : op ≠ .NotIn := by decide) : behindInMarks op b = false := by
  have e1 : (op == CmpOp.In) = false := by cases op <;> first | rfl | exact absurd rfl h
  have e2 : (op == CmpOp.NotIn) = false := by cases op <;> first | rfl | exact absurd rfl h2
  cases b <;> simp [behindInMarks, e1, e2]
theorem line63 : (sizeLine : Nat) < 2 ^ 63 := by rw [sizeLine_eq]; decide
theorem op_add_str : OpR X (binaryOp .Add) (fun x y H Q => ∃ i j, x = .str i ∧ y = .str j ∧ i.length + j.length ≤ sizeLine ∧ Q (.str (i ++ j)) H) := by
  intro pins s σ H x y v u Q I rx ry h
  obtain ⟨i, j, rfl, rfl, hz, q⟩ := h
  obtain ⟨t, rfl⟩ := rx
  obtain ⟨t', rfl⟩ := ry
  exact add_str (fun t' tk => ⟨.str (i ++ j), H, I.tok _, ⟨_, rfl⟩, q⟩) hz
theorem vals1 {x : V} {us : List Value} (r : Vals [x] us) : ∃ u, us = [u] ∧ RelV x u := by
  cases r with
  | cons r1 r2 => cases r2; exact ⟨_, rfl, r1⟩
theorem vals2 {x y : V} {us : List Value} (r : Vals [x, y] us) : ∃ u w', us = [u, w'] ∧ RelV x u ∧ RelV y w' := by
  cases r with
  | cons r1 r2 =>
    cases r2 with
    | cons r3 r4 => cases r4; exact ⟨_, _, rfl, r1, r3⟩
theorem call_str_int : CallR X (.type "str") (fun xs H Q => ∃ i, xs = [.int i] ∧ i.natAbs.log2 < 1920 ∧ Q (.str (toString i)) H) := by
  intro pins s σ H xs us Q I r h
  obtain ⟨i, rfl, hz, q⟩ := h
  obtain ⟨u, rfl, t, rfl⟩ := vals1 r
  exact PySem.P.str_of_int hz ⟨.str _, H, I.tok _, ⟨_, rfl⟩, q⟩
end
end L2
namespace L2
open PySem PySem.Spec PyProof.Rows
structure ObjM (h : Heap) (x dx C : Addr) (mA : Str → Option Value) : Prop where
  obj : h.get? x = some (PySem.W.instObj C dx)
  ns : h.Ns1 dx mA
  ne : dx ≠ x
theorem lookIn_ns {h : Heap} {dx : Addr} {mA : Str → Option Value} (n : h.Ns1 dx mA) : ∃ od, h.get? dx = some od ∧ ∀ name, PySem.W.lookIn name od = some (mA name) := by
  obtain ⟨o, es, ep, ho, hd, hk, _, hm⟩ := n
  refine ⟨o, ho, fun name => ?_⟩
  have e := hm name
  unfold nsFind findBy at e
  rw [← Array.find?_toList] at e
  unfold PySem.W.lookIn
  rw [hd]
  dsimp only
  split
  · rename_i y q
    rw [q] at e
    exact congrArg some e
  · rename_i q
    rw [q] at e
    have a : es.toList.any (·.refKey) = false := by
      rw [List.any_eq_false]
      intro y hy
      obtain ⟨z, t, hkey⟩ := hk y (Array.mem_toList_iff.mp hy)
      simp [DictEntry.refKey, hkey]
    have a' : ¬ es.toList.any (·.refKey) = true := by rw [a]; exact Bool.false_ne_true
    rw [if_neg a']
    exact congrArg some e
theorem ObjM.look {h : Heap} {x dx C : Addr} {mA : Str → Option Value} (I : ObjM h x dx C mA) : ∃ od, PySem.W.InstAt h x (PySem.W.instObj C dx) C (some od) ∧ ∀ name, PySem.W.lookIn name od = some (mA name) :=
  let ⟨od, ho, hl⟩ := lookIn_ns I.ns
  ⟨od, ⟨I.obj, rfl, rfl, ho⟩, hl⟩
section
variable {prog : Program} {w : World} {A : Around} {E : Value → Shared → Prop} {s : Shared} {K : PySem.W.Frag} {x dx C f : Addr} {mA : Str → Option Value} {name : Str} {v : Value}
theorem get_map {expr : Bool} {Q : Value → Shared → Prop} (X : K.In s.heap) (I : ObjM s.heap x dx C mA) (hg : PySem.W.plainGet K C name = true) (hh : PySem.W.hasDictIn K C = true)
    (ha : PySem.W.findIn K (.ref C) name = some none) (hv : mA name = some v) (hv' : PySem.W.handedIn v = true) (h : Q v { s with toks := s.toks + 1 }) :
    wpAny (model prog w) A (getAttr (.ref x) name expr) Q E s := by
  obtain ⟨od, J, hl⟩ := I.look
  exact PySem.W.get_value X J (PySem.W.plainGet_of hg).1 (PySem.W.findObj_own hh ha rfl (by rw [hl, hv])) hv' h
theorem get_meth {pl : Sem Bool} {Q : Value × List Value → Shared → Prop} (X : K.In s.heap) (I : ObjM s.heap x dx C mA) (hg : PySem.W.plainGet K C name = true)
    (hf : PySem.W.findIn K (.ref C) name = some (some (.ref f))) (ht : PySem.W.isFn K (.ref f) = true) (hv : mA name = none) (h : Q (.ref f, [.ref x]) s) :
    wpAny (model prog w) A (getMethod (.ref x) name pl) Q E s := by
  obtain ⟨od, J, hl⟩ := I.look
  exact PySem.W.method_fn X J (PySem.W.plainGet_of hg).1 (PySem.W.plainGet_of hg).2 hf (beq_iff_eq.mp ht) (by show (PySem.W.lookIn name od).map (·.isSome) = some false; rw [hl, hv]; rfl) h
theorem set_map {ns : List Str} {Q : Unit → Shared → Prop} (X : K.In s.heap) (I : ObjM s.heap x dx C mA)
    (hs : PySem.W.findIn K (.ref C) "__setattr__" = some (some (.builtin "object.__setattr__"))) (hp : PySem.W.plainOver K C = true) (ht : PySem.W.takerIn K C name = some none) (hh : PySem.W.hasDictIn K C = true)
    (hw : PySem.Within mA ns) (hsz : ns.length ≤ sizeLine)
    (h : ∀ h', ObjM h' x dx C (fun y => if y = name then some v else mA y) → Heap.SameBut dx s.heap h' → Q () { s with heap := h', toks := s.toks + 2 }) :
    wpAny (model prog w) A (setAttr (.ref x) name v) Q E s := by
  obtain ⟨od, J, hl⟩ := I.look
  refine PySem.W.set_plain X J hs (PySem.W.osa_open (s := { s with toks := s.toks + 1 }) (r := none) X J hp ht fun b => ?_)
  obtain ⟨cd, hc, hd'⟩ := PySem.W.any_some hh
  have hx : s.heap.get? x = some ⟨.ref C, some dx, .plain, #[]⟩ := I.obj
  refine wpAny_bind (wpAny_pure (wpAny_bind (wpAny_bind (wpAny_loadPart hx (wpAny_bind (PySem.W.Looks.here (s := { s with toks := s.toks + 1 }) (PySem.W.looks_clsIn X hc) ?_))))))
  rw [hd']
  refine wpAny_pure (a := some dx) (wpAny_bind (wpAny_pure (wpAny_bind ?_)))
  refine wpAny_nsSet1 (s := { s with toks := s.toks + 1 }) I.ns fun h' hn2 hs2 => ?_
  obtain ⟨oD, esD, epD, hoD, hdD, hcD⟩ := hn2.count (PySem.Within.cons name v hw)
  refine wpAny_bind (wpAny_lookBehind hoD (by rw [hdD]; exact pastItsLine_dict (Nat.le_trans hcD (by rw [List.length_cons]; omega))) ?_)
  exact wpAny_pure (h _ ⟨(hs2.2 _ (Ne.symm I.ne)).trans I.obj, hn2, I.ne⟩ hs2)
theorem make_map {R : Result → Shared → Prop} {vs : List Value} {kw : List (Str × Value)} (X : K.In s.heap) (hm : PySem.W.makesIn K C = true)
    (hi : PySem.W.findIn K (.ref C) "__init__" = some (some (.ref f))) (hf : PySem.W.typeIn K (.ref f) = some (.type "function"))
    (h : codeAny (model prog w) (A.under (.builtin "type.__call__" ⟨.ref C :: vs, kw⟩)) (.call (.ref f) ⟨.ref (s.heap.objs.size + 1) :: vs, kw⟩) (PySem.W.InitBack (s.heap.objs.size + 1) R)
      { s with heap := (s.heap.push PySem.W.emptyDict).push (PySem.W.instObj C s.heap.objs.size) }) :
    codeAny (model prog w) A (.call (.ref C) ⟨vs, kw⟩) R s := by
  obtain ⟨hh, g, d, t, os⟩ := s
  exact PySem.W.make_core (PySem.W.makes_of X hm) (PySem.W.looks_findIn X hi) (fun self => PySem.W.bind_fn X self hf) (.inl rfl) h
end
def putF (f : Str) (v : V) : List (Str × V) → List (Str × V)
  | [] => [(f, v)]
  | (g, x) :: r => if g = f then (g, v) :: r else (g, x) :: putF f v r
theorem lookup_putF (f g : Str) (v : V) : ∀ fs : List (Str × V), (putF f v fs).lookup g = if g = f then some v else fs.lookup g
  | [] => by
    show List.lookup g [(f, v)] = _
    by_cases h : g = f
    · have hb : (g == f) = true := beq_iff_eq.mpr h
      simp only [List.lookup, hb, if_pos h]
    · have hb : (g == f) = false := beq_eq_false_iff_ne.mpr h
      simp only [List.lookup, hb, if_neg h]
  | (k, x) :: r => by
    have ih := lookup_putF f g v r
    rw [show putF f v ((k, x) :: r) = (if k = f then (k, v) :: r else (k, x) :: putF f v r) from rfl]
    by_cases hk : k = f
    · rw [if_pos hk]
      by_cases h : g = k
      · have hb : (g == k) = true := beq_iff_eq.mpr h
        simp only [List.lookup, hb, if_pos (h.trans hk)]
      · have hb : (g == k) = false := beq_eq_false_iff_ne.mpr h
        simp only [List.lookup, hb, if_neg (fun e : g = f => h (e.trans hk.symm))]
    · rw [if_neg hk]
      by_cases h : g = k
      · have hb : (g == k) = true := beq_iff_eq.mpr h
        simp only [List.lookup, hb, if_neg (fun e : g = f => hk (h.symm.trans e))]
      · have hb : (g == k) = false := beq_eq_false_iff_ne.mpr h
        simp only [List.lookup, hb]
        exact ih
theorem keys_putF (f : Str) (v : V) : ∀ fs : List (Str × V), f ∈ (putF f v fs).map (·.1) ∧ ∀ g, g ∈ fs.map (·.1) → g ∈ (putF f v fs).map (·.1)
  | [] => ⟨by simp [putF], fun g h => by simp at h⟩
  | (k, x) :: r => by
    obtain ⟨i1, i2⟩ := keys_putF f v r
    rw [show putF f v ((k, x) :: r) = (if k = f then (k, v) :: r else (k, x) :: putF f v r) from rfl]
    by_cases hk : k = f
    · rw [if_pos hk]
      subst hk
      exact ⟨by simp, fun g h => by simpa using h⟩
    · rw [if_neg hk]
      refine ⟨?_, fun g h => ?_⟩
      · rw [List.map_cons]
        exact List.mem_cons_of_mem _ i1
      · rw [List.map_cons] at h ⊢
        rcases List.mem_cons.mp h with e | e
        · exact List.mem_cons.mpr (.inl e)
        · exact List.mem_cons_of_mem _ (i2 g e)
theorem length_putF (f : Str) (v : V) : ∀ fs : List (Str × V), (putF f v fs).length ≤ fs.length + 1
  | [] => by simp [putF]
  | (k, x) :: r => by
    have ih := length_putF f v r
    rw [show putF f v ((k, x) :: r) = (if k = f then (k, v) :: r else (k, x) :: putF f v r) from rfl]
    by_cases hk : k = f
    · rw [if_pos hk, List.length_cons, List.length_cons]; omega
    · rw [if_neg hk, List.length_cons, List.length_cons]; omega
theorem RelO.some_of {v : V} {o : Option Value} (r : RelO (some v) o) : ∃ u, o = some u ∧ RelV v u := by
  cases o with
  | none => exact (show False from r).elim
  | some u => exact ⟨u, rfl, r⟩
theorem RelO.none_of {o : Option Value} (r : RelO none o) : o = none := by
  cases o with
  | none => rfl
  | some u => exact (show False from r).elim
theorem handed_of {v : V} {u : Value} (r : RelV v u) : PySem.W.handedIn u = true := by
  cases v with
  | non => cases (show u = Value.none from r); rfl
  | bl b => cases (show u = Value.bool b from r); rfl
  | int i => obtain ⟨t, e⟩ := (show ∃ t, u = Value.int i t from r); cases e; rfl
  | str x => obtain ⟨t, e⟩ := (show ∃ t, u = Value.str x t from r); cases e; rfl
  | byt b => obtain ⟨t, e⟩ := (show ∃ t, u = Value.bytes b t from r); cases e; rfl
  | flt b => obtain ⟨t, e⟩ := (show ∃ t, u = Value.float b t from r); cases e; rfl
  | ref a => cases (show u = Value.ref a from r); rfl
  | ty n => cases (show u = Value.type n from r); rfl
section
variable {P : Program} {w : World} {H H' : Hp} {h h' : Heap} {a C dx : Addr} {fs fs' : List (Str × V)}
theorem ins_get (hok : HOk P w H h) (e : H a = some (.ins C dx fs)) : ∃ mA, ObjM h a dx C mA ∧ (∀ f, RelO (fs.lookup f) (mA f)) ∧ PySem.Within mA (fs.map (·.1)) ∧ fs.length ≤ 1000 ∧ H dx = some (.own a) := by
  obtain ⟨d, z, ne, ob, mA, n, r, q⟩ := (show ObjOk P w H h a (.ins C dx fs) from hok a _ e)
  exact ⟨mA, ⟨ob, n, ne⟩, r, q, z, d⟩
end
structure Cls (K : PySem.W.Frag) (C : Addr) : Prop where
  pg : PySem.W.plainGet K C Str.empty = true
  hd : PySem.W.hasDictIn K C = true
  po : PySem.W.plainOver K C = true
  sa : PySem.W.findIn K (.ref C) "__setattr__" = some (some (.builtin "object.__setattr__"))
theorem Cls.get {K : PySem.W.Frag} {C : Addr} (c : Cls K C) (f : Str) : PySem.W.plainGet K C f = true := c.pg
def NoAttr (K : PySem.W.Frag) (C : Addr) (f : Str) : Prop := PySem.W.findIn K (.ref C) f = some none
theorem NoAttr.taker {K : PySem.W.Frag} {C : Addr} {f : Str} (n : NoAttr K C f) : PySem.W.takerIn K C f = some none := by
  unfold PySem.W.takerIn
  rw [show PySem.W.findIn K (.ref C) f = some none from n]
  rfl
structure Meth (K : PySem.W.Frag) (C : Addr) (m : Str) (f : Addr) : Prop where
  at_ : PySem.W.findIn K (.ref C) m = some (some (.ref f))
  fn : PySem.W.isFn K (.ref f) = true
  kp : PySem.W.keepIn K (.ref f) = true
section
variable {X : Cx} {pins : List (Addr × Obj)} {σ : St} {H : Hp} {s : Shared} {a C dx : Addr} {fs : List (Str × V)} {f : Str} {v : V} {A : Around} {E : Value → Shared → Prop}
theorem getattr_ok {b : Bool} {Q : Value → Shared → Prop} (I : Inv X pins σ H s) (e : H a = some (.ins C dx fs)) (c : Cls X.K C) (n : NoAttr X.K C f) (l : fs.lookup f = some v)
    (h : ∀ u s', Inv X pins σ H s' → RelV v u → Q u s') : wpAny (model X.prog X.w) A (getAttr (.ref a) f b) Q E s := by
  obtain ⟨mA, O, r, _, _, _⟩ := ins_get I.hok e
  obtain ⟨u, hu, ru⟩ := RelO.some_of (v := v) (o := mA f) (by rw [← l]; exact r f)
  exact get_map I.kIn O (c.get f) c.hd n hu (handed_of ru) (h u _ (I.tok _) ru)
theorem getmeth_ok {m : Str} {g : Addr} {pl : Sem Bool} {Q : Value × List Value → Shared → Prop} (I : Inv X pins σ H s) (e : H a = some (.ins C dx fs)) (c : Cls X.K C) (k : Meth X.K C m g) (l : fs.lookup m = none)
    (h : Q (.ref g, [.ref a]) s) : wpAny (model X.prog X.w) A (getMethod (.ref a) m pl) Q E s := by
  obtain ⟨mA, O, r, _, _, _⟩ := ins_get I.hok e
  have hn : mA m = none := RelO.none_of (by rw [← l]; exact r m)
  exact get_meth I.kIn O (c.get m) k.at_ k.fn hn h
theorem setattr_ok {y : V} {u : Value} {Q : Unit → Shared → Prop} (I : Inv X pins σ H s) (e : H a = some (.ins C dx fs)) (c : Cls X.K C) (n : NoAttr X.K C f) (hl : fs.length < 1000) (ry : RelV y u)
    (h : ∀ s', Inv X pins σ (upd H a (.ins C dx (putF f y fs))) s' → Q () s') : wpAny (model X.prog X.w) A (setAttr (.ref a) f u) Q E s := by
  obtain ⟨mA, O, r, wi, _, ho⟩ := ins_get I.hok e
  have hz : (fs.map (·.1)).length ≤ sizeLine := by rw [List.length_map, sizeLine_eq]; omega
  refine set_map I.kIn O c.sa c.po n.taker c.hd wi hz fun h' O' sb => h _ ?_
  have hd : ∃ o, h'.get? dx = some o := let ⟨o, _, _, e', _⟩ := O'.ns; ⟨o, e'⟩
  refine I.write (x := a) (e := dx) (by rw [e]; exact True.intro) (.inr ho) (fun b q hb z => (sb.2 b hb).trans z) hd ?_
  refine ⟨by rw [upd_ne O.ne]; exact ho, ?_, O.ne, O'.obj, _, O'.ns, fun g => ?_, fun g hg => ?_⟩
  · have := length_putF f y fs; omega
  · show RelO ((putF f y fs).lookup g) (if g = f then some u else mA g)
    rw [lookup_putF]
    by_cases q : g = f
    · rw [if_pos q, if_pos q]; exact ry
    · rw [if_neg q, if_neg q]; exact r g
  · by_cases q : g = f
    · rw [q]; exact (keys_putF f y fs).1
    · refine (keys_putF f y fs).2 g (wi g fun z => hg ?_)
      show (if g = f then some u else mA g) = none
      rw [if_neg q]; exact z
theorem Inv.made (I : Inv X pins σ H s) : Inv X pins σ (upd (upd H s.heap.objs.size (.own (s.heap.objs.size + 1))) (s.heap.objs.size + 1) (.ins C s.heap.objs.size []))
    { s with heap := (s.heap.push PySem.W.emptyDict).push (PySem.W.instObj C s.heap.objs.size) } := by
  have e1 : (s.heap.push PySem.W.emptyDict).get? s.heap.objs.size = some PySem.W.emptyDict := Heap.get?_push_size s.heap rfl
  have e2 : ((s.heap.push PySem.W.emptyDict).push (PySem.W.instObj C s.heap.objs.size)).get? (s.heap.objs.size + 1) = some (PySem.W.instObj C s.heap.objs.size) := by
    have := Heap.get?_push_size (s.heap.push PySem.W.emptyDict) (o := PySem.W.instObj C s.heap.objs.size) rfl
    rwa [Heap.size_push] at this
  have e3 : (s.heap.push PySem.W.emptyDict).Ns s.heap.objs.size (fun _ => none) := ⟨PySem.W.emptyDict, #[], _, e1, rfl, (fun e he => absurd he (by simp)), fun _ => rfl⟩
  have I1 := I.laid (a := s.heap.objs.size) (o := .own (s.heap.objs.size + 1)) (h' := s.heap.push PySem.W.emptyDict) (t' := s.toks) (fun b u q => Heap.get?_push_of_some _ q) (Nat.le_refl _) ⟨_, e1⟩
  refine I1.laid (a := s.heap.objs.size + 1) (o := .ins C s.heap.objs.size []) (t' := s.toks) (fun b u q => Heap.get?_push_of_some _ q) (Nat.le_of_eq (Heap.size_push _ _)) ?_
  have ne : s.heap.objs.size ≠ s.heap.objs.size + 1 := Nat.ne_of_lt (Nat.lt_succ_self _)
  refine ⟨by rw [upd_ne ne, upd_same], Nat.zero_le _, ne, e2, fun _ => none, (Heap.Ns1.of_empty e3).at fun o q => Heap.get?_push_of_some _ q, fun _ => True.intro, fun y hy => absurd rfl hy⟩
theorem attr_of {prog : Program} {w : World} {env : Env} {e : Expr} {f : Str} {pos : Pos} {s : Shared} {Q : Value → Shared → Prop} (hb : attributeBase e f env (eval e env) = eval e env)
    (h : wpAny (model prog w) A (eval e env) (fun o s₁ => wpAny (model prog w) A (getAttr o f true) Q E s₁) E s) : wpAny (model prog w) A (eval (.Attribute e f pos) env) Q E s :=
  Attribute_any_ h (by rw [arm_eval_Attribute, hb])
end
def tFld (K : PySem.W.Frag) (ta : TE) (f : Str) : TE := fun σ H Q => ta σ H fun x H1 => ∃ a C dx fs v, x = .ref a ∧ H1 a = some (.ins C dx fs) ∧ Cls K C ∧ NoAttr K C f ∧ fs.lookup f = some v ∧ Q v H1
def sFld (K : PySem.W.Frag) (ta tv : TE) (f : Str) : TS := fun D σ H => tv σ H fun y H1 => ta σ H1 fun x H2 => ∃ a C dx fs, x = .ref a ∧ H2 a = some (.ins C dx fs) ∧ Cls K C ∧ NoAttr K C f ∧ fs.length < 1000 ∧
  D.nx σ (upd H2 a (.ins C dx (putF f y fs)))
section
variable {X : Cx} {o e value : Expr} {f : Str} {pos pos' tpos : Pos} {ta tv : TE}
theorem pe_fld (he : PE X e ta) (hb : attributeBase e f X.env (eval e X.env) = eval e X.env) : PE X (.Attribute e f pos) (tFld X.K ta f) := by
  intro pins s σ H Q I h
  refine attr_of hb (thn (he pins s σ H _ I h) fun u s1 ⟨x, H1, I1, rx, a, C, dx, fs, v, ex, ea, c, n, l, q⟩ => ?_)
  subst ex
  obtain rfl : u = Value.ref a := rx
  exact getattr_ok I1 ea c n l fun u' s2 I2 ru => ⟨v, H1, I2, ru, q⟩
theorem ps_fld (ha : PE X o ta) (hv : PE X value tv) (hs : swapsWith value (some (.Attribute o f pos')) pos.line X.env = pure false) : PS X (.Assign [.Attribute o f pos'] value pos) (sFld X.K ta tv f) := by
  intro pins s σ H D I h
  refine plainObj_wpAny_Assign_Attribute (thn (hv pins s σ H _ I h) fun u s1 ⟨y, H1, I1, ry, q⟩ => thn (ha pins s1 σ H1 _ I1 q) fun ov s2 ⟨x, H2, I2, rx, a, C, dx, fs, ex, ea, c, n, l, q2⟩ => ?_) hs
  subst ex
  obtain rfl : ov = Value.ref a := rx
  exact setattr_ok I2 ea c n l ry fun s3 I3 => ⟨σ, _, I3, q2⟩
end
section
variable {X : Cx} {pins : List (Addr × Obj)} {σ : St} {H : Hp} {s : Shared} {A : Around} {E : Value → Shared → Prop} {Q : Value → Shared → Prop} {c : Value} {b : Bool}
inductive TyOf (K : PySem.W.Frag) (H : Hp) : V → Value → Prop where
  | non : TyOf K H .non (.type "NoneType")
  | bl (x : Bool) : TyOf K H (.bl x) (.type "bool")
  | int (i : Int) : TyOf K H (.int i) (.type "int")
  | str (x : Str) : TyOf K H (.str x) (.type "str")
  | flt (x : UInt64) : TyOf K H (.flt x) (.type "float")
  | lst {a : Addr} {xs : List V} (e : H a = some (.lst xs)) : TyOf K H (.ref a) (.type "list")
  | frz {a : Addr} {o : Obj} {xs : List V} (e : H a = some (.frz o (.lst xs))) : TyOf K H (.ref a) (.type "list")
  | tup {a : Addr} {xs : List V} (e : H a = some (.tup xs)) : TyOf K H (.ref a) (.type "tuple")
  | dK {a : Addr} {kvs : List (Key × V)} (e : H a = some (.dK kvs)) : TyOf K H (.ref a) (.type "dict")
  | dT {a : Addr} {kvs : List (List Key × V)} (e : H a = some (.dT kvs)) : TyOf K H (.ref a) (.type "dict")
  | ins {a C dx : Addr} {fs : List (Str × V)} (e : H a = some (.ins C dx fs)) (cl : Cls K C) (ha : PySem.W.findIn K (.ref C) "__class__" = some (some (.builtin "object.__class__")))
      (hn : PySem.W.specialIn K (.builtin "object.__class__") "__get__" = some (some (.builtin "getset_descriptor.__get__"))) (htk : PySem.W.takesIn K (.builtin "object.__class__") = some true)
      (hm : PySem.W.mroIn K C (.type "object") = some true) : TyOf K H (.ref a) (.ref C)
theorem isinst_ok {x : V} {u t : Value} (I : Inv X pins σ H s) (rx : RelV x u) (ty : TyOf X.K H x t) (e : PySem.W.kitOne X.K t c = some b) (h : ∀ tk, Q (.bool b) { s with toks := tk }) :
    wpAny (model X.prog X.w) A (call (.builtin "isinstance") [u, c]) Q E s := by
  cases ty with
  | non => cases (show u = Value.none from rx); exact PySem.W.kia_one PySem.W.kitx_none I.kIn True.intro e (fun z => nomatch z) h
  | bl y => cases (show u = Value.bool y from rx); exact PySem.W.kia_one PySem.W.kitx_bool I.kIn True.intro e (fun z => nomatch z) h
  | int i => obtain ⟨t, q⟩ := (show ∃ t, u = Value.int i t from rx); cases q; exact PySem.W.kia_one PySem.W.kitx_int I.kIn True.intro e (fun z => nomatch z) h
  | str y => obtain ⟨t, q⟩ := (show ∃ t, u = Value.str y t from rx); cases q; exact PySem.W.kia_one PySem.W.kitx_str I.kIn True.intro e (fun z => nomatch z) h
  | flt y => obtain ⟨t, q⟩ := (show ∃ t, u = Value.float y t from rx); cases q; exact PySem.W.kia_one PySem.W.kitx_float I.kIn True.intro e (fun z => nomatch z) h
  | @lst a xs ea =>
    cases (show u = Value.ref a from rx)
    obtain ⟨_, _, n, _, h1⟩ := (show ObjOk X.prog X.w H s.heap a (.lst xs) from I.hok a _ ea)
    exact PySem.W.kia_one PySem.W.kitx_list I.kIn ⟨_, h1, rfl⟩ e (fun z => nomatch z) h
  | @frz a ob xs ea =>
    cases (show u = Value.ref a from rx)
    obtain ⟨_, _, _, n, _, h1⟩ := (show ObjOk X.prog X.w H s.heap a (.frz ob (.lst xs)) from I.hok a _ ea)
    exact PySem.W.kia_one PySem.W.kitx_list I.kIn ⟨_, h1, rfl⟩ e (fun z => nomatch z) h
  | @tup a xs ea =>
    cases (show u = Value.ref a from rx)
    obtain ⟨_, _, _, p⟩ := (show ObjOk X.prog X.w H s.heap a (.tup xs) from I.hok a _ ea)
    obtain ⟨o, h1, h2, _⟩ := p
    exact PySem.W.kia_one PySem.W.kitx_tuple I.kIn ⟨o, h1, h2⟩ e (fun z => nomatch z) h
  | @dK a kvs ea =>
    cases (show u = Value.ref a from rx)
    obtain ⟨_, _, vs, _, p⟩ := (show ObjOk X.prog X.w H s.heap a (.dK kvs) from I.hok a _ ea)
    obtain ⟨o, es, ep, h1, h2, _⟩ := p
    exact PySem.W.kia_one PySem.W.kitx_dict I.kIn ⟨o, h1, h2.1⟩ e (fun z => nomatch z) h
  | @dT a kvs ea =>
    cases (show u = Value.ref a from rx)
    obtain ⟨_, _, xs, _, o, es, ep, h1, h2, _⟩ := (show ObjOk X.prog X.w H s.heap a (.dT kvs) from I.hok a _ ea)
    exact PySem.W.kia_one PySem.W.kitx_dict I.kIn ⟨o, h1, h2.1⟩ e (fun z => nomatch z) h
  | @ins a C dx fs ea cl ha hn htk hm =>
    cases (show u = Value.ref a from rx)
    obtain ⟨mA, O, _⟩ := ins_get I.hok ea
    obtain ⟨od, J, _⟩ := O.look
    exact PySem.W.kia_one (PySem.W.kitx_own (cl.get _) cl.hd ha hn htk hm) I.kIn J e (fun z => nomatch z) h
end
end L2
namespace L2
open PySem PySem.Spec PyProof.Rows
structure Room (k : Nat) (A : Around) : Prop where
  hd : A.handled = none
  dp : A.depth + 3 * k + 5 < recursionLimit
  un : A.units + 16 * k + 200 < cLine
theorem Room.mono {j k : Nat} {A : Around} (r : Room k A) (h : j ≤ k) : Room j A := ⟨r.hd, by have := r.dp; omega, by have := r.un; omega⟩
theorem Room.deeper {k : Nat} {A : Around} (r : Room (k + 1) A) (env : Env) : Room k (A.deeper env) :=
  ⟨r.hd, by have := r.dp; show A.depth + 1 + 3 * k + 5 < _; omega, by have := r.un; show A.units + 3 + 16 * k + 200 < _; omega⟩
theorem make_depth {A : Around} {C : Addr} {us : List Value} {kw : List (Str × Value)} : (A.under (.builtin "type.__call__" ⟨.ref C :: us, kw⟩)).depth = A.depth + 1 := by
  first | rfl | simp [Around.under, Code.weight, Code.isCreation, Code.isGuard, Code.isCaller, Code.frames, Code.isFrame, guardIds]
theorem make_units {A : Around} {C : Addr} {us : List Value} {kw : List (Str × Value)} : (A.under (.builtin "type.__call__" ⟨.ref C :: us, kw⟩)).units = A.units + 1 := by
  first | rfl | simp [Around.under, Code.cUnits, Code.frames, Code.isFrame]
theorem Room.make {k : Nat} {A : Around} (r : Room (k + 1) A) (C : Addr) (us : List Value) (kw : List (Str × Value)) : Room k (A.under (.builtin "type.__call__" ⟨.ref C :: us, kw⟩)) :=
  ⟨r.hd, by have := r.dp; rw [make_depth]; omega, by have := r.un; rw [make_units]; omega⟩
theorem Room.depth {k : Nat} {A : Around} (r : Room k A) : A.depth < recursionLimit := by have := r.dp; omega
theorem Room.units {k : Nat} {A : Around} (r : Room k A) : A.units + 64 < cLine := by have := r.un; omega
def tNil : TA := fun _ H Q => Q [] H
def tCons (ta : TE) (tr : TA) : TA := fun σ H Q => ta σ H fun x H1 => tr σ H1 fun xs H2 => Q (x :: xs) H2
section
variable {X : Cx} {e : Expr} {es : List Expr} {te : TE} {t : TA} {pos : Pos}
theorem pa_nil : PA X [] tNil := fun _ _ _ _ H Q I h => Calls.spliced_nil ⟨[], H, I, .nil, h⟩
theorem pa_cons (ha : PE X e te) (hr : PA X es t) (hs : starEach (e :: es) X.env = (false, eval e X.env) :: starEach es X.env := by rfl) : PA X (e :: es) (tCons te t) := by
  intro pos pins s σ H Q I h
  rw [hs]
  show wpAny _ _ (spliced ((false, eval e X.env) :: backTo pos (starEach es X.env))) _ _ s
  refine Calls.spliced_cons (thn (ha pins s σ H _ I h) fun u s1 ⟨x, H1, I1, r1, q1⟩ => ?_)
  exact thn (hr pos pins s1 σ H1 _ I1 q1) fun us s2 ⟨xs, H2, I2, r2, q2⟩ => ⟨x :: xs, H2, I2, .cons r1 r2, q2⟩
def tTup (t : TA) : TE := fun σ H Q => t σ H fun xs H1 => xs.length ≤ sizeLine ∧ ∀ p, H1 p = none → Q (.ref p) (upd H1 p (.tup xs))
def tLst (t : TA) : TE := fun σ H Q => t σ H fun xs H1 => xs.length ≤ sizeLine ∧ ∀ p, H1 p = none → Q (.ref p) (upd H1 p (.lst xs))
theorem pe_tup {x1} (h : PA X es t) : PE X (.Tuple es x1 pos) (tTup t) := by
  intro pins s σ H Q I hq
  refine wpAny_Tuple_spliced (thn (h pos pins s σ H _ I hq) fun us s1 ⟨xs, H1, I1, r, z, q⟩ => ⟨by rw [← r.length]; exact z, ?_⟩)
  have hf : H1 s1.heap.objs.size = none := I1.hok.fresh (Nat.le_refl _)
  refine ⟨.ref s1.heap.objs.size, upd H1 s1.heap.objs.size (.tup xs), I1.laid (t' := s1.toks) (fun b u e => Heap.get?_push_of_some _ e) (Nat.le_refl _) ?_, rfl, q _ hf⟩
  exact ⟨z, us, r, ⟨_, Heap.get?_push_size _ rfl, rfl, _, rfl⟩⟩
theorem pe_lst (h : PA X es t) : PE X (.List es pos) (tLst t) := by
  intro pins s σ H Q I hq
  refine wpAny_List_spliced (thn (h pos pins s σ H _ I hq) fun us s1 ⟨xs, H1, I1, r, z, q⟩ => ⟨by rw [← r.length]; exact z, ?_⟩)
  have hf : H1 s1.heap.objs.size = none := I1.hok.fresh (Nat.le_refl _)
  refine ⟨.ref s1.heap.objs.size, upd H1 s1.heap.objs.size (.lst xs), I1.laid (t' := s1.toks) (fun b u e => Heap.get?_push_of_some _ e) (Nat.le_refl _) ?_, rfl, q _ hf⟩
  exact ⟨z, us, 0, r, Heap.get?_push_size _ rfl⟩
end
abbrev Sp := List V → Hp → VK → XK → Prop
abbrev CXT := List Env → Hp → Shared → XK → Value → Shared → Prop
structure Env0 (P : Program) (w : World) (K : PySem.W.Frag) (mg : Str → Option Value) (base : Heap) (A : Around) (outer : List Env) (s : Shared) (H : Hp) : Prop where
  frames : A.frames = some outer
  mod : Mod K mg base
  bs : ∀ b o, base.get? b = some o → s.heap.get? b = some o ∧ H b = none
  bsz : base.objs.size ≤ s.heap.objs.size
  funs : s.heap.FunFrames base outer
  frf : ∀ b ∈ frs outer, H b = none
  hok : HOk P w H s.heap
  bare : AllBare s.gens
def CE (outer : List Env) (P : Program) (w : World) (H : Hp) (s : Shared) (Q : VK) (u : Value) (s' : Shared) : Prop :=
  ∃ v H', s'.os = s.os ∧ AllBare s'.gens ∧ Un (frs outer) [] H H' s.heap s'.heap ∧ HOk P w H' s'.heap ∧ RelV v u ∧ Q v H'
def CR (CX : CXT) (outer : List Env) (P : Program) (w : World) (H : Hp) (s : Shared) (Q : VK) (E : XK) (r : Result) (s' : Shared) : Prop :=
  match r with
  | .ok (.ret u) => CE outer P w H s Q u s'
  | .ok _ => False
  | .error e => CX outer H s E e s'
structure FnOk (P : Program) (w : World) (K : PySem.W.Frag) (mg : Str → Option Value) (base : Heap) (CX : CXT) (k : Nat) (f : Addr) (fd : FuncData) (ps : List Str) (sp : Sp) : Prop where
  len : ∀ vs H Q E, sp vs H Q E → vs.length = ps.length
  run : ∀ (A : Around) (outer : List Env) (s : Shared) (H : Hp) (args : Args) (us : List Value) (vs : List V) (Q : VK) (E : XK), Room k A → Env0 P w K mg base A outer s H → BindsTo s fd args (ps.zip us) → Vals vs us → sp vs H Q E →
    codeAny (model P w) A (.call (.ref f) args) (CR CX outer P w H s Q E) s
theorem Env0.make {P : Program} {w : World} {K : PySem.W.Frag} {mg : Str → Option Value} {base : Heap} {A : Around} {outer : List Env} {s : Shared} {H : Hp} (e : Env0 P w K mg base A outer s H) (C : Addr) (us : List Value) (kw : List (Str × Value)) :
    Env0 P w K mg base (A.under (.builtin "type.__call__" ⟨.ref C :: us, kw⟩)) outer s H := ⟨by first | exact e.frames | (simpa [Around.under, Code.envs, Code.isFrame, pushEnvs] using e.frames), e.mod, e.bs, e.bsz, e.funs, e.frf, e.hok, e.bare⟩
section
variable {X : Cx} {pins : List (Addr × Obj)} {σ : St} {H : Hp} {s s' : Shared}
theorem Inv.env0 (I : Inv X pins σ H s) : Env0 X.prog X.w X.K X.mg X.base X.A X.stack s H :=
  ⟨I.ok.frames, I.ok.mod, I.bs, Nat.le_trans I.ok.bsz I.sz, I.stack, I.stkFree, I.hok, I.bare⟩
theorem Inv.after {Q : VK} {u : Value} (I : Inv X pins σ H s) (h : CE X.stack X.prog X.w H s Q u s') : EP X pins σ Q u s' := by
  obtain ⟨v, H', os, bare, un, hok, r, q⟩ := h
  obtain ⟨hh, g, d, t, os'⟩ := s'
  obtain rfl : os' = s.os := os
  exact ⟨v, H', I.call (h' := hh) (g' := g) (d' := d) (t' := t) (ch := []) un hok bare (fun b z => absurd z (by simp)), r, q⟩
end
def tCall (sp : Sp) (dvs : List V) (E : XK) (t : TA) : TE := fun σ H Q => t σ H fun vs H1 => sp (vs ++ dvs) H1 Q E
def tMeth (C : Addr) (m : Str) (sp : Sp) (dvs : List V) (E : XK) (ta : TE) (t : TA) : TE := fun σ H Q => ta σ H fun x H1 => ∃ a dx fs, x = .ref a ∧ H1 a = some (.ins C dx fs) ∧ fs.lookup m = none ∧
  t σ H1 fun vs H2 => sp (x :: (vs ++ dvs)) H2 Q E
def tMake (C : Addr) (sp : Sp) (dvs : List V) (E : XK) (t : TA) : TE := fun σ H Q => t σ H fun vs H1 => ∀ x dx, H1 x = none → H1 dx = none → dx ≠ x →
  sp (.ref x :: (vs ++ dvs)) (upd (upd H1 dx (.own x)) x (.ins C dx [])) (fun v H2 => v = .non ∧ Q (.ref x) H2) E
def Binds (K : PySem.W.Frag) (fd : FuncData) (ps : List Str) (ds : List Value) : Prop :=
  ∀ (s : Shared) (us : List Value), K.In s.heap → (us ++ ds).length = ps.length → BindsTo s fd ⟨us, []⟩ (ps.zip (us ++ ds))
theorem Binds.all {K : PySem.W.Frag} {fd : FuncData} {ps : List Str} (h : ∀ us : List Value, us.length = ps.length → bindArgs fd ⟨us, []⟩ = pure (ps.zip us)) : Binds K fd ps [] := fun s us _ hl => by
  rw [List.append_nil] at hl ⊢
  exact .of_eq (h us hl)
def Passes (CX : CXT) (X : Cx) (E : XK) : Prop := ∀ (pins : List (Addr × Obj)) (σ : St) (H : Hp) (s : Shared) (e : Value) (s' : Shared), Inv X pins σ H s → CX X.stack H s E e s' → X.xe e s'
section
variable {X : Cx} {CX : CXT} {k : Nat} {f C : Addr} {fd : FuncData} {ps : List Str} {sp : Sp} {dvs : List V} {ds : List Value} {E : XK} {x m : Str} {p pos apos : Pos} {e o : Expr} {es : List Expr} {ta : TE} {t : TA}
theorem run_fn {pins : List (Addr × Obj)} {σ : St} {H : Hp} {s : Shared} {Q : VK} {us : List Value} {vs : List V} (F : FnOk X.prog X.w X.K X.mg X.base CX k f fd ps sp) (hr : Room k X.A) (hb : Binds X.K fd ps ds) (hd : Vals dvs ds) (hx : Passes CX X E)
    (I : Inv X pins σ H s) (r : Vals vs us) (h : sp (vs ++ dvs) H Q E) : wpAny (model X.prog X.w) X.A (call (.ref f) us) (EP X pins σ Q) X.xe s := by
  have r2 : Vals (vs ++ dvs) (us ++ ds) := r.append hd
  have hl : (us ++ ds).length = ps.length := by rw [← r2.length]; exact F.len _ _ _ _ h
  refine wpAny_call (codeAny_mono (F.run X.A X.stack s H ⟨us, []⟩ (us ++ ds) (vs ++ dvs) Q E hr I.env0 (hb s us I.kIn hl) r2 h) fun r s' hq => ?_)
  cases r with
  | error e => exact hx pins σ H s e s' I hq
  | ok fl =>
    cases fl with
    | ret u => exact I.after hq
    | next => exact False.elim hq
    | brk => exact False.elim hq
    | cont => exact False.elim hq
theorem pe_call (F : FnOk X.prog X.w X.K X.mg X.base CX k f fd ps sp) (hr : Room k X.A) (hg : Gl X x) (hm : X.mg x = some (.ref f)) (hk : PySem.W.keepIn X.K (.ref f) = true) (hb : Binds X.K fd ps ds) (hd : Vals dvs ds) (hx : Passes CX X E)
    (ha : PA X (e :: es) t) (hdb : (x == ("__debug__" : Str)) = false := by decide) (he : starEach (e :: es) X.env = (false, eval e X.env) :: starEach es X.env := by rfl) (hpl : (backTo pos (starEach es X.env)).any (·.1) = false := by rfl) :
    PE X (.Call (.Name x p) (e :: es) [] pos) (tCall sp dvs E t) := by
  intro pins s σ H Q I h
  refine wpAny_Call_Name_kw (ld_glob I hg hm ?_ hdb)
  refine PySem.W.callWith_K (h₀ := X.base) I.ok.mod.kin hk (thn (ha pos pins s σ H _ I h) fun us s1 ⟨vs, H1, I1, r, q⟩ => ⟨I1.kIn, ?_⟩) he hpl
  exact run_fn F hr hb hd hx I1 r q
theorem pe_meth0 {pl : Sem Bool} (he : PE X o ta) (c : Cls X.K C) (hm : Meth X.K C m f) (F : FnOk X.prog X.w X.K X.mg X.base CX k f fd ps sp) (hr : Room k X.A) (hb : Binds X.K fd ps ds) (hd : Vals dvs ds) (hx : Passes CX X E)
    (ht : eval (.Call (.Attribute o m apos) [] [] pos) X.env = (do
      let ov ← eval o X.env
      standAt apos.atName
      let (f, first) ← holding [ov] (getMethod ov m pl)
      callWith pos f first (backTo pos (starEach [] X.env)) (backToKw pos (keywordEach [] X.env))) := by rfl) :
    PE X (.Call (.Attribute o m apos) [] [] pos) (tMeth C m sp dvs E ta tNil) := by
  intro pins s σ H Q I h
  refine PySem.W.methodCall_KW (pl := pl) (thn (he pins s σ H _ I h) fun u s1 ⟨x, H1, I1, rx, a, dx, fs, ex, ea, l, q⟩ => ?_) ht
  subst ex
  obtain rfl : u = Value.ref a := rx
  refine getmeth_ok I1 ea c hm l ?_
  exact PySem.W.callWith_K0 (first := [.ref a]) I1.kIn hm.kp (run_fn (us := [.ref a]) (vs := [.ref a]) F hr hb hd hx I1 (.cons rfl .nil) q)
structure Mk (K : PySem.W.Frag) (C f : Addr) : Prop where
  makes : PySem.W.makesIn K C = true
  init : PySem.W.findIn K (.ref C) "__init__" = some (some (.ref f))
  fn : PySem.W.isFn K (.ref f) = true
  kp : PySem.W.keepIn K (.ref C) = true
theorem run_make {pins : List (Addr × Obj)} {σ : St} {H : Hp} {s : Shared} {Q : VK} {us : List Value} {vs : List V} (M : Mk X.K C f) (F : FnOk X.prog X.w X.K X.mg X.base CX k f fd ps sp) (hr : Room (k + 1) X.A) (hb : Binds X.K fd ps ds) (hd : Vals dvs ds)
    (hx : Passes CX X E) (I : Inv X pins σ H s) (r : Vals vs us)
    (h : ∀ x dx, H x = none → H dx = none → dx ≠ x → sp (.ref x :: (vs ++ dvs)) (upd (upd H dx (.own x)) x (.ins C dx [])) (fun v H2 => v = .non ∧ Q (.ref x) H2) E) :
    wpAny (model X.prog X.w) X.A (call (.ref C) us) (EP X pins σ Q) X.xe s := by
  have hq := h (s.heap.objs.size + 1) s.heap.objs.size (I.hok.fresh (Nat.le_succ _)) (I.hok.fresh (Nat.le_refl _)) (Nat.ne_of_lt (Nat.lt_succ_self _))
  have I2 := Inv.made (C := C) I
  have r2 : Vals (V.ref (s.heap.objs.size + 1) :: (vs ++ dvs)) (Value.ref (s.heap.objs.size + 1) :: (us ++ ds)) := .cons rfl (r.append hd)
  have hl : (Value.ref (s.heap.objs.size + 1) :: us ++ ds).length = ps.length := by
    have e := r2.length
    rw [F.len _ _ _ _ hq] at e
    exact e.symm
  refine wpAny_call (make_map (f := f) I.kIn M.makes M.init (beq_iff_eq.mp M.fn) (codeAny_mono (F.run _ X.stack _ _ ⟨Value.ref (s.heap.objs.size + 1) :: us, []⟩ (Value.ref (s.heap.objs.size + 1) :: (us ++ ds)) _ _ E (hr.make C us [])
    (I2.env0.make C us []) (hb _ (Value.ref (s.heap.objs.size + 1) :: us) I2.kIn hl) r2 hq) fun r s' hq' => ?_))
  cases r with
  | error e => exact hx pins σ _ _ e s' I2 hq'
  | ok fl =>
    cases fl with
    | ret u =>
      obtain ⟨v, H', I3, rv, ev, q3⟩ := I2.after hq'
      subst ev
      exact ⟨rv, ⟨V.ref (s.heap.objs.size + 1), H', I3, rfl, q3⟩⟩
    | next => exact False.elim hq'
    | brk => exact False.elim hq'
    | cont => exact False.elim hq'
theorem pe_make (M : Mk X.K C f) (F : FnOk X.prog X.w X.K X.mg X.base CX k f fd ps sp) (hr : Room (k + 1) X.A) (hg : Gl X x) (hm : X.mg x = some (.ref C)) (hb : Binds X.K fd ps ds) (hd : Vals dvs ds) (hx : Passes CX X E)
    (ha : PA X (e :: es) t) (hdb : (x == ("__debug__" : Str)) = false := by decide) (he : starEach (e :: es) X.env = (false, eval e X.env) :: starEach es X.env := by rfl) (hpl : (backTo pos (starEach es X.env)).any (·.1) = false := by rfl) :
    PE X (.Call (.Name x p) (e :: es) [] pos) (tMake C sp dvs E t) := by
  intro pins s σ H Q I h
  refine wpAny_Call_Name_kw (ld_glob I hg hm ?_ hdb)
  refine PySem.W.callWith_K (h₀ := X.base) I.ok.mod.kin M.kp (thn (ha pos pins s σ H _ I h) fun us s1 ⟨vs, H1, I1, r, q⟩ => ⟨I1.kIn, ?_⟩) he hpl
  exact run_make M F hr hb hd hx I1 r q
end
section
variable {X : Cx} {CX : CXT} {k : Nat} {f C : Addr} {fd : FuncData} {ps ks : List Str} {sp : Sp} {E : XK} {x m : Str} {p pos apos kpos : Pos} {e o : Expr} {es : List Expr} {kws : List Keyword} {te ta : TE} {t tk : TA} {nm : Option Str}
variable {g : List Value → List Value → List Value} {gV : List V → List V → List V}
end
structure FnScope (N P : List Str) (sc : Scope) : Prop where
  kind : sc.kind = .function
  co : sc.isCoroutine = false
  gen : sc.isGenerator = false
  nd : N.Nodup
  pre : N.take P.length = P
  par : ∀ x ∈ P, sc.names.lookup x = some .local ∨ sc.names.lookup x = some .cell
  nofree : ∀ y ∈ sc.names, y.2 ≠ .free
theorem bindL_out {kindOf : Str → Option NameKind} {x : Str} : ∀ {binds : List (Str × Value)} {m : Str → Option Value}, (∀ v, (x, v) ∉ binds) → bindL kindOf binds m x = m x
  | [], _, _ => rfl
  | (n, v) :: r, m, h => by
    unfold bindL
    rw [bindL_out fun w hw => h w (List.mem_cons_of_mem _ hw)]
    split
    · have : x ≠ n := by rintro rfl; exact h v List.mem_cons_self
      simp [this]
    · rfl
theorem bindC_out {kindOf : Str → Option NameKind} {x : Str} : ∀ {binds : List (Str × Value)} {m : Str → Option Value}, (∀ v, (x, v) ∉ binds) → bindC kindOf binds m x = m x
  | [], _, _ => rfl
  | (n, v) :: r, m, h => by
    unfold bindC
    rw [bindC_out fun w hw => h w (List.mem_cons_of_mem _ hw)]
    split
    · rfl
    · have : x ≠ n := by rintro rfl; exact h v List.mem_cons_self
      simp [this]
theorem bindL_get {kindOf : Str → Option NameKind} {x : Str} {v : Value} : ∀ {P : List Str} {vs : List Value} {i : Nat} {m : Str → Option Value}, P.Nodup → P[i]? = some x → vs[i]? = some v → kindOf x = some .local →
    bindL kindOf (P.zip vs) m x = some v
  | [], _, _, _, _, h, _, _ => by simp at h
  | _ :: _, [], _, _, _, _, h, _ => by simp at h
  | p :: P, w :: vs, 0, m, nd, h1, h2, hk => by
    simp at h1 h2; subst h1; subst h2
    show bindL kindOf ((p, w) :: P.zip vs) m p = _
    unfold bindL
    rw [bindL_out fun v hv => (List.nodup_cons.mp nd).1 (List.of_mem_zip hv).1, if_pos hk]
    simp
  | p :: P, w :: vs, i + 1, m, nd, h1, h2, hk => by
    show bindL kindOf ((p, w) :: P.zip vs) m x = _
    unfold bindL
    exact bindL_get (i := i) (List.nodup_cons.mp nd).2 (by simpa using h1) (by simpa using h2) hk
theorem bindC_get {kindOf : Str → Option NameKind} {x : Str} {v : Value} : ∀ {P : List Str} {vs : List Value} {i : Nat} {m : Str → Option Value}, P.Nodup → P[i]? = some x → vs[i]? = some v → kindOf x ≠ some .local →
    bindC kindOf (P.zip vs) m x = some v
  | [], _, _, _, _, h, _, _ => by simp at h
  | _ :: _, [], _, _, _, _, h, _ => by simp at h
  | p :: P, w :: vs, 0, m, nd, h1, h2, hk => by
    simp at h1 h2; subst h1; subst h2
    show bindC kindOf ((p, w) :: P.zip vs) m p = _
    unfold bindC
    rw [bindC_out fun v hv => (List.nodup_cons.mp nd).1 (List.of_mem_zip hv).1, if_neg hk]
    simp
  | p :: P, w :: vs, i + 1, m, nd, h1, h2, hk => by
    show bindC kindOf ((p, w) :: P.zip vs) m x = _
    unfold bindC
    exact bindC_get (i := i) (List.nodup_cons.mp nd).2 (by simpa using h1) (by simpa using h2) hk
def start (N : List Str) (vs : List V) : St := vs.map some ++ List.replicate (N.length - vs.length) none
def cxOf (CX : CXT) (P : Program) (w : World) (K : PySem.W.Frag) (mg : Str → Option Value) (base : Heap) (N : List Str) (qual : Str) (scope : Scope) (f : Addr) (cd : Value) (A : Around) (outer : List Env) (s : Shared) (H : Hp) (E : XK) : Cx where
  prog := P
  w := w
  K := K
  mg := mg
  base := base
  A := A.deeper (envOfC qual scope s.heap.objs.size f cd)
  N := N
  s₀ := s
  H₀ := H
  env := envOfC qual scope s.heap.objs.size f cd
  outer := outer
  stack := envOfC qual scope s.heap.objs.size f cd :: outer
  ex := []
  calm := true
  fn := fun _ => true
  pn := []
  xe := fun e s' => wpAny (model P w) (A.deeper (envOfC qual scope s.heap.objs.size f cd)) (leaving (envOfC qual scope s.heap.objs.size f cd) e) (fun _ s'' => CX outer H s E e s'') (fun e' s'' => CX outer H s E e' s'') s'
theorem cell_has {sc : Scope} {n : Nat} {x : Str} (h : sc.names.lookup x = some .cell) : ∃ c, (cellsFrom n sc.names []).lookup x = some c := by
  have q := PySem.W.cellsFrom_some sc.names n [] (.inl h)
  exact Option.isSome_iff_exists.mp q
theorem inv_start {CX : CXT} {P : Program} {w : World} {K : PySem.W.Frag} {mg : Str → Option Value} {base : Heap} {N ps : List Str} {qual : Str} {scope : Scope} {f : Addr} {cd : Value} {A : Around} {outer : List Env} {s s1 : Shared} {H : Hp} {E : XK} {us : List Value} {vs : List V}
    (S : FnScope N ps scope) (hd : A.handled = none) (e0 : Env0 P w K mg base A outer s H) (hl : vs.length = ps.length) (r : Vals vs us)
    (x : InCallC s s.heap.objs.size (bindL (envOfC qual scope s.heap.objs.size f cd).kindOf (ps.zip us) fun _ => none) (cellsFrom (s.heap.objs.size + 1) scope.names []) (bindC (envOfC qual scope s.heap.objs.size f cd).kindOf (ps.zip us) fun _ => none) s1) :
    Inv (cxOf CX P w K mg base N qual scope f cd A outer s H E) [] (start N vs) H s1 := by
  have hpl : ps.length ≤ N.length := by have := congrArg List.length S.pre; rw [List.length_take] at this; omega
  obtain ⟨h1, tk, rfl, hk⟩ := x.done
  have noA : ∀ b : Addr, b ∉ (cxOf CX P w K mg base N qual scope f cd A outer s H E).ex := fun b z => absurd (show b ∈ ([] : List Addr) from z) (by simp)
  refine ⟨⟨e0.mod, S.kind, rfl, rfl, Nat.le_refl _, fun y z c h1 h2 => ?_, fun y hy => ?_, fun y c _ h => ?_, fun _ => hd, Around.frames_deeper e0.frames, .inr ⟨rfl, rfl⟩, fun b z => absurd z (noA b), e0.bs, e0.bsz, fun b _ _ => noA b, fun b z => absurd z (noA b), e0.funs, e0.frf⟩,
    rfl, e0.bare, Un.kept hk, ⟨_, x.toInCall.ns, fun i y v h1 h2 h3 => ?_⟩, fun y c h => ⟨_, x.cell y c h⟩, e0.hok.fresh (Nat.le_refl _), fun y c h => ?_, fun p hp => absurd (show p ∈ ([] : List (Addr × Obj)) from hp) (by simp), e0.hok.kept hk, ?_⟩
  · exact name_of_addr x.apart (PySem.mem_of_lookup h1) (PySem.mem_of_lookup h2)
  · have hy : scope.names.lookup y = some .cell ∨ scope.names.lookup y = some .free := hy
    rcases hy with hy | hy
    · exact cell_has hy
    · exact absurd rfl (S.nofree _ (PySem.mem_of_lookup hy))
  · exact Nat.le_of_lt (x.above y c (PySem.mem_of_lookup h))
  · have hi : i < vs.length := by
      unfold start at h2
      by_cases hi : i < vs.length
      · exact hi
      · rw [List.getElem?_append_right (by simpa using hi)] at h2
        rw [List.getElem?_replicate] at h2
        split at h2 <;> cases h2
    have ha : vs[i]? = some v := by
      unfold start at h2
      rw [List.getElem?_append_left (by simpa using hi), List.getElem?_map] at h2
      cases e : vs[i]? with
      | none => rw [e] at h2; cases h2
      | some a => rw [e] at h2; cases h2; rfl
    obtain ⟨u, hu, rv⟩ := r.get ha
    have hp : ps[i]? = some y := by
      rw [← S.pre, List.getElem?_take_of_lt (by omega)]; exact h1
    have ndP : ps.Nodup := by rw [← S.pre]; exact S.nd.sublist (List.take_sublist _ _)
    refine ⟨u, rv, ?_⟩
    rcases S.par y (List.mem_of_getElem? hp) with k | k
    · exact .inl ⟨k, bindL_get ndP hp hu k⟩
    · obtain ⟨c, e⟩ := cell_has (n := s.heap.objs.size + 1) k
      refine .inr ⟨.inl k, c, e, ?_⟩
      have q := x.cell y c e
      rw [bindC_get ndP hp hu (by show scope.names.lookup y ≠ _; rw [k]; decide)] at q
      exact q
  · exact e0.hok.fresh (Nat.le_of_lt (x.above y c (PySem.mem_of_lookup h)))
  · unfold start
    show _ = N.length
    rw [List.length_append, List.length_map, List.length_replicate]
    omega
theorem fn_of {CX : CXT} {P : Program} {w : World} {K : PySem.W.Frag} {mg : Str → Option Value} {base : Heap} {k : Nat} {f : Addr} {name qual : Str} {params : Arguments} {body : List Stmt} {scope : Scope} {dV kV doc pm cdv ct oc : Value} {an od : Option Addr}
    {osl : Array (Option Value)} {N ps : List Str} {sp : Sp} (lk : K.lookup f = some ⟨oc, od, .func (PySem.W.fnOf name qual params body scope dV kV doc pm an cdv ct), osl⟩) (hcd : PySem.W.codeIn K cdv qual = true) (S : FnScope N ps scope)
    (len : ∀ vs H Q E, sp vs H Q E → vs.length = ps.length)
    (hbody : ∀ (A : Around) (outer : List Env) (s : Shared) (H : Hp) (vs : List V) (Q : VK) (E : XK), Room k (A.deeper (envOfC qual scope s.heap.objs.size f cdv)) → sp vs H Q E →
      ∃ t, PSs (cxOf CX P w K mg base N qual scope f cdv A outer s H E) body t ∧ t { nx := fun _ H' => Q .non H', rt := Q } (start N vs) H) :
    FnOk P w K mg base CX (k + 1) f (PySem.W.fnOf name qual params body scope dV kV doc pm an cdv ct) ps sp := by
  refine ⟨len, fun A outer s H args us vs Q E hr e0 hb r hsp => ?_⟩
  have hl := len _ _ _ _ hsp
  have KX : K.In s.heap := e0.mod.kin.keeps fun b o e => (e0.bs b o e).1
  have lim : s.heap.NoLimit := e0.mod.nolimit.keeps fun b o e => (e0.bs b o e).1
  have hkind : ∀ y ∈ ps.zip us, scope.names.lookup y.1 = some .local ∨ (scope.names.lookup y.1 = some .cell ∧ ((cellsFrom (s.heap.objs.size + 1) scope.names []).lookup y.1).isSome = true) := fun ⟨n, v⟩ hy => by
    rcases S.par n (List.of_mem_zip hy).1 with q | q
    · exact .inl q
    · exact .inr ⟨q, PySem.W.cellsFrom_some _ _ _ (.inl q)⟩
  refine codeAny_call_function hr.depth (KX _ _ lk) rfl S.co S.gen rfl (PySem.W.codeRec_of KX hcd) (hb _ _ _ _ ?_)
  refine wpAny_newFunctionEnv_cells S.kind hkind fun env he s1 x => ?_
  subst he
  refine ⟨lim.keeps x.toInCall.keep, codeAny_func ?_⟩
  obtain ⟨t, ht, hq⟩ := hbody A outer s H vs Q E (hr.deeper _) hsp
  have I : Inv (cxOf CX P w K mg base N qual scope f cdv A outer s H E) [] (start N vs) H s1 := inv_start S hr.hd e0 hl r x
  refine wpAny_mono (ht [] s1 (start N vs) H _ I hq) (fun fl s' hs => ?_) fun e s' hs => hs
  have fin : ∀ {σ' : St} {H' : Hp} {v : V} {u : Value}, Inv (cxOf CX P w K mg base N qual scope f cdv A outer s H E) [] σ' H' s' → RelV v u → Q v H' → CE outer P w H s Q u s' :=
    fun {σ' H' v u} J rv q => ⟨v, H', J.os, J.bare, J.base, J.hok, rv, q⟩
  cases fl with
  | ret u =>
    obtain ⟨v, σ', H', J, rv, q⟩ := hs
    exact fin J rv q
  | next =>
    obtain ⟨σ', H', J, q⟩ := hs
    exact fin (v := V.non) (u := Value.none) J rfl q
  | brk =>
    obtain ⟨_, _, _, q⟩ := hs
    exact False.elim q
  | cont =>
    obtain ⟨_, _, _, q⟩ := hs
    exact False.elim q
end L2
namespace L2
open PySem PySem.Spec PyProof.Rows
section
variable {X : Cx} {x : Str} {p pos : Pos} {e : Expr} {es : List Expr} {t : TA} {id T : String} {r : List V → Hp → VK → Prop}
def tCB (r : List V → Hp → VK → Prop) (t : TA) : TE := fun σ H Q => t σ H fun vs H1 => r vs H1 Q
theorem pe_callB (hc : CallR X (.builtin id) r) (hg : Gl X x) (hm : X.mg x = none) (hv : bootBuiltins x = some (.builtin id)) (ha : PA X (e :: es) t) (hn : x ≠ "__name__" := by decide) (hdb : (x == ("__debug__" : Str)) = false := by decide)
    (he : starEach (e :: es) X.env = (false, eval e X.env) :: starEach es X.env := by rfl) (hpl : (backTo pos (starEach es X.env)).any (·.1) = false := by rfl) : PE X (.Call (.Name x p) (e :: es) [] pos) (tCB r t) := by
  intro pins s σ H Q I h
  refine wpAny_Call_Name_kw (ld_blt I hg hm hv ?_ hn hdb)
  exact PyProof.Rows.callWith_builtin1 (thn (ha pos pins s σ H _ I h) fun us s1 ⟨vs, H1, I1, r1, q1⟩ => hc pins s1 σ H1 vs us Q I1 r1 q1) he hpl
theorem pe_callTy (hc : CallR X (.type T) r) (hg : Gl X x) (hm : X.mg x = none) (hv : bootBuiltins x = some (.type T)) (ha : PA X (e :: es) t) (hn : x ≠ "__name__" := by decide) (hdb : (x == ("__debug__" : Str)) = false := by decide)
    (he : starEach (e :: es) X.env = (false, eval e X.env) :: starEach es X.env := by rfl) (hpl : (backTo pos (starEach es X.env)).any (·.1) = false := by rfl) : PE X (.Call (.Name x p) (e :: es) [] pos) (tCB r t) := by
  intro pins s σ H Q I h
  refine wpAny_Call_Name_kw (ld_blt I hg hm hv ?_ hn hdb)
  exact PyProof.Rows.callWith_type1 (thn (ha pos pins s σ H _ I h) fun us s1 ⟨vs, H1, I1, r1, q1⟩ => hc pins s1 σ H1 vs us Q I1 r1 q1) he hpl
end
end L2
namespace HT
open PySem PyProof.Rows
section
open PySem.SeqAt
open PySem.AutoSeq1 (wpAny_loadPart')
open PySem.MeetsSeq PySem.MeetsSeq2 PySem.MeetsSeq3
end
section
variable {prog : Program} {w : World} {A : Around} {E : Value → Shared → Prop} {s : Shared}
def sIx (n d : Nat) : Option Int → Nat
  | none => d
  | some v => if v < 0 then (v + (n : Int)).toNat else min v.toNat n
theorem sIx_le (n d : Nat) (hd : d ≤ n) (o : Option Int) : sIx n d o ≤ n := by
  cases o with
  | none => exact hd
  | some v =>
    show (if v < 0 then (v + (n : Int)).toNat else min v.toNat n) ≤ n
    by_cases hv : v < 0
    · rw [if_pos hv]; omega
    · rw [if_neg hv]; exact Nat.min_le_right _ _
theorem clip_eq (v : Int) (n d : Nat) : (if v < 0 then max (v + (n : Int)) 0 else min v (n : Int)) = ((sIx n d (some v) : Nat) : Int) := by
  show (if v < 0 then max (v + (n : Int)) 0 else min v (n : Int)) = (((if v < 0 then (v + (n : Int)).toNat else min v.toNat n) : Nat) : Int)
  by_cases hv : v < 0
  · simp only [if_pos hv]; omega
  · simp only [if_neg hv]; omega
theorem adjust_gen (lo hi : Option Int) (n : Nat) : Builtin.Slice.sliceAdjust lo hi 1 (n : Int) = (((sIx n 0 lo : Nat) : Int), ((sIx n n hi : Nat) : Int)) := by
  have h1 : ¬ ((1 : Int) < 0) := by omega
  unfold Builtin.Slice.sliceAdjust
  simp only [h1, if_false]
  refine Prod.ext ?_ ?_
  · cases lo with
    | none => rfl
    | some v => exact clip_eq v n 0
  · cases hi with
    | none => rfl
    | some v => exact clip_eq v n n
theorem places_gen (i j : Nat) : Builtin.Slice.slicePlaces (i : Int) (j : Int) 1 = j - i := by
  unfold Builtin.Slice.slicePlaces
  have h1 : (1 : Int) > 0 := by omega
  simp only [h1, if_true, Int.ediv_one]
  split <;> omega
theorem slicePart_ {v : Value} {o : Option Int} {Q : Option Int → Shared → Prop} (p : IsPart v o) (h : Q o s) : wpAny (model prog w) A (Builtin.Slice.slicePartIndex v) Q E s := by
  cases p with
  | none => exact slicePart_none h
  | int i t => exact slicePart_int h
theorem sliceApplied_gen {sl : Addr} {vl vu : Value} {lo hi : Option Int} {n : Nat} {Q : Int × Int × Nat → Shared → Prop} (hs : s.heap.IsSliceOf sl vl vu .none) (pl : IsPart vl lo) (pu : IsPart vu hi)
    (h : Q (((sIx n 0 lo : Nat) : Int), 1, sIx n n hi - sIx n 0 lo) s) : wpAny (model prog w) A (Builtin.Slice.sliceApplied (.ref sl) (pure (n : Int))) Q E s := by
  obtain ⟨os, hos, hcs, hds⟩ := id hs
  unfold Builtin.Slice.sliceApplied Builtin.Slice.sliceFields
  refine wpAny_bind (wpAny_bind (wpAny_field hos hds (x := vl) rfl (wpAny_bind (wpAny_field hos hds (x := vu) rfl (wpAny_bind (wpAny_field hos hds (x := .none) rfl (wpAny_pure ?_)))))))
  refine wpAny_bind (slicePart_none ?_)
  show wpAny _ _ (if ((1 : Int) == 0) = true then _ else _) _ _ s
  rw [if_neg (by decide)]
  refine wpAny_bind (slicePart_ pl (wpAny_bind (slicePart_ pu (wpAny_bind (wpAny_pure ?_)))))
  show wpAny _ _ (match Builtin.Slice.sliceAdjust lo hi 1 (n : Int) with | (lo, hi) => pure (lo, (1 : Int), Builtin.Slice.slicePlaces lo hi 1)) _ _ s
  rw [adjust_gen lo hi n]
  show wpAny _ _ (pure (((sIx n 0 lo : Nat) : Int), (1 : Int), Builtin.Slice.slicePlaces ((sIx n 0 lo : Nat) : Int) ((sIx n n hi : Nat) : Int) 1)) _ _ s
  rw [places_gen]
  exact wpAny_pure h
theorem pick_gen (xs : Array Value) (i k : Nat) : ((List.range k).filterMap fun (m : Nat) => xs[((i : Int) + (m : Int) * 1).toNat]?).toArray = ((xs.toList.drop i).take k).toArray := by
  have e : (fun (m : Nat) => xs[((i : Int) + (m : Int) * 1).toNat]?) = fun m => xs[i + m]? := by
    funext m
    have : ((i : Int) + (m : Int) * 1).toNat = i + m := by omega
    rw [this]
  rw [e]
  have := pick_run xs i k
  rw [List.filterMap_map] at this
  have e2 : ((fun x => xs[x]?) ∘ fun x => i + x) = fun m => xs[i + m]? := rfl
  rw [e2] at this
  rw [this]
theorem getItem_tuple_cut {t sl : Addr} {items : Array Value} {vl vu : Value} {lo hi : Option Int} {Q : Value → Shared → Prop} (ht : IsTup s.heap t items) (hs : s.heap.IsSliceOf sl vl vu .none) (pl : IsPart vl lo) (pu : IsPart vu hi)
    (hw : ¬ (sIx items.size 0 lo = 0 ∧ sIx items.size items.size hi = items.size))
    (h : Q (.ref s.heap.objs.size) { s with heap := s.heap.push { cls := .type "tuple", data := .seq ((items.toList.drop (sIx items.size 0 lo)).take (sIx items.size items.size hi - sIx items.size 0 lo)).toArray } })
    (hsz : items.size ≤ sizeLine) : wpAny (model prog w) A (getItem (.ref t) (.ref sl)) Q E s := by
  have htake : sizeOk (.seq ((items.toList.drop (sIx items.size 0 lo)).take (sIx items.size items.size hi - sIx items.size 0 lo)).toArray) := by
    show ((items.toList.drop (sIx items.size 0 lo)).take (sIx items.size items.size hi - sIx items.size 0 lo)).toArray.size ≤ sizeLine
    rw [List.size_toArray, List.length_take, List.length_drop, Array.length_toList]
    omega
  have hj : sIx items.size items.size hi ≤ items.size := sIx_le _ _ (Nat.le_refl _) hi
  obtain ⟨os, hos, hcs, hds⟩ := id hs
  have hTs : s.TypeIs (.ref sl) "slice" := ⟨os, hos, hcs⟩
  unfold getItem
  try with_reducible refine wpAny_holding ?_
  first | refine wpAny_bind (wpAny_pure ?_) | skip
  refine wpAny_bind (wpAny_sequenceKey ht.typeIs (by decide) ?_)
  refine wpAny_bind (wpAny_callSpecial?_slot (name := Str.ofString "__getitem__") ht.typeIs PyProof.Rows.slot_tuple_getitem
    (wpAny_call_entry PyProof.Rows.slot_tuple_getitem ht.typeIs entry_tuple_getitem ?_ (args_tuple_getitem _ _)))
  show wpAny _ _ (Builtin.Tuple.tupleItemsOf (.ref t) >>= _) _ _ s
  refine wpAny_bind (tupleItemsOf_ ht ?_)
  refine wpAny_bind (wpAny_typeOf hTs ?_)
  rw [if_pos (by decide)]
  refine wpAny_bind (sliceApplied_gen hs pl pu ?_)
  have hno : ¬ ((((sIx items.size 0 lo : Nat) : Int) == 0 && (1 : Int) == 1 && (sIx items.size items.size hi - sIx items.size 0 lo) == items.size) = true) := by
    intro q
    rw [Bool.and_eq_true, Bool.and_eq_true] at q
    have q1 : ((sIx items.size 0 lo : Nat) : Int) = 0 := eq_of_beq q.1.1
    have q2 : sIx items.size items.size hi - sIx items.size 0 lo = items.size := eq_of_beq q.2
    exact hw ⟨by omega, by omega⟩
  show wpAny _ _ (if (((sIx items.size 0 lo : Nat) : Int) == 0 && (1 : Int) == 1 && (sIx items.size items.size hi - sIx items.size 0 lo) == items.size) = true then _ else _) _ _ s
  rw [if_neg hno, pick_gen]
  first
    | exact wpAny_bind (m := Builtin.Tuple.tupleExact _) (wpAny_newObj_type (wpAny_pure ⟨_, rfl, wpAny_pure h⟩) htake)
    | exact wpAny_bind (m := Builtin.Tuple.tupleExact _) (wpAny_newObj_type (wpAny_bind (wpAny_pure (wpAny_pure ⟨_, rfl, wpAny_pure h⟩))) htake)
    | exact wpAny_bind (wpAny_bind (m := Builtin.Tuple.tupleExact _) (wpAny_newObj_type (wpAny_pure (wpAny_pure ⟨_, rfl, wpAny_pure h⟩)) htake))
    | exact wpAny_bind (wpAny_bind (m := Builtin.Tuple.tupleExact _) (wpAny_newObj_type (wpAny_pure ⟨_, rfl, wpAny_pure h⟩) htake))
end
end HT
namespace L2
open PySem PySem.Spec PyProof.Rows
abbrev TO := St → Hp → (Option Int → Hp → Prop) → Prop
def PO (X : Cx) (e : Option Expr) (t : TO) : Prop :=
  ∀ (pins : List (Addr × Obj)) (s : Shared) (σ : St) (H : Hp) (Q : Option Int → Hp → Prop), Inv X pins σ H s → t σ H Q →
    wpAny (model X.prog X.w) X.A (evalPart e X.env) (fun u s' => ∃ o H', Inv X pins σ H' s' ∧ IsPart u o ∧ Q o H') X.xe s
def tNoPart : TO := fun _ H Q => Q none H
def tPart (t : TE) : TO := fun σ H Q => t σ H fun x H1 => ∃ i, x = .int i ∧ Q (some i) H1
theorem intsAre_of {ns : List Int} : ∀ {us : List Value}, Vals (ns.map V.int) us → IntsAre us ns := by
  induction ns with
  | nil => intro us r; rw [List.map_nil] at r; cases r; exact .nil
  | cons n ns ih =>
    intro us r
    rw [List.map_cons] at r
    cases r with
    | cons r1 r2 =>
      obtain ⟨t, e⟩ := r1
      subst e
      exact .cons n t (ih r2)
section
variable {X : Cx} {e : Expr} {te : TE} {lo hi : Option Expr} {tl th : TO} {pos p2 : Pos}
theorem po_none : PO X none tNoPart := by
  intro pins s σ H Q I h
  rw [evalPart_none]
  exact wpAny_pure ⟨none, H, I, .none, h⟩
theorem po_some (h : PE X e te) : PO X (some e) (tPart te) := by
  intro pins s σ H Q I hw
  rw [evalPart_some]
  refine thn (h pins s σ H _ I hw) fun u s1 ⟨x, H1, I1, r1, q1⟩ => ?_
  obtain ⟨i, rfl, q⟩ := q1
  obtain ⟨t, rfl⟩ := r1
  exact ⟨some i, H1, I1, .int i t, q⟩
def SlR (X : Cx) (r : V → Option Int → Option Int → Hp → VK → Prop) : Prop :=
  ∀ (pins : List (Addr × Obj)) (s : Shared) (σ : St) (H : Hp) (x : V) (v vl vu : Value) (lo hi : Option Int) (sl : Addr) (Q : VK), Inv X pins σ H s → RelV x v → s.heap.IsSliceOf sl vl vu .none → IsPart vl lo → IsPart vu hi → r x lo hi H Q →
    ∃ T id, typeLookup (.type T) "__getitem__" = pure (some (.builtin id)) ∧ s.TypeIs v T ∧ wpAny (model X.prog X.w) X.A (getItem v (.ref sl)) (EP X pins σ Q) X.xe s
theorem SlR.or {r r' : V → Option Int → Option Int → Hp → VK → Prop} (h : SlR X r) (h' : SlR X r') : SlR X (fun x lo hi H Q => r x lo hi H Q ∨ r' x lo hi H Q) := by
  intro pins s σ H x v vl vu lo hi sl Q I rx hs pl pu q
  rcases q with q | q
  · exact h pins s σ H x v vl vu lo hi sl Q I rx hs pl pu q
  · exact h' pins s σ H x v vl vu lo hi sl Q I rx hs pl pu q
def tSl (r : V → Option Int → Option Int → Hp → VK → Prop) (te : TE) (tl th : TO) : TE := fun σ H Q => te σ H fun x H1 => tl σ H1 fun l H2 => th σ H2 fun u H3 => r x l u H3 Q
theorem pe_slice {r : V → Option Int → Option Int → Hp → VK → Prop} (hr : SlR X r) (he : PE X e te) (hl : PO X lo tl) (hu : PO X hi th) : PE X (.Subscript e (.Slice lo hi none p2) pos) (tSl r te tl th) := by
  intro pins s σ H Q I h
  refine Subscript_ (thn (he pins s σ H _ I h) fun v s1 ⟨x, H1, I1, r1, q1⟩ => ?_)
  refine wpAny_Slice (thn (hl pins s1 σ H1 _ I1 q1) fun vl s2 ⟨l, H2, I2, pl, q2⟩ => thn (hu pins s2 σ H2 _ I2 q2) fun vu s3 ⟨u, H3, I3, pu, q3⟩ => ?_)
  rw [evalPart_none]
  refine wpAny_pure ?_
  have I4 : Inv X pins σ H3 { s3 with heap := s3.heap.push { cls := .type "slice", data := .fields #[vl, vu, .none] } } := I3.kept (t' := s3.toks) fun b ob q => Heap.get?_push_of_some _ q
  obtain ⟨T, id, hT, ht, hg⟩ := hr pins { s3 with heap := s3.heap.push { cls := .type "slice", data := .fields #[vl, vu, .none] } } σ H3 x v vl vu l u s3.heap.objs.size Q I4 r1 (Heap.IsSliceOf.new ..) pl pu q3
  show wpAny (model X.prog X.w) X.A (subscriptTail e (.Slice lo hi none p2) v (.ref s3.heap.objs.size)) (EP X pins σ Q) X.xe { s3 with heap := s3.heap.push { cls := .type "slice", data := .fields #[vl, vu, .none] } }
  exact tail_any (ops := [.ref s3.heap.objs.size, v]) ht hT hg (by with_unfolding_all rfl)
def cutV (xs : List V) (lo hi : Option Int) : List V := (xs.drop (HT.sIx xs.length 0 lo)).take (HT.sIx xs.length xs.length hi - HT.sIx xs.length 0 lo)
theorem cutV_length (xs : List V) (lo hi : Option Int) : (cutV xs lo hi).length ≤ xs.length := by
  unfold cutV
  rw [List.length_take, List.length_drop]
  omega
def rSlT (K : PySem.W.Frag) : V → Option Int → Option Int → Hp → VK → Prop := fun x lo hi H Q => ∃ a xs, x = .ref a ∧ SqT K H a xs ∧
  ¬ (HT.sIx xs.length 0 lo = 0 ∧ HT.sIx xs.length xs.length hi = xs.length) ∧ ∀ p, H p = none → Q (.ref p) (upd H p (.tup (cutV xs lo hi)))
theorem sl_tup : SlR X (rSlT X.K) := by
  intro pins s σ H x v vl vu lo hi sl Q I rx hs pl pu h
  obtain ⟨a, xs, rfl, hx, hw, q⟩ := h
  cases rx
  obtain ⟨its, r, ht, hz⟩ := I.tuple hx
  have hlen : its.toArray.size = xs.length := by rw [List.size_toArray]; exact r.length.symm
  refine ⟨"tuple", _, PyProof.Rows.slot_tuple_getitem.lookup, ht.typeIs, ?_⟩
  refine HT.getItem_tuple_cut ht hs pl pu (by rw [hlen]; exact hw) ?_ (by rw [hlen]; exact hz)
  rw [hlen]
  refine ⟨.ref s.heap.objs.size, _, I.laid (t' := s.toks) (o := .tup (cutV xs lo hi)) (fun b ob q => Heap.get?_push_of_some _ q) (Nat.le_refl _) ?_, rfl, q _ (I.hok.fresh (Nat.le_refl _))⟩
  exact ⟨Nat.le_trans (cutV_length xs lo hi) hz, _, (r.drop (HT.sIx xs.length 0 lo)).take (HT.sIx xs.length xs.length hi - HT.sIx xs.length 0 lo), IsTup.new _ _⟩
end
end L2
namespace L2
open PySem PySem.Spec PyProof.Rows
def ixN (n : Nat) (i : Int) : Option Nat := if 0 ≤ i then (if i < n then some i.toNat else none) else if -(n : Int) ≤ i then some (i + n).toNat else none
def atI {α : Type} (xs : List α) (i : Int) : Option α := (ixN xs.length i).bind fun j => xs[j]?
theorem ixN_seq {n : Nat} {i : Int} {j : Nat} (h : ixN n i = some j) : seqIndex? i n = some j ∧ j < n ∧ -(n : Int) ≤ i ∧ i < n := by
  unfold ixN at h
  by_cases h0 : 0 ≤ i
  · rw [if_pos h0] at h
    by_cases h1 : i < n
    · rw [if_pos h1] at h
      have e : i.toNat = j := Option.some.inj h
      exact ⟨by rw [seqIndex_of h0 h1, e], by omega, by omega, h1⟩
    · rw [if_neg h1] at h; cases h
  · rw [if_neg h0] at h
    by_cases h1 : -(n : Int) ≤ i
    · rw [if_pos h1] at h
      have e : (i + n).toNat = j := Option.some.inj h
      exact ⟨by rw [seqIndex_neg (by omega) h1, e], by omega, h1, by omega⟩
    · rw [if_neg h1] at h; cases h
theorem atI_get {α : Type} {xs : List α} {i : Int} {v : α} (h : atI xs i = some v) : ∃ j, seqIndex? i xs.length = some j ∧ xs[j]? = some v ∧ j < xs.length ∧ -(xs.length : Int) ≤ i ∧ i < xs.length := by
  unfold atI at h
  cases e : ixN xs.length i with
  | none => rw [e] at h; cases h
  | some j =>
    rw [e] at h
    obtain ⟨h1, h2, h3, h4⟩ := ixN_seq e
    exact ⟨j, h1, h, h2, h3, h4⟩
theorem atI_nat {α : Type} {xs : List α} {j : Nat} {v : α} (h : xs[j]? = some v) : atI xs (j : Int) = some v := by
  have hj : j < xs.length := (List.getElem?_eq_some_iff.mp h).1
  have e : ixN xs.length (j : Int) = some j := by
    unfold ixN
    rw [if_pos (by omega), if_pos (by omega)]; simp
  unfold atI; rw [e]; exact h
def PlainIx (b : Expr) : Prop := ∀ o i, subscripted b false o i = operate [o, i] (getItem o i)
def IxR (X : Cx) (r : R2) : Prop :=
  ∀ (value slice : Expr) (pins : List (Addr × Obj)) (s : Shared) (σ : St) (H : Hp) (x y : V) (v u : Value) (Q : VK), Inv X pins σ H s → RelV x v → RelV y u → r x y H Q →
    subscripted slice false v u = operate [v, u] (getItem v u) → wpAny (model X.prog X.w) X.A (subscriptTail value slice v u) (EP X pins σ Q) X.xe s
def MtR (X : Cx) (id : String) (r : V → List V → Hp → VK → Prop) : Prop :=
  ∀ (pins : List (Addr × Obj)) (s : Shared) (σ : St) (H : Hp) (x : V) (xs : List V) (v : Value) (us : List Value) (Q : VK), Inv X pins σ H s → RelV x v → Vals xs us → r x xs H Q →
    wpAny (model X.prog X.w) X.A (call (.builtin id) (v :: us)) (EP X pins σ Q) X.xe s
section
variable {X : Cx} {a b : Expr} {ta tb : TE} {pos : Pos}
theorem IxR.or {r r' : R2} (h : IxR X r) (h' : IxR X r') : IxR X (fun x y H Q => r x y H Q ∨ r' x y H Q) := by
  intro value slice pins s σ H x y v u Q I rx ry q hs
  rcases q with q | q
  · exact h value slice pins s σ H x y v u Q I rx ry q hs
  · exact h' value slice pins s σ H x y v u Q I rx ry q hs
theorem pe_ix {r : R2} (hr : IxR X r) (ha : PE X a ta) (hb : PE X b tb) (hs : PlainIx b) : PE X (.Subscript a b pos) (tOp r ta tb) := by
  intro pins s σ H Q I h
  exact Subscript_ (binT ha hb I h fun v u s2 x y H2 I2 rx ry q => hr a b pins s2 σ H2 x y v u Q I2 rx ry q (hs _ _))
def rIxL (K : PySem.W.Frag) : R2 := fun x y H Q => ∃ p xs i v, x = .ref p ∧ y = .int i ∧ SqL K H p xs ∧ atI xs i = some v ∧ Q v H
def rIxT (K : PySem.W.Frag) : R2 := fun x y H Q => ∃ p xs i v, x = .ref p ∧ y = .int i ∧ SqT K H p xs ∧ atI xs i = some v ∧ Q v H
def rIxS : R2 := fun x y H Q => ∃ z i c, x = .str z ∧ y = .int i ∧ z.length ≤ sizeLine ∧ atI z.cps.toList i = some c ∧ Q (.str ⟨#[c]⟩) H
theorem ix_list : IxR X (rIxL X.K) := by
  intro value slice pins s σ H x y v u Q I rx ry h hs
  obtain ⟨p, xs, i, z, rfl, rfl, hq, he, q⟩ := h
  cases rx
  obtain ⟨t, rfl⟩ := ry
  obtain ⟨its, r, pl, hz⟩ := I.list hq
  obtain ⟨j, h1, h2, h3, h4, h5⟩ := atI_get he
  obtain ⟨w, ew, rw'⟩ := r.get h2
  have hl := r.length
  have hn := line63
  have fin : EP X pins σ Q w s := ⟨z, H, I, rw', q⟩
  by_cases h0 : 0 ≤ i
  · have hj : i.toNat = j := by
      rw [seqIndex_of h0 h5] at h1
      exact Option.some.inj h1
    exact item_listR pl.isList h0 (by omega) (by rw [hj]; simpa using ew) fin hs
  · have hj : (i + (its.toArray.size : Int)).toNat = j := by
      rw [seqIndex_neg (by omega) h4] at h1
      rw [List.size_toArray, ← hl]
      exact Option.some.inj h1
    exact subscriptTail_builtinR (x := w) pl.isList.typeIs slot_list_getitem.lookup
      (wpAny_getItem_list_neg (Q := fun r s' => r = w ∧ EP X pins σ Q r s') pl.isList (by omega) (by rw [List.size_toArray] <;> omega) (by omega) (by rw [hj]; simpa using ew) ⟨rfl, fin⟩) hs
theorem ix_tup : IxR X (rIxT X.K) := by
  intro value slice pins s σ H x y v u Q I rx ry h hs
  obtain ⟨p, xs, i, z, rfl, rfl, hq, he, q⟩ := h
  cases rx
  obtain ⟨t, rfl⟩ := ry
  obtain ⟨its, r, pl, hz⟩ := I.tuple hq
  obtain ⟨j, h1, h2, h3, h4, h5⟩ := atI_get he
  obtain ⟨w, ew, rw'⟩ := r.get h2
  have hl := r.length
  have hn := line63
  have fin : EP X pins σ Q w s := ⟨z, H, I, rw', q⟩
  exact subscriptTail_builtinR (x := w) pl.typeIs slot_tuple_getitem.lookup
    (getItem_tuple (j := j) (Q := fun r s' => r = w ∧ EP X pins σ Q r s') pl (by omega) (by omega) (by rw [List.size_toArray, ← hl]; exact h1) (by simpa using ew) ⟨rfl, fin⟩) hs
theorem ix_str : IxR X rIxS := by
  intro value slice pins s σ H x y v u Q I rx ry h hs
  obtain ⟨z, i, c, rfl, rfl, hz, he, q⟩ := h
  obtain ⟨t, rfl⟩ := rx
  obtain ⟨t', rfl⟩ := ry
  obtain ⟨j, h1, h2, h3, h4, h5⟩ := atI_get he
  have hl : z.cps.toList.length = z.length := by simp [Str.length]
  rw [hl] at h1 h4 h5
  have hn := line63
  exact tail_any (typeIs_str s z t) slot_str_getitem.lookup (getItem_str (c := c) (by
    have e1 : decide (i < -(2 ^ 63 : Int)) = false := decide_eq_false (by omega)
    have e2 : decide (i ≥ 2 ^ 63) = false := decide_eq_false (by omega)
    rw [e1, e2, Bool.or_false]) (by rw [h1]; simpa using h2) ⟨.str ⟨#[c]⟩, H, I.tok _, ⟨_, rfl⟩, q⟩) hs
def rIx (K : PySem.W.Frag) : R2 := fun x y H Q => rIxL K x y H Q ∨ rIxT K x y H Q ∨ rIxS x y H Q
theorem ix_seq : IxR X (rIx X.K) := ix_list.or (ix_tup.or ix_str)
theorem slice_bounds (lo hi : Option Int) (n : Nat) : (sliceBounds lo hi none n).1 = ((HT.sIx n 0 lo : Nat) : Int) ∧ (sliceBounds lo hi none n).2.1 = ((HT.sIx n n hi : Nat) : Int) ∧ (sliceBounds lo hi none n).2.2 = 1 := by
  refine ⟨?_, ?_, rfl⟩
  · cases lo with
    | none => simp [sliceBounds, HT.sIx]
    | some i =>
      simp only [sliceBounds, HT.sIx, Option.getD_none, show (1 : Int) > 0 by decide, if_true]
      by_cases h : i < 0
      · simp only [h, if_true] <;> omega
      · simp only [h, if_false] <;> omega
  · cases hi with
    | none => simp [sliceBounds, HT.sIx]
    | some i =>
      simp only [sliceBounds, HT.sIx, Option.getD_none, show (1 : Int) > 0 by decide, if_true]
      by_cases h : i < 0
      · simp only [h, if_true] <;> omega
      · simp only [h, if_false] <;> omega
theorem slicePick_cut (its : List Value) (lo hi : Option Int) : slicePick its.toArray lo hi none = ((its.drop (HT.sIx its.length 0 lo)).take (HT.sIx its.length its.length hi - HT.sIx its.length 0 lo)).toArray := by
  obtain ⟨h1, h2, h3⟩ := slice_bounds lo hi its.toArray.size
  unfold slicePick
  rw [h1, h2, h3]
  simp only [sliceRange_one, pick_run, List.size_toArray] <;> rfl
def rSlL (K : PySem.W.Frag) : V → Option Int → Option Int → Hp → VK → Prop := fun x lo hi H Q => ∃ a xs, x = .ref a ∧ SqL K H a xs ∧ ∀ p, H p = none → Q (.ref p) (upd H p (.lst (cutV xs lo hi)))
theorem sl_list : SlR X (rSlL X.K) := by
  intro pins s σ H x v vl vu lo hi sl Q I rx hs pl pu h
  obtain ⟨a, xs, rfl, hx, q⟩ := h
  cases rx
  obtain ⟨its, r, ht, hz⟩ := I.list hx
  have hlen := r.length
  refine ⟨"list", _, slot_list_getitem.lookup, ht.isList.typeIs, ?_⟩
  refine wpAny_getItem_list_slice ht.isList hs pl pu .none (by simp) ?_ (by rw [List.size_toArray] <;> omega)
  rw [slicePick_cut, ← hlen]
  refine ⟨.ref s.heap.objs.size, _, I.laid (t' := s.toks) (o := .lst (cutV xs lo hi)) (fun b ob q => Heap.get?_push_of_some _ q) (Nat.le_refl _) ?_, rfl, q _ (I.hok.fresh (Nat.le_refl _))⟩
  exact ⟨Nat.le_trans (cutV_length xs lo hi) hz, _, 0, (r.drop (HT.sIx xs.length 0 lo)).take (HT.sIx xs.length xs.length hi - HT.sIx xs.length 0 lo), Heap.get?_push_size _ rfl⟩
theorem op_notIn_str : OpR X (compareOp .NotIn) (fun x y H Q => ∃ i j, x = .str i ∧ y = .str j ∧ Q (.bl (!(!(Builtin.Str.occurrences j i 0 j.length 1).isEmpty))) H) := by
  intro pins s σ H x y v u Q I rx ry h
  obtain ⟨i, j, rfl, rfl, q⟩ := h
  obtain ⟨t, rfl⟩ := rx
  obtain ⟨t', rfl⟩ := ry
  exact notIn_str ⟨.bl _, H, I, rfl, q⟩
theorem call_len_seq : CallR X (.builtin "len") (fun xs H Q => ∃ p ys, xs = [.ref p] ∧ (SqL X.K H p ys ∨ SqT X.K H p ys) ∧ Q (.int ys.length) H) := by
  intro pins s σ H xs us Q I r h
  obtain ⟨p, ys, rfl, hq, q⟩ := h
  obtain ⟨u, rfl, rx⟩ := vals1 r
  cases rx
  have hn := line63
  rcases hq with hq | hq
  · obtain ⟨its, r', pl, hz⟩ := I.list hq
    have hlen := r'.length
    exact Calls.call_len_list pl.isList (by simp only [List.size_toArray] <;> omega) ⟨.int ys.length, H, I.tok _, ⟨s.toks + 1, by rw [List.size_toArray, hlen]⟩, q⟩
  · obtain ⟨its, r', pl, hz⟩ := I.tuple hq
    have hlen := r'.length
    exact len_tuple pl (by simp only [List.size_toArray] <;> omega) ⟨.int ys.length, H, I.tok _, ⟨s.toks + 1, by rw [List.size_toArray, hlen]⟩, q⟩
theorem call_len_str : CallR X (.builtin "len") (fun xs H Q => ∃ z, xs = [.str z] ∧ z.length ≤ sizeLine ∧ Q (.int z.length) H) := by
  intro pins s σ H xs us Q I r h
  obtain ⟨z, rfl, hz, q⟩ := h
  obtain ⟨u, rfl, t, rfl⟩ := vals1 r
  have hn := line63
  exact len_str (by omega) ⟨.int z.length, H, I.tok _, ⟨_, rfl⟩, q⟩
theorem call_list_of : CallR X (.type "list") (fun xs H Q => ∃ p ys, xs = [.ref p] ∧ (SqL X.K H p ys ∨ SqT X.K H p ys) ∧ ∀ l, H l = none → Q (.ref l) (upd H l (.lst ys))) := by
  intro pins s σ H xs us Q I r h
  obtain ⟨p, ys, rfl, hq, q⟩ := h
  obtain ⟨u, rfl, rx⟩ := vals1 r
  cases rx
  have fin : ∀ (its : List Value), Vals ys its → ys.length ≤ sizeLine → ∀ (h' : Heap) (c' : Nat), (∀ b o', s.heap.get? b = some o' → h'.get? b = some o') →
      h'.get? s.heap.objs.size = some { cls := .type "list", dict := none, data := .seq its.toArray c', slots := #[] } → EP X pins σ Q (.ref s.heap.objs.size) { s with heap := h' } := fun its r' hz h' c' kp e =>
    ⟨.ref s.heap.objs.size, _, I.laid (t' := s.toks) kp (Nat.le_refl _) (show ObjOk X.prog X.w _ h' _ (.lst ys) from ⟨hz, its, c', r', e⟩), rfl, q _ (I.hok.fresh (Nat.le_refl _))⟩
  rcases hq with hq | hq
  · obtain ⟨its, r', pl, hz⟩ := I.list hq
    have hlen := r'.length
    obtain ⟨o, ho, hc, n, hd⟩ := pl.isList
    exact call_list_seq p (.inl rfl) ho hc hd (fun h' c' kp e => fin its r' hz h' c' kp e) (by simp only [List.size_toArray] <;> omega)
  · obtain ⟨its, r', pl, hz⟩ := I.tuple hq
    have hlen := r'.length
    obtain ⟨o, ho, hc, n, hd⟩ := pl
    exact call_list_seq p (.inr rfl) ho hc hd (fun h' c' kp e => fin its r' hz h' c' kp e) (by simp only [List.size_toArray] <;> omega)
theorem call_tuple_of : CallR X (.type "tuple") (fun xs H Q => ∃ p ys, xs = [.ref p] ∧ ((SqL X.K H p ys ∧ ∀ l, H l = none → Q (.ref l) (upd H l (.tup ys))) ∨ (SqT X.K H p ys ∧ Q (.ref p) H))) := by
  intro pins s σ H xs us Q I r h
  obtain ⟨p, ys, rfl, h⟩ := h
  obtain ⟨u, rfl, rx⟩ := vals1 r
  cases rx
  rcases h with ⟨hq, q⟩ | ⟨hq, q⟩
  · obtain ⟨its, r', pl, hz⟩ := I.list hq
    have hlen := r'.length
    refine call_tuple_list pl.isList (fun h' kp => ?_) (by simp only [List.size_toArray] <;> omega)
    have I1 : Inv X pins σ H { s with heap := h' } := I.kept (t' := s.toks) kp
    have I2 : Inv X pins σ (upd H h'.objs.size (.tup ys)) { s with heap := h'.push { cls := .type "tuple", data := .seq its.toArray } } :=
      I1.laid (t' := s.toks) (fun b o e => Heap.get?_push_of_some _ e) (Nat.le_refl _) (show ObjOk X.prog X.w _ _ _ (.tup ys) from ⟨hz, its, r', IsTup.new _ _⟩)
    exact ⟨.ref h'.objs.size, _, I2, rfl, q _ (I1.hok.fresh (Nat.le_refl _))⟩
  · obtain ⟨its, r', pl, hz⟩ := I.tuple hq
    exact call_tuple_same pl ⟨.ref p, H, I, rfl, q⟩
def tyV (K : PySem.W.Frag) (T : String) (x : V) (H : Hp) : Prop := match x with
  | .str _ => T = "str"
  | .int _ => T = "int"
  | .ref p => (T = "list" ∧ ∃ xs, SqL K H p xs) ∨ (T = "tuple" ∧ ∃ o, K.lookup p = some o ∧ o.cls = .type "tuple" ∧ o.dict = none) ∨
      (T = "dict" ∧ ((∃ kvs, H p = some (.dK kvs)) ∨ ∃ kvs, H p = some (.dT kvs))) ∨ (T = "set" ∧ ∃ S n, H p = some (.set S n))
  | _ => False
theorem tyV_is {pins : List (Addr × Obj)} {σ : St} {H : Hp} {s : Shared} {T : String} {x : V} {v : Value} (I : Inv X pins σ H s) (r : RelV x v) (ty : tyV X.K T x H) :
    s.TypeIs v T ∧ ∀ a, v = .ref a → ∃ ob, s.heap.get? a = some ob ∧ ob.dict = none := by
  cases x with
  | str z =>
    obtain ⟨t, rfl⟩ := r
    cases (show T = "str" from ty)
    exact ⟨typeIs_str s z t, fun _ e => nomatch e⟩
  | int i =>
    obtain ⟨t, rfl⟩ := r
    cases (show T = "int" from ty)
    exact ⟨typeIs_int s i t, fun _ e => nomatch e⟩
  | ref p =>
    cases r
    rcases ty with ⟨rfl, xs, hq⟩ | ⟨rfl, o, hk, hc, hd⟩ | ⟨rfl, hk⟩ | ⟨rfl, S, n, hk⟩
    · obtain ⟨its, _, pl, _⟩ := I.list hq
      refine ⟨pl.isList.typeIs, fun a e => ?_⟩
      cases e
      obtain ⟨o, n, e, c, hd, _⟩ := pl
      exact ⟨o, e, hd⟩
    · refine ⟨⟨o, I.kIn p o hk, hc⟩, fun a e => ?_⟩
      cases e
      exact ⟨o, I.kIn _ o hk, hd⟩
    · have z : ∃ o, s.heap.get? p = some o ∧ o.ExactDict := by
        rcases hk with ⟨kvs, hk⟩ | ⟨kvs, hk⟩
        · obtain ⟨_, _, _, _, o, _, _, e, ex, _⟩ := I.hok p _ hk
          exact ⟨o, e, ex⟩
        · obtain ⟨_, _, _, _, o, _, _, e, ex, _⟩ := I.hok p _ hk
          exact ⟨o, e, ex⟩
      obtain ⟨o, e, ex⟩ := z
      refine ⟨⟨o, e, ex.1⟩, fun a e2 => ?_⟩
      cases e2
      exact ⟨o, e, ex.2.1⟩
    · obtain ⟨o, _, _, _, e, ex, _⟩ := I.hok p _ hk
      refine ⟨⟨o, e, ex.1⟩, fun a e2 => ?_⟩
      cases e2
      exact ⟨o, e, ex.2.1⟩
  | _ => exact False.elim ty
def tBM (K : PySem.W.Frag) (T : String) (r : V → List V → Hp → VK → Prop) (to : TE) (t : TA) : TE := fun σ H Q => to σ H fun x H1 => tyV K T x H1 ∧ t σ H1 fun xs H2 => r x xs H2 Q
variable {o e : Expr} {es : List Expr} {to : TE} {t : TA} {name : Str} {apos cpos : Pos} {T id : String} {r : V → List V → Hp → VK → Prop}
theorem pe_bm (pa : PlainAttrs T) (slot : Slot T name id) (hty : typeOf (.builtin id) = pure (.type "method_descriptor")) (hm : MtR X id r) (ho : PE X o to) (ha : PA X (e :: es) t)
    (hbase : attributeBase o name X.env (eval o X.env) = eval o X.env := by rfl)
    (hfew : ((backTo cpos (starEach (e :: es) X.env)).all (fun x => !x.1) && (backToKw cpos (keywordEach [] X.env)).all (fun x => x.1.isSome)
      && decide ((e :: es).length + ([] : List Keyword).length + (if ([] : List Keyword).isEmpty then 0 else 1) < 30)) = true := by rfl)
    (hline : (apos.endLine == cpos.line) = true := by rfl) (hs : starEach (e :: es) X.env = (false, eval e X.env) :: starEach es X.env := by rfl) (hplain : (backTo cpos (starEach es X.env)).any (·.1) = false := by rfl) :
    PE X (.Call (.Attribute o name apos) (e :: es) [] cpos) (tBM X.K T r to t) := by
  intro pins s σ H Q I h
  refine wpAny_Call_method_late hbase hfew hline rfl (thn (ho pins s σ H _ I h) fun v s1 ⟨x, H1, I1, r1, ty, q1⟩ => ?_)
  obtain ⟨h1, h2⟩ := tyV_is I1 r1 ty
  refine ⟨T, id, pa, slot, hty, h1, h2, ?_⟩
  have hA := ha cpos pins s1 σ H1 _ I1 q1
  rw [hs] at hA ⊢
  refine Calls.callWith_builtin (by show (false || (backTo cpos (starEach es X.env)).any (·.1)) = false; rw [hplain] <;> rfl) (Calls.evalArgs_plain ?_)
  exact thn hA fun us s2 ⟨vs, H2, I2, r2, q2⟩ => hm pins s2 σ H2 x vs v us Q I2 r1 r2 q2
end
end L2
namespace L2
open PySem PySem.Spec PyProof.Rows
theorem Vals.rep {xs : List V} {us : List Value} (h : Vals xs us) : ∀ k : Nat, Vals (List.replicate k xs).flatten (List.replicate k us).flatten
  | 0 => .nil
  | k + 1 => by
    rw [List.replicate_succ, List.replicate_succ, List.flatten_cons, List.flatten_cons]
    exact Vals.append h (Vals.rep h k)
theorem foldl_rep (its : List Value) : ∀ (k : Nat) (acc : List Value),
    List.foldl (fun x1 x2 => x1 ++ x2) acc.toArray (List.replicate k its.toArray) = (acc ++ (List.replicate k its).flatten).toArray
  | 0, acc => by simp
  | k + 1, acc => by
    have e : acc.toArray ++ its.toArray = (acc ++ its).toArray := by simp
    have e2 : (acc ++ its) ++ (List.replicate k its).flatten = acc ++ (List.replicate (k + 1) its).flatten := by
      rw [List.replicate_succ, List.flatten_cons, List.append_assoc]
    rw [← e2, ← foldl_rep its k (acc ++ its), ← e, List.replicate_succ, List.foldl_cons]
section
variable {X : Cx} {pins : List (Addr × Obj)} {σ : St} {H : Hp} {s : Shared} {l b : Addr} {xs ys zs : List V}
theorem Inv.lnew {its : List Value} {t' : Nat} (I : Inv X pins σ H s) (hv : Vals ys its) (hz : ys.length ≤ sizeLine) :
    Inv X pins σ (upd H s.heap.objs.size (.lst ys)) { s with heap := s.heap.push { cls := .type "list", data := .seq its.toArray }, toks := t' } :=
  I.laid (fun _ _ q => Heap.get?_push_of_some _ q) (Nat.le_refl _) ⟨hz, its, 0, hv, Heap.get?_push_size _ rfl⟩
theorem Inv.fresh (I : Inv X pins σ H s) : H s.heap.objs.size = none := I.hok.fresh (Nat.le_refl _)
theorem Inv.lstM (I : Inv X pins σ H s) (hH : H l = some (.lst xs)) : xs.length ≤ sizeLine ∧ ∃ (its : List Value) (n : Nat), Vals xs its ∧ xs.length = its.length ∧ s.heap.get? l = some { cls := .type "list", data := .seq its.toArray n } := by
  obtain ⟨z, its, n, r, e⟩ := I.hok l _ hH
  exact ⟨z, its, n, r, r.length, e⟩
theorem notLongL {n : Nat} (h : n ≤ sizeLine) : Builtin.List.listTooLong n = false := by
  unfold Builtin.List.listTooLong
  exact decide_eq_false (by omega)
end
section
variable {X : Cx}
def rCat : R2 := fun x y H Q => ∃ l b xs zs, x = .ref l ∧ y = .ref b ∧ H l = some (.lst xs) ∧ H b = some (.lst zs) ∧ xs.length + zs.length ≤ sizeLine ∧ ∀ p, H p = none → Q (.ref p) (upd H p (.lst (xs ++ zs)))
theorem op_cat : OpR X (binaryOp .Add) rCat := by
  intro pins s σ H x y v u Q I rx ry h
  obtain ⟨l, b, xs, zs, rfl, rfl, hH, hB, hz, q⟩ := h
  cases rx
  cases ry
  obtain ⟨z, its, n, r, hl, e⟩ := I.lstM hH
  obtain ⟨z2, its2, n2, r2, hl2, e2⟩ := I.lstM hB
  refine PySem.P.add_list e e2 ?_ (by rw [List.size_toArray, List.size_toArray]; omega)
  have ea : its.toArray ++ its2.toArray = (its ++ its2).toArray := by simp
  rw [ea]
  exact ⟨.ref _, _, I.lnew (t' := s.toks) (r.append r2) (by rw [List.length_append]; omega), rfl, q _ I.fresh⟩
def rRep : R2 := fun x y H Q => ∃ l k xs, x = .ref l ∧ y = .int k ∧ H l = some (.lst xs) ∧ -(2 ^ 63) ≤ k ∧ k < 2 ^ 63 ∧ xs.length * k.toNat ≤ sizeLine ∧
  ∀ p, H p = none → Q (.ref p) (upd H p (.lst (List.replicate k.toNat xs).flatten))
theorem len_rep {α : Type} (xs : List α) (k : Nat) : (List.replicate k xs).flatten.length = k * xs.length := by
  induction k with
  | zero => simp
  | succ k ih => rw [List.replicate_succ, List.flatten_cons, List.length_append, ih, Nat.succ_mul, Nat.add_comm]
theorem op_rep : OpR X (binaryOp .Mult) rRep := by
  intro pins s σ H x y v u Q I rx ry h
  obtain ⟨l, k, xs, rfl, rfl, hH, h1, h2, hz, q⟩ := h
  cases rx
  obtain ⟨t, rfl⟩ := ry
  obtain ⟨z, its, n, r, hl, e⟩ := I.lstM hH
  have hlen : its.toArray.size * k.toNat ≤ sizeLine := by rw [List.size_toArray, ← hl]; exact hz
  have hcap : ¬ its.toArray.size * k.toNat > (2 ^ 63 - 1) / 8 := by
    have : (sizeLine : Nat) ≤ (2 ^ 63 - 1) / 8 := by decide
    omega
  have hfit : ¬ (!Builtin.List.listFitsIndex k) = true := by
    rw [fitsIndex_both h1 h2]
    exact Bool.false_ne_true
  have hlong : ¬ Builtin.List.listTooLong (its.toArray.size * k.toNat) = true := by
    rw [notLongL hlen]
    exact Bool.false_ne_true
  have hnew : List.foldl (fun x1 x2 => x1 ++ x2) #[] (List.replicate (if its.toArray.isEmpty = true then 0 else k.toNat) its.toArray) = (List.replicate k.toNat its).flatten.toArray := by
    have f0 : ∀ m : Nat, List.foldl (fun x1 x2 => x1 ++ x2) #[] (List.replicate m its.toArray) = (List.replicate m its).flatten.toArray := fun m => by
      have := foldl_rep its m []
      rw [List.nil_append] at this
      exact this
    rw [f0]
    cases its with
    | nil => simp
    | cons a r' => rw [if_neg (by simp)]
  refine wpAny_binaryOp_repeat_ref (T := "list") (U := "int") (by decide) ⟨_, e, rfl⟩ (fun s' => typeIs_int s' k t) noFill_list_mul F.fills_int_mul F.slot_int_rmul repeat_list F.slot_int_index.lookup
    (call_meets F.slot_int_rmul (typeIs_int s k t) F.entry_int_rmul (F.args_int_rmul_2 _ _) (int___rmul___int_list k t l its.toArray n)
      ⟨e, rfl, ⟨_, e, rfl⟩, call_meets F.slot_list_mul ⟨_, e, rfl⟩ F.entry_list_mul (F.args_list_mul_2 _ _) (AutoListH.list___mul___list_int_3 l its.toArray n k t hfit hcap hlong) ⟨e, ?_⟩⟩)
  rw [hnew]
  exact ⟨.ref _, _, I.lnew (t' := s.toks) (r.rep k.toNat) (by rw [len_rep, Nat.mul_comm]; exact hz), rfl, q _ I.fresh⟩
end
section
variable {prog : Program} {w : World} {A : Around} {E : Value → Shared → Prop} {s : Shared}
end
section
variable {X : Cx}
end
end L2
namespace Att
open PySem PySem.W PySem.Calls PyProof.Rows
theorem ints_of_wellAll {P : Params} {h : Heap} : ∀ (ns : List Int) (vs : List Value), WellAll P h vs (ns.map WData.int) → IntsAre vs ns := by
  intro ns
  induction ns with
  | nil =>
    intro vs w
    rw [List.map_nil] at w
    cases w
    exact .nil
  | cons n ns ih =>
    intro vs w
    rw [List.map_cons] at w
    cases w with
    | cons a b =>
      cases a
      exact .cons _ _ (ih _ b)
theorem script_of {l : OpenLaw} {n : Nat} (hn : l.most = some n) {P : Params} {h : Heap} {args : List WData} {vals : List Value}
    (hpre : l.row.toRowW.claim.pre args = true) (hwl : WellAll P h vals args) :
    ∃ a vs ns, vals = [Value.ref a] ∧ args = [WData.list (ns.map WData.int)] ∧ h.get? a = some { cls := .type "list", data := .seq vs.toArray } ∧ IntsAre vs ns ∧ ns.length ≤ n := by
  have hsh : WShape.hasAll [] args [.list .int] = true := (pre_splitW hpre).1
  have hc : l.pre.holds [] { args := args } = true := (pre_splitW hpre).2
  obtain ⟨d, r, rfl, h1, h2⟩ := hasAllW_cons hsh
  obtain rfl := hasAllW_nil h2
  obtain ⟨xs, rfl, h3⟩ := hasW_list h1
  obtain ⟨ns, rfl⟩ := items_int h3
  have hlen : ns.length ≤ n := by
    unfold OpenLaw.pre at hc
    have h4 : (WTm.not (.lt (.lit (.int (n : Int))) (.len (.arg 0)))).holds [] { args := [.list (ns.map .int)] } = true := by
      have h4 := (holds_andW hc).1
      rw [hn] at h4
      exact h4
    have h5 := condW_of h4 (w_not (w_lt w_lit (w_len_list (w_arg rfl))))
    rw [List.length_map] at h5
    refine Nat.le_of_not_lt fun q => ?_
    have q' : (n : Int) < ((ns.length : Nat) : Int) := by omega
    first
      | (rw [decide_eq_true q'] at h5; exact absurd h5 (by decide))
      | (simp at h5; omega)
  cases hwl with
  | cons w1 w2 =>
    cases w2
    cases w1 with
    | list ho hall => exact ⟨_, _, ns, rfl, rfl, ho, ints_of_wellAll ns _ hall, hlen⟩
theorem post_true (l : OpenLaw) (args : List WData) : l.row.toRowW.claim.post args (.bool true) args = true :=
  postW_of (r := l.row.toRowW) (X := (true == true))
    (show WShape.has [] (.bool true) .bool = true by first | rfl | decide | simp [WShape.has, WShape.arms, WShape.armsAll])
    (show (WTm.eq .res (.lit (.bool true))).value [] { args := args, res := some (.bool true), after := args } = some (.bool (true == true)) from w_eq_bool (w_res rfl) w_lit) rfl
theorem attach_call {l : OpenLaw} {n : Nat} {q : Program} {loose : List Str} {XP : (Str → Option Value) → Heap → Prop} {YP : World → Heap → Prop} {d : DefRec}
    (hn : l.most = some n) (hdf : d.params.defaults = [])
    (call : ∀ (w : World) (s₀ s₁ : Shared) (mg mb : Str → Option Value) (fa : Addr) (o : Obj) (pm cd doc : Value) (a : Addr) (vs : List Value) (ns : List Int),
      Ground q loose [] XP w s₀ mg mb s₁.heap → YP w s₁.heap →
      s₁.heap.get? fa = some o → o.data = .func (docDef d.name d.params d.body d.scope pm cd doc) → s₁.heap.CodeRec cd d.name → mg d.name = some (.ref fa) →
      s₁.heap.get? a = some { cls := .type "list", data := .seq vs.toArray } → IntsAre vs ns → ns.length ≤ n → s₁.gens = #[] →
      codeAny (model l.prog w) callerA (.call (.ref fa) ⟨[.ref a], []⟩) (fun r s' => r = .ok (.ret (.bool true)) ∧ OldK s₁.heap s'.heap ∧ s'.os = s₁.os ∧ AllBare s'.gens) s₁) :
    WalkO q loose XP YP l.row.toRowW d [] (fun f vs => PySem.call f vs) := by
  intro w s₀ s₁ mg mb G Y fa o pm cd doc dV kV ho hd hcd hD hmg hg args vals as hpre hlay hrd hwl hlo
  obtain rfl : dV = .none := Dflts.none hD hdf
  obtain rfl : kV = .none := Dflts.noKw hD
  obtain ⟨a, vs, ns, rfl, rfl, hobj, hints, hlen⟩ := script_of hn hpre hwl
  refine enter_call (codeAny_mono (call w s₀ s₁ mg mb fa o pm cd doc a vs ns G Y ho (fd_plain hd) hcd hmg hobj hints hlen hg) fun r s' hq => ?_)
  obtain ⟨rfl, h2, h3, h4⟩ := hq
  exact ⟨.inl ⟨.bool true, .bool true, [], rfl, fun _ => rfl, .bool true, post_true l _, fun _ => ⟨List.Pairwise.nil, fun _ hm => (nomatch hm)⟩⟩, h2, h3, h4⟩
section
variable {prog : Program} {w : World} {A : Around} {E : Value → Shared → Prop} {s : Shared} {K : Frag}
end
end Att
namespace L2
open PySem PySem.Spec PyProof.Rows
theorem vals_ints : ∀ {vs : List Value} {ns : List Int}, IntsAre vs ns → Vals (ns.map V.int) vs
  | _, _, .nil => .nil
  | _, _, .cons n t h => .cons ⟨t, rfl⟩ (vals_ints h)
def Only (H : Hp) : Prop := ∀ b, H b = none ∨ ∃ o xs, H b = some (.frz o (.lst xs))
theorem law_call {P : Program} {w : World} {K : PySem.W.Frag} {mg mb : Str → Option Value} {CX : CXT} {k : Nat} {fa a : Addr} {fd : FuncData} {x : Str} {sp : Sp} {s₁ : Shared} {vs : List Value} {ns : List Int}
    (KX : K.In s₁.heap) (hns : s₁.heap.Ns mainGlobals mg) (hb : s₁.heap.Ns builtinsNs mb) (hbb : ∀ x : Str, x ≠ "__name__" → mb x = bootBuiltins x) (hlim : s₁.heap.NoLimit) (hg : s₁.gens = #[])
    (ha : s₁.heap.get? a = some { cls := .type "list", data := .seq vs.toArray }) (hi : IntsAre vs ns) (hl : ns.length ≤ sizeLine) (hr : Room k callerA)
    (F : ∀ base : Heap, K.In base → base.Ns mainGlobals mg → FnOk P w K mg base CX k fa fd [x] sp) (hbind : ∀ (s : Shared) (u : Value), BindsTo s fd ⟨[u], []⟩ [(x, u)])
    (hsp : ∀ H : Hp, Only H → SqL K H a (ns.map V.int) → sp [.ref a] H (fun v _ => v = .bl true) fun _ _ _ => False)
    (hCX : ∀ H e s', CX [] H s₁ (fun _ _ _ => False) e s' → False) :
    codeAny (model P w) callerA (.call (.ref fa) ⟨[.ref a], []⟩) (fun r s' => r = .ok (.ret (.bool true)) ∧ OldK s₁.heap s'.heap ∧ s'.os = s₁.os ∧ AllBare s'.gens) s₁ := by
  have rv := vals_ints hi
  have lenV := hi.length
  -- from an abstract heap in which nothing but the script may be tracked
  have core : ∀ H : Hp, Only H → SqL K H a (ns.map V.int) → HOk P w H s₁.heap → (∀ b, H b ≠ none → b = a) → (H a ≠ none → K.lookup a = none) →
      codeAny (model P w) callerA (.call (.ref fa) ⟨[.ref a], []⟩) (fun r s' => r = .ok (.ret (.bool true)) ∧ OldK s₁.heap s'.heap ∧ s'.os = s₁.os ∧ AllBare s'.gens) s₁ := by
    intro H hO hS hok hA hK
    have base_of : ∀ {b : Addr} {o : Obj}, s₁.heap.get? b = some o → H b = none → (hidT s₁.heap H).get? b = some o := fun e n => hidT_get e n
    have noA : ∀ {b : Addr} {o : Obj} {es : Array DictEntry} {ep : Nat}, s₁.heap.get? b = some o → o.data = .dict es ep → H b = none := fun {b o es ep} e d => by
      cases q : H b with
      | none => rfl
      | some u =>
        have e' : b = a := hA b (by rw [q]; simp)
        subst e'
        rw [ha] at e; cases e
        have d' : Data.seq vs.toArray _ = Data.dict es ep := d
        cases d'
    have nsK : ∀ {b : Addr} {m : Str → Option Value}, s₁.heap.Ns b m → (hidT s₁.heap H).Ns b m := fun {b m} ⟨o, es, ep, e, d, r⟩ => ⟨o, es, ep, base_of e (noA e d), d, r⟩
    have hKb : K.In (hidT s₁.heap H) := fun b o e => base_of (KX b o e) (by
      cases q : H b with
      | none => rfl
      | some u =>
        have e' : b = a := hA b (by rw [q]; simp)
        subst e'
        rw [hK (by rw [q]; simp)] at e; cases e)
    have hM : Mod K mg (hidT s₁.heap H) := ⟨hKb, nsK hns, ⟨mb, nsK hb, hbb⟩, let ⟨mc, h1, h2⟩ := hlim; ⟨mc, nsK h1, h2⟩⟩
    have e0 : Env0 P w K mg (hidT s₁.heap H) callerA [] s₁ H := ⟨rfl, hM, fun b o e => of_hidT e, Nat.le_of_eq (hidT_size _ _), trivial, fun b hb => absurd (show b ∈ ([] : List Addr) from hb) (by simp), hok, .of_eq hg⟩
    refine codeAny_mono ((F _ hKb (nsK hns)).run callerA [] s₁ H ⟨[.ref a], []⟩ [.ref a] [.ref a] _ _ hr e0 (hbind s₁ (.ref a)) (.cons rfl .nil) (hsp H hO hS)) fun r s' h => ?_
    cases r with
    | error e => exact (hCX H e s' h).elim
    | ok fl =>
      cases fl with
      | next => exact False.elim h
      | brk => exact False.elim h
      | cont => exact False.elim h
      | ret u =>
        obtain ⟨v, H', os, bare, un, hok', r', q⟩ := h
        have q' : v = .bl true := q
        subst q'
        obtain rfl : u = Value.bool true := r'
        refine ⟨rfl, OldK.of_keep fun b o e => ?_, os, bare⟩
        cases q : H b with
        | none => exact un.keep b o e q (by intro z; exact absurd (show b ∈ ([] : List Addr) from z) (by simp)) (by simp)
        | some u =>
          rcases hO b with z | ⟨ob, xs, z⟩
          · rw [q] at z; cases z
          · have z2 := un.frzs b ob _ z
            obtain ⟨e1, _⟩ := hok b _ z
            obtain ⟨e2, _⟩ := hok' b _ z2
            rw [e] at e1; cases e1
            exact e2
  cases hk : K.lookup a with
  | some o =>
    -- the script is one of the module's own objects
    have e := KX a o hk
    rw [ha] at e
    cases e
    refine core (fun _ => none) (fun _ => .inl rfl) (.inr ⟨_, vs.toArray, _, hk, rfl, rfl, rfl, by rw [List.size_toArray, lenV]; exact hl, by simpa using rv⟩) (fun b u z => by have z' : (none : Option HO) = some u := z; cases z') (fun b z => absurd rfl z) fun z => absurd rfl z
  | none =>
    refine core (fun b => if b = a then some (.frz { cls := .type "list", data := .seq vs.toArray } (.lst (ns.map V.int))) else none) (fun b => ?_) (.inl (.inr ⟨{ cls := .type "list", data := .seq vs.toArray }, if_pos rfl⟩)) (fun b u z => ?_) (fun b z => ?_) fun _ => hk
    · by_cases hb : b = a
      · exact .inr ⟨_, _, if_pos hb⟩
      · exact .inl (if_neg hb)
    · by_cases hb : b = a
      · have z' := (if_pos hb).symm.trans z
        cases z'
        subst hb
        exact ⟨ha, by rw [List.length_map]; exact hl, vs, _, rv, ha⟩
      · have z' := (if_neg hb).symm.trans z
        cases z'
    · by_cases hb : b = a
      · exact hb
      · exact absurd (if_neg hb) z
end L2
namespace L2
open PySem PySem.Spec PyProof.Rows
theorem walk_of {l : PySem.W.OpenLaw} {n k : Nat} {q : Program} {loose : List Str} {XP : (Str → Option Value) → Heap → Prop} {YP : World → Heap → Prop} {d : DefRec} {K : Params → PySem.W.Frag} {CX : World → CXT} {sp : World → Sp} {x : Str}
    (hn : l.most = some n) (hn2 : n ≤ sizeLine) (hdf : d.params.defaults = []) (hr : Room k callerA)
    (hY : ∀ (w : World) (h : Heap), YP w h → (K w.params).In h)
    (F : ∀ (w : World) (mg : Str → Option Value) (fa : Addr) (h : Heap), (K w.params).In h → h.Ns mainGlobals mg → mg d.name = some (.ref fa) →
      ∃ fd : FuncData, (∀ (s : Shared) (u : Value), BindsTo s fd ⟨[u], []⟩ [(x, u)]) ∧
        ∀ base : Heap, (K w.params).In base → base.Ns mainGlobals mg → FnOk l.prog w (K w.params) mg base (CX w) k fa fd [x] (sp w))
    (hsp : ∀ (w : World) (H : Hp) (a : Addr) (ns : List Int), ns.length ≤ n → Only H → SqL (K w.params) H a (ns.map V.int) → sp w [.ref a] H (fun v _ => v = .bl true) fun _ _ _ => False)
    (hCX : ∀ (w : World) (H : Hp) (s : Shared) (e : Value) (s' : Shared), CX w [] H s (fun _ _ _ => False) e s' → False) :
    PySem.W.WalkO q loose XP YP l.row.toRowW d [] (fun f vs => PySem.call f vs) := by
  refine Att.attach_call hn hdf fun w s₀ s₁ mg mb fa o pm cd doc a vs ns G Y ho hd hcd hmg hobj hints hlen hg => ?_
  have KX := hY w _ Y
  obtain ⟨fd, hb, hF⟩ := F w mg fa _ KX G.T.g hmg
  exact law_call KX G.T.g G.T.b G.T.builtins G.T.nolimit hg hobj hints (Nat.le_trans hlen hn2) hr hF hb (fun H hO hS => hsp w H a ns hlen hO hS) fun H e s' => hCX w H s₁ e s'
end L2
namespace L2
open PySem PySem.Spec PyProof.Rows
def inClass (s : Stmt) (j : Nat) : Stmt := match s with
  | .ClassDef _ _ _ body _ _ _ _ _ _ _ => body.getD j (.Pass ⟨0, 0, 0, 0⟩)
  | _ => .Pass ⟨0, 0, 0, 0⟩
def defArgs (s : Stmt) : Arguments := match s with
  | .FunctionDef _ a _ _ _ _ _ _ _ _ => a
  | _ => { posonlyargs := [], args := [], vararg := none, kwonlyargs := [], kw_defaults := [], kwarg := none, defaults := [] }
def defBody (s : Stmt) : List Stmt := match s with
  | .FunctionDef _ _ b _ _ _ _ _ _ _ => b
  | _ => []
def defScope (s : Stmt) : Scope := match s with
  | .FunctionDef _ _ _ _ _ _ sc _ _ _ => sc
  | _ => { kind := .function, names := [], isGenerator := false, isCoroutine := false }
structure Fun (K : PySem.W.Frag) (x qual : Str) (st : Stmt) (f : Addr) (fd : FuncData) : Prop where
  ex : ∃ (oc : Value) (od : Option Addr) (kV doc pm : Value) (an : Option Addr) (cdv ct : Value) (osl : Array (Option Value)),
    fd = PySem.W.fnOf x qual (defArgs st) (defBody st) (defScope st) .none kV doc pm an cdv ct ∧ K.lookup f = some ⟨oc, od, .func fd, osl⟩ ∧ PySem.W.codeIn K cdv qual = true
  kp : PySem.W.keepIn K (.ref f) = true
section
variable {P : Program} {w : World} {K : PySem.W.Frag} {mg : Str → Option Value} {base : Heap}
theorem Fun.binds {x qual : Str} {st : Stmt} {f : Addr} {fd : FuncData} {ps : List Str} (F : Fun K x qual st f fd)
    (h : ∀ (kV doc pm : Value) (an : Option Addr) (cdv ct : Value) (us : List Value), us.length = ps.length → bindArgs (PySem.W.fnOf x qual (defArgs st) (defBody st) (defScope st) .none kV doc pm an cdv ct) ⟨us, []⟩ = pure (ps.zip us)) : Binds K fd ps [] := by
  obtain ⟨oc, od, kV, doc, pm, an, cdv, ct, osl, rfl, lk, hcd⟩ := F.ex
  exact .all (h kV doc pm an cdv ct)
theorem fun_mk {x qual : Str} {st : Stmt} {f : Addr} {oc : Value} {od an : Option Addr} {osl : Array (Option Value)} {kV doc pm cdv ct : Value} (l : K.lookup f = some ⟨oc, od, .func (PySem.W.fnOf x qual (defArgs st) (defBody st) (defScope st) .none kV doc pm an cdv ct), osl⟩)
    (c : PySem.W.codeIn K cdv qual = true) (k : PySem.W.keepIn K (.ref f) = true) : Fun K x qual st f (PySem.W.fnOf x qual (defArgs st) (defBody st) (defScope st) .none kV doc pm an cdv ct) := ⟨⟨oc, od, kV, doc, pm, an, cdv, ct, osl, rfl, l, c⟩, k⟩
end
section
variable {X : Cx}
theorem pv (i : Nat) {x : Str} {pos : Pos} (hN : X.N[i]? = some x := by rfl) (hv : Vis X.env.scope x := by first | exact Or.inl rfl | exact Or.inr (Or.inl rfl) | exact Or.inr (Or.inr rfl)) (hd : (x == ("__debug__" : Str)) = false := by decide)
    (hcd : (x == ("__classdict__" : Str)) = false := by decide) : PE X (.Name x pos) (tVar i) := pe_var hN hv hd hcd
end
def Same (H H' : Hp) : Prop := ∀ b o, H b = some o → H' b = some o
theorem Same.refl (H : Hp) : Same H H := fun _ _ h => h
theorem Same.trans {H H1 H2 : Hp} (a : Same H H1) (b : Same H1 H2) : Same H H2 := fun c o h => b c o (a c o h)
theorem Same.free {H H' : Hp} (e : Same H H') {l : Addr} (h : H' l = Option.none) : H l = Option.none := by
  cases q : H l with
  | none => rfl
  | some o =>
    rw [e l o q] at h
    cases h
theorem Same.seq {K : PySem.W.Frag} {H H' : Hp} {a : Addr} {xs : List V} (e : Same H H') (h : SqL K H a xs) : SqL K H' a xs := by
  rcases h with (h | ⟨o, h⟩) | h
  · exact .inl (.inl (e _ _ h))
  · exact .inl (.inr ⟨o, e _ _ h⟩)
  · exact .inr h
end L2
set_option Elab.async false
set_option linter.all false
set_option maxRecDepth 100000
namespace L2
open PySem PySem.Spec PyProof.Rows
theorem Un.onto {fs : List Addr} {H H' : Hp} {h h1 h2 : Heap} (u : Un fs [] H H' h h1)
    (k : ∀ b o, h1.get? b = some o → b ∉ fs → (∃ o', h.get? b = some o') → h2.get? b = some o)
    (sl : ∀ b o, h1.get? b = some o → b ∈ fs → (∃ o', h.get? b = some o') → ∃ s, h2.get? b = some { o with slots := s }) : Un fs [] H H' h h2 where
  keep := fun b o e n hb hx => k b o (u.keep b o e n hb hx) hb ⟨o, e⟩
  slot := fun b o e n hb hx => by
    obtain ⟨s1, e1⟩ := u.slot b o e n hb hx
    obtain ⟨s2, e2⟩ := sl b _ e1 hb ⟨o, e⟩
    exact ⟨s2, e2⟩
  free := u.free
  there := fun b o e hx => by
    obtain ⟨o', e'⟩ := u.there b o e hx
    by_cases hb : b ∈ fs
    · obtain ⟨s, z⟩ := sl b o' e' hb ⟨o, e⟩
      exact ⟨_, z⟩
    · exact ⟨o', k b o' e' hb ⟨o, e⟩⟩
  tups := u.tups
  frzs := u.frzs
  tbls := u.tbls
theorem HOk.onto {P : Program} {w : World} {H : Hp} {h1 h2 : Heap} (x : HOk P w H h1) (k : ∀ b o u, H b = some u → h1.get? b = some o → h2.get? b = some o) : HOk P w H h2 := fun a o e =>
  (x a o e).stay (fun b u hb q => by
    rcases hb with rfl | hb
    · exact k b u _ e q
    · exact k b u _ hb q) (fun _ q => q) fun _ _ q => q
theorem ObjOk.at {P : Program} {w : World} {H : Hp} {h : Heap} {a : Addr} {o : HO} (x : ObjOk P w H h a o) : ∃ ob, h.get? a = some ob := by
  cases o with
  | lst xs => obtain ⟨_, _, _, _, e⟩ := x; exact ⟨_, e⟩
  | tup xs => obtain ⟨_, _, _, p⟩ := x; obtain ⟨o, e, _⟩ := p; exact ⟨o, e⟩
  | dK kvs => obtain ⟨_, _, _, _, o, _, _, e, _⟩ := x; exact ⟨o, e⟩
  | dT kvs => obtain ⟨_, _, _, _, o, _, _, e, _⟩ := x; exact ⟨o, e⟩
  | set S n => obtain ⟨o, _, _, _, e, _⟩ := x; exact ⟨o, e⟩
  | ins C dx fs => obtain ⟨_, _, _, e, _⟩ := x; exact ⟨_, e⟩
  | own y => exact x
  | xd fs => obtain ⟨_, ⟨o, _, _, e, _⟩, _⟩ := x; exact ⟨o, e⟩
  | rng lo hi => obtain ⟨_, _, _, e⟩ := x; exact ⟨_, e⟩
  | frz ob u => obtain ⟨e, _⟩ := x; exact ⟨ob, e⟩
  | tbl ps => exact ⟨_, (show h.get? a = some _ from x)⟩
  | met f y => exact ⟨_, (show h.get? a = some _ from x)⟩
  | ext φ => obtain ⟨_, e, _⟩ := x; exact e
def CXF (P : Program) (w : World) : CXT := fun outer H s E ev s' =>
  ∃ (e : Addr) (cls a0 : Value) (B : Heap) (H' : Hp), ev = .ref e ∧ s'.os = s.os ∧ AllBare s'.gens ∧
    Un (frs outer) [] H H' s.heap s'.heap ∧ HOk P w H' s'.heap ∧ Heap.FlyingW B outer e cls a0 s'.heap ∧
    (∀ b o, s'.heap.get? b = some o → b ∉ frs outer → ((∃ u, H' b = some u) ∨ ∃ o', s.heap.get? b = some o') → B.get? b = some o) ∧
    H' e = none ∧ s.heap.get? e = none ∧ E cls none H'
section
variable {X : Cx} {pins : List (Addr × Obj)} {σ : St} {H : Hp} {s : Shared}
theorem Inv.noFields (I : Inv X pins σ H s) {b : Addr} (hb : b ∈ frs X.stack) {o : Obj} (e : s.heap.get? b = some o) : ∀ vs, o.data ≠ .fields vs := by
  obtain ⟨_, o', e', h⟩ := I.stack.mem hb
  rw [e] at e'; cases e'
  exact h
theorem cxf_pass {P : Program} {w : World} {K : PySem.W.Frag} {mg : Str → Option Value} {base : Heap} {N : List Str} {qual : Str} {scope : Scope} {f : Addr} {cd : Value} {A : Around} {outer : List Env} {s₀ : Shared} {H₀ : Hp} {E E' : XK}
    (he : ∀ c a H, E' c a H → E c a H) :
    Passes (CXF P w) (cxOf (CXF P w) P w K mg base N qual scope f cd A outer s₀ H₀ E) E' := by
  intro pins σ H s ev s' I h
  obtain ⟨e, cls, a0, B, H', rfl, os, bare, un, hok, fl, cov, hn, hs, q⟩ := h
  have hlt : ∀ {b : Addr} {o : Obj}, s₀.heap.get? b = some o → b ≠ s₀.heap.objs.size := fun e => Nat.ne_of_lt (Heap.lt_size e)
  have frs_eq : frs (envOfC qual scope s₀.heap.objs.size f cd :: outer) = s₀.heap.objs.size :: frs outer := rfl
  have hfr : ∀ b ∈ frs (envOfC qual scope s₀.heap.objs.size f cd :: outer), ∀ o, s'.heap.get? b = some o → ∀ vs, o.data ≠ .fields vs := fun b hb o eo => by
    obtain ⟨_, o', e', h⟩ := fl.2.2.1.mem hb
    rw [eo] at e'; cases e'
    exact h
  have Ib := I.base
  have nex : ∀ b : Addr, b ∉ (cxOf (CXF P w) P w K mg base N qual scope f cd A outer s₀ H₀ E).ex := fun b z => absurd (show b ∈ ([] : List Addr) from z) (by simp)
  have nL : H' s₀.heap.objs.size = none := by
    obtain ⟨m, ⟨o, _, _, ho, _⟩, _⟩ := I.loc
    exact un.free _ o ho I.free (by simp)
  show wpAny _ _ (leaving _ (.ref e)) _ _ s'
  refine wpAny_leaves_onW (base := B) I.ok.frames rfl fl fun h2 fl2 up => ?_
  have keep2 : ∀ b o, s'.heap.get? b = some o → b ∉ frs outer → b ≠ s₀.heap.objs.size → ((∃ u, H' b = some u) ∨ ∃ o', s.heap.get? b = some o') → h2.get? b = some o := fun b o e1 nb nl hh =>
    fl2.1 b o (cov b o e1 (by show b ∉ s₀.heap.objs.size :: frs outer; simp [nl, nb]) hh)
  have slot2 : ∀ b o, s'.heap.get? b = some o → b ∈ frs outer → ∃ sl, h2.get? b = some { o with slots := sl } := fun b o e1 hb =>
    up b o e1 (hfr b (by rw [frs_eq]; exact List.mem_cons_of_mem _ hb) o e1)
  have thru : ∀ b o, s₀.heap.get? b = some o → ∃ o1, s.heap.get? b = some o1 := fun b o e0 => Ib.there b o e0 (nex b)
  have hUn : Un (frs outer) [] H₀ H' s₀.heap h2 := {
    keep := fun b o e0 n hb _ => by
      have e1 := Ib.keep b o e0 n hb (nex b)
      have n1 := Ib.free b o e0 n (nex b)
      have hb2 : b ∉ frs (envOfC qual scope s₀.heap.objs.size f cd :: outer) := by rw [frs_eq]; simp [hlt e0, hb]
      exact keep2 b o (un.keep b o e1 n1 hb2 (by simp)) hb (hlt e0) (.inr ⟨o, e1⟩)
    slot := fun b o e0 n hb _ => by
      obtain ⟨s1, e1⟩ := Ib.slot b o e0 n hb (nex b)
      have n1 := Ib.free b o e0 n (nex b)
      obtain ⟨s2, e2⟩ := un.any e1 n1 (by simp)
      obtain ⟨s3, e3⟩ := slot2 b _ e2 hb
      exact ⟨s3, e3⟩
    free := fun b o e0 n _ => by
      obtain ⟨o1, e1⟩ := thru b o e0
      exact un.free b o1 e1 (Ib.free b o e0 n (nex b)) (by simp)
    there := fun b o e0 _ => by
      obtain ⟨o1, e1⟩ := thru b o e0
      obtain ⟨o2, e2⟩ := un.there b o1 e1 (by simp)
      by_cases hb : b ∈ frs outer
      · obtain ⟨s3, e3⟩ := slot2 b o2 e2 hb
        exact ⟨_, e3⟩
      · exact ⟨o2, keep2 b o2 e2 hb (hlt e0) (.inr ⟨o1, e1⟩)⟩
    tups := fun b xs q => un.tups b xs (Ib.tups b xs q)
    frzs := fun b o u q => un.frzs b o u (Ib.frzs b o u q)
    tbls := fun b ps q => by
      obtain ⟨m1, e1⟩ := Ib.tbls b ps q
      obtain ⟨m2, e2⟩ := un.tbls b _ e1
      exact ⟨m1 ++ m2, by rw [e2, Array.append_assoc]⟩ }
  have frf' : ∀ b u, H' b = some u → b ∉ frs outer ∧ b ≠ s₀.heap.objs.size := fun b u e1 => by
    refine ⟨fun hb => ?_, fun z => by rw [z, nL] at e1; cases e1⟩
    have n0 : H b = none := I.stkFree b (by show b ∈ frs (envOfC qual scope s₀.heap.objs.size f cd :: outer); rw [frs_eq]; exact List.mem_cons_of_mem _ hb)
    obtain ⟨_, o, eo, _⟩ := I.stack.mem (show b ∈ frs (envOfC qual scope s₀.heap.objs.size f cd :: outer) by rw [frs_eq]; exact List.mem_cons_of_mem _ hb)
    rw [un.free b o eo n0 (by simp)] at e1; cases e1
  have hok2 : HOk P w H' h2 := hok.onto fun b o u hb eo => keep2 b o eo (frf' b u hb).1 (frf' b u hb).2 (.inl ⟨u, hb⟩)
  have cov2 : ∀ b o, h2.get? b = some o → b ∉ frs outer → ((∃ u, H' b = some u) ∨ ∃ o', s₀.heap.get? b = some o') → B.get? b = some o := fun b o e2 hb hh => by
    rcases hh with ⟨u, hu⟩ | ⟨o0, e0⟩
    · obtain ⟨o1, e1⟩ := (hok b u hu).at
      have z := keep2 b o1 e1 (frf' b u hu).1 (frf' b u hu).2 (.inl ⟨u, hu⟩)
      rw [e2] at z; cases z
      exact cov b o e1 (by show b ∉ s₀.heap.objs.size :: frs outer; simp [hb, (frf' b u hu).2]) (.inl ⟨u, hu⟩)
    · obtain ⟨o1, e1⟩ := thru b o0 e0
      obtain ⟨o2, e3⟩ := un.there b o1 e1 (by simp)
      have z := keep2 b o2 e3 hb (hlt e0) (.inr ⟨o1, e1⟩)
      rw [e2] at z; cases z
      exact cov b o e3 (by show b ∉ s₀.heap.objs.size :: frs outer; simp [hb, hlt e0]) (.inr ⟨o1, e1⟩)
  refine ⟨e, cls, a0, B, H', rfl, os.trans I.os, bare, hUn, hok2, fl2, cov2, hn, ?_, he _ _ _ q⟩
  cases z : s₀.heap.get? e with
  | none => rfl
  | some o =>
    obtain ⟨o1, e1⟩ := thru e o z
    rw [hs] at e1; cases e1
end
end L2
set_option Elab.async false
set_option linter.all false
set_option maxRecDepth 100000
namespace L2
open PySem PySem.Spec PyProof.Rows
abbrev bmVE : List Value := [.type "ValueError", .type "Exception", .type "BaseException", .type "object"]
structure ExcC (K : PySem.W.Frag) (mg : Str → Option Value) (x : Str) (C : Addr) : Prop where
  mgx : mg x = some (.ref C)
  ein : PySem.W.excIn K C bmVE "ValueError.__new__" = true
theorem exc_obj {K : PySem.W.Frag} {C : Addr} {bmB : List Value} {newId : String} {h₀ : Heap} (X : K.In h₀) (q : PySem.W.excIn K C bmB newId = true) :
    ∃ bm N nm q bs hdct sn sub ab col dd k0 k1 k2 k3 k5 mN, h₀.get? C = some (excClassObj nm q C N bs bm hdct sn sub ab col dd k0 k1 k2 k3 k5 newId) ∧ h₀.Ns N mN ∧ mN "__init__" = none ∧ OwnTail h₀ bmB bm := by
  unfold PySem.W.excIn at q
  split at q
  · rename_i dd cd sl ho
    split at q
    · rename_i C' bm k0 k1 k2 k3 n k5 hm hs
      simp only [Bool.and_eq_true, beq_iff_eq, Bool.not_eq_true'] at q
      obtain ⟨⟨⟨⟨⟨rfl, rfl⟩, hdel⟩, ht⟩, hok⟩, hni⟩ := q
      obtain ⟨nm, bs, mro, ns, qn, hd, sn, sub, ab, col, del⟩ := cd
      dsimp only at hm hdel hok hni
      subst hm hdel
      have hsl : sl = #[k0, k1, k2, k3, some (.builtin n), k5] := by
        obtain ⟨l⟩ := sl
        simp only at hs
        rw [hs]
      subst hsl
      exact ⟨bm, ns, nm, qn, bs, hd, sn, sub, ab, col, dd, k0, k1, k2, k3, k5, _, X _ _ ho, .of_isNs (PySem.W.isNs_of_in X hok), PySem.W.nsMap_none_of_in X hok hni, PySem.W.tail_of_in X ht⟩
    · cases q
  · cases q
def Raises (X : Cx) (E : XK) : Prop := ∀ (pins : List (Addr × Obj)) (σ : St) (H : Hp) (s : Shared) (e C : Addr) (h' : Heap) (args : List Value), Inv X pins σ H s → Heap.MadeExcOf s.heap h' e (.ref C) args → E (.ref C) none H → X.xe (.ref e) { s with heap := h' }
theorem raises_cx {P : Program} {w : World} {K : PySem.W.Frag} {mg : Str → Option Value} {base : Heap} {N : List Str} {qual : Str} {scope : Scope} {f : Addr} {cd : Value} {A : Around} {outer : List Env} {s₀ : Shared} {H₀ : Hp} {E E' : XK}
    (he : ∀ c a H, E' c a H → E c a H) : Raises (cxOf (CXF P w) P w K mg base N qual scope f cd A outer s₀ H₀ E) E' := by
  intro pins σ H s e C h' args I hx q
  have frs_eq : frs (envOfC qual scope s₀.heap.objs.size f cd :: outer) = s₀.heap.objs.size :: frs outer := rfl
  have hin : ∀ env ∈ (envOfC qual scope s₀.heap.objs.size f cd :: outer), ∀ b, env.frame = some b → b ∈ frs (envOfC qual scope s₀.heap.objs.size f cd :: outer) := fun env he b hb => List.mem_filterMap.mpr ⟨env, he, hb⟩
  have nex : ∀ b : Addr, b ∉ (cxOf (CXF P w) P w K mg base N qual scope f cd A outer s₀ H₀ E).ex := fun b z => absurd (show b ∈ ([] : List Addr) from z) (by simp)
  have hlt : ∀ {b : Addr} {o : Obj}, s₀.heap.get? b = some o → b ≠ s₀.heap.objs.size := fun e => Nat.ne_of_lt (Heap.lt_size e)
  have Ib := I.base
  show wpAny _ _ (leaving _ (.ref e)) _ _ _
  refine wpAny_leaves_madeW (base := PySem.W.hideAll s.heap (frs (envOfC qual scope s₀.heap.objs.size f cd :: outer))) (h := s.heap) (s := { s with heap := h' }) I.ok.frames rfl (fun b o q => PySem.W.of_hideAll _ q) (PySem.W.funFrames_hide I.stack hin) hx fun h2 t fl tup tn up => ?_
  have keep2 : ∀ b o, s.heap.get? b = some o → b ∉ frs outer → b ≠ s₀.heap.objs.size → h2.get? b = some o := fun b o e1 nb nl =>
    fl.1 b o (PySem.W.hideAll_get _ e1 (by rw [frs_eq]; simp [nl, nb]))
  have slot2 : ∀ b o, s.heap.get? b = some o → b ∈ frs outer → ∃ sl, h2.get? b = some { o with slots := sl } := fun b o e1 hb =>
    up b o (hx.keeps b o e1) (I.noFields (show b ∈ frs (envOfC qual scope s₀.heap.objs.size f cd :: outer) by rw [frs_eq]; exact List.mem_cons_of_mem _ hb) e1)
  have frf' : ∀ b u, H b = some u → b ∉ frs outer ∧ b ≠ s₀.heap.objs.size := fun b u e1 => by
    refine ⟨fun hb => ?_, fun z => ?_⟩
    · rw [I.stkFree b (show b ∈ frs (envOfC qual scope s₀.heap.objs.size f cd :: outer) by rw [frs_eq]; exact List.mem_cons_of_mem _ hb)] at e1; cases e1
    · rw [z, show H s₀.heap.objs.size = none from I.free] at e1; cases e1
  refine ⟨e, .ref C, .ref t, _, H, rfl, I.os, I.bare, ?_, ?_, fl, ?_, ?_, ?_, he _ _ _ q⟩
  · exact {
      keep := fun b o e0 n hb _ => keep2 b o (Ib.keep b o e0 n hb (nex b)) hb (hlt e0)
      slot := fun b o e0 n hb _ => by
        obtain ⟨s1, e1⟩ := Ib.slot b o e0 n hb (nex b)
        obtain ⟨s2, e2⟩ := slot2 b _ e1 hb
        exact ⟨s2, e2⟩
      free := fun b o e0 n _ => Ib.free b o e0 n (nex b)
      there := fun b o e0 _ => by
        obtain ⟨o1, e1⟩ := Ib.there b o e0 (nex b)
        by_cases hb : b ∈ frs outer
        · obtain ⟨s3, e3⟩ := slot2 b o1 e1 hb
          exact ⟨_, e3⟩
        · exact ⟨o1, keep2 b o1 e1 hb (hlt e0)⟩
      tups := Ib.tups
      frzs := Ib.frzs
      tbls := Ib.tbls }
  · exact I.hok.onto fun b o u hb eo => keep2 b o eo (frf' b u hb).1 (frf' b u hb).2
  · intro b o e2 hb hh
    have main : ∀ o1, s.heap.get? b = some o1 → b ≠ s₀.heap.objs.size → (PySem.W.hideAll s.heap (frs (envOfC qual scope s₀.heap.objs.size f cd :: outer))).get? b = some o := fun o1 e1 nl => by
      have z := keep2 b o1 e1 hb nl
      rw [e2] at z; cases z
      exact PySem.W.hideAll_get _ e1 (by rw [frs_eq]; simp [nl, hb])
    rcases hh with ⟨u, hu⟩ | ⟨o0, e0⟩
    · obtain ⟨o1, e1⟩ := (I.hok b u hu).at
      exact main o1 e1 (frf' b u hu).2
    · obtain ⟨o1, e1⟩ := Ib.there b o0 e0 (nex b)
      exact main o1 e1 (hlt e0)
  · cases z : H e with
    | none => rfl
    | some u =>
      obtain ⟨o1, e1⟩ := (I.hok e u z).at
      rw [hx.new] at e1; cases e1
  · cases z : s₀.heap.get? e with
    | none => rfl
    | some o =>
      obtain ⟨o1, e1⟩ := Ib.there e o z (nex e)
      rw [hx.new] at e1; cases e1
section
variable {X : Cx}
def tRaise (t : TA) (C : Addr) (E : XK) : TS := fun _ σ H => t σ H fun vs H1 => vs.length ≤ sizeLine ∧ E (.ref C) none H1
theorem ps_raise {x : Str} {np cpos pos : Pos} {e : Expr} {es : List Expr} {t : TA} {C : Addr} {E : XK} (hR : Raises X E) (hc : X.calm = true) (G : ExcC X.K X.mg x C) (hg : Gl X x) (ha : PA X (e :: es) t)
    (he : starEach (e :: es) X.env = (false, eval e X.env) :: starEach es X.env := by rfl) (hpl : (backTo cpos (starEach es X.env)).any (·.1) = false := by rfl) (hdb : (x == ("__debug__" : Str)) = false := by decide) :
    PS X (.Raise (some (.Call (.Name x np) (e :: es) [] cpos)) none pos) (tRaise t C E) := by
  intro pins s σ H D I h
  obtain ⟨tl, N, nm, q, bs, hdct, sn, sub, ab, col, dd, k0, k1, k2, k3, k5, mN, hC, hN, hni, T⟩ := exc_obj I.ok.mod.kin G.ein
  refine wpAny_Raise_call_subT (C := C) (nm := nm) (q := q) (N := N) (bs := bs) (bm := tl) (hdct := hdct) (sn := sn) (sub := sub) (ab := ab) (col := col) (dd := dd) (k0 := k0) (k1 := k1) (k2 := k2) (k3 := k3) (k5 := k5)
    PySem.F.excBase_ValueError (mN := mN) (T.hasType PySem.F.excBase_ValueError.hasBase) (I.ok.hd hc) (by rw [he]; show (false || (backTo cpos (starEach es X.env)).any (·.1)) = false; rw [hpl]; rfl) hni (ld_glob I hg G.mgx ⟨rfl, ?_⟩ hdb)
  have h2 := ha cpos pins s σ H _ I h
  rw [he] at h2 ⊢
  exact Calls.evalArgs_plain (wpAny_mono h2 (fun us s₂ ⟨vs, H1, I1, r, q1, q2⟩ => ⟨rfl, by rw [← r.length]; exact q1, I1.bk _ _ hC, hN.keeps I1.bk, T.keeps I1.bk, fun h' e hm => hR pins σ H1 s₂ e C h' us I1 hm q2⟩) fun _ _ y => y)
end
section
variable {X : Cx} {pins : List (Addr × Obj)} {σ : St} {H H' : Hp} {s : Shared}
abbrev noSt (X : Cx) : St := List.replicate X.N.length none
theorem Inv.forget (I : Inv X pins σ H s) {h' : Heap} {m' : Str → Option Value} {t' : Nat} (hs : Heap.SameBut X.env.locals s.heap h') (hn : h'.Ns X.env.locals m') : Inv X pins (noSt X) H { s with heap := h', toks := t' } := by
  have ne : ∀ {b : Addr} {o : Obj}, X.s₀.heap.get? b = some o → b ≠ X.env.locals := fun e => Nat.ne_of_lt (Nat.lt_of_lt_of_le (Heap.lt_size e) I.ok.above)
  refine ⟨I.ok, I.os, I.bare, ⟨fun b o e n hb hx => (hs.2 b (ne e)).trans (I.base.keep b o e n hb hx), fun b o e n hb hx => ?_, I.base.free, fun b o e hx => ?_, I.base.tups, I.base.frzs, I.base.tbls⟩, ⟨m', hn, fun j y v e1 e2 e3 => ?_⟩, fun y c e => ?_, I.free, I.freeC, fun p hp => ?_, ?_, by simp [noSt]⟩
  · obtain ⟨sl, e1⟩ := I.base.slot b o e n hb hx
    exact ⟨sl, (hs.2 b (ne e)).trans e1⟩
  · obtain ⟨o', e1⟩ := I.base.there b o e hx
    exact ⟨o', (hs.2 b (ne e)).trans e1⟩
  · rw [List.getElem?_replicate] at e2
    split at e2 <;> cases e2
  · obtain ⟨w', z⟩ := I.cell y c e
    exact ⟨w', z.sameBut hs (I.cne y c e)⟩
  · obtain ⟨e, n, nl, nf, d⟩ := I.pin p hp
    exact ⟨(hs.2 p.1 nl).trans e, n, nl, nf, d⟩
  · exact I.hok.onto fun b o u hb eo => (hs.2 b fun z => by rw [z, I.free] at hb; cases hb).trans eo
abbrev Cx.inH (X : Cx) (e : Addr) (E : Value → Shared → Prop) : Cx := { X with A := X.A.mark (some (.ref e)), calm := false, xe := E }
theorem Cx.Ok.inH (ok : X.Ok) (e : Addr) (E : Value → Shared → Prop) : (X.inH e E).Ok :=
  ⟨ok.mod, ok.kind, ok.glob, ok.blt, ok.above, ok.inj, ok.has, ok.cab, fun z => Bool.noConfusion z, ok.frames, ok.stk, ok.exf, ok.bs, ok.bsz, ok.noex, ok.exfs, ok.funs, ok.frf⟩
theorem Inv.inH (I : Inv X pins σ H s) (e : Addr) (E : Value → Shared → Prop) : Inv (X.inH e E) pins σ H s := ⟨I.ok.inH e E, I.os, I.bare, I.base, I.loc, I.cell, I.free, I.freeC, I.pin, I.hok, I.len⟩
theorem Inv.outH {e : Addr} {E : Value → Shared → Prop} (ok : X.Ok) (I : Inv (X.inH e E) pins σ H s) : Inv X pins σ H s := ⟨ok, I.os, I.bare, I.base, I.loc, I.cell, I.free, I.freeC, I.pin, I.hok, I.len⟩
abbrev Cx.tr (X : Cx) (E : Value → Shared → Prop) (pn : List (Addr × Obj)) : Cx := { X with xe := E, pn := pn }
theorem Cx.Ok.tr (ok : X.Ok) (E : Value → Shared → Prop) (pn : List (Addr × Obj)) : (X.tr E pn).Ok :=
  ⟨ok.mod, ok.kind, ok.glob, ok.blt, ok.above, ok.inj, ok.has, ok.cab, ok.hd, ok.frames, ok.stk, ok.exf, ok.bs, ok.bsz, ok.noex, ok.exfs, ok.funs, ok.frf⟩
theorem Inv.tr (I : Inv X pins σ H s) (E : Value → Shared → Prop) : Inv (X.tr E (X.pn ++ pins)) [] σ H s := ⟨I.ok.tr E _, I.os, I.bare, I.base, I.loc, I.cell, I.free, I.freeC, fun p hp => I.pin p (by rwa [List.append_nil] at hp), I.hok, I.len⟩
theorem Inv.untr {pins' : List (Addr × Obj)} {E : Value → Shared → Prop} (ok : X.Ok) (I : Inv (X.tr E (X.pn ++ pins)) pins' σ H s) : Inv X pins σ H s := ⟨ok, I.os, I.bare, I.base, I.loc, I.cell, I.free, I.freeC, fun p hp => I.pin p (List.mem_append_left _ hp), I.hok, I.len⟩
def ExcO (e : Addr) (cls : Value) : HO := .ext fun h => ∃ o, h.get? e = some o ∧ o.cls = cls
theorem Inv.landed {E : XK} {ev : Value} {s' : Shared} (I : Inv X pins σ H s) (h : CXF X.prog X.w X.stack H s E ev s') :
    ∃ (e : Addr) (cls a0 : Value) (B : Heap) (H' : Hp), ev = .ref e ∧ Heap.FlyingW B X.stack e cls a0 s'.heap ∧ H' e = Option.none ∧ E cls Option.none H' ∧
      ∀ (h2 : Heap) (t2 : Nat), Heap.FlyingW B X.stack e cls a0 h2 → s'.heap.UpToSlots h2 → Inv X pins σ (upd H' e (ExcO e cls)) { s' with heap := h2, toks := t2 } ∧ Inv X pins σ H' { s' with heap := h2, toks := t2 } := by
  obtain ⟨e, cls, a0, B, H', rfl, os, bare, un, hok, fl, cov, hn, hs, q⟩ := h
  refine ⟨e, cls, a0, B, H', rfl, fl, hn, q, fun h2 t2 fl2 up => ?_⟩
  have hfr : ∀ b ∈ frs X.stack, ∀ o, s'.heap.get? b = some o → ∀ vs, o.data ≠ .fields vs := fun b hb o eo => by
    obtain ⟨_, o', e', h⟩ := fl.2.2.1.mem hb
    rw [eo] at e'; cases e'
    exact h
  have nfr : ∀ b u, H' b = some u → b ∉ frs X.stack := fun b u e1 hb => by
    obtain ⟨_, o, eo, _⟩ := I.stack.mem hb
    rw [un.free b o eo (I.stkFree b hb) (by simp)] at e1; cases e1
  have un2 : Un (frs X.stack) [] H H' s.heap h2 := un.onto (fun b o e1 nb hh => fl2.1 b o (cov b o e1 nb (.inr hh))) fun b o e1 hb _ => up b o e1 (hfr b hb o e1)
  have hok2 : HOk X.prog X.w H' h2 := hok.onto fun b o u hu e1 => fl2.1 b o (cov b o e1 (nfr b u hu) (.inl ⟨u, hu⟩))
  have I2 : Inv X pins σ H' { s' with heap := h2, toks := t2 } := I.call' (ch := []) os un2 hok2 bare (fun b z => absurd z (by simp))
  obtain ⟨ob, hob, hcl⟩ := fl2.there
  refine ⟨?_, I2⟩
  have new : ObjOk X.prog X.w (upd H' e (ExcO e cls)) h2 e (ExcO e cls) := ⟨⟨ob, hob, hcl⟩, ⟨ob, hob⟩, fun h1 h2 ⟨o, a, b⟩ k => ⟨o, k o a, b⟩⟩
  have hok3 : HOk X.prog X.w (upd H' e (ExcO e cls)) h2 := fun b u eb => by
    by_cases hb : b = e
    · subst hb; rw [upd_same] at eb; cases eb; exact new
    · rw [upd_ne hb] at eb
      exact (hok2 b u eb).stay (fun c v _ q => q) (fun c q => by rw [upd_ne (ne_of_none q hn)]; exact q) fun c xs q => by rw [upd_ne (ne_of_none q hn)]; exact q
  have un3 : Un (frs X.stack) [] H (upd H' e (ExcO e cls)) s.heap h2 := {
    keep := un2.keep, slot := un2.slot, there := un2.there
    free := fun b o e1 n hx => by
      have nb : b ≠ e := fun z => by rw [z, hs] at e1; cases e1
      rw [upd_ne nb]; exact un2.free b o e1 n hx
    tups := fun b xs q => by
      have z := un2.tups b xs q
      rw [upd_ne (ne_of_none z hn)]; exact z
    frzs := fun b o u q => by
      have z := un2.frzs b o u q
      rw [upd_ne (ne_of_none z hn)]; exact z
    tbls := fun b ps q => by
      obtain ⟨m, z⟩ := un2.tbls b ps q
      exact ⟨m, by rw [upd_ne (ne_of_none z hn)]; exact z⟩ }
  exact I.call' (ch := []) os un3 hok3 bare (fun b z => absurd z (by simp))
end
end L2
set_option Elab.async false
set_option linter.all false
set_option maxRecDepth 100000
namespace L2
open PySem PySem.Spec PyProof.Rows
def clOf (cells : List (Str × Addr)) : List (Str × NameKind) → List (Str × Addr) → List (Str × Addr)
  | [], cs => cs
  | (n, k) :: r, cs => clOf cells r (if k == .free then (match cells.lookup n with | some c => (n, c) :: cs | none => cs) else cs)
theorem closureFor_eq {scope : Scope} {env : Env} (h : ∀ y ∈ scope.names, y.2 = .free → ∃ c, env.cells.lookup y.1 = some c) : closureFor scope env = pure (clOf env.cells scope.names []) := by
  unfold closureFor
  have go : ∀ (l : List (Str × NameKind)) (cs : List (Str × Addr)), (∀ y ∈ l, y.2 = .free → ∃ c, env.cells.lookup y.1 = some c) →
      (forIn l cs fun x r => if (x.2 == NameKind.free) = true then do let c ← cellOf env x.1; pure (ForInStep.yield ((x.1, c) :: r)) else pure (ForInStep.yield r) : Sem (List (Str × Addr))) = pure (clOf env.cells l cs) := by
    intro l
    induction l with
    | nil => intro cs _; rfl
    | cons x r ih =>
      intro cs hl
      obtain ⟨n, k⟩ := x
      rw [List.forIn_cons]
      by_cases hk : k = .free
      · subst hk
        obtain ⟨c, hc⟩ := hl (n, .free) List.mem_cons_self rfl
        have hc' : env.cells.lookup n = some c := hc
        have e : cellOf env n = pure c := by unfold cellOf; rw [hc']
        simp only [beq_self_eq_true, if_true, e, pure_bind, clOf, hc']
        exact ih _ fun y hy => hl y (List.mem_cons_of_mem _ hy)
      · have e : (k == NameKind.free) = false := by simpa using hk
        simp only [e, Bool.false_eq_true, if_false, pure_bind, clOf]
        exact ih _ fun y hy => hl y (List.mem_cons_of_mem _ hy)
  have := go scope.names [] h
  simpa using this
theorem clOf_sub {cells : List (Str × Addr)} : ∀ {l : List (Str × NameKind)} {cs : List (Str × Addr)} {x : Str} {c : Addr}, (clOf cells l cs).lookup x = some c → (∀ y d, cs.lookup y = some d → cells.lookup y = some d) → cells.lookup x = some c
  | [], cs, x, c, h, hs => hs x c h
  | (n, k) :: r, cs, x, c, h, hs => by
    unfold clOf at h
    refine clOf_sub h ?_
    intro y d e
    split at e
    · split at e
      · rename_i c' hc'
        rw [List.lookup_cons] at e
        split at e
        · rename_i hy
          cases e
          have hy' : y = n := by simpa using hy
          rw [hy']; exact hc'
        · exact hs y d e
      · exact hs y d e
    · exact hs y d e
theorem clOf_keep {cells : List (Str × Addr)} : ∀ {l : List (Str × NameKind)} {cs : List (Str × Addr)} {x : Str}, (∃ c, cs.lookup x = some c) → ∃ c, (clOf cells l cs).lookup x = some c
  | [], cs, x, h => h
  | (n, k) :: r, cs, x, ⟨c, h⟩ => by
    unfold clOf
    refine clOf_keep ?_
    split
    · split
      · rw [List.lookup_cons]
        split
        · exact ⟨_, rfl⟩
        · exact ⟨c, h⟩
      · exact ⟨c, h⟩
    · exact ⟨c, h⟩
theorem clOf_has {cells : List (Str × Addr)} : ∀ {l : List (Str × NameKind)} {cs : List (Str × Addr)} {x : Str}, (x, NameKind.free) ∈ l → (∃ c, cells.lookup x = some c) → ∃ c, (clOf cells l cs).lookup x = some c
  | (n, k) :: r, cs, x, hm, ⟨c, hc⟩ => by
    rcases List.mem_cons.mp hm with e | hm
    · cases e
      unfold clOf
      refine clOf_keep ?_
      rw [if_pos (by rfl), hc]
      exact ⟨c, by rw [List.lookup_cons]; simp⟩
    · unfold clOf
      exact clOf_has hm ⟨c, hc⟩
theorem relabel_inv {env : Env} : ∀ {names : List (Str × NameKind)} {x : Str} {k : NameKind}, (∀ y ∈ names, y.2 ≠ .cell) →
    (names.map fun (n, k) => if (k == NameKind.free && env.scope.kind == .function && env.kindOf n == some .cell) then (n, NameKind.cell) else (n, k)).lookup x = some k → (k = .cell ∨ k = .free) → (x, NameKind.free) ∈ names
  | [], _, _, _, h, _ => by simp at h
  | (n, k0) :: r, x, k, hc, h, hk => by
    have ih := @relabel_inv env r x k (fun y hy => hc y (List.mem_cons_of_mem _ hy))
    rw [List.map_cons, List.lookup_cons] at h
    by_cases c : (k0 == NameKind.free && env.scope.kind == .function && env.kindOf n == some .cell) = true
    · have hf : k0 = .free := by
        simp only [Bool.and_eq_true, beq_iff_eq] at c
        exact c.1.1
      subst hf
      rw [if_pos c] at h
      dsimp only at h
      split at h
      · rename_i hy
        have : x = n := by simpa using hy
        subst this
        exact List.mem_cons_self
      · exact List.mem_cons_of_mem _ (ih h hk)
    · rw [if_neg c] at h
      dsimp only at h
      split at h
      · rename_i hy
        have : x = n := by simpa using hy
        subst this
        cases h
        rcases hk with rfl | rfl
        · exact absurd rfl (hc (x, .cell) List.mem_cons_self)
        · exact List.mem_cons_self
      · exact List.mem_cons_of_mem _ (ih h hk)
theorem relabel_free {env : Env} : ∀ {names : List (Str × NameKind)} {x : Str}, names.lookup x = some .free →
    (names.map fun (n, k) => if (k == NameKind.free && env.scope.kind == .function && env.kindOf n == some .cell) then (n, NameKind.cell) else (n, k)).lookup x = some .cell ∨
    (names.map fun (n, k) => if (k == NameKind.free && env.scope.kind == .function && env.kindOf n == some .cell) then (n, NameKind.cell) else (n, k)).lookup x = some .free
  | [], _, h => by simp at h
  | (n, k0) :: r, x, h => by
    have ih := @relabel_free env r x
    rw [List.lookup_cons] at h
    rw [List.map_cons, List.lookup_cons]
    by_cases c : (k0 == NameKind.free && env.scope.kind == .function && env.kindOf n == some .cell) = true
    · rw [if_pos c]
      dsimp only
      split at h
      · exact .inl rfl
      · exact ih h
    · rw [if_neg c]
      dsimp only
      split at h
      · exact .inr h
      · exact ih h
abbrev Cx.comp (X : Cx) (s : Shared) (H : Hp) (scope : Scope) (C : Addr) (N : List Str) (ex : List Addr) : Cx :=
  { X with N := N, s₀ := s, H₀ := H, env := compEnvC scope (clOf X.env.cells scope.names []) C X.env, outer := X.stack, stack := X.stack, ex := ex, fn := fun _ => false, pn := [], xe := fun _ _ => False }
structure CompSc (X : Cx) (scope : Scope) (N : List Str) (caps : List (Option Nat)) : Prop where
  kind : scope.kind = .function
  nocell : ∀ y ∈ scope.names, y.2 ≠ .cell
  names : ∀ y ∈ scope.names, y.2 = .local → scope.names.lookup y.1 = some .local
  free : ∀ y ∈ scope.names, y.2 = .free → X.env.scope.names.lookup y.1 = some .cell ∨ X.env.scope.names.lookup y.1 = some .free
  nd : N.Nodup
  len : caps.length = N.length
  capf : ∀ (j k : Nat) (x : Str), caps[j]? = some (some k) → N[j]? = some x → scope.names.lookup x = some .free
  cap : ∀ (j k : Nat) (x : Str), caps[j]? = some (some k) → N[j]? = some x → X.N[k]? = some x ∧ (X.env.scope.names.lookup x = some .cell ∨ X.env.scope.names.lookup x = some .free)
def capSt (caps : List (Option Nat)) (σ : St) : St := caps.map fun o => o.bind fun k => (σ[k]?).join
theorem capSt_get {caps : List (Option Nat)} {σ : St} {j : Nat} {v : V} (h : (capSt caps σ)[j]? = some (some v)) : ∃ k, caps[j]? = some (some k) ∧ σ[k]? = some (some v) := by
  unfold capSt at h
  rw [List.getElem?_map] at h
  cases e : caps[j]? with
  | none => rw [e] at h; cases h
  | some o =>
    rw [e] at h
    cases o with
    | none => simp at h
    | some k =>
      refine ⟨k, rfl, ?_⟩
      simp only [Option.map_some, Option.bind_some] at h
      cases e2 : σ[k]? with
      | none => rw [e2] at h; simp at h
      | some o2 => rw [e2] at h; simp at h; rw [h]
section
variable {X : Cx} {pins : List (Addr × Obj)} {σ : St} {H : Hp} {s : Shared} {scope : Scope} {N : List Str} {caps : List (Option Nat)}
theorem Inv.comp {h₁ : Heap} {C : Addr} {fp : List Addr} {t' : Nat} (I : Inv X pins σ H s) (S : CompSc X scope N caps) (hC : s.heap.objs.size ≤ C) (hf : ∀ b ∈ fp, FpOk X pins H b) (hfp : ∀ b ∈ fp, b < s.heap.objs.size)
    (old : ∀ b o, s.heap.get? b = some o → h₁.get? b = some o) (ns : ∃ m, h₁.Ns C m) : Inv (X.comp s H scope C N fp) [] (capSt caps σ) H { s with heap := h₁, toks := t' } := by
  have hcl : ∀ x c, (clOf X.env.cells scope.names []).lookup x = some c → X.env.cells.lookup x = some c := fun x c e => clOf_sub e (fun y d z => by simp at z)
  have hsub := I.stkSub
  obtain ⟨m1, hn1⟩ := ns
  have notC : ∀ {b : Addr}, b < s.heap.objs.size → b ≠ C := fun hb => Nat.ne_of_lt (Nat.lt_of_lt_of_le hb hC)
  have hasF : ∀ x, (x, NameKind.free) ∈ scope.names → ∃ c, X.env.cells.lookup x = some c := fun x hx => I.ok.has x (S.free (x, .free) hx rfl)
  refine ⟨⟨I.ok.mod, S.kind, I.ok.glob, I.ok.blt, hC, fun x y c e1 e2 => I.ok.inj x y c (hcl x c e1) (hcl y c e2), fun x hx => ?_, fun x c hx => Bool.noConfusion hx, I.ok.hd, I.ok.frames, .inl rfl, fun b hb => ⟨notC (hfp b hb), fun x c e => (hf b hb).2.2.2.2.1 x c (hcl x c e)⟩, I.bs, Nat.le_trans I.ok.bsz I.sz, fun b o e hb => ?_, fun b hb z => ?_, I.stack, I.stkFree⟩,
    rfl, I.bare, Un.kept old, ⟨m1, hn1, fun j y v e1 e2 e3 => ?_⟩, fun x c e => ?_, I.hok.fresh hC, fun x c e => I.freeC x c (hcl x c e), fun p hp => absurd (show p ∈ ([] : List (Addr × Obj)) from hp) (by simp), I.hok.kept old, by rw [show (capSt caps σ).length = caps.length by simp [capSt]]; exact S.len⟩
  · have hx' : (relabel scope X.env).names.lookup x = some .cell ∨ (relabel scope X.env).names.lookup x = some .free := hx
    have hm : (x, NameKind.free) ∈ scope.names := by
      rcases hx' with e | e
      · exact relabel_inv S.nocell e (.inl rfl)
      · exact relabel_inv S.nocell e (.inr rfl)
    exact clOf_has hm (hasF x hm)
  · obtain ⟨f0, f1, f2, f3, _⟩ := hf b hb
    rcases f3 with z | z
    · exact I.ok.noex b o e z
    · exact absurd (Nat.lt_of_lt_of_le (Heap.lt_size e) (Nat.le_trans I.ok.bsz z)) (Nat.lt_irrefl _)
  · obtain ⟨f0, f1, f2, _⟩ := hf b hb
    rcases List.mem_cons.mp (hsub b z) with e | e
    · exact f1 e
    · exact f2 e
  · obtain ⟨k, c1, c2⟩ := capSt_get e2
    obtain ⟨c3, c4⟩ := S.cap j k y c1 e1
    obtain ⟨m, hn, hl⟩ := I.loc
    obtain ⟨u, r, l⟩ := hl k y v c3 c2 (by rcases c4 with z | z; exact .inr (.inl z); exact .inr (.inr z))
    refine ⟨u, r, .inr ?_⟩
    have hv : (relabel scope X.env).names.lookup y = some .cell ∨ (relabel scope X.env).names.lookup y = some .free := relabel_free (S.capf j k y c1 e1)
    have hm : (y, NameKind.free) ∈ scope.names := by
      rcases hv with e | e
      · exact relabel_inv S.nocell e (.inl rfl)
      · exact relabel_inv S.nocell e (.inr rfl)
    obtain ⟨c, hc⟩ := clOf_has (cells := X.env.cells) (cs := []) hm (hasF y hm)
    refine ⟨hv, c, hc, ?_⟩
    rcases l with ⟨k1, _⟩ | ⟨_, c', hc', z⟩
    · exfalso
      have k1' : X.env.scope.names.lookup y = some .local := k1
      rcases c4 with z | z <;> (rw [k1'] at z; cases z)
    · rw [hcl y c hc] at hc'
      cases hc'
      obtain ⟨o, eo, d⟩ := z
      exact ⟨o, old _ _ eo, d⟩
  · obtain ⟨v, o, eo, d⟩ := I.cell x c (hcl x c e)
    exact ⟨v, o, old _ _ eo, d⟩
end
section
variable {prog : Program} {w : World} {A : Around} {E : Value → Shared → Prop} {R : Result → Shared → Prop} {s : Shared}
theorem comp_loop {elt target iter : Expr} {ifs : List Expr} {scope : Scope} {pos : Pos} {it acc : Value} {env : Env} (I : Nat → Shared → Prop)
    (turn : ∀ n s, I n s → wpAny (model prog w) A (pyNext it) (fun r s₁ => match r with
      | none => R (.ok .next) s₁
      | some v => wpAny (model prog w) A (letOwnedTupleGo target it v) (fun _ s₁' => wpAny (model prog w) A (assign target env v) (fun _ s₂ =>
          wpAny (model prog w) A (forIn ifs true fun c r => if r = true then do let ok ← isTrue c env (eval c env); pure (ForInStep.yield ok) else pure (ForInStep.yield r)) (fun ok s₃ =>
            if ok = true then wpAny (model prog w) A (eval elt env) (fun x s₄ =>
              wpAny (model prog w) A (call (.builtin "list.append") [acc, x]) (fun _ s₅ => ∃ m, m < n ∧ I m s₅) (notedBy (model prog w) A env fun e s' => R (.error e) s') s₄) (notedBy (model prog w) A env fun e s' => R (.error e) s') s₃
            else ∃ m, m < n ∧ I m s₃) (notedBy (model prog w) A env fun e s' => R (.error e) s') s₂) (notedBy (model prog w) A env fun e s' => R (.error e) s') s₁') (notedBy (model prog w) A env fun e s' => R (.error e) s') s₁) (notedBy (model prog w) A env fun e s' => R (.error e) s') s)
    (n : Nat) (h : I n s) :
    codeAny (model prog w) A (.compLoop (.ListComp elt [⟨target, iter, ifs, 0⟩] scope pos) 0 it acc env) R s := by
  refine codeAny_loop rfl I (fun n s hI => ?_) n h
  show wpAny _ A ((compTurn (.ListComp elt [⟨target, iter, ifs, 0⟩] scope pos) 0 it acc env).onRaise (fun x => do noteFrame x env; theTreesLotGoes x)) _ _ s
  refine wpAny_noted ?_
  rw [compTurn_list]
  refine wpAny_bind (wpAny_standAt (wpAny_bind (wpAny_mono (turn n s hI) (fun r s₁ h₁ => ?_) fun _ _ h' => h')))
  cases r with
  | none => exact wpAny_pure h₁
  | some v =>
    refine wpAny_bind (wpAny_mono h₁ (fun _ s₁' h₁' => ?_) fun _ _ h' => h')
    refine wpAny_bind (wpAny_mono h₁' (fun _ s₂ h₂ => wpAny_bind (wpAny_mono h₂ (fun ok s₃ h₃ => ?_) fun _ _ h' => h')) fun _ _ h' => h')
    cases ok with
    | false => exact wpAny_pure ⟨rfl, h₃⟩
    | true =>
      exact wpAny_bind (wpAny_bind (wpAny_mono h₃ (fun x s₄ h₄ => wpAny_bind (wpAny_mono h₄ (fun _ s₅ h₅ => wpAny_pure (wpAny_pure ⟨rfl, h₅⟩)) fun _ _ h' => h')) fun _ _ h' => h'))
end
section
variable {X : Cx} {pins : List (Addr × Obj)} {σ : St} {H : Hp} {s : Shared} {scope : Scope} {N : List Str} {caps : List (Option Nat)}
abbrev lstO (us : List Value) : Obj := { cls := .type "list", data := .seq us.toArray us.length }
theorem lstO_snoc (ys : List Value) (y : Value) : ({ cls := .type "list", data := .seq (ys.toArray.push y) (ys.length + 1) } : Obj) = lstO (ys ++ [y]) := by
  show ({ cls := .type "list", data := .seq (ys.toArray.push y) (ys.length + 1) } : Obj) = { cls := .type "list", data := .seq (ys ++ [y]).toArray (ys ++ [y]).length }
  rw [List.length_append, List.length_singleton, List.push_toArray]
def OnlyOwn (caps : List (Option Nat)) (g : TG) : Prop := ∀ x σ0 H Q, g x σ0 H Q → g x σ0 H fun σ2 H2 => Q σ2 H2 ∧ σ2.length = σ0.length ∧ ∀ (j k : Nat) (v : V), caps[j]? = some (some k) → σ0[j]? = some (some v) → σ2[j]? = some (some v)
theorem onlyOwn_name {i : Nat} (h : caps[i]? = some none) : OnlyOwn caps (gName i) := fun x σ0 H Q q => by
  refine ⟨q, by simp, fun j k v hj hv => ?_⟩
  have : j ≠ i := fun z => by rw [z, h] at hj; cases hj
  rw [List.getElem?_set_ne (Ne.symm this)]
  exact hv
end
end L2
set_option Elab.async false
set_option linter.all false
set_option maxRecDepth 100000
namespace L2
open PySem PySem.Spec PyProof.Rows
def PF (X : Cx) (e : Expr) (n : Nat) (t : St → Hp → Prop) : Prop :=
  ∀ (pins : List (Addr × Obj)) (s : Shared) (σ : St) (H : Hp), Inv X pins σ H s → t σ H → wpAny (model X.prog X.w) X.A (eval e X.env) (fun u s' => ∃ x tk, u = .str x tk ∧ x.length ≤ n ∧ Inv X pins σ H s') X.xe s
def PFs (X : Cx) (es : List Expr) (n : Nat) (t : St → Hp → Prop) : Prop :=
  ∀ (pins : List (Addr × Obj)) (s : Shared) (σ : St) (H : Hp) (out : Str), Inv X pins σ H s → t σ H → out.length + n ≤ sizeLine → wpAny (model X.prog X.w) X.A (joinParts out (evalEach es X.env)) (fun u s' => ∃ x tk, u = .str x tk ∧ x.length ≤ out.length + n ∧ Inv X pins σ H s') X.xe s
def tIntB (te : TE) : St → Hp → Prop := fun σ H => te σ H fun v H' => H' = H ∧ ∃ i : Int, v = .int i ∧ i.natAbs.log2 < 1920
section
variable {X : Cx}
theorem pf_str {x : Str} {j pos} : PF X (.Constant (.str x) j pos) x.length (fun _ _ => True) := fun pins s σ H I _ => Calls.Constant_str ⟨x, _, rfl, Nat.le_refl _, I.tok _⟩
theorem pf_int {e : Expr} {pos : Pos} {te : TE} (he : PE X e te) : PF X (.FormattedValue e (-1) none pos) 1921 (tIntB te) := by
  intro pins s σ H I h
  refine FormattedValue_plain (thn (he pins s σ H _ I h) fun v s1 ⟨x, H1, I1, r1, e1, i, e2, hl⟩ => ?_)
  subst e1 e2
  obtain ⟨t, rfl⟩ := r1
  refine formatField_int_small hl ⟨_, _, rfl, ?_, I1.tok _⟩
  have := int_text_length_le (k := 1920) (by decide) hl
  show (Str.ofString (toString i)).length ≤ 1921
  rw [PySem.ofString_length]
  exact this
theorem pfs_nil : PFs X [] 0 (fun _ _ => True) := fun pins s σ H out I _ hz => joinParts_nil ⟨out, _, rfl, Nat.le_add_right _ _, I.tok _⟩ (by omega)
theorem pfs_cons {e : Expr} {es : List Expr} {n m : Nat} {t u : St → Hp → Prop} (h1 : PF X e n t) (h2 : PFs X es m u) : PFs X (e :: es) (n + m) (fun σ H => t σ H ∧ u σ H) := by
  intro pins s σ H out I ⟨ht, hu⟩ hz
  show wpAny _ _ (joinParts out (eval e X.env :: evalEach es X.env)) _ _ s
  refine joinParts_cons (thn (h1 pins s σ H I ht) fun v s1 ⟨x, tk, e1, hl, I1⟩ => ?_)
  subst e1
  have el : (out ++ x).length = out.length + x.length := strLen_append ..
  refine ⟨by rw [el]; omega, thn (h2 pins s1 σ H (out ++ x) I1 hu (by rw [el]; omega)) fun v s2 ⟨y, tk2, e2, hl2, I2⟩ => ⟨y, tk2, e2, by rw [el] at hl2; omega, I2⟩⟩
def tFstr (t : St → Hp → Prop) : TE := fun σ H Q => t σ H ∧ ∀ x, Q (.str x) H
theorem pe_fstr {v1 v2 : Expr} {rest : List Expr} {pos : Pos} {n : Nat} {t : St → Hp → Prop} (h : PFs X (v1 :: v2 :: rest) n t) (hn : n ≤ 100000 := by decide) : PE X (.JoinedStr (v1 :: v2 :: rest) pos) (tFstr t) := by
  intro pins s σ H Q I ⟨ht, hq⟩
  refine JoinedStr_many (thn (h pins s σ H Str.empty I ht ?_) fun u s' ⟨x, tk, e, _, I'⟩ => ?_)
  · have e0 : Str.empty.length = 0 := rfl
    rw [e0, sizeLine_eq]; omega
  · subst e
    exact ⟨.str x, H, I', ⟨_, rfl⟩, hq x⟩
end
section
variable {X : Cx} {pins : List (Addr × Obj)} {σ : St} {H : Hp} {s : Shared}
structure ExcK (K : PySem.W.Frag) (D : Addr) : Prop where
  ga : PySem.W.findIn K (.ref D) "__getattribute__" = some (some (.builtin "BaseException.__getattribute__"))
  gh : PySem.W.findIn K (.ref D) "__getattr__" = some none
  ha : PySem.W.findIn K (.ref D) "__class__" = some (some (.builtin "object.__class__"))
  hn : PySem.W.specialIn K (.builtin "object.__class__") "__get__" = some (some (.builtin "getset_descriptor.__get__"))
  htk : PySem.W.takesIn K (.builtin "object.__class__") = some true
  hm : PySem.W.mroIn K D (.type "object") = some true
  hb : PySem.W.mroIn K D (.type "BaseException") = some true
  hc : (PySem.W.clsIn K D).isSome = true
def ExcIs (e D : Addr) (h : Heap) : Prop := ∃ o, h.get? e = some o ∧ o.cls = .ref D
theorem excIs_ty {e D : Addr} {M : Model} {h : Heap} (p : ExcIs e D h) : PySem.W.Looks M h (typeOf (.ref e)) (.ref D) := by
  obtain ⟨o, h1, h2⟩ := p
  exact h2 ▸ (PySem.W.Looks.ld h1).andThen .now
end
end L2
namespace PySem.W
open PySem PySem.Spec PySem.Calls PyProof.Rows Builtin Builtin.ObjectAttr Builtin.Getset_descriptor
section
variable {prog : Program} {w : World} {A : Around} {E : Value → Shared → Prop} {s : Shared} {K : Frag} {x C : Addr}
theorem exc_class_get {R : Result → Shared → Prop} {tp : Value} (X : K.In s.heap) (I : L2.ExcIs x C s.heap) (hm : mroIn K C (.type "object") = some true)
    (h : R (.ok (.ret (.ref C))) s) : codeAny (model prog w) A (.call (.builtin "getset_descriptor.__get__") ⟨[.builtin "object.__class__", .ref x, tp], []⟩) R s := by
  obtain ⟨hh, g, dr, t, os⟩ := s
  have L0 := L2.excIs_ty (M := model prog w) I
  have L1 := looks_mroIn (M := model prog w) X hm
  refine codeAny_call_builtin KF.slot_gs.plain KF.entry_gs (KF.slot_gs.check _ _ _ _ _ _ _ _ KF.type_class (KF.args_gs _ _ _) ?_)
  unfold Builtin.«getset_descriptor.__get__» descrGet
  rw [dga_obj]
  refine wpAny_bind (wpAny_pure ?_)
  unfold descrGetter descrCheckInstance descrNameAndClass isInstance
  simp only [KF.owner_class]
  repeat lk
  refine ⟨Code.quiet_builtin _ (by decide +kernel), codeAny_builtin KF.entry_class ?_⟩
  unfold Builtin.«object.__class__» shownTypeOf
  repeat lk
  exact h
theorem exc_find {M : Model} (X : K.In s.heap) (k : L2.ExcK K C) : Looks M s.heap (find (.ref x) (.ref C) "__class__") (.bind (.builtin "getset_descriptor.__get__") (.builtin "object.__class__")) := by
  have L1 := looks_findIn (M := M) X k.ha
  have L2 : Looks M s.heap (getOf (some (.builtin "object.__class__"))) (some (.builtin "getset_descriptor.__get__")) := looks_specialIn X k.hn
  have L3 := looks_takesIn (M := M) X k.htk
  exact L1.andThen (L2.andThen ((show Looks M s.heap (dataDescriptor? (some (.builtin "object.__class__")) (some (.builtin "getset_descriptor.__get__"))) (some (.builtin "getset_descriptor.__get__", .builtin "object.__class__")) from L3.andThen .now).andThen (Looks.tag .now)))
theorem exc_entry {tk : Tok} {Q : PySem.Fin → Shared → Prop} (X : K.In s.heap) (I : L2.ExcIs x C s.heap) (k : L2.ExcK K C) (h : Q (.done (.ret (.ref C))) s) :
    wpAny (model prog w) A (Builtin.«object.__getattribute__» ⟨[.ref x, .str "__class__" tk], []⟩) Q E s := by
  obtain ⟨hh, g, d, t, os⟩ := s
  have L0 := L2.excIs_ty (M := model prog w) I
  have LF := exc_find (M := model prog w) (x := x) X k
  unfold Builtin.«object.__getattribute__»
  refine wpAny_bind (wpAny_pure ?_)
  refine wpAny_bind (wpAny_pure ?_)
  refine wpAny_bind (L0.at (wpAny_bind (LF.at ?_)))
  show wpAny _ _ (holding [.builtin "object.__class__"] (call (.builtin "getset_descriptor.__get__") [.builtin "object.__class__", .ref x, .ref C]) >>= fun v => ret v) _ _ _
  refine wpAny_bind (wpAny_holding (wpAny_call (exc_class_get (s := ⟨hh, g, d, t, os⟩) X I k.hm ?_)))
  exact wpAny_pure h
theorem exc_check {M : Model} {nameV : Value} {Q : Unit → Shared → Prop} (X : K.In s.heap) (I : L2.ExcIs x C s.heap) (k : L2.ExcK K C) (hq : Q () s) : wpAny M A (checkBuiltinCall "BaseException.__getattribute__" ⟨[.ref x, nameV], []⟩) Q E s := by
  obtain ⟨hh, g, d, t, os⟩ := s
  have L0 := L2.excIs_ty (M := M) I
  have L3 := looks_mroIn (M := M) X k.hb
  have hk : builtinKind "BaseException.__getattribute__" = some .slot := by decide +kernel
  have hsplit : splitId "BaseException.__getattribute__" = some ("BaseException", "__getattribute__") := by decide +kernel
  have hargs := PySem.F.args_bexc_ga (.ref x) nameV
  simp only [checkBuiltinCall, hk, hsplit]
  refine wpAny_bind ?_
  unfold isInstance
  refine wpAny_bind (L0.at (L3.at ?_))
  simp only [if_true, Bool.not_true, Bool.false_eq_true, if_false]
  repeat (first | assumption | wp_step)
theorem exc_class {Q : Option Value → Shared → Prop} (X : K.In s.heap) (I : L2.ExcIs x C s.heap) (k : L2.ExcK K C) (h : Q (some (.ref C)) { s with toks := s.toks + 1 }) : wpAny (model prog w) A (getAttr? (.ref x) "__class__") Q E s := by
  obtain ⟨hh, g, d, t, os⟩ := s
  have L0 := L2.excIs_ty (M := model prog w) I
  have L1 := looks_findIn (M := model prog w) X k.ga
  have L2' := looks_findIn (M := model prog w) X k.gh
  unfold getAttr? getAttrBy? getAttrBy
  refine wpAny_bind (wpAny_mkText (wpAny_bind (wpAny_attempt (wpAny_holding (wpAny_bind (L0.at (wpAny_bind (L1.at ?_))))))))
  dsimp only
  have hx : (onTheHeap (Value.ref C) && Value.builtin "BaseException.__getattribute__" == Value.builtin "object.__getattribute__") = false := by
    have hx2 : (Value.builtin "BaseException.__getattribute__" == Value.builtin "object.__getattribute__") = false := by decide +kernel
    rw [hx2]; rfl
  rw [hx]
  rw [if_neg Bool.false_ne_true]
  have f3 := PySem.F.excAttr_ValueError.ga.bind (.ref x)
  unfold getAttrByItsOwn
  refine wpAny_bind ?_
  show wpAny _ _ (typeLookup (.ref C) "__getattr__") _ _ _
  refine L2'.at ?_
  refine wpAny_bind (wpAny_attempt (wpAny_holding ?_))
  show wpAny _ _ (bindSpecial (.builtin "BaseException.__getattribute__") (.ref x) >>= fun p => call p.1 (p.2 ++ [.str "__class__" t])) _ _ _
  refine wpAny_bind (wpAny_of_eq f3 ?_)
  show wpAny _ _ (call (.builtin "BaseException.__getattribute__") [.ref x, .str "__class__" t]) _ _ _
  refine wpAny_call (codeAny_call_builtin PySem.F.excAttr_ValueError.ga.plain PySem.F.entry_bexc_ga ?_)
  refine exc_check (s := ⟨hh, g, d, t + 1, os⟩) X I k ?_
  refine exc_entry (s := ⟨hh, g, d, t + 1, os⟩) X I k ?_
  exact handed_on rfl (wpAny_pure h)
end
end PySem.W
namespace L2
open PySem PySem.Spec PyProof.Rows
theorem kitx_exc {K : PySem.W.Frag} {e D : Addr} (k : ExcK K D) : PySem.W.KitX K (.ref e) (.ref D) (ExcIs e D) where
  ty := fun _ _ _ p => excIs_ty p
  it := fun _ _ X _ => by
    have hc := k.hc
    unfold PySem.W.clsIn at hc
    split at hc
    · rename_i c' d' cd' sl' ho
      intro A' Q' E' s' k q
      unfold isType loadHead
      exact wpAny_bind (wpAny_loadPart (k _ _ (X _ _ ho)) (wpAny_pure q))
    · cases hc
  ne := fun h tp dd its n sl X htp => by
    have hc := k.hc
    refine Bool.eq_false_iff.mpr fun q => ?_
    have e : D = tp := Value.ref.inj (beq_iff_eq.mp q)
    subst e
    unfold PySem.W.clsIn at hc
    split at hc
    · rename_i c' d' cd' sl' ho
      have z := (X _ _ ho).symm.trans htp
      cases z
    · cases hc
  ca := fun X I h => PySem.W.exc_class X I k h
section
variable {X : Cx} {pins : List (Addr × Obj)} {σ : St} {H : Hp} {s : Shared}
def TyX (K : PySem.W.Frag) (H : Hp) (x : V) (t : Value) : Prop := TyOf K H x t ∨ ∃ e D, x = .ref e ∧ t = .ref D ∧ H e = some (ExcO e (.ref D)) ∧ ExcK K D
def cV : V → Value
  | .ref a => .ref a
  | .ty n => .type n
  | _ => .none
theorem cV_rel {v : V} {u : Value} (h : RelV v u) (hv : cV v ≠ .none) : u = cV v := by
  cases v with
  | ref a => exact h
  | ty n => exact h
  | _ => exact absurd rfl hv
theorem call_isi : CallR X (.builtin "isinstance") (fun xs H Q => ∃ x c t b, xs = [x, c] ∧ cV c ≠ .none ∧ TyX X.K H x t ∧ PySem.W.kitOne X.K t (cV c) = some b ∧ Q (.bl b) H) := by
  intro pins s σ H xs us Q I r h
  obtain ⟨x, c, t, b, rfl, hc, ty, hk, q⟩ := h
  obtain ⟨u1, u2, rfl, r1, r2⟩ := vals2 r
  rw [cV_rel r2 hc]
  have fin : ∀ tk, EP X pins σ Q (.bool b) { s with toks := tk } := fun tk => ⟨.bl b, H, I.tok tk, rfl, q⟩
  rcases ty with ty | ⟨e, D, rfl, rfl, he, kk⟩
  · exact isinst_ok I r1 ty hk fin
  · cases (show u1 = Value.ref e from r1)
    obtain ⟨p, _, _⟩ := (show ObjOk X.prog X.w H s.heap e (ExcO e (.ref D)) from I.hok e _ he)
    exact PySem.W.kia_one (kitx_exc kk) I.kIn p hk (fun z => nomatch z) fin
end
end L2
set_option Elab.async false
set_option linter.all false
set_option maxRecDepth 100000
namespace L2
open PySem PySem.Spec PyProof.Rows
inductive D where
  | non | bl (b : Bool) | int (i : Int) | str (x : Str) | lst (l : List D) | tup (l : List D)
  | ins (C : Addr) (ns : List Str) (l : List D)
  | dct (ks : List (List Key)) (l : List D)
  | scr (ns : List Int)
inductive Res (α : Type) where
  | ok (a : α) | exc (c : Addr) | bad
def Res.bind {α β : Type} : Res α → (α → Res β) → Res β
  | .ok a, f => f a
  | .exc c, _ => .exc c
  | .bad, _ => .bad
structure LsS (K : PySem.W.Frag) (G : Hp) (a : Addr) (xs : List V) : Prop where
  h : G a = some (.lst xs)
theorem LsS.of {K : PySem.W.Frag} {G : Hp} {a : Addr} {xs : List V} (h : G a = some (.lst xs)) : LsS K G a xs := ⟨h⟩
theorem LsS.sq {K : PySem.W.Frag} {G : Hp} {a : Addr} {xs : List V} (h : LsS K G a xs) : SqL K G a xs := .inl (.inl h.h)
structure TpS (K : PySem.W.Frag) (G : Hp) (a : Addr) (xs : List V) : Prop where
  h : G a = some (.tup xs)
theorem TpS.of {K : PySem.W.Frag} {G : Hp} {a : Addr} {xs : List V} (h : G a = some (.tup xs)) : TpS K G a xs := ⟨h⟩
theorem TpS.sq {K : PySem.W.Frag} {G : Hp} {a : Addr} {xs : List V} (h : TpS K G a xs) : SqT K G a xs := .inl (.inl h.h)
instance {K : PySem.W.Frag} {G : Hp} {a : Addr} {xs : List V} : Coe (TpS K G a xs) (SqT K G a xs) := ⟨TpS.sq⟩
mutual
def Rep (K : PySem.W.Frag) (G : Hp) : D → V → Prop
  | .non, v => v = .non
  | .bl b, v => v = .bl b
  | .int i, v => v = .int i
  | .str x, v => v = .str x
  | .lst ds, v => ∃ a xs, v = .ref a ∧ LsS K G a xs ∧ RepL K G ds xs
  | .tup ds, v => ∃ a xs, v = .ref a ∧ TpS K G a xs ∧ RepL K G ds xs
  | .ins C ns ds, v => ∃ a dx fs, v = .ref a ∧ G a = some (.ins C dx fs) ∧ fs.map (·.1) = ns ∧ RepL K G ds (fs.map (·.2))
  | .dct ks ds, v => ∃ a kvs, v = .ref a ∧ Rd G a (.dT kvs) ∧ kvs.map (·.1) = ks ∧ RepL K G ds (kvs.map (·.2))
  | .scr ns, v => ∃ a, v = .ref a ∧ SqL K G a (ns.map V.int)
def RepL (K : PySem.W.Frag) (G : Hp) : List D → List V → Prop
  | [], vs => vs = []
  | d :: ds, vs => ∃ v r, vs = v :: r ∧ Rep K G d v ∧ RepL K G ds r
end
theorem Same.seqT {K : PySem.W.Frag} {H H' : Hp} {a : Addr} {xs : List V} (e : Same H H') (h : SqT K H a xs) : SqT K H' a xs := by
  rcases h with (h | ⟨o, h⟩) | h
  · exact .inl (.inl (e _ _ h))
  · exact .inl (.inr ⟨o, e _ _ h⟩)
  · exact .inr h
mutual
theorem Rep.mono {K : PySem.W.Frag} {G G' : Hp} (e : Same G G') : ∀ {d : D} {v : V}, Rep K G d v → Rep K G' d v
  | .non, _, h => h
  | .bl _, _, h => h
  | .int _, _, h => h
  | .str _, _, h => h
  | .lst _, _, h => by
    unfold Rep at h ⊢
    obtain ⟨a, xs, r, s, t⟩ := h
    exact ⟨a, xs, r, ⟨e _ _ s.h⟩, RepL.mono e t⟩
  | .tup _, _, h => by
    unfold Rep at h ⊢
    obtain ⟨a, xs, r, s, t⟩ := h
    exact ⟨a, xs, r, ⟨e _ _ s.h⟩, RepL.mono e t⟩
  | .ins _ _ _, _, h => by
    unfold Rep at h ⊢
    obtain ⟨a, dx, fs, r, s, n, t⟩ := h
    exact ⟨a, dx, fs, r, e _ _ s, n, RepL.mono e t⟩
  | .dct _ _, _, h => by
    unfold Rep at h ⊢
    obtain ⟨a, kvs, r, s, n, t⟩ := h
    refine ⟨a, kvs, r, ?_, n, RepL.mono e t⟩
    rcases s with s | ⟨o, s⟩
    · exact .inl (e _ _ s)
    · exact .inr ⟨o, e _ _ s⟩
  | .scr _, _, h => by
    unfold Rep at h ⊢
    obtain ⟨a, r, s⟩ := h
    exact ⟨a, r, e.seq s⟩
theorem RepL.mono {K : PySem.W.Frag} {G G' : Hp} (e : Same G G') : ∀ {ds : List D} {vs : List V}, RepL K G ds vs → RepL K G' ds vs
  | [], _, h => h
  | _ :: _, _, h => by
    unfold RepL at h ⊢
    obtain ⟨v, r, q, a, b⟩ := h
    exact ⟨v, r, q, Rep.mono e a, RepL.mono e b⟩
end
theorem RepL.length {K : PySem.W.Frag} {G : Hp} : ∀ {ds : List D} {vs : List V}, RepL K G ds vs → ds.length = vs.length
  | [], vs, h => by unfold RepL at h; rw [h]; rfl
  | d :: ds, vs, h => by
    unfold RepL at h
    obtain ⟨v, r, rfl, _, b⟩ := h
    rw [List.length_cons, List.length_cons, RepL.length b]
theorem RepL.nil {K : PySem.W.Frag} {G : Hp} : RepL K G [] [] := by unfold RepL; rfl
theorem RepL.cons {K : PySem.W.Frag} {G : Hp} {d : D} {v : V} {ds : List D} {vs : List V} (a : Rep K G d v) (b : RepL K G ds vs) : RepL K G (d :: ds) (v :: vs) := by unfold RepL; exact ⟨v, vs, rfl, a, b⟩
theorem RepL.inv {K : PySem.W.Frag} {G : Hp} {d : D} {ds : List D} {vs : List V} (h : RepL K G (d :: ds) vs) : ∃ v r, vs = v :: r ∧ Rep K G d v ∧ RepL K G ds r := by unfold RepL at h; exact h
theorem RepL.inv0 {K : PySem.W.Frag} {G : Hp} {vs : List V} (h : RepL K G [] vs) : vs = [] := by unfold RepL at h; exact h
theorem RepL.append {K : PySem.W.Frag} {G : Hp} : ∀ {ds es : List D} {vs ws : List V}, RepL K G ds vs → RepL K G es ws → RepL K G (ds ++ es) (vs ++ ws)
  | [], _, _, _, h, h' => by rw [h.inv0]; exact h'
  | _ :: _, _, _, _, h, h' => by
    obtain ⟨v, r, rfl, a, b⟩ := h.inv
    exact .cons a (RepL.append b h')
theorem RepL.get {K : PySem.W.Frag} {G : Hp} : ∀ {ds : List D} {vs : List V} {i : Nat} {d : D}, RepL K G ds vs → ds[i]? = some d → ∃ v, vs[i]? = some v ∧ Rep K G d v
  | [], _, _, _, _, e => by simp at e
  | _ :: _, _, 0, _, h, e => by
    obtain ⟨v, r, rfl, a, b⟩ := h.inv
    simp at e; subst e
    exact ⟨v, rfl, a⟩
  | _ :: _, _, i + 1, _, h, e => by
    obtain ⟨v, r, rfl, a, b⟩ := h.inv
    obtain ⟨w, h1, h2⟩ := RepL.get (i := i) b (by simpa using e)
    exact ⟨w, by simpa using h1, h2⟩
theorem RepL.take {K : PySem.W.Frag} {G : Hp} : ∀ {ds : List D} {vs : List V} (n : Nat), RepL K G ds vs → RepL K G (ds.take n) (vs.take n)
  | _, _, 0, _ => by simpa using RepL.nil
  | [], _, _ + 1, h => by rw [h.inv0]; simpa using RepL.nil
  | _ :: _, _, n + 1, h => by
    obtain ⟨v, r, rfl, a, b⟩ := h.inv
    exact .cons a (RepL.take n b)
theorem RepL.drop {K : PySem.W.Frag} {G : Hp} : ∀ {ds : List D} {vs : List V} (n : Nat), RepL K G ds vs → RepL K G (ds.drop n) (vs.drop n)
  | _, _, 0, h => h
  | [], _, _ + 1, h => by rw [h.inv0]; simpa using RepL.nil
  | _ :: _, _, n + 1, h => by
    obtain ⟨v, r, rfl, a, b⟩ := h.inv
    exact RepL.drop n b
theorem RepL.ints {K : PySem.W.Frag} {G : Hp} : ∀ {ns : List Int} {vs : List V}, RepL K G (ns.map D.int) vs → vs = ns.map V.int
  | [], _, h => h.inv0
  | n :: ns, _, h => by
    obtain ⟨v, r, rfl, a, b⟩ := RepL.inv (by simpa using h)
    rw [RepL.ints b]
    have a' : v = .int n := by unfold Rep at a; exact a
    rw [a']; rfl
structure Ext (G H G' H' : Hp) : Prop where
  hh : Same H H'
  gg : Same G G'
  gh : Same G' H'
  nw : ∀ b o, G' b = some o → G b = some o ∨ H b = none
theorem Ext.refl {G H : Hp} (s : Same G H) : Ext G H G H := ⟨.refl _, .refl _, s, fun _ _ h => .inl h⟩
theorem Ext.trans {G H G1 H1 G2 H2 : Hp} (a : Ext G H G1 H1) (b : Ext G1 H1 G2 H2) : Ext G H G2 H2 :=
  ⟨a.hh.trans b.hh, a.gg.trans b.gg, b.gh, fun c o h => (b.nw c o h).elim (fun z => a.nw c o z) fun z => .inr (a.hh.free z)⟩
theorem Ext.new {G H : Hp} (s : Same G H) {p : Addr} (hp : H p = none) (o : HO) : Ext G H (upd G p o) (upd H p o) :=
  ⟨fun b u e => by rw [upd_ne (ne_of_none e hp)]; exact e, fun b u e => by rw [upd_ne (ne_of_none (s b u e) hp)]; exact e,
    fun b u e => by
      by_cases hb : b = p
      · subst hb; rw [upd_same] at e ⊢; exact e
      · rw [upd_ne hb] at e ⊢; exact s b u e,
    fun b u e => by
      by_cases hb : b = p
      · subst hb; exact .inr hp
      · rw [upd_ne hb] at e; exact .inl e⟩
def OkR {α : Type} (E : XK) (H : Hp) : Res α → Prop
  | .ok _ => True
  | .exc c => ∀ H', Same H H' → E (.ref c) none H'
  | .bad => False
theorem OkR.fst {α β : Type} {E : XK} {H : Hp} {x : Res α} {f : α → Res β} (h : OkR E H (x.bind f)) : OkR E H x := by
  cases x with
  | ok a => trivial
  | exc c => exact h
  | bad => exact h
theorem OkR.snd {α β : Type} {E : XK} {H H1 : Hp} {x : Res α} {f : α → Res β} {a : α} (h : OkR E H (x.bind f)) (e : x = .ok a) (s : Same H H1) : OkR E H1 (f a) := by
  subst e
  have h' : OkR E H (f a) := h
  cases q : f a with
  | ok b => trivial
  | exc c => rw [q] at h'; exact fun H' s' => h' H' (s.trans s')
  | bad => rw [q] at h'; exact h'
theorem OkR.le {α : Type} {E : XK} {H H1 : Hp} {x : Res α} (h : OkR E H x) (s : Same H H1) : OkR E H1 x := by
  cases x with
  | ok b => trivial
  | exc c => exact fun H' s' => h H' (s.trans s')
  | bad => exact h
theorem bind_ok {α β : Type} {x : Res α} {f : α → Res β} {a : α} {b : β} (e : x = .ok a) (h : f a = .ok b) : x.bind f = .ok b := by subst e; exact h
abbrev DS := List (Option D)
def Ro (K : PySem.W.Frag) (G : Hp) (σ : St) (ρ : DS) : Prop := ∀ (i : Nat) (d : D), ρ[i]? = some (some d) → ∃ v, σ[i]? = some (some v) ∧ Rep K G d v
theorem Ro.mono {K : PySem.W.Frag} {G G' : Hp} {σ : St} {ρ : DS} (h : Ro K G σ ρ) (s : Same G G') : Ro K G' σ ρ := fun i d e => let ⟨v, a, b⟩ := h i d e; ⟨v, a, b.mono s⟩
theorem Ro.nil {K : PySem.W.Frag} {G : Hp} {σ : St} : Ro K G σ [] := fun i d e => by simp at e
theorem Ro.cons {K : PySem.W.Frag} {G : Hp} {σ : St} {ρ : DS} {v : V} {d : D} (a : Rep K G d v) (h : Ro K G σ ρ) : Ro K G (some v :: σ) (some d :: ρ) := fun i e q => by
  cases i with
  | zero => simp at q; subst q; exact ⟨v, rfl, a⟩
  | succ i => simpa using h i e (by simpa using q)
theorem Ro.skip {K : PySem.W.Frag} {G : Hp} {σ : St} {ρ : DS} {o : Option V} (h : Ro K G σ ρ) : Ro K G (o :: σ) (none :: ρ) := fun i e q => by
  cases i with
  | zero => simp at q
  | succ i => simpa using h i e (by simpa using q)
def DP (X : Cx) (pins : List (Addr × Obj)) (σ : St) (G H : Hp) (d : D) (u : Value) (s' : Shared) : Prop := ∃ v G' H', Inv X pins σ H' s' ∧ RelV v u ∧ Ext G H G' H' ∧ Rep X.K G' d v
def PD (X : Cx) (E : XK) (e : Expr) (f : DS → Res D) : Prop :=
  ∀ (pins : List (Addr × Obj)) (s : Shared) (σ : St) (G H : Hp) (ρ : DS), Inv X pins σ H s → Same G H → Ro X.K G σ ρ → OkR E H (f ρ) →
    wpAny (model X.prog X.w) X.A (eval e X.env) (fun u s' => ∃ d, f ρ = .ok d ∧ DP X pins σ G H d u s') X.xe s
def PDA (X : Cx) (E : XK) (es : List Expr) (f : DS → Res (List D)) : Prop :=
  ∀ (pos : Pos) (pins : List (Addr × Obj)) (s : Shared) (σ : St) (G H : Hp) (ρ : DS), Inv X pins σ H s → Same G H → Ro X.K G σ ρ → OkR E H (f ρ) →
    wpAny (model X.prog X.w) X.A (spliced (backTo pos (starEach es X.env))) (fun us s' => ∃ ds, f ρ = .ok ds ∧ ∃ vs G' H', Inv X pins σ H' s' ∧ Vals vs us ∧ Ext G H G' H' ∧ RepL X.K G' ds vs) X.xe s
def PDT (X : Cx) (E : XK) (e : Expr) (f : DS → Res Bool) : Prop :=
  ∀ (pins : List (Addr × Obj)) (s : Shared) (σ : St) (G H : Hp) (ρ : DS), Inv X pins σ H s → Same G H → Ro X.K G σ ρ → OkR E H (f ρ) →
    wpAny (model X.prog X.w) X.A (isTrue e X.env (eval e X.env)) (fun b s' => f ρ = .ok b ∧ ∃ G' H', Inv X pins σ H' s' ∧ Ext G H G' H') X.xe s
def PDW (X : Cx) (E : XK) (e : Expr) (f : DS → Res Bool) : Prop :=
  ∀ (whole : Sem Value) (pins : List (Addr × Obj)) (s : Shared) (σ : St) (G H : Hp) (ρ : DS), Inv X pins σ H s → Same G H → Ro X.K G σ ρ → OkR E H (f ρ) →
    wpAny (model X.prog X.w) X.A (isTrue e X.env whole) (fun b s' => f ρ = .ok b ∧ ∃ G' H', Inv X pins σ H' s' ∧ Ext G H G' H') X.xe s
theorem PDW.pt {X : Cx} {E : XK} {e : Expr} {f : DS → Res Bool} (h : PDW X E e f) : PDT X E e f := h _
def tD (K : PySem.W.Frag) (E : XK) (f : DS → Res D) : TE := fun σ H Q => ∃ G ρ, Same G H ∧ Ro K G σ ρ ∧ OkR E H (f ρ) ∧ ∀ d, f ρ = .ok d → ∀ v G' H', Ext G H G' H' → Rep K G' d v → Q v H'
theorem pe_d {X : Cx} {E : XK} {e : Expr} {f : DS → Res D} (h : PD X E e f) : PE X e (tD X.K E f) := by
  intro pins s σ H Q I ⟨G, ρ, hs, hr, ho, k⟩
  refine thn (h pins s σ G H ρ I hs hr ho) fun u s' ⟨d, e, v, G', H', I', rv, x, rp⟩ => ⟨v, H', I', rv, k d e v G' H' x rp⟩
def tDA (K : PySem.W.Frag) (E : XK) (f : DS → Res (List D)) : TA := fun σ H Q => ∃ G ρ, Same G H ∧ Ro K G σ ρ ∧ OkR E H (f ρ) ∧ ∀ ds, f ρ = .ok ds → ∀ vs G' H', Ext G H G' H' → RepL K G' ds vs → Q vs H'
theorem pa_d {X : Cx} {E : XK} {es : List Expr} {f : DS → Res (List D)} (h : PDA X E es f) : PA X es (tDA X.K E f) := by
  intro pos pins s σ H Q I ⟨G, ρ, hs, hr, ho, k⟩
  refine thn (h pos pins s σ G H ρ I hs hr ho) fun us s' ⟨ds, e, vs, G', H', I', rv, x, rp⟩ => ⟨vs, H', I', rv, k ds e vs G' H' x rp⟩
section
variable {X : Cx} {E : XK}
theorem pd_var {i : Nat} {x : Str} {pos : Pos} (hN : X.N[i]? = some x) (hv : Vis X.env.scope x) (hd : (x == ("__debug__" : Str)) = false := by decide) (hcd : (x == ("__classdict__" : Str)) = false := by decide) :
    PD X E (.Name x pos) (fun ρ => match ρ[i]? with | some (some d) => .ok d | _ => .bad) := by
  intro pins s σ G H ρ I hs hr ho
  cases e : ρ[i]? with
  | none => simp only [e] at ho; exact ho.elim
  | some o =>
    cases o with
    | none => simp only [e] at ho; exact ho.elim
    | some d =>
      obtain ⟨v, hv', rp⟩ := hr i d e
      exact thn (pe_var hN hv hd hcd pins s σ H (fun v' H' => H' = H ∧ v' = v) I ⟨v, hv', rfl, rfl⟩) fun u s' ⟨v', H', I', r, e1, e2⟩ => by
        subst e1 e2
        exact ⟨d, by simp only [e], v', G, H', I', r, .refl hs, rp⟩
theorem pd_flat {e : Expr} {t : TE} {d : D} (h : PE X e t) (ht : ∀ σ H, t σ H fun v H' => H' = H ∧ ∀ G, Rep X.K G d v) : PD X E e (fun _ => .ok d) := by
  intro pins s σ G H ρ I hs hr ho
  refine thn (h pins s σ H _ I (ht σ H)) fun u s' ⟨v, H', I', r, e1, e2⟩ => ?_
  subst e1
  exact ⟨d, rfl, v, G, H', I', r, .refl hs, e2 G⟩
theorem pd_int {i j pos} : PD X E (.Constant (.int i) j pos) (fun _ => .ok (.int i)) := pd_flat pe_int fun _ _ => ⟨rfl, fun _ => by unfold Rep; rfl⟩
theorem pd_bl {b j pos} : PD X E (.Constant (.bool b) j pos) (fun _ => .ok (.bl b)) := pd_flat pe_bl fun _ _ => ⟨rfl, fun _ => by unfold Rep; rfl⟩
theorem pd_non {j pos} : PD X E (.Constant .none j pos) (fun _ => .ok .non) := pd_flat pe_non fun _ _ => ⟨rfl, fun _ => by unfold Rep; rfl⟩
theorem pd_str {x j pos} : PD X E (.Constant (.str x) j pos) (fun _ => .ok (.str x)) := pd_flat pe_str fun _ _ => ⟨rfl, fun _ => by unfold Rep; rfl⟩
theorem pd_globI {x : Str} {i : Int} {u : Value} {pos : Pos} (hg : Gl X x) (hm : X.mg x = some u) (r : ∃ t, u = .int i t) (hd : (x == ("__debug__" : Str)) = false := by decide) : PD X E (.Name x pos) (fun _ => .ok (.int i)) :=
  pd_flat (pe_glob (v := .int i) hg hm r hd) fun _ _ => ⟨rfl, fun _ => by unfold Rep; rfl⟩
theorem pda_nil : PDA X E [] (fun _ => .ok []) := fun _ _ _ _ G H _ I hs _ _ => Calls.spliced_nil ⟨[], rfl, [], G, H, I, .nil, .refl hs, .nil⟩
theorem pda_cons {e : Expr} {es : List Expr} {f : DS → Res D} {g : DS → Res (List D)} (ha : PD X E e f) (hr : PDA X E es g) (hs : starEach (e :: es) X.env = (false, eval e X.env) :: starEach es X.env := by rfl) :
    PDA X E (e :: es) (fun ρ => (f ρ).bind fun d => (g ρ).bind fun ds => .ok (d :: ds)) := by
  intro pos pins s σ G H ρ I hsm hro ho
  have key : PA X (e :: es) (tCons (fun σ H Q => ∃ (G : Hp) (ρ : DS), Same G H ∧ Ro X.K G σ ρ ∧ OkR E H (f ρ) ∧ ∀ d, f ρ = .ok d → ∀ v G' H', Ext G H G' H' → Rep X.K G' d v → Q v H')
      (fun σ H Q => ∃ (G : Hp) (ρ : DS), Same G H ∧ Ro X.K G σ ρ ∧ OkR E H (g ρ) ∧ ∀ ds, g ρ = .ok ds → ∀ vs G' H', Ext G H G' H' → RepL X.K G' ds vs → Q vs H')) := pa_cons (pe_d ha) (pa_d hr) hs
  refine thn (key pos pins s σ H (fun vs H' => ∃ ds, ((f ρ).bind fun d => (g ρ).bind fun ds => .ok (d :: ds)) = .ok ds ∧ ∃ G', Ext G H G' H' ∧ RepL X.K G' ds vs) I ?_) fun us s' ⟨vs, H', I', r, ds, e1, G', x, rp⟩ => ⟨ds, e1, vs, G', H', I', r, x, rp⟩
  refine ⟨G, ρ, hsm, hro, ho.fst, fun d ed v G1 H1 x1 r1 => ⟨G1, ρ, x1.gh, hro.mono x1.gg, (ho.snd ed x1.hh).fst, fun ds eds vs G2 H2 x2 r2 => ⟨d :: ds, bind_ok ed (bind_ok eds rfl), G2, x1.trans x2, .cons (r1.mono x2.gg) r2⟩⟩⟩
def DOp (X : Cx) (E : XK) (f : Value → Value → Sem Value) (g : D → D → Res D) : Prop :=
  ∀ (pins : List (Addr × Obj)) (s : Shared) (σ : St) (G H : Hp) (x y : V) (dx dy : D) (v u : Value), Inv X pins σ H s → Same G H → Rep X.K G dx x → Rep X.K G dy y → RelV x v → RelV y u → OkR E H (g dx dy) →
    wpAny (model X.prog X.w) X.A (f v u) (fun w s' => ∃ d, g dx dy = .ok d ∧ DP X pins σ G H d w s') X.xe s
theorem DOp.of {f : Value → Value → Sem Value} {r : R2} {g : D → D → Res D} (ho : OpR X f r)
    (h : ∀ (G H : Hp) (x y : V) (dx dy : D), Same G H → Rep X.K G dx x → Rep X.K G dy y → OkR E H (g dx dy) → r x y H (fun v' H' => ∃ d G', g dx dy = .ok d ∧ Ext G H G' H' ∧ Rep X.K G' d v')) : DOp X E f g := by
  intro pins s σ G H x y dx dy v u I hs rx ry rv ru ok
  refine thn (ho pins s σ H x y v u _ I rv ru (h G H x y dx dy hs rx ry ok)) fun w s' ⟨v', H', I', r', d, G', e, x', rp⟩ => ⟨d, e, v', G', H', I', r', x', rp⟩
def OpR2 (f : DS → Res D) (g : DS → Res D) (o : D → D → Res D) : DS → Res D := fun ρ => (f ρ).bind fun a => (g ρ).bind fun b => o a b
theorem pd_two {a b : Expr} {fa fb : DS → Res D} (ha : PD X E a fa) (hb : PD X E b fb) {op : Value → Value → Sem Value} {o : D → D → Res D} (hop : DOp X E op o) {pins : List (Addr × Obj)} {s : Shared} {σ : St} {G H : Hp} {ρ : DS} (I : Inv X pins σ H s) (hs : Same G H) (hro : Ro X.K G σ ρ) (ho : OkR E H (OpR2 fa fb o ρ)) :
    wpAny (model X.prog X.w) X.A (eval a X.env) (fun v s₁ => wpAny (model X.prog X.w) X.A (eval b X.env) (fun u s₂ => wpAny (model X.prog X.w) X.A (op v u) (fun u s' => ∃ d, OpR2 fa fb o ρ = .ok d ∧ DP X pins σ G H d u s') X.xe s₂) X.xe s₁) X.xe s := by
  refine thn (ha pins s σ G H ρ I hs hro ho.fst) fun v s1 ⟨d1, e1, v1, G1, H1, I1, r1, x1, p1⟩ => ?_
  refine thn (hb pins s1 σ G1 H1 ρ I1 x1.gh (hro.mono x1.gg) (ho.snd e1 x1.hh).fst) fun u s2 ⟨d2, e2, v2, G2, H2, I2, r2, x2, p2⟩ => ?_
  refine thn (hop pins s2 σ G2 H2 v1 v2 d1 d2 v u I2 x2.gh (p1.mono x2.gg) p2 r1 r2 ((ho.snd e1 x1.hh).snd e2 x2.hh)) fun w s3 ⟨d, e, v3, G3, H3, I3, r3, x3, p3⟩ => ?_
  exact ⟨d, bind_ok e1 (bind_ok e2 e), v3, G3, H3, I3, r3, (x1.trans x2).trans x3, p3⟩
theorem pd_bin {op : Operator} {a b : Expr} {fa fb : DS → Res D} {o : D → D → Res D} {pos : Pos} (hop : DOp X E (binaryOp op) o) (ha : PD X E a fa) (hb : PD X E b fb) : PD X E (.BinOp a op b pos) (OpR2 fa fb o) :=
  fun pins s σ G H ρ I hs hro ho => wpAny_BinOp (pd_two ha hb hop I hs hro ho)
theorem pd_cmp {op : CmpOp} {a b : Expr} {fa fb : DS → Res D} {o : D → D → Res D} {pos : Pos} (hop : DOp X E (compareOp op) o) (ha : PD X E a fa) (hb : PD X E b fb) (hm : behindInMarks op b = false) : PD X E (.Compare a [op] [b] pos) (OpR2 fa fb o) :=
  fun pins s σ G H ρ I hs hro ho => wpAny_Compare1 (pd_two ha hb hop I hs hro ho) hm
def asB (f : DS → Res D) : DS → Res Bool := fun ρ => (f ρ).bind fun d => match d with | .bl b => .ok b | _ => .bad
theorem pdt_cmp {op : CmpOp} {a b : Expr} {fa fb : DS → Res D} {o : D → D → Res D} {pos : Pos} (hop : DOp X E (compareOp op) o) (ha : PD X E a fa) (hb : PD X E b fb) (hm : behindInMarks op b = false) : PDT X E (.Compare a [op] [b] pos) (asB (OpR2 fa fb o)) := by
  intro pins s σ G H ρ I hs hro ho
  refine wpAny_isTrue_Compare1 (thn (pd_two ha hb hop I hs hro ho.fst) fun v s1 h1 => thn h1 fun u s2 h2 => thn h2 fun c s3 ⟨d, e, v3, G3, H3, I3, r3, x3, p3⟩ => ?_) hm
  have k := ho.snd e (Same.refl H)
  cases d with
  | bl b =>
    unfold Rep at p3; subst p3; cases r3
    exact wpAny_truthy_bool ⟨bind_ok e rfl, G3, H3, I3, x3⟩
  | _ => exact k.elim
theorem pdt_val {e : Expr} {f : DS → Res D} (h : PD X E e f) (he : ∀ whole, isTrue e X.env whole = (do let v ← whole; standAt e.pos; holding [v] (truthy v)) := by intro _; rfl) : PDT X E e (asB f) := by
  intro pins s σ G H ρ I hs hro ho
  refine isTrue_plain (thn (h pins s σ G H ρ I hs hro ho.fst) fun v s1 ⟨d, e, v3, G3, H3, I3, r3, x3, p3⟩ => ?_) (he _)
  have k := ho.snd e (Same.refl H)
  cases d with
  | bl b =>
    unfold Rep at p3; subst p3; cases r3
    exact wpAny_truthy_bool ⟨bind_ok e rfl, G3, H3, I3, x3⟩
  | _ => exact k.elim
end
end L2
set_option Elab.async false
set_option linter.all false
set_option maxRecDepth 100000
namespace L2
open PySem PySem.Spec PyProof.Rows
theorem rep_int {K : PySem.W.Frag} {G : Hp} {i : Int} {v : V} : Rep K G (.int i) v ↔ v = .int i := by unfold Rep; exact Iff.rfl
theorem rep_bl {K : PySem.W.Frag} {G : Hp} {i : Bool} {v : V} : Rep K G (.bl i) v ↔ v = .bl i := by unfold Rep; exact Iff.rfl
theorem rep_non {K : PySem.W.Frag} {G : Hp} {v : V} : Rep K G .non v ↔ v = .non := by unfold Rep; exact Iff.rfl
theorem rep_str {K : PySem.W.Frag} {G : Hp} {i : Str} {v : V} : Rep K G (.str i) v ↔ v = .str i := by unfold Rep; exact Iff.rfl
theorem rep_lst {K : PySem.W.Frag} {G : Hp} {ds : List D} {v : V} : Rep K G (.lst ds) v ↔ ∃ a xs, v = .ref a ∧ LsS K G a xs ∧ RepL K G ds xs := by unfold Rep; exact Iff.rfl
theorem rep_tup {K : PySem.W.Frag} {G : Hp} {ds : List D} {v : V} : Rep K G (.tup ds) v ↔ ∃ a xs, v = .ref a ∧ TpS K G a xs ∧ RepL K G ds xs := by unfold Rep; exact Iff.rfl
theorem rep_scr {K : PySem.W.Frag} {G : Hp} {ns : List Int} {v : V} : Rep K G (.scr ns) v ↔ ∃ a, v = .ref a ∧ SqL K G a (ns.map V.int) := by unfold Rep; exact Iff.rfl
theorem rep_dct {K : PySem.W.Frag} {G : Hp} {ks : List (List Key)} {ds : List D} {v : V} : Rep K G (.dct ks ds) v ↔ ∃ a kvs, v = .ref a ∧ Rd G a (.dT kvs) ∧ kvs.map (·.1) = ks ∧ RepL K G ds (kvs.map (·.2)) := by unfold Rep; exact Iff.rfl
theorem rep_ins {K : PySem.W.Frag} {G : Hp} {C : Addr} {ns : List Str} {ds : List D} {v : V} : Rep K G (.ins C ns ds) v ↔ ∃ a dx fs, v = .ref a ∧ G a = some (.ins C dx fs) ∧ fs.map (·.1) = ns ∧ RepL K G ds (fs.map (·.2)) := by unfold Rep; exact Iff.rfl
def intO (c : Int → Int → Bool) (g : Int → Int → D) : D → D → Res D
  | .int i, .int j => if c i j = true then .ok (g i j) else .bad
  | _, _ => .bad
section
variable {X : Cx} {E : XK}
theorem dop_int {f : Value → Value → Sem Value} {C : Int → Int → Prop} {g : Int → Int → V} {c : Int → Int → Bool} {gD : Int → Int → D} (ho : OpR X f (rI C g)) (hc : ∀ i j, c i j = true → C i j) (hg : ∀ i j G, Rep X.K G (gD i j) (g i j)) : DOp X E f (intO c gD) :=
  DOp.of ho fun G H x y dx dy hs rx ry ok => by
    unfold intO at ok ⊢
    split at ok
    · rename_i i j
      rw [rep_int] at rx ry
      subst rx ry
      by_cases h : c i j = true
      · rw [if_pos h]
        exact ⟨i, j, rfl, rfl, hc i j h, _, G, rfl, .refl hs, hg i j G⟩
      · rw [if_neg h] at ok; exact ok.elim
    · exact ok.elim
theorem dop_int0 {f : Value → Value → Sem Value} {g : Int → Int → V} {gD : Int → Int → D} (ho : OpR X f (rI0 g)) (hg : ∀ i j G, Rep X.K G (gD i j) (g i j)) : DOp X E f (intO (fun _ _ => true) gD) :=
  DOp.of ho fun G H x y dx dy hs rx ry ok => by
    unfold intO at ok ⊢
    split at ok
    · rename_i i j
      rw [rep_int] at rx ry
      subst rx ry
      exact ⟨i, j, rfl, rfl, _, G, rfl, .refl hs, hg i j G⟩
    · exact ok.elim
instance (i j : Int) : Decidable (CMul i j) := by unfold CMul; infer_instance
instance (i j : Int) : Decidable (CDiv i j) := by unfold CDiv; infer_instance
def addI : D → D → Res D := intO (fun _ _ => true) fun i j => .int (i + j)
def mulI : D → D → Res D := intO (fun i j => decide (CMul i j)) fun i j => .int (i * j)
def fdivI : D → D → Res D := intO (fun i j => decide (CDiv i j)) fun i j => .int (i / j)
def modI : D → D → Res D := intO (fun _ j => decide (0 < j)) fun i j => .int (i % j)
def ltI : D → D → Res D := intO (fun _ _ => true) fun i j => .bl (decide (i < j))
def leI : D → D → Res D := intO (fun _ _ => true) fun i j => .bl (decide (i ≤ j))
def gtI : D → D → Res D := intO (fun _ _ => true) fun i j => .bl (decide (j < i))
theorem do_add : DOp X E (binaryOp .Add) addI := dop_int0 op_add fun _ _ _ => rep_int.mpr rfl
theorem do_mul : DOp X E (binaryOp .Mult) mulI := dop_int op_mul (fun _ _ h => of_decide_eq_true h) fun _ _ _ => rep_int.mpr rfl
theorem do_fdiv : DOp X E (binaryOp .FloorDiv) fdivI := dop_int op_fdiv (fun _ _ h => of_decide_eq_true h) fun _ _ _ => rep_int.mpr rfl
theorem do_mod : DOp X E (binaryOp .Mod) modI := dop_int op_mod (fun _ _ h => of_decide_eq_true h) fun _ _ _ => rep_int.mpr rfl
theorem do_lt : DOp X E (compareOp .Lt) ltI := dop_int0 op_lt fun _ _ _ => rep_bl.mpr rfl
theorem do_le : DOp X E (compareOp .LtE) leI := dop_int0 op_le fun _ _ _ => rep_bl.mpr rfl
theorem do_gt : DOp X E (compareOp .Gt) gtI := dop_int0 op_gt fun _ _ _ => rep_bl.mpr rfl
def isN (d : D) : Bool := match d with | .non => true | _ => false
theorem rep_none {K : PySem.W.Frag} {G : Hp} {d : D} {v : V} (h : Rep K G d v) : decide (v = V.non) = isN d := by
  cases d with
  | non => rw [rep_non] at h; subst h; rfl
  | bl b => rw [rep_bl] at h; subst h; rfl
  | int i => rw [rep_int] at h; subst h; rfl
  | str x => rw [rep_str] at h; subst h; rfl
  | lst l => rw [rep_lst] at h; obtain ⟨a, xs, rfl, _⟩ := h; rfl
  | tup l => rw [rep_tup] at h; obtain ⟨a, xs, rfl, _⟩ := h; rfl
  | ins C ns l => rw [rep_ins] at h; obtain ⟨a, dx, fs, rfl, _⟩ := h; rfl
  | dct ks l => rw [rep_dct] at h; obtain ⟨a, kvs, rfl, _⟩ := h; rfl
  | scr ns => rw [rep_scr] at h; obtain ⟨a, rfl, _⟩ := h; rfl
def isNo (d e : D) : Res D := match e with | .non => .ok (.bl (isN d)) | _ => .bad
def notNo (d e : D) : Res D := match e with | .non => .ok (.bl (!isN d)) | _ => .bad
theorem do_isN : DOp X E (compareOp .Is) isNo := DOp.of op_isN fun G H x y dx dy hs rx ry ok => by
  cases dy with
  | non => rw [rep_non] at ry; exact ⟨ry, _, G, rfl, .refl hs, by rw [rep_none rx]; exact rep_bl.mpr rfl⟩
  | _ => exact ok.elim
theorem do_notN : DOp X E (compareOp .IsNot) notNo := DOp.of op_notN fun G H x y dx dy hs rx ry ok => by
  cases dy with
  | non => rw [rep_non] at ry; exact ⟨ry, _, G, rfl, .refl hs, by rw [rep_none rx]; exact rep_bl.mpr rfl⟩
  | _ => exact ok.elim
theorem pdw_and1 {a : Expr} {pos : Pos} {f : DS → Res Bool} (ha : PDT X E a f) : PDW X E (.BoolOp .And [a] pos) f := by
  intro wh pins s σ G H ρ I hs hro ho
  refine isTrue_and (thn (ha pins s σ G H ρ I hs hro ho) fun c s1 e => ?_)
  cases c with
  | true => exact isTrue_and_nil e
  | false => exact e
theorem pdw_or1 {a : Expr} {pos : Pos} {f : DS → Res Bool} (ha : PDT X E a f) : PDW X E (.BoolOp .Or [a] pos) f := by
  intro wh pins s σ G H ρ I hs hro ho
  refine isTrue_or (thn (ha pins s σ G H ρ I hs hro ho) fun c s1 e => ?_)
  cases c with
  | false => exact isTrue_or_nil e
  | true => exact e
def andR (f g : DS → Res Bool) : DS → Res Bool := fun ρ => (f ρ).bind fun b => if b = true then g ρ else .ok false
def orR (f g : DS → Res Bool) : DS → Res Bool := fun ρ => (f ρ).bind fun b => if b = true then .ok true else g ρ
theorem pdw_and {a b : Expr} {rest : List Expr} {pos : Pos} {f g : DS → Res Bool} (ha : PDT X E a f) (hb : PDW X E (.BoolOp .And (b :: rest) pos) g) : PDW X E (.BoolOp .And (a :: b :: rest) pos) (andR f g) := by
  intro wh pins s σ G H ρ I hs hro ho
  refine isTrue_and (thn (ha pins s σ G H ρ I hs hro ho.fst) fun c s1 ⟨e, G1, H1, I1, x1⟩ => ?_)
  cases c with
  | true => exact thn (hb wh pins s1 σ G1 H1 ρ I1 x1.gh (hro.mono x1.gg) (ho.snd e x1.hh)) fun c2 s2 ⟨e2, G2, H2, I2, x2⟩ => ⟨bind_ok e (by rw [if_pos rfl]; exact e2), G2, H2, I2, x1.trans x2⟩
  | false => exact ⟨bind_ok e rfl, G1, H1, I1, x1⟩
theorem pdw_or {a b : Expr} {rest : List Expr} {pos : Pos} {f g : DS → Res Bool} (ha : PDT X E a f) (hb : PDW X E (.BoolOp .Or (b :: rest) pos) g) : PDW X E (.BoolOp .Or (a :: b :: rest) pos) (orR f g) := by
  intro wh pins s σ G H ρ I hs hro ho
  refine isTrue_or (thn (ha pins s σ G H ρ I hs hro ho.fst) fun c s1 ⟨e, G1, H1, I1, x1⟩ => ?_)
  cases c with
  | false => exact thn (hb wh pins s1 σ G1 H1 ρ I1 x1.gh (hro.mono x1.gg) (ho.snd e x1.hh)) fun c2 s2 ⟨e2, G2, H2, I2, x2⟩ => ⟨bind_ok e (by rw [if_neg Bool.false_ne_true]; exact e2), G2, H2, I2, x1.trans x2⟩
  | true => exact ⟨bind_ok e rfl, G1, H1, I1, x1⟩
def notR (f : DS → Res Bool) : DS → Res Bool := fun ρ => (f ρ).bind fun b => .ok (!b)
theorem pdt_not {a : Expr} {pos : Pos} {f : DS → Res Bool} (ha : PDT X E a f) : PDT X E (.UnaryOp .Not a pos) (notR f) := by
  intro pins s σ G H ρ I hs hro ho
  exact isTrue_not (thn (ha pins s σ G H ρ I hs hro ho.fst) fun c s1 ⟨e, G1, H1, I1, x1⟩ => ⟨bind_ok e rfl, G1, H1, I1, x1⟩)
def andV (f g : DS → Res D) : DS → Res D := fun ρ => (f ρ).bind fun d => match d with | .bl true => g ρ | .bl false => .ok (.bl false) | _ => .bad
def notV (f : DS → Res D) : DS → Res D := fun ρ => (f ρ).bind fun d => match d with | .bl b => .ok (.bl (!b)) | _ => .bad
theorem pd_one {op} {a : Expr} {pos : Pos} {f : DS → Res D} (h : PD X E a f) : PD X E (.BoolOp op [a] pos) f := fun pins s σ G H ρ I hs hro ho => BoolOp_one (h pins s σ G H ρ I hs hro ho)
theorem pd_and {a b : Expr} {rest : List Expr} {pos : Pos} {f g : DS → Res D} (ha : PD X E a f) (hb : PD X E (.BoolOp .And (b :: rest) pos) g) : PD X E (.BoolOp .And (a :: b :: rest) pos) (andV f g) := by
  intro pins s σ G H ρ I hs hro ho
  refine BoolOp_and (thn (ha pins s σ G H ρ I hs hro ho.fst) fun v s1 ⟨d1, e1, v1, G1, H1, I1, r1, x1, p1⟩ => ?_)
  have k := ho.snd e1 x1.hh
  cases d1 with
  | bl c =>
    rw [rep_bl] at p1; subst p1; cases r1
    refine wpAny_truthy_bool ?_
    cases c with
    | true => exact thn (hb pins s1 σ G1 H1 ρ I1 x1.gh (hro.mono x1.gg) k) fun w s2 ⟨d2, e2, v2, G2, H2, I2, r2, x2, p2⟩ => ⟨d2, bind_ok e1 e2, v2, G2, H2, I2, r2, x1.trans x2, p2⟩
    | false => exact ⟨_, bind_ok e1 rfl, .bl false, G1, H1, I1, rfl, x1, rep_bl.mpr rfl⟩
  | _ => exact k.elim
theorem pd_not {a : Expr} {pos : Pos} {f : DS → Res D} (ha : PD X E a f) : PD X E (.UnaryOp .Not a pos) (notV f) := by
  intro pins s σ G H ρ I hs hro ho
  refine UnaryOp_ (thn (ha pins s σ G H ρ I hs hro ho.fst) fun v s1 ⟨d1, e1, v1, G1, H1, I1, r1, x1, p1⟩ => ?_)
  have k := ho.snd e1 x1.hh
  cases d1 with
  | bl c =>
    rw [rep_bl] at p1; subst p1; cases r1
    exact not_of (wpAny_truthy_bool ⟨_, bind_ok e1 rfl, .bl (!c), G1, H1, I1, rfl, x1, rep_bl.mpr rfl⟩)
  | _ => exact k.elim
def chainR (fa fb fc : DS → Res D) (o o' : D → D → Res D) : DS → Res Bool := fun ρ => (fa ρ).bind fun a => (fb ρ).bind fun b => (o a b).bind fun r => match r with | .bl true => (fc ρ).bind fun c => (o' b c).bind fun q => (match q with | .bl k => .ok k | _ => .bad) | .bl false => .ok false | _ => .bad
def lenOk (n : Nat) : Bool := decide (n ≤ 100000)
theorem lenOk_line {n : Nat} (h : lenOk n = true) : n ≤ sizeLine := Nat.le_trans (of_decide_eq_true h) (by decide)
def lstR (f : DS → Res (List D)) : DS → Res D := fun ρ => (f ρ).bind fun ds => if lenOk ds.length = true then .ok (.lst ds) else .bad
def tupR (f : DS → Res (List D)) : DS → Res D := fun ρ => (f ρ).bind fun ds => if lenOk ds.length = true then .ok (.tup ds) else .bad
theorem pd_lst {es : List Expr} {pos : Pos} {f : DS → Res (List D)} (h : PDA X E es f) : PD X E (.List es pos) (lstR f) := by
  intro pins s σ G H ρ I hs hro ho
  refine thn (pe_lst (pa_d h) pins s σ H (fun v H' => ∃ d G', lstR f ρ = .ok d ∧ Ext G H G' H' ∧ Rep X.K G' d v) I ?_) fun u s' ⟨v, H', I', r, d, G', e, x, rp⟩ => ⟨d, e, v, G', H', I', r, x, rp⟩
  refine ⟨G, ρ, hs, hro, ho.fst, fun ds e vs G1 H1 x1 r1 => ?_⟩
  have k := ho.snd e x1.hh
  by_cases hl : lenOk ds.length = true
  · refine ⟨by rw [← r1.length]; exact lenOk_line hl, fun p hp => ⟨.lst ds, upd G1 p (.lst vs), bind_ok e (if_pos hl), x1.trans (.new x1.gh hp _), rep_lst.mpr ⟨p, vs, rfl, .of upd_same, r1.mono (Ext.new x1.gh hp _).gg⟩⟩⟩
  · rw [if_neg hl] at k; exact k.elim
theorem pd_tup {es : List Expr} {x1} {pos : Pos} {f : DS → Res (List D)} (h : PDA X E es f) : PD X E (.Tuple es x1 pos) (tupR f) := by
  intro pins s σ G H ρ I hs hro ho
  refine thn (pe_tup (pa_d h) pins s σ H (fun v H' => ∃ d G', tupR f ρ = .ok d ∧ Ext G H G' H' ∧ Rep X.K G' d v) I ?_) fun u s' ⟨v, H', I', r, d, G', e, x, rp⟩ => ⟨d, e, v, G', H', I', r, x, rp⟩
  refine ⟨G, ρ, hs, hro, ho.fst, fun ds e vs G1 H1 x1 r1 => ?_⟩
  have k := ho.snd e x1.hh
  by_cases hl : lenOk ds.length = true
  · refine ⟨by rw [← r1.length]; exact lenOk_line hl, fun p hp => ⟨.tup ds, upd G1 p (.tup vs), bind_ok e (if_pos hl), x1.trans (.new x1.gh hp _), rep_tup.mpr ⟨p, vs, rfl, .of upd_same, r1.mono (Ext.new x1.gh hp _).gg⟩⟩⟩
  · rw [if_neg hl] at k; exact k.elim
end
end L2
set_option Elab.async false
set_option linter.all false
set_option maxRecDepth 100000
namespace L2
open PySem PySem.Spec PyProof.Rows
section
variable {X : Cx} {E : XK}
theorem pd_tOp {e : Expr} {r : R2} {fa fb : DS → Res D} {o : D → D → Res D} (he : PE X e (tOp r (tD X.K E fa) (tD X.K E fb)))
    (h : ∀ (G H : Hp) (x y : V) (dx dy : D) (Q : VK), Same G H → Rep X.K G dx x → Rep X.K G dy y → OkR E H (o dx dy) → (∀ d v' G' H', o dx dy = .ok d → Ext G H G' H' → Rep X.K G' d v' → Q v' H') → r x y H Q) : PD X E e (OpR2 fa fb o) := by
  intro pins s σ G H ρ I hs hro ho
  refine thn (he pins s σ H (fun v H' => ∃ d G', OpR2 fa fb o ρ = .ok d ∧ Ext G H G' H' ∧ Rep X.K G' d v) I ?_) fun u s' ⟨v, H', I', r', d, G', e, x, rp⟩ => ⟨d, e, v, G', H', I', r', x, rp⟩
  refine ⟨G, ρ, hs, hro, ho.fst, fun d1 e1 v1 G1 H1 x1 p1 => ⟨G1, ρ, x1.gh, hro.mono x1.gg, (ho.snd e1 x1.hh).fst, fun d2 e2 v2 G2 H2 x2 p2 => ?_⟩⟩
  exact h G2 H2 v1 v2 d1 d2 _ x2.gh (p1.mono x2.gg) p2 ((ho.snd e1 x1.hh).snd e2 x2.hh) fun d v' G' H' ed xx rp => ⟨d, G', bind_ok e1 (bind_ok e2 ed), (x1.trans x2).trans xx, rp⟩
theorem RepL.atI {K : PySem.W.Frag} {G : Hp} {ds : List D} {vs : List V} {i : Int} {d : D} (h : RepL K G ds vs) (e : atI ds i = some d) : ∃ v, L2.atI vs i = some v ∧ Rep K G d v := by
  unfold L2.atI at e ⊢
  rw [← h.length]
  cases q : ixN ds.length i with
  | none => rw [q] at e; cases e
  | some j =>
    rw [q] at e
    exact h.get (by simpa using e)
def ixD : D → D → Res D
  | .lst l, .int i => match L2.atI l i with | some d => .ok d | none => .bad
  | .tup l, .int i => match L2.atI l i with | some d => .ok d | none => .bad
  | .scr ns, .int i => match L2.atI ns i with | some n => .ok (.int n) | none => .bad
  | .str z, .int i => match L2.atI z.cps.toList i with | some c => if lenOk z.length = true then .ok (.str ⟨#[c]⟩) else .bad | none => .bad
  | _, _ => .bad
theorem atI_map {α β : Type} {f : α → β} {xs : List α} {i : Int} {a : α} (h : L2.atI xs i = some a) : L2.atI (xs.map f) i = some (f a) := by
  unfold L2.atI at h ⊢
  rw [List.length_map]
  cases q : ixN xs.length i with
  | none => rw [q] at h; cases h
  | some j =>
    rw [q] at h
    show (xs.map f)[j]? = some (f a)
    have h' : xs[j]? = some a := h
    rw [List.getElem?_map, h']
    rfl
theorem pd_ix {a b : Expr} {pos : Pos} {fa fb : DS → Res D} (ha : PD X E a fa) (hb : PD X E b fb) (hp : PlainIx b := by intro _ _; rfl) : PD X E (.Subscript a b pos) (OpR2 fa fb ixD) := by
  refine pd_tOp (pe_ix ix_seq (pe_d ha) (pe_d hb) hp) fun G H x y dx dy Q hs rx ry ok k => ?_
  unfold ixD at ok k
  split at ok
  · rename_i l i
    rw [rep_lst] at rx; rw [rep_int] at ry
    obtain ⟨p, xs, rfl, sq, rl⟩ := rx
    subst ry
    dsimp only at ok k
    cases q : L2.atI l i with
    | none => rw [q] at ok; exact ok.elim
    | some d =>
      obtain ⟨v, hv, rv⟩ := rl.atI q
      rw [q] at k
      exact .inl ⟨p, xs, i, v, rfl, rfl, hs.seq sq.sq, hv, k d v G H rfl (.refl hs) rv⟩
  · rename_i l i
    rw [rep_tup] at rx; rw [rep_int] at ry
    obtain ⟨p, xs, rfl, sq, rl⟩ := rx
    subst ry
    dsimp only at ok k
    cases q : L2.atI l i with
    | none => rw [q] at ok; exact ok.elim
    | some d =>
      obtain ⟨v, hv, rv⟩ := rl.atI q
      rw [q] at k
      exact .inr (.inl ⟨p, xs, i, v, rfl, rfl, hs.seqT sq, hv, k d v G H rfl (.refl hs) rv⟩)
  · rename_i ns i
    rw [rep_scr] at rx; rw [rep_int] at ry
    obtain ⟨p, rfl, sq⟩ := rx
    subst ry
    dsimp only at ok k
    cases q : L2.atI ns i with
    | none => rw [q] at ok; exact ok.elim
    | some n =>
      rw [q] at k
      exact .inl ⟨p, _, i, .int n, rfl, rfl, hs.seq sq, atI_map q, k (.int n) (.int n) G H rfl (.refl hs) (rep_int.mpr rfl)⟩
  · rename_i z i
    rw [rep_str] at rx; rw [rep_int] at ry
    subst rx ry
    dsimp only at ok k
    cases q : L2.atI z.cps.toList i with
    | none => rw [q] at ok; exact ok.elim
    | some c =>
      rw [q] at k ok
      dsimp only at k ok
      by_cases hz : lenOk z.length = true
      · rw [if_pos hz] at k
        exact .inr (.inr ⟨z, i, c, rfl, rfl, lenOk_line hz, q, k _ _ G H rfl (.refl hs) (rep_str.mpr rfl)⟩)
      · rw [if_neg hz] at ok; exact ok.elim
  · exact ok.elim
def DCl (K : PySem.W.Frag) (E : XK) (r : List V → Hp → VK → Prop) (g : List D → Res D) : Prop :=
  ∀ (G H : Hp) (vs : List V) (ds : List D) (Q : VK), Same G H → RepL K G ds vs → OkR E H (g ds) → (∀ d v' G' H', g ds = .ok d → Ext G H G' H' → Rep K G' d v' → Q v' H') → r vs H Q
def ClR (fs : DS → Res (List D)) (g : List D → Res D) : DS → Res D := fun ρ => (fs ρ).bind g
theorem pd_tCB {e : Expr} {r : List V → Hp → VK → Prop} {fs : DS → Res (List D)} {g : List D → Res D} (he : PE X e (tCB r (tDA X.K E fs))) (h : DCl X.K E r g) : PD X E e (ClR fs g) := by
  intro pins s σ G H ρ I hs hro ho
  refine thn (he pins s σ H (fun v H' => ∃ d G', ClR fs g ρ = .ok d ∧ Ext G H G' H' ∧ Rep X.K G' d v) I ?_) fun u s' ⟨v, H', I', r', d, G', e, x, rp⟩ => ⟨d, e, v, G', H', I', r', x, rp⟩
  refine ⟨G, ρ, hs, hro, ho.fst, fun ds e1 vs G1 H1 x1 p1 => ?_⟩
  exact h G1 H1 vs ds _ x1.gh p1 (ho.snd e1 x1.hh) fun d v' G' H' ed xx rp => ⟨d, G', bind_ok e1 ed, x1.trans xx, rp⟩
theorem pd_callB {x : Str} {p pos : Pos} {e : Expr} {es : List Expr} {id : String} {r : List V → Hp → VK → Prop} {fs : DS → Res (List D)} {g : List D → Res D} (hc : CallR X (.builtin id) r) (h : DCl X.K E r g) (hg : Gl X x) (hm : X.mg x = none) (hv : bootBuiltins x = some (.builtin id)) (ha : PDA X E (e :: es) fs)
    (hn : x ≠ "__name__" := by decide) (hdb : (x == ("__debug__" : Str)) = false := by decide)
    (he : starEach (e :: es) X.env = (false, eval e X.env) :: starEach es X.env := by rfl) (hpl : (backTo pos (starEach es X.env)).any (·.1) = false := by rfl) : PD X E (.Call (.Name x p) (e :: es) [] pos) (ClR fs g) :=
  pd_tCB (pe_callB hc hg hm hv (pa_d ha) hn hdb he hpl) h
theorem pd_callTy {x : Str} {p pos : Pos} {e : Expr} {es : List Expr} {T : String} {r : List V → Hp → VK → Prop} {fs : DS → Res (List D)} {g : List D → Res D} (hc : CallR X (.type T) r) (h : DCl X.K E r g) (hg : Gl X x) (hm : X.mg x = none) (hv : bootBuiltins x = some (.type T)) (ha : PDA X E (e :: es) fs)
    (hn : x ≠ "__name__" := by decide) (hdb : (x == ("__debug__" : Str)) = false := by decide)
    (he : starEach (e :: es) X.env = (false, eval e X.env) :: starEach es X.env := by rfl) (hpl : (backTo pos (starEach es X.env)).any (·.1) = false := by rfl) : PD X E (.Call (.Name x p) (e :: es) [] pos) (ClR fs g) :=
  pd_tCB (pe_callTy hc hg hm hv (pa_d ha) hn hdb he hpl) h
def lenD : List D → Res D
  | [.lst l] => .ok (.int l.length)
  | [.tup l] => .ok (.int l.length)
  | [.scr ns] => .ok (.int ns.length)
  | _ => .bad
theorem dc_len {K : PySem.W.Frag} : DCl K E (fun xs H Q => ∃ p ys, xs = [.ref p] ∧ (SqL K H p ys ∨ SqT K H p ys) ∧ Q (.int ys.length) H) lenD := by
  intro G H vs ds Q hs rl ok k
  unfold lenD at ok k
  split at ok
  · obtain ⟨v, r, rfl, rx, r0⟩ := rl.inv
    rw [r0.inv0]
    rw [rep_lst] at rx
    obtain ⟨p, xs, rfl, sq, rx⟩ := rx
    exact ⟨p, xs, rfl, .inl (hs.seq sq.sq), k _ _ G H rfl (.refl hs) (by rw [rx.length]; exact rep_int.mpr rfl)⟩
  · obtain ⟨v, r, rfl, rx, r0⟩ := rl.inv
    rw [r0.inv0]
    rw [rep_tup] at rx
    obtain ⟨p, xs, rfl, sq, rx⟩ := rx
    exact ⟨p, xs, rfl, .inr (hs.seqT sq), k _ _ G H rfl (.refl hs) (by rw [rx.length]; exact rep_int.mpr rfl)⟩
  · obtain ⟨v, r, rfl, rx, r0⟩ := rl.inv
    rw [r0.inv0]
    rw [rep_scr] at rx
    obtain ⟨p, rfl, sq⟩ := rx
    exact ⟨p, _, rfl, .inl (hs.seq sq), k _ _ G H rfl (.refl hs) (by rw [List.length_map]; exact rep_int.mpr rfl)⟩
  · exact ok.elim
def listD : List D → Res D
  | [.lst l] => .ok (.lst l)
  | [.tup l] => .ok (.lst l)
  | _ => .bad
def tupleD : List D → Res D
  | [.lst l] => .ok (.tup l)
  | [.tup l] => .ok (.tup l)
  | _ => .bad
theorem dc_list {K : PySem.W.Frag} : DCl K E (fun xs H Q => ∃ p ys, xs = [.ref p] ∧ (SqL K H p ys ∨ SqT K H p ys) ∧ ∀ l, H l = none → Q (.ref l) (upd H l (.lst ys))) listD := by
  intro G H vs ds Q hs rl ok k
  unfold listD at ok k
  split at ok
  · obtain ⟨v, r, rfl, rx, r0⟩ := rl.inv
    rw [r0.inv0]
    rw [rep_lst] at rx
    obtain ⟨p, xs, rfl, sq, rx⟩ := rx
    exact ⟨p, xs, rfl, .inl (hs.seq sq.sq), fun l hl => k _ _ _ _ rfl (.new hs hl _) (rep_lst.mpr ⟨l, xs, rfl, .of upd_same, rx.mono (Ext.new hs hl _).gg⟩)⟩
  · obtain ⟨v, r, rfl, rx, r0⟩ := rl.inv
    rw [r0.inv0]
    rw [rep_tup] at rx
    obtain ⟨p, xs, rfl, sq, rx⟩ := rx
    exact ⟨p, xs, rfl, .inr (hs.seqT sq), fun l hl => k _ _ _ _ rfl (.new hs hl _) (rep_lst.mpr ⟨l, xs, rfl, .of upd_same, rx.mono (Ext.new hs hl _).gg⟩)⟩
  · exact ok.elim
theorem dc_tuple {K : PySem.W.Frag} : DCl K E (fun xs H Q => ∃ p ys, xs = [.ref p] ∧ ((SqL K H p ys ∧ ∀ l, H l = none → Q (.ref l) (upd H l (.tup ys))) ∨ (SqT K H p ys ∧ Q (.ref p) H))) tupleD := by
  intro G H vs ds Q hs rl ok k
  unfold tupleD at ok k
  split at ok
  · obtain ⟨v, r, rfl, rx, r0⟩ := rl.inv
    rw [r0.inv0]
    rw [rep_lst] at rx
    obtain ⟨p, xs, rfl, sq, rx⟩ := rx
    exact ⟨p, xs, rfl, .inl ⟨hs.seq sq.sq, fun l hl => k _ _ _ _ rfl (.new hs hl _) (rep_tup.mpr ⟨l, xs, rfl, .of upd_same, rx.mono (Ext.new hs hl _).gg⟩)⟩⟩
  · obtain ⟨v, r, rfl, rx, r0⟩ := rl.inv
    rw [r0.inv0]
    have rx' := rx
    rw [rep_tup] at rx
    obtain ⟨p, xs, rfl, sq, rx⟩ := rx
    exact ⟨p, xs, rfl, .inr ⟨hs.seqT sq, k _ _ G H rfl (.refl hs) rx'⟩⟩
  · exact ok.elim
def pureSp (K : PySem.W.Frag) (m : List D → Res D) : Sp := fun vs H Q E => ∃ ds G, Same G H ∧ RepL K G ds vs ∧ OkR E H (m ds) ∧ ∀ d, m ds = .ok d → ∀ v G' H', Ext G H G' H' → Rep K G' d v → Q v H'
theorem pd_call {CX : CXT} {k : Nat} {f : Addr} {fd : FuncData} {ps : List Str} {m : List D → Res D} {x : Str} {p pos : Pos} {e : Expr} {es : List Expr} {fs : DS → Res (List D)} (F : FnOk X.prog X.w X.K X.mg X.base CX k f fd ps (pureSp X.K m)) (hr : Room k X.A) (hg : Gl X x) (hm : X.mg x = some (.ref f)) (hk : PySem.W.keepIn X.K (.ref f) = true) (hb : Binds X.K fd ps []) (hx : Passes CX X E)
    (ha : PDA X E (e :: es) fs) (hdb : (x == ("__debug__" : Str)) = false := by decide) (he : starEach (e :: es) X.env = (false, eval e X.env) :: starEach es X.env := by rfl) (hpl : (backTo pos (starEach es X.env)).any (·.1) = false := by rfl) :
    PD X E (.Call (.Name x p) (e :: es) [] pos) (ClR fs m) := by
  intro pins s σ G H ρ I hs hro ho
  refine thn (pe_call F hr hg hm hk hb .nil hx (pa_d ha) hdb he hpl pins s σ H (fun v H' => ∃ d G', ClR fs m ρ = .ok d ∧ Ext G H G' H' ∧ Rep X.K G' d v) I ?_) fun u s' ⟨v, H', I', r', d, G', e, x, rp⟩ => ⟨d, e, v, G', H', I', r', x, rp⟩
  refine ⟨G, ρ, hs, hro, ho.fst, fun ds e1 vs G1 H1 x1 p1 => ⟨ds, G1, x1.gh, by rw [List.append_nil]; exact p1, ho.snd e1 x1.hh, fun d ed v G' H' xx rp => ⟨d, G', bind_ok e1 ed, x1.trans xx, rp⟩⟩⟩
def insOf (C : Addr) (m : Str) : D → Bool
  | .ins C' ns _ => C' == C && !ns.contains m
  | _ => false
def methR (C : Addr) (m : Str) (fo : DS → Res D) (g : List D → Res D) : DS → Res D := fun ρ => (fo ρ).bind fun o => if insOf C m o = true then g [o] else .bad
theorem lookup_none_of {fs : List (Str × V)} {m : Str} (h : (fs.map (·.1)).contains m = false) : fs.lookup m = none := by
  induction fs with
  | nil => rfl
  | cons p r ih =>
    rw [List.map_cons, List.contains_cons, Bool.or_eq_false_iff] at h
    rw [List.lookup_cons]
    have : (m == p.1) = false := h.1
    rw [this]
    exact ih h.2
theorem pd_meth0 {pl : Sem Bool} {CX : CXT} {k : Nat} {f C : Addr} {fd : FuncData} {ps : List Str} {g : List D → Res D} {m : Str} {apos pos : Pos} {o : Expr} {fo : DS → Res D} (hoo : PD X E o fo) (c : Cls X.K C) (hm : Meth X.K C m f) (F : FnOk X.prog X.w X.K X.mg X.base CX k f fd ps (pureSp X.K g)) (hr : Room k X.A) (hb : Binds X.K fd ps []) (hx : Passes CX X E)
    (hpe : PE X (.Call (.Attribute o m apos) [] [] pos) (tMeth C m (pureSp X.K g) [] E (tD X.K E fo) tNil)) : PD X E (.Call (.Attribute o m apos) [] [] pos) (methR C m fo g) := by
  intro pins s σ G H ρ I hs hro ho
  refine thn (hpe pins s σ H (fun v H' => ∃ d G', methR C m fo g ρ = .ok d ∧ Ext G H G' H' ∧ Rep X.K G' d v) I ?_) fun u s' ⟨v, H', I', r', d, G', e, x, rp⟩ => ⟨d, e, v, G', H', I', r', x, rp⟩
  refine ⟨G, ρ, hs, hro, ho.fst, fun dO e1 v G1 H1 x1 p1 => ?_⟩
  have kk := ho.snd e1 x1.hh
  by_cases hi : insOf C m dO = true
  · rw [if_pos hi] at kk
    cases dO with
    | ins C' ns l =>
      have hi' := hi
      unfold insOf at hi'
      rw [Bool.and_eq_true, beq_iff_eq, Bool.not_eq_true'] at hi'
      obtain ⟨rfl, hn⟩ := hi'
      have p1' := p1
      rw [rep_ins] at p1
      obtain ⟨a, dx, fs, rfl, ha, hns, _⟩ := p1
      refine ⟨a, dx, fs, rfl, x1.gh _ _ ha, lookup_none_of (by rw [hns]; exact hn), ?_⟩
      exact ⟨[.ins C' ns l], G1, x1.gh, .cons p1' .nil, kk, fun d ed v G' H' xx rp => ⟨d, G', bind_ok e1 (by rw [if_pos hi]; exact ed), x1.trans xx, rp⟩⟩
    | _ => cases hi
  · rw [if_neg hi] at kk; exact kk.elim
def getF : List Str → List D → Str → Option D
  | n :: ns, d :: ds, f => if n = f then some d else getF ns ds f
  | _, _, _ => none
def fldD (C : Addr) (f : Str) : D → Res D
  | .ins C' ns ds => if C' = C then (match getF ns ds f with | some d => .ok d | none => .bad) else .bad
  | _ => .bad
theorem lookup_getF {K : PySem.W.Frag} {G : Hp} {f : Str} {d : D} : ∀ {fs : List (Str × V)} {ds : List D}, RepL K G ds (fs.map (·.2)) → getF (fs.map (·.1)) ds f = some d → ∃ v, fs.lookup f = some v ∧ Rep K G d v
  | [], ds, _, h => by cases ds <;> cases h
  | (n, v) :: r, [], _, h => by cases h
  | (n, v) :: r, e :: ds, hr, h => by
    obtain ⟨v', r', q, a, b⟩ := hr.inv
    rw [List.map_cons] at q
    cases q
    rw [List.map_cons] at h
    unfold getF at h
    rw [List.lookup_cons]
    by_cases hn : n = f
    · subst hn
      rw [if_pos rfl] at h
      cases h
      rw [show (n == n) = true by simp]
      exact ⟨v, rfl, a⟩
    · rw [if_neg hn] at h
      rw [show (f == n) = false by simpa using Ne.symm hn]
      exact lookup_getF b h
theorem pd_fld {C : Addr} {o : Expr} {f : Str} {pos : Pos} {fo : DS → Res D} (ho : PD X E o fo) (c : Cls X.K C) (n : NoAttr X.K C f) (hb : attributeBase o f X.env (eval o X.env) = eval o X.env := by rfl) : PD X E (.Attribute o f pos) (fun ρ => (fo ρ).bind (fldD C f)) := by
  intro pins s σ G H ρ I hs hro hok
  refine thn (pe_fld (pe_d ho) hb pins s σ H (fun v H' => ∃ d G', ((fo ρ).bind (fldD C f)) = .ok d ∧ Ext G H G' H' ∧ Rep X.K G' d v) I ?_) fun u s' ⟨v, H', I', r', d, G', e, x, rp⟩ => ⟨d, e, v, G', H', I', r', x, rp⟩
  refine ⟨G, ρ, hs, hro, hok.fst, fun dO e1 v G1 H1 x1 p1 => ?_⟩
  have kk := hok.snd e1 x1.hh
  cases dO with
  | ins C' ns l =>
    unfold fldD at kk
    dsimp only at kk
    by_cases hc : C' = C
    · subst hc
      rw [if_pos rfl] at kk
      rw [rep_ins] at p1
      obtain ⟨a, dx, fs, rfl, ha, hns, rl⟩ := p1
      subst hns
      cases q : getF (fs.map (·.1)) l f with
      | none => rw [q] at kk; exact kk.elim
      | some d =>
        obtain ⟨v, hv, rv⟩ := lookup_getF rl q
        exact ⟨a, C', dx, fs, v, rfl, x1.gh _ _ ha, c, n, hv, d, G1, bind_ok e1 (by unfold fldD; dsimp only; rw [if_pos rfl, q]), x1, rv⟩
    · rw [if_neg hc] at kk; exact kk.elim
  | _ => exact kk.elim
theorem pdt_chain {op op' : CmpOp} {a b c : Expr} {pos : Pos} {fa fb fc : DS → Res D} {o o' : D → D → Res D} (ho : DOp X E (compareOp op) o) (ho' : DOp X E (compareOp op') o') (ha : PD X E a fa) (hb : PD X E b fb) (hc : PD X E c fc)
    (hm : lastMarks [op, op'] [b, c] = false := by with_unfolding_all rfl) : PDT X E (.Compare a [op, op'] [b, c] pos) (chainR fa fb fc o o') := by
  intro pins s σ G H ρ I hs hro hok
  refine isTrue_chain (thn (ha pins s σ G H ρ I hs hro hok.fst) fun v s1 ⟨d1, e1, v1, G1, H1, I1, r1, x1, p1⟩ => test_link (thn (hb pins s1 σ G1 H1 ρ I1 x1.gh (hro.mono x1.gg) (hok.snd e1 x1.hh).fst) fun u s2 ⟨d2, e2, v2, G2, H2, I2, r2, x2, p2⟩ => ?_)) hm
  have k2 := (hok.snd e1 x1.hh).snd e2 x2.hh
  refine thn (ho pins s2 σ G2 H2 v1 v2 d1 d2 v u I2 x2.gh (p1.mono x2.gg) p2 r1 r2 k2.fst) fun d s3 ⟨d3, e3, v3, G3, H3, I3, r3, x3, p3⟩ => ?_
  have k3 := k2.snd e3 x3.hh
  cases d3 with
  | bl k =>
    rw [rep_bl] at p3; subst p3; cases r3
    refine wpAny_truthy_bool ?_
    cases k with
    | false => exact ite_ff ⟨bind_ok e1 (bind_ok e2 (bind_ok e3 rfl)), G3, H3, I3, (x1.trans x2).trans x3⟩
    | true =>
      refine ite_tt (test_last (thn (hc pins s3 σ G3 H3 ρ I3 x3.gh (hro.mono ((x1.gg.trans x2.gg).trans x3.gg)) k3.fst) fun w' s4 ⟨d4, e4, v4, G4, H4, I4, r4, x4, p4⟩ => ?_))
      have k4 := k3.snd e4 x4.hh
      refine thn (ho' pins s4 σ G4 H4 v2 v4 d2 d4 u w' I4 x4.gh (p2.mono (x3.gg.trans x4.gg)) p4 r2 r4 k4.fst) fun d' s5 ⟨d5, e5, v5, G5, H5, I5, r5, x5, p5⟩ => ?_
      have k5 := k4.snd e5 x5.hh
      cases d5 with
      | bl k =>
        rw [rep_bl] at p5; subst p5; cases r5
        exact wpAny_truthy_bool ⟨bind_ok e1 (bind_ok e2 (bind_ok e3 (bind_ok e4 (bind_ok e5 rfl)))), G5, H5, I5, (((x1.trans x2).trans x3).trans x4).trans x5⟩
      | _ => exact k5.elim
  | _ => exact k3.elim
end
end L2
set_option Elab.async false
set_option linter.all false
set_option maxRecDepth 100000
namespace L2
open PySem PySem.Spec PyProof.Rows
mutual
def eqB : D → D → Bool
  | .non, .non => true
  | .bl a, .bl b => a == b
  | .int a, .int b => a == b
  | .bl a, .int b => (if a then (1 : Int) else 0) == b
  | .int a, .bl b => a == (if b then (1 : Int) else 0)
  | .str a, .str b => a == b
  | .lst a, .lst b => eqBL a b
  | .tup a, .tup b => eqBL a b
  | _, _ => false
def eqBL : List D → List D → Bool
  | [], [] => true
  | a :: as, b :: bs => eqB a b && eqBL as bs
  | _, _ => false
end
mutual
def plD : Nat → D → Bool
  | _, .non => true
  | _, .bl _ => true
  | _, .int _ => true
  | _, .str _ => true
  | n, .lst l => decide (1 ≤ n) && plL (n - 1) l
  | n, .tup l => decide (1 ≤ n) && plL (n - 1) l
  | _, .ins _ _ _ => false
  | _, .dct _ _ => false
  | _, .scr _ => false
def plL : Nat → List D → Bool
  | _, [] => true
  | n, d :: ds => plD n d && plL n ds
end
theorem plL_get : ∀ {n : Nat} {ds : List D} {i : Nat} {d : D}, plL n ds = true → ds[i]? = some d → plD n d = true
  | _, [], _, _, _, e => by simp at e
  | n, a :: as, 0, _, h, e => by
    simp at e; subst e
    unfold plL at h; rw [Bool.and_eq_true] at h; exact h.1
  | n, a :: as, i + 1, d, h, e => by
    unfold plL at h; rw [Bool.and_eq_true] at h
    exact plL_get (i := i) h.2 (by simpa using e)
theorem eqBL_all : ∀ {as bs : List D} {n : Nat} {e : Nat → Bool}, as.length = bs.length → (∀ (i : Nat) (a b : D), as[i]? = some a → bs[i]? = some b → e i = eqB a b) → n = as.length → (List.range n).all e = eqBL as bs
  | [], [], _, _, _, _, hn => by subst hn; unfold eqBL; rfl
  | [], _ :: _, _, _, h, _, _ => by simp at h
  | _ :: _, [], _, _, h, _, _ => by simp at h
  | a :: as, b :: bs, n, e, h, he, hn => by
    subst hn
    unfold eqBL
    rw [List.length_cons, List.range_succ_eq_map, List.all_cons, he 0 a b rfl rfl, List.all_map]
    congr 1
    exact eqBL_all (e := e ∘ Nat.succ) (by simpa using h) (fun i x y hx hy => he (i + 1) x y (by simpa using hx) (by simpa using hy)) rfl
theorem eqBL_len : ∀ {as bs : List D}, as.length ≠ bs.length → eqBL as bs = false
  | [], [], h => absurd rfl h
  | [], _ :: _, _ => by unfold eqBL; rfl
  | _ :: _, [], _ => by unfold eqBL; rfl
  | a :: as, b :: bs, h => by
    unfold eqBL
    rw [eqBL_len (as := as) (bs := bs) (fun z => h (by simp [z])), Bool.and_false]
mutual
theorem eqB_refl : ∀ {n : Nat} {d : D}, plD n d = true → eqB d d = true
  | _, .non, _ => by unfold eqB; rfl
  | _, .bl b, _ => by unfold eqB; simp
  | _, .int b, _ => by unfold eqB; simp
  | _, .str b, _ => by unfold eqB; simp
  | n, .lst l, h => by
    unfold plD at h; rw [Bool.and_eq_true] at h
    unfold eqB; exact eqBL_refl h.2
  | n, .tup l, h => by
    unfold plD at h; rw [Bool.and_eq_true] at h
    unfold eqB; exact eqBL_refl h.2
  | _, .ins _ _ _, h => by unfold plD at h; cases h
theorem eqBL_refl : ∀ {n : Nat} {ds : List D}, plL n ds = true → eqBL ds ds = true
  | _, [], _ => by unfold eqBL; rfl
  | n, d :: ds, h => by
    unfold plL at h; rw [Bool.and_eq_true] at h
    unfold eqBL; rw [eqB_refl h.1, eqBL_refl h.2]; rfl
end
section
variable {X : Cx} {E : XK} {pins : List (Addr × Obj)} {σ : St} {G H : Hp} {s : Shared}
theorem Inv.isTup (I : Inv X pins σ H s) {a : Addr} {xs : List V} (h : SqT X.K H a xs) : ∃ its : List Value, Vals xs its ∧ s.heap.IsTuple a its.toArray := by
  obtain ⟨its, r, p, _⟩ := I.tuple h
  exact ⟨its, r, p⟩
theorem Inv.isLst (I : Inv X pins σ H s) {a : Addr} {xs : List V} (h : SqL X.K H a xs) : ∃ its : List Value, Vals xs its ∧ s.heap.IsList a its.toArray := by
  obtain ⟨its, r, p, _⟩ := I.list h
  exact ⟨its, r, p.isList⟩
mutual
theorem Rep.inj (I : Inv X pins σ H s) (hs : Same G H) : ∀ {n m : Nat} {d e : D} {x : V}, plD n d = true → plD m e = true → Rep X.K G d x → Rep X.K G e x → d = e
  | _, _, .non, e, x, _, he, hx, hy => by
    rw [rep_non] at hx; subst hx
    cases e with
    | non => rfl
    | bl b => rw [rep_bl] at hy; cases hy
    | int b => rw [rep_int] at hy; cases hy
    | str b => rw [rep_str] at hy; cases hy
    | lst b => rw [rep_lst] at hy; obtain ⟨_, _, q, _⟩ := hy; cases q
    | tup b => rw [rep_tup] at hy; obtain ⟨_, _, q, _⟩ := hy; cases q
    | ins _ _ _ => unfold plD at he; cases he
    | dct _ _ => unfold plD at he; cases he
    | scr _ => unfold plD at he; cases he
  | _, _, .bl c, e, x, _, he, hx, hy => by
    rw [rep_bl] at hx; subst hx
    cases e with
    | non => rw [rep_non] at hy; cases hy
    | bl b => rw [rep_bl] at hy; cases hy; rfl
    | int b => rw [rep_int] at hy; cases hy
    | str b => rw [rep_str] at hy; cases hy
    | lst b => rw [rep_lst] at hy; obtain ⟨_, _, q, _⟩ := hy; cases q
    | tup b => rw [rep_tup] at hy; obtain ⟨_, _, q, _⟩ := hy; cases q
    | ins _ _ _ => unfold plD at he; cases he
    | dct _ _ => unfold plD at he; cases he
    | scr _ => unfold plD at he; cases he
  | _, _, .int c, e, x, _, he, hx, hy => by
    rw [rep_int] at hx; subst hx
    cases e with
    | non => rw [rep_non] at hy; cases hy
    | bl b => rw [rep_bl] at hy; cases hy
    | int b => rw [rep_int] at hy; cases hy; rfl
    | str b => rw [rep_str] at hy; cases hy
    | lst b => rw [rep_lst] at hy; obtain ⟨_, _, q, _⟩ := hy; cases q
    | tup b => rw [rep_tup] at hy; obtain ⟨_, _, q, _⟩ := hy; cases q
    | ins _ _ _ => unfold plD at he; cases he
    | dct _ _ => unfold plD at he; cases he
    | scr _ => unfold plD at he; cases he
  | _, _, .str c, e, x, _, he, hx, hy => by
    rw [rep_str] at hx; subst hx
    cases e with
    | non => rw [rep_non] at hy; cases hy
    | bl b => rw [rep_bl] at hy; cases hy
    | int b => rw [rep_int] at hy; cases hy
    | str b => rw [rep_str] at hy; cases hy; rfl
    | lst b => rw [rep_lst] at hy; obtain ⟨_, _, q, _⟩ := hy; cases q
    | tup b => rw [rep_tup] at hy; obtain ⟨_, _, q, _⟩ := hy; cases q
    | ins _ _ _ => unfold plD at he; cases he
    | dct _ _ => unfold plD at he; cases he
    | scr _ => unfold plD at he; cases he
  | n, m, .lst c, e, x, hd, he, hx, hy => by
    rw [rep_lst] at hx
    obtain ⟨a, xs, rfl, sq, rl⟩ := hx
    unfold plD at hd; rw [Bool.and_eq_true] at hd
    cases e with
    | non => rw [rep_non] at hy; cases hy
    | bl b => rw [rep_bl] at hy; cases hy
    | int b => rw [rep_int] at hy; cases hy
    | str b => rw [rep_str] at hy; cases hy
    | lst b =>
      rw [rep_lst] at hy
      obtain ⟨a', ys, q, sq', rl'⟩ := hy
      cases q
      rw [I.list_inj (hs.seq sq'.sq) (hs.seq sq.sq)] at rl'
      unfold plD at he; rw [Bool.and_eq_true] at he
      rw [RepL.inj I hs hd.2 he.2 rl rl']
    | tup b =>
      rw [rep_tup] at hy
      obtain ⟨a', ys, q, sq', rl'⟩ := hy
      cases q
      obtain ⟨_, _, p1⟩ := I.isLst (hs.seq sq.sq)
      obtain ⟨_, _, p2⟩ := I.isTup (hs.seqT sq'.sq)
      exact absurd rfl (SeqAt.ne_of_list_tuple p1 p2)
    | ins _ _ _ => unfold plD at he; cases he
    | dct _ _ => unfold plD at he; cases he
    | scr _ => unfold plD at he; cases he
  | n, m, .tup c, e, x, hd, he, hx, hy => by
    rw [rep_tup] at hx
    obtain ⟨a, xs, rfl, sq, rl⟩ := hx
    unfold plD at hd; rw [Bool.and_eq_true] at hd
    cases e with
    | non => rw [rep_non] at hy; cases hy
    | bl b => rw [rep_bl] at hy; cases hy
    | int b => rw [rep_int] at hy; cases hy
    | str b => rw [rep_str] at hy; cases hy
    | tup b =>
      rw [rep_tup] at hy
      obtain ⟨a', ys, q, sq', rl'⟩ := hy
      cases q
      rw [I.tuple_inj (hs.seqT sq'.sq) (hs.seqT sq.sq)] at rl'
      unfold plD at he; rw [Bool.and_eq_true] at he
      rw [RepL.inj I hs hd.2 he.2 rl rl']
    | lst b =>
      rw [rep_lst] at hy
      obtain ⟨a', ys, q, sq', rl'⟩ := hy
      cases q
      obtain ⟨_, _, p1⟩ := I.isLst (hs.seq sq'.sq)
      obtain ⟨_, _, p2⟩ := I.isTup (hs.seqT sq.sq)
      exact absurd rfl (SeqAt.ne_of_list_tuple p1 p2)
    | ins _ _ _ => unfold plD at he; cases he
    | dct _ _ => unfold plD at he; cases he
    | scr _ => unfold plD at he; cases he
  | _, _, .ins _ _ _, _, _, hd, _, _, _ => by unfold plD at hd; cases hd
theorem RepL.inj (I : Inv X pins σ H s) (hs : Same G H) : ∀ {n m : Nat} {ds es : List D} {xs : List V}, plL n ds = true → plL m es = true → RepL X.K G ds xs → RepL X.K G es xs → ds = es
  | _, _, [], es, _, _, _, h, h' => by
    rw [h.inv0] at h'
    cases es with
    | nil => rfl
    | cons e es => obtain ⟨_, _, q, _⟩ := h'.inv; cases q
  | _, _, d :: ds, es, _, hd, he, h, h' => by
    obtain ⟨v, r, rfl, a, b⟩ := h.inv
    cases es with
    | nil => have z := h'.inv0; cases z
    | cons e es =>
      obtain ⟨v', r', q, a', b'⟩ := h'.inv
      cases q
      unfold plL at hd he
      rw [Bool.and_eq_true] at hd he
      rw [Rep.inj I hs hd.1 he.1 a a', RepL.inj I hs hd.2 he.2 b b']
end
end
end L2
set_option Elab.async false
set_option linter.all false
set_option maxRecDepth 100000
namespace L2
open PySem PySem.Spec PyProof.Rows PySem.SeqAt
section
variable {X : Cx} {E : XK} {pins : List (Addr × Obj)} {σ : St} {G H : Hp} {s : Shared}
def Eq3 (A : Around) (s : Shared) (u v : Value) (b : Bool) : Prop := EqAt A s u v b ∧ RcAt A s u v b ∧ RcNeAt A s u v (!b)
theorem vals_at {xs : List V} {us : List Value} (r : Vals xs us) {j : Nat} (h : j < us.toArray.size) : ∃ x, xs[j]? = some x ∧ RelV x us.toArray[j] := by
  have hl := r.length
  have h' : j < us.length := by simpa using h
  have hx : j < xs.length := by omega
  obtain ⟨u, hu, ru⟩ := r.get (i := j) (x := xs[j]) (by simp [hx])
  refine ⟨xs[j], by simp [hx], ?_⟩
  have e : us.toArray[j] = u := by
    have q : us[j]? = some us[j] := by simp [h']
    rw [q] at hu
    cases hu
    simp
  rw [e]; exact ru
theorem eq3_seqs {n : Nat} {ds es : List D} {xs ys : List V} {us vs : List Value} {A : Around} (rd : RepL X.K G ds xs) (re : RepL X.K G es ys) (ru : Vals xs us) (rv : Vals ys vs)
    (ih : ∀ (d e : D) (x y : V) (u v : Value), d ∈ ds → e ∈ es → Rep X.K G d x → Rep X.K G e y → RelV x u → RelV y v → EqAt A s u v (eqB d e)) :
    ∀ j (h1 : j < us.toArray.size) (h2 : j < vs.toArray.size), EqAt A s us.toArray[j] vs.toArray[j] (eqB (ds.getD j .non) (es.getD j .non)) := by
  intro j h1 h2
  obtain ⟨x, hx, rx⟩ := vals_at ru h1
  obtain ⟨y, hy, ry⟩ := vals_at rv h2
  have l1 := rd.length
  have l2 := re.length
  have jx : j < ds.length := by rw [l1]; exact (List.getElem?_eq_some_iff.mp hx).1
  have jy : j < es.length := by rw [l2]; exact (List.getElem?_eq_some_iff.mp hy).1
  have e1 : ds[j]? = some ds[j] := by simp [jx]
  have e2 : es[j]? = some es[j] := by simp [jy]
  obtain ⟨x', hx', px⟩ := rd.get e1
  obtain ⟨y', hy', py⟩ := re.get e2
  rw [hx] at hx'; cases hx'
  rw [hy] at hy'; cases hy'
  have g1 : ds.getD j .non = ds[j] := by simp [List.getD, e1]
  have g2 : es.getD j .non = es[j] := by simp [List.getD, e2]
  rw [g1, g2]
  exact ih _ _ x y _ _ (List.getElem_mem jx) (List.getElem_mem jy) px py rx ry
theorem getD_eq {ds : List D} {i : Nat} {d : D} (h : ds[i]? = some d) : ds.getD i .non = d := by simp [List.getD, h]
theorem eqBL_range {ds es : List D} {us vs : List Value} {xs ys : List V} (rd : RepL X.K G ds xs) (re : RepL X.K G es ys) (ru : Vals xs us) (rv : Vals ys vs) (hsz : us.toArray.size = vs.toArray.size) :
    (List.range us.toArray.size).all (fun j => eqB (ds.getD j .non) (es.getD j .non)) = eqBL ds es := by
  have l1 := rd.length; have l2 := re.length; have l3 := ru.length; have l4 := rv.length
  have h1 : us.length = vs.length := by simpa using hsz
  refine eqBL_all (by omega) (fun i a b ha hb => ?_) (by simp; omega)
  rw [getD_eq ha, getD_eq hb]
def KVal (K : PySem.W.Frag) (G : Hp) (s : Shared) : D → Value → Prop
  | .non, u => u = .none
  | .bl b, u => u = .bool b
  | .int i, u => ∃ t, u = .int i t
  | .str x, u => ∃ t, u = .str x t
  | .lst ds, u => ∃ a its xs, u = .ref a ∧ s.heap.IsList a its.toArray ∧ RepL K G ds xs ∧ Vals xs its
  | .tup ds, u => ∃ a its xs, u = .ref a ∧ s.heap.IsTuple a its.toArray ∧ RepL K G ds xs ∧ Vals xs its
  | .ins _ _ _, _ => True
  | .dct _ _, _ => True
  | .scr _, _ => True
theorem kval_of (I : Inv X pins σ H s) (hs : Same G H) {d : D} {x : V} {u : Value} (rx : Rep X.K G d x) (ru : RelV x u) : KVal X.K G s d u := by
  cases d with
  | non => rw [rep_non] at rx; subst rx; exact ru
  | bl b => rw [rep_bl] at rx; subst rx; exact ru
  | int i => rw [rep_int] at rx; subst rx; exact ru
  | str i => rw [rep_str] at rx; subst rx; exact ru
  | lst l =>
    rw [rep_lst] at rx
    obtain ⟨a, xs, rfl, sq, rl⟩ := rx
    obtain ⟨its, r, p⟩ := I.isLst (hs.seq sq.sq)
    exact ⟨a, its, xs, ru, p, rl, r⟩
  | tup l =>
    rw [rep_tup] at rx
    obtain ⟨a, xs, rfl, sq, rl⟩ := rx
    obtain ⟨its, r, p⟩ := I.isTup (hs.seqT sq.sq)
    exact ⟨a, its, xs, ru, p, rl, r⟩
  | ins _ _ _ => trivial
  | dct _ _ => trivial
  | scr _ => trivial
theorem eq3_lists {n m : Nat} {ds es : List D} {a b : Addr} {xs ys : List V} {us vs : List Value} {A : Around} (hu : A.units < cLine) (ha : s.heap.IsList a us.toArray) (hb : s.heap.IsList b vs.toArray) (rd : RepL X.K G ds xs) (re : RepL X.K G es ys) (ru : Vals xs us) (rv : Vals ys vs)
    (same : a = b → eqBL ds es = true)
    (ih : ∀ (d e : D) (x y : V) (u v : Value), d ∈ ds → e ∈ es → Rep X.K G d x → Rep X.K G e y → RelV x u → RelV y v → EqAt A.in1 s u v (eqB d e)) : Eq3 A s (.ref a) (.ref b) (eqBL ds es) := by
  have l1 := rd.length; have l2 := re.length; have l3 := ru.length; have l4 := rv.length
  have rc : RcAt A s (.ref a) (.ref b) (eqBL ds es) ∧ RcNeAt A s (.ref a) (.ref b) (!eqBL ds es) := by
    by_cases hsz : us.toArray.size = vs.toArray.size
    · have e1 := eqBL_range rd re ru rv hsz
      rw [← e1]
      exact ⟨RcAt.lists ha hb hsz hu (eq3_seqs (n := n) rd re ru rv ih), RcNeAt.lists ha hb hsz hu (eq3_seqs (n := n) rd re ru rv ih)⟩
    · have e1 : eqBL ds es = false := eqBL_len fun z => hsz (by simp; omega)
      rw [e1]
      have hne : (us.toArray.size != vs.toArray.size) = true := by simpa using hsz
      exact ⟨RcAt.lists_lengths ha hb hne hu, RcNeAt.lists_lengths ha hb hne hu⟩
  refine ⟨?_, rc.1, rc.2⟩
  by_cases hab : a = b
  · subst hab
    rw [same rfl]
    exact EqAt.same _
  · exact EqAt.of_refs hab rc.1
theorem eq3_tuples {n m : Nat} {ds es : List D} {a b : Addr} {xs ys : List V} {us vs : List Value} {A : Around} (hu : A.units < cLine) (ha : s.heap.IsTuple a us.toArray) (hb : s.heap.IsTuple b vs.toArray) (rd : RepL X.K G ds xs) (re : RepL X.K G es ys) (ru : Vals xs us) (rv : Vals ys vs)
    (same : a = b → eqBL ds es = true)
    (ih : ∀ (d e : D) (x y : V) (u v : Value), d ∈ ds → e ∈ es → Rep X.K G d x → Rep X.K G e y → RelV x u → RelV y v → EqAt A.in1 s u v (eqB d e)) : Eq3 A s (.ref a) (.ref b) (eqBL ds es) := by
  have l1 := rd.length; have l2 := re.length; have l3 := ru.length; have l4 := rv.length
  have val : ((List.range (min us.toArray.size vs.toArray.size)).all (fun j => eqB (ds.getD j .non) (es.getD j .non)) && us.toArray.size == vs.toArray.size) = eqBL ds es := by
    by_cases hsz : us.toArray.size = vs.toArray.size
    · have e1 := eqBL_range rd re ru rv hsz
      rw [← hsz, Nat.min_self, e1]
      simp
    · have e1 : eqBL ds es = false := eqBL_len fun z => hsz (by simp; omega)
      have e2 : (us.toArray.size == vs.toArray.size) = false := by simpa using hsz
      rw [e1, e2, Bool.and_false]
  have rc : RcAt A s (.ref a) (.ref b) (eqBL ds es) ∧ RcNeAt A s (.ref a) (.ref b) (!eqBL ds es) := by
    rw [← val]
    exact ⟨RcAt.tuples ha hb hu (eq3_seqs (n := n) rd re ru rv ih), RcNeAt.tuples ha hb hu (eq3_seqs (n := n) rd re ru rv ih)⟩
  refine ⟨?_, rc.1, rc.2⟩
  by_cases hab : a = b
  · subst hab
    rw [same rfl]
    exact EqAt.same _
  · exact EqAt.of_refs hab rc.1
theorem plL_mem {n : Nat} {ds : List D} {d : D} (h : plL n ds = true) (hd : d ∈ ds) : plD n d = true := by
  obtain ⟨i, hi⟩ := List.getElem?_of_mem hd
  exact plL_get h hi
theorem eq3_D (I : Inv X pins σ H s) (hs : Same G H) : ∀ (n m : Nat) (d e : D) (x y : V) (u v : Value) (A : Around), plD n d = true → plD m e = true → Rep X.K G d x → Rep X.K G e y → RelV x u → RelV y v → A.units + n < cLine → Eq3 A s u v (eqB d e) := by
  intro n
  induction n with
  | zero =>
    intro m d e x y u v A hd he rx ry ru rv hu
    have kd := kval_of I hs rx ru
    have ke := kval_of I hs ry rv
    have hu0 : A.units < cLine := by omega
    cases d with
    | lst l => unfold plD at hd; simp at hd
    | tup l => unfold plD at hd; simp at hd
    | ins _ _ _ => unfold plD at hd; cases hd
    | dct _ _ => unfold plD at hd; cases hd
    | scr _ => unfold plD at hd; cases hd
    | non =>
      cases (show u = .none from kd)
      cases e with
      | non => cases (show v = .none from ke); unfold eqB; exact ⟨EqAt.same _, RcAt.none_none, RcNeAt.none_none⟩
      | bl b => cases (show v = .bool b from ke); unfold eqB; exact ⟨EqAt.none_bool _, RcAt.none_bool _, RcNeAt.none_bool _⟩
      | int b => obtain ⟨t, rfl⟩ := ke; unfold eqB; exact ⟨EqAt.none_int _ _, RcAt.none_int _ _, RcNeAt.none_int _ _⟩
      | str b => obtain ⟨t, rfl⟩ := ke; unfold eqB; exact ⟨EqAt.none_str _ _, RcAt.none_str _ _, RcNeAt.none_str _ _⟩
      | lst b => obtain ⟨a, its, xs, rfl, p, _⟩ := ke; unfold eqB; exact ⟨EqAt.none_list p hu0, RcAt.none_list p hu0, RcNeAt.none_list p hu0⟩
      | tup b => obtain ⟨a, its, xs, rfl, p, _⟩ := ke; unfold eqB; exact ⟨EqAt.none_tuple p hu0, RcAt.none_tuple p hu0, RcNeAt.none_tuple p hu0⟩
      | ins _ _ _ => unfold plD at he; cases he
      | dct _ _ => unfold plD at he; cases he
      | scr _ => unfold plD at he; cases he
    | bl c =>
      cases (show u = .bool c from kd)
      cases e with
      | non => cases (show v = .none from ke); unfold eqB; exact ⟨EqAt.bool_none _, RcAt.bool_none _, RcNeAt.bool_none _⟩
      | bl b => cases (show v = .bool b from ke); unfold eqB; exact ⟨EqAt.bool_bool _ _, RcAt.bool_bool _ _, RcNeAt.bool_bool _ _⟩
      | int b => obtain ⟨t, rfl⟩ := ke; unfold eqB; exact ⟨EqAt.bool_int _ _ _, RcAt.bool_int _ _ _, RcNeAt.bool_int _ _ _⟩
      | str b => obtain ⟨t, rfl⟩ := ke; unfold eqB; exact ⟨EqAt.bool_str _ _ _, RcAt.bool_str _ _ _, RcNeAt.bool_str _ _ _⟩
      | lst b => obtain ⟨a, its, xs, rfl, p, _⟩ := ke; unfold eqB; exact ⟨EqAt.bool_list _ p hu0, RcAt.bool_list _ p hu0, RcNeAt.bool_list _ p hu0⟩
      | tup b => obtain ⟨a, its, xs, rfl, p, _⟩ := ke; unfold eqB; exact ⟨EqAt.bool_tuple _ p hu0, RcAt.bool_tuple _ p hu0, RcNeAt.bool_tuple _ p hu0⟩
      | ins _ _ _ => unfold plD at he; cases he
      | dct _ _ => unfold plD at he; cases he
      | scr _ => unfold plD at he; cases he
    | int c =>
      obtain ⟨t0, rfl⟩ := kd
      cases e with
      | non => cases (show v = .none from ke); unfold eqB; exact ⟨EqAt.int_none _ _, RcAt.int_none _ _, RcNeAt.int_none _ _⟩
      | bl b => cases (show v = .bool b from ke); unfold eqB; exact ⟨EqAt.int_bool _ _ _, RcAt.int_bool _ _ _, RcNeAt.int_bool _ _ _⟩
      | int b => obtain ⟨t, rfl⟩ := ke; unfold eqB; exact ⟨EqAt.int_int _ _ _ _, RcAt.int_int _ _ _ _, RcNeAt.int_int _ _ _ _⟩
      | str b => obtain ⟨t, rfl⟩ := ke; unfold eqB; exact ⟨EqAt.int_str _ _ _ _, RcAt.int_str _ _ _ _, RcNeAt.int_str _ _ _ _⟩
      | lst b => obtain ⟨a, its, xs, rfl, p, _⟩ := ke; unfold eqB; exact ⟨EqAt.int_list _ _ p hu0, RcAt.int_list _ _ p hu0, RcNeAt.int_list _ _ p hu0⟩
      | tup b => obtain ⟨a, its, xs, rfl, p, _⟩ := ke; unfold eqB; exact ⟨EqAt.int_tuple _ _ p hu0, RcAt.int_tuple _ _ p hu0, RcNeAt.int_tuple _ _ p hu0⟩
      | ins _ _ _ => unfold plD at he; cases he
      | dct _ _ => unfold plD at he; cases he
      | scr _ => unfold plD at he; cases he
    | str c =>
      obtain ⟨t0, rfl⟩ := kd
      cases e with
      | non => cases (show v = .none from ke); unfold eqB; exact ⟨EqAt.str_none _ _, RcAt.str_none _ _, RcNeAt.str_none _ _⟩
      | bl b => cases (show v = .bool b from ke); unfold eqB; exact ⟨EqAt.str_bool _ _ _, RcAt.str_bool _ _ _, RcNeAt.str_bool _ _ _⟩
      | int b => obtain ⟨t, rfl⟩ := ke; unfold eqB; exact ⟨EqAt.str_int _ _ _ _, RcAt.str_int _ _ _ _, RcNeAt.str_int _ _ _ _⟩
      | str b => obtain ⟨t, rfl⟩ := ke; unfold eqB; exact ⟨EqAt.str_str _ _ _ _, RcAt.str_str _ _ _ _, RcNeAt.str_str _ _ _ _⟩
      | lst b => obtain ⟨a, its, xs, rfl, p, _⟩ := ke; unfold eqB; exact ⟨EqAt.str_list _ _ p hu0, RcAt.str_list _ _ p hu0, RcNeAt.str_list _ _ p hu0⟩
      | tup b => obtain ⟨a, its, xs, rfl, p, _⟩ := ke; unfold eqB; exact ⟨EqAt.str_tuple _ _ p hu0, RcAt.str_tuple _ _ p hu0, RcNeAt.str_tuple _ _ p hu0⟩
      | ins _ _ _ => unfold plD at he; cases he
      | dct _ _ => unfold plD at he; cases he
      | scr _ => unfold plD at he; cases he
  | succ n ih =>
    intro m d e x y u v A hd he rx ry ru rv hu
    have kd := kval_of I hs rx ru
    have ke := kval_of I hs ry rv
    have hu0 : A.units < cLine := by omega
    have hu1 : A.in1.units + n < cLine := by show A.units + 1 + n < cLine; omega
    have low : ∀ (c : D), plD (n + 1) c = true → (match c with | .lst _ => False | .tup _ => False | _ => True) → plD n c = true := fun c h hc => by cases c <;> first | exact hc.elim | (unfold plD at h ⊢; exact h)
    cases d with
    | lst l =>
      obtain ⟨a, us, xs, rfl, pa, rl, r1⟩ := kd
      have hd' := hd
      unfold plD at hd'; rw [Bool.and_eq_true] at hd'
      cases e with
      | non => cases (show v = .none from ke); unfold eqB; exact ⟨EqAt.list_none pa hu0, RcAt.list_none pa hu0, RcNeAt.list_none pa hu0⟩
      | bl b => cases (show v = .bool b from ke); unfold eqB; exact ⟨EqAt.list_bool _ pa hu0, RcAt.list_bool _ pa hu0, RcNeAt.list_bool _ pa hu0⟩
      | int b => obtain ⟨t, rfl⟩ := ke; unfold eqB; exact ⟨EqAt.list_int _ _ pa hu0, RcAt.list_int _ _ pa hu0, RcNeAt.list_int _ _ pa hu0⟩
      | str b => obtain ⟨t, rfl⟩ := ke; unfold eqB; exact ⟨EqAt.list_str _ _ pa hu0, RcAt.list_str _ _ pa hu0, RcNeAt.list_str _ _ pa hu0⟩
      | lst l2 =>
        obtain ⟨b, vs, ys, rfl, pb, rl2, r2⟩ := ke
        have he' := he
        unfold plD at he'; rw [Bool.and_eq_true] at he'
        unfold eqB
        refine eq3_lists (X := X) (n := n) (m := m) hu0 pa pb rl rl2 r1 r2 (fun hab => ?_) fun d' e' x' y' u' v' hm1 hm2 q1 q2 q3 q4 => (ih (m - 1) d' e' x' y' u' v' A.in1 (plL_mem hd'.2 hm1) (plL_mem he'.2 hm2) q1 q2 q3 q4 hu1).1
        subst hab
        have ex : x = .ref a := by rw [rep_lst] at rx; obtain ⟨a', _, rfl, _⟩ := rx; cases ru; rfl
        have ey : y = .ref a := by rw [rep_lst] at ry; obtain ⟨a', _, rfl, _⟩ := ry; cases rv; rfl
        subst ex ey
        have z := Rep.inj I hs hd he rx ry
        cases z
        exact eqBL_refl hd'.2
      | tup l2 =>
        obtain ⟨b, vs, ys, rfl, pb, rl2, r2⟩ := ke
        unfold eqB
        exact ⟨EqAt.list_tuple pa pb hu0, RcAt.list_tuple pa pb hu0, RcNeAt.list_tuple pa pb hu0⟩
      | ins _ _ _ => unfold plD at he; cases he
      | dct _ _ => unfold plD at he; cases he
      | scr _ => unfold plD at he; cases he
    | tup l =>
      obtain ⟨a, us, xs, rfl, pa, rl, r1⟩ := kd
      have hd' := hd
      unfold plD at hd'; rw [Bool.and_eq_true] at hd'
      cases e with
      | non => cases (show v = .none from ke); unfold eqB; exact ⟨EqAt.tuple_none pa hu0, RcAt.tuple_none pa hu0, RcNeAt.tuple_none pa hu0⟩
      | bl b => cases (show v = .bool b from ke); unfold eqB; exact ⟨EqAt.tuple_bool _ pa hu0, RcAt.tuple_bool _ pa hu0, RcNeAt.tuple_bool _ pa hu0⟩
      | int b => obtain ⟨t, rfl⟩ := ke; unfold eqB; exact ⟨EqAt.tuple_int _ _ pa hu0, RcAt.tuple_int _ _ pa hu0, RcNeAt.tuple_int _ _ pa hu0⟩
      | str b => obtain ⟨t, rfl⟩ := ke; unfold eqB; exact ⟨EqAt.tuple_str _ _ pa hu0, RcAt.tuple_str _ _ pa hu0, RcNeAt.tuple_str _ _ pa hu0⟩
      | tup l2 =>
        obtain ⟨b, vs, ys, rfl, pb, rl2, r2⟩ := ke
        have he' := he
        unfold plD at he'; rw [Bool.and_eq_true] at he'
        unfold eqB
        refine eq3_tuples (X := X) (n := n) (m := m) hu0 pa pb rl rl2 r1 r2 (fun hab => ?_) fun d' e' x' y' u' v' hm1 hm2 q1 q2 q3 q4 => (ih (m - 1) d' e' x' y' u' v' A.in1 (plL_mem hd'.2 hm1) (plL_mem he'.2 hm2) q1 q2 q3 q4 hu1).1
        subst hab
        have ex : x = .ref a := by rw [rep_tup] at rx; obtain ⟨a', _, rfl, _⟩ := rx; cases ru; rfl
        have ey : y = .ref a := by rw [rep_tup] at ry; obtain ⟨a', _, rfl, _⟩ := ry; cases rv; rfl
        subst ex ey
        have z := Rep.inj I hs hd he rx ry
        cases z
        exact eqBL_refl hd'.2
      | lst l2 =>
        obtain ⟨b, vs, ys, rfl, pb, rl2, r2⟩ := ke
        unfold eqB
        exact ⟨EqAt.tuple_list pa pb hu0, RcAt.tuple_list pa pb hu0, RcNeAt.tuple_list pa pb hu0⟩
      | ins _ _ _ => unfold plD at he; cases he
      | dct _ _ => unfold plD at he; cases he
      | scr _ => unfold plD at he; cases he
    | ins _ _ _ => unfold plD at hd; cases hd
    | dct _ _ => unfold plD at hd; cases hd
    | scr _ => unfold plD at hd; cases hd
    | non => exact ih m _ e x y u v A (low _ hd trivial) he rx ry ru rv (by omega)
    | bl c => exact ih m _ e x y u v A (low _ hd trivial) he rx ry ru rv (by omega)
    | int c => exact ih m _ e x y u v A (low _ hd trivial) he rx ry ru rv (by omega)
    | str c => exact ih m _ e x y u v A (low _ hd trivial) he rx ry ru rv (by omega)
def eqO (d e : D) : Res D := if plD 20 d = true ∧ plD 20 e = true then .ok (.bl (eqB d e)) else .bad
def neO (d e : D) : Res D := if plD 20 d = true ∧ plD 20 e = true then .ok (.bl (!eqB d e)) else .bad
theorem do_eq (hu : X.A.units + 64 < cLine) : DOp X E (compareOp .Eq) eqO := by
  intro pins s σ G H x y dx dy v u I hs rx ry rv ru ok
  unfold eqO at ok ⊢
  by_cases h : plD 20 dx = true ∧ plD 20 dy = true
  · rw [if_pos h]
    exact (eq3_D I hs 20 20 dx dy x y v u X.A h.1 h.2 rx ry rv ru (by omega)).2.1 _ _ _ _ ⟨_, rfl, .bl (eqB dx dy), G, H, I, rfl, .refl hs, rep_bl.mpr rfl⟩
  · rw [if_neg h] at ok; exact ok.elim
theorem do_ne (hu : X.A.units + 64 < cLine) : DOp X E (compareOp .NotEq) neO := by
  intro pins s σ G H x y dx dy v u I hs rx ry rv ru ok
  unfold neO at ok ⊢
  by_cases h : plD 20 dx = true ∧ plD 20 dy = true
  · rw [if_pos h]
    exact (eq3_D I hs 20 20 dx dy x y v u X.A h.1 h.2 rx ry rv ru (by omega)).2.2 _ _ _ _ ⟨_, rfl, .bl (!eqB dx dy), G, H, I, rfl, .refl hs, rep_bl.mpr rfl⟩
  · rw [if_neg h] at ok; exact ok.elim
end
end L2
set_option Elab.async false
set_option linter.all false
set_option maxRecDepth 100000
namespace L2
open PySem PySem.Spec PyProof.Rows PySem.SeqAt
section
variable {X : Cx} {E : XK} {pins : List (Addr × Obj)} {σ : St} {G H : Hp} {s : Shared}
open Classical in
noncomputable def inE (K : PySem.W.Frag) (G : Hp) (ds : List D) (dx : D) (u : Value) : Bool := decide (∃ d x, d ∈ ds ∧ Rep K G d x ∧ RelV x u ∧ eqB d dx = true)
theorem inE_at (I : Inv X pins σ H s) (hs : Same G H) {ds : List D} {dx d : D} {x : V} {u : Value} (hp : plL 19 ds = true) (hd : d ∈ ds) (rx : Rep X.K G d x) (ru : RelV x u) : inE X.K G ds dx u = eqB d dx := by
  unfold inE
  cases e : eqB d dx with
  | true => exact @decide_eq_true _ (Classical.propDecidable _) ⟨d, x, hd, rx, ru, e⟩
  | false =>
    refine @decide_eq_false _ (Classical.propDecidable _) fun ⟨d', x', hd', rx', ru', e'⟩ => ?_
    have hx : x' = x := RelV.inj ru' ru
    subst hx
    rw [Rep.inj I hs (plL_mem hp hd') (plL_mem hp hd) rx' rx, e] at e'
    cases e'
theorem any_paired {ds : List D} {xs : List V} {us : List Value} {f : Value → Bool} {g : D → Bool} : RepL X.K G ds xs → Vals xs us → (∀ d x u, d ∈ ds → Rep X.K G d x → RelV x u → f u = g d) → us.any f = ds.any g := by
  intro rd
  induction ds generalizing xs us with
  | nil => intro r _; rw [rd.inv0] at r; cases r; rfl
  | cons d ds ih =>
    intro r h
    obtain ⟨v, q, rfl, a, b⟩ := rd.inv
    cases r with
    | cons r1 r2 =>
      rw [List.any_cons, List.any_cons, h d v _ List.mem_cons_self a r1, ih b r2 fun d' x' u' hm => h d' x' u' (List.mem_cons_of_mem _ hm)]
def inO (neg : Bool) (d e : D) : Res D := match e with
  | .lst l => if plL 19 l = true ∧ plD 19 d = true then .ok (.bl (if neg then !(l.any fun y => eqB y d) else l.any fun y => eqB y d)) else .bad
  | .tup l => if plL 19 l = true ∧ plD 19 d = true then .ok (.bl (if neg then !(l.any fun y => eqB y d) else l.any fun y => eqB y d)) else .bad
  | _ => .bad
theorem mem_val {ds : List D} {xs : List V} {us : List Value} {u : Value} (rd : RepL X.K G ds xs) (r : Vals xs us) (hu : u ∈ us) : ∃ d x, d ∈ ds ∧ Rep X.K G d x ∧ RelV x u := by
  induction ds generalizing xs us with
  | nil => rw [rd.inv0] at r; cases r; cases hu
  | cons d ds ih =>
    obtain ⟨v, q, rfl, a, b⟩ := rd.inv
    cases r with
    | cons r1 r2 =>
      rcases List.mem_cons.mp hu with rfl | hu
      · exact ⟨d, v, List.mem_cons_self, a, r1⟩
      · obtain ⟨d', x', h1, h2, h3⟩ := ih b r2 hu
        exact ⟨d', x', List.mem_cons_of_mem _ h1, h2, h3⟩
theorem do_in (hu : X.A.units + 64 < cLine) : DOp X E (compareOp .In) (inO false) := by
  intro pins s σ G H x y dx dy v u I hs rx ry rv ru ok
  unfold inO at ok ⊢
  cases dy with
  | lst l =>
    dsimp only at ok ⊢
    by_cases h : plL 19 l = true ∧ plD 19 dx = true
    · rw [if_pos h]
      rw [rep_lst] at ry
      obtain ⟨a, xs, rfl, sq, rl⟩ := ry
      cases (show u = .ref a from ru)
      obtain ⟨its, r, p⟩ := I.isLst (hs.seq sq.sq)
      refine in_listAt (inE X.K G l dx) p (fun w hw => ?_) ?_
      · obtain ⟨d, z, h1, h2, h3⟩ := mem_val rl r (by simpa using hw)
        rw [inE_at I hs h.1 h1 h2 h3]
        exact (eq3_D I hs 19 19 d dx z x w v X.A.in1 (plL_mem h.1 h1) h.2 h2 rx h3 rv (by show X.A.units + 1 + 19 < cLine; omega)).1
      · have e1 : its.toArray.any (inE X.K G l dx) = l.any fun y => eqB y dx := by
          rw [List.any_toArray]
          exact any_paired rl r fun d z w hm h2 h3 => inE_at I hs h.1 hm h2 h3
        rw [e1]
        exact ⟨_, rfl, .bl (l.any fun y => eqB y dx), G, H, I, rfl, .refl hs, rep_bl.mpr rfl⟩
    · rw [if_neg h] at ok; exact ok.elim
  | tup l =>
    dsimp only at ok ⊢
    by_cases h : plL 19 l = true ∧ plD 19 dx = true
    · rw [if_pos h]
      rw [rep_tup] at ry
      obtain ⟨a, xs, rfl, sq, rl⟩ := ry
      cases (show u = .ref a from ru)
      obtain ⟨its, r, p⟩ := I.isTup (hs.seqT sq.sq)
      refine in_tupleAt (inE X.K G l dx) p (fun w hw => ?_) ?_
      · obtain ⟨d, z, h1, h2, h3⟩ := mem_val rl r (by simpa using hw)
        rw [inE_at I hs h.1 h1 h2 h3]
        exact (eq3_D I hs 19 19 d dx z x w v X.A.in1 (plL_mem h.1 h1) h.2 h2 rx h3 rv (by show X.A.units + 1 + 19 < cLine; omega)).1
      · have e1 : its.toArray.any (inE X.K G l dx) = l.any fun y => eqB y dx := by
          rw [List.any_toArray]
          exact any_paired rl r fun d z w hm h2 h3 => inE_at I hs h.1 hm h2 h3
        rw [e1]
        exact ⟨_, rfl, .bl (l.any fun y => eqB y dx), G, H, I, rfl, .refl hs, rep_bl.mpr rfl⟩
    · rw [if_neg h] at ok; exact ok.elim
  | _ => exact ok.elim
def tyD : D → Option Value
  | .non => some (.type "NoneType")
  | .bl _ => some (.type "bool")
  | .int _ => some (.type "int")
  | .str _ => some (.type "str")
  | .lst _ => some (.type "list")
  | .tup _ => some (.type "tuple")
  | .ins _ _ _ => none
  | .dct _ _ => none
  | .scr _ => none
def isiD (K : PySem.W.Frag) (c : Value) (d : D) : Res D := match tyD d with
  | some t => match PySem.W.kitOne K t c with | some b => .ok (.bl b) | none => .bad
  | none => .bad
theorem isi_call {A : Around} {u : Value} {c : Value} {d : D} {x : V} {b : Bool} {t : Value} {Q : Value → Shared → Prop} {E' : Value → Shared → Prop} (I : Inv X pins σ H s) (hs : Same G H) (rx : Rep X.K G d x) (ru : RelV x u) (ht : tyD d = some t) (e : PySem.W.kitOne X.K t c = some b) (h : ∀ tk, Q (.bool b) { s with toks := tk }) :
    wpAny (model X.prog X.w) A (call (.builtin "isinstance") [u, c]) Q E' s := by
  have kv := kval_of I hs rx ru
  cases d with
  | non => cases ht; cases (show u = .none from kv); exact PySem.W.kia_one PySem.W.kitx_none I.kIn True.intro e (fun z => nomatch z) h
  | bl y => cases ht; cases (show u = .bool y from kv); exact PySem.W.kia_one PySem.W.kitx_bool I.kIn True.intro e (fun z => nomatch z) h
  | int i => cases ht; obtain ⟨t, rfl⟩ := kv; exact PySem.W.kia_one PySem.W.kitx_int I.kIn True.intro e (fun z => nomatch z) h
  | str i => cases ht; obtain ⟨t, rfl⟩ := kv; exact PySem.W.kia_one PySem.W.kitx_str I.kIn True.intro e (fun z => nomatch z) h
  | lst l =>
    cases ht
    obtain ⟨a, its, xs, rfl, ⟨o, h1, h2, _⟩, _⟩ := kv
    exact PySem.W.kia_one PySem.W.kitx_list I.kIn ⟨o, h1, h2⟩ e (fun z => nomatch z) h
  | tup l =>
    cases ht
    obtain ⟨a, its, xs, rfl, ⟨o, h1, h2, _⟩, _⟩ := kv
    exact PySem.W.kia_one PySem.W.kitx_tuple I.kIn ⟨o, h1, h2⟩ e (fun z => nomatch z) h
  | ins _ _ _ => cases ht
  | dct _ _ => cases ht
  | scr _ => cases ht
theorem pd_isi {a c : Expr} {p pos : Pos} {fa : DS → Res D} {vc : V} (ha : PD X E a fa) (hcl : PE X c (tC vc)) (hvc : cV vc ≠ .none) (hg : Gl X "isinstance") (hm : X.mg "isinstance" = none)
    (hs1 : starEach [a, c] X.env = (false, eval a X.env) :: starEach [c] X.env := by rfl) (hs2 : starEach [c] X.env = (false, eval c X.env) :: starEach [] X.env := by rfl) (hpl : (backTo pos (starEach [c] X.env)).any (·.1) = false := by rfl) :
    PD X E (.Call (.Name "isinstance" p) [a, c] [] pos) (fun ρ => (fa ρ).bind (isiD X.K (cV vc))) := by
  intro pins s σ G H ρ I hs hro ho
  have hp : PA X [a, c] (tCons (tD X.K E fa) (tCons (tC vc) tNil)) := pa_cons (pe_d ha) (pa_cons hcl pa_nil hs2) hs1
  refine wpAny_Call_Name_kw (ld_blt I hg hm PyProof.Rows.boot_isinstance ?_ (by decide) (by decide))
  refine PyProof.Rows.callWith_builtin1 (thn (hp pos pins s σ H (fun vs H' => ∃ d x G', fa ρ = .ok d ∧ vs = [x, vc] ∧ Ext G H G' H' ∧ Rep X.K G' d x) I ?_) fun us s1 ⟨vs, H1, I1, r1, d, x, G1, e1, e2, x1, rp⟩ => ?_) hs1 hpl
  · exact ⟨G, ρ, hs, hro, ho.fst, fun d e v G1 H1 x1 rp => ⟨d, v, G1, e, rfl, x1, rp⟩⟩
  · subst e2
    obtain ⟨u1, u2, rfl, q1, q2⟩ := vals2 r1
    rw [cV_rel q2 hvc]
    have k := ho.snd e1 x1.hh
    unfold isiD at k
    cases ht : tyD d with
    | none => rw [ht] at k; exact k.elim
    | some t =>
      rw [ht] at k
      dsimp only at k
      cases hk : PySem.W.kitOne X.K t (cV vc) with
      | none => rw [hk] at k; exact k.elim
      | some b => exact isi_call I1 x1.gh rp q1 ht hk fun tk => ⟨.bl b, bind_ok e1 (by unfold isiD; rw [ht]; dsimp only; rw [hk]), .bl b, G1, H1, I1.tok tk, rfl, x1, rep_bl.mpr rfl⟩
end
end L2
set_option Elab.async false
set_option linter.all false
set_option maxRecDepth 100000
namespace L2
open PySem PySem.Spec PyProof.Rows
def Src (K : PySem.W.Frag) (J : It) (ds : List D) (G : Hp) : Prop := ∀ (G2 H2 : Hp), Same G G2 → Same G2 H2 → ∀ (i : Nat),
  (∀ d, ds[i]? = some d → J.go i H2 ∧ ∀ x H', J.yld i H2 x H' → ∃ G', Ext G2 H2 G' H' ∧ Rep K G' d x) ∧ (ds.length ≤ i → J.stop i H2)
def tDI (K : PySem.W.Frag) (E : XK) (fi : DS → Res (List D)) : TI := fun σ H R => ∃ G ρ, Same G H ∧ Ro K G σ ρ ∧ OkR E H (fi ρ) ∧ ∀ ds, fi ρ = .ok ds → ∀ J G' H', Ext G H G' H' → Src K J ds G' → R J H'
section
variable {X : Cx} {E : XK} {tg : Expr}
def seqD : D → Res (List D)
  | .lst l => .ok l
  | _ => .bad
theorem src_list {K : PySem.W.Frag} {G : Hp} {a : Addr} {xs : List V} {ds : List D} (sq : SqL K G a xs) (rl : RepL K G ds xs) : Src K (Itl K a) ds G := by
  intro G2 H2 g1 g2 i
  have sq2 : SqL K H2 a xs := g2.seq (g1.seq sq)
  refine ⟨fun d hd => ?_, fun hl => ⟨xs, sq2, by rw [← rl.length]; exact hl⟩⟩
  obtain ⟨v, hv, rv⟩ := rl.get hd
  refine ⟨⟨xs, v, sq2, hv⟩, fun y H' ⟨e, h⟩ => ?_⟩
  subst e
  have q := h xs sq2
  rw [hv] at q; cases q
  exact ⟨G2, .refl g2, rv.mono g1⟩
def rngD (lo : Int) (n : Nat) : List D := (List.range n).map fun (i : Nat) => D.int (lo + (i : Int))
theorem src_range {K : PySem.W.Frag} {G : Hp} (lo : Int) (n : Nat) : Src K (Itr lo n) (rngD lo n) G := by
  intro G2 H2 g1 g2 i
  refine ⟨fun d hd => ?_, fun hl => (show n ≤ i by simpa [rngD] using hl)⟩
  unfold rngD at hd
  rw [List.getElem?_map] at hd
  cases e : (List.range n)[i]? with
  | none => rw [e] at hd; cases hd
  | some j =>
    rw [e] at hd
    obtain ⟨hj, rfl⟩ := List.getElem?_eq_some_iff.mp e
    cases hd
    have hi : i < n := by simpa using hj
    refine ⟨hi, fun y H' ⟨e1, e2⟩ => ?_⟩
    subst e1 e2
    refine ⟨G2, .refl g2, rep_int.mpr ?_⟩
    rw [List.getElem_range]
theorem pi_dlist {e : Expr} {f : DS → Res D} (h : PD X E e f) : PI X tg e (tDI X.K E (fun ρ => (f ρ).bind seqD)) := by
  intro pins s σ H R I ⟨G, ρ, hs, hro, ho, k⟩
  refine pi_list (pe_d h) pins s σ H R I ⟨G, ρ, hs, hro, ho.fst, fun d e v G1 H1 x1 p1 => ?_⟩
  have kk := ho.snd e x1.hh
  cases d with
  | lst l =>
    rw [rep_lst] at p1
    obtain ⟨a, xs, rfl, sq, rl⟩ := p1
    exact ⟨a, rfl, ⟨xs, x1.gh.seq sq.sq⟩, k l (bind_ok e rfl) (Itl X.K a) G1 H1 x1 (src_list sq.sq rl)⟩
  | _ => exact kk.elim
def smallI (i : Int) : Bool := decide (-(2 ^ 62) ≤ i) && decide (i < 2 ^ 62)
def rng1 : List D → Res (List D)
  | [.int j] => if smallI j = true then .ok (rngD 0 j.toNat) else .bad
  | _ => .bad
def rng2 : List D → Res (List D)
  | [.int i, .int j] => if (smallI i && smallI j) = true then .ok (rngD i (j - i).toNat) else .bad
  | _ => .bad
theorem pi_drange1 {a : Expr} {p pos : Pos} {fs : DS → Res (List D)} (hg : Gl X "range") (hm : X.mg "range" = none) (ha : PDA X E [a] fs) (hs : starEach [a] X.env = [(false, eval a X.env)] := by rfl) : PI X tg (.Call (.Name "range" p) [a] [] pos) (tDI X.K E (fun ρ => (fs ρ).bind rng1)) := by
  intro pins s σ H R I ⟨G, ρ, hsm, hro, ho, k⟩
  refine pi_range1 hg hm (pa_d ha) hs pins s σ H R I ⟨G, ρ, hsm, hro, ho.fst, fun ds e vs G1 H1 x1 p1 => ?_⟩
  have kk := ho.snd e x1.hh
  unfold rng1 at kk
  split at kk
  · rename_i j
    obtain ⟨v, r, rfl, rv, r0⟩ := p1.inv
    rw [r0.inv0]
    rw [rep_int] at rv; subst rv
    by_cases hj : smallI j = true
    · have hj' := hj
      unfold smallI at hj'
      rw [Bool.and_eq_true] at hj'
      exact ⟨j, rfl, of_decide_eq_true hj'.1, of_decide_eq_true hj'.2, k _ (bind_ok e (if_pos hj)) _ G1 H1 x1 (src_range 0 j.toNat)⟩
    · rw [if_neg hj] at kk; exact kk.elim
  · exact kk.elim
theorem pi_drange2 {a b : Expr} {p pos : Pos} {fs : DS → Res (List D)} (hg : Gl X "range") (hm : X.mg "range" = none) (ha : PDA X E [a, b] fs) (hs : starEach [a, b] X.env = [(false, eval a X.env), (false, eval b X.env)] := by rfl) (hs2 : starEach [b] X.env = [(false, eval b X.env)] := by rfl) : PI X tg (.Call (.Name "range" p) [a, b] [] pos) (tDI X.K E (fun ρ => (fs ρ).bind rng2)) := by
  intro pins s σ H R I ⟨G, ρ, hsm, hro, ho, k⟩
  refine pi_range2 hg hm (pa_d ha) hs hs2 pins s σ H R I ⟨G, ρ, hsm, hro, ho.fst, fun ds e vs G1 H1 x1 p1 => ?_⟩
  have kk := ho.snd e x1.hh
  unfold rng2 at kk
  split at kk
  · rename_i i j
    obtain ⟨v, r, rfl, rv, r0⟩ := p1.inv
    obtain ⟨v2, r2, rfl, rv2, r02⟩ := r0.inv
    rw [r02.inv0]
    rw [rep_int] at rv rv2; subst rv rv2
    by_cases hj : (smallI i && smallI j) = true
    · have hj' := hj
      unfold smallI at hj'
      rw [Bool.and_eq_true, Bool.and_eq_true, Bool.and_eq_true] at hj'
      exact ⟨i, j, rfl, ⟨of_decide_eq_true hj'.1.1, of_decide_eq_true hj'.1.2, of_decide_eq_true hj'.2.1, of_decide_eq_true hj'.2.2⟩, k _ (bind_ok e (if_pos hj)) _ G1 H1 x1 (src_range i (j - i).toNat)⟩
    · rw [if_neg hj] at kk; exact kk.elim
  · exact kk.elim
def capD (caps : List (Option Nat)) (ρ : DS) : DS := caps.map fun o => o.bind fun k => (ρ[k]?).join
theorem capD_ro {K : PySem.W.Frag} {G : Hp} {σ : St} {ρ : DS} {caps : List (Option Nat)} (h : Ro K G σ ρ) : Ro K G (capSt caps σ) (capD caps ρ) := by
  intro i d e
  unfold capD at e
  rw [List.getElem?_map] at e
  unfold capSt
  rw [List.getElem?_map]
  cases q : caps[i]? with
  | none => rw [q] at e; cases e
  | some o =>
    rw [q] at e
    cases o with
    | none => simp at e
    | some k =>
      simp only [Option.map_some, Option.bind_some, Option.some.injEq] at e ⊢
      cases q2 : ρ[k]? with
      | none => rw [q2] at e; simp at e
      | some o2 =>
        rw [q2] at e
        simp at e
        subst e
        obtain ⟨v, hv, rv⟩ := h k d q2
        exact ⟨v, by rw [hv]; rfl, rv⟩
theorem Ro.set {K : PySem.W.Frag} {G : Hp} {σ : St} {ρ : DS} {j : Nat} {v : V} {d : D} (h : Ro K G σ ρ) (hj : j < σ.length) (r : Rep K G d v) : Ro K G (σ.set j (some v)) (ρ.set j (some d)) := by
  intro i e q
  by_cases hi : i = j
  · subst hi
    by_cases hl : i < ρ.length
    · rw [List.getElem?_set_self hl] at q
      cases q
      exact ⟨v, List.getElem?_set_self hj, r⟩
    · rw [List.getElem?_eq_none (by simpa using hl)] at q
      cases q
  · rw [List.getElem?_set_ne (Ne.symm hi)] at q ⊢
    exact h i e q
abbrev E00 : XK := fun _ _ _ => False
end
end L2
set_option Elab.async false
set_option linter.all false
set_option maxRecDepth 100000
namespace L2
open PySem PySem.Spec PyProof.Rows
section
variable {X : Cx} {E : XK}
def allInts : List D → Option (List Int)
  | [] => some []
  | .int i :: ds => (allInts ds).map (i :: ·)
  | _ => none
theorem allInts_eq : ∀ {ds : List D} {ns : List Int}, allInts ds = some ns → ds = ns.map D.int
  | [], ns, h => by unfold allInts at h; cases h; rfl
  | d :: ds, ns, h => by
    cases d with
    | int i =>
      unfold allInts at h
      cases q : allInts ds with
      | none => rw [q] at h; cases h
      | some ms => rw [q] at h; cases h; rw [allInts_eq q]; rfl
    | _ => unfold allInts at h; cases h
theorem allInts_map : ∀ (ns : List Int), allInts (ns.map D.int) = some ns
  | [] => rfl
  | n :: ns => by show (allInts (ns.map D.int)).map (n :: ·) = _; rw [allInts_map ns]; rfl
def minL : List Int → Int
  | [] => 0
  | [a] => a
  | a :: as => min a (minL as)
def maxL : List Int → Int
  | [] => 0
  | [a] => a
  | a :: as => max a (maxL as)
theorem minL_spec : ∀ {ns : List Int}, ns ≠ [] → minL ns ∈ ns ∧ ∀ a ∈ ns, minL ns ≤ a
  | [], h => absurd rfl h
  | [a], _ => ⟨List.mem_singleton.mpr rfl, fun b hb => by rw [List.mem_singleton.mp hb]; exact Int.le_refl _⟩
  | a :: b :: r, _ => by
    obtain ⟨h1, h2⟩ := minL_spec (ns := b :: r) (by simp)
    show min a (minL (b :: r)) ∈ _ ∧ _
    refine ⟨?_, fun c hc => ?_⟩
    · by_cases h : a ≤ minL (b :: r)
      · rw [Int.min_eq_left h]; exact List.mem_cons_self
      · rw [Int.min_eq_right (by omega)]; exact List.mem_cons_of_mem _ h1
    · show min a (minL (b :: r)) ≤ c
      rcases List.mem_cons.mp hc with rfl | hc
      · exact Int.min_le_left _ _
      · exact Int.le_trans (Int.min_le_right _ _) (h2 c hc)
theorem maxL_spec : ∀ {ns : List Int}, ns ≠ [] → maxL ns ∈ ns ∧ ∀ a ∈ ns, a ≤ maxL ns
  | [], h => absurd rfl h
  | [a], _ => ⟨List.mem_singleton.mpr rfl, fun b hb => by rw [List.mem_singleton.mp hb]; exact Int.le_refl _⟩
  | a :: b :: r, _ => by
    obtain ⟨h1, h2⟩ := maxL_spec (ns := b :: r) (by simp)
    show max a (maxL (b :: r)) ∈ _ ∧ _
    refine ⟨?_, fun c hc => ?_⟩
    · by_cases h : maxL (b :: r) ≤ a
      · rw [Int.max_eq_left h]; exact List.mem_cons_self
      · rw [Int.max_eq_right (by omega)]; exact List.mem_cons_of_mem _ h1
    · show c ≤ max a (maxL (b :: r))
      rcases List.mem_cons.mp hc with rfl | hc
      · exact Int.le_max_left _ _
      · exact Int.le_trans (h2 c hc) (Int.le_max_right _ _)
def minD : List D → Res D
  | [.lst l] => match allInts l with | some (n :: ns) => .ok (.int (minL (n :: ns))) | _ => .bad
  | _ => .bad
def maxD : List D → Res D
  | [.lst l] => match allInts l with | some (n :: ns) => .ok (.int (maxL (n :: ns))) | _ => .bad
  | _ => .bad
theorem call_minL (hc : X.calm = true) : CallR X (.builtin "min") (fun xs H Q => ∃ p ns, xs = [.ref p] ∧ SqL X.K H p (ns.map V.int) ∧ ns ≠ [] ∧ Q (.int (minL ns)) H) := by
  intro pins s σ H xs us Q I r h
  obtain ⟨p, ns, rfl, sq, hne, q⟩ := h
  obtain ⟨u, rfl, ru⟩ := vals1 r
  cases (show u = .ref p from ru)
  obtain ⟨its, rv, pl, _⟩ := I.list sq
  have hi := intsAre_of rv
  obtain ⟨ys, e⟩ := hi.allInts.items
  have hns : ns = ys.toList.map (·.1) := by rw [← hi.numsOf, ← nums_intItems, ← e]
  have hsz : 0 < ys.size := by
    have h3 : 0 < ns.length := List.length_pos_iff.mpr hne
    rw [hns, List.length_map, Array.length_toList] at h3; exact h3
  have hl := pl.isList
  rw [e] at hl
  refine min_intList (I.ok.hd hc) hl hsz fun v h' tk hv hk => ?_
  obtain ⟨t, rfl⟩ := intItems_at hv
  obtain ⟨h1, h2⟩ := argBest_lt (numAt ys) (ys.size - 1)
  have hm : numAt ys (argBest (fun i j => decide (numAt ys i < numAt ys j)) (ys.size - 1)) = minL ns := by
    obtain ⟨m1, m2⟩ := minL_spec hne
    refine Int.le_antisymm ?_ (m2 _ ?_)
    · rw [hns] at m1
      obtain ⟨j, hj, ej⟩ := mem_getD m1
      rw [List.length_map, Array.length_toList] at hj
      rw [← hns] at ej
      rw [← ej, hns, ← numAt_eq]; exact h2 j (by omega)
    · rw [hns, numAt_eq]; exact getD_mem (by rw [List.length_map, Array.length_toList]; omega)
  rw [hm]
  exact ⟨.int (minL ns), H, I.kept hk, ⟨t, rfl⟩, q⟩
theorem call_maxL (hc : X.calm = true) : CallR X (.builtin "max") (fun xs H Q => ∃ p ns, xs = [.ref p] ∧ SqL X.K H p (ns.map V.int) ∧ ns ≠ [] ∧ Q (.int (maxL ns)) H) := by
  intro pins s σ H xs us Q I r h
  obtain ⟨p, ns, rfl, sq, hne, q⟩ := h
  obtain ⟨u, rfl, ru⟩ := vals1 r
  cases (show u = .ref p from ru)
  obtain ⟨its, rv, pl, _⟩ := I.list sq
  have hi := intsAre_of rv
  obtain ⟨ys, e⟩ := hi.allInts.items
  have hns : ns = ys.toList.map (·.1) := by rw [← hi.numsOf, ← nums_intItems, ← e]
  have hsz : 0 < ys.size := by
    have h3 : 0 < ns.length := List.length_pos_iff.mpr hne
    rw [hns, List.length_map, Array.length_toList] at h3; exact h3
  have hl := pl.isList
  rw [e] at hl
  refine max_intList (I.ok.hd hc) hl hsz fun v h' tk hv hk => ?_
  obtain ⟨t, rfl⟩ := intItems_at hv
  obtain ⟨h1, h2⟩ := argBest_gt (numAt ys) (ys.size - 1)
  have hm : numAt ys (argBest (fun i j => decide (numAt ys i > numAt ys j)) (ys.size - 1)) = maxL ns := by
    obtain ⟨m1, m2⟩ := maxL_spec hne
    refine Int.le_antisymm (m2 _ ?_) ?_
    · rw [hns, numAt_eq]; exact getD_mem (by rw [List.length_map, Array.length_toList]; omega)
    · rw [hns] at m1
      obtain ⟨j, hj, ej⟩ := mem_getD m1
      rw [List.length_map, Array.length_toList] at hj
      rw [← hns] at ej
      rw [← ej, hns, ← numAt_eq]; exact h2 j (by omega)
  rw [hm]
  exact ⟨.int (maxL ns), H, I.kept hk, ⟨t, rfl⟩, q⟩
theorem dc_minL {K : PySem.W.Frag} : DCl K E (fun xs H Q => ∃ p ns, xs = [.ref p] ∧ SqL K H p (ns.map V.int) ∧ ns ≠ [] ∧ Q (.int (minL ns)) H) minD := by
  intro G H vs ds Q hs rl ok k
  unfold minD at ok k
  split at ok
  · rename_i l
    obtain ⟨v, r, rfl, rx, r0⟩ := rl.inv
    rw [r0.inv0]
    rw [rep_lst] at rx
    obtain ⟨p, xs, rfl, sq, rx⟩ := rx
    dsimp only at k
    cases q : allInts l with
    | none => rw [q] at ok; exact ok.elim
    | some ns =>
      cases ns with
      | nil => rw [q] at ok; exact ok.elim
      | cons n ns =>
        rw [q] at k
        have e := allInts_eq q
        subst e
        have ex := rx.ints
        subst ex
        exact ⟨p, n :: ns, rfl, hs.seq sq.sq, by simp, k _ _ G H rfl (.refl hs) (rep_int.mpr rfl)⟩
  · exact ok.elim
theorem dc_maxL {K : PySem.W.Frag} : DCl K E (fun xs H Q => ∃ p ns, xs = [.ref p] ∧ SqL K H p (ns.map V.int) ∧ ns ≠ [] ∧ Q (.int (maxL ns)) H) maxD := by
  intro G H vs ds Q hs rl ok k
  unfold maxD at ok k
  split at ok
  · rename_i l
    obtain ⟨v, r, rfl, rx, r0⟩ := rl.inv
    rw [r0.inv0]
    rw [rep_lst] at rx
    obtain ⟨p, xs, rfl, sq, rx⟩ := rx
    dsimp only at k
    cases q : allInts l with
    | none => rw [q] at ok; exact ok.elim
    | some ns =>
      cases ns with
      | nil => rw [q] at ok; exact ok.elim
      | cons n ns =>
        rw [q] at k
        have e := allInts_eq q
        subst e
        have ex := rx.ints
        subst ex
        exact ⟨p, n :: ns, rfl, hs.seq sq.sq, by simp, k _ _ G H rfl (.refl hs) (rep_int.mpr rfl)⟩
  · exact ok.elim
def cutD (l : List D) (lo hi : Option Int) : List D := (l.drop (HT.sIx l.length 0 lo)).take (HT.sIx l.length l.length hi - HT.sIx l.length 0 lo)
theorem cut_rep {K : PySem.W.Frag} {G : Hp} {ds : List D} {xs : List V} (h : RepL K G ds xs) (lo hi : Option Int) : RepL K G (cutD ds lo hi) (cutV xs lo hi) := by
  unfold cutD cutV
  rw [← h.length]
  exact (h.drop _).take _
def sliceD (lo hi : Option Int) : D → Res D
  | .lst l => .ok (.lst (cutD l lo hi))
  | .tup l => if HT.sIx l.length 0 lo = 0 ∧ HT.sIx l.length l.length hi = l.length then .bad else .ok (.tup (cutD l lo hi))
  | _ => .bad
def PDO (X : Cx) (E : XK) (e : Option Expr) (f : DS → Res (Option Int)) : Prop := PO X e (fun σ H Q => ∃ G ρ, Same G H ∧ Ro X.K G σ ρ ∧ OkR E H (f ρ) ∧ ∀ o, f ρ = .ok o → ∀ G' H', Ext G H G' H' → Q o H')
theorem pdo_none : PDO X E none (fun _ => .ok none) := fun pins s σ H Q I ⟨G, ρ, hs, hr, ho, k⟩ => po_none pins s σ H Q I (k none rfl G H (.refl hs))
def asI : D → Res (Option Int)
  | .int i => .ok (some i)
  | _ => .bad
theorem pdo_some {e : Expr} {f : DS → Res D} (h : PD X E e f) : PDO X E (some e) (fun ρ => (f ρ).bind asI) := by
  intro pins s σ H Q I ⟨G, ρ, hs, hr, ho, k⟩
  refine po_some (pe_d h) pins s σ H Q I ⟨G, ρ, hs, hr, ho.fst, fun d e v G1 H1 x1 p1 => ?_⟩
  have kk := ho.snd e x1.hh
  cases d with
  | int i => rw [rep_int] at p1; exact ⟨i, p1, k (some i) (bind_ok e rfl) G1 H1 x1⟩
  | _ => exact kk.elim
def slR (f : DS → Res D) (lo hi : DS → Res (Option Int)) : DS → Res D := fun ρ => (f ρ).bind fun d => (lo ρ).bind fun l => (hi ρ).bind fun u => sliceD l u d
theorem pd_slice {e : Expr} {lo hi : Option Expr} {p2 pos : Pos} {f : DS → Res D} {fl fh : DS → Res (Option Int)} (he : PD X E e f) (hl : PDO X E lo fl) (hh : PDO X E hi fh) : PD X E (.Subscript e (.Slice lo hi none p2) pos) (slR f fl fh) := by
  intro pins s σ G H ρ I hsm hro ho
  have hp := pe_slice (pos := pos) (p2 := p2) (sl_list.or sl_tup) (pe_d he) hl hh
  refine thn (hp pins s σ H (fun v H' => ∃ d G', slR f fl fh ρ = .ok d ∧ Ext G H G' H' ∧ Rep X.K G' d v) I ?_) fun u s' ⟨v, H', I', r, d, G', e, xx, rp⟩ => ⟨d, e, v, G', H', I', r, xx, rp⟩
  refine ⟨G, ρ, hsm, hro, ho.fst, fun d e v G1 H1 x1 p1 => ?_⟩
  have k1 := ho.snd e x1.hh
  refine ⟨G1, ρ, x1.gh, hro.mono x1.gg, k1.fst, fun l el G2 H2 x2 => ?_⟩
  have k2 := k1.snd el x2.hh
  refine ⟨G2, ρ, x2.gh, (hro.mono x1.gg).mono x2.gg, k2.fst, fun u eu G3 H3 x3 => ?_⟩
  have k3 := k2.snd eu x3.hh
  have x13 := (x1.trans x2).trans x3
  have p3 := p1.mono (x2.gg.trans x3.gg)
  cases d with
  | lst ds =>
    rw [rep_lst] at p3
    obtain ⟨a, xs, rfl, sq, rl⟩ := p3
    exact .inl ⟨a, xs, rfl, x3.gh.seq sq.sq, fun p hp => ⟨_, _, bind_ok e (bind_ok el (bind_ok eu rfl)), x13.trans (.new x3.gh hp _), rep_lst.mpr ⟨p, _, rfl, .of upd_same, (cut_rep rl l u).mono (Ext.new x3.gh hp _).gg⟩⟩⟩
  | tup ds =>
    rw [rep_tup] at p3
    obtain ⟨a, xs, rfl, sq, rl⟩ := p3
    unfold sliceD at k3
    dsimp only at k3
    by_cases hw : HT.sIx ds.length 0 l = 0 ∧ HT.sIx ds.length ds.length u = ds.length
    · rw [if_pos hw] at k3; exact k3.elim
    · exact .inr ⟨a, xs, rfl, x3.gh.seqT sq, by rw [← rl.length]; exact hw, fun p hp => ⟨_, _, bind_ok e (bind_ok el (bind_ok eu (if_neg hw))), x13.trans (.new x3.gh hp _), rep_tup.mpr ⟨p, _, rfl, .of upd_same, (cut_rep rl l u).mono (Ext.new x3.gh hp _).gg⟩⟩⟩
  | _ => exact k3.elim
end
end L2
set_option Elab.async false
set_option linter.all false
set_option maxRecDepth 100000
namespace L2
open PySem PySem.Spec PyProof.Rows
inductive Out where
  | nx (ρ : DS) | rt (d : D) | bk (ρ : DS) | ct (ρ : DS) | exc (c : Addr) | bad
def OkO (E : XK) (H : Hp) : Out → Prop
  | .exc c => ∀ H', Same H H' → E (.ref c) none H'
  | .bad => False
  | _ => True
def Out.then : Out → (DS → Out) → Out
  | .nx ρ, f => f ρ
  | o, _ => o
def Res.out {α : Type} : Res α → (α → Out) → Out
  | .ok a, f => f a
  | .exc c, _ => .exc c
  | .bad, _ => .bad
def SO (X : Cx) (pins : List (Addr × Obj)) (G H : Hp) (o : Out) (fl : Flow) (s' : Shared) : Prop :=
  match fl with
  | .next => ∃ ρ' σ' G' H', o = .nx ρ' ∧ Inv X pins σ' H' s' ∧ Ext G H G' H' ∧ Ro X.K G' σ' ρ'
  | .brk => ∃ ρ' σ' G' H', o = .bk ρ' ∧ Inv X pins σ' H' s' ∧ Ext G H G' H' ∧ Ro X.K G' σ' ρ'
  | .cont => ∃ ρ' σ' G' H', o = .ct ρ' ∧ Inv X pins σ' H' s' ∧ Ext G H G' H' ∧ Ro X.K G' σ' ρ'
  | .ret u => ∃ d v σ' G' H', o = .rt d ∧ Inv X pins σ' H' s' ∧ RelV v u ∧ Ext G H G' H' ∧ Rep X.K G' d v
def PO1 (X : Cx) (E : XK) (st : Stmt) (F : DS → Out) : Prop :=
  ∀ (pins : List (Addr × Obj)) (s : Shared) (σ : St) (G H : Hp) (ρ : DS), Inv X pins σ H s → Same G H → Ro X.K G σ ρ → OkO E H (F ρ) →
    wpAny (model X.prog X.w) X.A (exec st X.env) (SO X pins G H (F ρ)) X.xe s
def POs (X : Cx) (E : XK) (sts : List Stmt) (F : DS → Out) : Prop :=
  ∀ (pins : List (Addr × Obj)) (s : Shared) (σ : St) (G H : Hp) (ρ : DS), Inv X pins σ H s → Same G H → Ro X.K G σ ρ → OkO E H (F ρ) →
    wpAny (model X.prog X.w) X.A (execs sts X.env) (SO X pins G H (F ρ)) X.xe s
theorem OkO.fst {E : XK} {H : Hp} {o : Out} {f : DS → Out} (h : OkO E H (o.then f)) : OkO E H o := by cases o <;> first | exact h | trivial
theorem OkO.snd {E : XK} {H H1 : Hp} {o : Out} {f : DS → Out} {ρ : DS} (h : OkO E H (o.then f)) (e : o = .nx ρ) (s : Same H H1) : OkO E H1 (f ρ) := by
  subst e
  have h' : OkO E H (f ρ) := h
  cases q : f ρ with
  | exc c => rw [q] at h'; exact fun H' s' => h' H' (s.trans s')
  | bad => rw [q] at h'; exact h'
  | nx _ => trivial
  | rt _ => trivial
  | bk _ => trivial
  | ct _ => trivial
theorem OkO.le {E : XK} {H H1 : Hp} {o : Out} (h : OkO E H o) (s : Same H H1) : OkO E H1 o := by
  cases o with
  | exc c => exact fun H' s' => h H' (s.trans s')
  | bad => exact h
  | _ => trivial
theorem OkO.res {α : Type} {E : XK} {H : Hp} {x : Res α} {f : α → Out} (h : OkO E H (x.out f)) : OkR E H x := by cases x <;> first | exact h | trivial
theorem OkO.res2 {α : Type} {E : XK} {H H1 : Hp} {x : Res α} {f : α → Out} {a : α} (h : OkO E H (x.out f)) (e : x = .ok a) (s : Same H H1) : OkO E H1 (f a) := by
  subst e
  exact OkO.le (show OkO E H (f a) from h) s
theorem out_ok {α : Type} {x : Res α} {f : α → Out} {a : α} (e : x = .ok a) : x.out f = f a := by subst e; rfl
section
variable {X : Cx} {E : XK}
theorem SO.ext {pins : List (Addr × Obj)} {G H G1 H1 : Hp} {o : Out} {fl : Flow} {s' : Shared} (x : Ext G H G1 H1) (h : SO X pins G1 H1 o fl s') : SO X pins G H o fl s' := by
  cases fl with
  | next => obtain ⟨ρ', σ', G', H', e, I, y, r⟩ := h; exact ⟨ρ', σ', G', H', e, I, x.trans y, r⟩
  | brk => obtain ⟨ρ', σ', G', H', e, I, y, r⟩ := h; exact ⟨ρ', σ', G', H', e, I, x.trans y, r⟩
  | cont => obtain ⟨ρ', σ', G', H', e, I, y, r⟩ := h; exact ⟨ρ', σ', G', H', e, I, x.trans y, r⟩
  | ret u => obtain ⟨d, v, σ', G', H', e, I, r, y, rp⟩ := h; exact ⟨d, v, σ', G', H', e, I, r, x.trans y, rp⟩
theorem pos_nil : POs X E [] (fun ρ => .nx ρ) := fun _ _ σ G H ρ I hs hr _ => wpAny_execs_nil ⟨ρ, σ, G, H, rfl, I, .refl hs, hr⟩
def seqO (F R : DS → Out) : DS → Out := fun ρ => (F ρ).then R
theorem pos_cons {st : Stmt} {rest : List Stmt} {F R : DS → Out} (h1 : PO1 X E st F) (h2 : POs X E rest R) : POs X E (st :: rest) (seqO F R) := by
  intro pins s σ G H ρ I hs hr ho
  refine wpAny_execs_cons (thn (h1 pins s σ G H ρ I hs hr ho.fst) fun fl s1 q => ?_)
  cases fl with
  | next =>
    obtain ⟨ρ', σ', G', H', e, I', x, r⟩ := q
    refine thn (h2 pins s1 σ' G' H' ρ' I' x.gh r (ho.snd e x.hh)) fun fl2 s2 q2 => ?_
    have e2 : seqO F R ρ = R ρ' := by unfold seqO; rw [e]; rfl
    rw [e2]
    exact q2.ext x
  | brk => obtain ⟨ρ', σ', G', H', e, I', x, r⟩ := q; exact ⟨ρ', σ', G', H', by unfold seqO; rw [e]; rfl, I', x, r⟩
  | cont => obtain ⟨ρ', σ', G', H', e, I', x, r⟩ := q; exact ⟨ρ', σ', G', H', by unfold seqO; rw [e]; rfl, I', x, r⟩
  | ret u => obtain ⟨d, v, σ', G', H', e, I', rv, x, rp⟩ := q; exact ⟨d, v, σ', G', H', by unfold seqO; rw [e]; rfl, I', rv, x, rp⟩
theorem pos_one {st : Stmt} {F : DS → Out} (h1 : PO1 X E st F) : POs X E [st] F := by
  intro pins s σ G H ρ I hs hr ho
  refine wpAny_execs_cons (thn (h1 pins s σ G H ρ I hs hr ho) fun fl s1 q => ?_)
  cases fl with
  | next => exact wpAny_execs_nil q
  | brk => exact q
  | cont => exact q
  | ret u => exact q
def retO (f : DS → Res D) : DS → Out := fun ρ => (f ρ).out .rt
theorem po_ret {e : Expr} {pos : Pos} {f : DS → Res D} (h : PD X E e f) : PO1 X E (.Return (some e) pos) (retO f) := by
  intro pins s σ G H ρ I hs hr ho
  refine thn (ps_ret (pos := pos) (pe_d h) pins s σ H { nx := fun _ _ => False, bk := fun _ _ => False, ct := fun _ _ => False, rt := fun v H' => ∃ d G', f ρ = .ok d ∧ Ext G H G' H' ∧ Rep X.K G' d v } I ⟨G, ρ, hs, hr, ho.res, fun d e v G' H' x rp => ⟨d, G', e, x, rp⟩⟩) fun fl s1 q => ?_
  cases fl with
  | next => obtain ⟨_, _, _, q⟩ := q; exact q.elim
  | brk => obtain ⟨_, _, _, q⟩ := q; exact q.elim
  | cont => obtain ⟨_, _, _, q⟩ := q; exact q.elim
  | ret u =>
    obtain ⟨v, σ', H', I', rv, d, G', e, x, rp⟩ := q
    exact ⟨d, v, σ', G', H', out_ok e, I', rv, x, rp⟩
def setO (i : Nat) (f : DS → Res D) : DS → Out := fun ρ => (f ρ).out fun d => .nx (ρ.set i (some d))
theorem po_set {i : Nat} {x : Str} {e : Expr} {pos' pos : Pos} {f : DS → Res D} (hN : X.N.Nodup) (hi : X.N[i]? = some x) (hx : Loc X.env.scope x) (h : PD X E e f) (hf : X.fn x = true ∨ X.env.scope.names.lookup x = some .local := by first | exact .inl rfl | exact .inr rfl)
    (hsw : swapsWith e (some (.Name x pos')) pos.line X.env = pure false := by rfl) :
    PO1 X E (.Assign [.Name x pos'] e pos) (setO i f) := by
  intro pins s σ G H ρ I hs hr ho
  have hiσ : i < σ.length := by rw [I.len]; exact (List.getElem?_eq_some_iff.mp hi).1
  refine thn (ps_set (pos := pos) (pos' := pos') hN hi hx (pe_d h) hsw hf pins s σ H { nx := fun σ' H' => ∃ d v G', f ρ = .ok d ∧ σ' = σ.set i (some v) ∧ Ext G H G' H' ∧ Rep X.K G' d v, bk := fun _ _ => False, ct := fun _ _ => False, rt := fun _ _ => False } I ⟨G, ρ, hs, hr, ho.res, fun d e v G' H' x rp => ⟨d, v, G', e, rfl, x, rp⟩⟩) fun fl s1 q => ?_
  cases fl with
  | next =>
    obtain ⟨σ', H', I', d, v, G', e, e2, x, rp⟩ := q
    subst e2
    exact ⟨_, _, G', H', out_ok e, I', x, (hr.mono x.gg).set hiσ rp⟩
  | brk => obtain ⟨_, _, _, q⟩ := q; exact q.elim
  | cont => obtain ⟨_, _, _, q⟩ := q; exact q.elim
  | ret u => obtain ⟨_, _, _, _, _, q⟩ := q; exact q.elim
def ifO (fc : DS → Res Bool) (Fa Fb : DS → Out) : DS → Out := fun ρ => (fc ρ).out fun k => if k = true then Fa ρ else Fb ρ
theorem po_if {c : Expr} {a b : List Stmt} {pos : Pos} {fc : DS → Res Bool} {Fa Fb : DS → Out} (hc : PDT X E c fc) (ha : POs X E a Fa) (hb : POs X E b Fb) : PO1 X E (.If c a b pos) (ifO fc Fa Fb) := by
  intro pins s σ G H ρ I hs hr ho
  refine wpAny_If (thn (hc pins s σ G H ρ I hs hr ho.res) fun k s1 ⟨e, G1, H1, I1, x1⟩ => ?_)
  have kk := ho.res2 e x1.hh
  have e0 : ifO fc Fa Fb ρ = if k = true then Fa ρ else Fb ρ := out_ok e
  rw [e0]
  cases k with
  | true => rw [if_pos rfl] at kk ⊢; exact thn (ha pins s1 σ G1 H1 ρ I1 x1.gh (hr.mono x1.gg) kk) fun fl s2 q => q.ext x1
  | false => rw [if_neg Bool.false_ne_true] at kk ⊢; exact thn (hb pins s1 σ G1 H1 ρ I1 x1.gh (hr.mono x1.gg) kk) fun fl s2 q => q.ext x1
def raiseO (C : Addr) (ok : DS → Bool) : DS → Out := fun ρ => if ok ρ = true then .exc C else .bad
theorem po_raise {x : Str} {np cpos pos : Pos} {e : Expr} {es : List Expr} {C : Addr} {t : TA} (hR : Raises X E) (hc : X.calm = true) (Gx : ExcC X.K X.mg x C) (hg : Gl X x) (ha : PA X (e :: es) t) (ok : DS → Bool)
    (ht : ∀ σ G H ρ, Same G H → Ro X.K G σ ρ → ok ρ = true → t σ H fun vs H1 => vs.length ≤ sizeLine ∧ H1 = H)
    (he : starEach (e :: es) X.env = (false, eval e X.env) :: starEach es X.env := by rfl) (hpl : (backTo cpos (starEach es X.env)).any (·.1) = false := by rfl) (hdb : (x == ("__debug__" : Str)) = false := by decide)
    (hmono : ∀ σ H Q Q', (∀ vs H1, Q vs H1 → Q' vs H1) → t σ H Q → t σ H Q') :
    PO1 X E (.Raise (some (.Call (.Name x np) (e :: es) [] cpos)) none pos) (raiseO C ok) := by
  intro pins s σ G H ρ I hs hr ho
  unfold raiseO at ho ⊢
  by_cases hk : ok ρ = true
  · rw [if_pos hk] at ho ⊢
    refine wpAny_mono (ps_raise hR hc Gx hg ha he hpl hdb pins s σ H { nx := fun _ _ => False, bk := fun _ _ => False, ct := fun _ _ => False, rt := fun _ _ => False } I (hmono _ _ _ _ (fun vs H1 ⟨a, b⟩ => ⟨a, by subst b; exact ho _ (.refl _)⟩) (ht σ G H ρ hs hr hk))) (fun fl s1 q => ?_) fun _ _ z => z
    cases fl with
    | next => obtain ⟨_, _, _, q⟩ := q; exact q.elim
    | brk => obtain ⟨_, _, _, q⟩ := q; exact q.elim
    | cont => obtain ⟨_, _, _, q⟩ := q; exact q.elim
    | ret u => obtain ⟨_, _, _, _, _, q⟩ := q; exact q.elim
  · rw [if_neg hk] at ho; exact ho.elim
def forO (j : Nat) (F : DS → Out) : List D → DS → Out
  | [], ρ => .nx ρ
  | d :: ds, ρ => match F (ρ.set j (some d)) with
    | .nx ρ' => forO j F ds ρ'
    | .ct ρ' => forO j F ds ρ'
    | .bk ρ' => .nx ρ'
    | .rt d => .rt d
    | .exc c => .exc c
    | .bad => .bad
def forR (fi : DS → Res (List D)) (j : Nat) (F : DS → Out) : DS → Out := fun ρ => (fi ρ).out fun ds => forO j F ds ρ
theorem po_for {x : Str} {px pos : Pos} {iter : Expr} {body : List Stmt} {j : Nat} {fi : DS → Res (List D)} {F : DS → Out} (hp : PassesOwn (model X.prog X.w) X.A X.env X.xe) (hc : X.calm = true) (hN : X.N.Nodup) (hj : X.N[j]? = some x) (hx : Loc X.env.scope x) (hi : PI X (.Name x px) iter (tDI X.K E fi)) (hb : POs X E body F)
    (hf : X.fn x = true ∨ X.env.scope.names.lookup x = some .local := by first | exact .inl rfl | exact .inr rfl) (hs : ∀ x, foldedSetIterable iter X.env x = pure x := by intro _; rfl) : PO1 X E (.For (.Name x px) iter body [] pos) (forR fi j F) := by
  intro pins s σ G H ρ I hsm hr ho
  have hjσ : ∀ {σ' : St} {H' : Hp} {s' : Shared} {pl : List (Addr × Obj)}, Inv X pl σ' H' s' → j < σ'.length := fun I' => by rw [I'.len]; exact (List.getElem?_eq_some_iff.mp hj).1
  refine wpAny_For (thn (hi pins s σ H _ I ⟨G, ρ, hsm, hr, ho.res, fun ds e J G1 H1 x1 src => (show (fun (J : It) (H1 : Hp) => ∃ ds G1, fi ρ = .ok ds ∧ Ext G H G1 H1 ∧ Src X.K J ds G1) J H1 from ⟨ds, G1, e, x1, src⟩)⟩) fun v s1 h1 => thn h1 fun itv s2 h2 => ?_) hs
  obtain ⟨it, fp, tn, J, H2, e, I2, T, st2, f2, ds, G2, eds, x2, src⟩ := h2
  subst e
  have kk : OkO E H2 (forO j F ds ρ) := ho.res2 eds x2.hh
  have e0 : forR fi j F ρ = forO j F ds ρ := out_ok eds
  rw [e0]
  have stat : ∀ {H' : Hp}, (∀ b ∈ fp, H' b = none) → ∀ b ∈ fp, FpOk X pins H' b := fun hn b hb => ⟨hn b hb, (f2 b hb).2⟩
  refine codeAny_forLoop_any (fun n s' => ∃ i σ' G' H' ρ', n = ds.length - i ∧ i ≤ ds.length ∧ Inv X pins σ' H' s' ∧ tn i s'.heap ∧ (∀ b ∈ fp, H' b = none) ∧ Ext G2 H2 G' H' ∧ Ro X.K G' σ' ρ' ∧ forO j F ds ρ = forO j F (ds.drop i) ρ') ?_ ds.length
    ⟨0, σ, G2, H2, ρ, rfl, Nat.zero_le _, I2, st2, fun b hb => (f2 b hb).1, .refl x2.gh, hr.mono x2.gg, rfl⟩
  rintro n s3 ⟨i, σ3, G3, H3, ρ3, rfl, hi3, I3, st3, fr3, x3, r3, e3⟩
  obtain ⟨sg, ss⟩ := src G3 H3 x3.gg x3.gh i
  by_cases hlt : i < ds.length
  · obtain ⟨go, yl⟩ := sg ds[i] (by simp [hlt])
    have hdrop : ds.drop i = ds[i] :: ds.drop (i + 1) := by rw [List.getElem_cons_drop]
    rw [hdrop] at e3
    refine wpAny_passesOwn hp (thn (T.item X rfl rfl rfl hc i pins s3 σ3 H3 X.xe I3 (stat fr3) st3 go) fun r s4 ⟨u, hr4, h4⟩ => ?_)
    subst hr4
    refine wpAny_passesOwn hp (thn h4 fun _ s5 ⟨xv, H5, I5, r5, y5, st5, fr5⟩ => ?_)
    obtain ⟨G5, x5, rp5⟩ := yl xv H5 y5
    have I5' := I5.pinned (stat fr5) (T.obj _ _ st5)
    refine wpAny_passesOwn hp (thn (pg_name (i := j) hN hj hx hf _ s5 σ3 H5 xv u (fun σ6 H6 => σ6 = σ3.set j (some xv) ∧ H6 = H5) I5' r5 ⟨rfl, rfl⟩) fun _ s6 ⟨σ6, H6, I6, e6, e6'⟩ => ?_)
    subst e6 e6'
    have x35 := x3.trans x5
    have r6 : Ro X.K G5 (σ3.set j (some xv)) (ρ3.set j (some ds[i])) := (r3.mono x5.gg).set (hjσ I5) rp5
    have kk6 : OkO E H6 (F (ρ3.set j (some ds[i]))) := by
      have k0 : OkO E H6 (forO j F (ds[i] :: ds.drop (i + 1)) ρ3) := by rw [← e3]; exact kk.le x35.hh
      unfold forO at k0
      cases q : F (ρ3.set j (some ds[i])) with
      | exc c => rw [q] at k0; exact k0
      | bad => rw [q] at k0; exact k0
      | _ => trivial
    refine wpAny_passesOwn hp (thn (hb _ s6 _ G5 H6 _ I6 x35.gh r6 kk6) fun f s7 q7 => ?_)
    have unf : ∀ {o : Out}, F (ρ3.set j (some ds[i])) = o → forO j F ds ρ = (match o with | .nx ρ' => forO j F (ds.drop (i + 1)) ρ' | .ct ρ' => forO j F (ds.drop (i + 1)) ρ' | .bk ρ' => .nx ρ' | .rt d => .rt d | .exc c => .exc c | .bad => .bad) := fun {o} q => by
      rw [e3]
      rw [forO, q]
    have again : ∀ {σ7 : St} {G7 H7 : Hp} {ρ7 : DS}, Inv X (pins ++ pinsAt fp s5.heap) σ7 H7 s7 → Ext G5 H6 G7 H7 → Ro X.K G7 σ7 ρ7 → forO j F ds ρ = forO j F (ds.drop (i + 1)) ρ7 → ∃ m, m < ds.length - i ∧ ∃ i σ' G' H' ρ', m = ds.length - i ∧ i ≤ ds.length ∧ Inv X pins σ' H' s7 ∧ tn i s7.heap ∧ (∀ b ∈ fp, H' b = none) ∧ Ext G2 H2 G' H' ∧ Ro X.K G' σ' ρ' ∧ forO j F ds ρ = forO j F (ds.drop i) ρ' := fun {σ7 G7 H7 ρ7} I7 x7 r7 e7 => by
      refine ⟨ds.length - (i + 1), by omega, i + 1, σ7, G7, H7, ρ7, rfl, hlt, I7.unpinned, T.keep _ _ _ st5 fun b hb o e => (I7.pin (b, o) (List.mem_append_right _ (List.mem_append_right _ (mem_pinsAt hb e)))).1, fun b hb => ?_, x35.trans x7, r7, e7⟩
      obtain ⟨o, e, d⟩ := T.obj _ _ st5 b hb
      exact (I7.pin (b, o) (List.mem_append_right _ (List.mem_append_right _ (mem_pinsAt hb e)))).2.1
    cases f with
    | next => obtain ⟨ρ7, σ7, G7, H7, e7, I7, x7, r7⟩ := q7; exact again I7 x7 r7 (unf e7)
    | cont => obtain ⟨ρ7, σ7, G7, H7, e7, I7, x7, r7⟩ := q7; exact again I7 x7 r7 (unf e7)
    | brk =>
      obtain ⟨ρ7, σ7, G7, H7, e7, I7, x7, r7⟩ := q7
      exact ⟨ρ7, σ7, G7, H7, unf e7, I7.unpinned, (x2.trans x35).trans x7, r7⟩
    | ret v =>
      obtain ⟨d, v7, σ7, G7, H7, e7, I7, rv7, x7, rp7⟩ := q7
      exact ⟨d, v7, σ7, G7, H7, unf e7, I7.unpinned, rv7, (x2.trans x35).trans x7, rp7⟩
  · have hie : i = ds.length := by omega
    subst hie
    refine wpAny_passesOwn hp (thn (T.done X rfl rfl rfl hc ds.length pins s3 σ3 H3 X.xe I3 (stat fr3) st3 (ss (Nat.le_refl _))) fun r s4 ⟨hr4, I4⟩ => ?_)
    subst hr4
    rw [List.drop_length] at e3
    exact wpAny_execs_nil ⟨ρ3, σ3, G3, H3, e3, I4, x2.trans x3, r3⟩
end
end L2
set_option Elab.async false
set_option linter.all false
set_option maxRecDepth 100000
namespace L2
open PySem PySem.Spec PyProof.Rows
def outM : Out → Res D
  | .rt d => .ok d
  | .nx _ => .ok .non
  | .exc c => .exc c
  | _ => .bad
def startD (N : List Str) (ds : List D) : DS := ds.map some ++ List.replicate (N.length - ds.length) none
theorem ro_start {K : PySem.W.Frag} {G : Hp} {N : List Str} {ds : List D} {vs : List V} (h : RepL K G ds vs) : Ro K G (start N vs) (startD N ds) := by
  intro i d e
  unfold startD at e
  unfold start
  by_cases hi : i < ds.length
  · rw [List.getElem?_append_left (by simpa using hi), List.getElem?_map] at e
    cases q : ds[i]? with
    | none => rw [q] at e; cases e
    | some d' =>
      rw [q] at e; cases e
      obtain ⟨v, hv, rv⟩ := h.get q
      have hv2 : i < vs.length := (List.getElem?_eq_some_iff.mp hv).1
      exact ⟨v, by rw [List.getElem?_append_left (by simpa using hv2), List.getElem?_map, hv]; rfl, rv⟩
  · rw [List.getElem?_append_right (by simpa using hi), List.getElem?_replicate] at e
    split at e <;> cases e
section
variable {P : Program} {w : World} {K : PySem.W.Frag} {mg : Str → Option Value} {base : Heap}
abbrev CXof (P : Program) (w : World) (K : PySem.W.Frag) (mg : Str → Option Value) (base : Heap) (N : List Str) (qual : Str) (scope : Scope) (f : Addr) (cdv : Value) (A : Around) (outer : List Env) (s : Shared) (H : Hp) (E : XK) : Cx := cxOf (CXF P w) P w K mg base N qual scope f cdv A outer s H E
theorem Fun.okF {x qual : Str} {st : Stmt} {f : Addr} {fd : FuncData} {N ps : List Str} {k : Nat} {sp : Sp} (F : Fun K x qual st f fd) (S : FnScope N ps (defScope st)) (len : ∀ vs H Q E, sp vs H Q E → vs.length = ps.length)
    (hbody : ∀ (cdv : Value) (A : Around) (outer : List Env) (s : Shared) (H : Hp) (vs : List V) (Q : VK) (E : XK), Room k (A.deeper (envOfC qual (defScope st) s.heap.objs.size f cdv)) → sp vs H Q E →
      ∃ t, PSs (CXof P w K mg base N qual (defScope st) f cdv A outer s H E) (defBody st) t ∧ t { nx := fun _ H' => Q .non H', rt := Q } (start N vs) H) : FnOk P w K mg base (CXF P w) (k + 1) f fd ps sp := by
  obtain ⟨oc, od, kV, doc, pm, an, cdv, ct, osl, rfl, lk, hcd⟩ := F.ex
  exact fn_of lk hcd S len fun A outer s H vs Q E hr hsp => hbody cdv A outer s H vs Q E hr hsp
theorem Fun.pure {x qual : Str} {st : Stmt} {f : Addr} {fd : FuncData} {N ps : List Str} {k : Nat} {m : List D → Res D} (F : Fun K x qual st f fd) (S : FnScope N ps (defScope st)) (len : ∀ ds, m ds ≠ .bad → ds.length = ps.length)
    (hbody : ∀ (cdv : Value) (A : Around) (outer : List Env) (s : Shared) (H : Hp) (E : XK), Room k (A.deeper (envOfC qual (defScope st) s.heap.objs.size f cdv)) →
      ∃ Fb, POs (CXof P w K mg base N qual (defScope st) f cdv A outer s H E) E (defBody st) Fb ∧ ∀ ds, m ds ≠ .bad → outM (Fb (startD N ds)) = m ds) : FnOk P w K mg base (CXF P w) (k + 1) f fd ps (pureSp K m) := by
  have nb : ∀ {E : XK} {H : Hp} {r : Res D}, OkR E H r → r ≠ .bad := fun h z => by rw [z] at h; exact h
  obtain ⟨oc, od, kV, doc, pm, an, cdv, ct, osl, rfl, lk, hcd⟩ := F.ex
  refine fn_of lk hcd S (fun vs H Q E ⟨ds, G, _, rl, ho, _⟩ => by rw [← rl.length]; exact len ds (nb ho)) fun A outer s H vs Q E hr hsp => ?_
  obtain ⟨ds, G, hs, rl, ho, k⟩ := hsp
  obtain ⟨Fb, hb, hm⟩ := hbody cdv A outer s H E hr
  have hme := hm ds (nb ho)
  have hoO : OkO E H (Fb (startD N ds)) := by
    rw [← hme] at ho
    cases q : Fb (startD N ds) with
    | exc c => rw [q] at ho; exact ho
    | bad => rw [q] at ho; exact ho
    | _ => trivial
  refine ⟨fun D σ H1 => (σ = start N vs ∧ H1 = H ∧ (D.nx = fun _ H' => Q .non H') ∧ D.rt = Q), ?_, rfl, rfl, rfl, rfl⟩
  intro pins s1 σ H1 D I ⟨e1, e2, e3, e4⟩
  subst e1 e2
  refine thn (hb pins s1 _ G H1 (startD N ds) I hs (ro_start rl) hoO) fun fl s2 q => ?_
  cases fl with
  | next =>
    obtain ⟨ρ', σ', G', H', e, I', x, r⟩ := q
    refine ⟨σ', H', I', ?_⟩
    rw [e3]
    exact k .non (by rw [← hme, e]; rfl) .non G' H' x (rep_non.mpr rfl)
  | brk =>
    obtain ⟨ρ', σ', G', H', e, I', x, r⟩ := q
    rw [e] at hme
    exact absurd hme.symm (nb ho)
  | cont =>
    obtain ⟨ρ', σ', G', H', e, I', x, r⟩ := q
    rw [e] at hme
    exact absurd hme.symm (nb ho)
  | ret u =>
    obtain ⟨d, v, σ', G', H', e, I', rv, x, rp⟩ := q
    refine ⟨v, σ', H', I', rv, ?_⟩
    rw [e4]
    exact k d (by rw [← hme, e]; rfl) v G' H' x rp
end
section
variable {X : Cx} {E : XK}
def varR (i : Nat) : DS → Res D := fun ρ => match ρ[i]? with | some (some d) => .ok d | _ => .bad
theorem dv (i : Nat) {x : Str} {pos : Pos} (hN : X.N[i]? = some x := by rfl) (hv : Vis X.env.scope x := by first | exact Or.inl rfl | exact Or.inr (Or.inl rfl) | exact Or.inr (Or.inr rfl)) (hd : (x == ("__debug__" : Str)) = false := by decide)
    (hcd : (x == ("__classdict__" : Str)) = false := by decide) : PD X E (.Name x pos) (varR i) := pd_var hN hv hd hcd
end
end L2
set_option Elab.async false
set_option linter.all false
set_option maxRecDepth 100000
namespace L2
open PySem PySem.Spec PyProof.Rows
section
variable {α β : Type} {a : α} {f : α → Res β} {g : α → Out} {c : Addr}
theorem ev_bind_ok : (Res.ok a).bind f = f a := id rfl
theorem ev_bind_exc : (Res.exc c : Res α).bind f = .exc c := id rfl
theorem ev_out_ok : (Res.ok a).out g = g a := id rfl
theorem ev_out_exc : (Res.exc c : Res α).out g = .exc c := id rfl
end
section
variable {ρ : DS} {R : DS → Out} {d e : D} {i j : Int} {l : List D} {c : Addr} {F F' : DS → Out} {f f' : DS → Res D} {fc : DS → Res Bool} {b : Bool}
theorem ev_then_nx : (Out.nx ρ).then R = R ρ := id rfl
theorem ev_then_rt : (Out.rt d).then R = .rt d := id rfl
theorem ev_then_exc : (Out.exc c).then R = .exc c := id rfl
theorem ev_seq : seqO F R ρ = (F ρ).then R := id rfl
theorem ev_set {k : Nat} : setO k f ρ = (f ρ).out fun d => .nx (ρ.set k (some d)) := id rfl
theorem ev_ret : retO f ρ = (f ρ).out .rt := id rfl
theorem ev_if : ifO fc F F' ρ = (fc ρ).out fun k => if k = true then F ρ else F' ρ := id rfl
theorem ev_op {o : D → D → Res D} : OpR2 f f' o ρ = (f ρ).bind fun a => (f' ρ).bind fun b => o a b := id rfl
theorem ev_cl {fs : DS → Res (List D)} {g : List D → Res D} : ClR fs g ρ = (fs ρ).bind g := id rfl
theorem ev_asB : asB f ρ = (f ρ).bind fun d => match d with | .bl b => .ok b | _ => .bad := id rfl
theorem ev_var0 : varR 0 (some d :: ρ) = .ok d := id rfl
theorem ev_varS {k : Nat} {o : Option D} : varR (k + 1) (o :: ρ) = varR k ρ := id rfl
theorem ev_set0 {o o' : Option D} : (o :: ρ).set 0 o' = o' :: ρ := id rfl
theorem ev_setS {k : Nat} {o o' : Option D} : (o :: ρ).set (k + 1) o' = o :: ρ.set k o' := id rfl
theorem ev_outrt : outM (.rt d) = .ok d := id rfl
theorem ev_outexc : outM (.exc c) = .exc c := id rfl
theorem ev_add : addI (.int i) (.int j) = .ok (.int (i + j)) := id rfl
theorem ev_mulR (h1 : -(2 ^ 64) < j) (h2 : j < 2 ^ 64) : mulI (.int i) (.int j) = .ok (.int (i * j)) := by
  unfold mulI intO; dsimp only; rw [if_pos (decide_eq_true (show CMul i j from Or.inr ⟨h1, h2⟩))]
theorem ev_mod (h : 0 < j) : modI (.int i) (.int j) = .ok (.int (i % j)) := by
  unfold modI intO; dsimp only; rw [if_pos (decide_eq_true h)]
theorem ev_fdiv (h1 : 0 < j) (h2 : j < 1073741824) : fdivI (.int i) (.int j) = .ok (.int (i / j)) := by
  unfold fdivI intO; dsimp only; rw [if_pos (decide_eq_true (show CDiv i j from ⟨h1, h2⟩))]
theorem ev_lt : ltI (.int i) (.int j) = .ok (.bl (decide (i < j))) := id rfl
theorem ev_le : leI (.int i) (.int j) = .ok (.bl (decide (i ≤ j))) := id rfl
theorem ev_gt : gtI (.int i) (.int j) = .ok (.bl (decide (j < i))) := id rfl
theorem ev_lenL : lenD [.lst l] = .ok (.int l.length) := id rfl
theorem ev_ixL {d : D} (h : atI l i = some d) : ixD (.lst l) (.int i) = .ok d := by unfold ixD; dsimp only; rw [h]
theorem ev_ixT {d : D} (h : atI l i = some d) : ixD (.tup l) (.int i) = .ok d := by unfold ixD; dsimp only; rw [h]
theorem atI_of {α : Type} {xs : List α} {i : Int} {v : α} (h0 : 0 ≤ i) (h : xs[i.toNat]? = some v) : atI xs i = some v := by
  have := atI_nat (j := i.toNat) h
  rwa [Int.toNat_of_nonneg h0] at this
theorem ev_if_false {F F' : Out} : (if false = true then F else F') = F' := id rfl
end
end L2
set_option Elab.async false
set_option linter.all false
set_option maxRecDepth 100000
namespace L2
open PySem PySem.Spec PyProof.Rows
section
variable {X : Cx} {E : XK}
theorem po_raiseF {x : Str} {np cpos pos jp : Pos} {v1 v2 : Expr} {rest : List Expr} {n : Nat} {t : St → Hp → Prop} {C : Addr} (hR : Raises X E) (hc : X.calm = true) (Gx : ExcC X.K X.mg x C) (hg : Gl X x) (h : PFs X (v1 :: v2 :: rest) n t) (ok : DS → Bool)
    (ht : ∀ σ G H ρ, Same G H → Ro X.K G σ ρ → ok ρ = true → t σ H) (hn : n ≤ 100000 := by decide)
    (he : starEach [.JoinedStr (v1 :: v2 :: rest) jp] X.env = (false, eval (.JoinedStr (v1 :: v2 :: rest) jp) X.env) :: starEach [] X.env := by rfl) (hdb : (x == ("__debug__" : Str)) = false := by decide) :
    PO1 X E (.Raise (some (.Call (.Name x np) [.JoinedStr (v1 :: v2 :: rest) jp] [] cpos)) none pos) (raiseO C ok) :=
  po_raise hR hc Gx hg (pa_cons (pe_fstr h hn) pa_nil he) ok (fun σ G H ρ hs hr hk => ⟨ht σ G H ρ hs hr hk, fun x => ⟨by show 1 ≤ sizeLine; decide, rfl⟩⟩) he rfl hdb fun σ H Q Q' hq ⟨a, b⟩ => ⟨a, fun x => hq _ _ (b x)⟩
theorem po_raiseT {x : Str} {np cpos pos jp : Pos} {y : Str} {j : Nat} {C : Addr} (hR : Raises X E) (hc : X.calm = true) (Gx : ExcC X.K X.mg x C) (hg : Gl X x)
    (he : starEach [.Constant (.str y) j jp] X.env = (false, eval (.Constant (.str y) j jp) X.env) :: starEach [] X.env := by rfl) (hdb : (x == ("__debug__" : Str)) = false := by decide) :
    PO1 X E (.Raise (some (.Call (.Name x np) [.Constant (.str y) j jp] [] cpos)) none pos) (raiseO C fun _ => true) :=
  po_raise hR hc Gx hg (pa_cons pe_str pa_nil he) (fun _ => true) (fun σ G H ρ hs hr hk => ⟨by show 1 ≤ sizeLine; decide, rfl⟩) he rfl hdb fun σ H Q Q' hq h => hq _ _ h
def okI (i : Nat) (ρ : DS) : Bool := match ρ[i]? with | some (some (.int n)) => decide (n.natAbs.log2 < 1920) | _ => false
theorem okI_t {i : Nat} {K : PySem.W.Frag} {σ : St} {G H : Hp} {ρ : DS} (hr : Ro K G σ ρ) (h : okI i ρ = true) : tIntB (tVar i) σ H := by
  unfold okI at h
  split at h
  · rename_i n q
    obtain ⟨v, hv, rv⟩ := hr i _ q
    rw [rep_int] at rv; subst rv
    exact ⟨_, hv, rfl, n, rfl, of_decide_eq_true h⟩
  · cases h
def initSp (K : PySem.W.Frag) (C : Addr) (m : List D → Res D) : Sp := fun vs H Q E => ∃ p dx rest ds G, vs = .ref p :: rest ∧ H p = some (.ins C dx []) ∧ Same G H ∧ G p = none ∧ RepL K G ds rest ∧ OkR E H (m ds) ∧
  ∀ ns fds, m ds = .ok (.ins C ns fds) → ∀ fs G' H', fs.map (·.1) = ns → RepL K G' fds (fs.map (·.2)) → H' p = some (.ins C dx fs) → (∀ b o, H b = some o → b ≠ p → H' b = some o) → Same G G' → Same G' H' → (∀ b o, G' b = some o → G b = some o ∨ H b = none) → G' p = none → Q .non H'
def MkOf (C : Addr) (m : List D → Res D) : Prop := ∀ ds d, m ds = .ok d → ∃ ns fds, d = .ins C ns fds
theorem pd_make {CX : CXT} {k : Nat} {f C : Addr} {fd : FuncData} {ps : List Str} {m : List D → Res D} {x : Str} {p pos : Pos} {e : Expr} {es : List Expr} {fs : DS → Res (List D)} (M : Mk X.K C f) (F : FnOk X.prog X.w X.K X.mg X.base CX k f fd ps (initSp X.K C m)) (hmk : MkOf C m) (hr : Room (k + 1) X.A) (hg : Gl X x) (hm : X.mg x = some (.ref C)) (hb : Binds X.K fd ps []) (hx : Passes CX X E)
    (ha : PDA X E (e :: es) fs) (hpe : ∀ t, PA X (e :: es) t → PE X (.Call (.Name x p) (e :: es) [] pos) (tMake C (initSp X.K C m) [] E t)) :
    PD X E (.Call (.Name x p) (e :: es) [] pos) (ClR fs m) := by
  intro pins s σ G H ρ I hs hro ho
  refine thn (hpe _ (pa_d ha) pins s σ H (fun v H' => ∃ d G', ClR fs m ρ = .ok d ∧ Ext G H G' H' ∧ Rep X.K G' d v) I ?_) fun u s' ⟨v, H', I', r', d, G', e, x, rp⟩ => ⟨d, e, v, G', H', I', r', x, rp⟩
  refine ⟨G, ρ, hs, hro, ho.fst, fun ds e1 vs G1 H1 x1 p1 y dy hy hdy hne => ?_⟩
  have kk := ho.snd e1 x1.hh
  have s12 : Same H1 (upd (upd H1 dy (.own y)) y (.ins C dy [])) := fun b o eb => by rw [upd_ne (ne_of_none eb hy), upd_ne (ne_of_none eb hdy)]; exact eb
  have fr2 : ∀ b, (upd (upd H1 dy (.own y)) y (.ins C dy [])) b = none → H1 b = none := fun b eb => s12.free eb
  have g1y : G1 y = none := by
    cases q : G1 y with
    | none => rfl
    | some o => rw [x1.gh y o q] at hy; cases hy
  refine ⟨y, dy, vs, ds, G1, by rw [List.append_nil], upd_same, x1.gh.trans s12, g1y, p1, kk.le s12, fun ns fds em fs2 G' H' hn rl hp kp sg sh nw gp => ⟨rfl, ?_⟩⟩
  refine ⟨.ins C ns fds, upd G' y (.ins C dy fs2), bind_ok e1 em, x1.trans ⟨?_, ?_, ?_, ?_⟩, rep_ins.mpr ⟨y, dy, fs2, rfl, upd_same, hn, rl.mono ?_⟩⟩
  · exact fun b o eb => kp b o (s12 b o eb) (ne_of_none eb hy)
  · exact fun b o eb => by rw [upd_ne (ne_of_none (sg b o eb) gp)]; exact sg b o eb
  · intro b o eb
    by_cases hb' : b = y
    · subst hb'; rw [upd_same] at eb; cases eb; exact hp
    · rw [upd_ne hb'] at eb; exact sh b o eb
  · intro b o eb
    by_cases hb' : b = y
    · subst hb'; exact .inr hy
    · rw [upd_ne hb'] at eb
      exact (nw b o eb).imp id (fr2 b)
  · exact fun b o eb => by rw [upd_ne (ne_of_none eb gp)]; exact eb
end
end L2
set_option Elab.async false
set_option linter.all false
set_option maxRecDepth 100000
namespace L2
open PySem PySem.Spec PyProof.Rows
theorem bo_list : bootBuiltins "list" = some (.type "list") := by decide +kernel
theorem bo_tuple : bootBuiltins "tuple" = some (.type "tuple") := by decide +kernel
theorem bo_int : bootBuiltins "int" = some (.type "int") := by decide +kernel
theorem bo_bool : bootBuiltins "bool" = some (.type "bool") := by decide +kernel
theorem bo_ve : bootBuiltins "ValueError" = some (.type "ValueError") := by decide +kernel
theorem bo_min : bootBuiltins "min" = some (.builtin "min") := by decide +kernel
theorem bo_max : bootBuiltins "max" = some (.builtin "max") := by decide +kernel
section
variable {X : Cx} {E : XK}
theorem pd_gI {x : Str} {i : Int} {pos : Pos} (hm : ∃ t, X.mg x = some (.int i t)) (hg : Gl X x := by rfl) (hd : (x == ("__debug__" : Str)) = false := by decide) : PD X E (.Name x pos) (fun _ => .ok (.int i)) := by
  obtain ⟨t, hm⟩ := hm
  exact pd_globI hg hm ⟨t, rfl⟩ hd
theorem pe_gI {x : Str} {i : Int} {pos : Pos} (hm : ∃ t, X.mg x = some (.int i t)) (hg : Gl X x := by rfl) (hd : (x == ("__debug__" : Str)) = false := by decide) : PE X (.Name x pos) (tC (.int i)) := by
  obtain ⟨t, hm⟩ := hm
  exact pe_glob hg hm ⟨t, rfl⟩ hd
theorem tIntB_c {i : Int} {σ : St} {H : Hp} (h : i.natAbs.log2 < 1920) : tIntB (tC (.int i)) σ H := ⟨rfl, i, rfl, h⟩
end
section
variable {ρ : DS} {fa fb fc : DS → Res D} {f g : DS → Res Bool} {b : Bool} {c : Addr} {F : DS → Out} {j : Nat} {d : D} {ds : List D}
theorem ev_chain {x y z : Int} (ha : fa ρ = .ok (.int x)) (hb : fb ρ = .ok (.int y)) (hc : fc ρ = .ok (.int z)) : chainR fa fb fc leI leI ρ = .ok (decide (x ≤ y) && decide (y ≤ z)) := by
  unfold chainR
  rw [ha, hb]
  simp only [ev_bind_ok, ev_le]
  by_cases h : x ≤ y
  · rw [decide_eq_true h]
    simp only [hc, ev_bind_ok, ev_le, Bool.true_and]
  · rw [decide_eq_false h]
    rfl
theorem ev_and : andR f g ρ = (f ρ).bind fun b => if b = true then g ρ else .ok false := id rfl
theorem ev_or : orR f g ρ = (f ρ).bind fun b => if b = true then .ok true else g ρ := id rfl
theorem ev_not : notR f ρ = (f ρ).bind fun b => .ok (!b) := id rfl
theorem ev_for {fi : DS → Res (List D)} : forR fi j F ρ = (fi ρ).out fun ds => forO j F ds ρ := id rfl
theorem ev_forN {ρ' : DS} (h : F (ρ.set j (some d)) = .nx ρ') : forO j F (d :: ds) ρ = forO j F ds ρ' := by show (match F (ρ.set j (some d)) with | .nx ρ' => forO j F ds ρ' | .ct ρ' => forO j F ds ρ' | .bk ρ' => .nx ρ' | .rt d => .rt d | .exc c => .exc c | .bad => .bad) = _; rw [h]
theorem ev_forX (h : F (ρ.set j (some d)) = .exc c) : forO j F (d :: ds) ρ = .exc c := by show (match F (ρ.set j (some d)) with | .nx ρ' => forO j F ds ρ' | .ct ρ' => forO j F ds ρ' | .bk ρ' => .nx ρ' | .rt d => .rt d | .exc c => .exc c | .bad => .bad) = _; rw [h]
theorem ev_forR {e : D} (h : F (ρ.set j (some d)) = .rt e) : forO j F (d :: ds) ρ = .rt e := by show (match F (ρ.set j (some d)) with | .nx ρ' => forO j F ds ρ' | .ct ρ' => forO j F ds ρ' | .bk ρ' => .nx ρ' | .rt d => .rt d | .exc c => .exc c | .bad => .bad) = _; rw [h]
theorem ev_raise {ok : DS → Bool} (h : ok ρ = true) : raiseO c ok ρ = .exc c := if_pos h
theorem ev_neI {a b : Int} : neO (.int a) (.int b) = .ok (.bl (!(a == b))) := id rfl
theorem ev_eqI {a b : Int} : eqO (.int a) (.int b) = .ok (.bl (a == b)) := id rfl
theorem ev_andV : andV fa fb ρ = (fa ρ).bind fun d => match d with | .bl true => fb ρ | .bl false => .ok (.bl false) | _ => .bad := id rfl
theorem ev_notV : notV fa ρ = (fa ρ).bind fun d => match d with | .bl b => .ok (.bl (!b)) | _ => .bad := id rfl
theorem ev_lstR {fs : DS → Res (List D)} : lstR fs ρ = (fs ρ).bind fun ds => if lenOk ds.length = true then .ok (.lst ds) else .bad := id rfl
theorem ev_tupR {fs : DS → Res (List D)} : tupR fs ρ = (fs ρ).bind fun ds => if lenOk ds.length = true then .ok (.tup ds) else .bad := id rfl
theorem ev_meth {C : Addr} {m : Str} {gm : List D → Res D} : methR C m fa gm ρ = (fa ρ).bind fun o => if insOf C m o = true then gm [o] else .bad := id rfl
theorem ev_slice {lo hi : DS → Res (Option Int)} : slR fa lo hi ρ = (fa ρ).bind fun d => (lo ρ).bind fun l => (hi ρ).bind fun u => sliceD l u d := id rfl
theorem ev_isn {d : D} : isNo d .non = .ok (.bl (isN d)) := id rfl
theorem ev_notn {d : D} : notNo d .non = .ok (.bl (!isN d)) := id rfl
theorem log_small {n : Int} (h1 : -(10 ^ 20) < n) (h2 : n < 10 ^ 20) : n.natAbs.log2 < 1920 := by
  have h : n.natAbs < 2 ^ 100 := by omega
  by_cases hz : n.natAbs = 0
  · rw [hz]; decide
  · exact Nat.lt_of_lt_of_le ((Nat.log2_lt hz).mpr h) (by decide)
end
section
variable {X : Cx} {E : XK}
theorem po_rF {x : Str} {np cpos pos jp : Pos} {v1 v2 : Expr} {rest : List Expr} {n : Nat} {t : St → Hp → Prop} {C : Addr} (Gx : ExcC X.K X.mg x C) (h : PFs X (v1 :: v2 :: rest) n t) (ok : DS → Bool)
    (ht : ∀ σ G H ρ, Same G H → Ro X.K G σ ρ → ok ρ = true → t σ H) (hR : Raises X E := by exact raises_cx fun _ _ _ h => h) (hc : X.calm = true := by rfl) (hg : Gl X x := by rfl) (hn : n ≤ 100000 := by decide)
    (he : starEach [.JoinedStr (v1 :: v2 :: rest) jp] X.env = (false, eval (.JoinedStr (v1 :: v2 :: rest) jp) X.env) :: starEach [] X.env := by rfl) (hdb : (x == ("__debug__" : Str)) = false := by decide) :
    PO1 X E (.Raise (some (.Call (.Name x np) [.JoinedStr (v1 :: v2 :: rest) jp] [] cpos)) none pos) (raiseO C ok) := po_raiseF hR hc Gx hg h ok ht hn he hdb
theorem po_rT {x : Str} {np cpos pos jp : Pos} {y : Str} {j : Nat} {C : Addr} (Gx : ExcC X.K X.mg x C) (hR : Raises X E := by exact raises_cx fun _ _ _ h => h) (hc : X.calm = true := by rfl) (hg : Gl X x := by rfl)
    (he : starEach [.Constant (.str y) j jp] X.env = (false, eval (.Constant (.str y) j jp) X.env) :: starEach [] X.env := by rfl) (hdb : (x == ("__debug__" : Str)) = false := by decide) :
    PO1 X E (.Raise (some (.Call (.Name x np) [.Constant (.str y) j jp] [] cpos)) none pos) (raiseO C fun _ => true) := po_raiseT hR hc Gx hg he hdb
end
section
variable {X : Cx} {E : XK}
theorem pd_cl {k : Nat} {f : Addr} {fd : FuncData} {ps : List Str} {m : List D → Res D} {x : Str} {p pos : Pos} {e : Expr} {es : List Expr} {fs : DS → Res (List D)} (F : FnOk X.prog X.w X.K X.mg X.base (CXF X.prog X.w) k f fd ps (pureSp X.K m)) (hr : Room k X.A) (hm : X.mg x = some (.ref f)) (hk : PySem.W.keepIn X.K (.ref f) = true) (hb : Binds X.K fd ps [])
    (ha : PDA X E (e :: es) fs) (hx : Passes (CXF X.prog X.w) X E := by exact cxf_pass fun _ _ _ h => h) (hg : Gl X x := by rfl) (hdb : (x == ("__debug__" : Str)) = false := by decide) (he : starEach (e :: es) X.env = (false, eval e X.env) :: starEach es X.env := by rfl) (hpl : (backTo pos (starEach es X.env)).any (·.1) = false := by rfl) :
    PD X E (.Call (.Name x p) (e :: es) [] pos) (ClR fs m) := pd_call F hr hg hm hk hb hx ha hdb he hpl
theorem pd_m0 {pl : Sem Bool} {k : Nat} {f C : Addr} {fd : FuncData} {ps : List Str} {g : List D → Res D} {m : Str} {apos pos : Pos} {o : Expr} {fo : DS → Res D} (hoo : PD X E o fo) (c : Cls X.K C) (hm : Meth X.K C m f) (F : FnOk X.prog X.w X.K X.mg X.base (CXF X.prog X.w) k f fd ps (pureSp X.K g)) (hr : Room k X.A) (hb : Binds X.K fd ps [])
    (hx : Passes (CXF X.prog X.w) X E := by exact cxf_pass fun _ _ _ h => h)
    (ht : eval (.Call (.Attribute o m apos) [] [] pos) X.env = (do
      let ov ← eval o X.env
      standAt apos.atName
      let (f, first) ← holding [ov] (getMethod ov m pl)
      callWith pos f first (backTo pos (starEach [] X.env)) (backToKw pos (keywordEach [] X.env))) := by rfl) : PD X E (.Call (.Attribute o m apos) [] [] pos) (methR C m fo g) :=
  pd_meth0 (pl := pl) hoo c hm F hr hb hx (pe_meth0 (pl := pl) (pe_d hoo) c hm F hr hb .nil hx ht)
end
def Out.stops : Out → Bool
  | .rt _ => true
  | .exc _ => true
  | _ => false
def lastSet (j : Nat) (ρ : DS) (ds : List D) : DS := match ds.getLast? with
  | none => ρ
  | some d => ρ.set j (some d)
theorem for_looks {F : DS → Out} {j : Nat} {R : Out} {good : D → Bool} (hR : R.stops = true) : ∀ (ds : List D) (ρ : DS), (∀ d ∈ ds, F (ρ.set j (some d)) = if good d = true then .nx (ρ.set j (some d)) else R) →
    forO j F ds ρ = if ds.all good = true then .nx (lastSet j ρ ds) else R
  | [], ρ, _ => rfl
  | d :: ds, ρ, h => by
    have h1 := h d (List.mem_cons_self ..)
    rw [List.all_cons]
    by_cases hg : good d = true
    · rw [if_pos hg] at h1
      rw [ev_forN h1, hg, Bool.true_and, for_looks hR ds (ρ.set j (some d)) fun e he => by rw [List.set_set]; exact h e (List.mem_cons_of_mem _ he)]
      have e : lastSet j (ρ.set j (some d)) ds = lastSet j ρ (d :: ds) := by
        unfold lastSet
        cases ds with
        | nil => rfl
        | cons x r =>
          rw [List.getLast?_cons_cons]
          cases q : (x :: r).getLast? with
          | none => simp at q
          | some y => dsimp only; rw [List.set_set]
      rw [e]
    · rw [if_neg hg] at h1
      rw [Bool.eq_false_iff.mpr hg, Bool.false_and]
      cases R with
      | rt e => exact ev_forR h1
      | exc c => exact ev_forX h1
      | _ => cases hR
section
variable {X : Cx} {E : XK} {e e2 : Expr} {p pos : Pos} {f f2 : DS → Res D}
theorem pd_len (hm : X.mg "len" = none) (h : PD X E e f) (hg : Gl X "len" := by rfl) (he : starEach [e] X.env = (false, eval e X.env) :: starEach [] X.env := by rfl) : PD X E (.Call (.Name "len" p) [e] [] pos) (fun ρ => (f ρ).bind fun a => lenD [a]) := by
  have q := pd_callB (X := X) (E := E) (p := p) (pos := pos) call_len_seq dc_len hg hm PySem.boot_len (pda_cons h pda_nil he) (by decide) (by decide) he rfl
  have e : ClR (fun ρ => (f ρ).bind fun d => (Res.ok [] : Res (List D)).bind fun ds => .ok (d :: ds)) lenD = fun ρ => (f ρ).bind fun a => lenD [a] := funext fun ρ => by
    show ((f ρ).bind _).bind _ = _
    cases f ρ <;> rfl
  exact e ▸ q
theorem pd_tuple (hm : X.mg "tuple" = none) (h : PD X E e f) (hg : Gl X "tuple" := by rfl) (he : starEach [e] X.env = (false, eval e X.env) :: starEach [] X.env := by rfl) : PD X E (.Call (.Name "tuple" p) [e] [] pos) (fun ρ => (f ρ).bind fun a => tupleD [a]) := by
  have q := pd_callTy (X := X) (E := E) (p := p) (pos := pos) call_tuple_of dc_tuple hg hm bo_tuple (pda_cons h pda_nil he) (by decide) (by decide) he rfl
  have e : ClR (fun ρ => (f ρ).bind fun d => (Res.ok [] : Res (List D)).bind fun ds => .ok (d :: ds)) tupleD = fun ρ => (f ρ).bind fun a => tupleD [a] := funext fun ρ => by
    show ((f ρ).bind _).bind _ = _
    cases f ρ <;> rfl
  exact e ▸ q
theorem pd_minL (hm : X.mg "min" = none) (h : PD X E e f) (hc : X.calm = true := by rfl) (hg : Gl X "min" := by rfl) (he : starEach [e] X.env = (false, eval e X.env) :: starEach [] X.env := by rfl) : PD X E (.Call (.Name "min" p) [e] [] pos) (fun ρ => (f ρ).bind fun a => minD [a]) := by
  have q := pd_callB (X := X) (E := E) (p := p) (pos := pos) (call_minL hc) dc_minL hg hm bo_min (pda_cons h pda_nil he) (by decide) (by decide) he rfl
  have e : ClR (fun ρ => (f ρ).bind fun d => (Res.ok [] : Res (List D)).bind fun ds => .ok (d :: ds)) minD = fun ρ => (f ρ).bind fun a => minD [a] := funext fun ρ => by
    show ((f ρ).bind _).bind _ = _
    cases f ρ <;> rfl
  exact e ▸ q
theorem pd_maxL (hm : X.mg "max" = none) (h : PD X E e f) (hc : X.calm = true := by rfl) (hg : Gl X "max" := by rfl) (he : starEach [e] X.env = (false, eval e X.env) :: starEach [] X.env := by rfl) : PD X E (.Call (.Name "max" p) [e] [] pos) (fun ρ => (f ρ).bind fun a => maxD [a]) := by
  have q := pd_callB (X := X) (E := E) (p := p) (pos := pos) (call_maxL hc) dc_maxL hg hm bo_max (pda_cons h pda_nil he) (by decide) (by decide) he rfl
  have e : ClR (fun ρ => (f ρ).bind fun d => (Res.ok [] : Res (List D)).bind fun ds => .ok (d :: ds)) maxD = fun ρ => (f ρ).bind fun a => maxD [a] := funext fun ρ => by
    show ((f ρ).bind _).bind _ = _
    cases f ρ <;> rfl
  exact e ▸ q
theorem pe_ty {x : Str} {n : String} {pos : Pos} (hm : X.mg x = none) (hv : bootBuiltins x = some (.type n)) (hg : Gl X x := by rfl) (hn : x ≠ "__name__" := by decide) (hd : (x == ("__debug__" : Str)) = false := by decide) : PE X (.Name x pos) (tC (.ty n)) := pe_bltn hg hm hv rfl hn hd
theorem pe_cls {x : Str} {C : Addr} {pos : Pos} (hm : X.mg x = some (.ref C)) (hg : Gl X x := by rfl) (hd : (x == ("__debug__" : Str)) = false := by decide) : PE X (.Name x pos) (tC (.ref C)) := pe_glob hg hm rfl hd
theorem pd_is {a c : Expr} {p pos : Pos} {fa : DS → Res D} {vc : V} (hm : X.mg "isinstance" = none) (ha : PD X E a fa) (hcl : PE X c (tC vc)) (hvc : cV vc ≠ .none := by exact fun z => nomatch z) (hg : Gl X "isinstance" := by rfl)
    (hs1 : starEach [a, c] X.env = (false, eval a X.env) :: starEach [c] X.env := by rfl) (hs2 : starEach [c] X.env = (false, eval c X.env) :: starEach [] X.env := by rfl) (hpl : (backTo pos (starEach [c] X.env)).any (·.1) = false := by rfl) :
    PD X E (.Call (.Name "isinstance" p) [a, c] [] pos) (fun ρ => (fa ρ).bind (isiD X.K (cV vc))) := pd_isi ha hcl hvc hg hm hs1 hs2 hpl
end
end L2
set_option Elab.async false
set_option linter.all false
set_option maxRecDepth 100000
namespace L2
open PySem PySem.Spec PyProof.Rows
section
variable {ρ : DS} {fa fb fc : DS → Res D} {c : Addr} {l : List D} {i : Int}
theorem ev_asI : asI (.int i) = .ok (some i) := id rfl
theorem ev_seqD : seqD (.lst l) = .ok l := id rfl
theorem ev_rT : raiseO c (fun _ => true) ρ = .exc c := id rfl
theorem ev_t0 {x : D} {r : List D} : ixD (.tup (x :: r)) (.int 0) = .ok x := ev_ixT (atI_of (by decide) rfl)
theorem ev_t1 {x y : D} {r : List D} : ixD (.tup (x :: y :: r)) (.int 1) = .ok y := ev_ixT (atI_of (by decide) rfl)
theorem ev_l0 {x : D} {r : List D} : ixD (.lst (x :: r)) (.int 0) = .ok x := ev_ixL (atI_of (by decide) rfl)
theorem ev_l1 {x y : D} {r : List D} : ixD (.lst (x :: y :: r)) (.int 1) = .ok y := ev_ixL (atI_of (by decide) rfl)
theorem ev_lk1 {α : Type} {a : α} : lenOk [a].length = true := decide_eq_true (by show 1 ≤ 100000; decide)
theorem ev_lk2 {α : Type} {a b : α} : lenOk [a, b].length = true := decide_eq_true (by show 2 ≤ 100000; decide)
theorem ev_lk4 {α : Type} {a b c d : α} : lenOk [a, b, c, d].length = true := decide_eq_true (by show 4 ≤ 100000; decide)
end
end L2
set_option Elab.async false
set_option linter.all false
set_option maxRecDepth 100000
namespace L2
open PySem PySem.Spec PyProof.Rows
end L2
set_option Elab.async false
set_option linter.all false
set_option maxRecDepth 100000
namespace L2
open PySem PySem.Spec PyProof.Rows
section
variable {X : Cx} {E : XK}
def addS : D → D → Res D
  | .str a, .str b => if lenOk (a.length + b.length) = true then .ok (.str (a ++ b)) else .bad
  | _, _ => .bad
theorem do_addS : DOp X E (binaryOp .Add) addS := DOp.of op_add_str fun G H x y dx dy hs rx ry ok => by
  unfold addS at ok ⊢
  split at ok
  · rename_i a b
    rw [rep_str] at rx ry
    subst rx ry
    by_cases hz : lenOk (a.length + b.length) = true
    · rw [if_pos hz]
      exact ⟨a, b, rfl, rfl, lenOk_line hz, _, G, rfl, .refl hs, rep_str.mpr rfl⟩
    · rw [if_neg hz] at ok; exact ok.elim
  · exact ok.elim
def catL : D → D → Res D
  | .lst a, .lst b => if lenOk (a.length + b.length) = true then .ok (.lst (a ++ b)) else .bad
  | _, _ => .bad
theorem do_cat : DOp X E (binaryOp .Add) catL := DOp.of op_cat fun G H x y dx dy hs rx ry ok => by
  unfold catL at ok ⊢
  split at ok
  · rename_i a b
    rw [rep_lst] at rx ry
    obtain ⟨p, xs, rfl, l1, r1⟩ := rx
    obtain ⟨q, ys, rfl, l2, r2⟩ := ry
    by_cases hz : lenOk (a.length + b.length) = true
    · rw [if_pos hz]
      refine ⟨p, q, xs, ys, rfl, rfl, hs _ _ l1.h, hs _ _ l2.h, by rw [← r1.length, ← r2.length]; exact lenOk_line hz, fun t ht => ⟨_, _, rfl, .new hs ht _, ?_⟩⟩
      exact rep_lst.mpr ⟨t, _, rfl, .of upd_same, (r1.append r2).mono (Ext.new hs ht _).gg⟩
    · rw [if_neg hz] at ok; exact ok.elim
  · exact ok.elim
theorem RepL.flat {K : PySem.W.Frag} {G : Hp} {ds : List D} {vs : List V} (h : RepL K G ds vs) : ∀ n : Nat, RepL K G (List.replicate n ds).flatten (List.replicate n vs).flatten
  | 0 => .nil
  | n + 1 => by rw [List.replicate_succ, List.replicate_succ, List.flatten_cons, List.flatten_cons]; exact h.append (RepL.flat h n)
def repL : D → D → Res D
  | .lst a, .int k => if (decide (-1000000 ≤ k) && decide (k ≤ 1000000) && lenOk (a.length * k.toNat)) = true then .ok (.lst (List.replicate k.toNat a).flatten) else .bad
  | _, _ => .bad
theorem do_rep : DOp X E (binaryOp .Mult) repL := DOp.of op_rep fun G H x y dx dy hs rx ry ok => by
  unfold repL at ok ⊢
  split at ok
  · rename_i a k
    rw [rep_lst] at rx
    rw [rep_int] at ry
    subst ry
    obtain ⟨p, xs, rfl, l1, r1⟩ := rx
    by_cases hz : (decide (-1000000 ≤ k) && decide (k ≤ 1000000) && lenOk (a.length * k.toNat)) = true
    · rw [if_pos hz]
      simp only [Bool.and_eq_true, decide_eq_true_eq] at hz
      refine ⟨p, k, xs, rfl, rfl, hs _ _ l1.h, by omega, by omega, by rw [← r1.length]; exact lenOk_line hz.2, fun t ht => ⟨_, _, rfl, .new hs ht _, ?_⟩⟩
      exact rep_lst.mpr ⟨t, _, rfl, .of upd_same, (r1.flat _).mono (Ext.new hs ht _).gg⟩
    · rw [if_neg hz] at ok; exact ok.elim
  · exact ok.elim
def lenS : List D → Res D
  | [.str z] => if lenOk z.length = true then .ok (.int z.length) else .bad
  | _ => .bad
theorem dc_lenS {K : PySem.W.Frag} : DCl K E (fun xs H Q => ∃ z, xs = [.str z] ∧ z.length ≤ sizeLine ∧ Q (.int z.length) H) lenS := by
  intro G H vs ds Q hs rl ok k
  unfold lenS at ok k
  split at ok
  · rename_i z
    obtain ⟨v, r, rfl, rx, r0⟩ := rl.inv
    rw [r0.inv0]
    rw [rep_str] at rx
    subst rx
    by_cases hz : lenOk z.length = true
    · dsimp only at k
      rw [if_pos hz] at k
      exact ⟨z, rfl, lenOk_line hz, k _ _ G H rfl (.refl hs) (rep_int.mpr rfl)⟩
    · rw [if_neg hz] at ok; exact ok.elim
  · exact ok.elim
def strI : List D → Res D
  | [.int i] => if (decide (-(10 ^ 20) < i) && decide (i < 10 ^ 20)) = true then .ok (.str (toString i)) else .bad
  | _ => .bad
theorem dc_strI {K : PySem.W.Frag} : DCl K E (fun xs H Q => ∃ i, xs = [.int i] ∧ i.natAbs.log2 < 1920 ∧ Q (.str (toString i)) H) strI := by
  intro G H vs ds Q hs rl ok k
  unfold strI at ok k
  split at ok
  · rename_i i
    obtain ⟨v, r, rfl, rx, r0⟩ := rl.inv
    rw [r0.inv0]
    rw [rep_int] at rx
    subst rx
    by_cases hz : (decide (-(10 ^ 20) < i) && decide (i < 10 ^ 20)) = true
    · dsimp only at k
      rw [if_pos hz] at k
      simp only [Bool.and_eq_true, decide_eq_true_eq] at hz
      exact ⟨i, rfl, log_small hz.1 hz.2, k _ _ G H rfl (.refl hs) (rep_str.mpr rfl)⟩
    · rw [if_neg hz] at ok; exact ok.elim
  · exact ok.elim
end
end L2
namespace L2
open PySem PySem.Spec PyProof.Rows
section
variable {X : Cx} {E : XK}
end
end L2
set_option Elab.async false
set_option linter.all false
set_option maxRecDepth 100000
namespace L2
open PySem PySem.Spec PyProof.Rows
def Its (z : Str) : It := ⟨fun i _ => i < z.cps.size, fun i H x H' => H' = H ∧ ∃ c, z.cps[i]? = some c ∧ x = .str ⟨#[c]⟩, fun i _ => z.cps.size ≤ i⟩
theorem turn_strA {P : Program} {w : World} {K : PySem.W.Frag} {tg : Expr} (z : Str) (t : Tok) (it : Addr) : Turn P w K tg (Its z) [it] it (fun i h => h.IsStrIter it "str_ascii_iterator" z t i) where
  mem := by simp
  obj := fun i h st b hb => by
    have e : b = it := by simpa using hb
    subst e
    obtain ⟨o, e, c, d⟩ := st
    exact ⟨o, e, fun v z => by rw [d] at z; cases z⟩
  keep := fun i h h' ⟨o, e, c, d⟩ k => ⟨o, k it (by simp) o e, c, d⟩
  item := by
    intro X hP hw hK hc i pins s σ H E I hf st hg
    subst hP hw hK
    obtain ⟨f0, f1, f2, f3, f4, f5⟩ := hf it (by simp)
    have hi : z.cps[i]? = some (z.cps[i]'hg) := Array.getElem?_eq_getElem hg
    refine wpAny_pyNext_ascii_item st hi fun h' st' sb => ?_
    have I1 : Inv X pins σ H { s with heap := h', toks := s.toks + 1 } := I.turned (t' := s.toks + 1) (fun b o hb e => (sb.2 b hb).trans e) f0 f1 f3 f4 f5
    obtain ⟨o, e, c, d⟩ := id st'
    exact ⟨_, rfl, go_of (s := { s with heap := h', toks := s.toks + 1 }) e c d (by decide) ⟨.str ⟨#[z.cps[i]'hg]⟩, H, I1, ⟨_, rfl⟩, ⟨rfl, _, hi, rfl⟩, st', fun b hb => (hf b hb).1⟩⟩
  done := by
    intro X hP hw hK hc i pins s σ H E I hf st hg
    subst hP hw hK
    obtain ⟨f0, f1, f2, f3, f4, f5⟩ := hf it (by simp)
    exact wpAny_pyNext_ascii_end (I.ok.hd hc) st (Array.getElem?_eq_none hg) fun h' eb => ⟨rfl, I.turned (t' := s.toks) (fun b o hb e => eb b o hb e) f0 f1 f3 f4 f5⟩
  self := fun _ _ _ _ _ st h => wpAny_pyIter_striter_ascii st h
theorem turn_strW {P : Program} {w : World} {K : PySem.W.Frag} {tg : Expr} (z : Str) (t : Tok) (it : Addr) : Turn P w K tg (Its z) [it] it (fun i h => h.IsStrIter it "str_iterator" z t i) where
  mem := by simp
  obj := fun i h st b hb => by
    have e : b = it := by simpa using hb
    subst e
    obtain ⟨o, e, c, d⟩ := st
    exact ⟨o, e, fun v z => by rw [d] at z; cases z⟩
  keep := fun i h h' ⟨o, e, c, d⟩ k => ⟨o, k it (by simp) o e, c, d⟩
  item := by
    intro X hP hw hK hc i pins s σ H E I hf st hg
    subst hP hw hK
    obtain ⟨f0, f1, f2, f3, f4, f5⟩ := hf it (by simp)
    have hi : z.cps[i]? = some (z.cps[i]'hg) := Array.getElem?_eq_getElem hg
    refine wpAny_pyNext_wide_item st hi fun h' st' sb => ?_
    have I1 : Inv X pins σ H { s with heap := h', toks := s.toks + 1 } := I.turned (t' := s.toks + 1) (fun b o hb e => (sb.2 b hb).trans e) f0 f1 f3 f4 f5
    obtain ⟨o, e, c, d⟩ := id st'
    exact ⟨_, rfl, go_of (s := { s with heap := h', toks := s.toks + 1 }) e c d (by decide) ⟨.str ⟨#[z.cps[i]'hg]⟩, H, I1, ⟨_, rfl⟩, ⟨rfl, _, hi, rfl⟩, st', fun b hb => (hf b hb).1⟩⟩
  done := by
    intro X hP hw hK hc i pins s σ H E I hf st hg
    subst hP hw hK
    obtain ⟨f0, f1, f2, f3, f4, f5⟩ := hf it (by simp)
    exact wpAny_pyNext_wide_end (I.ok.hd hc) st (Array.getElem?_eq_none hg) fun h' eb => ⟨rfl, I.turned (t' := s.toks) (fun b o hb e => eb b o hb e) f0 f1 f3 f4 f5⟩
  self := fun _ _ _ _ _ st h => wpAny_pyIter_striter_wide st h
section
variable {X : Cx} {E : XK} {tg : Expr}
def iStr (tl : TE) : TI := fun σ H R => tl σ H fun x H1 => ∃ z, x = .str z ∧ R (Its z) H1
theorem pi_str {l : Expr} {tl : TE} (hl : PE X l tl) : PI X tg l (iStr tl) := by
  intro pins s σ H R I h
  refine thn (hl pins s σ H _ I h) fun v s1 ⟨x, H1, I1, r1, q1⟩ => ?_
  obtain ⟨z, e, q⟩ := q1
  subst e
  obtain ⟨t, rfl⟩ := r1
  have fin : ∀ b ∈ [s1.heap.objs.size], FpOk X pins H1 b := fun b hb => by
    have e : b = s1.heap.objs.size := by simpa using hb
    subst e
    exact I1.fpOk (Nat.le_refl _) (I1.hok.fresh (Nat.le_refl _))
  by_cases ha : (z.cps.all fun x => decide (x < 128)) = true
  · refine wpAny_pyIter_ascii ha ?_
    exact ⟨s1.heap.objs.size, [s1.heap.objs.size], _, _, H1, rfl, I1.kept (t' := s1.toks) fun b o e => Heap.get?_push_of_some _ e, turn_strA z t _, ⟨_, Heap.get?_push_size _ rfl, rfl, rfl⟩, fin, q⟩
  · refine wpAny_pyIter_wide (Bool.eq_false_iff.mpr ha) ?_
    exact ⟨s1.heap.objs.size, [s1.heap.objs.size], _, _, H1, rfl, I1.kept (t' := s1.toks) fun b o e => Heap.get?_push_of_some _ e, turn_strW z t _, ⟨_, Heap.get?_push_size _ rfl, rfl, rfl⟩, fin, q⟩
def signsD : D → Res (List D)
  | .str z => .ok (z.cps.toList.map fun c => .str ⟨#[c]⟩)
  | _ => .bad
theorem src_str {K : PySem.W.Frag} {G : Hp} (z : Str) : Src K (Its z) (z.cps.toList.map fun c => .str ⟨#[c]⟩) G := by
  intro G2 H2 g1 g2 i
  refine ⟨fun d hd => ?_, fun hl => (show z.cps.size ≤ i by simpa using hl)⟩
  rw [List.getElem?_map] at hd
  cases q : z.cps.toList[i]? with
  | none => rw [q] at hd; cases hd
  | some c =>
    rw [q] at hd
    cases hd
    have hi : i < z.cps.toList.length := (List.getElem?_eq_some_iff.mp q).1
    refine ⟨(show i < z.cps.size by simpa using hi), fun x H' ⟨e, c', hc, hx⟩ => ?_⟩
    subst e
    have : z.cps[i]? = some c := by rw [← Array.getElem?_toList]; exact q
    rw [this] at hc
    cases hc
    exact ⟨G2, .refl g2, by rw [hx]; exact rep_str.mpr rfl⟩
theorem pi_dstr {e : Expr} {f : DS → Res D} (h : PD X E e f) : PI X tg e (tDI X.K E (fun ρ => (f ρ).bind signsD)) := by
  intro pins s σ H R I ⟨G, ρ, hs, hro, ho, k⟩
  refine pi_str (pe_d h) pins s σ H R I ⟨G, ρ, hs, hro, ho.fst, fun d e v G1 H1 x1 p1 => ?_⟩
  have kk := ho.snd e x1.hh
  unfold signsD at kk
  split at kk
  · rename_i z
    rw [rep_str] at p1
    exact ⟨z, p1, k _ (bind_ok e rfl) _ G1 H1 x1 (src_str z)⟩
  · exact kk.elim
end
end L2
set_option Elab.async false
set_option linter.all false
set_option maxRecDepth 100000
namespace L2
open PySem PySem.Spec PyProof.Rows
theorem strsAre_of : ∀ {ts : List Str} {us : List Value}, Vals (ts.map V.str) us → StrsAre us ts
  | [], us, h => by cases h; exact .nil
  | t :: ts, us, h => by
    rw [List.map_cons] at h
    cases h with
    | cons r q =>
      obtain ⟨k, rfl⟩ := r
      exact .cons t k (strsAre_of q)
def rJoin (K : PySem.W.Frag) : V → List V → Hp → VK → Prop := fun x xs H Q => ∃ y a ts, x = .str y ∧ xs = [.ref a] ∧ SqL K H a (ts.map V.str) ∧ (ts.map (·.length)).sum + ts.length * y.length ≤ 16777216 ∧ Q (.str (Txt.join y ts)) H
section
variable {X : Cx} {E : XK}
theorem mt_join : MtR X "str.join" (rJoin X.K) := by
  intro pins s σ H x xs v us Q I rx r h
  obtain ⟨y, a, ts, rfl, rfl, sq, hz, q⟩ := h
  obtain ⟨t, rfl⟩ := rx
  obtain ⟨u, rfl, ru⟩ := vals1 r
  cases ru
  obtain ⟨its, rv, p, _⟩ := I.list sq
  refine join_list p.isList (ys := ts) (by simpa using strsAre_of rv) hz fun t' k => ?_
  exact ⟨.str (Txt.join y ts), H, I.tok k, ⟨_, rfl⟩, q⟩
def allStrs : List D → Option (List Str)
  | [] => some []
  | .str i :: ds => (allStrs ds).map (i :: ·)
  | _ => none
theorem allStrs_eq : ∀ {ds : List D} {ts : List Str}, allStrs ds = some ts → ds = ts.map D.str
  | [], ts, h => by unfold allStrs at h; cases h; rfl
  | d :: ds, ts, h => by
    cases d with
    | str i =>
      unfold allStrs at h
      cases q : allStrs ds with
      | none => rw [q] at h; cases h
      | some m =>
        rw [q] at h
        cases h
        rw [allStrs_eq q]
        rfl
    | _ => cases h
theorem allStrs_map : ∀ (ts : List Str), allStrs (ts.map D.str) = some ts
  | [] => rfl
  | t :: ts => by
    rw [List.map_cons]
    unfold allStrs
    rw [allStrs_map ts]
    rfl
theorem RepL.strs {K : PySem.W.Frag} {G : Hp} : ∀ {ts : List Str} {vs : List V}, RepL K G (ts.map D.str) vs → vs = ts.map V.str
  | [], vs, h => h.inv0
  | t :: ts, vs, h => by
    obtain ⟨v, r, rfl, h1, h2⟩ := h.inv
    rw [rep_str.mp h1, RepL.strs h2]
    rfl
def joinD : D → D → Res D
  | .str y, .lst l => match allStrs l with
    | some ts => if (ts.map (·.length)).sum + ts.length * y.length ≤ 100000 then .ok (.str (Txt.join y ts)) else .bad
    | none => .bad
  | _, _ => .bad
def onStr (fo : DS → Res D) (g : Str → DS → Res D) : DS → Res D := fun ρ => (fo ρ).bind fun d => match d with
  | .str y => g y ρ
  | _ => .bad
theorem pd_join {o e : Expr} {apos cpos : Pos} {fo fe : DS → Res D} (ho : PD X E o fo) (he : PD X E e fe)
    (hs : starEach [e] X.env = (false, eval e X.env) :: starEach [] X.env := by rfl)
    (hbase : attributeBase o "join" X.env (eval o X.env) = eval o X.env := by rfl)
    (hfew : ((backTo cpos (starEach [e] X.env)).all (fun x => !x.1) && (backToKw cpos (keywordEach [] X.env)).all (fun x => x.1.isSome) && decide (([e].length + ([] : List Keyword).length + if ([] : List Keyword).isEmpty = true then 0 else 1) < 30)) = true := by rfl)
    (hline : (apos.endLine == cpos.line) = true := by rfl) :
    PD X E (.Call (.Attribute o "join" apos) [e] [] cpos) (onStr fo fun y ρ => (fe ρ).bind (joinD (.str y))) := by
  intro pins s σ G H ρ I hsm hro hok
  have hp := pe_bm (apos := apos) (cpos := cpos) PySem.F.plainAttrs_str PySem.F.slot_str_join PySem.F.type_str_join mt_join (pe_d (E := E) ho) (pa_d (E := E) (pda_cons he pda_nil hs)) hbase hfew hline hs rfl
  refine thn (hp pins s σ H (fun v H' => ∃ d G', onStr fo (fun y ρ => (fe ρ).bind (joinD (.str y))) ρ = .ok d ∧ Ext G H G' H' ∧ Rep X.K G' d v) I ?_) fun u s' ⟨v, H', I', r', d, G', e, x, rp⟩ => ⟨d, e, v, G', H', I', r', x, rp⟩
  refine ⟨G, ρ, hsm, hro, hok.fst, fun d1 e1 v1 G1 H1 x1 p1 => ?_⟩
  have k1 := hok.snd e1 x1.hh
  cases d1 with
  | str y =>
    rw [rep_str] at p1
    subst p1
    have k1' : OkR E H1 ((fe ρ).bind (joinD (.str y))) := k1
    refine ⟨rfl, G1, ρ, x1.gh, hro.mono x1.gg, ?_, fun ds eds vs G2 H2 x2 rl => ?_⟩
    · have := k1'.fst
      show OkR E H1 ((fe ρ).bind fun d => (Res.ok [] : Res (List D)).bind fun ds => .ok (d :: ds))
      cases q : fe ρ with
      | ok d2 => trivial
      | exc c => rw [q] at this; exact this
      | bad => rw [q] at this; exact this
    · have eds : ((fe ρ).bind fun d => (Res.ok [] : Res (List D)).bind fun ds => .ok (d :: ds)) = .ok ds := eds
      cases q : fe ρ with
      | exc c => rw [q] at eds; cases eds
      | bad => rw [q] at eds; cases eds
      | ok d2 =>
        rw [q] at eds
        cases eds
        have k2 : OkR E H2 (joinD (.str y) d2) := k1'.snd q x2.hh
        have eo : onStr fo (fun y ρ => (fe ρ).bind (joinD (.str y))) ρ = joinD (.str y) d2 := by
          unfold onStr
          rw [e1, ev_bind_ok]
          dsimp only
          rw [q, ev_bind_ok]
        obtain ⟨v, r, rfl, rv, r0⟩ := rl.inv
        rw [r0.inv0]
        cases d2 with
        | lst l =>
          unfold joinD at k2
          dsimp only at k2
          cases qs : allStrs l with
          | none => rw [qs] at k2; exact k2.elim
          | some ts =>
            rw [qs] at k2
            dsimp only at k2
            by_cases hz : (ts.map (·.length)).sum + ts.length * y.length ≤ 100000
            · have el := allStrs_eq qs
              subst el
              rw [rep_lst] at rv
              obtain ⟨p, xs, rfl, sq, rx⟩ := rv
              have ex := rx.strs
              subst ex
              refine ⟨y, p, ts, rfl, rfl, (LsS.mk (x2.gh _ _ sq.h)).sq, by omega, .str (Txt.join y ts), G2, ?_, x1.trans x2, rep_str.mpr rfl⟩
              rw [eo]
              unfold joinD
              dsimp only
              rw [qs]
              exact if_pos hz
            · rw [if_neg hz] at k2; exact k2.elim
        | _ => exact k2.elim
  | _ => exact k1.elim
end
end L2
set_option Elab.async false
set_option linter.all false
set_option maxRecDepth 100000
namespace L2
open PySem PySem.Spec PyProof.Rows
def rSlS : V → Option Int → Option Int → Hp → VK → Prop := fun x lo hi H Q => ∃ z, x = .str z ∧ (Txt.slice z lo hi).length ≤ sizeLine ∧ Q (.str (Txt.slice z lo hi)) H
section
variable {X : Cx} {E : XK}
theorem sl_str : SlR X rSlS := by
  intro pins s σ H x v vl vu lo hi sl Q I rx hs pl pu h
  obtain ⟨z, rfl, q⟩ := h
  have q : (fun y : Str => y.length ≤ sizeLine ∧ Q (.str y) H) (Txt.slice z lo hi) := q
  obtain ⟨t, rfl⟩ := rx
  have fin : ∀ (l u : Option (Int × Tok)), l.map (·.1) = lo → u.map (·.1) = hi → s.heap.IsSlice sl l u none → wpAny (model X.prog X.w) X.A (getItem (.str z t) (.ref sl)) (EP X pins σ Q) X.xe s := by
    intro l u hl hu hsl
    subst hl hu
    refine wpAny_getItem_str_slice hsl rfl ?_
    unfold sliceMade
    unfold Txt.slice at q
    split
    · rename_i hc
      split at q
      · exact ⟨.str z, H, I, ⟨t, rfl⟩, q.2⟩
      · rename_i hn
        exact absurd hc hn
    · rename_i hc
      split at q
      · rename_i hn
        exact absurd hn hc
      · exact ⟨q.1, ⟨.str _, H, I.tok _, ⟨_, rfl⟩, q.2⟩⟩
  refine ⟨"str", _, slot_str_getitem.lookup, ?_, ?_⟩
  · exact typeIs_str s z t
  · cases pl with
    | none =>
      cases pu with
      | none => exact fin none none rfl rfl hs
      | int j u => exact fin none (some (j, u)) rfl rfl hs
    | int i k =>
      cases pu with
      | none => exact fin (some (i, k)) none rfl rfl hs
      | int j u => exact fin (some (i, k)) (some (j, u)) rfl rfl hs
def sliceS (lo hi : Option Int) : D → Res D
  | .str z => if lenOk (Txt.slice z lo hi).length = true then .ok (.str (Txt.slice z lo hi)) else .bad
  | _ => .bad
def slS (f : DS → Res D) (lo hi : DS → Res (Option Int)) : DS → Res D := fun ρ => (f ρ).bind fun d => (lo ρ).bind fun l => (hi ρ).bind fun u => sliceS l u d
theorem pd_sliceS {e : Expr} {lo hi : Option Expr} {p2 pos : Pos} {f : DS → Res D} {fl fh : DS → Res (Option Int)} (he : PD X E e f) (hl : PDO X E lo fl) (hh : PDO X E hi fh) : PD X E (.Subscript e (.Slice lo hi none p2) pos) (slS f fl fh) := by
  intro pins s σ G H ρ I hsm hro ho
  have hp := pe_slice (pos := pos) (p2 := p2) sl_str (pe_d he) hl hh
  refine thn (hp pins s σ H (fun v H' => ∃ d G', slS f fl fh ρ = .ok d ∧ Ext G H G' H' ∧ Rep X.K G' d v) I ?_) fun u s' ⟨v, H', I', r, d, G', e, xx, rp⟩ => ⟨d, e, v, G', H', I', r, xx, rp⟩
  refine ⟨G, ρ, hsm, hro, ho.fst, fun d e v G1 H1 x1 p1 => ?_⟩
  have k1 := ho.snd e x1.hh
  refine ⟨G1, ρ, x1.gh, hro.mono x1.gg, k1.fst, fun l el G2 H2 x2 => ?_⟩
  have k2 := k1.snd el x2.hh
  refine ⟨G2, ρ, x2.gh, (hro.mono x1.gg).mono x2.gg, k2.fst, fun u eu G3 H3 x3 => ?_⟩
  have k3 := k2.snd eu x3.hh
  have x13 := (x1.trans x2).trans x3
  cases d with
  | str z =>
    rw [rep_str] at p1
    by_cases hz : lenOk (Txt.slice z l u).length = true
    · exact ⟨z, p1, lenOk_line hz, _, G3, bind_ok e (bind_ok el (bind_ok eu (if_pos hz))), x13, rep_str.mpr rfl⟩
    · have k3' : OkR E H3 (if lenOk (Txt.slice z l u).length = true then Res.ok (D.str (Txt.slice z l u)) else .bad) := k3
      rw [if_neg hz] at k3'
      exact k3'.elim
  | _ => exact k3.elim
end
end L2
set_option Elab.async false
set_option linter.all false
set_option maxRecDepth 100000
namespace L2
open PySem PySem.Spec PyProof.Rows
section
variable {X : Cx} {E : XK} {pins : List (Addr × Obj)} {σ : St} {H : Hp} {s : Shared}
theorem Inv.again {h' : Heap} {a : Addr} {o : HO} {t' : Nat} {m : Str → Option Value} (I : Inv X pins σ H s)
    (hl : ∀ (i : Nat) (x : Str) (v : V), X.N[i]? = some x → σ[i]? = some (some v) → Vis X.env.scope x → ∃ u, RelV v u ∧ Look X.env s.heap m x u) (hn : h'.Ns X.env.locals m)
    (hk : ∀ b u, b ≠ X.env.locals → s.heap.get? b = some u → h'.get? b = some u) (hp : s.heap.objs.size ≤ a) (new : ObjOk X.prog X.w (upd H a o) h' a o) : Inv X pins σ (upd H a o) { s with heap := h', toks := t' } := by
  have hna : H a = Option.none := I.hok.fresh hp
  have ne : ∀ {b : Addr} {o : Obj}, X.s₀.heap.get? b = some o → b ≠ X.env.locals := fun e => Nat.ne_of_lt (Nat.lt_of_lt_of_le (Heap.lt_size e) I.ok.above)
  have lt : X.env.locals < s.heap.objs.size := I.lt
  have hal : a ≠ X.env.locals := Nat.ne_of_gt (Nat.lt_of_lt_of_le lt hp)
  have hu : ∀ {b : Addr} {u : HO}, H b = some u → (upd H a o) b = some u := fun e => (by rw [upd_ne (ne_of_none e hna)]; exact e)
  have hold : ∀ {b : Addr} {ob : Obj}, s.heap.get? b = some ob → b ≠ a := fun e z => absurd (Nat.lt_of_lt_of_le (Heap.lt_size e) (by rw [z]; exact hp)) (Nat.lt_irrefl _)
  refine ⟨I.ok, I.os, I.bare, ⟨fun b ob e n hb hx => hk _ _ (ne e) (I.base.keep b ob e n hb hx), fun b ob e n hb hx => ?_, fun b ob e n hx => ?_, fun b ob e hx => ?_, fun b xs e => hu (I.base.tups b xs e), fun b ob u e => hu (I.base.frzs b ob u e), fun b ps e => ?_⟩, ⟨m, hn, fun i x v e1 e2 e3 => ?_⟩, fun y c e => ?_, ?_, fun y c e => ?_, fun p hp' => ?_, ?_, I.len⟩
  · obtain ⟨sl, e1⟩ := I.base.slot b ob e n hb hx
    exact ⟨sl, hk _ _ (ne e) e1⟩
  · obtain ⟨o', e1⟩ := I.base.there b ob e hx
    rw [upd_ne (hold e1)]
    exact I.base.free b ob e n hx
  · obtain ⟨o', e1⟩ := I.base.there b ob e hx
    exact ⟨o', hk _ _ (ne e) e1⟩
  · obtain ⟨more, e1⟩ := I.base.tbls b ps e
    exact ⟨more, hu e1⟩
  · obtain ⟨u, r, lk⟩ := hl i x v e1 e2 e3
    refine ⟨u, r, ?_⟩
    rcases lk with lk | ⟨k1, c, k2, ob, k3, k4⟩
    · exact .inl lk
    · exact .inr ⟨k1, c, k2, ob, hk _ _ (I.cne x c k2) k3, k4⟩
  · obtain ⟨w', ob, k3, k4⟩ := I.cell y c e
    exact ⟨w', ob, hk _ _ (I.cne y c e) k3, k4⟩
  · show (upd H a o) X.env.locals = Option.none
    rw [upd_ne hal.symm]
    exact I.free
  · obtain ⟨w', ob, k3, k4⟩ := I.cell y c e
    rw [upd_ne (hold k3)]
    exact I.freeC y c e
  · obtain ⟨e, n, nl, nf, d⟩ := I.pin p hp'
    exact ⟨hk _ _ nl e, by rw [upd_ne (hold e)]; exact n, nl, nf, d⟩
  · intro b u e
    by_cases hb : b = a
    · subst hb; rw [upd_same] at e; cases e; exact new
    · rw [upd_ne hb] at e
      refine (I.hok b u e).stay (fun c v hc q => hk c v (fun z => ?_) q) (fun c q => hu q) fun c xs q => hu q
      rcases hc with hc | hc
      · rw [hc] at z; rw [z, I.free] at e; cases e
      · rw [z, I.free] at hc; cases hc
end
end L2
set_option Elab.async false
set_option linter.all false
set_option maxRecDepth 100000
namespace L2
open PySem PySem.Spec PyProof.Rows
section
variable {X : Cx} {E : XK} {pins : List (Addr × Obj)} {σ : St} {H : Hp} {s : Shared}
def butOne (h : Heap) (L : Addr) : List (Addr × Obj) := (List.range h.objs.size).filterMap fun b => if b = L then none else (h.get? b).map fun o => (b, o)
theorem butOne_mem {h : Heap} {L b : Addr} {o : Obj} : (b, o) ∈ butOne h L ↔ b ≠ L ∧ h.get? b = some o := by
  unfold butOne
  rw [List.mem_filterMap]
  constructor
  · rintro ⟨c, _, hc⟩
    split at hc
    · cases hc
    · rename_i hne
      cases q : h.get? c with
      | none => rw [q] at hc; cases hc
      | some u => rw [q] at hc; cases hc; exact ⟨hne, q⟩
  · rintro ⟨h1, h2⟩
    exact ⟨b, List.mem_range.mpr (Heap.lt_size h2), by rw [if_neg h1, h2]; rfl⟩
def rSplit : V → List V → Hp → VK → Prop := fun x xs H Q => ∃ z y, x = .str z ∧ xs = [.str y] ∧ (y.length == 0) = false ∧ z.length ≤ 100000 ∧ (Txt.split z y).length ≤ sizeLine ∧ ∀ l, H l = none → Q (.ref l) (upd H l (.lst ((Txt.split z y).map V.str)))
theorem vals_strs : ∀ {l : List (Str × Tok)}, Vals ((l.map (·.1)).map V.str) (strValues l)
  | [] => .nil
  | (y, t) :: l => .cons ⟨t, rfl⟩ vals_strs
theorem mt_split : MtR X "str.split" rSplit := by
  intro pins s σ H x xs v us Q I rx r h
  obtain ⟨z, y, rfl, rfl, hy, hz, hlen, q⟩ := h
  obtain ⟨t, rfl⟩ := rx
  obtain ⟨u, rfl, ru⟩ := vals1 r
  obtain ⟨t2, rfl⟩ := ru
  obtain ⟨m, hn, hl⟩ := I.loc
  let h₀ : Heap := { objs := #[] }
  have fr : Fr h₀ X.env.locals s.heap m := ⟨hn, fun b o e => (by cases e), Nat.zero_le _⟩
  have nw : News h₀ X.env.locals s.heap (butOne s.heap X.env.locals) := fun p hp => ⟨(butOne_mem.mp hp).2, (butOne_mem.mp hp).1, rfl⟩
  refine splitN1 fr nw hy (fun l h' k el fr' nw' => ?_) (by rw [sizeLine_eq]; omega)
  have hk : ∀ b u, b ≠ X.env.locals → s.heap.get? b = some u → h'.get? b = some u := fun b u hb e => (nw' (b, u) (List.mem_cons_of_mem _ (butOne_mem.mpr ⟨hb, e⟩))).1
  have hnew := (nw' _ (List.mem_cons_self ..)).1
  have J : Inv X pins σ (upd H s.heap.objs.size (.lst ((Txt.split z y).map V.str))) { s with heap := h', toks := k } :=
    I.again (t' := k) hl fr'.ns hk (Nat.le_refl _) ⟨by rw [List.length_map]; exact hlen, strValues l, 0, by rw [← el]; exact vals_strs, hnew⟩
  exact ⟨.ref s.heap.objs.size, _, J, rfl, q _ (I.hok.fresh (Nat.le_refl _))⟩
def splitD (z : Str) : D → Res D
  | .str y => if (!(y.length == 0) && lenOk z.length && lenOk (Txt.split z y).length) = true then .ok (.lst ((Txt.split z y).map D.str)) else .bad
  | _ => .bad
theorem RepL.of_strs {K : PySem.W.Frag} {G : Hp} : ∀ (ts : List Str), RepL K G (ts.map D.str) (ts.map V.str)
  | [] => .nil
  | _ :: ts => .cons (rep_str.mpr rfl) (RepL.of_strs ts)
theorem pd_split {o e : Expr} {apos cpos : Pos} {fo fe : DS → Res D} (ho : PD X E o fo) (he : PD X E e fe)
    (hs : starEach [e] X.env = (false, eval e X.env) :: starEach [] X.env := by rfl)
    (hbase : attributeBase o "split" X.env (eval o X.env) = eval o X.env := by rfl)
    (hfew : ((backTo cpos (starEach [e] X.env)).all (fun x => !x.1) && (backToKw cpos (keywordEach [] X.env)).all (fun x => x.1.isSome) && decide (([e].length + ([] : List Keyword).length + if ([] : List Keyword).isEmpty = true then 0 else 1) < 30)) = true := by rfl)
    (hline : (apos.endLine == cpos.line) = true := by rfl) :
    PD X E (.Call (.Attribute o "split" apos) [e] [] cpos) (onStr fo fun z ρ => (fe ρ).bind (splitD z)) := by
  intro pins s σ G H ρ I hsm hro hok
  have hp := pe_bm (apos := apos) (cpos := cpos) PySem.F.plainAttrs_str PySem.F.slot_str_split PySem.F.type_str_split mt_split (pe_d (E := E) ho) (pa_d (E := E) (pda_cons he pda_nil hs)) hbase hfew hline hs rfl
  refine thn (hp pins s σ H (fun v H' => ∃ d G', onStr fo (fun z ρ => (fe ρ).bind (splitD z)) ρ = .ok d ∧ Ext G H G' H' ∧ Rep X.K G' d v) I ?_) fun u s' ⟨v, H', I', r', d, G', e, x, rp⟩ => ⟨d, e, v, G', H', I', r', x, rp⟩
  refine ⟨G, ρ, hsm, hro, hok.fst, fun d1 e1 v1 G1 H1 x1 p1 => ?_⟩
  have k1 := hok.snd e1 x1.hh
  cases d1 with
  | str z =>
    rw [rep_str] at p1
    subst p1
    have k1' : OkR E H1 ((fe ρ).bind (splitD z)) := k1
    refine ⟨rfl, G1, ρ, x1.gh, hro.mono x1.gg, ?_, fun ds eds vs G2 H2 x2 rl => ?_⟩
    · have := k1'.fst
      show OkR E H1 ((fe ρ).bind fun d => (Res.ok [] : Res (List D)).bind fun ds => .ok (d :: ds))
      cases q : fe ρ with
      | ok d2 => trivial
      | exc c => rw [q] at this; exact this
      | bad => rw [q] at this; exact this
    · have eds : ((fe ρ).bind fun d => (Res.ok [] : Res (List D)).bind fun ds => .ok (d :: ds)) = .ok ds := eds
      cases q : fe ρ with
      | exc c => rw [q] at eds; cases eds
      | bad => rw [q] at eds; cases eds
      | ok d2 =>
        rw [q] at eds
        cases eds
        have k2 : OkR E H2 (splitD z d2) := k1'.snd q x2.hh
        have eo : onStr fo (fun z ρ => (fe ρ).bind (splitD z)) ρ = splitD z d2 := by
          unfold onStr
          rw [e1, ev_bind_ok]
          dsimp only
          rw [q, ev_bind_ok]
        obtain ⟨v, r, rfl, rv, r0⟩ := rl.inv
        rw [r0.inv0]
        cases d2 with
        | str y =>
          rw [rep_str] at rv
          subst rv
          unfold splitD at k2
          dsimp only at k2
          by_cases hz : (!(y.length == 0) && lenOk z.length && lenOk (Txt.split z y).length) = true
          · have hz' := hz
            simp only [Bool.and_eq_true, Bool.not_eq_true'] at hz'
            refine ⟨z, y, rfl, rfl, hz'.1.1, of_decide_eq_true hz'.1.2, lenOk_line hz'.2, fun l hl => ⟨_, _, ?_, (x1.trans x2).trans (.new x2.gh hl _), rep_lst.mpr ⟨l, _, rfl, .of upd_same, RepL.of_strs _⟩⟩⟩
            rw [eo]
            exact if_pos hz
          · rw [if_neg hz] at k2; exact k2.elim
        | _ => exact k2.elim
  | _ => exact k1.elim
end
end L2
set_option linter.all false
set_option maxRecDepth 100000
namespace TX
open PySem PySem.Builtin PySem.Builtin.Str PySem.StrLaws
theorem cut {c : Nat} : ∀ {x y a b : List Nat}, c ∉ x → c ∉ y → x ++ c :: a = y ++ c :: b → x = y ∧ a = b
  | [], [], a, b, _, _, h => by simpa using h
  | [], d :: y, a, b, _, hy, h => by
    simp only [List.nil_append, List.cons_append, List.cons.injEq] at h
    exact absurd (h.1 ▸ List.mem_cons_self) hy
  | d :: x, [], a, b, hx, _, h => by
    simp only [List.nil_append, List.cons_append, List.cons.injEq] at h
    exact absurd (h.1 ▸ List.mem_cons_self) hx
  | d :: x, e :: y, a, b, hx, hy, h => by
    simp only [List.cons_append, List.cons.injEq] at h
    obtain ⟨rfl, h⟩ := h
    obtain ⟨rfl, rfl⟩ := cut (fun z => hx (List.mem_cons_of_mem _ z)) (fun z => hy (List.mem_cons_of_mem _ z)) h
    exact ⟨rfl, rfl⟩
theorem cps_ext {a b : Str} (h : a.cps.toList = b.cps.toList) : a = b := Str.ext' (Array.toList_inj.mp h)
theorem cps_cat (a b : Str) : (a ++ b).cps.toList = a.cps.toList ++ b.cps.toList := by rw [Str.cps_append, Array.toList_append]
theorem join_cons2 (sep x y : Str) (r : List Str) : (Str.join sep (x :: y :: r)).cps.toList = x.cps.toList ++ (sep.cps.toList ++ (Str.join sep (y :: r)).cps.toList) := by
  show (x ++ sep ++ Str.join sep (y :: r)).cps.toList = _
  rw [cps_cat, cps_cat, List.append_assoc]
theorem join_one (sep x : Str) : Str.join sep [x] = x := rfl
theorem join_inj {c : Nat} : ∀ {ps qs : List Str}, ps ≠ [] → qs ≠ [] → (∀ p ∈ ps, c ∉ p.cps.toList) → (∀ p ∈ qs, c ∉ p.cps.toList) → Str.join ⟨#[c]⟩ ps = Str.join ⟨#[c]⟩ qs → ps = qs
  | [], _, h, _, _, _, _ => absurd rfl h
  | _ :: _, [], _, h, _, _, _ => absurd rfl h
  | [x], [y], _, _, _, _, h => by rw [join_one, join_one] at h; rw [h]
  | [x], y :: z :: r, _, _, hx, _, h => by
    have h' := congrArg (fun s : Str => s.cps.toList) h
    simp only [join_one, join_cons2] at h'
    have : c ∈ x.cps.toList := by rw [h']; simp
    exact absurd this (hx x List.mem_cons_self)
  | y :: z :: r, [x], _, _, _, hx, h => by
    have h' := congrArg (fun s : Str => s.cps.toList) h
    simp only [join_one, join_cons2] at h'
    have : c ∈ x.cps.toList := by rw [← h']; simp
    exact absurd this (hx x List.mem_cons_self)
  | x :: x2 :: r, y :: y2 :: t, _, _, hx, hy, h => by
    have h' := congrArg (fun s : Str => s.cps.toList) h
    simp only [join_cons2] at h'
    have h2 : x.cps.toList ++ c :: (Str.join ⟨#[c]⟩ (x2 :: r)).cps.toList = y.cps.toList ++ c :: (Str.join ⟨#[c]⟩ (y2 :: t)).cps.toList := h'
    obtain ⟨e1, e2⟩ := cut (hx x List.mem_cons_self) (hy y List.mem_cons_self) h2
    have e3 := join_inj (ps := x2 :: r) (qs := y2 :: t) (by simp) (by simp) (fun p hp => hx p (List.mem_cons_of_mem _ hp)) (fun p hp => hy p (List.mem_cons_of_mem _ hp)) (cps_ext e2)
    rw [cps_ext e1, e3]
theorem split_ne (x y : Str) : Txt.split x y ≠ [] := by
  unfold Txt.split
  split
  · simp
  · split
    · simp
    · rw [partsBetween_eq]
      obtain ⟨p, r, e⟩ := partsFrom_ne x y.length 0 (occurrences x y 0 x.length (x.length + 1))
      rw [e]
      simp
theorem split_of {c : Nat} {ps : List Str} (h : ps ≠ []) (hf : ∀ p ∈ ps, c ∉ p.cps.toList) : Txt.split (Str.join ⟨#[c]⟩ ps) ⟨#[c]⟩ = ps :=
  join_inj (split_ne _ _) h (split_free _ c) hf (join_split _ _)
theorem kind_ge (x : Str) : 1 ≤ PySem.Builtin.Str.strKind x := by
  unfold PySem.Builtin.Str.strKind
  split
  · exact Nat.le_refl _
  · split <;> decide
theorem join_count {c : Nat} {sep : Str} : ∀ {qs : List Str}, qs ≠ [] → (qs.map fun q => q.cps.toList.count c).sum + (qs.length - 1) * sep.cps.toList.count c = (Str.join sep qs).cps.toList.count c
  | [], h => absurd rfl h
  | [x], _ => by simp [join_one]
  | x :: y :: r, _ => by
    have ih := join_count (c := c) (sep := sep) (qs := y :: r) (by simp)
    rw [join_cons2, List.count_append, List.count_append, ← ih]
    simp only [List.map_cons, List.sum_cons, List.length_cons, Nat.add_sub_cancel]
    rw [Nat.add_mul]
    omega
theorem split_word {w : Str} {mid : List Nat} {c : Nat} {a b : Str} (hw : w.cps.toList = c :: (mid ++ [c])) (hm : c ∉ mid) (hk : PySem.Builtin.Str.strKind w = 1) (ha : c ∉ a.cps.toList) (hb : c ∉ b.cps.toList) : Txt.split (a ++ w ++ b) w = [a, b] := by
  have cw : w.cps.toList.count c = 2 := by
    rw [hw]
    simp [List.count_eq_zero_of_not_mem hm]
  have cx : (a ++ w ++ b).cps.toList.count c = 2 := by
    rw [cps_cat, cps_cat, List.count_append, List.count_append, List.count_eq_zero_of_not_mem ha, List.count_eq_zero_of_not_mem hb, cw]
  have hj := join_split (a ++ w ++ b) w
  have hc := join_count (c := c) (sep := w) (split_ne (a ++ w ++ b) w)
  rw [hj, cx, cw] at hc
  have hlen : w.length = w.cps.toList.length := by simp [Str.length]
  have hat : At (a ++ w ++ b) w (a ++ w ++ b).length a.length := by
    refine ⟨by rw [Str.length_append, Str.length_append]; omega, ?_⟩
    rw [subAt_eq, beq_iff_eq, cps_cat, cps_cat]
    have e1 : a.length = a.cps.toList.length := by simp [Str.length]
    rw [e1, hlen, List.append_assoc, List.drop_left, List.take_left]
  have two : 2 ≤ (Txt.split (a ++ w ++ b) w).length := by
    obtain ⟨f, hG, hn⟩ := occ_tight (a ++ w ++ b) w (by rw [hlen, hw]; simp)
    have ne : occurrences (a ++ w ++ b) w 0 (a ++ w ++ b).length ((a ++ w ++ b).length + 1) ≠ [] := fun e0 => by
      rw [e0] at hG
      have ef : f = 0 := hG
      subst ef
      exact hn a.length (Nat.zero_le _) hat
    unfold Txt.split
    rw [if_neg, if_neg]
    · rw [partsBetween_eq]
      cases q : occurrences (a ++ w ++ b) w 0 (a ++ w ++ b).length ((a ++ w ++ b).length + 1) with
      | nil => exact absurd q ne
      | cons d r =>
        unfold partsFrom
        obtain ⟨p, t, e⟩ := partsFrom_ne (a ++ w ++ b) w.length (d + w.length) r
        rw [e]
        simp
    · intro z
      exact ne (List.isEmpty_iff.mp z)
    · rw [Bool.or_eq_true, decide_eq_true_eq, decide_eq_true_eq, hk]
      have := kind_ge (a ++ w ++ b)
      have h2 := hat.1
      omega
  generalize Txt.split (a ++ w ++ b) w = qs at hj hc two
  cases qs with
  | nil => simp at two
  | cons p qs =>
    cases qs with
    | nil => simp at two
    | cons q qs =>
      cases qs with
      | cons r t => 
        simp only [List.length_cons] at hc
        omega
      | nil =>
        simp only [List.map_cons, List.map_nil, List.sum_cons, List.sum_nil, List.length_cons, List.length_nil] at hc
        have hp : c ∉ p.cps.toList := List.count_eq_zero.mp (by omega)
        have h' := congrArg (fun s : Str => s.cps.toList) hj
        simp only [join_cons2, join_one, cps_cat, hw, List.append_assoc, List.cons_append, List.nil_append] at h'
        obtain ⟨e1, e2⟩ := cut hp ha h'
        obtain ⟨_, e3⟩ := cut hm hm e2
        rw [cps_ext e1, cps_ext e3]
end TX
set_option linter.all false
set_option maxRecDepth 100000
namespace TX
open PySem PySem.Builtin PySem.Builtin.Str PySem.StrLaws
abbrev nS (n : Int) : Str := (toString n : String)
def isFig (c : Nat) : Bool := decide (48 ≤ c) && decide (c ≤ 57)
def numOf (w : Str) : Option Int := match w.cps.toList with
  | [c] => if isFig c = true then some ((c : Int) - 48) else none
  | [a, b] => if (isFig a && isFig b && !(a == 48)) = true then some (((a : Int) - 48) * 10 + ((b : Int) - 48)) else none
  | _ => none
theorem fig_at {c : Nat} (h : isFig c = true) : ∃ k : Fin 10, c = 48 + k.val := by
  unfold isFig at h
  rw [Bool.and_eq_true, decide_eq_true_eq, decide_eq_true_eq] at h
  exact ⟨⟨c - 48, by omega⟩, by show c = 48 + (c - 48); omega⟩
theorem one_fig : ∀ k : Fin 10, (⟨#[48 + k.val]⟩ : Str) = nS (k.val : Int) := by decide +kernel
theorem two_figs : ∀ i j : Fin 10, i ≠ 0 → (⟨#[48 + i.val, 48 + j.val]⟩ : Str) = nS ((i.val : Int) * 10 + (j.val : Int)) := by decide +kernel
theorem num_back : ∀ k : Fin 100, numOf (nS (k.val : Int)) = some (k.val : Int) := by decide +kernel
theorem num_signs : ∀ k : Fin 100, 32 ∉ (nS (k.val : Int)).cps.toList ∧ 45 ∉ (nS (k.val : Int)).cps.toList ∧ (nS (k.val : Int)).length ≤ 2 := by decide +kernel
theorem at100 {n : Int} (h0 : 0 ≤ n) (h1 : n < 100) : ∃ k : Fin 100, n = (k.val : Int) := ⟨⟨n.toNat, by omega⟩, by show n = (n.toNat : Int); omega⟩
theorem num_ok {n : Int} (h0 : 0 ≤ n) (h1 : n < 100) : numOf (nS n) = some n := by
  obtain ⟨k, rfl⟩ := at100 h0 h1
  exact num_back k
theorem num_free {n : Int} (h0 : 0 ≤ n) (h1 : n < 100) : 32 ∉ (nS n).cps.toList ∧ 45 ∉ (nS n).cps.toList ∧ (nS n).length ≤ 2 := by
  obtain ⟨k, rfl⟩ := at100 h0 h1
  exact num_signs k
theorem num_inv {w : Str} {n : Int} (h : numOf w = some n) : w = nS n ∧ 0 ≤ n ∧ n < 100 := by
  unfold numOf at h
  split at h
  · rename_i c e
    split at h
    · rename_i hc
      obtain ⟨k, rfl⟩ := fig_at hc
      cases h
      have hk := k.isLt
      have e2 : ((48 + k.val : Nat) : Int) - 48 = (k.val : Int) := by omega
      rw [e2, ← one_fig k]
      exact ⟨cps_ext (by rw [e]), by omega, by omega⟩
    · cases h
  · rename_i a b e
    split at h
    · rename_i hc
      rw [Bool.and_eq_true, Bool.and_eq_true, Bool.not_eq_true', beq_eq_false_iff_ne] at hc
      obtain ⟨⟨h1, h2⟩, h3⟩ := hc
      obtain ⟨i, rfl⟩ := fig_at h1
      obtain ⟨j, rfl⟩ := fig_at h2
      cases h
      have hi := i.isLt
      have hj := j.isLt
      have e2 : (((48 + i.val : Nat) : Int) - 48) * 10 + (((48 + j.val : Nat) : Int) - 48) = (i.val : Int) * 10 + (j.val : Int) := by omega
      have hi0 : i ≠ 0 := fun z => h3 (by rw [z]; rfl)
      rw [e2, ← two_figs i j hi0]
      exact ⟨cps_ext (by rw [e]), by omega, by omega⟩
    · cases h
  · cases h
theorem nS_inj {m n : Int} (h0 : 0 ≤ m) (h1 : m < 100) (h2 : 0 ≤ n) (h3 : n < 100) (h : nS m = nS n) : m = n := by
  have a := num_ok h0 h1
  rw [h, num_ok h2 h3] at a
  cases a
  rfl
def findN (lo : Int) (n : Nat) (w : Str) : Option Int := ((List.range n).map fun (i : Nat) => lo + (i : Int)).find? fun k => decide (w = nS k)
theorem find_inv {lo : Int} {n : Nat} {w : Str} {k : Int} (h : findN lo n w = some k) : w = nS k ∧ lo ≤ k ∧ k < lo + (n : Int) := by
  unfold findN at h
  have h1 := List.find?_some h
  have h2 := List.mem_of_find?_eq_some h
  rw [List.mem_map] at h2
  obtain ⟨i, hi, rfl⟩ := h2
  rw [List.mem_range] at hi
  exact ⟨of_decide_eq_true h1, by omega, by omega⟩
theorem find_ok {lo : Int} {n : Nat} {k : Int} (h0 : 0 ≤ lo) (h1 : lo + (n : Int) ≤ 100) (h2 : lo ≤ k) (h3 : k < lo + (n : Int)) : findN lo n (nS k) = some k := by
  cases q : findN lo n (nS k) with
  | none =>
    unfold findN at q
    rw [List.find?_eq_none] at q
    exact absurd (decide_eq_true rfl) (q k (by rw [List.mem_map]; exact ⟨(k - lo).toNat, by rw [List.mem_range]; omega, by omega⟩))
  | some m =>
    obtain ⟨e, a, b⟩ := find_inv q
    rw [nS_inj (by omega) (by omega) (by omega) (by omega) e]
def allO (f : Str → Option Int) : List Str → Option (List Int)
  | [] => some []
  | x :: r => match f x, allO f r with
    | some a, some b => some (a :: b)
    | _, _ => none
theorem allO_inv {f : Str → Option Int} {P : Int → Prop} (hf : ∀ w n, f w = some n → w = nS n ∧ P n) : ∀ {ws : List Str} {ns : List Int}, allO f ws = some ns → ws = ns.map nS ∧ ∀ n ∈ ns, P n
  | [], ns, h => by cases h; exact ⟨rfl, fun _ z => by cases z⟩
  | x :: r, ns, h => by
    unfold allO at h
    split at h
    · rename_i a b e1 e2
      cases h
      obtain ⟨h1, h2⟩ := hf x a e1
      obtain ⟨h3, h4⟩ := allO_inv hf e2
      refine ⟨by rw [List.map_cons, ← h1, ← h3], fun n hn => ?_⟩
      rcases List.mem_cons.mp hn with rfl | hn
      · exact h2
      · exact h4 n hn
    · cases h
theorem allO_ok {f : Str → Option Int} : ∀ {ns : List Int}, (∀ n ∈ ns, f (nS n) = some n) → allO f (ns.map nS) = some ns
  | [], _ => rfl
  | n :: ns, h => by
    rw [List.map_cons]
    unfold allO
    rw [h n List.mem_cons_self, allO_ok fun m hm => h m (List.mem_cons_of_mem _ hm)]
def sB : Str := " "
def sD : Str := "-"
def sC : Str := "clear"
def sW : Str := " clear "
theorem sB_is : sB = ⟨#[32]⟩ := by decide +kernel
theorem sD_is : sD = ⟨#[45]⟩ := by decide +kernel
theorem sC_is : sC.cps.toList = [99, 108, 101, 97, 114] := by decide +kernel
theorem sW_is : sW.cps.toList = 32 :: ([99, 108, 101, 97, 114] ++ [32]) := by decide +kernel
theorem sW_kind : PySem.Builtin.Str.strKind sW = 1 := by decide +kernel
def runsT (rs : List Int) : Str := Str.join sD (rs.map nS)
def text (rs : List Int) (g : Int) : Str := runsT rs ++ sW ++ nS g
structure Good (rs : List Int) (g : Int) : Prop where
  ne : rs ≠ []
  few : rs.length ≤ 5
  runs : ∀ n ∈ rs, 1 ≤ n ∧ n ≤ 20
  g0 : 0 ≤ g
  g5 : g ≤ 5
theorem join_free {c : Nat} {sep : Str} (hs : c ∉ sep.cps.toList) : ∀ {ps : List Str}, (∀ p ∈ ps, c ∉ p.cps.toList) → c ∉ (Str.join sep ps).cps.toList
  | [], _ => by show c ∉ (#[] : Array Nat).toList; simp
  | [x], h => h x List.mem_cons_self
  | x :: y :: r, h => by
    rw [join_cons2, List.mem_append, List.mem_append]
    rintro (z | z | z)
    · exact h x List.mem_cons_self z
    · exact hs z
    · exact join_free hs (fun p hp => h p (List.mem_cons_of_mem _ hp)) z
theorem runsT_free {rs : List Int} (h : ∀ n ∈ rs, 0 ≤ n ∧ n < 100) : 32 ∉ (runsT rs).cps.toList := by
  refine join_free (by rw [sD_is]; decide) fun p hp => ?_
  obtain ⟨n, hn, rfl⟩ := List.mem_map.mp hp
  exact (num_free (h n hn).1 (h n hn).2).1
theorem runsT_split {rs : List Int} (hne : rs ≠ []) (h : ∀ n ∈ rs, 0 ≤ n ∧ n < 100) : Txt.split (runsT rs) sD = rs.map nS := by
  unfold runsT
  rw [sD_is]
  refine split_of (by simpa using hne) fun p hp => ?_
  obtain ⟨n, hn, rfl⟩ := List.mem_map.mp hp
  exact (num_free (h n hn).1 (h n hn).2).2.1
theorem text_words (rs : List Int) (g : Int) : text rs g = Str.join sB [runsT rs, sC, nS g] := by
  refine cps_ext ?_
  unfold text
  rw [join_cons2, join_cons2, join_one, cps_cat, cps_cat, sW_is, sC_is, sB_is]
  simp
def runOk (n : Int) : Bool := decide (1 ≤ n) && decide (n ≤ 20)
def dueOf (z : Str) : Option (List Int × Int) := match Txt.split z sB with
  | [a, b, c] => if b = sC then (match allO numOf (Txt.split a sD), numOf c with
    | some rs, some g => if (decide (g ≤ 5) && decide (rs.length ≤ 5) && rs.all runOk) = true then some (rs, g) else none
    | _, _ => none) else none
  | _ => none
def readOf (z : Str) : Option (List Int × Int) := match Txt.split z sW with
  | [a, b] => if (Txt.split a sD).length ≤ 5 then (match allO (findN 1 20) (Txt.split a sD), findN 0 6 b with
    | some rs, some g => some (rs, g)
    | _, _ => none) else none
  | _ => none
theorem due_inv {z : Str} {rs : List Int} {g : Int} (h : dueOf z = some (rs, g)) : z = text rs g ∧ Good rs g := by
  unfold dueOf at h
  split at h
  · rename_i a b c e
    split at h
    · rename_i hb
      split at h
      · rename_i rs' g' e1 e2
        split at h
        · rename_i hc
          cases h
          simp only [Bool.and_eq_true, decide_eq_true_eq, List.all_eq_true] at hc
          obtain ⟨⟨h5, hl⟩, hr⟩ := hc
          obtain ⟨eg, g0, _⟩ := num_inv e2
          obtain ⟨ea, _⟩ := allO_inv (P := fun _ => True) (fun w n hw => ⟨(num_inv hw).1, trivial⟩) e1
          have hz := join_split z sB
          rw [e, hb, eg] at hz
          have ha := join_split a sD
          rw [ea] at ha
          refine ⟨?_, ?_, hl, fun n hn => ?_, g0, h5⟩
          · rw [text_words, ← hz]
            show Str.join sB [a, sC, nS g] = Str.join sB [runsT rs, sC, nS g]
            rw [← ha]
            rfl
          · intro z
            rw [z] at ea
            exact split_ne a sD ea
          · have := hr n hn
            unfold runOk at this
            simpa using this
        · cases h
      · cases h
    · cases h
  · cases h
theorem due_ok {rs : List Int} {g : Int} (h : Good rs g) : dueOf (text rs g) = some (rs, g) := by
  have h100 : ∀ n ∈ rs, 0 ≤ n ∧ n < 100 := fun n hn => ⟨by have := (h.runs n hn).1; omega, by have := (h.runs n hn).2; omega⟩
  have e : Txt.split (text rs g) sB = [runsT rs, sC, nS g] := by
    rw [text_words, sB_is]
    refine split_of (by simp) fun p hp => ?_
    simp only [List.mem_cons, List.not_mem_nil, or_false] at hp
    rcases hp with rfl | rfl | rfl
    · exact runsT_free h100
    · rw [sC_is]; decide
    · exact (num_free h.g0 (by have := h.g5; omega)).1
  unfold dueOf
  rw [e]
  dsimp only
  rw [if_pos rfl, runsT_split h.ne h100, allO_ok fun n hn => num_ok (h100 n hn).1 (h100 n hn).2, num_ok h.g0 (by have := h.g5; omega)]
  dsimp only
  rw [if_pos]
  simp only [Bool.and_eq_true, decide_eq_true_eq, List.all_eq_true]
  refine ⟨⟨h.g5, h.few⟩, fun n hn => ?_⟩
  unfold runOk
  simpa using h.runs n hn
theorem read_inv {z : Str} {rs : List Int} {g : Int} (h : readOf z = some (rs, g)) : z = text rs g ∧ Good rs g := by
  unfold readOf at h
  split at h
  · rename_i a b e
    split at h
    · rename_i hl
      split at h
      · rename_i rs' g' e1 e2
        cases h
        obtain ⟨eg, g0, g6⟩ := find_inv e2
        obtain ⟨ea, hr⟩ := allO_inv (P := fun n => 1 ≤ n ∧ n ≤ 20) (fun w n hw => ⟨(find_inv hw).1, (find_inv hw).2.1, by have := (find_inv hw).2.2; omega⟩) e1
        have hz := join_split z sW
        rw [e, eg] at hz
        have ha := join_split a sD
        rw [ea] at ha hl
        refine ⟨?_, fun z => ?_, by simpa using hl, hr, g0, by omega⟩
        · rw [← hz]
          show a ++ sW ++ nS g = runsT rs ++ sW ++ nS g
          rw [← ha]
          rfl
        · rw [z] at ea
          exact split_ne a sD ea
      · cases h
    · cases h
  · cases h
theorem read_ok {rs : List Int} {g : Int} (h : Good rs g) : readOf (text rs g) = some (rs, g) := by
  have h100 : ∀ n ∈ rs, 0 ≤ n ∧ n < 100 := fun n hn => ⟨by have := (h.runs n hn).1; omega, by have := (h.runs n hn).2; omega⟩
  have e : Txt.split (text rs g) sW = [runsT rs, nS g] := split_word sW_is (by decide) sW_kind (runsT_free h100) (num_free h.g0 (by have := h.g5; omega)).1
  unfold readOf
  rw [e]
  dsimp only
  rw [runsT_split h.ne h100, if_pos (by simpa using h.few), allO_ok fun n hn => find_ok (by decide) (by decide) (h.runs n hn).1 (by have := (h.runs n hn).2; omega), find_ok (by decide) (by decide) h.g0 (by have := h.g5; omega)]
theorem due_read (z : Str) : dueOf z = readOf z := by
  cases q : dueOf z with
  | some p =>
    obtain ⟨e, g⟩ := due_inv (rs := p.1) (g := p.2) q
    rw [e, read_ok g]
  | none =>
    cases r : readOf z with
    | none => rfl
    | some p =>
      obtain ⟨e, g⟩ := read_inv (rs := p.1) (g := p.2) r
      rw [e, due_ok g] at q
      cases q
end TX
set_option Elab.async false
set_option linter.all false
set_option maxRecDepth 100000
namespace L2
open PySem PySem.Spec PyProof.Rows
def CXH (P : Program) (w : World) (L : Addr) (ch : List Addr) : CXT := fun outer H s E ev t =>
  ∃ (e : Addr) (cls a0 : Value) (B : Heap) (H' : Hp), ev = .ref e ∧ t.os = s.os ∧ AllBare t.gens ∧
    Un (frs outer) ch H H' s.heap t.heap ∧ HOk P w H' t.heap ∧ Heap.HeldW B outer e cls a0 L t.heap ∧
    (∀ b o, t.heap.get? b = some o → b ∉ frs outer → ((∃ u, H' b = some u) ∨ (b ∉ ch ∧ ∃ o', s.heap.get? b = some o')) → B.get? b = some o) ∧
    H' e = none ∧ (e ∉ ch → s.heap.get? e = none) ∧ E cls none H'
def PassesH (X : Cx) (E : XK) : Prop := ∀ (pins : List (Addr × Obj)) (σ : St) (H : Hp) (s : Shared) (ev : Value) (t : Shared) (ch : List Addr), Inv X pins σ H s → (∀ b ∈ ch, FpOk X pins H b) → CXH X.prog X.w X.env.locals ch X.stack H s E ev t → X.xe ev t
theorem held_leaves {M : Model} {A : Around} {Ex : Value → Shared → Prop} {s : Shared} {B : Heap} {env : Env} {outer : List Env} {L e : Addr} {cls a0 : Value} {Q : Unit → Shared → Prop} (hf : env.frame = some L)
    (hh : Heap.HeldW B (env :: outer) e cls a0 L s.heap) (hQ : ∀ g, Heap.FlyingW B outer e cls a0 g → s.heap.UpToSlots g → Q () { s with heap := g }) : wpAny M A (leaving env (.ref e)) Q Ex s := by
  unfold leaving
  refine wpAny_bind (wpAny_noteFrame_againW hf hh.2.2.2 ?_)
  refine wpAny_landsW hh fun g fl up => ?_
  obtain ⟨k1, k2, ⟨_, _, k3⟩, k4⟩ := fl
  exact hQ g ⟨k1, k2, k3, k4⟩ up
theorem passesH_cx {P : Program} {w : World} {K : PySem.W.Frag} {mg : Str → Option Value} {base : Heap} {N : List Str} {qual : Str} {scope : Scope} {f : Addr} {cd : Value} {A : Around} {outer : List Env} {s₀ : Shared} {H₀ : Hp} {E E' : XK}
    (he : ∀ c a H, E' c a H → E c a H) : PassesH (cxOf (CXF P w) P w K mg base N qual scope f cd A outer s₀ H₀ E) E' := by
  intro pins σ H s ev s' ch I hch h
  obtain ⟨e, cls, a0, B, H', rfl, os, bare, un, hok, fl, cov, hn, hs, q⟩ := h
  have hlt : ∀ {b : Addr} {o : Obj}, s₀.heap.get? b = some o → b ≠ s₀.heap.objs.size := fun e => Nat.ne_of_lt (Heap.lt_size e)
  have frs_eq : frs (envOfC qual scope s₀.heap.objs.size f cd :: outer) = s₀.heap.objs.size :: frs outer := rfl
  have nch : ∀ {b : Addr} {o : Obj}, s₀.heap.get? b = some o → b ∉ ch := fun e z => by
    rcases (hch _ z).2.2.2.1 with y | y
    · exact absurd (show _ ∈ ([] : List Addr) from y) (by simp)
    · exact absurd (Nat.lt_of_lt_of_le (Heap.lt_size e) y) (Nat.lt_irrefl _)
  have hfr : ∀ b ∈ frs (envOfC qual scope s₀.heap.objs.size f cd :: outer), ∀ o, s'.heap.get? b = some o → ∀ vs, o.data ≠ .fields vs := fun b hb o eo => by
    obtain ⟨_, o', e', h⟩ := fl.2.2.1.mem hb
    rw [eo] at e'; cases e'
    exact h
  have Ib := I.base
  have nex : ∀ b : Addr, b ∉ (cxOf (CXF P w) P w K mg base N qual scope f cd A outer s₀ H₀ E).ex := fun b z => absurd (show b ∈ ([] : List Addr) from z) (by simp)
  have lch : s₀.heap.objs.size ∉ ch := fun z => (hch _ z).2.1 rfl
  have nL : H' s₀.heap.objs.size = none := by
    obtain ⟨m, ⟨o, _, _, ho, _⟩, _⟩ := I.loc
    exact un.free _ o ho I.free lch
  show wpAny _ _ (leaving _ (.ref e)) _ _ s'
  refine held_leaves (env := envOfC qual scope s₀.heap.objs.size f cd) (B := B) (L := s₀.heap.objs.size) (cls := cls) (a0 := a0) (outer := outer) rfl fl fun h2 fl2 up => ?_
  have keep2 : ∀ b o, s'.heap.get? b = some o → b ∉ frs outer → b ≠ s₀.heap.objs.size → ((∃ u, H' b = some u) ∨ (b ∉ ch ∧ ∃ o', s.heap.get? b = some o')) → h2.get? b = some o := fun b o e1 nb nl hh =>
    fl2.1 b o (cov b o e1 (by show b ∉ s₀.heap.objs.size :: frs outer; simp [nl, nb]) hh)
  have slot2 : ∀ b o, s'.heap.get? b = some o → b ∈ frs outer → ∃ sl, h2.get? b = some { o with slots := sl } := fun b o e1 hb =>
    up b o e1 (hfr b (by rw [frs_eq]; exact List.mem_cons_of_mem _ hb) o e1)
  have thru : ∀ b o, s₀.heap.get? b = some o → ∃ o1, s.heap.get? b = some o1 := fun b o e0 => Ib.there b o e0 (nex b)
  have hUn : Un (frs outer) [] H₀ H' s₀.heap h2 := {
    keep := fun b o e0 n hb _ => by
      have e1 := Ib.keep b o e0 n hb (nex b)
      have n1 := Ib.free b o e0 n (nex b)
      have hb2 : b ∉ frs (envOfC qual scope s₀.heap.objs.size f cd :: outer) := by rw [frs_eq]; simp [hlt e0, hb]
      exact keep2 b o (un.keep b o e1 n1 hb2 (nch e0)) hb (hlt e0) (.inr ⟨nch e0, o, e1⟩)
    slot := fun b o e0 n hb _ => by
      obtain ⟨s1, e1⟩ := Ib.slot b o e0 n hb (nex b)
      have n1 := Ib.free b o e0 n (nex b)
      obtain ⟨s2, e2⟩ := un.any e1 n1 (nch e0)
      obtain ⟨s3, e3⟩ := slot2 b _ e2 hb
      exact ⟨s3, e3⟩
    free := fun b o e0 n _ => by
      obtain ⟨o1, e1⟩ := thru b o e0
      exact un.free b o1 e1 (Ib.free b o e0 n (nex b)) (nch e0)
    there := fun b o e0 _ => by
      obtain ⟨o1, e1⟩ := thru b o e0
      obtain ⟨o2, e2⟩ := un.there b o1 e1 (nch e0)
      by_cases hb : b ∈ frs outer
      · obtain ⟨s3, e3⟩ := slot2 b o2 e2 hb
        exact ⟨_, e3⟩
      · exact ⟨o2, keep2 b o2 e2 hb (hlt e0) (.inr ⟨nch e0, o1, e1⟩)⟩
    tups := fun b xs q => un.tups b xs (Ib.tups b xs q)
    frzs := fun b o u q => un.frzs b o u (Ib.frzs b o u q)
    tbls := fun b ps q => by
      obtain ⟨m1, e1⟩ := Ib.tbls b ps q
      obtain ⟨m2, e2⟩ := un.tbls b _ e1
      exact ⟨m1 ++ m2, by rw [e2, Array.append_assoc]⟩ }
  have frf' : ∀ b u, H' b = some u → b ∉ frs outer ∧ b ≠ s₀.heap.objs.size := fun b u e1 => by
    refine ⟨fun hb => ?_, fun z => by rw [z, nL] at e1; cases e1⟩
    have n0 : H b = none := I.stkFree b (by show b ∈ frs (envOfC qual scope s₀.heap.objs.size f cd :: outer); rw [frs_eq]; exact List.mem_cons_of_mem _ hb)
    obtain ⟨_, o, eo, _⟩ := I.stack.mem (show b ∈ frs (envOfC qual scope s₀.heap.objs.size f cd :: outer) by rw [frs_eq]; exact List.mem_cons_of_mem _ hb)
    have nc : b ∉ ch := fun z => (hch b z).2.2.1 hb
    rw [un.free b o eo n0 nc] at e1; cases e1
  have hok2 : HOk P w H' h2 := hok.onto fun b o u hb eo => keep2 b o eo (frf' b u hb).1 (frf' b u hb).2 (.inl ⟨u, hb⟩)
  have cov2 : ∀ b o, h2.get? b = some o → b ∉ frs outer → ((∃ u, H' b = some u) ∨ ∃ o', s₀.heap.get? b = some o') → B.get? b = some o := fun b o e2 hb hh => by
    rcases hh with ⟨u, hu⟩ | ⟨o0, e0⟩
    · obtain ⟨o1, e1⟩ := (hok b u hu).at
      have z := keep2 b o1 e1 (frf' b u hu).1 (frf' b u hu).2 (.inl ⟨u, hu⟩)
      rw [e2] at z; cases z
      exact cov b o e1 (by show b ∉ s₀.heap.objs.size :: frs outer; simp [hb, (frf' b u hu).2]) (.inl ⟨u, hu⟩)
    · obtain ⟨o1, e1⟩ := thru b o0 e0
      obtain ⟨o2, e3⟩ := un.there b o1 e1 (nch e0)
      have z := keep2 b o2 e3 hb (hlt e0) (.inr ⟨nch e0, o1, e1⟩)
      rw [e2] at z; cases z
      exact cov b o e3 (by show b ∉ s₀.heap.objs.size :: frs outer; simp [hb, hlt e0]) (.inr ⟨nch e0, o1, e1⟩)
  refine ⟨e, cls, a0, B, H', rfl, os.trans I.os, bare, hUn, hok2, fl2, cov2, hn, ?_, he _ _ _ q⟩
  cases z : s₀.heap.get? e with
  | none => rfl
  | some o =>
    obtain ⟨o1, e1⟩ := thru e o z
    rw [hs (nch z)] at e1; cases e1
theorem funFrames_but {h g B B' : Heap} {C : Addr} (hB : ∀ b o, B'.get? b = some o → B.get? b = some o) (hg : ∀ b, b ≠ C → g.get? b = h.get? b) : ∀ {l : List Env}, C ∉ frs l → h.FunFrames B l → g.FunFrames B' l
  | [], _, _ => trivial
  | env :: r, hC, ⟨k, ⟨L, o, hf, hn, ho, hd⟩, t⟩ => by
    have hL : L ≠ C := fun z => hC (by subst z; unfold frs; rw [List.filterMap_cons, hf]; exact List.mem_cons_self)
    have hn' : B'.get? L = none := by
      cases q : B'.get? L with
      | none => rfl
      | some u => rw [hB L u q] at hn; cases hn
    exact ⟨k, ⟨L, o, hf, hn', (hg L hL).trans ho, hd⟩, funFrames_but hB hg (fun z => hC (by unfold frs at z ⊢; rw [List.filterMap_cons, hf]; exact List.mem_cons_of_mem _ z)) t⟩
theorem setFlight_held {M : Model} {A : Around} {Ex : Value → Shared → Prop} {s : Shared} {B : Heap} {l : List Env} {e L : Addr} {cls a0 : Value} {Q : Unit → Shared → Prop} (R : Heap.HeldW B l e cls a0 L s.heap)
    (h : ∀ g, Heap.HeldW B l e cls a0 L g → s.heap.UpToSlots g → Q () { s with heap := g }) : wpAny M A (setFlight (.ref e) (some L)) Q Ex s := by
  obtain ⟨hkb, hen, hl, oe, vs, T, oT, ts, he, hcls, hd, h1, hnT, hTe, hT, hdT, h3⟩ := R
  have lt3 : 3 < ts.size := (Array.getElem?_eq_some_iff.mp h3).1
  have stay : ∀ b, b ≠ T → (s.heap.update T (Obj.mapFields (·.setIfInBounds 3 ((some L).elim Value.none fun f => rawInt f)))).get? b = s.heap.get? b := fun b hb => Heap.get?_update_other _ _ (Ne.symm hb)
  have notT : ∀ b o, s.heap.get? b = some o → (∀ vs, o.data ≠ .fields vs) → b ≠ T := fun b o hb hnf z => by
    rw [z, hT] at hb; cases hb; exact hnf ts hdT
  unfold setFlight
  refine wpAny_bind (wpAny_field he hd h1 ?_)
  rw [if_pos (show (Value.ref T != Value.none) = true from by simp)]
  refine wpAny_setField hT hdT lt3 (h _ ⟨fun b o hbo => (stay b fun z => by rw [z, hnT] at hbo; cases hbo).trans (hkb b o hbo), hen, hl.of_keeps fun b o hb hnf => ⟨o, (stay b (notT b o hb hnf)).trans hb, rfl⟩, ?_⟩ fun b o hb hnf => ⟨o.slots, (stay b (notT b o hb hnf)).trans hb⟩)
  exact ⟨oe, vs, T, _, _, (stay e (Ne.symm hTe)).trans he, hcls, hd, h1, hnT, hTe, Heap.get?_update_self _ hT (Obj.isFreed_of_fields (Obj.data_mapFields hdT _)), Obj.data_mapFields hdT _, by simp [lt3]⟩
def endC (M : Model) (A : Around) (Ex : Value → Shared → Prop) (use : Option (Value → Sem Unit)) (Q : Value → Shared → Prop) (acc : Value) (C : Addr) (fr : Option Addr) (r : Result) (t : Shared) : Prop :=
  match r, use with
  | .ok _, none => ∃ nm, t.heap.Ns C nm ∧ ∀ g, Heap.SameBut C t.heap g → Q acc { t with heap := g }
  | .ok _, some u => wpAny M A (u acc) (fun _ t2 => ∃ nm, t2.heap.Ns C nm ∧ ∀ g, Heap.SameBut C t2.heap g → Q .none { t2 with heap := g }) Ex t
  | .error ev, _ => ∃ nm, t.heap.Ns C nm ∧ ∀ g, Heap.SameBut C t.heap g → ∀ ce : Env, ce.locals = C → ce.frame = fr → wpAny M A (passOn "comprehension.variables-let-go" ev ce : Sem Value) (fun _ _ => False) Ex { t with heap := g }
theorem comprehensionE {M : Model} {A : Around} {Ex : Value → Shared → Prop} {s : Shared} {env : Env} {e : Expr} {scope : Scope} {pos : Pos} {newAcc first : Sem Value} {g : Comprehension} {gs : List Comprehension} {cl : List (Str × Addr)} {use : Option (Value → Sem Unit)} {Q : Value → Shared → Prop}
    (hcl : clausesOf e = g :: gs) (hs : ∀ x, foldedSetIterable g.iter env x = pure x) (hco : closureFor scope env = pure cl) (hk : scope.kind = .function) (hnm : ∀ x ∈ scope.names, x.2 = .local → scope.names.lookup x.1 = some .local)
    (h : wpAny M A first (fun x t1 => wpAny M A (pyIter x) (fun it t2 => wpAny M A newAcc (fun acc t3 => wpAny M A (newFunctionEnv scope env.globals cl [] env.qual none .none (some env)) (fun ce t4 =>
      codeAny M A (.compStart e 0 it acc { ce with scope := relabel scope env }) (endC M A Ex use Q acc ce.locals ce.frame) t4) Ex t3) Ex t2) Ex t1) Ex s) : wpAny M A (comprehension e scope env pos newAcc false first use) Q Ex s := by
  unfold comprehension
  rw [hco, hcl]
  refine wpAny_bind (wpAny_mono h (fun x t1 q1 => wpAny_bind (wpAny_standAt (wpAny_bind (wpAny_of_eq (hs x) (wpAny_bind (wpAny_holding (wpAny_mono q1 (fun it t2 q2 => ?_) fun _ _ z => z))))))) fun _ _ z => z)
  refine wpAny_standIf (wpAny_bind (wpAny_mono q2 (fun acc t3 q3 => wpAny_bind (wpAny_pure (wpAny_bind (wpAny_mono q3 (fun ce t4 q4 => ?_) fun _ _ z => z)))) fun _ _ z => z))
  dsimp only
  have k1 : ∀ x ∈ (scope.names.filter fun x => (x.2 == .local || x.2 == .cell) && x.1 != (".0" : Str)).reverse, x.2 = .local → Env.kindOf { ce with scope := relabel scope env } x.1 = some .local :=
    fun x hx hl => lookup_relabel_local (hnm x (List.mem_filter.mp (List.mem_reverse.mp hx)).1 hl)
  have k2 : ∀ x ∈ (scope.names.filter fun x => (x.2 == .local || x.2 == .cell) && x.1 != (".0" : Str)).reverse.drop 1 ++ (scope.names.filter fun x => (x.2 == .local || x.2 == .cell) && x.1 != (".0" : Str)).reverse.take 1, x.2 = .local → Env.kindOf { ce with scope := relabel scope env } x.1 = some .local := fun x hx hl => by
    rcases List.mem_append.mp hx with z | z
    · exact k1 x (List.mem_of_mem_drop z) hl
    · exact k1 x (List.mem_of_mem_take z) hl
  refine wpAny_holding (wpAny_bind (wpAny_attempt (wpAny_holding (wpAny_run (codeAny_mono q4 fun r t hr => ?_)))))
  cases r with
  | ok f =>
    cases use with
    | none =>
      obtain ⟨nm, hn, hr⟩ := hr
      exact wpAny_bind (wpAny_holding (wpAny_comp_letGo (cenv := { ce with scope := relabel scope env }) hk _ t nm k1 hn fun g m' _ z => wpAny_pure (hr g z)))
    | some u =>
      refine wpAny_bind (wpAny_rule (wpAny_bind (wpAny_holding (wpAny_mono hr (fun _ t2 hr2 => ?_) fun _ _ z => z))))
      obtain ⟨nm, hn, hr2⟩ := hr2
      exact wpAny_bind (wpAny_comp_letGo (cenv := { ce with scope := relabel scope env }) hk _ t2 nm k2 hn fun g m' _ z => wpAny_pure (hr2 g z))
  | error x =>
    have hr3 : ∃ nm, t.heap.Ns ce.locals nm ∧ ∀ g, Heap.SameBut ce.locals t.heap g → ∀ ce' : Env, ce'.locals = ce.locals → ce'.frame = ce.frame → wpAny M A (passOn "comprehension.variables-let-go" x ce' : Sem Value) (fun _ _ => False) Ex { t with heap := g } := by cases use <;> exact hr
    obtain ⟨nm, hn, hr4⟩ := hr3
    exact wpAny_bind (wpAny_holding (wpAny_comp_letGo (cenv := { ce with scope := relabel scope env }) hk _ t nm k1 hn fun g m' _ z => wpAny_mono (hr4 g z _ rfl rfl) (fun _ _ f => f.elim) fun _ _ y => y))
end L2
set_option Elab.async false
set_option linter.all false
set_option maxRecDepth 100000
namespace L2
open PySem PySem.Spec PyProof.Rows
abbrev Cx.compE (X : Cx) (s : Shared) (H : Hp) (scope : Scope) (C : Addr) (N : List Str) (ex : List Addr) (xe : Value → Shared → Prop) : Cx := (X.comp s H scope C N ex).tr xe []
section
variable {X : Cx} {pins : List (Addr × Obj)} {σ : St} {H : Hp} {s : Shared} {scope : Scope} {N : List Str} {caps : List (Option Nat)}
theorem Inv.toE {C : Addr} {ex : List Addr} {xe : Value → Shared → Prop} {pl : List (Addr × Obj)} {τ : St} {H' : Hp} {t : Shared} (I : Inv (X.comp s H scope C N ex) pl τ H' t) : Inv (X.compE s H scope C N ex xe) pl τ H' t :=
  ⟨I.ok.tr xe [], I.os, I.bare, I.base, I.loc, I.cell, I.free, I.freeC, fun p hp => I.pin p hp, I.hok, I.len⟩
theorem Inv.ofE {C : Addr} {ex : List Addr} {xe : Value → Shared → Prop} {pl : List (Addr × Obj)} {τ : St} {H' : Hp} {t : Shared} (ok : (X.comp s H scope C N ex).Ok) (I : Inv (X.compE s H scope C N ex xe) pl τ H' t) : Inv (X.comp s H scope C N ex) pl τ H' t :=
  ⟨ok, I.os, I.bare, I.base, I.loc, I.cell, I.free, I.freeC, fun p hp => I.pin p hp, I.hok, I.len⟩
theorem Un.ontoX {fs ex : List Addr} {H H' : Hp} {h h1 h2 : Heap} (u : Un fs ex H H' h h1)
    (k : ∀ b o, h1.get? b = some o → b ∉ fs → b ∉ ex → (∃ o', h.get? b = some o') → h2.get? b = some o)
    (sl : ∀ b o, h1.get? b = some o → b ∈ fs → b ∉ ex → (∃ o', h.get? b = some o') → ∃ s, h2.get? b = some { o with slots := s }) : Un fs ex H H' h h2 where
  keep := fun b o e n hb hx => k b o (u.keep b o e n hb hx) hb hx ⟨o, e⟩
  slot := fun b o e n hb hx => by
    obtain ⟨s1, e1⟩ := u.slot b o e n hb hx
    obtain ⟨s2, e2⟩ := sl b _ e1 hb hx ⟨o, e⟩
    exact ⟨s2, e2⟩
  free := u.free
  there := fun b o e hx => by
    obtain ⟨o', e'⟩ := u.there b o e hx
    by_cases hb : b ∈ fs
    · obtain ⟨s, z⟩ := sl b o' e' hb hx ⟨o, e⟩
      exact ⟨_, z⟩
    · exact ⟨o', k b o' e' hb hx ⟨o, e⟩⟩
  tups := u.tups
  frzs := u.frzs
  tbls := u.tbls
theorem passC {C : Addr} {fp : List Addr} {E : XK} {RX : Value → Shared → Prop} (hE : PassesH X E) (hst : X.stack = X.env :: X.outer) (hfr : X.env.frame = some X.env.locals) (I : Inv X pins σ H s) (hf : ∀ b ∈ fp, FpOk X pins H b) (hC : s.heap.objs.size ≤ C) (hfp : ∀ b ∈ fp, b < s.heap.objs.size)
    (hRX : ∀ ev t, (∃ nm, t.heap.Ns C nm) → (∀ g, Heap.SameBut C t.heap g → ∀ ce : Env, ce.locals = C → ce.frame = X.env.frame → wpAny (model X.prog X.w) X.A (passOn "comprehension.variables-let-go" ev ce : Sem Value) (fun _ _ => False) X.xe { t with heap := g }) → RX ev t) :
    Passes (CXF X.prog X.w) (X.compE s H scope C N fp (notedBy (model X.prog X.w) X.A (compEnvC scope (clOf X.env.cells scope.names []) C X.env) RX)) E := by
  intro pins' σ' H1 s1 ev s2 I1 hx
  obtain ⟨e, cls, a0, B, H', rfl, os, bare, un, hok, fl, cov, hn, hs, q⟩ := hx
  have un : Un (frs X.stack) [] H1 H' s1.heap s2.heap := un
  have fl : Heap.FlyingW B X.stack e cls a0 s2.heap := fl
  have cov : ∀ b o, s2.heap.get? b = some o → b ∉ frs X.stack → ((∃ u, H' b = some u) ∨ ∃ o', s1.heap.get? b = some o') → B.get? b = some o := cov
  have un1 : Un (frs X.stack) fp H H1 s.heap s1.heap := I1.base
  show wpAny _ _ (noteFrame (.ref e) X.env) _ _ s2
  have hfl := fl
  rw [hst] at hfl
  refine wpAny_looks_onW (base := B) (outer := X.outer) (L := X.env.locals) (by rw [I.ok.frames, hst]) hfr hfl fun h4 held4 up4 => ?_
  rw [← hst] at held4
  have nfC : C ∉ frs X.stack := fun z => by
    obtain ⟨_, o, ho, _⟩ := I.stack.mem z
    exact absurd (Nat.lt_of_lt_of_le (Heap.lt_size ho) hC) (Nat.lt_irrefl _)
  obtain ⟨m1, ⟨oC, es, ep, hoC, hdC, hrC⟩, _⟩ := I1.loc
  have hoC : s1.heap.get? C = some oC := hoC
  have freeC : H1 C = none := I1.free
  have hC2 : s2.heap.get? C = some oC := un.keep C oC hoC freeC nfC (by simp)
  have hCB : B.get? C = some oC := cov C oC hC2 nfC (.inr ⟨oC, hoC⟩)
  have hC4 : h4.get? C = some oC := held4.1 C oC hCB
  have H'C : H' C = none := un.free C oC hoC freeC (by simp)
  have eC : e ≠ C := fun z => by rw [z, hoC] at hs; cases hs
  refine hRX _ _ ⟨m1, oC, es, ep, hC4, hdC, hrC⟩ fun h5 sb ce hl hfc => ?_
  obtain ⟨f1, f2, f3, oe, vs, T, oT, ts, he, hcls, hd, h1, hnT, hTe, hT, hdT, h3⟩ := held4
  have TC : T ≠ C := fun z => by rw [z, hCB] at hnT; cases hnT
  have he5 : h5.get? e = some oe := (sb.2 e eC).trans he
  have hT5 : h5.get? T = some oT := (sb.2 T TC).trans hT
  have offC : ∀ {b : Addr} {o : Obj}, (PySem.W.hideAll B [C]).get? b = some o → b ≠ C := fun {b o} z y => by
    rw [y, PySem.W.hideAll_none [C] (List.mem_singleton.mpr rfl)] at z; cases z
  have held5 : Heap.HeldW (PySem.W.hideAll B [C]) X.stack e cls a0 X.env.locals h5 := by
    refine ⟨fun b o z => (sb.2 b (offC z)).trans (f1 b o (PySem.W.of_hideAll _ z)), ?_, ?_, oe, vs, T, oT, ts, he5, hcls, hd, h1, ?_, hTe, hT5, hdT, h3⟩
    · cases z : (PySem.W.hideAll B [C]).get? e with
      | none => rfl
      | some o => rw [PySem.W.of_hideAll _ z] at f2; cases f2
    · exact funFrames_but (h := h4) (B := B) (C := C) (fun b o z => PySem.W.of_hideAll _ z) sb.2 nfC f3
    · cases z : (PySem.W.hideAll B [C]).get? T with
      | none => rfl
      | some o => rw [PySem.W.of_hideAll _ z] at hnT; cases hnT
  have toB : ∀ b o, s2.heap.get? b = some o → b ∉ frs X.stack → b ≠ C → ((∃ u, H' b = some u) ∨ ∃ o', s1.heap.get? b = some o') → (PySem.W.hideAll B [C]).get? b = some o := fun b o e2 nb nC hh => PySem.W.hideAll_get _ (cov b o e2 nb hh) (by simpa using nC)
  have noC : ∀ {b : Addr} {o : Obj}, s.heap.get? b = some o → b ≠ C := fun e => Nat.ne_of_lt (Nat.lt_of_lt_of_le (Heap.lt_size e) hC)
  have hnf : ∀ b ∈ frs X.stack, ∀ o, s2.heap.get? b = some o → ∀ vs, o.data ≠ .fields vs := fun b hb o eo => by
    obtain ⟨_, o', e', h⟩ := fl.2.2.1.mem hb
    rw [eo] at e'; cases e'
    exact h
  have nfr : ∀ b u, H' b = some u → b ∉ frs X.stack := fun b u e1 hb => by
    obtain ⟨_, o, eo, _⟩ := I1.stack.mem hb
    rw [un.free b o eo (I1.stkFree b hb) (by simp)] at e1; cases e1
  have un2 : Un (frs X.stack) fp H H' s.heap s2.heap := un1.trans (un.mono (fun _ z => z) (fun _ z => absurd z (by simp)))
  unfold PySem.passOn
  refine wpAny_bind (wpAny_field he5 hd h1 ?_)
  rw [if_neg (show ¬ ((Value.ref T == Value.none) = true) from by simp)]
  have fin : wpAny (model X.prog X.w) X.A (do setFlight (.ref e) ce.frame; throw (.ref e) : Sem Value) (fun _ _ => False) X.xe { s2 with heap := h5 } := by
    rw [hfc, hfr]
    refine wpAny_bind (setFlight_held held5 fun h6 held6 up6 => wpAny_throw ?_)
    refine hE pins σ H s _ _ fp I hf ⟨e, cls, a0, PySem.W.hideAll B [C], H', rfl, os.trans I1.os, bare, ?_, ?_, held6, ?_, hn, ?_, q⟩
    · refine un2.ontoX (fun b o e2 nb nx ⟨o', e0⟩ => ?_) (fun b o e2 hb nx ⟨o', e0⟩ => ?_)
      · obtain ⟨o1, e1⟩ := un1.there b o' e0 nx
        exact held6.1 b o (toB b o e2 nb (noC e0) (.inr ⟨o1, e1⟩))
      · obtain ⟨sl, e4⟩ := up4 b o e2 (hnf b hb o e2)
        have e5 := (sb.2 b (noC e0)).trans e4
        obtain ⟨sl2, e6⟩ := up6 b _ e5 (hnf b hb o e2)
        exact ⟨sl2, e6⟩
    · exact hok.onto fun b o u hb eo => held6.1 b o (toB b o eo (nfr b u hb) (fun z => by rw [z, H'C] at hb; cases hb) (.inl ⟨u, hb⟩))
    · intro b o e6 nb hh
      rcases hh with ⟨u, hu⟩ | ⟨nx, o0, e0⟩
      · obtain ⟨o1, e1⟩ := (hok b u hu).at
        have z := toB b o1 e1 nb (fun z => by rw [z, H'C] at hu; cases hu) (.inl ⟨u, hu⟩)
        have y := held6.1 b o1 z
        rw [e6] at y; cases y
        exact z
      · obtain ⟨o1, e1⟩ := un1.there b o0 e0 nx
        obtain ⟨o2, e2⟩ := un.there b o1 e1 (by simp)
        have z := toB b o2 e2 nb (noC e0) (.inr ⟨o1, e1⟩)
        have y := held6.1 b o2 z
        rw [e6] at y; cases y
        exact z
    · intro hef
      cases z : s.heap.get? e with
      | none => rfl
      | some o =>
        obtain ⟨o1, e1⟩ := un1.there e o z hef
        rw [hs] at e1; cases e1
  first
    | exact wpAny_bind (wpAny_pure fin)
    | exact fin
theorem comp_blockE {elt tg iter : Expr} {pos : Pos} {it : Addr} {fp : List Addr} {tn : Nat → Heap → Prop} {J : It} {g : TG} {te : TE} {E : XK} {RR : Value → Addr → Option Addr → Result → Shared → Prop} {Ex : Value → Shared → Prop}
    (hE : PassesH X E) (hst : X.stack = X.env :: X.outer) (hfr : X.env.frame = some X.env.locals)
    (hc : X.calm = true) (I : Inv X pins σ H s) (S : CompSc X scope N caps) (T : Turn X.prog X.w X.K tg J fp it tn) (st : tn 0 s.heap) (hf : ∀ b ∈ fp, FpOk X pins H b)
    (hg : ∀ C ex, PG (X.comp s H scope C N ex) tg g) (ho : OnlyOwn caps g) (he : ∀ C ex xe, Passes (CXF X.prog X.w) (X.compE s H scope C N ex xe) E → PE (X.compE s H scope C N ex xe) elt te)
    (W : Nat → Nat → List V → Hp → Prop) (m0 : Nat) (w0 : W 0 m0 [] H) {Q : VK}
    (turn : ∀ i m ys H2, W i m ys H2 → (J.stop i H2 ∧ ys.length ≤ sizeLine ∧ ∀ p, H2 p = none → Q (.ref p) (upd H2 p (.lst ys))) ∨
      (J.go i H2 ∧ ∃ Nx : List V → Hp → Prop, (∀ ys' H', Nx ys' H' → ∃ m', m' < m ∧ W (i + 1) m' ys' H') ∧
        ∀ x H', J.yld i H2 x H' → g x (capSt caps σ) H' fun σ2 H3 => ys.length ≤ sizeLine ∧ te σ2 H3 (fun y H5 => Nx (ys ++ [y]) H5)))
    (hRR : ∀ (D C : Addr) (s' : Shared) (m : Str → Option Value) (H' : Hp), s'.heap.Ns C m → Inv X pins σ H' s' → FpOk X pins H' C → Q (.ref D) H' → RR (.ref D) C X.env.frame (.ok .next) s')
    (hRX : ∀ (D C : Addr) (ev : Value) (t : Shared), (∃ nm, t.heap.Ns C nm) → (∀ g, Heap.SameBut C t.heap g → ∀ ce : Env, ce.locals = C → ce.frame = X.env.frame → wpAny (model X.prog X.w) X.A (passOn "comprehension.variables-let-go" ev ce : Sem Value) (fun _ _ => False) X.xe { t with heap := g }) → RR (.ref D) C X.env.frame (.error ev) t) :
    wpAny (model X.prog X.w) X.A (newList []) (fun acc s₃ => wpAny (model X.prog X.w) X.A (newFunctionEnv scope X.env.globals (clOf X.env.cells scope.names []) [] X.env.qual none .none (some X.env)) (fun cenv s₄ =>
      codeAny (model X.prog X.w) X.A (.compStart (.ListComp elt [⟨tg, iter, [], 0⟩] scope pos) 0 (.ref it) acc { cenv with scope := relabel scope X.env }) (RR acc cenv.locals cenv.frame) s₄) Ex s₃) Ex s := by
  refine wpAny_newObj_type (wpAny_newFunctionEnv S.nocell (by intro y hy; simp at hy) (fun h₁ hns₁ hsb₁ => ?_) S.kind)
  dsimp only at hns₁ hsb₁ ⊢
  generalize hH2 : s.heap.push { cls := .type "list", dict := none, data := .seq ([] : List Value).toArray } = H2 at hns₁ hsb₁ ⊢
  have hC : H2.objs.size = s.heap.objs.size + 1 := by rw [← hH2, Heap.size_push]
  have hDC : s.heap.objs.size ≠ H2.objs.size := by rw [hC]; exact Nat.ne_of_lt (Nat.lt_succ_self _)
  have hCle : s.heap.objs.size ≤ H2.objs.size := by rw [hC]; exact Nat.le_succ _
  have old : ∀ b o, s.heap.get? b = some o → h₁.get? b = some o := fun b o e =>
    hsb₁.extBut b o (by rw [hC]; exact Nat.ne_of_lt (Nat.lt_succ_of_lt (Heap.lt_size e))) (Heap.get?_push_of_some _ (hH2 ▸ Heap.get?_push_of_some _ e))
  have hacc : h₁.get? s.heap.objs.size = some (lstO []) := hsb₁.extBut _ _ hDC (Heap.get?_push_of_some _ (hH2 ▸ Heap.get?_push_size _ rfl))
  have hfp : ∀ b ∈ fp, b < s.heap.objs.size := fun b hb => by
    obtain ⟨o, e, _⟩ := T.obj _ _ st b hb
    exact Heap.lt_size e
  have st₁ : tn 0 h₁ := T.keep _ _ _ st fun b hb o e => old b o e
  have I₁ : Inv (X.comp s H scope H2.objs.size N fp) [] (capSt caps σ) H { s with heap := h₁, toks := s.toks + ([] : List (Str × Value)).length } := I.comp S hCle hf hfp old ⟨_, hns₁⟩
  have cne : ∀ x c, (clOf X.env.cells scope.names []).lookup x = some c → c < s.heap.objs.size := fun x c e => by
    obtain ⟨v, z⟩ := I.cell x c (clOf_sub e (fun y d z => by simp at z))
    exact z.lt
  have nfs : ∀ {b : Addr}, s.heap.objs.size ≤ b → b ∉ frs X.stack := fun hb z => by
    obtain ⟨_, o, ho, _⟩ := I.stack.mem z
    exact absurd (Nat.lt_of_lt_of_le (Heap.lt_size ho) hb) (Nat.lt_irrefl _)
  -- what stays true of the iterator's and the gathered list's objects
  have statF : ∀ {H' : Hp}, (∀ b ∈ fp, H' b = none) → ∀ b ∈ fp, FpOk (X.comp s H scope H2.objs.size N fp) [] H' b := fun hn b hb =>
    ⟨hn b hb, Nat.ne_of_lt (Nat.lt_of_lt_of_le (hfp b hb) hCle), fun z => (by
      obtain ⟨f0, f1, f2, _⟩ := hf b hb
      rcases List.mem_cons.mp (I.stkSub b z) with e | e
      · exact f1 e
      · exact f2 e), .inl hb, fun x c e => (hf b hb).2.2.2.2.1 x c (clOf_sub e (fun y d z => by simp at z)), fun p hp => absurd (show p ∈ ([] : List (Addr × Obj)) from hp) (by simp)⟩
  have statD : ∀ {H' : Hp}, H' s.heap.objs.size = none → FpOk (X.comp s H scope H2.objs.size N fp) [] H' s.heap.objs.size := fun hn =>
    ⟨hn, hDC, nfs (Nat.le_refl _), .inr (Nat.le_refl _), fun x c e => Nat.ne_of_lt (cne x c e), fun p hp => absurd (show p ∈ ([] : List (Addr × Obj)) from hp) (by simp)⟩
  have loop : ∀ s₃ : Shared, s₃ = { s with heap := h₁, toks := s.toks + ([] : List (Str × Value)).length } →
      codeAny (model X.prog X.w) X.A (.compLoop (.ListComp elt [⟨tg, iter, [], 0⟩] scope pos) 0 (.ref it) (.ref s.heap.objs.size) (compEnvC scope (clOf X.env.cells scope.names []) H2.objs.size X.env))
        (RR (.ref s.heap.objs.size) H2.objs.size X.env.frame) s₃ := by
    rintro s₃ rfl
    refine comp_loop (fun n s' => ∃ i ys us H', Inv (X.comp s H scope H2.objs.size N fp) [] (capSt caps σ) H' s' ∧ tn i s'.heap ∧ (∀ b ∈ fp, H' b = none) ∧ s'.heap.get? s.heap.objs.size = some (lstO us) ∧ H' s.heap.objs.size = none ∧ Vals ys us ∧ W i n ys H') ?_ m0
      ⟨0, [], [], H, I₁, st₁, fun b hb => (hf b hb).1, hacc, I.hok.fresh (Nat.le_refl _), .nil, w0⟩
    rintro n s3 ⟨i, ys, us, H3, I3, st3, fr3, ha3, hd3, rv3, w3⟩
    have pinD : ∀ {σ' : St} {H' : Hp} {s' : Shared}, Inv (X.comp s H scope H2.objs.size N fp) [] σ' H' s' → s'.heap.get? s.heap.objs.size = some (lstO us) → H' s.heap.objs.size = none → Inv (X.comp s H scope H2.objs.size N fp) [(s.heap.objs.size, lstO us)] σ' H' s' := fun I' e n =>
      I'.pins_of fun p hp => by
        obtain rfl := List.mem_singleton.mp hp
        exact ⟨e, n, hDC, nfs (Nat.le_refl _), fun v z => by cases z⟩
    have statP : ∀ {H' : Hp}, (∀ b ∈ fp, H' b = none) → ∀ b ∈ fp, FpOk (X.comp s H scope H2.objs.size N fp) [(s.heap.objs.size, lstO us)] H' b := fun hn b hb =>
      ⟨(statF hn b hb).1, (statF hn b hb).2.1, (statF hn b hb).2.2.1, (statF hn b hb).2.2.2.1, (statF hn b hb).2.2.2.2.1, fun p hp => by
        obtain rfl := List.mem_singleton.mp (show p ∈ [(s.heap.objs.size, lstO us)] from hp)
        exact Nat.ne_of_gt (hfp b hb)⟩
    have I3' := pinD I3 ha3 hd3
    have atD : ∀ {pl : List (Addr × Obj)} {σ' : St} {H' : Hp} {s' : Shared}, Inv (X.comp s H scope H2.objs.size N fp) ([(s.heap.objs.size, lstO us)] ++ pl) σ' H' s' → s'.heap.get? s.heap.objs.size = some (lstO us) ∧ H' s.heap.objs.size = none := fun {pl σ' H' s'} I' =>
      ⟨(I'.pin (s.heap.objs.size, lstO us) (by simp)).1, (I'.pin (s.heap.objs.size, lstO us) (by simp)).2.1⟩
    rcases turn i n ys H3 w3 with ⟨stop, hsz, fin⟩ | ⟨go, Nx, hN, step⟩
    · refine thn (wpAny_noRaise (T.done (X.comp s H scope H2.objs.size N fp) rfl rfl rfl hc i [(s.heap.objs.size, lstO us)] s3 _ H3 (fun _ _ => False) I3' (statP fr3) st3 stop)) fun r s4 ⟨hr, I4⟩ => ?_
      subst hr
      obtain ⟨ha4, hd4⟩ := atD (pl := []) I4
      obtain ⟨m4, hn4, _⟩ := id I4.loc
      have un4 : Un (frs X.stack) fp H H3 s.heap s4.heap := I4.base
      have bC : ∀ {b : Addr} {o : Obj}, s.heap.get? b = some o → b ≠ H2.objs.size ∧ b ≠ s.heap.objs.size := fun e => ⟨by rw [hC]; exact Nat.ne_of_lt (Nat.lt_succ_of_lt (Heap.lt_size e)), Nat.ne_of_lt (Heap.lt_size e)⟩
      have freeC : H3 H2.objs.size = none := I4.free
      have un' : Un (frs X.stack) fp H (upd H3 s.heap.objs.size (.lst ys)) s.heap s4.heap := {
        keep := fun b o e n hb hx => (un4.keep b o e n hb hx)
        slot := fun b o e n hb hx => by
          obtain ⟨sl, z⟩ := un4.slot b o e n hb hx
          exact ⟨sl, z⟩
        free := fun b o e n hx => by rw [upd_ne (bC e).2]; exact un4.free b o e n hx
        there := fun b o e hx => by
          obtain ⟨o', z⟩ := un4.there b o e hx
          exact ⟨o', z⟩
        tups := fun b xs q => by
          have z := un4.tups b xs q
          rw [upd_ne (ne_of_none z hd4)]; exact z
        frzs := fun b o u q => by
          have z := un4.frzs b o u q
          rw [upd_ne (ne_of_none z hd4)]; exact z
        tbls := fun b ps q => by
          obtain ⟨mo, z⟩ := un4.tbls b ps q
          exact ⟨mo, by rw [upd_ne (ne_of_none z hd4)]; exact z⟩ }
      have hok' : HOk X.prog X.w (upd H3 s.heap.objs.size (.lst ys)) s4.heap := fun b u eb => by
        by_cases hb : b = s.heap.objs.size
        · subst hb; rw [upd_same] at eb; cases eb
          exact ⟨hsz, us, _, rv3, ha4⟩
        · rw [upd_ne hb] at eb
          exact (I4.hok b u eb).stay (fun c v hcc q => q) (fun c q => by rw [upd_ne (ne_of_none q hd4)]; exact q) fun c xs q => by rw [upd_ne (ne_of_none q hd4)]; exact q
      have I4' : Inv X pins σ (upd H3 s.heap.objs.size (.lst ys)) s4 := I.call' (ch := fp) I4.os un' hok' I4.bare (fun b hb => ⟨(hf b hb).2.2.2.1, (hf b hb).2.1, (hf b hb).2.2.2.2.1, (hf b hb).2.2.2.2.2⟩)
      exact hRR _ _ s4 m4 _ hn4 I4' (I.fpOk hCle (by rw [upd_ne (Ne.symm hDC)]; exact freeC)) (fin _ hd4)
    · refine thn (wpAny_noRaise (T.item (X.comp s H scope H2.objs.size N fp) rfl rfl rfl hc i [(s.heap.objs.size, lstO us)] s3 _ H3 (fun _ _ => False) I3' (statP fr3) st3 go)) fun r s4 ⟨u, hr, h4⟩ => ?_
      subst hr
      refine thn (wpAny_noRaise h4) fun _ s5 ⟨x, H5, I5, r5, y5, st5, fr5⟩ => ?_
      have I5' := I5.pinned (statP fr5) (T.obj _ _ st5)
      refine thn (wpAny_noRaise (hg _ _ _ s5 _ H5 x u _ I5' r5 (ho _ _ _ _ (step x H5 y5)))) fun _ s6 ⟨σ6, H6, I6, q6, l6, k6⟩ => ?_
      have weak6 : ∀ {pl : List (Addr × Obj)} {H' : Hp} {s' : Shared}, Inv (X.comp s H scope H2.objs.size N fp) pl σ6 H' s' → Inv (X.comp s H scope H2.objs.size N fp) pl (capSt caps σ) H' s' := fun I' => I'.weak l6.symm fun j v e => by
        obtain ⟨k, c1, c2⟩ := capSt_get e
        exact k6 j k v c1 e
      refine wpAny_tests_nil ?_
      have keepT : ∀ {σ' : St} {H' : Hp} {s' : Shared}, Inv (X.comp s H scope H2.objs.size N fp) ([(s.heap.objs.size, lstO us)] ++ pinsAt fp s5.heap) σ' H' s' → tn (i + 1) s'.heap ∧ ∀ b ∈ fp, H' b = none := fun {σ' H' s'} I' =>
        ⟨T.keep _ _ _ st5 fun b hb o e => (I'.pin (b, o) (List.mem_append_right _ (List.mem_append_right _ (mem_pinsAt hb e)))).1, fun b hb => by
          obtain ⟨o, e, d⟩ := T.obj _ _ st5 b hb
          exact (I'.pin (b, o) (List.mem_append_right _ (List.mem_append_right _ (mem_pinsAt hb e)))).2.1⟩
      · obtain ⟨hsz, q7'⟩ := q6
        rw [if_pos rfl]
        refine thn (he _ _ _ (passC (N := N) (RX := fun ev t => RR (.ref s.heap.objs.size) H2.objs.size X.env.frame (.error ev) t) hE hst hfr I hf hCle hfp (hRX _ _)) _ s6 σ6 H6 _ I6.toE q7') fun yv s8 ⟨y, H8, I8e, r8, q8⟩ => ?_
        have I8 := I8e.ofE I6.ok
        obtain ⟨ha8, hd8⟩ := atD I8
        obtain ⟨st8, fr8⟩ := keepT I8
        refine append_at ha8 (fun h9 sb hD9 => ?_) (by rw [List.size_toArray, ← rv3.length]; exact hsz)
        obtain ⟨m', hm, w8⟩ := hN _ _ q8
        have I8' : Inv (X.comp s H scope H2.objs.size N fp) [] (capSt caps σ) H8 s8 := weak6 (I8.pins_of fun p hp => absurd hp (by simp))
        have dD := statD hd8
        refine ⟨m', hm, i + 1, ys ++ [y], us ++ [yv], H8, I8'.turned (t' := s8.toks) (fun b o hb e => (sb.2 b hb).trans e) hd8 dD.2.1 dD.2.2.2.1 dD.2.2.2.2.1 dD.2.2.2.2.2, T.keep _ _ _ st8 fun b hb o e => (sb.2 b (Nat.ne_of_lt (hfp b hb))).trans e, fr8, ?_, hd8, rv3.append (.cons r8 .nil), w8⟩
        rw [hD9, lstO_snoc]
  exact codeAny_compStart_list (loop _ rfl) (T.self X.A 0 _ _ _ st₁ (loop _ rfl))
end
end L2
set_option Elab.async false
set_option linter.all false
set_option maxRecDepth 100000
namespace L2
open PySem PySem.Spec PyProof.Rows
def tCompE (wi : TI) (caps : List (Option Nat)) (g : TG) (te : TE) : TE := fun σ H Q => wi σ H fun J H1 => ∃ W : Nat → Nat → List V → Hp → Prop, (∃ m, W 0 m [] H1) ∧ ∀ i m ys H2, W i m ys H2 →
  (J.stop i H2 ∧ ys.length ≤ sizeLine ∧ ∀ p, H2 p = none → Q (.ref p) (upd H2 p (.lst ys))) ∨
  (J.go i H2 ∧ ∃ Nx : List V → Hp → Prop, (∀ ys' H', Nx ys' H' → ∃ m', m' < m ∧ W (i + 1) m' ys' H') ∧
    ∀ x H', J.yld i H2 x H' → g x (capSt caps σ) H' fun σ2 H3 => ys.length ≤ sizeLine ∧ te σ2 H3 (fun y H5 => Nx (ys ++ [y]) H5))
section
variable {X : Cx} {pins : List (Addr × Obj)} {σ : St} {H : Hp} {s : Shared} {scope : Scope} {N : List Str} {caps : List (Option Nat)} {E : XK}
theorem ps_setCompE {elt tg iter : Expr} {pos py spos : Pos} {wi : TI} {g : TG} {te : TE} {y : Str} {i : Nat} (hE : PassesH X E) (hst : X.stack = X.env :: X.outer) (hfr : X.env.frame = some X.env.locals) (hN : X.N.Nodup) (hi : X.N[i]? = some y) (hy : X.env.scope.names.lookup y = some .local)
    (hc : X.calm = true) (S : CompSc X scope N caps) (hit : PI X tg iter wi)
    (hg : ∀ s H C ex, PG (X.comp s H scope C N ex) tg g) (ho : OnlyOwn caps g) (he : ∀ s H C ex xe, Passes (CXF X.prog X.w) (X.compE s H scope C N ex xe) E → PE (X.compE s H scope C N ex xe) elt te)
    (hsw : swapsWith (.ListComp elt [⟨tg, iter, [], 0⟩] scope pos) (some (.Name y py)) spos.line X.env = pure true := by rfl)
    (hs : ∀ x, foldedSetIterable iter X.env x = pure x := by intro _; rfl) : PS X (.Assign [.Name y py] (.ListComp elt [⟨tg, iter, [], 0⟩] scope pos) spos) (tAsg (tCompE wi caps g te) (gName i)) := by
  intro pins s σ H D I h
  have hcl : closureFor scope X.env = pure (clOf X.env.cells scope.names []) := closureFor_eq fun y hy hk => I.ok.has y.1 (S.free y hy hk)
  rw [exec_Assign_Name_used _ _ _ _ hsw]
  refine wpAny_bind (wpAny_standAt (wpAny_bind ?_))
  show wpAny _ X.A (do let _ ← comprehension (.ListComp elt [⟨tg, iter, [], 0⟩] scope pos) scope X.env _ (newList []) false (eval iter X.env) (some (assign (.Name y py) X.env))) _ _ s
  refine wpAny_bind (wpAny_mono (comprehensionE (use := some (assign (.Name y py) X.env)) (Q := fun _ s' => SP X pins D .next s') rfl hs hcl S.kind S.names
    (thn (hit pins s σ H _ I h) fun v s1 h1 => thn h1 fun itv s2 h2 => ?_)) (fun _ s' hq => wpAny_pure (wpAny_pure hq)) fun _ _ e => e)
  obtain ⟨it, fp, tn, J, H2, e, I2, T, st2, f2, W, ⟨m0, w0⟩, turn⟩ := h2
  subst e
  refine comp_blockE (RR := fun acc C fr => endC (model X.prog X.w) X.A X.xe (some (assign (.Name y py) X.env)) (fun _ s' => SP X pins D .next s') acc C fr) (Q := fun x H1 => gName i x σ H1 D.nx) hE hst hfr hc I2 S T st2 f2 (hg _ _) ho (he _ _) W m0 w0 turn ?_ (fun D C ev t a b => ⟨_, a.choose_spec, b⟩)
  intro Dd C s' m H' hn I' fC q
  show wpAny _ _ (assign (.Name y py) X.env (.ref Dd)) _ _ s'
  refine wpAny_assign_Name (store_ok2 I' (i := i) hN hi (.inl hy) (v := .ref Dd) rfl (fun s5 I5 ⟨a, sb, ha⟩ => ?_) (.inr hy))
  have ha' : a ≠ C := by
    rcases ha with z | z
    · rw [z]; exact Ne.symm fC.2.1
    · exact fC.2.2.2.2.1 _ _ z
  refine ⟨m, hn.sameBut sb (Ne.symm ha'), fun h' sb2 => ⟨_, H', I5.turned (t' := s5.toks) (fun b o hb e => (sb2.2 b hb).trans e) fC.1 fC.2.1 fC.2.2.2.1 fC.2.2.2.2.1 fC.2.2.2.2.2, q⟩⟩
end
def mapX (f : D → Res D) : List D → Res (List D)
  | [] => .ok []
  | d :: ds => (f d).bind fun e => (mapX f ds).bind fun es => .ok (e :: es)
theorem mapX_len {f : D → Res D} : ∀ {as es : List D}, mapX f as = .ok es → es.length = as.length
  | [], es, h => by cases h; rfl
  | a :: as, es, h => by
    unfold mapX at h
    cases q : f a with
    | bad => rw [q] at h; cases h
    | exc c => rw [q] at h; cases h
    | ok e =>
      rw [q, ev_bind_ok] at h
      cases r : mapX f as with
      | bad => rw [r] at h; cases h
      | exc c => rw [r] at h; cases h
      | ok es' =>
        rw [r] at h
        cases h
        rw [List.length_cons, List.length_cons, mapX_len r]
theorem mapX_app {f : D → Res D} : ∀ {as bs e1 : List D}, mapX f as = .ok e1 → mapX f (as ++ bs) = (mapX f bs).bind fun e2 => .ok (e1 ++ e2)
  | [], bs, e1, h => by cases h; rw [List.nil_append]; cases mapX f bs <;> rfl
  | a :: as, bs, e1, h => by
    have h : ((f a).bind fun e => (mapX f as).bind fun es => Res.ok (e :: es)) = .ok e1 := h
    show ((f a).bind fun e => (mapX f (as ++ bs)).bind fun es => Res.ok (e :: es)) = _
    cases q : f a with
    | bad => rw [q] at h; cases h
    | exc c => rw [q] at h; cases h
    | ok e =>
      rw [q, ev_bind_ok] at h
      rw [ev_bind_ok]
      cases r : mapX f as with
      | bad => rw [r] at h; cases h
      | exc c => rw [r] at h; cases h
      | ok es' =>
        rw [r] at h
        cases h
        rw [mapX_app r]
        cases mapX f bs <;> rfl
def compX (fi : DS → Res (List D)) (caps : List (Option Nat)) (j : Nat) (fe : DS → Res D) : DS → Res D := fun ρ => (fi ρ).bind fun ds => if lenOk ds.length = true then
  (mapX (fun d => fe ((capD caps ρ).set j (some d))) ds).bind fun es => .ok (.lst es) else .bad
section
variable {X : Cx} {E : XK}
theorem tCompE_d {K : PySem.W.Frag} {caps : List (Option Nat)} {j : Nat} {fi : DS → Res (List D)} {fe : DS → Res D} {σ : St} {G H : Hp} {ρ : DS} {Q : VK} (hj : j < caps.length) (hs : Same G H) (hro : Ro K G σ ρ) (ho : OkR E H (compX fi caps j fe ρ))
    (k : ∀ es, compX fi caps j fe ρ = .ok (.lst es) → ∀ p vs G' H', Ext G H G' H' → H p = none → H' p = some (.lst vs) → RepL K G' es vs → Rep K G' (.lst es) (.ref p) → Q (.ref p) H') :
    tCompE (tDI K E fi) caps (gName j) (tD K E fe) σ H Q := by
  refine ⟨G, ρ, hs, hro, ho.fst, fun ds e J G1 H1 x1 src => ?_⟩
  have kk := ho.snd e x1.hh
  by_cases hl : lenOk ds.length = true
  · rw [if_pos hl] at kk
    have kk0 : OkR E H1 (mapX (fun d => fe ((capD caps ρ).set j (some d))) ds) := kk.fst
    refine ⟨fun i m ys H2 => m = ds.length - i ∧ i ≤ ds.length ∧ ∃ G2 es1, Ext G1 H1 G2 H2 ∧ mapX (fun d => fe ((capD caps ρ).set j (some d))) (ds.take i) = .ok es1 ∧ RepL K G2 es1 ys,
      ⟨_, rfl, Nat.zero_le _, G1, [], .refl x1.gh, rfl, .nil⟩, ?_⟩
    rintro i m ys H2 ⟨rfl, hi, G2, es1, x2, hm1, rl1⟩
    have hlen : ys.length ≤ sizeLine := by
      have h1 := mapX_len hm1
      rw [List.length_take] at h1
      have h2 := lenOk_line hl
      rw [← rl1.length]; omega
    obtain ⟨sg, ss⟩ := src G2 H2 x2.gg x2.gh i
    by_cases hlt : i < ds.length
    · obtain ⟨go, yl⟩ := sg ds[i] (by simp [hlt])
      have hsplit : ds = ds.take i ++ (ds[i] :: ds.drop (i + 1)) := by rw [List.getElem_cons_drop, List.take_append_drop]
      refine .inr ⟨go, fun ys' H' => ∃ G2 es1, Ext G1 H1 G2 H' ∧ mapX (fun d => fe ((capD caps ρ).set j (some d))) (ds.take (i + 1)) = .ok es1 ∧ RepL K G2 es1 ys', fun ys' H' ⟨G3, es3, a, b, c⟩ => ⟨ds.length - (i + 1), by omega, rfl, hlt, G3, es3, a, b, c⟩, fun x H' hy => ?_⟩
      obtain ⟨G3, x3, rx⟩ := yl x H' hy
      have htk : ds.take (i + 1) = ds.take i ++ [ds[i]] := by rw [List.take_add_one]; simp [hlt]
      have hcl : (capSt caps σ).length = caps.length := by simp [capSt]
      have ro3 : Ro K G3 ((capSt caps σ).set j (some x)) ((capD caps ρ).set j (some ds[i])) := (capD_ro (hro.mono ((x1.gg.trans x2.gg).trans x3.gg))).set (by rw [hcl]; exact hj) rx
      have kk1 : OkR E H1 (fe ((capD caps ρ).set j (some ds[i]))) := by
        have z := kk0
        rw [hsplit, mapX_app hm1] at z
        have z := z.fst
        unfold mapX at z
        exact z.fst
      refine ⟨hlen, G3, _, x3.gh, ro3, kk1.le (x2.hh.trans x3.hh), fun y ey v G5 H5 x5 ry => ?_⟩
      refine ⟨G5, es1 ++ [y], (x2.trans x3).trans x5, ?_, (rl1.mono (x3.gg.trans x5.gg)).append (.cons ry .nil)⟩
      rw [htk, mapX_app hm1]
      show (((fe ((capD caps ρ).set j (some ds[i]))).bind fun e => (Res.ok [] : Res (List D)).bind fun es => Res.ok (e :: es)).bind _) = _
      rw [ey]
      rfl
    · have hie : i = ds.length := by omega
      subst hie
      rw [List.take_length] at hm1
      have hres : compX fi caps j fe ρ = .ok (.lst es1) := bind_ok e (by rw [if_pos hl]; exact bind_ok hm1 rfl)
      refine .inl ⟨ss (Nat.le_refl _), hlen, fun p hp => ?_⟩
      have x3 := (x1.trans x2).trans (Ext.new x2.gh hp (.lst ys))
      have rl2 := rl1.mono (Ext.new x2.gh hp (.lst ys)).gg
      exact k es1 hres p ys _ _ x3 ((x1.trans x2).hh.free hp) upd_same rl2 (rep_lst.mpr ⟨p, ys, rfl, .of upd_same, rl2⟩)
  · rw [if_neg hl] at kk; exact kk.elim
theorem po_setComp {elt iter : Expr} {x y : Str} {px py pos spos : Pos} {scope : Scope} {N : List Str} {caps : List (Option Nat)} {i j : Nat} {fi : DS → Res (List D)} {fe : DS → Res D} (hE : PassesH X E) (hst : X.stack = X.env :: X.outer) (hfr : X.env.frame = some X.env.locals) (hN : X.N.Nodup) (hi : X.N[i]? = some y) (hy : X.env.scope.names.lookup y = some .local)
    (hc : X.calm = true) (S : CompSc X scope N caps) (hjN : N[j]? = some x) (hjc : caps[j]? = some none) (hjl : scope.names.lookup x = some .local)
    (hit : PI X (.Name x px) iter (tDI X.K E fi)) (he : ∀ s H C ex xe, Passes (CXF X.prog X.w) (X.compE s H scope C N ex xe) E → PD (X.compE s H scope C N ex xe) E elt fe)
    (hsw : swapsWith (.ListComp elt [⟨.Name x px, iter, [], 0⟩] scope pos) (some (.Name y py)) spos.line X.env = pure true := by rfl)
    (hs : ∀ x, foldedSetIterable iter X.env x = pure x := by intro _; rfl) : PO1 X E (.Assign [.Name y py] (.ListComp elt [⟨.Name x px, iter, [], 0⟩] scope pos) spos) (setO i (compX fi caps j fe)) := by
  intro pins s σ G H ρ I hsm hr ho
  have hiσ : i < σ.length := by rw [I.len]; exact (List.getElem?_eq_some_iff.mp hi).1
  have hlb := lookup_relabel_local (env := X.env) hjl
  have hp := ps_setCompE (pos := pos) (py := py) (spos := spos) (te := tD X.K E fe) hE hst hfr hN hi hy hc S hit (fun s H C ex => pg_name (X := X.comp s H scope C N ex) (i := j) S.nd hjN (.inl hlb) (.inr hlb)) (onlyOwn_name hjc) (fun s H C ex xe hx => pe_d (he s H C ex xe hx)) hsw hs
  refine thn (hp pins s σ H { nx := fun σ' H' => ∃ d v G', compX fi caps j fe ρ = .ok d ∧ σ' = σ.set i (some v) ∧ Ext G H G' H' ∧ Rep X.K G' d v, bk := fun _ _ => False, ct := fun _ _ => False, rt := fun _ _ => False } I ?_) fun fl s1 q => ?_
  · exact tCompE_d (List.getElem?_eq_some_iff.mp hjc).1 hsm hr ho.res fun es e p vs G' H' xx _ _ _ rp => ⟨.lst es, .ref p, G', e, rfl, xx, rp⟩
  · cases fl with
    | next =>
      obtain ⟨σ', H', I', d, v, G', e, e2, x, rp⟩ := q
      subst e2
      exact ⟨_, _, G', H', out_ok e, I', x, (hr.mono x.gg).set hiσ rp⟩
    | brk => obtain ⟨_, _, _, q⟩ := q; exact q.elim
    | cont => obtain ⟨_, _, _, q⟩ := q; exact q.elim
    | ret u => obtain ⟨_, _, _, _, _, q⟩ := q; exact q.elim
end
end L2
set_option Elab.async false
set_option linter.all false
set_option maxRecDepth 100000
namespace L2
open PySem PySem.Spec PyProof.Rows
section
variable {X : Cx} {CX : CXT} {k : Nat} {f C : Addr} {fd : FuncData} {ps : List Str} {sp : Sp} {dvs : List V} {ds : List Value} {E : XK}
theorem run_at {pins : List (Addr × Obj)} {σ : St} {H : Hp} {s : Shared} {Q : VK} {us : List Value} {vs : List V} (F : FnOk X.prog X.w X.K X.mg X.base CX k f fd ps sp) (hr : Room k X.A) (hb : Binds X.K fd ps ds) (hd : Vals dvs ds)
    (I : Inv X pins σ H s) (hx : ∀ e t, CX X.stack H s E e t → X.xe e t) (r : Vals vs us) (h : sp (vs ++ dvs) H Q E) : wpAny (model X.prog X.w) X.A (call (.ref f) us) (EP X pins σ Q) X.xe s := by
  have r2 : Vals (vs ++ dvs) (us ++ ds) := r.append hd
  have hl : (us ++ ds).length = ps.length := by rw [← r2.length]; exact F.len _ _ _ _ h
  refine wpAny_call (codeAny_mono (F.run X.A X.stack s H ⟨us, []⟩ (us ++ ds) (vs ++ dvs) Q E hr I.env0 (hb s us I.kIn hl) r2 h) fun r t hq => ?_)
  cases r with
  | error e => exact hx e t hq
  | ok fl =>
    cases fl with
    | ret u => exact I.after hq
    | next => exact False.elim hq
    | brk => exact False.elim hq
    | cont => exact False.elim hq
def wTryC (X : Cx) (i : Nat) (C : Addr) (th : TS) (D : Ends) (σ : St) : XK := fun cls _ H' => PySem.W.exmOne X.K cls (.ref C) = some true ∧
  ∀ e, H' e = Option.none → th { nx := fun _ H2 => D.nx (noSt X) H2, bk := fun _ H2 => D.bk (noSt X) H2, ct := fun _ H2 => D.ct (noSt X) H2, rt := D.rt } (σ.set i (some (.ref e))) (upd H' e (ExcO e cls))
def tTryC (X : Cx) (j i : Nat) (C : Addr) (sp : Sp) (dvs : List V) (t : TA) (th : TS) : TS := fun D σ H => t σ H fun vs H1 => sp (vs ++ dvs) H1 (fun v H2 => D.nx (σ.set j (some v)) H2) (wTryC X i C th D σ)
theorem ps_tryC {x n g y : Str} {i j : Nat} {e : Expr} {es : List Expr} {b₀ : Stmt} {suite : List Stmt} {np hpos pos gp cpos apos py : Pos} {t : TA} {th : TS} (hN : X.N.Nodup) (hi : X.N[i]? = some n) (hl : X.env.scope.names.lookup n = some .local)
    (hj : X.N[j]? = some y) (hy : X.env.scope.names.lookup y = some .local) (hg : Gl X x) (hm : X.mg x = some (.ref C)) (hs : X.stack = X.env :: X.outer) (hf : X.env.frame = some X.env.locals)
    (F : FnOk X.prog X.w X.K X.mg X.base (CXF X.prog X.w) k f fd ps sp) (hr : Room k X.A) (hgc : Gl X g) (hmc : X.mg g = some (.ref f)) (hk : PySem.W.keepIn X.K (.ref f) = true) (hb : Binds X.K fd ps ds) (hd : Vals dvs ds)
    (ha : ∀ Et pn, PA (X.tr Et pn) (e :: es) t) (hh : ∀ (e : Addr) (E : Value → Shared → Prop), PSs (X.inH e E) (b₀ :: suite) th)
    (hdb : (x == ("__debug__" : Str)) = false := by decide) (hdg : (g == ("__debug__" : Str)) = false := by decide) (hst : starEach (e :: es) X.env = (false, eval e X.env) :: starEach es X.env := by rfl) (hpl : (backTo cpos (starEach es X.env)).any (·.1) = false := by rfl)
    (hsw : swapsWith (.Call (.Name g gp) (e :: es) [] cpos) (some (.Name y py)) apos.line X.env = pure false := by rfl) :
    PS X (.Try [.Assign [.Name y py] (.Call (.Name g gp) (e :: es) [] cpos) apos] [.ExceptHandler (some (.Name x np)) (some n) (b₀ :: suite) hpos] [] [] pos) (tTryC X j i C sp dvs t th) := by
  intro pins s σ H D I h
  refine wpAny_Try_except ?_
  generalize hEt : (fun (e : Value) (s₁ : Shared) => wpAny (model X.prog X.w) X.A (noteFrame e X.env) (fun _ s₂ => wpAny (model X.prog X.w) X.A (setFlight e Option.none) (fun _ s₃ => wpAny (model X.prog X.w) X.A (handleBy e X.env [.ExceptHandler (some (.Name x np)) (some n) (b₀ :: suite) hpos]) (SP X pins D) X.xe s₃) X.xe s₂) X.xe s₁) = Et
  have land : ∀ (H1 : Hp) (s1 : Shared) (ev : Value) (s2 : Shared), Inv X pins σ H1 s1 → CXF X.prog X.w X.stack H1 s1 (wTryC X i C th D σ) ev s2 → Et ev s2 := by
    intro H1 s1 ev s2 J hx
    obtain ⟨e, cls, a0, B, H2, rfl, fl, hn, ⟨hmat, hth⟩, land⟩ := J.landed hx
    show Et (.ref e) s2
    rw [← hEt]
    show wpAny _ _ (noteFrame (.ref e) X.env) _ _ s2
    rw [hs] at fl
    refine wpAny_looks_onW (base := B) (outer := X.outer) (L := X.env.locals) (by rw [I.ok.frames, hs]) hf fl fun h4 held4 up4 => ?_
    refine wpAny_landsW held4 fun h5 fl5 up5 => ?_
    have up5' := up4.trans up5
    obtain ⟨_, J5⟩ := land h5 s2.toks (by rw [hs]; exact fl5) up5'
    have mk : ∀ (Ex : Value → Shared → Prop), Inv (X.inH e Ex) pins σ H2 { s2 with heap := h5 } := fun Ex => J5.inH e Ex
    refine wpAny_handleBy_cons (codeAny_handlers_test (ld_glob (X := X.inH e (fun _ _ => True)) (mk _) hg hm ?_ hdb)) (by intro q; cases q)
    obtain ⟨ob, hob, hcl⟩ := fl5.there
    have LT : PySem.W.Looks (model X.prog X.w) h5 (typeOf (.ref e)) cls := hcl ▸ (PySem.W.Looks.ld hob).andThen .now
    refine (PySem.W.exm_one (M := model X.prog X.w) J5.kIn LT hmat).here ?_
    show codeAny _ _ _ _ _
    refine codeAny_handlers_suite_as ?_
    refine lands_againW (s := { s2 with heap := h5 }) fl5 fun h6 fl6 up6 => ?_
    obtain ⟨J6, _⟩ := land h6 s2.toks (by rw [hs]; exact fl6) (up5'.trans up6)
    refine store_ok (X := X) (i := i) (v := .ref e) J6 hN hi (.inl hl) rfl (fun s7 J7 => ?_) (.inr hl)
    generalize hEx : (fun (x : Value) (s₃ : Shared) => _) = Ex
    refine wpAny_mono (hh e Ex pins s7 _ _ _ (J7.inH e Ex) (hth e hn)) (fun f s8 q8 => ?_) fun x s8 q8 => q8
    have fin : ∀ {σ8 : St} {H8 : Hp}, Inv (X.inH e Ex) pins σ8 H8 s8 → (∀ s9, Inv X pins (noSt X) H8 s9 → SP X pins D f s9) →
        wpAny (model X.prog X.w) X.A (do bindName X.env n .none; unbindBehindTheSuite X.env n hpos) (fun _ s9 => SP X pins D f s9) X.xe s8 := fun {σ8 H8} J8 k => by
      obtain ⟨m8, n8, _⟩ := J8.loc
      refine wpAny_nameGoes hl n8 (by rw [I.ok.kind]; rfl) fun h9 m9 n9 sb => ?_
      exact k _ ((J8.outH I.ok).forget sb n9)
    cases f with
    | next => obtain ⟨σ8, H8, J8, q⟩ := q8; exact fin J8 fun s9 J9 => ⟨_, H8, J9, q⟩
    | brk => obtain ⟨σ8, H8, J8, q⟩ := q8; exact fin J8 fun s9 J9 => ⟨_, H8, J9, q⟩
    | cont => obtain ⟨σ8, H8, J8, q⟩ := q8; exact fin J8 fun s9 J9 => ⟨_, H8, J9, q⟩
    | ret u => obtain ⟨v, σ8, H8, J8, r8, q⟩ := q8; exact fin J8 fun s9 J9 => ⟨v, _, H8, J9, r8, q⟩
  have I' := I.tr (pins := pins) Et
  have ev : wpAny (model X.prog X.w) X.A (eval (.Call (.Name g gp) (e :: es) [] cpos) X.env) (EP (X.tr Et (X.pn ++ pins)) [] σ fun v H2 => D.nx (σ.set j (some v)) H2) Et s := by
    refine wpAny_Call_Name_kw (ld_glob (X := X.tr Et (X.pn ++ pins)) I' hgc hmc ?_ hdg)
    refine PySem.W.callWith_K (h₀ := X.base) I'.ok.mod.kin hk (thn (ha Et _ cpos [] s σ H _ I' h) fun us s1 ⟨vs, H1, I1, r, q⟩ => ⟨I1.kIn, ?_⟩) hst hpl
    exact run_at (X := X.tr Et (X.pn ++ pins)) F hr hb hd I1 (fun ev s2 hx => land H1 s1 ev s2 (I1.untr I.ok) hx) r q
  have st : wpAny (model X.prog X.w) X.A (exec (.Assign [.Name y py] (.Call (.Name g gp) (e :: es) [] cpos) apos) X.env) (SP X pins D) Et s :=
    wpAny_Assign_Name (thn ev fun v s1 ⟨w, H1, I1, r1, q1⟩ => store_ok (I1.untr I.ok) hN hj (.inl hy) r1 (fun s2 I2 => ⟨_, H1, I2, q1⟩) (.inr hy)) hsw
  have body : wpAny (model X.prog X.w) X.A (execs [.Assign [.Name y py] (.Call (.Name g gp) (e :: es) [] cpos) apos] X.env) (SP X pins D) Et s := by
    refine wpAny_execs_cons (thn st fun fl s1 q => ?_)
    cases fl with
    | next => exact wpAny_execs_nil q
    | brk => exact q
    | cont => exact q
    | ret u => exact q
  refine wpAny_mono body (fun f s1 q1 => ?_) fun e s1 q1 => q1
  cases f with
  | next => exact wpAny_execs_nil q1
  | brk => exact q1
  | cont => exact q1
  | ret u => exact q1
end
end L2
set_option Elab.async false
set_option linter.all false
set_option maxRecDepth 100000
namespace L2
open PySem PySem.Spec PyProof.Rows
def okS (z : Str) : Bool := decide (z.length ≤ 190) && z.cps.toList.all fun c => decide (c < 128)
theorem okS_len {z : Str} (h : okS z = true) : z.length ≤ 190 := by
  unfold okS at h
  rw [Bool.and_eq_true, decide_eq_true_eq] at h
  exact h.1
theorem okS_sign {z : Str} (h : okS z = true) : ∀ c ∈ z.cps.toList, c < 128 := by
  unfold okS at h
  rw [Bool.and_eq_true, List.all_eq_true] at h
  exact fun c hc => of_decide_eq_true (h.2 c hc)
section
variable {X : Cx} {E : XK}
def tStrB (te : TE) : St → Hp → Prop := fun σ H => te σ H fun v H' => H' = H ∧ ∃ z : Str, v = .str z ∧ okS z = true
theorem pf_repr {e : Expr} {pos : Pos} {te : TE} (he : PE X e te) : PF X (.FormattedValue e 114 none pos) 1902 (tStrB te) := by
  intro pins s σ H I h
  refine wpAny_FormattedValue_repr (thn (he pins s σ H _ I h) fun v s1 ⟨x, H1, I1, r1, e1, z, e2, hz⟩ => ?_)
  subst e1 e2
  obtain ⟨t, rfl⟩ := r1
  have hlen : (reprText z).length ≤ 1902 := by
    have h1 := StrLaws.reprText_len z fun c hc => Nat.lt_of_lt_of_le (okS_sign hz c hc) (by decide)
    have h2 := okS_len hz
    omega
  have hsl : (reprText z).length ≤ sizeLine := by rw [sizeLine_eq]; omega
  refine wpAny_pyReprObj_str ?_ hsl
  exact formatField_str (fun t' tk => ⟨_, _, rfl, hlen, I1.tok _⟩) hsl
def okT (i : Nat) (ρ : DS) : Bool := match ρ[i]? with | some (some (.str z)) => okS z | _ => false
theorem okT_t {i : Nat} {K : PySem.W.Frag} {σ : St} {G H : Hp} {ρ : DS} (hr : Ro K G σ ρ) (h : okT i ρ = true) : tStrB (tVar i) σ H := by
  unfold okT at h
  split at h
  · rename_i z q
    obtain ⟨v, hv, rv⟩ := hr i _ q
    rw [rep_str] at rv; subst rv
    exact ⟨_, hv, rfl, z, rfl, h⟩
  · cases h
theorem pd_gS {x : Str} {z : Str} {pos : Pos} (hm : ∃ t, X.mg x = some (.str z t)) (hg : Gl X x := by rfl) (hd : (x == ("__debug__" : Str)) = false := by decide) : PD X E (.Name x pos) (fun _ => .ok (.str z)) := by
  obtain ⟨t, hm⟩ := hm
  exact pd_flat (pe_glob (v := .str z) hg hm ⟨t, rfl⟩ hd) fun σ H => ⟨rfl, fun G => rep_str.mpr rfl⟩
def notInS : D → D → Res D
  | .str a, .str b => .ok (.bl (!(!(Builtin.Str.occurrences b a 0 b.length 1).isEmpty)))
  | _, _ => .bad
theorem do_notInS : DOp X E (compareOp .NotIn) notInS := DOp.of op_notIn_str fun G H x y dx dy hs rx ry ok => by
  unfold notInS at ok ⊢
  split at ok
  · rename_i a b
    rw [rep_str] at rx ry
    subst rx ry
    exact ⟨a, b, rfl, rfl, _, G, rfl, .refl hs, rep_bl.mpr rfl⟩
  · exact ok.elim
theorem ev_notInS {c : Nat} {b : Str} : notInS (.str ⟨#[c]⟩) (.str b) = .ok (.bl (!(decide (c ∈ b.cps.toList)))) := by
  unfold notInS
  dsimp only
  rw [StrLaws.found_one]
end
end L2
namespace PySem
open Sem (wp)
theorem str_no_int : typeLookup (.type "str") (Str.ofString "__int__") = pure none := by rw [typeLookup_type, builtinLookup_eq_fast]; kernel_rfl
theorem str_no_index : typeLookup (.type "str") (Str.ofString "__index__") = pure none := by rw [typeLookup_type, builtinLookup_eq_fast]; kernel_rfl
theorem str_no_trunc : typeLookup (.type "str") (Str.ofString "__trunc__") = pure none := by rw [typeLookup_type, builtinLookup_eq_fast]; kernel_rfl
theorem wp_eq {α : Type} {M : Model} {A : Around} {E : Value → Shared → Prop} {s : Shared} {Q : α → Shared → Prop} {t t' : Sem α} (h : t = t') (q : wpAny M A t' Q E s) : wpAny M A t Q E s := h ▸ q
set_option maxHeartbeats 4000000 in
theorem meets_int_new_word (k : Nat) (hk : k < 100) (u : Tok) : Meets (Builtin.«int.__new__» ⟨[.type "int", .str (Str.ofString (toString (k : Int))) u], []⟩) (Made.int k).spec :=
  Meets.of_wp fun prog w A R s hs => by
    generalize hx : Str.ofString (toString (k : Int)) = x
    rcases s with ⟨hp, gn, dr, tk, os⟩
    have f1 := F.conv_sub_int
    have f2 := F.madeHere_int
    have hT : (⟨hp, gn, dr, tk, os⟩ : Shared).TypeIs (.str x u) "str" := rfl
    have f3 := str_no_int
    have f4 := str_no_index
    have f5 := str_no_trunc
    repeat (any_goals (first | wp_step | assumption))
    subst hx
    refine wp_eq (t' := mkInt (k : Int)) ?eq ?fin
    case fin =>
      repeat (any_goals (first | wp_step | assumption))
      exact ⟨_, rfl, hs⟩
    case eq =>
      clear hs hT f1 f2 f3 f4 f5
      iterate 100 (rcases k with _ | k; · kernel_rfl)
      exact absurd hk (by omega)
end PySem
namespace L2
open PySem PySem.Spec PyProof.Rows
section
variable {X : Cx} {E : XK} {e : Expr} {f : DS → Res D} {p pos : Pos}
theorem call_intW : CallR X (.type "int") (fun xs H Q => ∃ k : Nat, k < 100 ∧ xs = [.str (Str.ofString (toString (k : Int)))] ∧ Q (.int k) H) := by
  intro pins s σ H xs us Q I r h
  obtain ⟨k, hk, rfl, q⟩ := h
  obtain ⟨u, rfl, ru⟩ := vals1 r
  obtain ⟨t, rfl⟩ := ru
  exact call_int_1 (meets_int_new_word k hk t) (show (Made.int (k : Int)).post _ s from ⟨rfl, .int k, H, I.tok _, ⟨_, rfl⟩, q⟩)
def intW : List D → Res D
  | [.str z] => match TX.numOf z with | some n => .ok (.int n) | none => .bad
  | _ => .bad
theorem dc_intW {K : PySem.W.Frag} : DCl K E (fun xs H Q => ∃ k : Nat, k < 100 ∧ xs = [.str (Str.ofString (toString (k : Int)))] ∧ Q (.int k) H) intW := by
  intro G H vs ds Q hs rl ok k
  unfold intW at ok k
  split at ok
  · rename_i z
    obtain ⟨v, r, rfl, rx, r0⟩ := rl.inv
    rw [r0.inv0]
    rw [rep_str] at rx
    subst rx
    dsimp only at ok k
    cases q : TX.numOf z with
    | none => rw [q] at ok; exact ok.elim
    | some n =>
      rw [q] at k
      obtain ⟨e1, h0, h1⟩ := TX.num_inv q
      have en : ((n.toNat : Nat) : Int) = n := by omega
      refine ⟨n.toNat, by omega, by rw [en, e1], ?_⟩
      rw [en]
      exact k _ _ G H rfl (.refl hs) (rep_int.mpr rfl)
  · exact ok.elim
theorem one_arg {g : List D → Res D} : ClR (fun ρ => (f ρ).bind fun d => (Res.ok [] : Res (List D)).bind fun ds => .ok (d :: ds)) g = fun ρ => (f ρ).bind fun a => g [a] := funext fun ρ => by
  show ((f ρ).bind _).bind _ = _
  cases f ρ <;> rfl
theorem pd_intW (hm : X.mg "int" = none) (h : PD X E e f) (hg : Gl X "int" := by rfl) (he : starEach [e] X.env = (false, eval e X.env) :: starEach [] X.env := by rfl) : PD X E (.Call (.Name "int" p) [e] [] pos) (fun ρ => (f ρ).bind fun a => intW [a]) :=
  one_arg ▸ pd_callTy (X := X) (E := E) (p := p) (pos := pos) call_intW dc_intW hg hm bo_int (pda_cons h pda_nil he) (by decide) (by decide) he rfl
theorem bo_str : bootBuiltins "str" = some (.type "str") := by decide +kernel
theorem pd_str1 (hm : X.mg "str" = none) (h : PD X E e f) (hg : Gl X "str" := by rfl) (he : starEach [e] X.env = (false, eval e X.env) :: starEach [] X.env := by rfl) : PD X E (.Call (.Name "str" p) [e] [] pos) (fun ρ => (f ρ).bind fun a => strI [a]) :=
  one_arg ▸ pd_callTy (X := X) (E := E) (p := p) (pos := pos) call_str_int dc_strI hg hm bo_str (pda_cons h pda_nil he) (by decide) (by decide) he rfl
theorem pd_lenS (hm : X.mg "len" = none) (h : PD X E e f) (hg : Gl X "len" := by rfl) (he : starEach [e] X.env = (false, eval e X.env) :: starEach [] X.env := by rfl) : PD X E (.Call (.Name "len" p) [e] [] pos) (fun ρ => (f ρ).bind fun a => lenS [a]) :=
  one_arg ▸ pd_callB (X := X) (E := E) (p := p) (pos := pos) call_len_str dc_lenS hg hm PySem.boot_len (pda_cons h pda_nil he) (by decide) (by decide) he rfl
theorem ev_strI {i : Int} (h0 : -(10 ^ 20) < i) (h1 : i < 10 ^ 20) : strI [.int i] = .ok (.str (toString i)) := by
  unfold strI
  dsimp only
  rw [if_pos (by rw [decide_eq_true h0, decide_eq_true h1]; rfl)]
theorem ev_lenS {z : Str} (h : lenOk z.length = true) : lenS [.str z] = .ok (.int z.length) := if_pos h
theorem ev_eqS {a b : Str} : eqO (.str a) (.str b) = .ok (.bl (a == b)) := id rfl
theorem ev_neS {a b : Str} : neO (.str a) (.str b) = .ok (.bl (!(a == b))) := id rfl
theorem ev_intW {z : Str} {n : Int} (h : TX.numOf z = some n) : intW [.str z] = .ok (.int n) := by
  unfold intW
  dsimp only
  rw [h]
end
end L2
set_option Elab.async false
set_option linter.all false
set_option maxRecDepth 100000
set_option maxHeartbeats 4000000
namespace K13
open PySem L2
theorem ev_lenR {ns : List Int} : lenD [.scr ns] = .ok (.int ns.length) := id rfl
def top (i : Nat) : Stmt := PySem.Challenge.pw_haltline_k13_texts_refused.main.body.getD i (.Pass ⟨0, 0, 0, 0⟩)
abbrev bd (s : Stmt) (i : Nat) : Stmt := (defBody s).getD i (.Pass ⟨0, 0, 0, 0⟩)
abbrev sInit : Stmt := inClass (top 9) 0
abbrev sRuns : Stmt := inClass (top 9) 1
abbrev sClear : Stmt := inClass (top 9) 2
abbrev sCheckLine : Stmt := top 10
abbrev sRead : Stmt := top 14
abbrev sNumber : Stmt := top 15
abbrev sDrawn : Stmt := top 17
abbrev sWhole : Stmt := top 18
abbrev sRow : Stmt := top 19
abbrev sLineBy : Stmt := top 21
abbrev sNum : Stmt := top 25
abbrev sDue : Stmt := top 26
abbrev sSign : Stmt := top 27
abbrev sSpoilt : Stmt := top 28
abbrev sLaw : Stmt := top 29
structure Txt (K : PySem.W.Frag) (mg : Str → Option Value) (CL CHE CBL CBT CBX : Addr) : Prop where
  len : mg "len" = none
  lst : mg "list" = none
  tup : mg "tuple" = none
  rng : mg "range" = none
  isi : mg "isinstance" = none
  mn : mg "min" = none
  mx : mg "max" = none
  tint : mg "int" = none
  tbool : mg "bool" = none
  tve : mg "ValueError" = none
  tstr : mg "str" = none
  mS : ∃ t, mg "MOST_STRETCHES" = some (.int 5 t)
  mR : ∃ t, mg "MOST_RUN" = some (.int 20 t)
  mC : ∃ t, mg "MOST_CLEAR" = some (.int 5 t)
  gB : ∃ t, mg "BETWEEN_RUNS" = some (.str TX.sD t)
  gA : ∃ t, mg "AHEAD_OF_GAP" = some (.str TX.sW t)
  bl : ExcC K mg "BadLine" CBL
  bx : ExcC K mg "BadText" CBX
  mgH : mg "HaltError" = some (.ref CHE)
  mgT : mg "BadTable" = some (.ref CBT)
  mgL : mg "Line" = some (.ref CL)
  cl : Cls K CL
  nM : NoAttr K CL "minutes"
  nG : NoAttr K CL "gap"
  kX : ExcK K CBX
  eX : PySem.W.exmOne K (.ref CBX) (.ref CHE) = some true
  iXX : PySem.W.kitOne K (.ref CBX) (.ref CBX) = some true
  iXV : PySem.W.kitOne K (.ref CBX) (.type "ValueError") = some true
  iXL : PySem.W.kitOne K (.ref CBX) (.ref CBL) = some false
  iXT : PySem.W.kitOne K (.ref CBX) (.ref CBT) = some false
  kii : PySem.W.kitOne K (.type "int") (.type "int") = some true
  kib : PySem.W.kitOne K (.type "int") (.type "bool") = some false
  kll : PySem.W.kitOne K (.type "list") (.type "list") = some true
section
variable {P : Program} {w : World} {K : PySem.W.Frag} {mg : Str → Option Value} {base : Heap} {CL CHE CBL CBT CBX : Addr}
theorem ev_ixR {ns : List Int} {i n : Int} (h : atI ns i = some n) : ixD (.scr ns) (.int i) = .ok (.int n) := by unfold ixD; dsimp only; rw [h]
def cellOf (ns : List Int) (k : Int) : Int := if ns.length = 0 then 7 else ns.getD (k % ns.length).toNat 0
def stir1 (ns : List Int) (k : Int) : Int := (cellOf ns k * 48271 + (k + 1) * 7919 + ns.length) % 2147483647
def stir2 (ns : List Int) (k : Int) : Int := (stir1 ns k * stir1 ns k + k * 16807 + 11) % 2147483647
def drawn (ns : List Int) (k many : Int) : Int := stir2 ns k * 48271 % 2147483647 / 16 % many
def mDrawn : List D → Res D
  | [.scr ns, .int k, .int many] => if 0 ≤ k ∧ k < 1000 ∧ 0 < many ∧ many < 1000 then .ok (.int (drawn ns k many)) else .bad
  | _ => .bad
theorem scDrawn : FnScope ["script", "k", "many", "cell", "stir"] ["script", "k", "many"] (defScope sDrawn) := ⟨rfl, rfl, rfl, by decide +kernel, rfl, by decide +kernel, by decide +kernel⟩
theorem ok_drawn {f : Addr} {fd : FuncData} (F : Fun K "_law_drawn" "_law_drawn" sDrawn f fd) (T : Txt K mg CL CHE CBL CBT CBX) : FnOk P w K mg base (CXF P w) 1 f fd ["script", "k", "many"] (pureSp K mDrawn) := by
  refine F.pure scDrawn (fun ds h => ?_) (fun cdv A outer s H E hr => ?_)
  · unfold mDrawn at h
    split at h
    · rfl
    · exact absurd rfl h
  · refine ⟨_, pos_cons (po_set (i := 3) scDrawn.nd rfl (Or.inl rfl) pd_int)
      (pos_cons (po_if (pdt_cmp do_gt (pd_callB call_len_seq dc_len rfl T.len PySem.boot_len (pda_cons (dv 0) pda_nil)) pd_int (nomark _))
        (pos_one (po_set (i := 3) scDrawn.nd rfl (Or.inl rfl) (pd_ix (dv 0) (pd_bin do_mod (dv 1) (pd_callB call_len_seq dc_len rfl T.len PySem.boot_len (pda_cons (dv 0) pda_nil)))))) pos_nil)
      (pos_cons (po_set (i := 4) scDrawn.nd rfl (Or.inl rfl) (pd_bin do_mod (pd_bin do_add (pd_bin do_add (pd_bin do_mul (dv 3) pd_int) (pd_bin do_mul (pd_bin do_add (dv 1) pd_int) pd_int)) (pd_callB call_len_seq dc_len rfl T.len PySem.boot_len (pda_cons (dv 0) pda_nil))) pd_int))
      (pos_cons (po_set (i := 4) scDrawn.nd rfl (Or.inl rfl) (pd_bin do_mod (pd_bin do_add (pd_bin do_add (pd_bin do_mul (dv 4) (dv 4)) (pd_bin do_mul (dv 1) pd_int)) pd_int) pd_int))
      (pos_one (po_ret (pd_bin do_mod (pd_bin do_fdiv (pd_bin do_mod (pd_bin do_mul (dv 4) pd_int) pd_int) pd_int) (dv 2))))))), ?_⟩
    intro ds h
    unfold mDrawn at h ⊢
    split at h
    · rename_i ns k many
      try dsimp only at h ⊢
      by_cases hc : 0 ≤ k ∧ k < 1000 ∧ 0 < many ∧ many < 1000
      · rw [if_pos hc]
        clear h
        have e0 : startD ["script", "k", "many", "cell", "stir"] [D.scr ns, .int k, .int many] = [some (.scr ns), some (.int k), some (.int many), none, none] := rfl
        rw [e0]
        obtain ⟨h0, h1, h2, h3⟩ := hc
        have st1 : 0 ≤ stir1 ns k ∧ stir1 ns k < 2147483647 := ⟨Int.emod_nonneg _ (by decide), Int.emod_lt_of_pos _ (by decide)⟩
        by_cases hz : ns.length = 0
        · have hd : decide (0 < (ns.length : Int)) = false := decide_eq_false (by omega)
          have hc7 : cellOf ns k = 7 := if_pos hz
          simp (disch := omega) only [ev_seq, ev_set, ev_if, ev_op, ev_cl, ev_asB, ev_ret, ev_var0, ev_varS, ev_set0, ev_setS, ev_bind_ok, ev_out_ok, ev_then_nx, ev_then_rt, ev_outrt, ev_lenR, ev_gt, ev_mulR, ev_add, ev_mod, ev_fdiv, hd, ev_if_false, Bool.false_eq_true, if_false]
          unfold drawn stir2 stir1
          rw [hc7]
        · have hd : decide (0 < (ns.length : Int)) = true := decide_eq_true (by omega)
          have hm0 : 0 ≤ k % (ns.length : Int) := Int.emod_nonneg _ (by omega)
          have hm1 : k % (ns.length : Int) < ns.length := Int.emod_lt_of_pos _ (by omega)
          have hix : atI ns (k % (ns.length : Int)) = some (cellOf ns k) := by
            refine atI_of hm0 ?_
            have hlt : (k % (ns.length : Int)).toNat < ns.length := by omega
            rw [List.getElem?_eq_getElem hlt]
            unfold cellOf
            rw [if_neg hz]
            simp [List.getD, List.getElem?_eq_getElem hlt]
          simp (disch := omega) only [ev_seq, ev_set, ev_if, ev_op, ev_cl, ev_asB, ev_ret, ev_var0, ev_varS, ev_set0, ev_setS, ev_bind_ok, ev_out_ok, ev_then_nx, ev_then_rt, ev_outrt, ev_lenR, ev_gt, ev_mulR, ev_add, ev_mod, ev_fdiv, hd, if_true, ev_ixR hix]
          rfl
      · rw [if_neg hc] at h; exact absurd rfl h
    · exact absurd rfl h
def sm (n : Int) : Bool := decide (-(10 ^ 20) < n) && decide (n < 10 ^ 20)
theorem sm_log {n : Int} (h : sm n = true) : n.natAbs.log2 < 1920 := by
  unfold sm at h
  rw [Bool.and_eq_true, decide_eq_true_eq, decide_eq_true_eq] at h
  exact log_small h.1 h.2
def lineOk (ns : List Int) (c : Int) : Bool := decide (1 ≤ (ns.length : Int)) && decide ((ns.length : Int) ≤ 5) && ns.all TX.runOk && (decide (0 ≤ c) && decide (c ≤ 5))
def mCheckLine (CBL : Addr) : List D → Res D
  | [.lst l, .int c] => match allInts l with
    | some ns => if (ns.all sm && sm c) = true then (if lineOk ns c = true then .ok .non else .exc CBL) else .bad
    | none => .bad
  | _ => .bad
theorem scCL : FnScope ["runs", "clear", "run"] ["runs", "clear"] (defScope sCheckLine) := ⟨rfl, rfl, rfl, by decide +kernel, rfl, by decide +kernel, by decide +kernel⟩
theorem loopCL {F : DS → Out} {a b : Option D} {C : Addr} (hF : ∀ n : Int, sm n = true → F [a, b, some (.int n)] = if TX.runOk n = true then .nx [a, b, some (.int n)] else .exc C) : ∀ (ns : List Int) (o : Option D), ns.all sm = true →
    (ns.all TX.runOk = true → ∃ o', forO 2 F (ns.map D.int) [a, b, o] = .nx [a, b, o']) ∧ (ns.all TX.runOk = false → forO 2 F (ns.map D.int) [a, b, o] = .exc C)
  | [], o, _ => ⟨fun _ => ⟨o, rfl⟩, fun h => by cases h⟩
  | n :: ns, o, hs => by
    rw [List.all_cons, Bool.and_eq_true] at hs
    have ih := loopCL hF ns (some (.int n)) hs.2
    have h1 := hF n hs.1
    rw [List.all_cons, List.map_cons]
    by_cases hr : TX.runOk n = true
    · rw [hr, Bool.true_and]
      rw [if_pos hr] at h1
      have e : forO 2 F (D.int n :: ns.map D.int) [a, b, o] = forO 2 F (ns.map D.int) [a, b, some (.int n)] := ev_forN h1
      rw [e]
      exact ih
    · rw [if_neg hr] at h1
      rw [Bool.eq_false_iff.mpr hr, Bool.false_and]
      exact ⟨fun h => (by cases h), fun _ => (show forO 2 F (D.int n :: ns.map D.int) [a, b, o] = .exc C from ev_forX h1)⟩
theorem ok_checkLine {f : Addr} {fd : FuncData} (F : Fun K "check_line" "check_line" sCheckLine f fd) (T : Txt K mg CL CHE CBL CBT CBX) : FnOk P w K mg base (CXF P w) 1 f fd ["runs", "clear"] (pureSp K (mCheckLine CBL)) := by
  refine F.pure scCL (fun ds h => ?_) (fun cdv A outer s H E hr => ?_)
  · unfold mCheckLine at h
    split at h
    · rfl
    · exact absurd rfl h
  · refine ⟨_, pos_cons (po_if (pdt_not (pdt_chain do_le do_le pd_int (pd_callB call_len_seq dc_len rfl T.len PySem.boot_len (pda_cons (dv 0) pda_nil)) (pd_gI T.mS)))
        (pos_one (po_rF T.bl (pfs_cons pf_str (pfs_cons (pf_int (pe_gI T.mS)) (pfs_cons pf_str pfs_nil))) (fun _ => true) (fun σ G H ρ _ _ _ => ⟨trivial, tIntB_c (by decide), trivial, trivial⟩))) pos_nil)
      (pos_cons (po_for PassesOwn.leaving rfl scCL.nd (j := 2) rfl (Or.inl rfl) (pi_dlist (dv 0))
        (pos_one (po_if (pdt_not (pdt_chain do_le do_le pd_int (dv 2) (pd_gI T.mR)))
          (pos_one (po_rF T.bl (pfs_cons pf_str (pfs_cons (pf_int (pv 2)) (pfs_cons pf_str (pfs_cons (pf_int (pe_gI T.mR)) pfs_nil)))) (okI 2) (fun σ G H ρ _ hr hk => ⟨trivial, okI_t hr hk, trivial, tIntB_c (by decide), trivial⟩))) pos_nil)))
      (pos_one (po_if (pdt_not (pdt_chain do_le do_le pd_int (dv 1) (pd_gI T.mC)))
        (pos_one (po_rF T.bl (pfs_cons pf_str (pfs_cons (pf_int (pv 1)) (pfs_cons pf_str (pfs_cons (pf_int (pe_gI T.mC)) pfs_nil)))) (okI 1) (fun σ G H ρ _ hr hk => ⟨trivial, okI_t hr hk, trivial, tIntB_c (by decide), trivial⟩))) pos_nil))), ?_⟩
    intro ds h
    unfold mCheckLine at h ⊢
    split at h
    · rename_i l c
      cases q : allInts l with
      | none => rw [q] at h; exact absurd rfl h
      | some ns =>
        rw [q] at h
        dsimp only at h ⊢
        by_cases hc : (ns.all sm && sm c) = true
        · rw [if_pos hc]
          have e := allInts_eq q
          subst e
          clear h q
          rw [Bool.and_eq_true] at hc
          have e0 : startD ["runs", "clear", "run"] [D.lst (ns.map D.int), .int c] = [some (.lst (ns.map D.int)), some (.int c), none] := rfl
          rw [e0]
          have hl : ((ns.map D.int).length : Int) = ns.length := by simp
          have c1 : ∀ {ρ : DS} {x y z : Int} {fa fb fc : DS → Res D}, fa ρ = .ok (.int x) → fb ρ = .ok (.int y) → fc ρ = .ok (.int z) → notR (chainR fa fb fc leI leI) ρ = .ok (!(decide (x ≤ y) && decide (y ≤ z))) := fun h1 h2 h3 => by
            rw [ev_not, ev_chain h1 h2 h3]; rfl
          rw [ev_seq, ev_if, c1 (y := (ns.length : Int)) rfl (by show lenD [.lst (ns.map D.int)] = _; rw [ev_lenL, hl]) rfl]
          unfold lineOk
          by_cases h1 : (decide (1 ≤ (ns.length : Int)) && decide ((ns.length : Int) ≤ 5)) = true
          · rw [h1, Bool.true_and]
            simp only [Bool.not_true, ev_out_ok, ev_if_false, ev_then_nx]
            rw [ev_seq, ev_for]
            show outM ((forO 2 _ (ns.map D.int) _).then _) = _
            obtain ⟨L1, L2⟩ := loopCL (a := some (.lst (ns.map D.int))) (b := some (.int c)) (C := CBL) (F := ifO (notR (chainR (fun _ => .ok (.int 1)) (varR 2) (fun _ => .ok (.int 20)) leI leI)) (raiseO CBL (okI 2)) (fun ρ => .nx ρ)) (fun n hn => by
              rw [ev_if, c1 (y := n) rfl rfl rfl, ev_out_ok]
              unfold TX.runOk
              cases (decide (1 ≤ n) && decide (n ≤ 20)) with
              | true => rfl
              | false => exact ev_raise (decide_eq_true (sm_log hn))) ns none hc.1
            by_cases h2 : ns.all TX.runOk = true
            · obtain ⟨o', e2⟩ := L1 h2
              rw [e2, h2, Bool.true_and, ev_then_nx, ev_if, c1 (y := c) rfl rfl rfl, ev_out_ok]
              cases (decide (0 ≤ c) && decide (c ≤ 5)) with
              | true => rfl
              | false =>
                have e3 : raiseO CBL (okI 1) [some (.lst (ns.map D.int)), some (.int c), o'] = .exc CBL := ev_raise (decide_eq_true (sm_log hc.2))
                simp only [Bool.not_false, if_true, e3, ev_outexc, Bool.false_eq_true, if_false]
            · have h2' := Bool.eq_false_iff.mpr h2
              rw [L2 h2', h2', Bool.false_and]
              rfl
          · have h1' := Bool.eq_false_iff.mpr h1
            rw [h1', Bool.false_and, Bool.false_and]
            rfl
        · rw [if_neg hc] at h; exact absurd rfl h
    · exact absurd rfl h
def lineD (CL : Addr) (ns : List Int) (c : Int) : D := .ins CL ["minutes", "gap"] [.tup (ns.map D.int), .int c]
def mRuns (CL : Addr) : List D → Res D
  | [d] => (fldD CL "minutes" d).bind fun x => listD [x]
  | _ => .bad
def mClear (CL : Addr) : List D → Res D
  | [d] => fldD CL "gap" d
  | _ => .bad
theorem scR : FnScope ["self"] ["self"] (defScope sRuns) := ⟨rfl, rfl, rfl, by decide +kernel, rfl, by decide +kernel, by decide +kernel⟩
theorem ok_runs {f : Addr} {fd : FuncData} (F : Fun K "runs" "Line.runs" sRuns f fd) (T : Txt K mg CL CHE CBL CBT CBX) : FnOk P w K mg base (CXF P w) 1 f fd ["self"] (pureSp K (mRuns CL)) := by
  refine F.pure scR (fun ds h => ?_) (fun cdv A outer s H E hr => ?_)
  · unfold mRuns at h
    split at h
    · rfl
    · exact absurd rfl h
  · refine ⟨_, pos_one (po_ret (pd_callTy call_list_of dc_list rfl T.lst bo_list (pda_cons (pd_fld (dv 0) T.cl T.nM) pda_nil))), ?_⟩
    intro ds h
    match ds, h with
    | [d], h =>
      show outM ((((fldD CL "minutes" d).bind _).bind _).out _) = (fldD CL "minutes" d).bind _
      cases fldD CL "minutes" d with
      | ok x =>
        show outM ((listD [x]).out Out.rt) = listD [x]
        cases listD [x] <;> rfl
      | _ => rfl
    | [], h => exact absurd rfl h
    | _ :: _ :: _, h => exact absurd rfl h
theorem scC : FnScope ["self"] ["self"] (defScope sClear) := ⟨rfl, rfl, rfl, by decide +kernel, rfl, by decide +kernel, by decide +kernel⟩
theorem ok_clear {f : Addr} {fd : FuncData} (F : Fun K "clear" "Line.clear" sClear f fd) (T : Txt K mg CL CHE CBL CBT CBX) : FnOk P w K mg base (CXF P w) 1 f fd ["self"] (pureSp K (mClear CL)) := by
  refine F.pure scC (fun ds h => ?_) (fun cdv A outer s H E hr => ?_)
  · unfold mClear at h
    split at h
    · rfl
    · exact absurd rfl h
  · refine ⟨_, pos_one (po_ret (pd_fld (dv 0) T.cl T.nG)), ?_⟩
    intro ds h
    match ds, h with
    | [d], h =>
      show outM ((fldD CL "gap" d).out _) = fldD CL "gap" d
      cases fldD CL "gap" d <;> rfl
    | [], h => exact absurd rfl h
    | _ :: _ :: _, h => exact absurd rfl h
theorem runs_line {ns : List Int} {c : Int} : mRuns CL [lineD CL ns c] = .ok (.lst (ns.map D.int)) := by
  unfold mRuns lineD fldD
  dsimp only
  rw [if_pos rfl]
  rfl
theorem clear_line {ns : List Int} {c : Int} : mClear CL [lineD CL ns c] = .ok (.int c) := by
  unfold mClear lineD fldD
  dsimp only
  rw [if_pos rfl]
  have : getF ["minutes", "gap"] [.tup (ns.map D.int), .int c] "gap" = some (.int c) := by
    unfold getF
    rw [if_neg (by decide +kernel)]
    unfold getF
    rw [if_pos rfl]
  rw [this]
theorem isLine {ns : List Int} {c : Int} {m : Str} (h : (["minutes", "gap"] : List Str).contains m = false) : insOf CL m (lineD CL ns c) = true := by
  unfold insOf lineD
  dsimp only
  rw [h]
  simp
def mWhole : List D → Res D
  | [.int _] => .ok (.bl true)
  | _ => .bad
theorem scW : FnScope ["found"] ["found"] (defScope sWhole) := ⟨rfl, rfl, rfl, by decide +kernel, rfl, by decide +kernel, by decide +kernel⟩
theorem ok_whole {f : Addr} {fd : FuncData} (F : Fun K "_law_whole" "_law_whole" sWhole f fd) (T : Txt K mg CL CHE CBL CBT CBX) : FnOk P w K mg base (CXF P w) 1 f fd ["found"] (pureSp K mWhole) := by
  refine F.pure scW (fun ds h => ?_) (fun cdv A outer s H E hr => ?_)
  · unfold mWhole at h
    split at h
    · rfl
    · exact absurd rfl h
  · refine ⟨_, pos_one (po_ret (pd_and (pd_isi (vc := .ty "int") (dv 0) (pe_bltn rfl T.tint bo_int rfl) (fun z => nomatch z) rfl T.isi) (pd_one (pd_not (pd_isi (vc := .ty "bool") (dv 0) (pe_bltn rfl T.tbool bo_bool rfl) (fun z => nomatch z) rfl T.isi))))), ?_⟩
    intro ds h
    unfold mWhole at h ⊢
    split at h
    · rename_i i
      have e1 : isiD K (.type "int") (.int i) = .ok (.bl true) := by unfold isiD tyD; dsimp only; rw [T.kii]
      have e2 : isiD K (.type "bool") (.int i) = .ok (.bl false) := by unfold isiD tyD; dsimp only; rw [T.kib]
      have e0 : startD ["found"] [D.int i] = [some (.int i)] := rfl
      rw [e0]
      have e1' : isiD (CXof P w K mg base ["found"] "_law_whole" (defScope sWhole) f cdv A outer s H E).K (cV (.ty "int")) (.int i) = .ok (.bl true) := e1
      have e2' : isiD (CXof P w K mg base ["found"] "_law_whole" (defScope sWhole) f cdv A outer s H E).K (cV (.ty "bool")) (.int i) = .ok (.bl false) := e2
      simp only [ev_seq, ev_set, ev_if, ev_op, ev_cl, ev_asB, ev_ret, ev_var0, ev_varS, ev_set0, ev_setS, ev_bind_ok, ev_bind_exc, ev_out_ok, ev_out_exc, ev_then_nx, ev_then_rt, ev_then_exc, ev_outrt, ev_outexc, ev_lenL, ev_lt, ev_le, ev_gt, ev_add, ev_and, ev_or, ev_not, ev_for, ev_neI, ev_eqI, ev_andV, ev_notV, ev_lstR, ev_tupR, ev_meth, ev_slice, ev_isn, ev_notn, ev_asI, ev_seqD, ev_rT, ev_t0, ev_t1, ev_l0, ev_l1, ev_lk1, ev_lk2, ev_lk4, if_true, if_false, Bool.false_eq_true, Bool.not_true, Bool.not_false, Bool.true_and, Bool.false_and, Bool.true_or, Bool.false_or, ev_lenR, ev_eqS, ev_neS, e1', e2']
    · exact absurd rfl h
def mRow : List D → Res D
  | [.lst l, .lst l'] => match allInts l, allInts l' with
    | some ns, some ns' => if ns'.length ≤ 1000 then .ok (.bl (decide (ns = ns'))) else .bad
    | _, _ => .bad
  | _ => .bad
theorem mRow_ok {ns ns' : List Int} (h : ns'.length ≤ 1000) : mRow [.lst (ns.map D.int), .lst (ns'.map D.int)] = .ok (.bl (decide (ns = ns'))) := by
  unfold mRow
  dsimp only
  rw [allInts_map, allInts_map]
  exact if_pos h
theorem scRow : FnScope ["found", "due", "k"] ["found", "due"] (defScope sRow) := ⟨rfl, rfl, rfl, by decide +kernel, rfl, by decide +kernel, by decide +kernel⟩
def sameAt (ns ns' : List Int) : D → Bool
  | .int k => decide (ns[k.toNat]? = ns'[k.toNat]?)
  | _ => false
theorem rows_eq : ∀ {ns ns' : List Int}, ns.length = ns'.length → (rngD 0 ns'.length).all (sameAt ns ns') = decide (ns = ns') := by
  intro ns ns' hl
  by_cases e : ns = ns'
  · subst e
    rw [decide_eq_true rfl, List.all_eq_true]
    intro d hd
    unfold rngD at hd
    obtain ⟨i, _, rfl⟩ := List.mem_map.mp hd
    exact decide_eq_true rfl
  · rw [decide_eq_false e, Bool.eq_false_iff]
    intro h
    rw [List.all_eq_true] at h
    refine e (List.ext_getElem? fun i => ?_)
    by_cases hi : i < ns'.length
    · have := h (.int (0 + (i : Int))) (List.mem_map.mpr ⟨i, List.mem_range.mpr hi, rfl⟩)
      have h2 : ns[(0 + (i : Int)).toNat]? = ns'[(0 + (i : Int)).toNat]? := of_decide_eq_true this
      have h3 : (0 + (i : Int)).toNat = i := by omega
      rw [h3] at h2
      exact h2
    · rw [List.getElem?_eq_none (by omega), List.getElem?_eq_none (by omega)]
theorem ok_row {f fW : Addr} {fd fdW : FuncData} (F : Fun K "_law_row" "_law_row" sRow f fd) (T : Txt K mg CL CHE CBL CBT CBX) (GW : FnOk P w K mg base (CXF P w) 1 fW fdW ["found"] (pureSp K mWhole)) (bW : Binds K fdW ["found"] []) (mW : mg "_law_whole" = some (.ref fW)) (kW : PySem.W.keepIn K (.ref fW) = true) : FnOk P w K mg base (CXF P w) 2 f fd ["found", "due"] (pureSp K mRow) := by
  refine F.pure scRow (fun ds h => ?_) (fun cdv A outer s H E hr => ?_)
  · unfold mRow at h
    split at h
    · rfl
    · exact absurd rfl h
  · refine ⟨_, pos_cons (po_if (PDW.pt (pdw_or (pdt_not (pdt_val (pd_is T.isi (dv 0) (pe_ty T.lst bo_list))))
          (pdw_or1 (pdt_cmp (do_ne hr.units) (pd_len T.len (dv 0)) (pd_len T.len (dv 1)) (nomark _)))))
        (pos_one (po_ret pd_bl)) pos_nil)
      (pos_cons (po_for PassesOwn.leaving rfl scRow.nd (j := 2) rfl (Or.inl rfl) (pi_drange1 rfl T.rng (pda_cons (pd_len T.len (dv 1)) pda_nil))
        (pos_one (po_if (PDW.pt (pdw_or (pdt_not (pdt_val (pd_cl GW hr mW kW bW (pda_cons (pd_ix (dv 0) (dv 2)) pda_nil)))) (pdw_or1 (pdt_cmp (do_ne hr.units) (pd_ix (dv 0) (dv 2)) (pd_ix (dv 1) (dv 2)) (nomark _)))))
          (pos_one (po_ret pd_bl)) pos_nil)))
      (pos_one (po_ret pd_bl))), ?_⟩
    intro ds h
    unfold mRow at h ⊢
    split at h
    · rename_i l l'
      cases q : allInts l with
      | none => rw [q] at h; exact absurd rfl h
      | some ns =>
        cases q' : allInts l' with
        | none => rw [q, q'] at h; exact absurd rfl h
        | some ns' =>
          rw [q, q'] at h
          dsimp only at h ⊢
          by_cases hc : ns'.length ≤ 1000
          · rw [if_pos hc]
            have e := allInts_eq q
            have e' := allInts_eq q'
            subst e e'
            clear h q q'
            have e0 : startD ["found", "due", "k"] [D.lst (ns.map D.int), .lst (ns'.map D.int)] = [some (.lst (ns.map D.int)), some (.lst (ns'.map D.int)), none] := rfl
            rw [e0]
            have hl : ((ns.map D.int).length : Int) = ns.length := by simp
            have hl' : ((ns'.map D.int).length : Int) = ns'.length := by simp
            have e1 : isiD K (.type "list") (.lst (ns.map D.int)) = .ok (.bl true) := by unfold isiD tyD; dsimp only; rw [T.kll]
            have c1 : ∀ {a b : Int}, neO (.int a) (.int b) = .ok (.bl (!(a == b))) := rfl
            have e1' : isiD (CXof P w K mg base ["found", "due", "k"] "_law_row" (defScope sRow) f cdv A outer s H E).K (cV (.ty "list")) (.lst (ns.map D.int)) = .ok (.bl true) := e1
            simp only [ev_seq, ev_set, ev_if, ev_op, ev_cl, ev_asB, ev_ret, ev_var0, ev_varS, ev_set0, ev_setS, ev_bind_ok, ev_bind_exc, ev_out_ok, ev_out_exc, ev_then_nx, ev_then_rt, ev_then_exc, ev_outrt, ev_outexc, ev_lenL, ev_lt, ev_le, ev_gt, ev_add, ev_and, ev_or, ev_not, ev_for, ev_neI, ev_eqI, ev_andV, ev_notV, ev_lstR, ev_tupR, ev_meth, ev_slice, ev_isn, ev_notn, ev_asI, ev_seqD, ev_rT, ev_t0, ev_t1, ev_l0, ev_l1, ev_lk1, ev_lk2, ev_lk4, if_true, if_false, Bool.false_eq_true, Bool.not_true, Bool.not_false, Bool.true_and, Bool.false_and, Bool.true_or, Bool.false_or, ev_lenR, ev_eqS, ev_neS, e1', hl, hl']
            by_cases hn : ns.length = ns'.length
            · have hb : ((ns.length : Int) == (ns'.length : Int)) = true := by rw [hn]; simp
              rw [hb]
              have er : rng1 [.int (ns'.length : Int)] = .ok (rngD 0 ns'.length) := by
                unfold rng1
                dsimp only
                rw [if_pos (by unfold smallI; rw [decide_eq_true (by omega), decide_eq_true (by omega)]; rfl)]
                rw [Int.toNat_natCast]
              simp only [ev_seq, ev_set, ev_if, ev_op, ev_cl, ev_asB, ev_ret, ev_var0, ev_varS, ev_set0, ev_setS, ev_bind_ok, ev_bind_exc, ev_out_ok, ev_out_exc, ev_then_nx, ev_then_rt, ev_then_exc, ev_outrt, ev_outexc, ev_lenL, ev_lt, ev_le, ev_gt, ev_add, ev_and, ev_or, ev_not, ev_for, ev_neI, ev_eqI, ev_andV, ev_notV, ev_lstR, ev_tupR, ev_meth, ev_slice, ev_isn, ev_notn, ev_asI, ev_seqD, ev_rT, ev_t0, ev_t1, ev_l0, ev_l1, ev_lk1, ev_lk2, ev_lk4, if_true, if_false, Bool.false_eq_true, Bool.not_true, Bool.not_false, Bool.true_and, Bool.false_and, Bool.true_or, Bool.false_or, ev_lenR, ev_eqS, ev_neS, hl', er]
              rw [for_looks (R := .rt (.bl false)) (good := sameAt ns ns') rfl (rngD 0 ns'.length)]
              · rw [rows_eq hn]
                cases decide (ns = ns') with
                | true => rfl
                | false => rfl
              · intro d hd
                unfold rngD at hd
                obtain ⟨i, hi, rfl⟩ := List.mem_map.mp hd
                have hi' := List.mem_range.mp hi
                have g1 : atI (ns.map D.int) (0 + (i : Int)) = some (.int (ns[i]'(by omega))) := atI_of (by omega) (by
                  have : (0 + (i : Int)).toNat = i := by omega
                  rw [this, List.getElem?_map, List.getElem?_eq_getElem (by omega)]; rfl)
                have g2 : atI (ns'.map D.int) (0 + (i : Int)) = some (.int (ns'[i]'hi')) := atI_of (by omega) (by
                  have : (0 + (i : Int)).toNat = i := by omega
                  rw [this, List.getElem?_map, List.getElem?_eq_getElem (by omega)]; rfl)
                have e5 : ([some (.lst (ns.map D.int)), some (.lst (ns'.map D.int)), none] : DS).set 2 (some (.int (0 + (i : Int)))) = [some (.lst (ns.map D.int)), some (.lst (ns'.map D.int)), some (.int (0 + (i : Int)))] := rfl
                rw [e5]
                have w0 : ∀ {n : Int}, mWhole [.int n] = .ok (.bl true) := rfl
                simp only [ev_seq, ev_set, ev_if, ev_op, ev_cl, ev_asB, ev_ret, ev_var0, ev_varS, ev_set0, ev_setS, ev_bind_ok, ev_bind_exc, ev_out_ok, ev_out_exc, ev_then_nx, ev_then_rt, ev_then_exc, ev_outrt, ev_outexc, ev_lenL, ev_lt, ev_le, ev_gt, ev_add, ev_and, ev_or, ev_not, ev_for, ev_neI, ev_eqI, ev_andV, ev_notV, ev_lstR, ev_tupR, ev_meth, ev_slice, ev_isn, ev_notn, ev_asI, ev_seqD, ev_rT, ev_t0, ev_t1, ev_l0, ev_l1, ev_lk1, ev_lk2, ev_lk4, if_true, if_false, Bool.false_eq_true, Bool.not_true, Bool.not_false, Bool.true_and, Bool.false_and, Bool.true_or, Bool.false_or, ev_lenR, ev_eqS, ev_neS, ev_ixL g1, ev_ixL g2, w0]
                have h3 : (0 + (i : Int)).toNat = i := by omega
                have h4 : sameAt ns ns' (.int (0 + (i : Int))) = ((ns[i]'(by omega)) == (ns'[i]'hi')) := by
                  show decide (ns[(0 + (i : Int)).toNat]? = ns'[(0 + (i : Int)).toNat]?) = _
                  rw [h3, List.getElem?_eq_getElem (by omega), List.getElem?_eq_getElem (by omega)]
                  by_cases hq : (ns[i]'(by omega)) = (ns'[i]'hi')
                  · rw [hq]; simp
                  · have h5 : ((ns[i]'(by omega)) == (ns'[i]'hi')) = false := beq_eq_false_iff_ne.mpr hq
                    rw [h5]
                    simp [hq]
                rw [h4]
                cases ((ns[i]'(by omega)) == (ns'[i]'hi')) <;> rfl
            · have hb : ((ns.length : Int) == (ns'.length : Int)) = false := beq_eq_false_iff_ne.mpr (by omega)
              rw [hb]
              have : ns ≠ ns' := fun z => hn (by rw [z])
              rw [decide_eq_false this]
              rfl
          · rw [if_neg hc] at h; exact absurd rfl h
    · exact absurd rfl h
def mInit (CL CBL : Addr) : List D → Res D
  | [.lst l, .int c] => (mCheckLine CBL [.lst l, .int c]).bind fun _ => .ok (.ins CL ["minutes", "gap"] [.tup l, .int c])
  | _ => .bad
theorem mInit_mk : MkOf CL (mInit CL CBL) := by
  intro ds d h
  unfold mInit at h
  split at h
  · rename_i l c
    cases q : mCheckLine CBL [.lst l, .int c] with
    | ok x => rw [q] at h; cases h; exact ⟨_, _, rfl⟩
    | exc x => rw [q] at h; cases h
    | bad => rw [q] at h; cases h
  · cases h
theorem mInit_inv {E : XK} {H : Hp} {ds : List D} (h : OkR E H (mInit CL CBL ds)) : ∃ l c, ds = [.lst l, .int c] := by
  unfold mInit at h
  split at h
  · exact ⟨_, _, rfl⟩
  · exact h.elim
theorem flds_eq (v u : V) : putF "gap" u (putF "minutes" v []) = ([("minutes", v), ("gap", u)] : List (Str × V)) := by
  show (if ("minutes" : Str) = "gap" then [(("minutes" : Str), u)] else (("minutes" : Str), v) :: putF "gap" u []) = ([("minutes", v), ("gap", u)] : List (Str × V))
  rw [if_neg (by decide +kernel)]
  rfl
theorem scI : FnScope ["self", "runs", "clear"] ["self", "runs", "clear"] (defScope sInit) := ⟨rfl, rfl, rfl, by decide +kernel, rfl, by decide +kernel, by decide +kernel⟩
theorem ok_init {f fC : Addr} {fd fdC : FuncData} (F : Fun K "__init__" "Line.__init__" sInit f fd) (T : Txt K mg CL CHE CBL CBT CBX) (GC : FnOk P w K mg base (CXF P w) 1 fC fdC ["runs", "clear"] (pureSp K (mCheckLine CBL))) (bC : Binds K fdC ["runs", "clear"] []) (mC : mg "check_line" = some (.ref fC)) (kC : PySem.W.keepIn K (.ref fC) = true) : FnOk P w K mg base (CXF P w) 2 f fd ["self", "runs", "clear"] (initSp K CL (mInit CL CBL)) := by
  refine F.okF scI (fun vs H Q E h => ?_) (fun cdv A outer s H vs Q E hr h => ?_)
  · obtain ⟨p, dx, rest, ds, G, rfl, _, _, _, rl, ho, _⟩ := h
    obtain ⟨l, c, rfl⟩ := mInit_inv ho
    have := rl.length
    simp only [List.length_cons, List.length_nil] at this ⊢
    omega
  · obtain ⟨p, dx, rest, ds, G, rfl, hp, hs, gp, rl, ho, k⟩ := h
    obtain ⟨l, c, rfl⟩ := mInit_inv ho
    · obtain ⟨v1, r1, rfl, p1, rl⟩ := rl.inv
      obtain ⟨v2, r2, rfl, p2, rl⟩ := rl.inv
      cases rl.inv0
      have ho' : OkR E H ((mCheckLine CBL [.lst l, .int c]).bind fun _ => .ok (D.ins CL ["minutes", "gap"] [.tup l, .int c])) := ho
      refine ⟨_, pss_cons (ps_expr (pe_d (E := E) (pd_cl GC hr mC kC bC (pda_cons (dv 1) (pda_cons (dv 2) pda_nil)))))
        (pss_cons (ps_fld (pv 0) (pe_d (E := E) (pd_tuple T.tup (dv 1))) rfl) (pss_one (ps_fld (pv 0) (pv 2) rfl))), ?_⟩
      have ro : Ro K G (start ["self", "runs", "clear"] [.ref p, v1, v2]) [none, some (.lst l), some (.int c)] := Ro.skip (Ro.cons p1 (Ro.cons p2 Ro.nil))
      refine ⟨G, _, hs, ro, ho'.fst, fun d ed v G1 H1 x1 rp1 => ?_⟩
      refine ⟨G1, _, x1.gh, ro.mono x1.gg, trivial, fun d2 ed2 u G2 H2 x2 rp2 => ?_⟩
      have ed3 : d2 = .tup l := by cases ed2; rfl
      subst ed3
      have x := x1.trans x2
      have h2p : H2 p = some (.ins CL dx []) := x.hh _ _ hp
      have g2p : G2 p = none := by
        cases q : G2 p with
        | none => rfl
        | some o =>
          rcases x.nw p o q with z | z
          · rw [gp] at z; cases z
          · rw [hp] at z; cases z
      refine ⟨_, rfl, p, CL, dx, [], rfl, h2p, T.cl, T.nM, (by show 0 < 1000; decide), _, rfl, _, rfl, p, CL, dx, _, rfl, upd_same, T.cl, T.nG, (by show 1 < 1000; decide), ?_⟩
      refine k ["minutes", "gap"] [.tup l, .int c] ?_ [("minutes", u), ("gap", v2)] G2 _ rfl (.cons rp2 (.cons (p2.mono x.gg) .nil)) (by rw [upd_same, flds_eq]) (fun b o e hb => ?_) x.gg (fun b o e => ?_) x.nw g2p
      · show (mCheckLine CBL [.lst l, .int c]).bind _ = _
        have : mCheckLine CBL [.lst l, .int c] = .ok d := ed
        rw [this]
        rfl
      · rw [upd_ne hb, upd_ne hb]
        exact x.hh b o e
      · have hb : b ≠ p := fun z => by subst z; rw [g2p] at e; cases e
        rw [upd_ne hb, upd_ne hb]
        exact x.gh b o e
end
end K13
set_option Elab.async false
set_option linter.all false
set_option maxRecDepth 100000
set_option maxHeartbeats 4000000
namespace TX
open PySem PySem.Builtin PySem.Builtin.Str PySem.StrLaws
theorem join_len {sep : Str} : ∀ {qs : List Str}, qs ≠ [] → (qs.map fun q => q.length).sum + (qs.length - 1) * sep.length = (Str.join sep qs).length
  | [], h => absurd rfl h
  | [x], _ => by simp [join_one]
  | x :: y :: r, _ => by
    have ih := join_len (sep := sep) (qs := y :: r) (by simp)
    show _ = (x ++ sep ++ Str.join sep (y :: r)).length
    rw [Str.length_append, Str.length_append, ← ih]
    simp only [List.map_cons, List.sum_cons, List.length_cons, Nat.add_sub_cancel]
    rw [Nat.add_mul]
    omega
theorem split_count {z y : Str} (hy : 1 ≤ y.length) : (Txt.split z y).length ≤ z.length + 1 := by
  have h := join_len (sep := y) (split_ne z y)
  rw [join_split] at h
  have h2 : (Txt.split z y).length - 1 ≤ ((Txt.split z y).length - 1) * y.length := Nat.le_mul_of_pos_right _ hy
  omega
theorem mem_le : ∀ {l : List Nat} {n : Nat}, n ∈ l → n ≤ l.sum
  | [], _, h => by cases h
  | a :: l, n, h => by
    rw [List.sum_cons]
    rcases List.mem_cons.mp h with rfl | h
    · omega
    · have := mem_le h
      omega
theorem part_len {ps : List Str} {sep p : Str} (h : p ∈ ps) : p.length ≤ (Str.join sep ps).length := by
  have hne : ps ≠ [] := fun z => by rw [z] at h; cases h
  have e := join_len (sep := sep) hne
  have : p.length ≤ (ps.map fun q => q.length).sum := mem_le (List.mem_map.mpr ⟨p, h, rfl⟩)
  omega
theorem part_mem {sep : Str} {c : Nat} : ∀ {ps : List Str} {p : Str}, p ∈ ps → c ∈ p.cps.toList → c ∈ (Str.join sep ps).cps.toList
  | [], _, h, _ => by cases h
  | [x], p, h, hc => by rw [join_one, ← List.mem_singleton.mp h]; exact hc
  | x :: y :: r, p, h, hc => by
    rw [join_cons2, List.mem_append, List.mem_append]
    rcases List.mem_cons.mp h with rfl | h
    · exact .inl hc
    · exact .inr (.inr (part_mem h hc))
end TX
namespace K13
open PySem L2
theorem okS_part {z y p : Str} (hz : okS z = true) (hp : p ∈ PySem.Txt.split z y) : okS p = true := by
  have hj := StrLaws.join_split z y
  have h1 : p.length ≤ z.length := by have := TX.part_len (sep := y) hp; rw [hj] at this; exact this
  unfold okS
  rw [Bool.and_eq_true, decide_eq_true_eq, List.all_eq_true]
  refine ⟨Nat.le_trans h1 (okS_len hz), fun c hc => decide_eq_true (okS_sign hz c ?_)⟩
  have := TX.part_mem (sep := y) hp hc
  rwa [hj] at this
theorem split_ev {z y : Str} (hz : z.length ≤ 190) (hy : 1 ≤ y.length) : splitD z (.str y) = .ok (.lst ((PySem.Txt.split z y).map D.str)) := by
  have h1 := TX.split_count (z := z) hy
  unfold splitD
  dsimp only
  refine if_pos ?_
  rw [Bool.and_eq_true, Bool.and_eq_true]
  refine ⟨⟨?_, decide_eq_true (by omega)⟩, decide_eq_true (by omega)⟩
  have : (y.length == 0) = false := beq_eq_false_iff_ne.mpr (by omega)
  rw [this]
  rfl
theorem ev_onStr {fo : DS → Res D} {g : Str → DS → Res D} {ρ : DS} {z : Str} (h : fo ρ = .ok (.str z)) : onStr fo g ρ = g z ρ := by
  unfold onStr
  rw [h]
  rfl
section
variable {P : Program} {w : World} {K : PySem.W.Frag} {mg : Str → Option Value} {base : Heap} {CL CHE CBL CBT CBX : Addr}
def mNumber (CBX : Addr) : List D → Res D
  | [.str z, .int lo, .int hi] => if (okS z && decide (0 ≤ lo) && decide (lo ≤ hi) && decide (hi ≤ 90)) = true then (match TX.findN lo (hi + 1 - lo).toNat z with | some n => .ok (.int n) | none => .exc CBX) else .bad
  | _ => .bad
theorem mNumber_inv {ds : List D} (h : mNumber CBX ds ≠ .bad) : ∃ z lo hi, ds = [.str z, .int lo, .int hi] ∧ okS z = true ∧ 0 ≤ lo ∧ lo ≤ hi ∧ hi ≤ 90 ∧ mNumber CBX ds = (match TX.findN lo (hi + 1 - lo).toNat z with | some n => .ok (.int n) | none => .exc CBX) := by
  unfold mNumber at h ⊢
  split at h
  · rename_i z lo hi
    split at h
    · rename_i hc
      have hc' := hc
      simp only [Bool.and_eq_true, decide_eq_true_eq] at hc'
      exact ⟨z, lo, hi, rfl, hc'.1.1.1, hc'.1.1.2, hc'.1.2, hc'.2, if_pos hc⟩
    · exact absurd rfl h
  · exact absurd rfl h
theorem mNumber_ok {z : Str} {lo hi : Int} (h : okS z = true) (h0 : 0 ≤ lo) (h1 : lo ≤ hi) (h2 : hi ≤ 90) : mNumber CBX [.str z, .int lo, .int hi] = (match TX.findN lo (hi + 1 - lo).toNat z with | some n => .ok (.int n) | none => .exc CBX) := by
  unfold mNumber
  dsimp only
  rw [if_pos (by rw [h, decide_eq_true h0, decide_eq_true h1, decide_eq_true h2]; rfl)]
theorem scN : FnScope ["figures", "least", "most", "number"] ["figures", "least", "most"] (defScope sNumber) := ⟨rfl, rfl, rfl, by decide +kernel, rfl, by decide +kernel, by decide +kernel⟩
theorem loopN {F : DS → Out} {a b c : Option D} {z : Str} (hF : ∀ n : Int, sm n = true → F [a, b, c, some (.int n)] = if decide (z = TX.nS n) = true then .rt (.int n) else .nx [a, b, c, some (.int n)]) : ∀ (ns : List Int) (o : Option D), ns.all sm = true →
    (∀ k, (ns.find? fun k => decide (z = TX.nS k)) = some k → forO 3 F (ns.map D.int) [a, b, c, o] = .rt (.int k)) ∧ ((ns.find? fun k => decide (z = TX.nS k)) = none → ∃ o', forO 3 F (ns.map D.int) [a, b, c, o] = .nx [a, b, c, o'])
  | [], o, _ => ⟨fun k h => (by cases h), fun _ => ⟨o, rfl⟩⟩
  | n :: ns, o, hs => by
    rw [List.all_cons, Bool.and_eq_true] at hs
    have ih := loopN hF ns (some (.int n)) hs.2
    have h1 := hF n hs.1
    rw [List.find?_cons, List.map_cons]
    by_cases hr : decide (z = TX.nS n) = true
    · rw [hr]
      rw [if_pos hr] at h1
      exact ⟨fun k h => (by cases h; exact ev_forR h1), fun h => by cases h⟩
    · rw [Bool.eq_false_iff.mpr hr]
      rw [if_neg hr] at h1
      have e : forO 3 F (D.int n :: ns.map D.int) [a, b, c, o] = forO 3 F (ns.map D.int) [a, b, c, some (.int n)] := ev_forN h1
      rw [e]
      exact ih
def okN (ρ : DS) : Bool := okT 0 ρ && okI 1 ρ && okI 2 ρ
theorem ok_number {f : Addr} {fd : FuncData} (F : Fun K "number_of" "number_of" sNumber f fd) (T : Txt K mg CL CHE CBL CBT CBX) : FnOk P w K mg base (CXF P w) 1 f fd ["figures", "least", "most"] (pureSp K (mNumber CBX)) := by
  refine F.pure scN (fun ds h => ?_) (fun cdv A outer s H E hr => ?_)
  · obtain ⟨z, lo, hi, rfl, _⟩ := mNumber_inv h
    rfl
  · refine ⟨_, pos_cons (po_for PassesOwn.leaving rfl scN.nd (j := 3) rfl (Or.inl rfl) (pi_drange2 rfl T.rng (pda_cons (dv 1) (pda_cons (pd_bin do_add (dv 2) pd_int) pda_nil)))
        (pos_one (po_if (pdt_cmp (do_eq hr.units) (dv 0) (pd_str1 T.tstr (dv 3)) (nomark _)) (pos_one (po_ret (dv 3))) pos_nil)))
      (pos_one (po_rF T.bx (pfs_cons (pf_repr (pv 0)) (pfs_cons pf_str (pfs_cons (pf_int (pv 1)) (pfs_cons pf_str (pfs_cons (pf_int (pv 2)) pfs_nil))))) okN (fun σ G H ρ _ hr hk => by
        unfold okN at hk
        rw [Bool.and_eq_true, Bool.and_eq_true] at hk
        exact ⟨okT_t hr hk.1.1, trivial, okI_t hr hk.1.2, trivial, okI_t hr hk.2, trivial⟩))), ?_⟩
    intro ds h
    obtain ⟨z, lo, hi, rfl, hz, h0, h1, h2, em⟩ := mNumber_inv h
    rw [em]
    clear em h
    have e0 : startD ["figures", "least", "most", "number"] [D.str z, .int lo, .int hi] = [some (.str z), some (.int lo), some (.int hi), none] := rfl
    rw [e0]
    have er : rng2 [.int lo, .int (hi + 1)] = .ok (((List.range (hi + 1 - lo).toNat).map fun (i : Nat) => lo + (i : Int)).map D.int) := by
      unfold rng2
      dsimp only
      rw [if_pos (by unfold smallI; simp only [Bool.and_eq_true, decide_eq_true_eq]; omega)]
      unfold rngD
      rw [List.map_map]
      rfl
    have hall : ((List.range (hi + 1 - lo).toNat).map fun (i : Nat) => lo + (i : Int)).all sm = true := by
      rw [List.all_eq_true]
      intro n hn
      obtain ⟨i, hi', rfl⟩ := List.mem_map.mp hn
      rw [List.mem_range] at hi'
      unfold sm
      rw [Bool.and_eq_true, decide_eq_true_eq, decide_eq_true_eq]
      omega
    simp only [ev_seq, ev_set, ev_if, ev_op, ev_cl, ev_asB, ev_ret, ev_var0, ev_varS, ev_set0, ev_setS, ev_bind_ok, ev_bind_exc, ev_out_ok, ev_out_exc, ev_then_nx, ev_then_rt, ev_then_exc, ev_outrt, ev_outexc, ev_lenL, ev_lt, ev_le, ev_gt, ev_add, ev_and, ev_or, ev_not, ev_for, ev_neI, ev_eqI, ev_andV, ev_notV, ev_lstR, ev_tupR, ev_meth, ev_slice, ev_isn, ev_notn, ev_asI, ev_seqD, ev_rT, ev_t0, ev_t1, ev_l0, ev_l1, ev_lk1, ev_lk2, ev_lk4, if_true, if_false, Bool.false_eq_true, Bool.not_true, Bool.not_false, Bool.true_and, Bool.false_and, Bool.true_or, Bool.false_or, ev_lenR, ev_eqS, ev_neS, er]
    have key := loopN (a := some (.str z)) (b := some (.int lo)) (c := some (.int hi)) (z := z) (F := ifO (asB (OpR2 (varR 0) (fun ρ => (varR 3 ρ).bind fun a => strI [a]) eqO)) (retO (varR 3)) (fun ρ => .nx ρ)) (fun n hn => by
      have hs : strI [.int n] = .ok (.str (TX.nS n)) := by
        unfold sm at hn
        rw [Bool.and_eq_true, decide_eq_true_eq, decide_eq_true_eq] at hn
        exact ev_strI hn.1 hn.2
      simp only [ev_seq, ev_set, ev_if, ev_op, ev_cl, ev_asB, ev_ret, ev_var0, ev_varS, ev_set0, ev_setS, ev_bind_ok, ev_bind_exc, ev_out_ok, ev_out_exc, ev_then_nx, ev_then_rt, ev_then_exc, ev_outrt, ev_outexc, ev_lenL, ev_lt, ev_le, ev_gt, ev_add, ev_and, ev_or, ev_not, ev_for, ev_neI, ev_eqI, ev_andV, ev_notV, ev_lstR, ev_tupR, ev_meth, ev_slice, ev_isn, ev_notn, ev_asI, ev_seqD, ev_rT, ev_t0, ev_t1, ev_l0, ev_l1, ev_lk1, ev_lk2, ev_lk4, if_true, if_false, Bool.false_eq_true, Bool.not_true, Bool.not_false, Bool.true_and, Bool.false_and, Bool.true_or, Bool.false_or, ev_lenR, ev_eqS, ev_neS, hs]
      have hb : (z == TX.nS n) = decide (z = TX.nS n) := rfl
      rw [hb]) _ none hall
    unfold TX.findN
    cases q : ((List.range (hi + 1 - lo).toNat).map fun (i : Nat) => lo + (i : Int)).find? fun k => decide (z = TX.nS k) with
    | some k =>
      have := key.1 k q
      rw [this]
      rfl
    | none =>
      obtain ⟨o', e⟩ := key.2 q
      rw [e, ev_then_nx]
      have e3 : raiseO CBX okN [some (.str z), some (.int lo), some (.int hi), o'] = .exc CBX := by
        refine ev_raise ?_
        unfold okN
        rw [Bool.and_eq_true, Bool.and_eq_true]
        exact ⟨⟨hz, decide_eq_true (log_small (by omega) (by omega))⟩, decide_eq_true (log_small (by omega) (by omega))⟩
      rw [e3]
      rfl
end
end K13
set_option Elab.async false
set_option linter.all false
set_option maxRecDepth 100000
set_option maxHeartbeats 4000000
namespace K13
open PySem L2
section
variable {P : Program} {w : World} {K : PySem.W.Frag} {mg : Str → Option Value} {base : Heap} {CL CHE CBL CBT CBX : Addr}
def optD : Option Int → D
  | some n => .int n
  | none => .non
def mNum : List D → Res D
  | [.str z] => if decide (z.length ≤ 190) = true then .ok (optD (TX.numOf z)) else .bad
  | _ => .bad
theorem mNum_ok {z : Str} (h : z.length ≤ 190) : mNum [.str z] = .ok (optD (TX.numOf z)) := by
  unfold mNum
  dsimp only
  rw [if_pos (decide_eq_true h)]
theorem scNu : FnScope ["word", "letter"] ["word"] (defScope sNum) := ⟨rfl, rfl, rfl, by decide +kernel, rfl, by decide +kernel, by decide +kernel⟩
theorem figs : (("0123456789" : Str)).cps.toList = [48, 49, 50, 51, 52, 53, 54, 55, 56, 57] := by decide +kernel
theorem fig_in (c : Nat) : decide (c ∈ (("0123456789" : Str)).cps.toList) = TX.isFig c := by
  rw [figs]
  unfold TX.isFig
  rw [Bool.eq_iff_iff, decide_eq_true_eq, Bool.and_eq_true, decide_eq_true_eq, decide_eq_true_eq]
  simp only [List.mem_cons, List.not_mem_nil, or_false]
  omega
theorem zero_is (c : Nat) : ((⟨#[c]⟩ : Str) == ("0" : Str)) = (c == 48) := by
  have e : ("0" : Str) = ⟨#[48]⟩ := by decide +kernel
  rw [e, Bool.eq_iff_iff, beq_iff_eq, beq_iff_eq]
  constructor
  · intro h
    have := congrArg (fun s : Str => s.cps.toList) h
    simpa using this
  · rintro rfl
    rfl
theorem ok_num {f : Addr} {fd : FuncData} (F : Fun K "_law_number" "_law_number" sNum f fd) (T : Txt K mg CL CHE CBL CBT CBX) : FnOk P w K mg base (CXF P w) 1 f fd ["word"] (pureSp K mNum) := by
  refine F.pure scNu (fun ds h => ?_) (fun cdv A outer s H E hr => ?_)
  · unfold mNum at h
    split at h
    · rfl
    · exact absurd rfl h
  · refine ⟨_, pos_cons (po_if (PDW.pt (pdw_or (pdt_cmp do_lt (pd_lenS T.len (dv 0)) pd_int (nomark _)) (pdw_or (pdt_cmp do_gt (pd_lenS T.len (dv 0)) pd_int (nomark _))
          (pdw_or1 (PDW.pt (pdw_and (pdt_cmp (do_eq hr.units) (pd_ix (dv 0) pd_int) pd_str (nomark _)) (pdw_and1 (pdt_cmp do_gt (pd_lenS T.len (dv 0)) pd_int (nomark _)))))))))
        (pos_one (po_ret pd_non)) pos_nil)
      (pos_cons (po_for PassesOwn.leaving rfl scNu.nd (j := 1) rfl (Or.inl rfl) (pi_dstr (dv 0))
        (pos_one (po_if (pdt_cmp do_notInS (dv 1) pd_str (by with_unfolding_all rfl)) (pos_one (po_ret pd_non)) pos_nil)))
      (pos_one (po_ret (pd_intW T.tint (dv 0))))), ?_⟩
    intro ds h
    unfold mNum at h ⊢
    split at h
    · rename_i z
      split at h
      · rename_i hz
        try dsimp only
        rw [if_pos hz]
        have hz' := of_decide_eq_true hz
        clear h
        have e0 : startD ["word", "letter"] [D.str z] = [some (.str z), none] := rfl
        rw [e0]
        have hlen : z.length = z.cps.toList.length := by simp [Str.length]
        have hls : lenS [.str z] = .ok (.int z.length) := ev_lenS (decide_eq_true (by omega))
        have loop : ∀ (F : DS → Out), (∀ (c : Nat) (o : Option D), F [some (.str z), some (.str ⟨#[c]⟩)] = if TX.isFig c = true then .nx [some (.str z), some (.str ⟨#[c]⟩)] else .rt .non) → ∀ (cs : List Nat) (o : Option D),
            (cs.all TX.isFig = true → ∃ o', forO 1 F (cs.map fun c => D.str ⟨#[c]⟩) [some (.str z), o] = .nx [some (.str z), o']) ∧ (cs.all TX.isFig = false → forO 1 F (cs.map fun c => D.str ⟨#[c]⟩) [some (.str z), o] = .rt .non) := by
          intro F hF cs
          induction cs with
          | nil => intro o; exact ⟨fun _ => ⟨o, rfl⟩, fun h => by cases h⟩
          | cons c cs ih =>
            intro o
            have h1 := hF c o
            rw [List.all_cons, List.map_cons]
            by_cases hc : TX.isFig c = true
            · rw [hc, Bool.true_and]
              rw [if_pos hc] at h1
              have e : forO 1 F (D.str ⟨#[c]⟩ :: cs.map fun c => D.str ⟨#[c]⟩) [some (.str z), o] = forO 1 F (cs.map fun c => D.str ⟨#[c]⟩) [some (.str z), some (.str ⟨#[c]⟩)] := ev_forN h1
              rw [e]
              exact ih _
            · rw [if_neg hc] at h1
              rw [Bool.eq_false_iff.mpr hc, Bool.false_and]
              exact ⟨fun h => (by cases h), fun _ => ev_forR h1⟩
        have step : ∀ (c : Nat) (o : Option D), ifO (asB (OpR2 (varR 1) (fun _ => .ok (.str "0123456789")) notInS)) (retO fun _ => .ok .non) (fun ρ => .nx ρ) [some (.str z), some (.str ⟨#[c]⟩)] = if TX.isFig c = true then .nx [some (.str z), some (.str ⟨#[c]⟩)] else .rt .non := by
          intro c o
          simp only [ev_seq, ev_set, ev_if, ev_op, ev_cl, ev_asB, ev_ret, ev_var0, ev_varS, ev_set0, ev_setS, ev_bind_ok, ev_bind_exc, ev_out_ok, ev_out_exc, ev_then_nx, ev_then_rt, ev_then_exc, ev_outrt, ev_outexc, ev_lenL, ev_lt, ev_le, ev_gt, ev_add, ev_and, ev_or, ev_not, ev_for, ev_neI, ev_eqI, ev_andV, ev_notV, ev_lstR, ev_tupR, ev_meth, ev_slice, ev_isn, ev_notn, ev_asI, ev_seqD, ev_rT, ev_t0, ev_t1, ev_l0, ev_l1, ev_lk1, ev_lk2, ev_lk4, if_true, if_false, Bool.false_eq_true, Bool.not_true, Bool.not_false, Bool.true_and, Bool.false_and, Bool.true_or, Bool.false_or, ev_lenR, ev_eqS, ev_neS, ev_notInS, fig_in]
          cases TX.isFig c <;> rfl
        have sg : signsD (.str z) = .ok (z.cps.toList.map fun c => .str ⟨#[c]⟩) := rfl
        have lp := loop _ step z.cps.toList none
        -- the shapes
        by_cases hl1 : z.length < 1
        · have hn : TX.numOf z = none := by
            unfold TX.numOf
            cases q : z.cps.toList with
            | nil => rfl
            | cons a r => rw [hlen, q] at hl1; simp at hl1
          have d1 : decide ((z.length : Int) < 1) = true := decide_eq_true (by omega)
          simp only [ev_seq, ev_set, ev_if, ev_op, ev_cl, ev_asB, ev_ret, ev_var0, ev_varS, ev_set0, ev_setS, ev_bind_ok, ev_bind_exc, ev_out_ok, ev_out_exc, ev_then_nx, ev_then_rt, ev_then_exc, ev_outrt, ev_outexc, ev_lenL, ev_lt, ev_le, ev_gt, ev_add, ev_and, ev_or, ev_not, ev_for, ev_neI, ev_eqI, ev_andV, ev_notV, ev_lstR, ev_tupR, ev_meth, ev_slice, ev_isn, ev_notn, ev_asI, ev_seqD, ev_rT, ev_t0, ev_t1, ev_l0, ev_l1, ev_lk1, ev_lk2, ev_lk4, if_true, if_false, Bool.false_eq_true, Bool.not_true, Bool.not_false, Bool.true_and, Bool.false_and, Bool.true_or, Bool.false_or, ev_lenR, ev_eqS, ev_neS, hls, d1, hn]
          rfl
        · have d1 : decide ((z.length : Int) < 1) = false := decide_eq_false (by omega)
          by_cases hl2 : 2 < z.length
          · have hn : TX.numOf z = none := by
              unfold TX.numOf
              split
              · rename_i c q; rw [hlen, q] at hl2; simp at hl2
              · rename_i a b q; rw [hlen, q] at hl2; simp at hl2
              · rfl
            have d2 : decide (2 < (z.length : Int)) = true := decide_eq_true (by omega)
            simp only [ev_seq, ev_set, ev_if, ev_op, ev_cl, ev_asB, ev_ret, ev_var0, ev_varS, ev_set0, ev_setS, ev_bind_ok, ev_bind_exc, ev_out_ok, ev_out_exc, ev_then_nx, ev_then_rt, ev_then_exc, ev_outrt, ev_outexc, ev_lenL, ev_lt, ev_le, ev_gt, ev_add, ev_and, ev_or, ev_not, ev_for, ev_neI, ev_eqI, ev_andV, ev_notV, ev_lstR, ev_tupR, ev_meth, ev_slice, ev_isn, ev_notn, ev_asI, ev_seqD, ev_rT, ev_t0, ev_t1, ev_l0, ev_l1, ev_lk1, ev_lk2, ev_lk4, if_true, if_false, Bool.false_eq_true, Bool.not_true, Bool.not_false, Bool.true_and, Bool.false_and, Bool.true_or, Bool.false_or, ev_lenR, ev_eqS, ev_neS, hls, d1, d2, hn]
            rfl
          · have d2 : decide (2 < (z.length : Int)) = false := decide_eq_false (by omega)
            cases q : z.cps.toList with
            | nil => rw [hlen, q] at hl1; simp at hl1
            | cons a r =>
              have hix : ixD (.str z) (.int 0) = .ok (.str ⟨#[a]⟩) := by
                unfold ixD
                dsimp only
                have : atI z.cps.toList 0 = some a := atI_of (by decide) (by rw [q]; rfl)
                rw [this]
                exact if_pos (decide_eq_true (by omega))
              cases r with
              | nil =>
                have d3 : decide (1 < (z.length : Int)) = false := decide_eq_false (by rw [hlen, q]; simp)
                have hb : (if (a == 48) = true then Res.ok false else (Res.ok false : Res Bool)) = .ok false := by cases (a == 48) <;> rfl
                simp only [ev_seq, ev_set, ev_if, ev_op, ev_cl, ev_asB, ev_ret, ev_var0, ev_varS, ev_set0, ev_setS, ev_bind_ok, ev_bind_exc, ev_out_ok, ev_out_exc, ev_then_nx, ev_then_rt, ev_then_exc, ev_outrt, ev_outexc, ev_lenL, ev_lt, ev_le, ev_gt, ev_add, ev_and, ev_or, ev_not, ev_for, ev_neI, ev_eqI, ev_andV, ev_notV, ev_lstR, ev_tupR, ev_meth, ev_slice, ev_isn, ev_notn, ev_asI, ev_seqD, ev_rT, ev_t0, ev_t1, ev_l0, ev_l1, ev_lk1, ev_lk2, ev_lk4, if_true, if_false, Bool.false_eq_true, Bool.not_true, Bool.not_false, Bool.true_and, Bool.false_and, Bool.true_or, Bool.false_or, ev_lenR, ev_eqS, ev_neS, hls, d1, d2, d3, hix, zero_is, hb, sg]
                cases hf : TX.isFig a with
                | true =>
                  obtain ⟨o', e⟩ := lp.1 (by rw [q, List.all_cons, hf]; rfl)
                  have hn : TX.numOf z = some ((a : Int) - 48) := by
                    unfold TX.numOf
                    rw [q]
                    dsimp only
                    rw [if_pos hf]
                  rw [e, ev_then_nx]
                  simp only [ev_seq, ev_set, ev_if, ev_op, ev_cl, ev_asB, ev_ret, ev_var0, ev_varS, ev_set0, ev_setS, ev_bind_ok, ev_bind_exc, ev_out_ok, ev_out_exc, ev_then_nx, ev_then_rt, ev_then_exc, ev_outrt, ev_outexc, ev_lenL, ev_lt, ev_le, ev_gt, ev_add, ev_and, ev_or, ev_not, ev_for, ev_neI, ev_eqI, ev_andV, ev_notV, ev_lstR, ev_tupR, ev_meth, ev_slice, ev_isn, ev_notn, ev_asI, ev_seqD, ev_rT, ev_t0, ev_t1, ev_l0, ev_l1, ev_lk1, ev_lk2, ev_lk4, if_true, if_false, Bool.false_eq_true, Bool.not_true, Bool.not_false, Bool.true_and, Bool.false_and, Bool.true_or, Bool.false_or, ev_lenR, ev_eqS, ev_neS, ev_intW hn, hn]
                  rfl
                | false =>
                  have e := lp.2 (by rw [q, List.all_cons, hf]; rfl)
                  have hn : TX.numOf z = none := by
                    unfold TX.numOf
                    rw [q]
                    dsimp only
                    rw [if_neg (by rw [hf]; exact Bool.false_ne_true)]
                  rw [e, hn]
                  rfl
              | cons b r =>
                cases r with
                | cons c r => rw [hlen, q] at hl2; simp at hl2
                | nil =>
                  have d3 : decide (1 < (z.length : Int)) = true := decide_eq_true (by rw [hlen, q]; simp)
                  by_cases ha : (a == 48) = true
                  · have hn : TX.numOf z = none := by
                      unfold TX.numOf
                      rw [q]
                      dsimp only
                      rw [if_neg (by rw [ha]; simp)]
                    simp only [ev_seq, ev_set, ev_if, ev_op, ev_cl, ev_asB, ev_ret, ev_var0, ev_varS, ev_set0, ev_setS, ev_bind_ok, ev_bind_exc, ev_out_ok, ev_out_exc, ev_then_nx, ev_then_rt, ev_then_exc, ev_outrt, ev_outexc, ev_lenL, ev_lt, ev_le, ev_gt, ev_add, ev_and, ev_or, ev_not, ev_for, ev_neI, ev_eqI, ev_andV, ev_notV, ev_lstR, ev_tupR, ev_meth, ev_slice, ev_isn, ev_notn, ev_asI, ev_seqD, ev_rT, ev_t0, ev_t1, ev_l0, ev_l1, ev_lk1, ev_lk2, ev_lk4, if_true, if_false, Bool.false_eq_true, Bool.not_true, Bool.not_false, Bool.true_and, Bool.false_and, Bool.true_or, Bool.false_or, ev_lenR, ev_eqS, ev_neS, hls, d1, d2, d3, hix, zero_is, ha, hn]
                    rfl
                  · have ha' := Bool.eq_false_iff.mpr ha
                    simp only [ev_seq, ev_set, ev_if, ev_op, ev_cl, ev_asB, ev_ret, ev_var0, ev_varS, ev_set0, ev_setS, ev_bind_ok, ev_bind_exc, ev_out_ok, ev_out_exc, ev_then_nx, ev_then_rt, ev_then_exc, ev_outrt, ev_outexc, ev_lenL, ev_lt, ev_le, ev_gt, ev_add, ev_and, ev_or, ev_not, ev_for, ev_neI, ev_eqI, ev_andV, ev_notV, ev_lstR, ev_tupR, ev_meth, ev_slice, ev_isn, ev_notn, ev_asI, ev_seqD, ev_rT, ev_t0, ev_t1, ev_l0, ev_l1, ev_lk1, ev_lk2, ev_lk4, if_true, if_false, Bool.false_eq_true, Bool.not_true, Bool.not_false, Bool.true_and, Bool.false_and, Bool.true_or, Bool.false_or, ev_lenR, ev_eqS, ev_neS, hls, d1, d2, d3, hix, zero_is, ha', sg]
                    cases hf : (TX.isFig a && TX.isFig b) with
                    | true =>
                      obtain ⟨o', e⟩ := lp.1 (by rw [q, List.all_cons, List.all_cons, List.all_nil, Bool.and_true, hf])
                      have hn : TX.numOf z = some (((a : Int) - 48) * 10 + ((b : Int) - 48)) := by
                        unfold TX.numOf
                        rw [q]
                        dsimp only
                        rw [if_pos (by rw [hf, ha']; rfl)]
                      rw [e, ev_then_nx]
                      simp only [ev_seq, ev_set, ev_if, ev_op, ev_cl, ev_asB, ev_ret, ev_var0, ev_varS, ev_set0, ev_setS, ev_bind_ok, ev_bind_exc, ev_out_ok, ev_out_exc, ev_then_nx, ev_then_rt, ev_then_exc, ev_outrt, ev_outexc, ev_lenL, ev_lt, ev_le, ev_gt, ev_add, ev_and, ev_or, ev_not, ev_for, ev_neI, ev_eqI, ev_andV, ev_notV, ev_lstR, ev_tupR, ev_meth, ev_slice, ev_isn, ev_notn, ev_asI, ev_seqD, ev_rT, ev_t0, ev_t1, ev_l0, ev_l1, ev_lk1, ev_lk2, ev_lk4, if_true, if_false, Bool.false_eq_true, Bool.not_true, Bool.not_false, Bool.true_and, Bool.false_and, Bool.true_or, Bool.false_or, ev_lenR, ev_eqS, ev_neS, ev_intW hn, hn]
                      rfl
                    | false =>
                      have e := lp.2 (by rw [q, List.all_cons, List.all_cons, List.all_nil, Bool.and_true, hf])
                      have hn : TX.numOf z = none := by
                        unfold TX.numOf
                        rw [q]
                        dsimp only
                        rw [if_neg (by rw [hf]; simp)]
                      rw [e, hn]
                      rfl
      · exact absurd rfl h
    · exact absurd rfl h
end
end K13
set_option Elab.async false
set_option linter.all false
set_option maxRecDepth 100000
set_option maxHeartbeats 4000000
namespace L2
open PySem
theorem compSc0 {X : Cx} {scope : Scope} {x : Str} (h1 : scope.kind = .function) (h2 : ∀ y ∈ scope.names, y.2 ≠ .cell) (h3 : ∀ y ∈ scope.names, y.2 = .local → scope.names.lookup y.1 = some .local) (h4 : ∀ y ∈ scope.names, y.2 ≠ .free) : CompSc X scope [x] [none] :=
  ⟨h1, h2, h3, fun y hy hk => absurd hk (h4 y hy), by simp, rfl, fun j k x q1 q2 => by cases j with | zero => simp at q1 | succ j => simp at q1, fun j k x q1 q2 => by cases j with | zero => simp at q1 | succ j => simp at q1⟩
theorem ev_compX {fi : DS → Res (List D)} {caps : List (Option Nat)} {j : Nat} {fe : DS → Res D} {ρ : DS} : compX fi caps j fe ρ = (fi ρ).bind fun ds => if lenOk ds.length = true then (mapX (fun d => fe ((capD caps ρ).set j (some d))) ds).bind fun es => .ok (.lst es) else .bad := id rfl
theorem ev_l2 {x y z : D} {r : List D} : ixD (.lst (x :: y :: z :: r)) (.int 2) = .ok z := ev_ixL (atI_of (by decide) rfl)
theorem mapX_strs {f : D → Res D} {h : Str → D} : ∀ {as : List Str}, (∀ w ∈ as, f (.str w) = .ok (h w)) → mapX f (as.map D.str) = .ok (as.map h)
  | [], _ => rfl
  | a :: as, q => by
    rw [List.map_cons, List.map_cons]
    unfold mapX
    rw [q a List.mem_cons_self, ev_bind_ok, mapX_strs fun w hw => q w (List.mem_cons_of_mem _ hw)]
    rfl
theorem mapX_ints {f : D → Res D} {h : Int → D} : ∀ {as : List Int}, (∀ w ∈ as, f (.int w) = .ok (h w)) → mapX f (as.map D.int) = .ok (as.map h)
  | [], _ => rfl
  | a :: as, q => by
    rw [List.map_cons, List.map_cons]
    unfold mapX
    rw [q a List.mem_cons_self, ev_bind_ok, mapX_ints fun w hw => q w (List.mem_cons_of_mem _ hw)]
    rfl
theorem compX_ints {fi : DS → Res (List D)} {caps : List (Option Nat)} {j : Nat} {fe : DS → Res D} {ρ : DS} (as : List Int) (h : Int → D) (e1 : fi ρ = .ok (as.map D.int)) (hl : lenOk (as.map D.int).length = true) (hf : ∀ k ∈ as, fe ((capD caps ρ).set j (some (.int k))) = .ok (h k)) : compX fi caps j fe ρ = .ok (.lst (as.map h)) := by
  rw [ev_compX, e1, ev_bind_ok, if_pos hl, mapX_ints (f := fun d => fe ((capD caps ρ).set j (some d))) hf]
  rfl
theorem compX_strs {fi : DS → Res (List D)} {caps : List (Option Nat)} {j : Nat} {fe : DS → Res D} {ρ : DS} (as : List Str) (h : Str → D) (e1 : fi ρ = .ok (as.map D.str)) (hl : lenOk (as.map D.str).length = true) (hf : ∀ k ∈ as, fe ((capD caps ρ).set j (some (.str k))) = .ok (h k)) : compX fi caps j fe ρ = .ok (.lst (as.map h)) := by
  rw [ev_compX, e1, ev_bind_ok, if_pos hl, mapX_strs (f := fun d => fe ((capD caps ρ).set j (some d))) hf]
  rfl
end L2
namespace K13
open PySem L2
section
variable {P : Program} {w : World} {K : PySem.W.Frag} {mg : Str → Option Value} {base : Heap} {CL CHE CBL CBT CBX : Addr}
theorem len3 {α : Type} : ∀ {l : List α}, l.length = 3 → ∃ a b c, l = [a, b, c]
  | [a, b, c], _ => ⟨a, b, c, rfl⟩
  | [], h => by cases h
  | [_], h => by cases h
  | [_, _], h => by cases h
  | _ :: _ :: _ :: _ :: _, h => by simp at h
theorem len2 {α : Type} : ∀ {l : List α}, l.length = 2 → ∃ a b, l = [a, b]
  | [a, b], _ => ⟨a, b, rfl⟩
  | [], h => by cases h
  | [_], h => by cases h
  | _ :: _ :: _ :: _, h => by simp at h
def dueD : Option (List Int × Int) → D
  | some p => .tup [.lst (p.1.map D.int), .int p.2]
  | none => .non
def mDue : List D → Res D
  | [.str z] => if decide (z.length ≤ 190) = true then .ok (dueD (TX.dueOf z)) else .bad
  | _ => .bad
theorem mDue_ok {z : Str} (h : z.length ≤ 190) : mDue [.str z] = .ok (dueD (TX.dueOf z)) := by
  unfold mDue
  dsimp only
  rw [if_pos (decide_eq_true h)]
theorem scDu : FnScope ["signs", "words", "runs", "gap"] ["signs"] (defScope sDue) := ⟨rfl, rfl, rfl, by decide +kernel, rfl, by decide +kernel, by decide +kernel⟩
theorem opt_pl : ∀ (os : List (Option Int)), plL 19 (os.map optD) = true
  | [] => by unfold plL; rfl
  | o :: os => by
    rw [List.map_cons]
    unfold plL
    rw [opt_pl os]
    cases o <;> (unfold optD plD; rfl)
theorem opt_spec : ∀ (as : List Str), (∀ rs, TX.allO TX.numOf as = some rs → (as.map fun w => optD (TX.numOf w)) = rs.map D.int ∧ ((as.map fun w => optD (TX.numOf w)).any fun y => eqB y .non) = false) ∧
    (TX.allO TX.numOf as = none → ((as.map fun w => optD (TX.numOf w)).any fun y => eqB y .non) = true)
  | [] => ⟨fun rs h => (by cases h; exact ⟨rfl, rfl⟩), fun h => by cases h⟩
  | a :: as => by
    have ih := opt_spec as
    rw [List.map_cons, List.any_cons]
    unfold TX.allO
    cases q : TX.numOf a with
    | none =>
      have e : eqB (optD none) .non = true := by unfold optD eqB; rfl
      refine ⟨fun rs h => (by cases h), fun _ => ?_⟩
      rw [e, Bool.true_or]
    | some n =>
      have e : eqB (optD (some n)) .non = false := by unfold optD eqB; rfl
      cases r : TX.allO TX.numOf as with
      | none =>
        refine ⟨fun rs h => (by cases h), fun _ => ?_⟩
        rw [ih.2 r, Bool.or_true]
      | some rs =>
        obtain ⟨h1, h2⟩ := ih.1 rs r
        refine ⟨fun rs' h => ?_, fun h => by cases h⟩
        cases h
        rw [e, h2, h1]
        exact ⟨rfl, rfl⟩
theorem all_min {n : Int} {ns : List Int} : (n :: ns).all TX.runOk = (decide (1 ≤ minL (n :: ns)) && decide (maxL (n :: ns) ≤ 20)) := by
  obtain ⟨m1, m2⟩ := minL_spec (ns := n :: ns) (by simp)
  obtain ⟨x1, x2⟩ := maxL_spec (ns := n :: ns) (by simp)
  rw [Bool.eq_iff_iff, List.all_eq_true, Bool.and_eq_true, decide_eq_true_eq, decide_eq_true_eq]
  constructor
  · intro h
    have a1 := h _ m1
    have a2 := h _ x1
    unfold TX.runOk at a1 a2
    simp only [Bool.and_eq_true, decide_eq_true_eq] at a1 a2
    exact ⟨a1.1, a2.2⟩
  · intro ⟨h1, h2⟩ y hy
    unfold TX.runOk
    have := m2 y hy
    have := x2 y hy
    simp only [Bool.and_eq_true, decide_eq_true_eq]
    omega
theorem ok_dueF {f fN : Addr} {fd fdN : FuncData} (F : Fun K "_law_due" "_law_due" sDue f fd) (T : Txt K mg CL CHE CBL CBT CBX) (GN : FnOk P w K mg base (CXF P w) 1 fN fdN ["word"] (pureSp K mNum)) (bN : Binds K fdN ["word"] []) (mN : mg "_law_number" = some (.ref fN)) (kN : PySem.W.keepIn K (.ref fN) = true) : FnOk P w K mg base (CXF P w) 2 f fd ["signs"] (pureSp K mDue) := by
  refine F.pure scDu (fun ds h => ?_) (fun cdv A outer s H E hr => ?_)
  · unfold mDue at h
    split at h
    · rfl
    · exact absurd rfl h
  · refine ⟨_, pos_cons (po_set (i := 1) scDu.nd rfl (Or.inl rfl) (pd_split (dv 0) pd_str))
      (pos_cons (po_if (PDW.pt (pdw_or (pdt_cmp (do_ne hr.units) (pd_len T.len (dv 1)) pd_int (nomark _)) (pdw_or1 (pdt_cmp (do_ne hr.units) (pd_ix (dv 1) pd_int) pd_str (nomark _))))) (pos_one (po_ret pd_non)) pos_nil)
      (pos_cons (po_setComp (passesH_cx fun _ _ _ h => h) rfl rfl scDu.nd (i := 2) rfl rfl rfl (compSc0 rfl (by decide +kernel) (by decide +kernel) (by decide +kernel)) (j := 0) rfl rfl rfl (pi_dlist (pd_split (pd_ix (dv 1) pd_int) pd_str)) (fun _ _ _ _ _ hx => pd_cl GN hr mN kN bN (pda_cons (dv 0) pda_nil) hx))
      (pos_cons (po_set (i := 3) scDu.nd rfl (Or.inl rfl) (pd_cl GN hr mN kN bN (pda_cons (pd_ix (dv 1) pd_int) pda_nil)))
      (pos_cons (po_if (PDW.pt (pdw_or (pdt_cmp (do_in hr.units) pd_non (dv 2) (by with_unfolding_all rfl)) (pdw_or (pdt_cmp do_isN (dv 3) pd_non (nomark _)) (pdw_or (pdt_cmp do_gt (dv 3) pd_int (nomark _)) (pdw_or (pdt_cmp do_gt (pd_len T.len (dv 2)) pd_int (nomark _)) (pdw_or (pdt_cmp do_lt (pd_minL T.mn (dv 2)) pd_int (nomark _)) (pdw_or1 (pdt_cmp do_gt (pd_maxL T.mx (dv 2)) pd_int (nomark _)))))))))
        (pos_one (po_ret pd_non)) pos_nil)
      (pos_one (po_ret (pd_tup (pda_cons (dv 2) (pda_cons (dv 3) pda_nil))))))))), ?_⟩
    intro ds h
    unfold mDue at h ⊢
    split at h
    · rename_i z
      split at h
      · rename_i hz
        try dsimp only
        rw [if_pos hz]
        have hz' := of_decide_eq_true hz
        clear h
        have e0 : startD ["signs", "words", "runs", "gap"] [D.str z] = [some (.str z), none, none, none] := rfl
        rw [e0]
        have s1 : splitD z (.str (" " : Str)) = .ok (.lst ((PySem.Txt.split z TX.sB).map D.str)) := split_ev (y := TX.sB) hz' (by decide +kernel)
        have os : ∀ {fo : DS → Res D} {g : Str → DS → Res D} {ρ : DS} {z : Str}, fo ρ = .ok (.str z) → onStr fo g ρ = g z ρ := fun h => ev_onStr h
        have v0 : ∀ {g : Str → DS → Res D} {o1 o2 o3 : Option D}, onStr (varR 0) g [some (.str z), o1, o2, o3] = g z [some (.str z), o1, o2, o3] := fun {g o1 o2 o3} => ev_onStr rfl
        simp only [ev_seq, ev_set, ev_if, ev_op, ev_cl, ev_asB, ev_ret, ev_var0, ev_varS, ev_set0, ev_setS, ev_bind_ok, ev_bind_exc, ev_out_ok, ev_out_exc, ev_then_nx, ev_then_rt, ev_then_exc, ev_outrt, ev_outexc, ev_lenL, ev_lt, ev_le, ev_gt, ev_add, ev_and, ev_or, ev_not, ev_for, ev_neI, ev_eqI, ev_andV, ev_notV, ev_lstR, ev_tupR, ev_meth, ev_slice, ev_isn, ev_notn, ev_asI, ev_seqD, ev_rT, ev_t0, ev_t1, ev_l0, ev_l1, ev_lk1, ev_lk2, ev_lk4, if_true, if_false, Bool.false_eq_true, Bool.not_true, Bool.not_false, Bool.true_and, Bool.false_and, Bool.true_or, Bool.false_or, ev_lenR, ev_eqS, ev_neS, v0, s1]
        have hlm : (((PySem.Txt.split z TX.sB).map D.str).length : Int) = ((PySem.Txt.split z TX.sB).length : Int) := by simp
        by_cases h3 : (PySem.Txt.split z TX.sB).length = 3
        · obtain ⟨a, b, c, e⟩ := len3 h3
          have ha : a.length ≤ 190 := by
            have := TX.part_len (sep := TX.sB) (p := a) (ps := PySem.Txt.split z TX.sB) (by rw [e]; simp)
            rw [StrLaws.join_split] at this
            omega
          have hcl : c.length ≤ 190 := by
            have := TX.part_len (sep := TX.sB) (p := c) (ps := PySem.Txt.split z TX.sB) (by rw [e]; simp)
            rw [StrLaws.join_split] at this
            omega
          unfold TX.dueOf
          rw [e]
          dsimp only
          have b3 : (!(((3 : Nat) : Int) == 3)) = false := rfl
          have m3 : [a, b, c].map D.str = [.str a, .str b, .str c] := rfl
          have l3 : (([D.str a, D.str b, D.str c].length : Nat) : Int) = 3 := rfl
          have b33 : ((3 : Int) == 3) = true := rfl
          simp only [ev_seq, ev_set, ev_if, ev_op, ev_cl, ev_asB, ev_ret, ev_var0, ev_varS, ev_set0, ev_setS, ev_bind_ok, ev_bind_exc, ev_out_ok, ev_out_exc, ev_then_nx, ev_then_rt, ev_then_exc, ev_outrt, ev_outexc, ev_lenL, ev_lt, ev_le, ev_gt, ev_add, ev_and, ev_or, ev_not, ev_for, ev_neI, ev_eqI, ev_andV, ev_notV, ev_lstR, ev_tupR, ev_meth, ev_slice, ev_isn, ev_notn, ev_asI, ev_seqD, ev_rT, ev_t0, ev_t1, ev_l0, ev_l1, ev_lk1, ev_lk2, ev_lk4, if_true, if_false, Bool.false_eq_true, Bool.not_true, Bool.not_false, Bool.true_and, Bool.false_and, Bool.true_or, Bool.false_or, ev_lenR, ev_eqS, ev_neS, m3, l3, b33]
          by_cases hb : b = TX.sC
          · subst hb
            have bb : ((TX.sC : Str) == ("clear" : Str)) = true := by decide +kernel
            rw [if_pos rfl]
            have s2 : splitD a (.str ("-" : Str)) = .ok (.lst ((PySem.Txt.split a TX.sD).map D.str)) := split_ev (y := TX.sD) ha (by decide +kernel)
            have v1 : ∀ {g : Str → DS → Res D} {o2 o3 : Option D}, onStr (OpR2 (varR 1) (fun _ => .ok (.int 0)) ixD) g [some (.str z), some (.lst [.str a, .str TX.sC, .str c]), o2, o3] = g a [some (.str z), some (.lst [.str a, .str TX.sC, .str c]), o2, o3] := fun {g o2 o3} => ev_onStr (by simp only [ev_seq, ev_set, ev_if, ev_op, ev_cl, ev_asB, ev_ret, ev_var0, ev_varS, ev_set0, ev_setS, ev_bind_ok, ev_bind_exc, ev_out_ok, ev_out_exc, ev_then_nx, ev_then_rt, ev_then_exc, ev_outrt, ev_outexc, ev_lenL, ev_lt, ev_le, ev_gt, ev_add, ev_and, ev_or, ev_not, ev_for, ev_neI, ev_eqI, ev_andV, ev_notV, ev_lstR, ev_tupR, ev_meth, ev_slice, ev_isn, ev_notn, ev_asI, ev_seqD, ev_rT, ev_t0, ev_t1, ev_l0, ev_l1, ev_lk1, ev_lk2, ev_lk4, if_true, if_false, Bool.false_eq_true, Bool.not_true, Bool.not_false, Bool.true_and, Bool.false_and, Bool.true_or, Bool.false_or, ev_lenR, ev_eqS, ev_neS])
            have cnt := TX.split_count (z := a) (y := TX.sD) (by decide +kernel)
            have lk : lenOk ((PySem.Txt.split a TX.sD).map D.str).length = true := decide_eq_true (by rw [List.length_map]; omega)
            have cd : ∀ (o0 o1 o2 o3 : Option D) (d : D), (capD [none] [o0, o1, o2, o3]).set 0 (some d) = [some d] := fun _ _ _ _ _ => rfl
            have g3 := mNum_ok hcl
            simp only [ev_seq, ev_set, ev_if, ev_op, ev_cl, ev_asB, ev_ret, ev_var0, ev_varS, ev_set0, ev_setS, ev_bind_ok, ev_bind_exc, ev_out_ok, ev_out_exc, ev_then_nx, ev_then_rt, ev_then_exc, ev_outrt, ev_outexc, ev_lenL, ev_lt, ev_le, ev_gt, ev_add, ev_and, ev_or, ev_not, ev_for, ev_neI, ev_eqI, ev_andV, ev_notV, ev_lstR, ev_tupR, ev_meth, ev_slice, ev_isn, ev_notn, ev_asI, ev_seqD, ev_rT, ev_t0, ev_t1, ev_l0, ev_l1, ev_lk1, ev_lk2, ev_lk4, if_true, if_false, Bool.false_eq_true, Bool.not_true, Bool.not_false, Bool.true_and, Bool.false_and, Bool.true_or, Bool.false_or, ev_lenR, ev_eqS, ev_neS, bb]
            rw [compX_strs (PySem.Txt.split a TX.sD) (fun w => optD (TX.numOf w)) (by simp only [ev_seq, ev_set, ev_if, ev_op, ev_cl, ev_asB, ev_ret, ev_var0, ev_varS, ev_set0, ev_setS, ev_bind_ok, ev_bind_exc, ev_out_ok, ev_out_exc, ev_then_nx, ev_then_rt, ev_then_exc, ev_outrt, ev_outexc, ev_lenL, ev_lt, ev_le, ev_gt, ev_add, ev_and, ev_or, ev_not, ev_for, ev_neI, ev_eqI, ev_andV, ev_notV, ev_lstR, ev_tupR, ev_meth, ev_slice, ev_isn, ev_notn, ev_asI, ev_seqD, ev_rT, ev_t0, ev_t1, ev_l0, ev_l1, ev_lk1, ev_lk2, ev_lk4, if_true, if_false, Bool.false_eq_true, Bool.not_true, Bool.not_false, Bool.true_and, Bool.false_and, Bool.true_or, Bool.false_or, ev_lenR, ev_eqS, ev_neS, v1, s2]) lk (fun w hw => by
              rw [cd]
              simp only [ev_seq, ev_set, ev_if, ev_op, ev_cl, ev_asB, ev_ret, ev_var0, ev_varS, ev_set0, ev_setS, ev_bind_ok, ev_bind_exc, ev_out_ok, ev_out_exc, ev_then_nx, ev_then_rt, ev_then_exc, ev_outrt, ev_outexc, ev_lenL, ev_lt, ev_le, ev_gt, ev_add, ev_and, ev_or, ev_not, ev_for, ev_neI, ev_eqI, ev_andV, ev_notV, ev_lstR, ev_tupR, ev_meth, ev_slice, ev_isn, ev_notn, ev_asI, ev_seqD, ev_rT, ev_t0, ev_t1, ev_l0, ev_l1, ev_lk1, ev_lk2, ev_lk4, if_true, if_false, Bool.false_eq_true, Bool.not_true, Bool.not_false, Bool.true_and, Bool.false_and, Bool.true_or, Bool.false_or, ev_lenR, ev_eqS, ev_neS, mNum_ok (z := w) (by
                have := TX.part_len (sep := TX.sD) hw
                rw [StrLaws.join_split] at this
                omega)])]
            simp only [ev_seq, ev_set, ev_if, ev_op, ev_cl, ev_asB, ev_ret, ev_var0, ev_varS, ev_set0, ev_setS, ev_bind_ok, ev_bind_exc, ev_out_ok, ev_out_exc, ev_then_nx, ev_then_rt, ev_then_exc, ev_outrt, ev_outexc, ev_lenL, ev_lt, ev_le, ev_gt, ev_add, ev_and, ev_or, ev_not, ev_for, ev_neI, ev_eqI, ev_andV, ev_notV, ev_lstR, ev_tupR, ev_meth, ev_slice, ev_isn, ev_notn, ev_asI, ev_seqD, ev_rT, ev_t0, ev_t1, ev_l0, ev_l1, ev_lk1, ev_lk2, ev_lk4, if_true, if_false, Bool.false_eq_true, Bool.not_true, Bool.not_false, Bool.true_and, Bool.false_and, Bool.true_or, Bool.false_or, ev_lenR, ev_eqS, ev_neS, ev_l2, g3]
            obtain ⟨sp1, sp2⟩ := opt_spec (PySem.Txt.split a TX.sD)
            have hpl : plL 19 ((PySem.Txt.split a TX.sD).map fun w => optD (TX.numOf w)) = true := by
              have := opt_pl ((PySem.Txt.split a TX.sD).map TX.numOf)
              rwa [List.map_map] at this
            have hin : inO false .non (.lst ((PySem.Txt.split a TX.sD).map fun w => optD (TX.numOf w))) = .ok (.bl (((PySem.Txt.split a TX.sD).map fun w => optD (TX.numOf w)).any fun y => eqB y .non)) := by
              unfold inO
              dsimp only
              rw [if_pos ⟨hpl, by unfold plD; rfl⟩]
              rfl
            rw [hin]
            cases q : TX.allO TX.numOf (PySem.Txt.split a TX.sD) with
            | none =>
              rw [sp2 q]
              simp only [ev_seq, ev_set, ev_if, ev_op, ev_cl, ev_asB, ev_ret, ev_var0, ev_varS, ev_set0, ev_setS, ev_bind_ok, ev_bind_exc, ev_out_ok, ev_out_exc, ev_then_nx, ev_then_rt, ev_then_exc, ev_outrt, ev_outexc, ev_lenL, ev_lt, ev_le, ev_gt, ev_add, ev_and, ev_or, ev_not, ev_for, ev_neI, ev_eqI, ev_andV, ev_notV, ev_lstR, ev_tupR, ev_meth, ev_slice, ev_isn, ev_notn, ev_asI, ev_seqD, ev_rT, ev_t0, ev_t1, ev_l0, ev_l1, ev_lk1, ev_lk2, ev_lk4, if_true, if_false, Bool.false_eq_true, Bool.not_true, Bool.not_false, Bool.true_and, Bool.false_and, Bool.true_or, Bool.false_or, ev_lenR, ev_eqS, ev_neS]
              rfl
            | some rs =>
              obtain ⟨h1, h2⟩ := sp1 rs q
              rw [h2]
              have hne : rs ≠ [] := by
                intro zz
                rw [zz] at h1
                have := congrArg List.length h1
                simp at this
                exact TX.split_ne a TX.sD this
              rw [h1]
              cases qg : TX.numOf c with
              | none =>
                have i1 : isN (optD none) = true := rfl
                simp only [ev_seq, ev_set, ev_if, ev_op, ev_cl, ev_asB, ev_ret, ev_var0, ev_varS, ev_set0, ev_setS, ev_bind_ok, ev_bind_exc, ev_out_ok, ev_out_exc, ev_then_nx, ev_then_rt, ev_then_exc, ev_outrt, ev_outexc, ev_lenL, ev_lt, ev_le, ev_gt, ev_add, ev_and, ev_or, ev_not, ev_for, ev_neI, ev_eqI, ev_andV, ev_notV, ev_lstR, ev_tupR, ev_meth, ev_slice, ev_isn, ev_notn, ev_asI, ev_seqD, ev_rT, ev_t0, ev_t1, ev_l0, ev_l1, ev_lk1, ev_lk2, ev_lk4, if_true, if_false, Bool.false_eq_true, Bool.not_true, Bool.not_false, Bool.true_and, Bool.false_and, Bool.true_or, Bool.false_or, ev_lenR, ev_eqS, ev_neS, i1]
                rfl
              | some g =>
                have i1 : isN (optD (some g)) = false := rfl
                have og : optD (some g) = .int g := rfl
                cases rs with
                | nil => exact absurd rfl hne
                | cons n ns =>
                  have e1 : minD [.lst ((n :: ns).map D.int)] = .ok (.int (minL (n :: ns))) := by unfold minD; dsimp only; rw [allInts_map]
                  have e2 : maxD [.lst ((n :: ns).map D.int)] = .ok (.int (maxL (n :: ns))) := by unfold maxD; dsimp only; rw [allInts_map]
                  have hl : (((n :: ns).map D.int).length : Int) = ((n :: ns).length : Int) := by simp
                  simp only [ev_seq, ev_set, ev_if, ev_op, ev_cl, ev_asB, ev_ret, ev_var0, ev_varS, ev_set0, ev_setS, ev_bind_ok, ev_bind_exc, ev_out_ok, ev_out_exc, ev_then_nx, ev_then_rt, ev_then_exc, ev_outrt, ev_outexc, ev_lenL, ev_lt, ev_le, ev_gt, ev_add, ev_and, ev_or, ev_not, ev_for, ev_neI, ev_eqI, ev_andV, ev_notV, ev_lstR, ev_tupR, ev_meth, ev_slice, ev_isn, ev_notn, ev_asI, ev_seqD, ev_rT, ev_t0, ev_t1, ev_l0, ev_l1, ev_lk1, ev_lk2, ev_lk4, if_true, if_false, Bool.false_eq_true, Bool.not_true, Bool.not_false, Bool.true_and, Bool.false_and, Bool.true_or, Bool.false_or, ev_lenR, ev_eqS, ev_neS, i1, og, e1, e2, hl]
                  rw [all_min]
                  have hlen2 : decide ((n :: ns).length ≤ 5) = decide (((n :: ns).length : Int) ≤ 5) := by
                    by_cases h5 : (n :: ns).length ≤ 5
                    · rw [decide_eq_true h5, decide_eq_true (by omega)]
                    · rw [decide_eq_false h5, decide_eq_false (by omega)]
                  rw [hlen2]
                  generalize ((n :: ns).length : Int) = LL
                  generalize minL (n :: ns) = mm
                  generalize maxL (n :: ns) = xx
                  by_cases q2 : 5 < g
                  · rw [decide_eq_true q2, decide_eq_false (show ¬ g ≤ 5 by omega)]
                    rfl
                  · rw [decide_eq_false q2, decide_eq_true (show g ≤ 5 by omega)]
                    by_cases q3 : 5 < LL
                    · rw [decide_eq_true q3, decide_eq_false (show ¬ LL ≤ 5 by omega)]
                      rfl
                    · rw [decide_eq_false q3, decide_eq_true (show LL ≤ 5 by omega)]
                      by_cases q4 : mm < 1
                      · rw [decide_eq_true q4, decide_eq_false (show ¬ 1 ≤ mm by omega)]
                        rfl
                      · rw [decide_eq_false q4, decide_eq_true (show 1 ≤ mm by omega)]
                        by_cases q5 : 20 < xx
                        · rw [decide_eq_true q5, decide_eq_false (show ¬ xx ≤ 20 by omega)]
                          rfl
                        · rw [decide_eq_false q5, decide_eq_true (show xx ≤ 20 by omega)]
                          rfl
          · rw [if_neg hb]
            have bb : (b == ("clear" : Str)) = false := beq_eq_false_iff_ne.mpr hb
            simp only [ev_seq, ev_set, ev_if, ev_op, ev_cl, ev_asB, ev_ret, ev_var0, ev_varS, ev_set0, ev_setS, ev_bind_ok, ev_bind_exc, ev_out_ok, ev_out_exc, ev_then_nx, ev_then_rt, ev_then_exc, ev_outrt, ev_outexc, ev_lenL, ev_lt, ev_le, ev_gt, ev_add, ev_and, ev_or, ev_not, ev_for, ev_neI, ev_eqI, ev_andV, ev_notV, ev_lstR, ev_tupR, ev_meth, ev_slice, ev_isn, ev_notn, ev_asI, ev_seqD, ev_rT, ev_t0, ev_t1, ev_l0, ev_l1, ev_lk1, ev_lk2, ev_lk4, if_true, if_false, Bool.false_eq_true, Bool.not_true, Bool.not_false, Bool.true_and, Bool.false_and, Bool.true_or, Bool.false_or, ev_lenR, ev_eqS, ev_neS, bb]
            rfl
        · have hn : TX.dueOf z = none := by
            unfold TX.dueOf
            split
            · rename_i a b c e
              rw [e] at h3
              exact absurd rfl h3
            · rfl
          have hb : (((PySem.Txt.split z TX.sB).length : Int) == 3) = false := beq_eq_false_iff_ne.mpr (by omega)
          simp only [ev_seq, ev_set, ev_if, ev_op, ev_cl, ev_asB, ev_ret, ev_var0, ev_varS, ev_set0, ev_setS, ev_bind_ok, ev_bind_exc, ev_out_ok, ev_out_exc, ev_then_nx, ev_then_rt, ev_then_exc, ev_outrt, ev_outexc, ev_lenL, ev_lt, ev_le, ev_gt, ev_add, ev_and, ev_or, ev_not, ev_for, ev_neI, ev_eqI, ev_andV, ev_notV, ev_lstR, ev_tupR, ev_meth, ev_slice, ev_isn, ev_notn, ev_asI, ev_seqD, ev_rT, ev_t0, ev_t1, ev_l0, ev_l1, ev_lk1, ev_lk2, ev_lk4, if_true, if_false, Bool.false_eq_true, Bool.not_true, Bool.not_false, Bool.true_and, Bool.false_and, Bool.true_or, Bool.false_or, ev_lenR, ev_eqS, ev_neS, hlm, hb, hn]
          rfl
      · exact absurd rfl h
    · exact absurd rfl h
end
end K13
set_option Elab.async false
set_option linter.all false
set_option maxRecDepth 100000
set_option maxHeartbeats 4000000
namespace K13
open PySem L2
section
variable {P : Program} {w : World} {K : PySem.W.Frag} {mg : Str → Option Value} {base : Heap} {CL CHE CBL CBT CBX : Addr}
def mRead (CL CBX : Addr) : List D → Res D
  | [.str z] => if okS z = true then (match TX.readOf z with | some p => .ok (lineD CL p.1 p.2) | none => .exc CBX) else .bad
  | _ => .bad
theorem mRead_ok {z : Str} (h : okS z = true) : mRead CL CBX [.str z] = (match TX.readOf z with | some p => .ok (lineD CL p.1 p.2) | none => .exc CBX) := by
  unfold mRead
  dsimp only
  rw [if_pos h]
theorem scRd : FnScope ["text", "parts", "runs", "minutes"] ["text"] (defScope sRead) := ⟨rfl, rfl, rfl, by decide +kernel, rfl, by decide +kernel, by decide +kernel⟩
theorem mapX_find {f : D → Res D} {g : Str → Option Int} : ∀ {as : List Str}, (∀ w ∈ as, f (.str w) = (match g w with | some n => .ok (.int n) | none => .exc CBX)) →
    (∀ rs, TX.allO g as = some rs → mapX f (as.map D.str) = .ok (rs.map D.int)) ∧ (TX.allO g as = none → mapX f (as.map D.str) = .exc CBX)
  | [], _ => ⟨fun rs h => (by cases h; rfl), fun h => by cases h⟩
  | a :: as, q => by
    have ih := mapX_find (f := f) (g := g) (as := as) fun w hw => q w (List.mem_cons_of_mem _ hw)
    have h1 := q a List.mem_cons_self
    rw [List.map_cons]
    unfold mapX TX.allO
    cases qa : g a with
    | none =>
      rw [qa] at h1
      rw [h1]
      exact ⟨fun rs h => (by cases h), fun _ => rfl⟩
    | some n =>
      rw [qa] at h1
      rw [h1, ev_bind_ok]
      cases r : TX.allO g as with
      | none =>
        rw [ih.2 r]
        exact ⟨fun rs h => (by cases h), fun _ => rfl⟩
      | some rs =>
        rw [ih.1 rs r]
        exact ⟨fun rs' h => (by cases h; rfl), fun h => by cases h⟩
theorem init_good {rs : List Int} {g : Int} (h : TX.Good rs g) : mInit CL CBL [.lst (rs.map D.int), .int g] = .ok (lineD CL rs g) := by
  have h1 : rs.all sm = true := by
    rw [List.all_eq_true]
    intro n hn
    have := h.runs n hn
    unfold sm
    rw [Bool.and_eq_true, decide_eq_true_eq, decide_eq_true_eq]
    omega
  have h2 : sm g = true := by
    have a := h.g0
    have b := h.g5
    unfold sm
    rw [Bool.and_eq_true, decide_eq_true_eq, decide_eq_true_eq]
    omega
  have h3 : lineOk rs g = true := by
    have a := h.g0
    have b := h.g5
    have c := h.few
    have d : 1 ≤ rs.length := List.length_pos_iff.mpr h.ne
    unfold lineOk
    simp only [Bool.and_eq_true, decide_eq_true_eq, List.all_eq_true]
    refine ⟨⟨⟨by omega, by omega⟩, fun n hn => ?_⟩, a, b⟩
    have := h.runs n hn
    unfold TX.runOk
    simpa using this
  unfold mInit mCheckLine
  dsimp only
  rw [allInts_map]
  dsimp only
  rw [if_pos (by rw [h1, h2]; rfl), if_pos h3]
  rfl
theorem ok_read {f fN fI : Addr} {fd fdN fdI : FuncData} (F : Fun K "read" "read" sRead f fd) (T : Txt K mg CL CHE CBL CBT CBX) (GN : FnOk P w K mg base (CXF P w) 1 fN fdN ["figures", "least", "most"] (pureSp K (mNumber CBX))) (bN : Binds K fdN ["figures", "least", "most"] []) (mN : mg "number_of" = some (.ref fN)) (kN : PySem.W.keepIn K (.ref fN) = true)
    (M : Mk K CL fI) (GI : FnOk P w K mg base (CXF P w) 2 fI fdI ["self", "runs", "clear"] (initSp K CL (mInit CL CBL))) (bI : Binds K fdI ["self", "runs", "clear"] []) : FnOk P w K mg base (CXF P w) 4 f fd ["text"] (pureSp K (mRead CL CBX)) := by
  refine F.pure scRd (fun ds h => ?_) (fun cdv A outer s H E hr => ?_)
  · unfold mRead at h
    split at h
    · rfl
    · exact absurd rfl h
  · have hr1 : Room 1 _ := hr.mono (by decide : 1 ≤ 3)
    refine ⟨_, pos_cons (po_set (i := 1) scRd.nd rfl (Or.inl rfl) (pd_split (dv 0) (pd_gS T.gA)))
      (pos_cons (po_if (pdt_cmp (do_ne hr.units) (pd_len T.len (dv 1)) pd_int (nomark _)) (pos_one (po_rT T.bx)) pos_nil)
      (pos_cons (po_set (i := 2) scRd.nd rfl (Or.inl rfl) (pd_split (pd_ix (dv 1) pd_int) (pd_gS T.gB)))
      (pos_cons (po_if (pdt_cmp do_gt (pd_len T.len (dv 2)) (pd_gI T.mS) (nomark _)) (pos_one (po_rF T.bx (pfs_cons pf_str (pfs_cons (pf_int (pe_gI T.mS)) (pfs_cons pf_str pfs_nil))) (fun _ => true) (fun σ G H ρ _ _ _ => ⟨trivial, tIntB_c (by decide), trivial, trivial⟩))) pos_nil)
      (pos_cons (po_setComp (passesH_cx fun _ _ _ h => h) rfl rfl scRd.nd (i := 3) rfl rfl rfl (compSc0 rfl (by decide +kernel) (by decide +kernel) (by decide +kernel)) (j := 0) rfl rfl rfl (pi_dlist (dv 2)) (fun _ _ _ _ _ hx => pd_cl GN hr1 mN kN bN (pda_cons (dv 0) (pda_cons pd_int (pda_cons (pd_gI T.mR) pda_nil))) hx))
      (pos_one (po_ret (pd_make M GI mInit_mk hr rfl T.mgL bI (cxf_pass fun _ _ _ h => h) (pda_cons (dv 3) (pda_cons (pd_cl GN hr1 mN kN bN (pda_cons (pd_ix (dv 1) pd_int) (pda_cons pd_int (pda_cons (pd_gI T.mC) pda_nil)))) pda_nil)) fun t ht => pe_make M GI hr rfl T.mgL bI .nil (cxf_pass fun _ _ _ h => h) ht))))))), ?_⟩
    intro ds h
    unfold mRead at h ⊢
    split at h
    · rename_i z
      split at h
      · rename_i hz
        try dsimp only
        rw [if_pos hz]
        have hz' := okS_len hz
        clear h
        have e0 : startD ["text", "parts", "runs", "minutes"] [D.str z] = [some (.str z), none, none, none] := rfl
        rw [e0]
        have s1 : splitD z (.str TX.sW) = .ok (.lst ((PySem.Txt.split z TX.sW).map D.str)) := split_ev hz' (by decide +kernel)
        have v0 : ∀ {g : Str → DS → Res D} {o1 o2 o3 : Option D}, onStr (varR 0) g [some (.str z), o1, o2, o3] = g z [some (.str z), o1, o2, o3] := fun {g o1 o2 o3} => ev_onStr rfl
        simp only [ev_seq, ev_set, ev_if, ev_op, ev_cl, ev_asB, ev_ret, ev_var0, ev_varS, ev_set0, ev_setS, ev_bind_ok, ev_bind_exc, ev_out_ok, ev_out_exc, ev_then_nx, ev_then_rt, ev_then_exc, ev_outrt, ev_outexc, ev_lenL, ev_lt, ev_le, ev_gt, ev_add, ev_and, ev_or, ev_not, ev_for, ev_neI, ev_eqI, ev_andV, ev_notV, ev_lstR, ev_tupR, ev_meth, ev_slice, ev_isn, ev_notn, ev_asI, ev_seqD, ev_rT, ev_t0, ev_t1, ev_l0, ev_l1, ev_lk1, ev_lk2, ev_lk4, if_true, if_false, Bool.false_eq_true, Bool.not_true, Bool.not_false, Bool.true_and, Bool.false_and, Bool.true_or, Bool.false_or, ev_lenR, ev_eqS, ev_neS, v0, s1]
        have hlm : (((PySem.Txt.split z TX.sW).map D.str).length : Int) = ((PySem.Txt.split z TX.sW).length : Int) := by simp
        by_cases h2 : (PySem.Txt.split z TX.sW).length = 2
        · obtain ⟨a, b, e⟩ := len2 h2
          have ha : okS a = true := okS_part (y := TX.sW) hz (by rw [e]; simp)
          have hb : okS b = true := okS_part (y := TX.sW) hz (by rw [e]; simp)
          have ha' := okS_len ha
          unfold TX.readOf
          rw [e]
          dsimp only
          have m2 : [a, b].map D.str = [.str a, .str b] := rfl
          have l2 : (([D.str a, D.str b].length : Nat) : Int) = 2 := rfl
          have b22 : ((2 : Int) == 2) = true := rfl
          have s2 : splitD a (.str TX.sD) = .ok (.lst ((PySem.Txt.split a TX.sD).map D.str)) := split_ev ha' (by decide +kernel)
          have v1 : ∀ {g : Str → DS → Res D} {o2 o3 : Option D}, onStr (OpR2 (varR 1) (fun _ => .ok (.int 0)) ixD) g [some (.str z), some (.lst [.str a, .str b]), o2, o3] = g a [some (.str z), some (.lst [.str a, .str b]), o2, o3] := fun {g o2 o3} => ev_onStr (by simp only [ev_seq, ev_set, ev_if, ev_op, ev_cl, ev_asB, ev_ret, ev_var0, ev_varS, ev_set0, ev_setS, ev_bind_ok, ev_bind_exc, ev_out_ok, ev_out_exc, ev_then_nx, ev_then_rt, ev_then_exc, ev_outrt, ev_outexc, ev_lenL, ev_lt, ev_le, ev_gt, ev_add, ev_and, ev_or, ev_not, ev_for, ev_neI, ev_eqI, ev_andV, ev_notV, ev_lstR, ev_tupR, ev_meth, ev_slice, ev_isn, ev_notn, ev_asI, ev_seqD, ev_rT, ev_t0, ev_t1, ev_l0, ev_l1, ev_lk1, ev_lk2, ev_lk4, if_true, if_false, Bool.false_eq_true, Bool.not_true, Bool.not_false, Bool.true_and, Bool.false_and, Bool.true_or, Bool.false_or, ev_lenR, ev_eqS, ev_neS])
          have hla : (((PySem.Txt.split a TX.sD).map D.str).length : Int) = ((PySem.Txt.split a TX.sD).length : Int) := by simp
          simp only [ev_seq, ev_set, ev_if, ev_op, ev_cl, ev_asB, ev_ret, ev_var0, ev_varS, ev_set0, ev_setS, ev_bind_ok, ev_bind_exc, ev_out_ok, ev_out_exc, ev_then_nx, ev_then_rt, ev_then_exc, ev_outrt, ev_outexc, ev_lenL, ev_lt, ev_le, ev_gt, ev_add, ev_and, ev_or, ev_not, ev_for, ev_neI, ev_eqI, ev_andV, ev_notV, ev_lstR, ev_tupR, ev_meth, ev_slice, ev_isn, ev_notn, ev_asI, ev_seqD, ev_rT, ev_t0, ev_t1, ev_l0, ev_l1, ev_lk1, ev_lk2, ev_lk4, if_true, if_false, Bool.false_eq_true, Bool.not_true, Bool.not_false, Bool.true_and, Bool.false_and, Bool.true_or, Bool.false_or, ev_lenR, ev_eqS, ev_neS, m2, l2, b22, v1, s2, hla]
          by_cases h5 : (PySem.Txt.split a TX.sD).length ≤ 5
          · have d5 : decide (5 < ((PySem.Txt.split a TX.sD).length : Int)) = false := decide_eq_false (by omega)
            rw [if_pos h5]
            have lk : lenOk ((PySem.Txt.split a TX.sD).map D.str).length = true := decide_eq_true (by rw [List.length_map]; omega)
            have cd : ∀ (o0 o1 o2 o3 : Option D) (d : D), (capD [none] [o0, o1, o2, o3]).set 0 (some d) = [some d] := fun _ _ _ _ _ => rfl
            have cx : ∀ {fi : DS → Res (List D)} {fe : DS → Res D} {ρ : DS}, fi ρ = .ok ((PySem.Txt.split a TX.sD).map D.str) → (∀ w ∈ PySem.Txt.split a TX.sD, fe ((capD [none] ρ).set 0 (some (.str w))) = (match TX.findN 1 20 w with | some n => .ok (.int n) | none => .exc CBX)) →
                compX fi [none] 0 fe ρ = (match TX.allO (TX.findN 1 20) (PySem.Txt.split a TX.sD) with | some rs => .ok (.lst (rs.map D.int)) | none => .exc CBX) := fun {fi fe ρ} q1 q2 => by
              obtain ⟨f1, f2⟩ := mapX_find (CBX := CBX) (f := fun d => fe ((capD [none] ρ).set 0 (some d))) (g := TX.findN 1 20) (as := PySem.Txt.split a TX.sD) q2
              rw [ev_compX, q1, ev_bind_ok, if_pos lk]
              cases q : TX.allO (TX.findN 1 20) (PySem.Txt.split a TX.sD) with
              | none => rw [f2 q]; rfl
              | some rs => rw [f1 rs q]; rfl
            simp only [ev_seq, ev_set, ev_if, ev_op, ev_cl, ev_asB, ev_ret, ev_var0, ev_varS, ev_set0, ev_setS, ev_bind_ok, ev_bind_exc, ev_out_ok, ev_out_exc, ev_then_nx, ev_then_rt, ev_then_exc, ev_outrt, ev_outexc, ev_lenL, ev_lt, ev_le, ev_gt, ev_add, ev_and, ev_or, ev_not, ev_for, ev_neI, ev_eqI, ev_andV, ev_notV, ev_lstR, ev_tupR, ev_meth, ev_slice, ev_isn, ev_notn, ev_asI, ev_seqD, ev_rT, ev_t0, ev_t1, ev_l0, ev_l1, ev_lk1, ev_lk2, ev_lk4, if_true, if_false, Bool.false_eq_true, Bool.not_true, Bool.not_false, Bool.true_and, Bool.false_and, Bool.true_or, Bool.false_or, ev_lenR, ev_eqS, ev_neS, d5]
            rw [cx (by simp only [ev_seq, ev_set, ev_if, ev_op, ev_cl, ev_asB, ev_ret, ev_var0, ev_varS, ev_set0, ev_setS, ev_bind_ok, ev_bind_exc, ev_out_ok, ev_out_exc, ev_then_nx, ev_then_rt, ev_then_exc, ev_outrt, ev_outexc, ev_lenL, ev_lt, ev_le, ev_gt, ev_add, ev_and, ev_or, ev_not, ev_for, ev_neI, ev_eqI, ev_andV, ev_notV, ev_lstR, ev_tupR, ev_meth, ev_slice, ev_isn, ev_notn, ev_asI, ev_seqD, ev_rT, ev_t0, ev_t1, ev_l0, ev_l1, ev_lk1, ev_lk2, ev_lk4, if_true, if_false, Bool.false_eq_true, Bool.not_true, Bool.not_false, Bool.true_and, Bool.false_and, Bool.true_or, Bool.false_or, ev_lenR, ev_eqS, ev_neS]) (fun w hw => by
              rw [cd]
              simp only [ev_seq, ev_set, ev_if, ev_op, ev_cl, ev_asB, ev_ret, ev_var0, ev_varS, ev_set0, ev_setS, ev_bind_ok, ev_bind_exc, ev_out_ok, ev_out_exc, ev_then_nx, ev_then_rt, ev_then_exc, ev_outrt, ev_outexc, ev_lenL, ev_lt, ev_le, ev_gt, ev_add, ev_and, ev_or, ev_not, ev_for, ev_neI, ev_eqI, ev_andV, ev_notV, ev_lstR, ev_tupR, ev_meth, ev_slice, ev_isn, ev_notn, ev_asI, ev_seqD, ev_rT, ev_t0, ev_t1, ev_l0, ev_l1, ev_lk1, ev_lk2, ev_lk4, if_true, if_false, Bool.false_eq_true, Bool.not_true, Bool.not_false, Bool.true_and, Bool.false_and, Bool.true_or, Bool.false_or, ev_lenR, ev_eqS, ev_neS, mNumber_ok (CBX := CBX) (okS_part (y := TX.sD) ha hw) (show (0 : Int) ≤ 1 by decide) (show (1 : Int) ≤ 20 by decide) (by decide)]
              rfl)]
            cases q : TX.allO (TX.findN 1 20) (PySem.Txt.split a TX.sD) with
            | none =>
              simp only [ev_seq, ev_set, ev_if, ev_op, ev_cl, ev_asB, ev_ret, ev_var0, ev_varS, ev_set0, ev_setS, ev_bind_ok, ev_bind_exc, ev_out_ok, ev_out_exc, ev_then_nx, ev_then_rt, ev_then_exc, ev_outrt, ev_outexc, ev_lenL, ev_lt, ev_le, ev_gt, ev_add, ev_and, ev_or, ev_not, ev_for, ev_neI, ev_eqI, ev_andV, ev_notV, ev_lstR, ev_tupR, ev_meth, ev_slice, ev_isn, ev_notn, ev_asI, ev_seqD, ev_rT, ev_t0, ev_t1, ev_l0, ev_l1, ev_lk1, ev_lk2, ev_lk4, if_true, if_false, Bool.false_eq_true, Bool.not_true, Bool.not_false, Bool.true_and, Bool.false_and, Bool.true_or, Bool.false_or, ev_lenR, ev_eqS, ev_neS]
            | some rs =>
              dsimp only
              have g6 : mNumber CBX [.str b, .int 0, .int 5] = (match TX.findN 0 6 b with | some n => .ok (.int n) | none => .exc CBX) := mNumber_ok hb (by decide) (by decide) (by decide)
              cases qg : TX.findN 0 6 b with
              | none =>
                rw [qg] at g6
                simp only [ev_seq, ev_set, ev_if, ev_op, ev_cl, ev_asB, ev_ret, ev_var0, ev_varS, ev_set0, ev_setS, ev_bind_ok, ev_bind_exc, ev_out_ok, ev_out_exc, ev_then_nx, ev_then_rt, ev_then_exc, ev_outrt, ev_outexc, ev_lenL, ev_lt, ev_le, ev_gt, ev_add, ev_and, ev_or, ev_not, ev_for, ev_neI, ev_eqI, ev_andV, ev_notV, ev_lstR, ev_tupR, ev_meth, ev_slice, ev_isn, ev_notn, ev_asI, ev_seqD, ev_rT, ev_t0, ev_t1, ev_l0, ev_l1, ev_lk1, ev_lk2, ev_lk4, if_true, if_false, Bool.false_eq_true, Bool.not_true, Bool.not_false, Bool.true_and, Bool.false_and, Bool.true_or, Bool.false_or, ev_lenR, ev_eqS, ev_neS, g6]
              | some g =>
                rw [qg] at g6
                have hg : TX.Good rs g := by
                  obtain ⟨ea, hrr⟩ := TX.allO_inv (P := fun n => 1 ≤ n ∧ n ≤ 20) (fun w n hw => ⟨(TX.find_inv hw).1, (TX.find_inv hw).2.1, by have := (TX.find_inv hw).2.2; omega⟩) q
                  obtain ⟨_, g0, g5⟩ := TX.find_inv qg
                  refine ⟨fun zz => ?_, ?_, hrr, g0, by omega⟩
                  · rw [zz] at ea
                    exact TX.split_ne a TX.sD ea
                  · rw [ea] at h5
                    simpa using h5
                simp only [ev_seq, ev_set, ev_if, ev_op, ev_cl, ev_asB, ev_ret, ev_var0, ev_varS, ev_set0, ev_setS, ev_bind_ok, ev_bind_exc, ev_out_ok, ev_out_exc, ev_then_nx, ev_then_rt, ev_then_exc, ev_outrt, ev_outexc, ev_lenL, ev_lt, ev_le, ev_gt, ev_add, ev_and, ev_or, ev_not, ev_for, ev_neI, ev_eqI, ev_andV, ev_notV, ev_lstR, ev_tupR, ev_meth, ev_slice, ev_isn, ev_notn, ev_asI, ev_seqD, ev_rT, ev_t0, ev_t1, ev_l0, ev_l1, ev_lk1, ev_lk2, ev_lk4, if_true, if_false, Bool.false_eq_true, Bool.not_true, Bool.not_false, Bool.true_and, Bool.false_and, Bool.true_or, Bool.false_or, ev_lenR, ev_eqS, ev_neS, g6, init_good hg]
          · have d5 : decide (5 < ((PySem.Txt.split a TX.sD).length : Int)) = true := decide_eq_true (by omega)
            rw [if_neg h5]
            simp only [ev_seq, ev_set, ev_if, ev_op, ev_cl, ev_asB, ev_ret, ev_var0, ev_varS, ev_set0, ev_setS, ev_bind_ok, ev_bind_exc, ev_out_ok, ev_out_exc, ev_then_nx, ev_then_rt, ev_then_exc, ev_outrt, ev_outexc, ev_lenL, ev_lt, ev_le, ev_gt, ev_add, ev_and, ev_or, ev_not, ev_for, ev_neI, ev_eqI, ev_andV, ev_notV, ev_lstR, ev_tupR, ev_meth, ev_slice, ev_isn, ev_notn, ev_asI, ev_seqD, ev_rT, ev_t0, ev_t1, ev_l0, ev_l1, ev_lk1, ev_lk2, ev_lk4, if_true, if_false, Bool.false_eq_true, Bool.not_true, Bool.not_false, Bool.true_and, Bool.false_and, Bool.true_or, Bool.false_or, ev_lenR, ev_eqS, ev_neS, d5]
        · have hn : TX.readOf z = none := by
            unfold TX.readOf
            split
            · rename_i a b e
              rw [e] at h2
              exact absurd rfl h2
            · rfl
          have hb : (((PySem.Txt.split z TX.sW).length : Int) == 2) = false := beq_eq_false_iff_ne.mpr (by omega)
          simp only [ev_seq, ev_set, ev_if, ev_op, ev_cl, ev_asB, ev_ret, ev_var0, ev_varS, ev_set0, ev_setS, ev_bind_ok, ev_bind_exc, ev_out_ok, ev_out_exc, ev_then_nx, ev_then_rt, ev_then_exc, ev_outrt, ev_outexc, ev_lenL, ev_lt, ev_le, ev_gt, ev_add, ev_and, ev_or, ev_not, ev_for, ev_neI, ev_eqI, ev_andV, ev_notV, ev_lstR, ev_tupR, ev_meth, ev_slice, ev_isn, ev_notn, ev_asI, ev_seqD, ev_rT, ev_t0, ev_t1, ev_l0, ev_l1, ev_lk1, ev_lk2, ev_lk4, if_true, if_false, Bool.false_eq_true, Bool.not_true, Bool.not_false, Bool.true_and, Bool.false_and, Bool.true_or, Bool.false_or, ev_lenR, ev_eqS, ev_neS, hlm, hb, hn]
      · exact absurd rfl h
    · exact absurd rfl h
end
end K13
set_option Elab.async false
set_option linter.all false
set_option maxRecDepth 100000
set_option maxHeartbeats 8000000
namespace K13
open PySem L2
def Sm (n : Nat) (z : Str) : Prop := z.length ≤ n ∧ ∀ c ∈ z.cps.toList, c < 128
theorem Sm.ok {n : Nat} {z : Str} (h : Sm n z) (hn : n ≤ 190) : okS z = true := by
  unfold okS
  rw [Bool.and_eq_true, decide_eq_true_eq, List.all_eq_true]
  exact ⟨Nat.le_trans h.1 hn, fun c hc => decide_eq_true (h.2 c hc)⟩
theorem Sm.mono {m n : Nat} {z : Str} (h : Sm m z) (hn : m ≤ n) : Sm n z := ⟨Nat.le_trans h.1 hn, h.2⟩
theorem Sm.add {m n : Nat} {a b : Str} (ha : Sm m a) (hb : Sm n b) : Sm (m + n) (a ++ b) := by
  refine ⟨by rw [Str.length_append]; exact Nat.add_le_add ha.1 hb.1, fun c hc => ?_⟩
  rw [TX.cps_cat, List.mem_append] at hc
  rcases hc with h | h
  · exact ha.2 c h
  · exact hb.2 c h
theorem Sm.of {z : Str} {n : Nat} (h1 : decide (z.length ≤ n) = true) (h2 : (z.cps.toList.all fun c => decide (c < 128)) = true) : Sm n z := ⟨of_decide_eq_true h1, fun c hc => of_decide_eq_true (List.all_eq_true.mp h2 c hc)⟩
theorem join_signs {sep : Str} (hs : ∀ c ∈ sep.cps.toList, c < 128) : ∀ {ps : List Str}, (∀ p ∈ ps, ∀ c ∈ p.cps.toList, c < 128) → ∀ c ∈ (Str.join sep ps).cps.toList, c < 128
  | [], _, c, hc => by cases (show c ∈ ([] : List Nat) from hc)
  | [x], h, c, hc => h x List.mem_cons_self c hc
  | x :: y :: r, h, c, hc => by
    rw [TX.join_cons2, List.mem_append, List.mem_append] at hc
    rcases hc with z | z | z
    · exact h x List.mem_cons_self c z
    · exact hs c z
    · exact join_signs hs (fun p hp => h p (List.mem_cons_of_mem _ hp)) c z
theorem lens_le {m : Nat} : ∀ {ps : List Str}, (∀ p ∈ ps, Sm m p) → (ps.map (·.length)).sum ≤ ps.length * m
  | [], _ => by simp
  | p :: ps, h => by
    have h1 := (h p List.mem_cons_self).1
    have h2 := lens_le fun q hq => h q (List.mem_cons_of_mem _ hq)
    rw [List.map_cons, List.sum_cons, List.length_cons, Nat.add_mul]
    omega
theorem Sm.join {m j k : Nat} {sep : Str} {ps : List Str} (h : ∀ p ∈ ps, Sm m p) (hs : Sm j sep) (hk : ps.length ≤ k) : Sm (k * m + k * j) (PySem.Txt.join sep ps) := by
  have e : PySem.Txt.join sep ps = Str.join sep ps := StrLaws.glued_eq_join sep ps
  rw [e]
  refine ⟨?_, join_signs hs.2 fun p hp => (h p hp).2⟩
  have h1 := StrLaws.join_length_le sep ps
  have h2 := lens_le h
  have h3 : ps.length * m ≤ k * m := Nat.mul_le_mul_right _ hk
  have h4 : ps.length * sep.length ≤ k * j := Nat.mul_le_mul hk hs.1
  omega
theorem Sm.slice {n : Nat} {z : Str} (h : Sm n z) (lo hi : Option Int) : Sm n (PySem.Txt.slice z lo hi) := by
  refine ⟨Nat.le_trans (PySem.Txt.slice_le z lo hi) h.1, fun c hc => ?_⟩
  unfold PySem.Txt.slice at hc
  split at hc
  · exact h.2 c hc
  · have hc' : c ∈ (Builtin.Str.strSliceIndices lo hi 1 z.length).filterMap (z.cps[·]?) := hc
    rw [List.mem_filterMap] at hc'
    obtain ⟨i, _, hi'⟩ := hc'
    exact h.2 c (Array.mem_toList_iff.mpr (Array.mem_of_getElem? hi'))
theorem Sm.num {n : Int} (h0 : 0 ≤ n) (h1 : n < 100) : Sm 2 (TX.nS n) := by
  have : ∀ k : Fin 100, decide ((TX.nS (k.val : Int)).length ≤ 2) = true ∧ ((TX.nS (k.val : Int)).cps.toList.all fun c => decide (c < 128)) = true := by decide +kernel
  obtain ⟨k, rfl⟩ := TX.at100 h0 h1
  exact .of (this k).1 (this k).2
theorem ev_addSm {m n : Nat} {a b : Str} (ha : Sm m a) (hb : Sm n b) (h : m + n ≤ 100000) : addS (.str a) (.str b) = .ok (.str (a ++ b)) := if_pos (decide_eq_true (by have := ha.1; have := hb.1; omega))
theorem ev_joinSm {m j : Nat} {y : Str} {ps : List Str} (hp : ∀ p ∈ ps, Sm m p) (hy : Sm j y) (h : ps.length * m + ps.length * j ≤ 100000) : joinD (.str y) (.lst (ps.map D.str)) = .ok (.str (PySem.Txt.join y ps)) := by
  unfold joinD
  dsimp only
  rw [allStrs_map]
  dsimp only
  have h2 := lens_le hp
  have h4 : ps.length * y.length ≤ ps.length * j := Nat.mul_le_mul_left _ hy.1
  exact if_pos (by omega)
theorem ev_slSm {n : Nat} {z : Str} {lo hi : Option Int} (h : Sm n z) (hn : n ≤ 100000) : sliceS lo hi (.str z) = .ok (.str (PySem.Txt.slice z lo hi)) := if_pos (decide_eq_true (by have := (h.slice lo hi).1; omega))
def cutS (ps : List Str) (lo hi : Option Int) : List Str := (ps.drop (HT.sIx ps.length 0 lo)).take (HT.sIx ps.length ps.length hi - HT.sIx ps.length 0 lo)
theorem cut_strs {ps : List Str} {lo hi : Option Int} : sliceD lo hi (.lst (ps.map D.str)) = .ok (.lst ((cutS ps lo hi).map D.str)) := by
  unfold sliceD cutD cutS
  dsimp only
  rw [List.length_map, List.map_take, List.map_drop]
theorem cut_sub {ps : List Str} {lo hi : Option Int} {p : Str} (h : p ∈ cutS ps lo hi) : p ∈ ps := List.mem_of_mem_drop (List.mem_of_mem_take h)
theorem cut_len {ps : List Str} {lo hi : Option Int} : (cutS ps lo hi).length ≤ ps.length := by
  unfold cutS
  rw [List.length_take, List.length_drop]
  omega
theorem ev_catS {a b : List Str} (h : a.length + b.length ≤ 100000) : catL (.lst (a.map D.str)) (.lst (b.map D.str)) = .ok (.lst ((a ++ b).map D.str)) := by
  have e : catL (.lst (a.map D.str)) (.lst (b.map D.str)) = .ok (.lst (a.map D.str ++ b.map D.str)) := if_pos (decide_eq_true (by rw [List.length_map, List.length_map]; exact h))
  rw [e, List.map_append]
theorem ev_repS {x : Str} {k : Int} (h0 : 0 ≤ k) (h1 : k ≤ 100) : repL (.lst [.str x]) (.int k) = .ok (.lst ((List.replicate k.toNat x).map D.str)) := by
  have e : repL (.lst [.str x]) (.int k) = .ok (.lst (List.replicate k.toNat [D.str x]).flatten) := if_pos (by
    simp only [Bool.and_eq_true, decide_eq_true_eq]
    refine ⟨⟨by omega, by omega⟩, decide_eq_true ?_⟩
    simp only [List.length_cons, List.length_nil]
    omega)
  rw [e]
  have : ∀ n : Nat, (List.replicate n [D.str x]).flatten = (List.replicate n x).map D.str := by
    intro n
    induction n with
    | zero => rfl
    | succ n ih => rw [List.replicate_succ, List.replicate_succ, List.flatten_cons, ih]; rfl
  rw [this]
theorem ev_pickC {z : Str} {i : Int} (hz : z.length ≤ 1000) (h0 : 0 ≤ i) (h1 : i < z.length) : ∃ c ∈ z.cps.toList, ixD (.str z) (.int i) = .ok (.str ⟨#[c]⟩) := by
  have hl : z.length = z.cps.toList.length := by simp [Str.length]
  have hlt : i.toNat < z.cps.toList.length := by omega
  refine ⟨z.cps.toList[i.toNat], List.getElem_mem hlt, ?_⟩
  unfold ixD
  dsimp only
  rw [atI_of h0 (List.getElem?_eq_getElem hlt)]
  exact if_pos (decide_eq_true (by omega))
theorem dr_ok {ns : List Int} {k many : Int} (h0 : 0 ≤ k) (h1 : k < 1000) (h2 : 0 < many) (h3 : many < 1000) : mDrawn [.scr ns, .int k, .int many] = .ok (.int (drawn ns k many)) := if_pos ⟨h0, h1, h2, h3⟩
theorem dr_lo {ns : List Int} {k many : Int} (h : 0 < many) : 0 ≤ drawn ns k many := Int.emod_nonneg _ (by omega)
theorem dr_hi {ns : List Int} {k many : Int} (h : 0 < many) : drawn ns k many < many := Int.emod_lt_of_pos _ h
theorem rng_ints {n : Nat} : rngD 0 n = ((List.range n).map fun (i : Nat) => (0 : Int) + (i : Int)).map D.int := by
  unfold rngD
  rw [List.map_map]
  rfl
section
variable {P : Program} {w : World} {K : PySem.W.Frag} {mg : Str → Option Value} {base : Heap} {CL CHE CBL CBT CBX : Addr}
structure DrF (P : Program) (w : World) (K : PySem.W.Frag) (mg : Str → Option Value) (base : Heap) (f : Addr) (fd : FuncData) : Prop where
  G : FnOk P w K mg base (CXF P w) 1 f fd ["script", "k", "many"] (pureSp K mDrawn)
  b : Binds K fd ["script", "k", "many"] []
  m : mg "_law_drawn" = some (.ref f)
  k : PySem.W.keepIn K (.ref f) = true
theorem scLB : FnScope ["script", "base", "many", "runs"] ["script", "base"] (defScope sLineBy) := ⟨rfl, rfl, rfl, by decide +kernel, rfl, by decide +kernel, by decide +kernel⟩
def m2 (FB : DS → Out) (N : List Str) : List D → Res D
  | [a, b] => outM (FB (startD N [a, b]))
  | _ => .bad
def m1 (FB : DS → Out) (N : List Str) : List D → Res D
  | [a] => outM (FB (startD N [a]))
  | _ => .bad
def m3 (FB : DS → Out) (N : List Str) : List D → Res D
  | [a, b, c] => outM (FB (startD N [a, b, c]))
  | _ => .bad
theorem ok_lineBy {f fD : Addr} {fd fdD : FuncData} (F : Fun K "_law_line_by" "_law_line_by" sLineBy f fd) (T : Txt K mg CL CHE CBL CBT CBX) (Z : DrF P w K mg base fD fdD) :
    ∃ m : List D → Res D, FnOk P w K mg base (CXF P w) 2 f fd ["script", "base"] (pureSp K m) ∧ ∀ ns : List Int, ∃ rs g, TX.Good rs g ∧ m [.scr ns, .int 0] = .ok (.tup [.lst (rs.map D.int), .int g]) := by
  obtain ⟨FB, hB, hv⟩ : ∃ FB : DS → Out, (∀ (cdv : Value) (A : Around) (outer : List Env) (s : Shared) (H : Hp) (E : XK), Room 1 (A.deeper (PyProof.Rows.envOfC "_law_line_by" (defScope sLineBy) s.heap.objs.size f cdv)) →
      POs (CXof P w K mg base ["script", "base", "many", "runs"] "_law_line_by" (defScope sLineBy) f cdv A outer s H E) E (defBody sLineBy) FB) ∧
      ∀ ns : List Int, ∃ rs g, TX.Good rs g ∧ m2 FB ["script", "base", "many", "runs"] [.scr ns, .int 0] = .ok (.tup [.lst (rs.map D.int), .int g]) := by
    apply Exists.intro
    refine And.intro (fun cdv A outer s H E hr => ?_) ?_
    · have S : CompSc (CXof P w K mg base ["script", "base", "many", "runs"] "_law_line_by" (defScope sLineBy) f cdv A outer s H E) { kind := .function, names := [(".0", .local), ("k", .local), ("_law_drawn", .globalImplicit), ("base", .free), ("script", .free)], isGenerator := false, isCoroutine := false } ["k", "script", "base"] [none, some 0, some 1] :=
        ⟨rfl, by decide +kernel, by decide +kernel, (by intro y hy hk; rcases List.mem_cons.mp hy with rfl | hy; (· cases hk); rcases List.mem_cons.mp hy with rfl | hy; (· cases hk); rcases List.mem_cons.mp hy with rfl | hy; (· cases hk); rcases List.mem_cons.mp hy with rfl | hy; (· exact .inl rfl); rcases List.mem_cons.mp hy with rfl | hy; (· exact .inl rfl); cases hy), by decide +kernel, rfl,
          (fun j k x h1 h2 => by (match j, h1, h2 with | 0, h1, _ => cases h1 | 1, h1, h2 => cases h2; rfl | 2, h1, h2 => cases h2; rfl)), (fun j k x h1 h2 => by (match j, h1, h2 with | 0, h1, _ => cases h1 | 1, h1, h2 => cases h1; cases h2; exact ⟨rfl, .inl rfl⟩ | 2, h1, h2 => cases h1; cases h2; exact ⟨rfl, .inl rfl⟩))⟩
      exact pos_cons (po_set (i := 2) scLB.nd rfl (Or.inl rfl) (pd_bin do_add pd_int (pd_cl Z.G hr Z.m Z.k Z.b (pda_cons (dv 0) (pda_cons (dv 1) (pda_cons pd_int pda_nil))))))
        (pos_cons (po_setComp (passesH_cx fun _ _ _ h => h) rfl rfl scLB.nd (i := 3) rfl rfl rfl S (j := 0) rfl rfl rfl (pi_drange1 rfl T.rng (pda_cons (dv 2) pda_nil))
          (fun _ _ _ _ _ hx => pd_bin do_add pd_int (pd_cl Z.G hr Z.m Z.k Z.b (pda_cons (dv 1) (pda_cons (pd_bin do_add (pd_bin do_add (dv 2) pd_int) (dv 0)) (pda_cons (pd_ix (pd_lst (pda_cons pd_int (pda_cons pd_int pda_nil))) (pd_cl Z.G hr Z.m Z.k Z.b (pda_cons (dv 1) (pda_cons (pd_bin do_add (dv 2) pd_int) (pda_cons pd_int pda_nil))) hx)) pda_nil))) hx)))
        (pos_one (po_ret (pd_tup (pda_cons (dv 3) (pda_cons (pd_cl Z.G hr Z.m Z.k Z.b (pda_cons (dv 0) (pda_cons (pd_bin do_add (dv 1) pd_int) (pda_cons pd_int pda_nil)))) pda_nil))))))
    · intro ns
      unfold m2
      dsimp only
      have e0 : startD ["script", "base", "many", "runs"] [D.scr ns, .int 0] = [some (.scr ns), some (.int 0), none, none] := rfl
      rw [e0]
      have d0 : mDrawn [.scr ns, .int 0, .int 5] = .ok (.int (drawn ns 0 5)) := dr_ok (by omega) (by omega) (by omega) (by omega)
      have b0 : 0 ≤ drawn ns 0 5 := dr_lo (by omega)
      have b1 : drawn ns 0 5 < 5 := dr_hi (by omega)
      have er : rng1 [.int (1 + drawn ns 0 5)] = .ok (((List.range (1 + drawn ns 0 5).toNat).map fun (i : Nat) => (0 : Int) + (i : Int)).map D.int) := by
        unfold rng1
        dsimp only
        rw [if_pos (by unfold smallI; simp only [Bool.and_eq_true, decide_eq_true_eq]; omega), rng_ints]
      have lk : lenOk (((List.range (1 + drawn ns 0 5).toNat).map fun (i : Nat) => (0 : Int) + (i : Int)).map D.int).length = true := decide_eq_true (by rw [List.length_map, List.length_map, List.length_range]; omega)
      have cd : ∀ (o2 o3 : Option D) (d : D), (capD [none, some 0, some 1] [some (.scr ns), some (.int 0), o2, o3]).set 0 (some d) = [some d, some (.scr ns), some (.int 0)] := fun _ _ _ => rfl
      have d1 : mDrawn [.scr ns, .int (0 + 1), .int 2] = .ok (.int (drawn ns 1 2)) := dr_ok (by omega) (by omega) (by omega) (by omega)
      have c0 : 0 ≤ drawn ns 1 2 := dr_lo (by omega)
      have c1 : drawn ns 1 2 < 2 := dr_hi (by omega)
      have d8 : mDrawn [.scr ns, .int (0 + 8), .int 6] = .ok (.int (drawn ns 8 6)) := dr_ok (by omega) (by omega) (by omega) (by omega)
      have g0 : 0 ≤ drawn ns 8 6 := dr_lo (by omega)
      have g1 : drawn ns 8 6 < 6 := dr_hi (by omega)
      obtain ⟨q, hq, eq⟩ : ∃ q : Int, (q = 4 ∨ q = 20) ∧ ixD (.lst [.int 4, .int 20]) (.int (drawn ns 1 2)) = .ok (.int q) := by
        rcases (by omega : drawn ns 1 2 = 0 ∨ drawn ns 1 2 = 1) with h | h
        · exact ⟨4, .inl rfl, by rw [h]; exact ev_l0⟩
        · exact ⟨20, .inr rfl, by rw [h]; exact ev_l1⟩
      have dk : ∀ k : Int, 0 ≤ k → k < 5 → mDrawn [.scr ns, .int (0 + 2 + k), .int q] = .ok (.int (drawn ns (0 + 2 + k) q)) := fun k h0 h1 => dr_ok (by omega) (by omega) (by omega) (by omega)
      simp only [ev_seq, ev_set, ev_if, ev_op, ev_cl, ev_asB, ev_ret, ev_var0, ev_varS, ev_set0, ev_setS, ev_bind_ok, ev_bind_exc, ev_out_ok, ev_out_exc, ev_then_nx, ev_then_rt, ev_then_exc, ev_outrt, ev_outexc, ev_lenL, ev_lt, ev_le, ev_gt, ev_add, ev_and, ev_or, ev_not, ev_for, ev_neI, ev_eqI, ev_andV, ev_notV, ev_lstR, ev_tupR, ev_meth, ev_slice, ev_isn, ev_notn, ev_asI, ev_seqD, ev_rT, ev_t0, ev_t1, ev_l0, ev_l1, ev_lk1, ev_lk2, ev_lk4, if_true, if_false, Bool.false_eq_true, Bool.not_true, Bool.not_false, Bool.true_and, Bool.false_and, Bool.true_or, Bool.false_or, ev_lenR, ev_eqS, ev_neS, d0]
      rw [compX_ints ((List.range (1 + drawn ns 0 5).toNat).map fun (i : Nat) => (0 : Int) + (i : Int)) (fun k => .int (1 + drawn ns (0 + 2 + k) q)) (by simp only [ev_seq, ev_set, ev_if, ev_op, ev_cl, ev_asB, ev_ret, ev_var0, ev_varS, ev_set0, ev_setS, ev_bind_ok, ev_bind_exc, ev_out_ok, ev_out_exc, ev_then_nx, ev_then_rt, ev_then_exc, ev_outrt, ev_outexc, ev_lenL, ev_lt, ev_le, ev_gt, ev_add, ev_and, ev_or, ev_not, ev_for, ev_neI, ev_eqI, ev_andV, ev_notV, ev_lstR, ev_tupR, ev_meth, ev_slice, ev_isn, ev_notn, ev_asI, ev_seqD, ev_rT, ev_t0, ev_t1, ev_l0, ev_l1, ev_lk1, ev_lk2, ev_lk4, if_true, if_false, Bool.false_eq_true, Bool.not_true, Bool.not_false, Bool.true_and, Bool.false_and, Bool.true_or, Bool.false_or, ev_lenR, ev_eqS, ev_neS, er]) lk (fun k hk => by
        obtain ⟨i, hi, rfl⟩ := List.mem_map.mp hk
        rw [List.mem_range] at hi
        rw [cd]
        simp only [ev_seq, ev_set, ev_if, ev_op, ev_cl, ev_asB, ev_ret, ev_var0, ev_varS, ev_set0, ev_setS, ev_bind_ok, ev_bind_exc, ev_out_ok, ev_out_exc, ev_then_nx, ev_then_rt, ev_then_exc, ev_outrt, ev_outexc, ev_lenL, ev_lt, ev_le, ev_gt, ev_add, ev_and, ev_or, ev_not, ev_for, ev_neI, ev_eqI, ev_andV, ev_notV, ev_lstR, ev_tupR, ev_meth, ev_slice, ev_isn, ev_notn, ev_asI, ev_seqD, ev_rT, ev_t0, ev_t1, ev_l0, ev_l1, ev_lk1, ev_lk2, ev_lk4, if_true, if_false, Bool.false_eq_true, Bool.not_true, Bool.not_false, Bool.true_and, Bool.false_and, Bool.true_or, Bool.false_or, ev_lenR, ev_eqS, ev_neS, d1, eq, dk (0 + (i : Int)) (by omega) (by omega)])]
      simp only [ev_seq, ev_set, ev_if, ev_op, ev_cl, ev_asB, ev_ret, ev_var0, ev_varS, ev_set0, ev_setS, ev_bind_ok, ev_bind_exc, ev_out_ok, ev_out_exc, ev_then_nx, ev_then_rt, ev_then_exc, ev_outrt, ev_outexc, ev_lenL, ev_lt, ev_le, ev_gt, ev_add, ev_and, ev_or, ev_not, ev_for, ev_neI, ev_eqI, ev_andV, ev_notV, ev_lstR, ev_tupR, ev_meth, ev_slice, ev_isn, ev_notn, ev_asI, ev_seqD, ev_rT, ev_t0, ev_t1, ev_l0, ev_l1, ev_lk1, ev_lk2, ev_lk4, if_true, if_false, Bool.false_eq_true, Bool.not_true, Bool.not_false, Bool.true_and, Bool.false_and, Bool.true_or, Bool.false_or, ev_lenR, ev_eqS, ev_neS, d8]
      refine ⟨((List.range (1 + drawn ns 0 5).toNat).map fun (i : Nat) => (0 : Int) + (i : Int)).map fun k => 1 + drawn ns (0 + 2 + k) q, drawn ns 8 6, ⟨?_, ?_, ?_, g0, by omega⟩, ?_⟩
      · intro z
        have := congrArg List.length z
        simp at this
        omega
      · simp
        omega
      · intro n hn
        obtain ⟨k, _, rfl⟩ := List.mem_map.mp hn
        have h1 : 0 ≤ drawn ns (0 + 2 + k) q := dr_lo (by omega)
        have h2 : drawn ns (0 + 2 + k) q < q := dr_hi (by omega)
        omega
      · rw [List.map_map, List.map_map, List.map_map]
        rfl
  refine ⟨m2 FB ["script", "base", "many", "runs"], ?_, hv⟩
  refine F.pure scLB (fun ds h => ?_) (fun cdv A outer s H E hr => ⟨FB, hB cdv A outer s H E hr, fun ds h => ?_⟩)
  · unfold m2 at h
    split at h
    · rfl
    · exact absurd rfl h
  · unfold m2 at h ⊢
    split at h
    · rfl
    · exact absurd rfl h
end
end K13
set_option Elab.async false
set_option linter.all false
set_option maxRecDepth 100000
set_option maxHeartbeats 8000000
namespace K13
open PySem L2
section
variable {P : Program} {w : World} {K : PySem.W.Frag} {mg : Str → Option Value} {base : Heap} {CL CHE CBL CBT CBX : Addr}
def cst : Expr → Str
  | .Constant (.str x) _ _ => x
  | .BinOp _ _ (.Constant (.str x) _ _) _ => x
  | _ => "x"
def asgE : Stmt → Expr
  | .Assign _ e _ => e
  | .If _ (.Assign _ e _ :: _) _ _ => e
  | _ => .Constant .none 0 ⟨0, 0, 0, 0⟩
def c1 : Str := cst (asgE (bd sSign 0))
def c2 : Str := cst (asgE (bd sSign 1))
def c3 : Str := cst (asgE (bd sSign 2))
theorem c12 : Sm 120 (c1 ++ c2) := .of (by decide +kernel) (by decide +kernel)
theorem c12a : lenOk (c1.length + c2.length) = true := by decide +kernel
theorem c3s : Sm 120 c3 := .of (by decide +kernel) (by decide +kernel)
theorem c12p : 0 < (c1 ++ c2).length := by decide +kernel
theorem c3p : 0 < c3.length := by decide +kernel
theorem scSg : FnScope ["script", "some"] ["script"] (defScope sSign) := ⟨rfl, rfl, rfl, by decide +kernel, rfl, by decide +kernel, by decide +kernel⟩
theorem ok_sign {f fD : Addr} {fd fdD : FuncData} (F : Fun K "_law_sign_by" "_law_sign_by" sSign f fd) (T : Txt K mg CL CHE CBL CBT CBX) (Z : DrF P w K mg base fD fdD) :
    ∃ m : List D → Res D, FnOk P w K mg base (CXF P w) 2 f fd ["script"] (pureSp K m) ∧ ∀ ns : List Int, ∃ z, Sm 1 z ∧ m [.scr ns] = .ok (.str z) := by
  obtain ⟨FB, hB, hv⟩ : ∃ FB : DS → Out, (∀ (cdv : Value) (A : Around) (outer : List Env) (s : Shared) (H : Hp) (E : XK), Room 1 (A.deeper (PyProof.Rows.envOfC "_law_sign_by" (defScope sSign) s.heap.objs.size f cdv)) →
      POs (CXof P w K mg base ["script", "some"] "_law_sign_by" (defScope sSign) f cdv A outer s H E) E (defBody sSign) FB) ∧
      ∀ ns : List Int, ∃ z, Sm 1 z ∧ m1 FB ["script", "some"] [.scr ns] = .ok (.str z) := by
    apply Exists.intro
    refine And.intro (fun cdv A outer s H E hr => ?_) ?_
    · exact pos_cons (po_set (i := 1) scSg.nd rfl (Or.inl rfl) (pd_str (x := c1)))
        (pos_cons (po_set (i := 1) scSg.nd rfl (Or.inl rfl) (pd_bin do_addS (dv 1) (pd_str (x := c2))))
        (pos_cons (po_if (pdt_cmp (do_eq hr.units) (pd_cl Z.G hr Z.m Z.k Z.b (pda_cons (dv 0) (pda_cons pd_int (pda_cons pd_int pda_nil)))) pd_int (nomark _)) (pos_one (po_set (i := 1) scSg.nd rfl (Or.inl rfl) (pd_str (x := c3)))) pos_nil)
        (pos_one (po_ret (pd_ix (dv 1) (pd_cl Z.G hr Z.m Z.k Z.b (pda_cons (dv 0) (pda_cons pd_int (pda_cons (pd_lenS T.len (dv 1)) pda_nil)))))))))
    · intro ns
      unfold m1
      dsimp only
      have e0 : startD ["script", "some"] [D.scr ns] = [some (.scr ns), none] := rfl
      rw [e0]
      have d1 : mDrawn [.scr ns, .int 101, .int 2] = .ok (.int (drawn ns 101 2)) := dr_ok (by omega) (by omega) (by omega) (by omega)
      have ea : addS (.str c1) (.str c2) = .ok (.str (c1 ++ c2)) := by
        unfold addS
        exact if_pos c12a
      have fin : ∀ z : Str, Sm 120 z → 0 < z.length → ∃ c ∈ z.cps.toList, lenS [.str z] = .ok (.int z.length) ∧ mDrawn [.scr ns, .int 102, .int z.length] = .ok (.int (drawn ns 102 z.length)) ∧ ixD (.str z) (.int (drawn ns 102 z.length)) = .ok (.str ⟨#[c]⟩) := by
        intro z hz h0
        have hl := hz.1
        have a0 : 0 ≤ drawn ns 102 z.length := dr_lo (by omega)
        have a1 : drawn ns 102 z.length < z.length := dr_hi (by omega)
        obtain ⟨c, hc, e⟩ := ev_pickC (z := z) (by omega) a0 a1
        exact ⟨c, hc, ev_lenS (decide_eq_true (by omega)), dr_ok (by omega) (by omega) (by omega) (by omega), e⟩
      have one : ∀ {z : Str} {c : Nat}, Sm 120 z → c ∈ z.cps.toList → Sm 1 (⟨#[c]⟩ : Str) := fun {z c} hz hc => ⟨Nat.le_refl 1, fun d hd => by
        rw [List.mem_singleton.mp (show d ∈ [c] from hd)]
        exact hz.2 c hc⟩
      cases hq : (drawn ns 101 2 == 1) with
      | true =>
        obtain ⟨c, hc, f1, f2, f3⟩ := fin c3 c3s c3p
        simp only [ev_seq, ev_set, ev_if, ev_op, ev_cl, ev_asB, ev_ret, ev_var0, ev_varS, ev_set0, ev_setS, ev_bind_ok, ev_bind_exc, ev_out_ok, ev_out_exc, ev_then_nx, ev_then_rt, ev_then_exc, ev_outrt, ev_outexc, ev_lenL, ev_lt, ev_le, ev_gt, ev_add, ev_and, ev_or, ev_not, ev_for, ev_neI, ev_eqI, ev_andV, ev_notV, ev_lstR, ev_tupR, ev_meth, ev_slice, ev_isn, ev_notn, ev_asI, ev_seqD, ev_rT, ev_t0, ev_t1, ev_l0, ev_l1, ev_lk1, ev_lk2, ev_lk4, if_true, if_false, Bool.false_eq_true, Bool.not_true, Bool.not_false, Bool.true_and, Bool.false_and, Bool.true_or, Bool.false_or, ev_lenR, ev_eqS, ev_neS, d1, ea, hq, f1, f2, f3]
        exact ⟨_, one c3s hc, rfl⟩
      | false =>
        obtain ⟨c, hc, f1, f2, f3⟩ := fin (c1 ++ c2) c12 c12p
        simp only [ev_seq, ev_set, ev_if, ev_op, ev_cl, ev_asB, ev_ret, ev_var0, ev_varS, ev_set0, ev_setS, ev_bind_ok, ev_bind_exc, ev_out_ok, ev_out_exc, ev_then_nx, ev_then_rt, ev_then_exc, ev_outrt, ev_outexc, ev_lenL, ev_lt, ev_le, ev_gt, ev_add, ev_and, ev_or, ev_not, ev_for, ev_neI, ev_eqI, ev_andV, ev_notV, ev_lstR, ev_tupR, ev_meth, ev_slice, ev_isn, ev_notn, ev_asI, ev_seqD, ev_rT, ev_t0, ev_t1, ev_l0, ev_l1, ev_lk1, ev_lk2, ev_lk4, if_true, if_false, Bool.false_eq_true, Bool.not_true, Bool.not_false, Bool.true_and, Bool.false_and, Bool.true_or, Bool.false_or, ev_lenR, ev_eqS, ev_neS, d1, ea, hq, f1, f2, f3]
        exact ⟨_, one c12 hc, rfl⟩
  refine ⟨m1 FB ["script", "some"], ?_, hv⟩
  refine F.pure scSg (fun ds h => ?_) (fun cdv A outer s H E hr => ⟨FB, hB cdv A outer s H E hr, fun ds h => ?_⟩)
  · unfold m1 at h
    split at h
    · rfl
    · exact absurd rfl h
  · unfold m1 at h ⊢
    split at h
    · rfl
    · exact absurd rfl h
end
end K13
set_option Elab.async false
set_option linter.all false
set_option maxRecDepth 100000
set_option maxHeartbeats 16000000
namespace K13
open PySem L2
seal L2.PD L2.PDA L2.PO1 L2.POs L2.PDT L2.PDW L2.PDO
def valC : Expr → D
  | .Constant (.str x) _ _ => .str x
  | _ => .non
def smC : Expr → Bool
  | .Constant (.str x) _ _ => decide (x.length ≤ 3) && x.cps.toList.all fun c => decide (c < 128)
  | _ => false
theorem st_str {x : Str} {j} {pos : Pos} {es : List Expr} {env : Env} : starEach (.Constant (.str x) j pos :: es) env = (false, eval (.Constant (.str x) j pos) env) :: starEach es env := rfl
theorem pda_C {X : Cx} {E : XK} : ∀ (es : List Expr), es.all smC = true → PDA X E es (fun _ => .ok (es.map valC))
  | [], _ => pda_nil
  | e :: es, h => by
    rw [List.all_cons, Bool.and_eq_true] at h
    have ih := pda_C (X := X) (E := E) es h.2
    have h1 := h.1
    unfold smC at h1
    split at h1
    · exact pda_cons pd_str ih st_str
    · cases h1
theorem pd_lstC {X : Cx} {E : XK} (es : List Expr) {pos : Pos} (h : es.all smC = true) (hl : lenOk (es.map valC).length = true) : PD X E (.List es pos) (fun _ => .ok (.lst (es.map valC))) := by
  have q := pd_lst (X := X) (E := E) (pos := pos) (pda_C es h)
  have e : lstR (fun _ => (.ok (es.map valC) : Res (List D))) = fun _ => .ok (.lst (es.map valC)) := funext fun ρ => by
    unfold lstR
    rw [ev_bind_ok, if_pos hl]
  rw [← e]
  exact q
theorem pick_C {i : Int} : ∀ {es : List Expr}, es.all smC = true → 0 ≤ i → i < es.length → ∃ p, Sm 3 p ∧ ixD (.lst (es.map valC)) (.int i) = .ok (.str p) := by
  intro es h h0 h1
  have hlt : i.toNat < es.length := by omega
  have hm := List.all_eq_true.mp h _ (List.getElem_mem hlt)
  unfold smC at hm
  split at hm
  · rename_i x j pos he
    rw [Bool.and_eq_true] at hm
    refine ⟨x, .of hm.1 hm.2, ev_ixL (atI_of h0 ?_)⟩
    rw [List.getElem?_map, List.getElem?_eq_getElem hlt, he]
    rfl
  · cases hm
def menu : Stmt → List Expr
  | .Assign _ (.Subscript (.List es _) _ _) _ => es
  | .If _ (.Assign _ (.Subscript (.List es _) _ _) _ :: _) _ _ => es
  | _ => []
@[irreducible] def oddsE : List Expr := menu (bd sSpoilt 5)
@[irreducible] def gapsE : List Expr := menu (bd sSpoilt 11)
theorem oddsE_ok : oddsE.all smC = true := by decide +kernel
theorem gapsE_ok : gapsE.all smC = true := by decide +kernel
theorem oddsE_n : oddsE.length = 12 := by decide +kernel
theorem gapsE_n : gapsE.length = 10 := by decide +kernel
theorem oddsE_l : lenOk (oddsE.map valC).length = true := decide_eq_true (by rw [List.length_map, oddsE_n]; decide)
theorem gapsE_l : lenOk (gapsE.map valC).length = true := decide_eq_true (by rw [List.length_map, gapsE_n]; decide)
theorem pd_lstO {X : Cx} {E : XK} {es : List Expr} {pos : Pos} (h : es = oddsE) : PD X E (.List es pos) (fun _ => .ok (.lst (oddsE.map valC))) := by
  rw [h]
  exact pd_lstC oddsE oddsE_ok oddsE_l
theorem pd_lstG {X : Cx} {E : XK} {es : List Expr} {pos : Pos} (h : es = gapsE) : PD X E (.List es pos) (fun _ => .ok (.lst (gapsE.map valC))) := by
  rw [h]
  exact pd_lstC gapsE gapsE_ok gapsE_l
theorem ev_slS {f : DS → Res D} {lo hi : DS → Res (Option Int)} {ρ : DS} : slS f lo hi ρ = (f ρ).bind fun d => (lo ρ).bind fun l => (hi ρ).bind fun u => sliceS l u d := id rfl
theorem ev_onC {x : Str} {g : Str → DS → Res D} {ρ : DS} : onStr (fun _ => .ok (.str x)) g ρ = g x ρ := ev_onStr rfl
section
variable {P : Program} {w : World} {K : PySem.W.Frag} {mg : Str → Option Value} {base : Heap} {CL CHE CBL CBT CBX : Addr}
structure SgF (P : Program) (w : World) (K : PySem.W.Frag) (mg : Str → Option Value) (base : Heap) (f : Addr) (fd : FuncData) (mS : List D → Res D) : Prop where
  G : FnOk P w K mg base (CXF P w) 2 f fd ["script"] (pureSp K mS)
  b : Binds K fd ["script"] []
  m : mg "_law_sign_by" = some (.ref f)
  k : PySem.W.keepIn K (.ref f) = true
  v : ∀ ns : List Int, ∃ z, Sm 1 z ∧ mS [.scr ns] = .ok (.str z)
abbrev NSp : List Str := ["script", "runs", "gap", "words", "shown", "mode", "at", "k", "odd"]
theorem scSp : FnScope NSp ["script", "runs", "gap"] (defScope sSpoilt) := ⟨rfl, rfl, rfl, by decide +kernel, rfl, by decide +kernel, by decide +kernel⟩
theorem ok_spoilt {f fD fS : Addr} {fd fdD fdS : FuncData} {mS : List D → Res D} (F : Fun K "_law_spoilt" "_law_spoilt" sSpoilt f fd) (T : Txt K mg CL CHE CBL CBT CBX) (Z : DrF P w K mg base fD fdD) (Y : SgF P w K mg base fS fdS mS) :
    ∃ m : List D → Res D, FnOk P w K mg base (CXF P w) 3 f fd ["script", "runs", "gap"] (pureSp K m) ∧ ∀ (ns rs : List Int) (g : Int), TX.Good rs g → ∃ z, okS z = true ∧ m [.scr ns, .lst (rs.map D.int), .int g] = .ok (.str z) := by
  obtain ⟨FB, hB, hv⟩ : ∃ FB : DS → Out, (∀ (cdv : Value) (A : Around) (outer : List Env) (s : Shared) (H : Hp) (E : XK), Room 2 (A.deeper (PyProof.Rows.envOfC "_law_spoilt" (defScope sSpoilt) s.heap.objs.size f cdv)) →
      POs (CXof P w K mg base NSp "_law_spoilt" (defScope sSpoilt) f cdv A outer s H E) E (defBody sSpoilt) FB) ∧
      ∀ (ns rs : List Int) (g : Int), TX.Good rs g → ∃ z, okS z = true ∧ m3 FB NSp [.scr ns, .lst (rs.map D.int), .int g] = .ok (.str z) := by
    apply Exists.intro
    refine And.intro (fun cdv A outer s H E hr => ?_) ?_
    · have hr1 : Room 1 _ := hr.mono (by decide : 1 ≤ 2)
      apply pos_cons
      · exact po_setComp (passesH_cx fun _ _ _ h => h) rfl rfl scSp.nd (i := 3) rfl rfl rfl (compSc0 rfl (by decide +kernel) (by decide +kernel) (by decide +kernel)) (j := 0) rfl rfl rfl (pi_dlist (dv 1)) (fun _ _ _ _ _ hx => pd_str1 T.tstr (dv 0))
      apply pos_cons
      · exact po_set (i := 4) scSp.nd rfl (Or.inl rfl) (pd_bin do_addS (pd_bin do_addS (pd_join pd_str (dv 3)) pd_str) (pd_str1 T.tstr (dv 2)))
      apply pos_cons
      · exact po_set (i := 5) scSp.nd rfl (Or.inl rfl) (pd_cl Z.G hr1 Z.m Z.k Z.b (pda_cons (dv 0) (pda_cons pd_int (pda_cons pd_int pda_nil))))
      apply pos_cons
      · exact po_set (i := 6) scSp.nd rfl (Or.inl rfl) (pd_cl Z.G hr1 Z.m Z.k Z.b (pda_cons (dv 0) (pda_cons pd_int (pda_cons (pd_bin do_add (pd_lenS T.len (dv 4)) pd_int) pda_nil))))
      apply pos_cons
      · exact po_set (i := 7) scSp.nd rfl (Or.inl rfl) (pd_cl Z.G hr1 Z.m Z.k Z.b (pda_cons (dv 0) (pda_cons pd_int (pda_cons (pd_bin do_add (pd_len T.len (dv 3)) pd_int) pda_nil))))
      apply pos_cons
      · exact po_set (i := 8) scSp.nd rfl (Or.inl rfl) (pd_ix (pd_lstO (by kernel_rfl)) (pd_cl Z.G hr1 Z.m Z.k Z.b (pda_cons (dv 0) (pda_cons pd_int (pda_cons pd_int pda_nil)))))
      apply pos_cons
      · exact po_if (pdt_cmp (do_eq hr.units) (dv 5) pd_int (nomark _)) (pos_one (po_ret (pd_bin do_addS (pd_bin do_addS (pd_sliceS (dv 4) pdo_none (pdo_some (dv 6))) (pd_cl Y.G hr Y.m Y.k Y.b (pda_cons (dv 0) pda_nil))) (pd_sliceS (dv 4) (pdo_some (dv 6)) pdo_none)))) pos_nil
      apply pos_cons
      · exact po_if (pdt_cmp (do_eq hr.units) (dv 5) pd_int (nomark _)) (pos_one (po_ret (pd_bin do_addS (pd_sliceS (dv 4) pdo_none (pdo_some (dv 6))) (pd_sliceS (dv 4) (pdo_some (pd_bin do_add (dv 6) pd_int)) pdo_none)))) pos_nil
      apply pos_cons
      · exact po_if (pdt_cmp (do_eq hr.units) (dv 5) pd_int (nomark _)) (pos_one (po_ret (pd_bin do_addS (pd_bin do_addS (pd_sliceS (dv 4) pdo_none (pdo_some (dv 6))) (pd_cl Y.G hr Y.m Y.k Y.b (pda_cons (dv 0) pda_nil))) (pd_sliceS (dv 4) (pdo_some (pd_bin do_add (dv 6) pd_int)) pdo_none)))) pos_nil
      apply pos_cons
      · exact po_if (pdt_cmp (do_eq hr.units) (dv 5) pd_int (nomark _)) (pos_one (po_ret (pd_bin do_addS (pd_bin do_addS (pd_join pd_str (pd_bin do_cat (pd_bin do_cat (pd_slice (dv 3) pdo_none (pdo_some (dv 7))) (pd_lst (pda_cons (dv 8) pda_nil))) (pd_slice (dv 3) (pdo_some (dv 7)) pdo_none))) pd_str) (pd_str1 T.tstr (dv 2))))) pos_nil
      apply pos_cons
      · exact po_if (pdt_cmp (do_eq hr.units) (dv 5) pd_int (nomark _)) (pos_one (po_ret (pd_bin do_addS (pd_bin do_addS (pd_join pd_str (pd_bin do_cat (pd_bin do_cat (pd_slice (dv 3) pdo_none (pdo_some (dv 7))) (pd_lst (pda_cons (dv 8) pda_nil))) (pd_slice (dv 3) (pdo_some (pd_bin do_add (dv 7) pd_int)) pdo_none))) pd_str) (pd_str1 T.tstr (dv 2))))) pos_nil
      apply pos_cons
      · exact po_if (pdt_cmp (do_eq hr.units) (dv 5) pd_int (nomark _)) (pos_cons (po_set (i := 8) scSp.nd rfl (Or.inl rfl) (pd_ix (pd_lstG (by kernel_rfl)) (pd_cl Z.G hr1 Z.m Z.k Z.b (pda_cons (dv 0) (pda_cons pd_int (pda_cons pd_int pda_nil)))))) (pos_one (po_ret (pd_bin do_addS (pd_bin do_addS (pd_join pd_str (dv 3)) pd_str) (dv 8))))) pos_nil
      apply pos_cons
      · exact po_if (pdt_cmp (do_eq hr.units) (dv 5) pd_int (nomark _)) (pos_one (po_ret (pd_bin do_addS (pd_bin do_addS (pd_join pd_str (pd_bin do_cat (dv 3) (pd_bin do_rep (pd_lst (pda_cons pd_str pda_nil)) (pd_bin do_add pd_int (pd_cl Z.G hr1 Z.m Z.k Z.b (pda_cons (dv 0) (pda_cons pd_int (pda_cons pd_int pda_nil)))))))) pd_str) (pd_str1 T.tstr (dv 2))))) pos_nil
      apply pos_one
      exact po_ret (dv 4)
    · intro ns rs g hg
      unfold m3
      dsimp only
      have e0 : startD NSp [D.scr ns, .lst (rs.map D.int), .int g] = [some (.scr ns), some (.lst (rs.map D.int)), some (.int g), none, none, none, none, none, none] := rfl
      rw [e0]
      have lrs := hg.few
      have h100 : ∀ n ∈ rs, 0 ≤ n ∧ n < 100 := fun n hn => ⟨by have := (hg.runs n hn).1; omega, by have := (hg.runs n hn).2; omega⟩
      have g0 := hg.g0
      have g5 := hg.g5
      have lk : lenOk (rs.map D.int).length = true := decide_eq_true (by rw [List.length_map]; omega)
      have cd : ∀ (o0 o1 o2 o3 o4 o5 o6 o7 o8 : Option D) (d : D), (capD [none] [o0, o1, o2, o3, o4, o5, o6, o7, o8]).set 0 (some d) = [some d] := fun _ _ _ _ _ _ _ _ _ _ => rfl
      have hw : (rs.map fun n => D.str (TX.nS n)) = (rs.map TX.nS).map D.str := by rw [List.map_map]; rfl
      have hp : ∀ p ∈ rs.map TX.nS, Sm 2 p := fun p hp => by
        obtain ⟨n, hn, rfl⟩ := List.mem_map.mp hp
        exact .num (h100 n hn).1 (h100 n hn).2
      have hwl : (rs.map TX.nS).length ≤ 5 := by rw [List.length_map]; exact lrs
      have sD1 : Sm 1 ("-" : Str) := .of (by decide +kernel) (by decide +kernel)
      have sW7 : Sm 7 (" clear " : Str) := .of (by decide +kernel) (by decide +kernel)
      have sg : strI [.int g] = .ok (.str (TX.nS g)) := ev_strI (by omega) (by omega)
      have sgS : Sm 2 (TX.nS g) := .num g0 (by omega)
      have ej : joinD (.str ("-" : Str)) (.lst ((rs.map TX.nS).map D.str)) = .ok (.str (PySem.Txt.join "-" (rs.map TX.nS))) := ev_joinSm hp sD1 (by omega)
      have hJ : Sm 15 (PySem.Txt.join "-" (rs.map TX.nS)) := Sm.join hp sD1 hwl
      have ea1 : addS (.str (PySem.Txt.join "-" (rs.map TX.nS))) (.str (" clear " : Str)) = .ok (.str (PySem.Txt.join "-" (rs.map TX.nS) ++ " clear ")) := ev_addSm hJ sW7 (by decide)
      have ea2 : addS (.str (PySem.Txt.join "-" (rs.map TX.nS) ++ " clear ")) (.str (TX.nS g)) = .ok (.str (PySem.Txt.join "-" (rs.map TX.nS) ++ " clear " ++ TX.nS g)) := ev_addSm (hJ.add sW7) sgS (by decide)
      have hS : Sm 24 (PySem.Txt.join "-" (rs.map TX.nS) ++ " clear " ++ TX.nS g) := (hJ.add sW7).add sgS
      simp only [ev_seq, ev_set, ev_if, ev_op, ev_cl, ev_asB, ev_ret, ev_var0, ev_varS, ev_set0, ev_setS, ev_bind_ok, ev_bind_exc, ev_out_ok, ev_out_exc, ev_then_nx, ev_then_rt, ev_then_exc, ev_outrt, ev_outexc, ev_lenL, ev_lt, ev_le, ev_gt, ev_add, ev_and, ev_or, ev_not, ev_for, ev_neI, ev_eqI, ev_andV, ev_notV, ev_lstR, ev_tupR, ev_meth, ev_slice, ev_isn, ev_notn, ev_asI, ev_seqD, ev_rT, ev_t0, ev_t1, ev_l0, ev_l1, ev_lk1, ev_lk2, ev_lk4, if_true, if_false, Bool.false_eq_true, Bool.not_true, Bool.not_false, Bool.true_and, Bool.false_and, Bool.true_or, Bool.false_or, ev_lenR, ev_eqS, ev_neS]
      rw [compX_ints rs (fun n => .str (TX.nS n)) (by simp only [ev_seq, ev_set, ev_if, ev_op, ev_cl, ev_asB, ev_ret, ev_var0, ev_varS, ev_set0, ev_setS, ev_bind_ok, ev_bind_exc, ev_out_ok, ev_out_exc, ev_then_nx, ev_then_rt, ev_then_exc, ev_outrt, ev_outexc, ev_lenL, ev_lt, ev_le, ev_gt, ev_add, ev_and, ev_or, ev_not, ev_for, ev_neI, ev_eqI, ev_andV, ev_notV, ev_lstR, ev_tupR, ev_meth, ev_slice, ev_isn, ev_notn, ev_asI, ev_seqD, ev_rT, ev_t0, ev_t1, ev_l0, ev_l1, ev_lk1, ev_lk2, ev_lk4, if_true, if_false, Bool.false_eq_true, Bool.not_true, Bool.not_false, Bool.true_and, Bool.false_and, Bool.true_or, Bool.false_or, ev_lenR, ev_eqS, ev_neS]) lk (fun n hn => by
        rw [cd]
        simp only [ev_seq, ev_set, ev_if, ev_op, ev_cl, ev_asB, ev_ret, ev_var0, ev_varS, ev_set0, ev_setS, ev_bind_ok, ev_bind_exc, ev_out_ok, ev_out_exc, ev_then_nx, ev_then_rt, ev_then_exc, ev_outrt, ev_outexc, ev_lenL, ev_lt, ev_le, ev_gt, ev_add, ev_and, ev_or, ev_not, ev_for, ev_neI, ev_eqI, ev_andV, ev_notV, ev_lstR, ev_tupR, ev_meth, ev_slice, ev_isn, ev_notn, ev_asI, ev_seqD, ev_rT, ev_t0, ev_t1, ev_l0, ev_l1, ev_lk1, ev_lk2, ev_lk4, if_true, if_false, Bool.false_eq_true, Bool.not_true, Bool.not_false, Bool.true_and, Bool.false_and, Bool.true_or, Bool.false_or, ev_lenR, ev_eqS, ev_neS, ev_strI (i := n) (by have := h100 n hn; omega) (by have := h100 n hn; omega)])]
      have hlw : (((rs.map TX.nS).map D.str).length : Int) = ((rs.map TX.nS).length : Int) := by simp
      have dm : mDrawn [.scr ns, .int 103, .int 8] = .ok (.int (drawn ns 103 8)) := dr_ok (by omega) (by omega) (by omega) (by omega)
      simp only [ev_seq, ev_set, ev_if, ev_op, ev_cl, ev_asB, ev_ret, ev_var0, ev_varS, ev_set0, ev_setS, ev_bind_ok, ev_bind_exc, ev_out_ok, ev_out_exc, ev_then_nx, ev_then_rt, ev_then_exc, ev_outrt, ev_outexc, ev_lenL, ev_lt, ev_le, ev_gt, ev_add, ev_and, ev_or, ev_not, ev_for, ev_neI, ev_eqI, ev_andV, ev_notV, ev_lstR, ev_tupR, ev_meth, ev_slice, ev_isn, ev_notn, ev_asI, ev_seqD, ev_rT, ev_t0, ev_t1, ev_l0, ev_l1, ev_lk1, ev_lk2, ev_lk4, if_true, if_false, Bool.false_eq_true, Bool.not_true, Bool.not_false, Bool.true_and, Bool.false_and, Bool.true_or, Bool.false_or, ev_lenR, ev_eqS, ev_neS, hw, ev_onC, ej, sg, ea1, ea2, dm]
      generalize PySem.Txt.join "-" (rs.map TX.nS) ++ " clear " ++ TX.nS g = S at hS ⊢
      have hSl := hS.1
      have ls : lenS [.str S] = .ok (.int S.length) := ev_lenS (decide_eq_true (by omega))
      have da : mDrawn [.scr ns, .int 104, .int ((S.length : Int) + 1)] = .ok (.int (drawn ns 104 ((S.length : Int) + 1))) := dr_ok (by omega) (by omega) (by omega) (by omega)
      have dk : mDrawn [.scr ns, .int 105, .int (((rs.map TX.nS).length : Int) + 1)] = .ok (.int (drawn ns 105 (((rs.map TX.nS).length : Int) + 1))) := dr_ok (by omega) (by omega) (by omega) (by omega)
      have do12 : mDrawn [.scr ns, .int 106, .int 12] = .ok (.int (drawn ns 106 12)) := dr_ok (by omega) (by omega) (by omega) (by omega)
      have do10 : mDrawn [.scr ns, .int 107, .int 10] = .ok (.int (drawn ns 107 10)) := dr_ok (by omega) (by omega) (by omega) (by omega)
      have d3 : mDrawn [.scr ns, .int 108, .int 3] = .ok (.int (drawn ns 108 3)) := dr_ok (by omega) (by omega) (by omega) (by omega)
      obtain ⟨p, hps, ep⟩ := pick_C (i := drawn ns 106 12) oddsE_ok (dr_lo (by omega)) (by rw [oddsE_n]; exact dr_hi (by omega))
      obtain ⟨q, hqs, eq⟩ := pick_C (i := drawn ns 107 10) gapsE_ok (dr_lo (by omega)) (by rw [gapsE_n]; exact dr_hi (by omega))
      generalize drawn ns 103 8 = md
      generalize drawn ns 104 ((S.length : Int) + 1) = at_ at da ⊢
      generalize drawn ns 105 (((rs.map TX.nS).length : Int) + 1) = kk at dk ⊢
      have b30 : 0 ≤ drawn ns 108 3 := dr_lo (by omega)
      have b33 : drawn ns 108 3 < 3 := dr_hi (by omega)
      generalize drawn ns 108 3 = n3 at d3 b30 b33 ⊢
      generalize rs.map TX.nS = W at *
      obtain ⟨z1, hz1, ez1⟩ := Y.v ns
      have sl : ∀ lo hi, sliceS lo hi (.str S) = .ok (.str (PySem.Txt.slice S lo hi)) := fun lo hi => ev_slSm hS (by decide)
      simp only [ev_seq, ev_set, ev_if, ev_op, ev_cl, ev_asB, ev_ret, ev_var0, ev_varS, ev_set0, ev_setS, ev_bind_ok, ev_bind_exc, ev_out_ok, ev_out_exc, ev_then_nx, ev_then_rt, ev_then_exc, ev_outrt, ev_outexc, ev_lenL, ev_lt, ev_le, ev_gt, ev_add, ev_and, ev_or, ev_not, ev_for, ev_neI, ev_eqI, ev_andV, ev_notV, ev_lstR, ev_tupR, ev_meth, ev_slice, ev_isn, ev_notn, ev_asI, ev_seqD, ev_rT, ev_t0, ev_t1, ev_l0, ev_l1, ev_lk1, ev_lk2, ev_lk4, if_true, if_false, Bool.false_eq_true, Bool.not_true, Bool.not_false, Bool.true_and, Bool.false_and, Bool.true_or, Bool.false_or, ev_lenR, ev_eqS, ev_neS, ls, da, hlw, dk, do12, ep]
      cases h0 : (md == 0) with
      | true =>
        have a1 : addS (.str (PySem.Txt.slice S none (some at_))) (.str z1) = .ok (.str (PySem.Txt.slice S none (some at_) ++ z1)) := ev_addSm (hS.slice _ _) hz1 (by decide)
        have a2 : addS (.str (PySem.Txt.slice S none (some at_) ++ z1)) (.str (PySem.Txt.slice S (some at_) none)) = .ok (.str (PySem.Txt.slice S none (some at_) ++ z1 ++ PySem.Txt.slice S (some at_) none)) := ev_addSm ((hS.slice _ _).add hz1) (hS.slice _ _) (by decide)
        simp only [ev_seq, ev_set, ev_if, ev_op, ev_cl, ev_asB, ev_ret, ev_var0, ev_varS, ev_set0, ev_setS, ev_bind_ok, ev_bind_exc, ev_out_ok, ev_out_exc, ev_then_nx, ev_then_rt, ev_then_exc, ev_outrt, ev_outexc, ev_lenL, ev_lt, ev_le, ev_gt, ev_add, ev_and, ev_or, ev_not, ev_for, ev_neI, ev_eqI, ev_andV, ev_notV, ev_lstR, ev_tupR, ev_meth, ev_slice, ev_isn, ev_notn, ev_asI, ev_seqD, ev_rT, ev_t0, ev_t1, ev_l0, ev_l1, ev_lk1, ev_lk2, ev_lk4, if_true, if_false, Bool.false_eq_true, Bool.not_true, Bool.not_false, Bool.true_and, Bool.false_and, Bool.true_or, Bool.false_or, ev_lenR, ev_eqS, ev_neS, h0, ev_slS, sl, ez1, a1, a2]
        exact ⟨_, (((hS.slice _ _).add hz1).add (hS.slice _ _)).ok (by decide), rfl⟩
      | false =>
      cases h1 : (md == 1) with
      | true =>
        have a1 : addS (.str (PySem.Txt.slice S none (some at_))) (.str (PySem.Txt.slice S (some (at_ + 1)) none)) = .ok (.str (PySem.Txt.slice S none (some at_) ++ PySem.Txt.slice S (some (at_ + 1)) none)) := ev_addSm (hS.slice _ _) (hS.slice _ _) (by decide)
        simp only [ev_seq, ev_set, ev_if, ev_op, ev_cl, ev_asB, ev_ret, ev_var0, ev_varS, ev_set0, ev_setS, ev_bind_ok, ev_bind_exc, ev_out_ok, ev_out_exc, ev_then_nx, ev_then_rt, ev_then_exc, ev_outrt, ev_outexc, ev_lenL, ev_lt, ev_le, ev_gt, ev_add, ev_and, ev_or, ev_not, ev_for, ev_neI, ev_eqI, ev_andV, ev_notV, ev_lstR, ev_tupR, ev_meth, ev_slice, ev_isn, ev_notn, ev_asI, ev_seqD, ev_rT, ev_t0, ev_t1, ev_l0, ev_l1, ev_lk1, ev_lk2, ev_lk4, if_true, if_false, Bool.false_eq_true, Bool.not_true, Bool.not_false, Bool.true_and, Bool.false_and, Bool.true_or, Bool.false_or, ev_lenR, ev_eqS, ev_neS, h0, h1, ev_slS, sl, a1]
        exact ⟨_, ((hS.slice _ _).add (hS.slice _ _)).ok (by decide), rfl⟩
      | false =>
      cases h2 : (md == 2) with
      | true =>
        have a1 : addS (.str (PySem.Txt.slice S none (some at_))) (.str z1) = .ok (.str (PySem.Txt.slice S none (some at_) ++ z1)) := ev_addSm (hS.slice _ _) hz1 (by decide)
        have a2 : addS (.str (PySem.Txt.slice S none (some at_) ++ z1)) (.str (PySem.Txt.slice S (some (at_ + 1)) none)) = .ok (.str (PySem.Txt.slice S none (some at_) ++ z1 ++ PySem.Txt.slice S (some (at_ + 1)) none)) := ev_addSm ((hS.slice _ _).add hz1) (hS.slice _ _) (by decide)
        simp only [ev_seq, ev_set, ev_if, ev_op, ev_cl, ev_asB, ev_ret, ev_var0, ev_varS, ev_set0, ev_setS, ev_bind_ok, ev_bind_exc, ev_out_ok, ev_out_exc, ev_then_nx, ev_then_rt, ev_then_exc, ev_outrt, ev_outexc, ev_lenL, ev_lt, ev_le, ev_gt, ev_add, ev_and, ev_or, ev_not, ev_for, ev_neI, ev_eqI, ev_andV, ev_notV, ev_lstR, ev_tupR, ev_meth, ev_slice, ev_isn, ev_notn, ev_asI, ev_seqD, ev_rT, ev_t0, ev_t1, ev_l0, ev_l1, ev_lk1, ev_lk2, ev_lk4, if_true, if_false, Bool.false_eq_true, Bool.not_true, Bool.not_false, Bool.true_and, Bool.false_and, Bool.true_or, Bool.false_or, ev_lenR, ev_eqS, ev_neS, h0, h1, h2, ev_slS, sl, ez1, a1, a2]
        exact ⟨_, (((hS.slice _ _).add hz1).add (hS.slice _ _)).ok (by decide), rfl⟩
      | false =>
      have fin : ∀ (V : List Str), (∀ x ∈ V, Sm 3 x) → V.length ≤ 20 → ∀ (u : Str), Sm 3 u →
          joinD (.str ("-" : Str)) (.lst (V.map D.str)) = .ok (.str (PySem.Txt.join "-" V)) ∧ addS (.str (PySem.Txt.join "-" V)) (.str (" clear " : Str)) = .ok (.str (PySem.Txt.join "-" V ++ " clear ")) ∧ addS (.str (PySem.Txt.join "-" V ++ " clear ")) (.str u) = .ok (.str (PySem.Txt.join "-" V ++ " clear " ++ u)) ∧ okS (PySem.Txt.join "-" V ++ " clear " ++ u) = true := by
        intro V hV hl u hu
        have hJV : Sm 80 (PySem.Txt.join "-" V) := Sm.join hV sD1 hl
        exact ⟨ev_joinSm hV sD1 (by omega), ev_addSm hJV sW7 (by decide), ev_addSm (hJV.add sW7) hu (by decide), ((hJV.add sW7).add hu).ok (by decide)⟩
      have c1' : ∀ lo hi, sliceD lo hi (.lst (W.map D.str)) = .ok (.lst ((cutS W lo hi).map D.str)) := fun lo hi => cut_strs
      have two : ∀ lo : Option Int, catL (.lst ((cutS W none (some kk)).map D.str)) (.lst [.str p]) = .ok (.lst ((cutS W none (some kk) ++ [p]).map D.str)) ∧ catL (.lst ((cutS W none (some kk) ++ [p]).map D.str)) (.lst ((cutS W lo none).map D.str)) = .ok (.lst ((cutS W none (some kk) ++ [p] ++ cutS W lo none).map D.str)) ∧
          (∀ x ∈ cutS W none (some kk) ++ [p] ++ cutS W lo none, Sm 3 x) ∧ (cutS W none (some kk) ++ [p] ++ cutS W lo none).length ≤ 20 := by
        intro lo
        have l1 := cut_len (ps := W) (lo := none) (hi := some kk)
        have l2 := cut_len (ps := W) (lo := lo) (hi := none)
        refine ⟨ev_catS (b := [p]) (by simp only [List.length_cons, List.length_nil]; omega), ev_catS (by rw [List.length_append]; simp only [List.length_cons, List.length_nil]; omega), fun x hx => ?_, ?_⟩
        · rw [List.mem_append, List.mem_append] at hx
          rcases hx with (hx | hx) | hx
          · exact (hp x (cut_sub hx)).mono (by decide)
          · rw [List.mem_singleton.mp hx]; exact hps
          · exact (hp x (cut_sub hx)).mono (by decide)
        · rw [List.length_append, List.length_append]
          simp only [List.length_cons, List.length_nil]
          omega
      cases h3 : (md == 3) with
      | true =>
        obtain ⟨t1, t2, t3, t4⟩ := two (some kk)
        obtain ⟨f1, f2, f3, f4⟩ := fin _ t3 t4 _ (sgS.mono (by decide))
        simp only [ev_seq, ev_set, ev_if, ev_op, ev_cl, ev_asB, ev_ret, ev_var0, ev_varS, ev_set0, ev_setS, ev_bind_ok, ev_bind_exc, ev_out_ok, ev_out_exc, ev_then_nx, ev_then_rt, ev_then_exc, ev_outrt, ev_outexc, ev_lenL, ev_lt, ev_le, ev_gt, ev_add, ev_and, ev_or, ev_not, ev_for, ev_neI, ev_eqI, ev_andV, ev_notV, ev_lstR, ev_tupR, ev_meth, ev_slice, ev_isn, ev_notn, ev_asI, ev_seqD, ev_rT, ev_t0, ev_t1, ev_l0, ev_l1, ev_lk1, ev_lk2, ev_lk4, if_true, if_false, Bool.false_eq_true, Bool.not_true, Bool.not_false, Bool.true_and, Bool.false_and, Bool.true_or, Bool.false_or, ev_lenR, ev_eqS, ev_neS, h0, h1, h2, h3, ev_onC, c1', t1, t2, f1, f2, f3, sg]
        exact ⟨_, f4, rfl⟩
      | false =>
      cases h4 : (md == 4) with
      | true =>
        obtain ⟨t1, t2, t3, t4⟩ := two (some (kk + 1))
        obtain ⟨f1, f2, f3, f4⟩ := fin _ t3 t4 _ (sgS.mono (by decide))
        simp only [ev_seq, ev_set, ev_if, ev_op, ev_cl, ev_asB, ev_ret, ev_var0, ev_varS, ev_set0, ev_setS, ev_bind_ok, ev_bind_exc, ev_out_ok, ev_out_exc, ev_then_nx, ev_then_rt, ev_then_exc, ev_outrt, ev_outexc, ev_lenL, ev_lt, ev_le, ev_gt, ev_add, ev_and, ev_or, ev_not, ev_for, ev_neI, ev_eqI, ev_andV, ev_notV, ev_lstR, ev_tupR, ev_meth, ev_slice, ev_isn, ev_notn, ev_asI, ev_seqD, ev_rT, ev_t0, ev_t1, ev_l0, ev_l1, ev_lk1, ev_lk2, ev_lk4, if_true, if_false, Bool.false_eq_true, Bool.not_true, Bool.not_false, Bool.true_and, Bool.false_and, Bool.true_or, Bool.false_or, ev_lenR, ev_eqS, ev_neS, h0, h1, h2, h3, h4, ev_onC, c1', t1, t2, f1, f2, f3, sg]
        exact ⟨_, f4, rfl⟩
      | false =>
      cases h5 : (md == 5) with
      | true =>
        obtain ⟨f1, f2, f3, f4⟩ := fin W (fun x hx => (hp x hx).mono (by decide)) (by omega) q hqs
        simp only [ev_seq, ev_set, ev_if, ev_op, ev_cl, ev_asB, ev_ret, ev_var0, ev_varS, ev_set0, ev_setS, ev_bind_ok, ev_bind_exc, ev_out_ok, ev_out_exc, ev_then_nx, ev_then_rt, ev_then_exc, ev_outrt, ev_outexc, ev_lenL, ev_lt, ev_le, ev_gt, ev_add, ev_and, ev_or, ev_not, ev_for, ev_neI, ev_eqI, ev_andV, ev_notV, ev_lstR, ev_tupR, ev_meth, ev_slice, ev_isn, ev_notn, ev_asI, ev_seqD, ev_rT, ev_t0, ev_t1, ev_l0, ev_l1, ev_lk1, ev_lk2, ev_lk4, if_true, if_false, Bool.false_eq_true, Bool.not_true, Bool.not_false, Bool.true_and, Bool.false_and, Bool.true_or, Bool.false_or, ev_lenR, ev_eqS, ev_neS, h0, h1, h2, h3, h4, h5, do10, eq, ev_onC, f1, f2, f3]
        exact ⟨_, f4, rfl⟩
      | false =>
      cases h6 : (md == 6) with
      | true =>
        have r1 : repL (.lst [.str ("4" : Str)]) (.int (1 + n3)) = .ok (.lst ((List.replicate (1 + n3).toNat ("4" : Str)).map D.str)) := ev_repS (by omega) (by omega)
        have r2 : catL (.lst (W.map D.str)) (.lst ((List.replicate (1 + n3).toNat ("4" : Str)).map D.str)) = .ok (.lst ((W ++ List.replicate (1 + n3).toNat ("4" : Str)).map D.str)) := ev_catS (by rw [List.length_replicate]; omega)
        obtain ⟨f1, f2, f3, f4⟩ := fin (W ++ List.replicate (1 + n3).toNat ("4" : Str)) (fun x hx => by
          rcases List.mem_append.mp hx with hx | hx
          · exact (hp x hx).mono (by decide)
          · rw [(List.mem_replicate.mp hx).2]
            exact .of (by decide +kernel) (by decide +kernel)) (by rw [List.length_append, List.length_replicate]; omega) _ (sgS.mono (by decide))
        simp only [ev_seq, ev_set, ev_if, ev_op, ev_cl, ev_asB, ev_ret, ev_var0, ev_varS, ev_set0, ev_setS, ev_bind_ok, ev_bind_exc, ev_out_ok, ev_out_exc, ev_then_nx, ev_then_rt, ev_then_exc, ev_outrt, ev_outexc, ev_lenL, ev_lt, ev_le, ev_gt, ev_add, ev_and, ev_or, ev_not, ev_for, ev_neI, ev_eqI, ev_andV, ev_notV, ev_lstR, ev_tupR, ev_meth, ev_slice, ev_isn, ev_notn, ev_asI, ev_seqD, ev_rT, ev_t0, ev_t1, ev_l0, ev_l1, ev_lk1, ev_lk2, ev_lk4, if_true, if_false, Bool.false_eq_true, Bool.not_true, Bool.not_false, Bool.true_and, Bool.false_and, Bool.true_or, Bool.false_or, ev_lenR, ev_eqS, ev_neS, h0, h1, h2, h3, h4, h5, h6, ev_onC, d3, r1, r2, f1, f2, f3, sg]
        exact ⟨_, f4, rfl⟩
      | false =>
        simp only [ev_seq, ev_set, ev_if, ev_op, ev_cl, ev_asB, ev_ret, ev_var0, ev_varS, ev_set0, ev_setS, ev_bind_ok, ev_bind_exc, ev_out_ok, ev_out_exc, ev_then_nx, ev_then_rt, ev_then_exc, ev_outrt, ev_outexc, ev_lenL, ev_lt, ev_le, ev_gt, ev_add, ev_and, ev_or, ev_not, ev_for, ev_neI, ev_eqI, ev_andV, ev_notV, ev_lstR, ev_tupR, ev_meth, ev_slice, ev_isn, ev_notn, ev_asI, ev_seqD, ev_rT, ev_t0, ev_t1, ev_l0, ev_l1, ev_lk1, ev_lk2, ev_lk4, if_true, if_false, Bool.false_eq_true, Bool.not_true, Bool.not_false, Bool.true_and, Bool.false_and, Bool.true_or, Bool.false_or, ev_lenR, ev_eqS, ev_neS, h0, h1, h2, h3, h4, h5, h6]
        exact ⟨_, hS.ok (by decide), rfl⟩
  refine ⟨m3 FB NSp, ?_, hv⟩
  refine F.pure scSp (fun ds h => ?_) (fun cdv A outer s H E hr => ⟨FB, hB cdv A outer s H E hr, fun ds h => ?_⟩)
  · unfold m3 at h
    split at h
    · rfl
    · exact absurd rfl h
  · unfold m3 at h ⊢
    split at h
    · rfl
    · exact absurd rfl h
end
end K13
set_option Elab.async false
set_option linter.all false
set_option maxRecDepth 100000
set_option maxHeartbeats 16000000
namespace L2
open PySem PySem.Spec PyProof.Rows
theorem rd_any {K : PySem.W.Frag} {E : XK} {f : DS → Res D} {σ : St} {H : Hp} {Q : VK} {d : D} (G : Hp) (ρ : DS) (hs : Same G H) (ro : Ro K G σ ρ) (e : f ρ = .ok d) (k : ∀ v G' H', Ext G H G' H' → Rep K G' d v → Q v H') : tD K E f σ H Q :=
  ⟨G, ρ, hs, ro, by rw [e]; trivial, fun d' ed v G' H' x rp => by rw [e] at ed; cases ed; exact k v G' H' x rp⟩
theorem rd_bool {K : PySem.W.Frag} {E : XK} {f : DS → Res D} {σ : St} {H : Hp} {Q : VK} {b : Bool} (G : Hp) (ρ : DS) (hs : Same G H) (ro : Ro K G σ ρ) (e : f ρ = .ok (.bl b)) (k : ∀ H', Same H H' → Q (.bl b) H') : tD K E f σ H Q :=
  rd_any G ρ hs ro e fun v G' H' x rp => by rw [rep_bl.mp rp]; exact k H' x.hh
theorem same_upd {G H : Hp} {p : Addr} {o : HO} (s : Same G H) (h : H p = some o) : Same (upd G p o) H := fun b u e => by
  by_cases z : b = p
  · subst z; rw [upd_same] at e; rw [← e]; exact h
  · rw [upd_ne z] at e; exact s b u e
theorem pa_dK {X : Cx} (K : PySem.W.Frag) {E : XK} {es : List Expr} {f : DS → Res (List D)} (hK : X.K = K) (h : PDA X E es f) : PA X es (tDA K E f) := by
  subst hK
  exact pa_d h
theorem pe_dK {X : Cx} (K : PySem.W.Frag) {E : XK} {e : Expr} {f : DS → Res D} (hK : X.K = K) (h : PD X E e f) : PE X e (tD K E f) := by
  subst hK
  exact pe_d h
end L2
namespace K13
open PySem L2
seal L2.PD L2.PDA L2.PO1 L2.POs L2.PDT L2.PDW L2.PDO L2.PE L2.PA L2.PS L2.PSs
abbrev NL : List Str := ["script", "made", "signs", "due", "found", "e", "marks"]
theorem scL : FnScope NL ["script"] (defScope sLaw) := ⟨rfl, rfl, rfl, by decide +kernel, rfl, by decide +kernel, by decide +kernel⟩
theorem boot_isi : bootBuiltins "isinstance" = some (.builtin "isinstance") := by decide +kernel
def rIsi (K : PySem.W.Frag) : List V → Hp → VK → Prop := fun xs H Q => ∃ x c t b, xs = [x, c] ∧ cV c ≠ .none ∧ TyX K H x t ∧ PySem.W.kitOne K t (cV c) = some b ∧ Q (.bl b) H
theorem call_isiK {X : Cx} (K : PySem.W.Frag) (h : X.K = K) : CallR X (.builtin "isinstance") (rIsi K) := by subst h; exact call_isi
structure Adr where
  fLB : Addr
  fSp : Addr
  fDu : Addr
  fRd : Addr
  fRow : Addr
  fR : Addr
  fC : Addr
  dLB : FuncData
  dSp : FuncData
  dDu : FuncData
  dRd : FuncData
  dRow : FuncData
  dR : FuncData
  dC : FuncData
  mLB : List D → Res D
  mSp : List D → Res D
structure Fns (P : Program) (w : World) (K : PySem.W.Frag) (mg : Str → Option Value) (base : Heap) (CL CHE CBL CBT CBX : Addr) (a : Adr) : Prop where
  T : Txt K mg CL CHE CBL CBT CBX
  GLB : FnOk P w K mg base (CXF P w) 2 a.fLB a.dLB ["script", "base"] (pureSp K a.mLB)
  vLB : ∀ ns : List Int, ∃ rs g, TX.Good rs g ∧ a.mLB [.scr ns, .int 0] = .ok (.tup [.lst (rs.map D.int), .int g])
  bLB : Binds K a.dLB ["script", "base"] []
  mLB : mg "_law_line_by" = some (.ref a.fLB)
  kLB : PySem.W.keepIn K (.ref a.fLB) = true
  GSp : FnOk P w K mg base (CXF P w) 3 a.fSp a.dSp ["script", "runs", "gap"] (pureSp K a.mSp)
  vSp : ∀ (ns rs : List Int) (g : Int), TX.Good rs g → ∃ z, okS z = true ∧ a.mSp [.scr ns, .lst (rs.map D.int), .int g] = .ok (.str z)
  bSp : Binds K a.dSp ["script", "runs", "gap"] []
  mSp : mg "_law_spoilt" = some (.ref a.fSp)
  kSp : PySem.W.keepIn K (.ref a.fSp) = true
  GDu : FnOk P w K mg base (CXF P w) 2 a.fDu a.dDu ["signs"] (pureSp K mDue)
  bDu : Binds K a.dDu ["signs"] []
  mDu : mg "_law_due" = some (.ref a.fDu)
  kDu : PySem.W.keepIn K (.ref a.fDu) = true
  GRd : FnOk P w K mg base (CXF P w) 4 a.fRd a.dRd ["text"] (pureSp K (mRead CL CBX))
  bRd : Binds K a.dRd ["text"] []
  mRd : mg "read" = some (.ref a.fRd)
  kRd : PySem.W.keepIn K (.ref a.fRd) = true
  GRow : FnOk P w K mg base (CXF P w) 2 a.fRow a.dRow ["found", "due"] (pureSp K mRow)
  bRow : Binds K a.dRow ["found", "due"] []
  mRow : mg "_law_row" = some (.ref a.fRow)
  kRow : PySem.W.keepIn K (.ref a.fRow) = true
  GR : FnOk P w K mg base (CXF P w) 1 a.fR a.dR ["self"] (pureSp K (mRuns CL))
  bR : Binds K a.dR ["self"] []
  mR : Meth K CL "runs" a.fR
  GC : FnOk P w K mg base (CXF P w) 1 a.fC a.dC ["self"] (pureSp K (mClear CL))
  bC : Binds K a.dC ["self"] []
  mC : Meth K CL "clear" a.fC
def spLaw (K : PySem.W.Frag) : Sp := fun vs H Q _ => ∃ (ad : Addr) (sc : List Int), vs = [.ref ad] ∧ SqL K H ad (sc.map V.int) ∧ ∀ H', Q (.bl true) H'
def marksD : D := .lst [.bl true, .bl true, .bl false, .bl false]
theorem eq_marks : eqO marksD (.lst [.bl true, .bl true, .bl false, .bl false]) = .ok (.bl true) := by
  have h : plD 20 marksD = true := by unfold marksD plD plL plL plL plL plL plD; rfl
  unfold eqO
  rw [if_pos ⟨h, h⟩]
  unfold marksD eqB eqBL eqBL eqBL eqBL eqBL eqB
  rfl
section
variable {P : Program} {w : World} {K : PySem.W.Frag} {mg : Str → Option Value} {base : Heap} {CL CHE CBL CBT CBX : Addr} {a : Adr}
theorem ok_law {f : Addr} {fd : FuncData} (F : Fun K "law" "law" sLaw f fd) (Z : Fns P w K mg base CL CHE CBL CBT CBX a) : FnOk P w K mg base (CXF P w) 5 f fd ["script"] (spLaw K) := by
  have T := Z.T
  refine F.okF scL (fun vs H Q E h => ?_) (fun cdv A outer s H vs Q E hr h => ?_)
  · obtain ⟨ad, sc, rfl, _⟩ := h
    rfl
  · obtain ⟨ad, sc, rfl, hS, k⟩ := h
    have hr1 : Room 1 _ := hr.mono (by decide : 1 ≤ 4)
    have hr2 : Room 2 _ := hr.mono (by decide : 2 ≤ 4)
    have hr3 : Room 3 _ := hr.mono (by decide : 3 ≤ 4)
    refine ⟨_, pss_cons (ps_set (i := 1) scL.nd rfl (Or.inl rfl) (pe_d (E := E) (pd_cl Z.GLB hr2 Z.mLB Z.kLB Z.bLB (pda_cons (dv 0) (pda_cons pd_int pda_nil)))))
      (pss_cons (ps_set (i := 2) scL.nd rfl (Or.inl rfl) (pe_d (E := E) (pd_cl Z.GSp hr3 Z.mSp Z.kSp Z.bSp (pda_cons (dv 0) (pda_cons (pd_ix (dv 1) pd_int) (pda_cons (pd_ix (dv 1) pd_int) pda_nil))))))
      (pss_cons (ps_set (i := 3) scL.nd rfl (Or.inl rfl) (pe_d (E := E) (pd_cl Z.GDu hr2 Z.mDu Z.kDu Z.bDu (pda_cons (dv 2) pda_nil))))
      (pss_cons (ps_tryC (i := 5) (j := 4) (C := CHE) (dvs := []) (ds := []) scL.nd rfl rfl rfl rfl rfl T.mgH rfl rfl Z.GRd hr rfl Z.mRd Z.kRd Z.bRd .nil
        (fun Et pn => pa_dK K (E := E00) rfl (pda_cons (dv 2) pda_nil))
        (fun e E' => pss_cons (ps_set (i := 6) scL.nd rfl (Or.inl rfl) (pe_lst (pa_cons (pe_callB (call_isiK K rfl) rfl T.isi boot_isi (pa_cons (pv 5) (pa_cons (pe_cls T.bx.mgx) pa_nil)))
            (pa_cons (pe_callB (call_isiK K rfl) rfl T.isi boot_isi (pa_cons (pv 5) (pa_cons (pe_ty T.tve bo_ve) pa_nil)))
            (pa_cons (pe_callB (call_isiK K rfl) rfl T.isi boot_isi (pa_cons (pv 5) (pa_cons (pe_cls T.bl.mgx) pa_nil)))
            (pa_cons (pe_callB (call_isiK K rfl) rfl T.isi boot_isi (pa_cons (pv 5) (pa_cons (pe_cls T.mgT) pa_nil))) pa_nil))))))
          (pss_one (ps_ret (pe_dK K (E := E00) rfl (pd_and (pd_cmp do_isN (dv 3) pd_non (nomark _)) (pd_one (pd_cmp (do_eq hr.units) (dv 6) (pd_lst (pda_cons pd_bl (pda_cons pd_bl (pda_cons pd_bl (pda_cons pd_bl pda_nil))))) (nomark _)))))))))
      (pss_one (ps_ret (pe_d (E := E) (pd_and (pd_cmp do_notN (dv 3) pd_non (nomark _)) (pd_and (pd_cl Z.GRow hr2 Z.mRow Z.kRow Z.bRow (pda_cons (pd_m0 (dv 4) T.cl Z.mR Z.GR hr1 Z.bR) (pda_cons (pd_ix (dv 3) pd_int) pda_nil)))
        (pd_one (pd_cl Z.GRow hr2 Z.mRow Z.kRow Z.bRow (pda_cons (pd_lst (pda_cons (pd_m0 (dv 4) T.cl Z.mC Z.GC hr1 Z.bC) pda_nil)) (pda_cons (pd_lst (pda_cons (pd_ix (dv 3) pd_int) pda_nil)) pda_nil)))))))))))), ?_⟩
    have rS : Rep K H (.scr sc) (.ref ad) := rep_scr.mpr ⟨ad, rfl, hS⟩
    obtain ⟨rs, g, hg, e1⟩ := Z.vLB sc
    obtain ⟨z, hz, e2⟩ := Z.vSp sc rs g hg
    have e3 : mDue [.str z] = .ok (dueD (TX.dueOf z)) := mDue_ok (okS_len hz)
    dsimp only [tSeq, tAsg]
    refine rd_any (d := .tup [.lst (rs.map D.int), .int g]) H [some (.scr sc)] (.refl H) (Ro.cons rS Ro.nil) (by simp only [ev_seq, ev_set, ev_if, ev_op, ev_cl, ev_asB, ev_ret, ev_var0, ev_varS, ev_set0, ev_setS, ev_bind_ok, ev_bind_exc, ev_out_ok, ev_out_exc, ev_then_nx, ev_then_rt, ev_then_exc, ev_outrt, ev_outexc, ev_lenL, ev_lt, ev_le, ev_gt, ev_add, ev_and, ev_or, ev_not, ev_for, ev_neI, ev_eqI, ev_andV, ev_notV, ev_lstR, ev_tupR, ev_meth, ev_slice, ev_isn, ev_notn, ev_asI, ev_seqD, ev_rT, ev_t0, ev_t1, ev_l0, ev_l1, ev_lk1, ev_lk2, ev_lk4, if_true, if_false, Bool.false_eq_true, Bool.not_true, Bool.not_false, Bool.true_and, Bool.false_and, Bool.true_or, Bool.false_or, ev_lenR, ev_eqS, ev_neS, e1]) fun v1 G1 H1 x1 p1 => ?_
    refine rd_any (d := .str z) G1 [some (.scr sc), some (.tup [.lst (rs.map D.int), .int g])] x1.gh (Ro.cons (rS.mono x1.gg) (Ro.cons p1 Ro.nil)) (by simp only [ev_seq, ev_set, ev_if, ev_op, ev_cl, ev_asB, ev_ret, ev_var0, ev_varS, ev_set0, ev_setS, ev_bind_ok, ev_bind_exc, ev_out_ok, ev_out_exc, ev_then_nx, ev_then_rt, ev_then_exc, ev_outrt, ev_outexc, ev_lenL, ev_lt, ev_le, ev_gt, ev_add, ev_and, ev_or, ev_not, ev_for, ev_neI, ev_eqI, ev_andV, ev_notV, ev_lstR, ev_tupR, ev_meth, ev_slice, ev_isn, ev_notn, ev_asI, ev_seqD, ev_rT, ev_t0, ev_t1, ev_l0, ev_l1, ev_lk1, ev_lk2, ev_lk4, if_true, if_false, Bool.false_eq_true, Bool.not_true, Bool.not_false, Bool.true_and, Bool.false_and, Bool.true_or, Bool.false_or, ev_lenR, ev_eqS, ev_neS, e2]) fun v2 G2 H2 x2 p2 => ?_
    refine rd_any (d := dueD (TX.dueOf z)) G2 [none, none, some (.str z)] x2.gh (Ro.skip (Ro.skip (Ro.cons p2 Ro.nil))) (by simp only [ev_seq, ev_set, ev_if, ev_op, ev_cl, ev_asB, ev_ret, ev_var0, ev_varS, ev_set0, ev_setS, ev_bind_ok, ev_bind_exc, ev_out_ok, ev_out_exc, ev_then_nx, ev_then_rt, ev_then_exc, ev_outrt, ev_outexc, ev_lenL, ev_lt, ev_le, ev_gt, ev_add, ev_and, ev_or, ev_not, ev_for, ev_neI, ev_eqI, ev_andV, ev_notV, ev_lstR, ev_tupR, ev_meth, ev_slice, ev_isn, ev_notn, ev_asI, ev_seqD, ev_rT, ev_t0, ev_t1, ev_l0, ev_l1, ev_lk1, ev_lk2, ev_lk4, if_true, if_false, Bool.false_eq_true, Bool.not_true, Bool.not_false, Bool.true_and, Bool.false_and, Bool.true_or, Bool.false_or, ev_lenR, ev_eqS, ev_neS, e3]) fun v3 G3 H3 x3 p3 => ?_
    have p2' := rep_str.mp p2
    subst p2'
    refine ⟨G3, [none, none, some (.str z)], x3.gh, Ro.skip (Ro.skip (Ro.cons (rep_str.mpr rfl) Ro.nil)), trivial, fun ds eds vs G4 H4 x4 rl => ?_⟩
    have eds' : ds = [.str z] := by cases eds; rfl
    subst eds'
    have em := mRead_ok (CL := CL) (CBX := CBX) hz
    refine ⟨[.str z], G4, x4.gh, by rw [List.append_nil]; exact rl, ?_, ?_⟩
    · rw [em]
      cases q : TX.readOf z with
      | some p => trivial
      | none =>
        have hd : TX.dueOf z = none := by rw [TX.due_read]; exact q
        rw [hd] at p3
        have p3' := rep_non.mp p3
        subst p3'
        intro H5 s5
        refine ⟨T.eX, fun e he => ?_⟩
        have ty : TyX K (upd H5 e (ExcO e (.ref CBX))) (.ref e) (.ref CBX) := .inr ⟨e, CBX, rfl, rfl, upd_same, T.kX⟩
        refine ⟨_, rfl, _, _, _, _, rfl, (fun z => nomatch z), ty, T.iXX, _, rfl, _, _, _, _, rfl, (fun z => nomatch z), ty, T.iXV, _, rfl, _, _, _, _, rfl, (fun z => nomatch z), ty, T.iXL, _, rfl, _, _, _, _, rfl, (fun z => nomatch z), ty, T.iXT, (by show 4 ≤ sizeLine; decide), fun l hl => ?_⟩
        refine rd_bool (b := true) (upd (fun _ => none) l (.lst [.bl true, .bl true, .bl false, .bl false])) [none, none, none, some .non, none, none, some marksD] (same_upd (fun b o z => by cases z) upd_same)
          (Ro.skip (Ro.skip (Ro.skip (Ro.cons (rep_non.mpr rfl) (Ro.skip (Ro.skip (Ro.cons (rep_lst.mpr ⟨l, _, rfl, .of upd_same, .cons (rep_bl.mpr rfl) (.cons (rep_bl.mpr rfl) (.cons (rep_bl.mpr rfl) (.cons (rep_bl.mpr rfl) .nil)))⟩) Ro.nil))))))) ?_ fun H6 _ => k H6
        have i1 : isN D.non = true := rfl
        simp only [ev_seq, ev_set, ev_if, ev_op, ev_cl, ev_asB, ev_ret, ev_var0, ev_varS, ev_set0, ev_setS, ev_bind_ok, ev_bind_exc, ev_out_ok, ev_out_exc, ev_then_nx, ev_then_rt, ev_then_exc, ev_outrt, ev_outexc, ev_lenL, ev_lt, ev_le, ev_gt, ev_add, ev_and, ev_or, ev_not, ev_for, ev_neI, ev_eqI, ev_andV, ev_notV, ev_lstR, ev_tupR, ev_meth, ev_slice, ev_isn, ev_notn, ev_asI, ev_seqD, ev_rT, ev_t0, ev_t1, ev_l0, ev_l1, ev_lk1, ev_lk2, ev_lk4, if_true, if_false, Bool.false_eq_true, Bool.not_true, Bool.not_false, Bool.true_and, Bool.false_and, Bool.true_or, Bool.false_or, ev_lenR, ev_eqS, ev_neS, i1, eq_marks]
    · intro d ed v G5 H5 x5 p5
      rw [em] at ed
      cases q : TX.readOf z with
      | none => rw [q] at ed; cases ed
      | some p =>
        rw [q] at ed
        cases ed
        have hd : TX.dueOf z = some p := by rw [TX.due_read]; exact q
        rw [hd] at p3
        obtain ⟨_, gd⟩ := TX.read_inv (rs := p.1) (g := p.2) q
        have i0 : isN (dueD (some p)) = false := rfl
        have i1 : insOf CL "runs" (lineD CL p.1 p.2) = true := isLine (by decide +kernel)
        have i2 : insOf CL "clear" (lineD CL p.1 p.2) = true := isLine (by decide +kernel)
        have lf := gd.few
        have r1 : K13.mRow [.lst (p.1.map D.int), .lst (p.1.map D.int)] = .ok (.bl true) := by rw [mRow_ok (by omega), decide_eq_true rfl]
        have r2 : K13.mRow [.lst [.int p.2], .lst [.int p.2]] = .ok (.bl true) := by
          have := mRow_ok (ns := [p.2]) (ns' := [p.2]) (by show 1 ≤ 1000; decide)
          rw [decide_eq_true rfl] at this
          exact this
        refine rd_bool (b := true) G5 [none, none, none, some (dueD (some p)), some (lineD CL p.1 p.2)] x5.gh (Ro.skip (Ro.skip (Ro.skip (Ro.cons ((p3.mono x4.gg).mono x5.gg) (Ro.cons p5 Ro.nil))))) ?_ fun H6 _ => k H6
        have ud : dueD (some p) = .tup [.lst (p.1.map D.int), .int p.2] := rfl
        simp only [ev_seq, ev_set, ev_if, ev_op, ev_cl, ev_asB, ev_ret, ev_var0, ev_varS, ev_set0, ev_setS, ev_bind_ok, ev_bind_exc, ev_out_ok, ev_out_exc, ev_then_nx, ev_then_rt, ev_then_exc, ev_outrt, ev_outexc, ev_lenL, ev_lt, ev_le, ev_gt, ev_add, ev_and, ev_or, ev_not, ev_for, ev_neI, ev_eqI, ev_andV, ev_notV, ev_lstR, ev_tupR, ev_meth, ev_slice, ev_isn, ev_notn, ev_asI, ev_seqD, ev_rT, ev_t0, ev_t1, ev_l0, ev_l1, ev_lk1, ev_lk2, ev_lk4, if_true, if_false, Bool.false_eq_true, Bool.not_true, Bool.not_false, Bool.true_and, Bool.false_and, Bool.true_or, Bool.false_or, ev_lenR, ev_eqS, ev_neS, i0]
        simp only [ev_seq, ev_set, ev_if, ev_op, ev_cl, ev_asB, ev_ret, ev_var0, ev_varS, ev_set0, ev_setS, ev_bind_ok, ev_bind_exc, ev_out_ok, ev_out_exc, ev_then_nx, ev_then_rt, ev_then_exc, ev_outrt, ev_outexc, ev_lenL, ev_lt, ev_le, ev_gt, ev_add, ev_and, ev_or, ev_not, ev_for, ev_neI, ev_eqI, ev_andV, ev_notV, ev_lstR, ev_tupR, ev_meth, ev_slice, ev_isn, ev_notn, ev_asI, ev_seqD, ev_rT, ev_t0, ev_t1, ev_l0, ev_l1, ev_lk1, ev_lk2, ev_lk4, if_true, if_false, Bool.false_eq_true, Bool.not_true, Bool.not_false, Bool.true_and, Bool.false_and, Bool.true_or, Bool.false_or, ev_lenR, ev_eqS, ev_neS, ud, i1, i2, runs_line, clear_line, r1, r2]
end
end K13
set_option Elab.async false
set_option linter.all false
set_option maxRecDepth 100000
namespace K13
open PySem L2
theorem kit_self {K : PySem.W.Frag} {t : Value} : PySem.W.kitOne K t t = some true := by
  unfold PySem.W.kitOne
  rw [if_pos (beq_iff_eq.mpr rfl)]
theorem kit_ref {K : PySem.W.Frag} {C D : Addr} {b : Bool} (hne : C ≠ D) (hc : (PySem.W.clsIn K D).isSome = true) (ht : PySem.W.typeIn K (.ref D) = some (.type "type")) (hm : PySem.W.mroIn K C (.ref D) = some b) : PySem.W.kitOne K (.ref C) (.ref D) = some b := by
  unfold PySem.W.kitOne
  rw [if_neg (fun q => hne (Value.ref.inj (beq_iff_eq.mp q)))]
  unfold PySem.W.kitCls
  dsimp only
  rw [if_pos (by rw [hc, ht]; rfl)]
  exact hm
theorem kit_ty {K : PySem.W.Frag} {C : Addr} {T : String} {b : Bool} (hk : PySem.W.kitMeta T = true) (hm : PySem.W.mroIn K C (.type T) = some b) : PySem.W.kitOne K (.ref C) (.type T) = some b := by
  unfold PySem.W.kitOne
  rw [if_neg (fun q => by have := beq_iff_eq.mp q; cases this)]
  unfold PySem.W.kitCls
  dsimp only
  rw [if_pos hk]
  exact hm
theorem kit_ib {K : PySem.W.Frag} : PySem.W.kitOne K (.type "int") (.type "bool") = some false := by
  unfold PySem.W.kitOne
  rw [if_neg (by decide +kernel)]
  unfold PySem.W.kitCls
  dsimp only
  rw [if_pos (by decide +kernel)]
  show Option.map (fun x => x.contains (Value.type "bool")) (fastBuiltinMro "int") = some false
  decide +kernel
theorem exm_ref {K : PySem.W.Frag} {C D : Addr} (hb : PySem.W.mroIn K D (.type "BaseException") = some true) (hc : (PySem.W.clsIn K D).isSome = true) (ht : PySem.W.typeIn K (.ref D) = some (.type "type")) (hm : PySem.W.mroIn K C (.ref D) = some true) : PySem.W.exmOne K (.ref C) (.ref D) = some true := by
  unfold PySem.W.exmOne
  have h1 : PySem.W.subIn K (.ref D) (.type "BaseException") = some true := hb
  rw [if_pos (by rw [h1]; rfl)]
  unfold PySem.W.kitCls
  dsimp only
  rw [if_pos (by rw [hc, ht]; rfl)]
  exact hm
theorem all_mk {l : PySem.W.OpenLaw} {w : World} {K : PySem.W.Frag} {h : Heap} {mg : Str → Option Value} {fa CL CHE CBL CBT CBX f1 f2 f3 f4 f5 f6 f7 f8 f9 f10 f11 f12 f13 f14 f15 : Addr} (X : K.In h) (G : h.Ns mainGlobals mg) (hfa : mg "law" = some (.ref fa)) {od1 an1 od2 an2 od3 an3 od4 an4 od5 an5 od6 an6 od7 an7 od8 an8 od9 an9 od10 an10 od11 an11 od12 an12 od13 an13 od14 an14 od15 an15 : Option Addr} {sl1 sl2 sl3 sl4 sl5 sl6 sl7 sl8 sl9 sl10 sl11 sl12 sl13 sl14 sl15 : Array (Option Value)} {oc1 kV1 dc1 pm1 cd1 ct1 oc2 kV2 dc2 pm2 cd2 ct2 oc3 kV3 dc3 pm3 cd3 ct3 oc4 kV4 dc4 pm4 cd4 ct4 oc5 kV5 dc5 pm5 cd5 ct5 oc6 kV6 dc6 pm6 cd6 ct6 oc7 kV7 dc7 pm7 cd7 ct7 oc8 kV8 dc8 pm8 cd8 ct8 oc9 kV9 dc9 pm9 cd9 ct9 oc10 kV10 dc10 pm10 cd10 ct10 oc11 kV11 dc11 pm11 cd11 ct11 oc12 kV12 dc12 pm12 cd12 ct12 oc13 kV13 dc13 pm13 cd13 ct13 oc14 kV14 dc14 pm14 cd14 ct14 oc15 kV15 dc15 pm15 cd15 ct15 : Value} {tS tR tC tB tA : Tok}
    (aCL : PySem.W.nsIn K mainGlobals "Line" = some (some (.ref CL)))
    (aCHE : PySem.W.nsIn K mainGlobals "HaltError" = some (some (.ref CHE)))
    (aCBL : PySem.W.nsIn K mainGlobals "BadLine" = some (some (.ref CBL)))
    (aCBT : PySem.W.nsIn K mainGlobals "BadTable" = some (some (.ref CBT)))
    (aCBX : PySem.W.nsIn K mainGlobals "BadText" = some (some (.ref CBX)))
    (a1 : PySem.W.nsIn K mainGlobals "check_line" = some (some (.ref f1)))
    (l1 : K.lookup f1 = some ⟨oc1, od1, .func (PySem.W.fnOf "check_line" "check_line" (defArgs sCheckLine) (defBody sCheckLine) (defScope sCheckLine) .none kV1 dc1 pm1 an1 cd1 ct1), sl1⟩)
    (c1 : PySem.W.codeIn K cd1 "check_line" = true)
    (k1 : PySem.W.keepIn K (.ref f1) = true)
    (a2 : PySem.W.nsIn K mainGlobals "read" = some (some (.ref f2)))
    (l2 : K.lookup f2 = some ⟨oc2, od2, .func (PySem.W.fnOf "read" "read" (defArgs sRead) (defBody sRead) (defScope sRead) .none kV2 dc2 pm2 an2 cd2 ct2), sl2⟩)
    (c2 : PySem.W.codeIn K cd2 "read" = true)
    (k2 : PySem.W.keepIn K (.ref f2) = true)
    (a3 : PySem.W.nsIn K mainGlobals "number_of" = some (some (.ref f3)))
    (l3 : K.lookup f3 = some ⟨oc3, od3, .func (PySem.W.fnOf "number_of" "number_of" (defArgs sNumber) (defBody sNumber) (defScope sNumber) .none kV3 dc3 pm3 an3 cd3 ct3), sl3⟩)
    (c3 : PySem.W.codeIn K cd3 "number_of" = true)
    (k3 : PySem.W.keepIn K (.ref f3) = true)
    (a4 : PySem.W.nsIn K mainGlobals "_law_drawn" = some (some (.ref f4)))
    (l4 : K.lookup f4 = some ⟨oc4, od4, .func (PySem.W.fnOf "_law_drawn" "_law_drawn" (defArgs sDrawn) (defBody sDrawn) (defScope sDrawn) .none kV4 dc4 pm4 an4 cd4 ct4), sl4⟩)
    (c4 : PySem.W.codeIn K cd4 "_law_drawn" = true)
    (k4 : PySem.W.keepIn K (.ref f4) = true)
    (a5 : PySem.W.nsIn K mainGlobals "_law_whole" = some (some (.ref f5)))
    (l5 : K.lookup f5 = some ⟨oc5, od5, .func (PySem.W.fnOf "_law_whole" "_law_whole" (defArgs sWhole) (defBody sWhole) (defScope sWhole) .none kV5 dc5 pm5 an5 cd5 ct5), sl5⟩)
    (c5 : PySem.W.codeIn K cd5 "_law_whole" = true)
    (k5 : PySem.W.keepIn K (.ref f5) = true)
    (a6 : PySem.W.nsIn K mainGlobals "_law_row" = some (some (.ref f6)))
    (l6 : K.lookup f6 = some ⟨oc6, od6, .func (PySem.W.fnOf "_law_row" "_law_row" (defArgs sRow) (defBody sRow) (defScope sRow) .none kV6 dc6 pm6 an6 cd6 ct6), sl6⟩)
    (c6 : PySem.W.codeIn K cd6 "_law_row" = true)
    (k6 : PySem.W.keepIn K (.ref f6) = true)
    (a7 : PySem.W.nsIn K mainGlobals "_law_line_by" = some (some (.ref f7)))
    (l7 : K.lookup f7 = some ⟨oc7, od7, .func (PySem.W.fnOf "_law_line_by" "_law_line_by" (defArgs sLineBy) (defBody sLineBy) (defScope sLineBy) .none kV7 dc7 pm7 an7 cd7 ct7), sl7⟩)
    (c7 : PySem.W.codeIn K cd7 "_law_line_by" = true)
    (k7 : PySem.W.keepIn K (.ref f7) = true)
    (a8 : PySem.W.nsIn K mainGlobals "_law_number" = some (some (.ref f8)))
    (l8 : K.lookup f8 = some ⟨oc8, od8, .func (PySem.W.fnOf "_law_number" "_law_number" (defArgs sNum) (defBody sNum) (defScope sNum) .none kV8 dc8 pm8 an8 cd8 ct8), sl8⟩)
    (c8 : PySem.W.codeIn K cd8 "_law_number" = true)
    (k8 : PySem.W.keepIn K (.ref f8) = true)
    (a9 : PySem.W.nsIn K mainGlobals "_law_due" = some (some (.ref f9)))
    (l9 : K.lookup f9 = some ⟨oc9, od9, .func (PySem.W.fnOf "_law_due" "_law_due" (defArgs sDue) (defBody sDue) (defScope sDue) .none kV9 dc9 pm9 an9 cd9 ct9), sl9⟩)
    (c9 : PySem.W.codeIn K cd9 "_law_due" = true)
    (k9 : PySem.W.keepIn K (.ref f9) = true)
    (a10 : PySem.W.nsIn K mainGlobals "law" = some (some (.ref f10)))
    (l10 : K.lookup f10 = some ⟨oc10, od10, .func (PySem.W.fnOf "law" "law" (defArgs sLaw) (defBody sLaw) (defScope sLaw) .none kV10 dc10 pm10 an10 cd10 ct10), sl10⟩)
    (c10 : PySem.W.codeIn K cd10 "law" = true)
    (k10 : PySem.W.keepIn K (.ref f10) = true)
    (a11 : PySem.W.findIn K (.ref CL) "__init__" = some (some (.ref f11)))
    (i11 : PySem.W.isFn K (.ref f11) = true)
    (l11 : K.lookup f11 = some ⟨oc11, od11, .func (PySem.W.fnOf "__init__" "Line.__init__" (defArgs sInit) (defBody sInit) (defScope sInit) .none kV11 dc11 pm11 an11 cd11 ct11), sl11⟩)
    (c11 : PySem.W.codeIn K cd11 "Line.__init__" = true)
    (k11 : PySem.W.keepIn K (.ref f11) = true)
    (a12 : PySem.W.findIn K (.ref CL) "runs" = some (some (.ref f12)))
    (i12 : PySem.W.isFn K (.ref f12) = true)
    (l12 : K.lookup f12 = some ⟨oc12, od12, .func (PySem.W.fnOf "runs" "Line.runs" (defArgs sRuns) (defBody sRuns) (defScope sRuns) .none kV12 dc12 pm12 an12 cd12 ct12), sl12⟩)
    (c12 : PySem.W.codeIn K cd12 "Line.runs" = true)
    (k12 : PySem.W.keepIn K (.ref f12) = true)
    (a13 : PySem.W.findIn K (.ref CL) "clear" = some (some (.ref f13)))
    (i13 : PySem.W.isFn K (.ref f13) = true)
    (l13 : K.lookup f13 = some ⟨oc13, od13, .func (PySem.W.fnOf "clear" "Line.clear" (defArgs sClear) (defBody sClear) (defScope sClear) .none kV13 dc13 pm13 an13 cd13 ct13), sl13⟩)
    (c13 : PySem.W.codeIn K cd13 "Line.clear" = true)
    (k13 : PySem.W.keepIn K (.ref f13) = true)
    (a14 : PySem.W.nsIn K mainGlobals "_law_sign_by" = some (some (.ref f14)))
    (l14 : K.lookup f14 = some ⟨oc14, od14, .func (PySem.W.fnOf "_law_sign_by" "_law_sign_by" (defArgs sSign) (defBody sSign) (defScope sSign) .none kV14 dc14 pm14 an14 cd14 ct14), sl14⟩)
    (c14 : PySem.W.codeIn K cd14 "_law_sign_by" = true)
    (k14 : PySem.W.keepIn K (.ref f14) = true)
    (a15 : PySem.W.nsIn K mainGlobals "_law_spoilt" = some (some (.ref f15)))
    (l15 : K.lookup f15 = some ⟨oc15, od15, .func (PySem.W.fnOf "_law_spoilt" "_law_spoilt" (defArgs sSpoilt) (defBody sSpoilt) (defScope sSpoilt) .none kV15 dc15 pm15 an15 cd15 ct15), sl15⟩)
    (c15 : PySem.W.codeIn K cd15 "_law_spoilt" = true)
    (k15 : PySem.W.keepIn K (.ref f15) = true)
    (pg : PySem.W.plainGet K CL Str.empty = true)
    (hd : PySem.W.hasDictIn K CL = true)
    (po : PySem.W.plainOver K CL = true)
    (sa : PySem.W.findIn K (.ref CL) "__setattr__" = some (some (.builtin "object.__setattr__")))
    (mk : PySem.W.makesIn K CL = true)
    (kc : PySem.W.keepIn K (.ref CL) = true)
    (nM : PySem.W.findIn K (.ref CL) "minutes" = some none)
    (nG : PySem.W.findIn K (.ref CL) "gap" = some none)
    (z0 : PySem.W.nsIn K mainGlobals "len" = some none)
    (z1 : PySem.W.nsIn K mainGlobals "list" = some none)
    (z2 : PySem.W.nsIn K mainGlobals "tuple" = some none)
    (z3 : PySem.W.nsIn K mainGlobals "range" = some none)
    (z4 : PySem.W.nsIn K mainGlobals "isinstance" = some none)
    (z5 : PySem.W.nsIn K mainGlobals "min" = some none)
    (z6 : PySem.W.nsIn K mainGlobals "max" = some none)
    (z7 : PySem.W.nsIn K mainGlobals "int" = some none)
    (z8 : PySem.W.nsIn K mainGlobals "bool" = some none)
    (z9 : PySem.W.nsIn K mainGlobals "ValueError" = some none)
    (z10 : PySem.W.nsIn K mainGlobals "str" = some none)
    (mS : PySem.W.nsIn K mainGlobals "MOST_STRETCHES" = some (some (.int 5 tS)))
    (mR : PySem.W.nsIn K mainGlobals "MOST_RUN" = some (some (.int 20 tR)))
    (mC : PySem.W.nsIn K mainGlobals "MOST_CLEAR" = some (some (.int 5 tC)))
    (gB : PySem.W.nsIn K mainGlobals "BETWEEN_RUNS" = some (some (.str (Str.ofString "-") tB)))
    (gA : PySem.W.nsIn K mainGlobals "AHEAD_OF_GAP" = some (some (.str (Str.ofString " clear ") tA)))
    (eCBL : PySem.W.excIn K CBL bmVE "ValueError.__new__" = true)
    (eCBX : PySem.W.excIn K CBX bmVE "ValueError.__new__" = true)
    (gaCBX : PySem.W.findIn K (.ref CBX) "__getattribute__" = some (some (.builtin "BaseException.__getattribute__")))
    (ghCBX : PySem.W.findIn K (.ref CBX) "__getattr__" = some none)
    (haCBX : PySem.W.findIn K (.ref CBX) "__class__" = some (some (.builtin "object.__class__")))
    (hmCBX : PySem.W.mroIn K CBX (.type "object") = some true)
    (hbCBX : PySem.W.mroIn K CBX (.type "BaseException") = some true)
    (rVCBX : PySem.W.mroIn K CBX (.type "ValueError") = some true)
    (rHCBX : PySem.W.mroIn K CBX (.ref CHE) = some true)
    (rBH : PySem.W.mroIn K CHE (.type "BaseException") = some true)
    (rXL : PySem.W.mroIn K CBX (.ref CBL) = some false)
    (rXT : PySem.W.mroIn K CBX (.ref CBT) = some false)
    (hcCHE : (PySem.W.clsIn K CHE).isSome = true)
    (htCHE : PySem.W.typeIn K (.ref CHE) = some (.type "type"))
    (hcCBL : (PySem.W.clsIn K CBL).isSome = true)
    (htCBL : PySem.W.typeIn K (.ref CBL) = some (.type "type"))
    (hcCBT : (PySem.W.clsIn K CBT).isSome = true)
    (htCBT : PySem.W.typeIn K (.ref CBT) = some (.type "type"))
    (hcCBX : (PySem.W.clsIn K CBX).isSome = true)
    (htCBX : PySem.W.typeIn K (.ref CBX) = some (.type "type"))
    (nXL : CBX ≠ CBL)
    (nXT : CBX ≠ CBT)
    (sp : PySem.W.specialIn K (.builtin "object.__class__") "__get__" = some (some (.builtin "getset_descriptor.__get__")))
    (tk : PySem.W.takesIn K (.builtin "object.__class__") = some true) :
    ∃ fd : FuncData, (∀ (s : Shared) (v : Value), BindsTo s fd ⟨[v], []⟩ [("script", v)]) ∧ ∀ base : Heap, K.In base → base.Ns mainGlobals mg → FnOk l.prog w K mg base (CXF l.prog w) 5 fa fd ["script"] (spLaw K) := by
  have e := hfa.symm.trans (PySem.W.mg_of X G a10)
  cases e
  have T : Txt K mg CL CHE CBL CBT CBX := {
    len := PySem.W.mg_none_of X G z0, lst := PySem.W.mg_none_of X G z1, tup := PySem.W.mg_none_of X G z2, rng := PySem.W.mg_none_of X G z3, isi := PySem.W.mg_none_of X G z4
    mn := PySem.W.mg_none_of X G z5, mx := PySem.W.mg_none_of X G z6, tint := PySem.W.mg_none_of X G z7, tbool := PySem.W.mg_none_of X G z8, tve := PySem.W.mg_none_of X G z9, tstr := PySem.W.mg_none_of X G z10
    mS := ⟨_, PySem.W.mg_of X G mS⟩, mR := ⟨_, PySem.W.mg_of X G mR⟩, mC := ⟨_, PySem.W.mg_of X G mC⟩, gB := ⟨_, PySem.W.mg_of X G gB⟩, gA := ⟨_, PySem.W.mg_of X G gA⟩
    bl := ⟨PySem.W.mg_of X G aCBL, eCBL⟩, bx := ⟨PySem.W.mg_of X G aCBX, eCBX⟩, mgH := PySem.W.mg_of X G aCHE, mgT := PySem.W.mg_of X G aCBT, mgL := PySem.W.mg_of X G aCL
    cl := ⟨pg, hd, po, sa⟩, nM := nM, nG := nG, kX := ⟨gaCBX, ghCBX, haCBX, sp, tk, hmCBX, hbCBX, hcCBX⟩
    eX := exm_ref rBH hcCHE htCHE rHCBX, iXX := kit_self, iXV := kit_ty (by decide +kernel) rVCBX, iXL := kit_ref nXL hcCBL htCBL rXL, iXT := kit_ref nXT hcCBT htCBT rXT, kii := kit_self, kib := kit_ib, kll := kit_self }
  have F1 := fun_mk (st := sCheckLine) l1 c1 k1
  have b1 := F1.binds (ps := ["runs", "clear"]) fun _ _ _ _ _ _ us hl => match us, hl with | [_, _], _ => rfl
  have F2 := fun_mk (st := sRead) l2 c2 k2
  have b2 := F2.binds (ps := ["text"]) fun _ _ _ _ _ _ us hl => match us, hl with | [_], _ => rfl
  have F3 := fun_mk (st := sNumber) l3 c3 k3
  have b3 := F3.binds (ps := ["figures", "least", "most"]) fun _ _ _ _ _ _ us hl => match us, hl with | [_, _, _], _ => rfl
  have F4 := fun_mk (st := sDrawn) l4 c4 k4
  have b4 := F4.binds (ps := ["script", "k", "many"]) fun _ _ _ _ _ _ us hl => match us, hl with | [_, _, _], _ => rfl
  have F5 := fun_mk (st := sWhole) l5 c5 k5
  have b5 := F5.binds (ps := ["found"]) fun _ _ _ _ _ _ us hl => match us, hl with | [_], _ => rfl
  have F6 := fun_mk (st := sRow) l6 c6 k6
  have b6 := F6.binds (ps := ["found", "due"]) fun _ _ _ _ _ _ us hl => match us, hl with | [_, _], _ => rfl
  have F7 := fun_mk (st := sLineBy) l7 c7 k7
  have b7 := F7.binds (ps := ["script", "base"]) fun _ _ _ _ _ _ us hl => match us, hl with | [_, _], _ => rfl
  have F8 := fun_mk (st := sNum) l8 c8 k8
  have b8 := F8.binds (ps := ["word"]) fun _ _ _ _ _ _ us hl => match us, hl with | [_], _ => rfl
  have F9 := fun_mk (st := sDue) l9 c9 k9
  have b9 := F9.binds (ps := ["signs"]) fun _ _ _ _ _ _ us hl => match us, hl with | [_], _ => rfl
  have F10 := fun_mk (st := sLaw) l10 c10 k10
  have b10 := F10.binds (ps := ["script"]) fun _ _ _ _ _ _ us hl => match us, hl with | [_], _ => rfl
  have F11 := fun_mk (st := sInit) l11 c11 k11
  have b11 := F11.binds (ps := ["self", "runs", "clear"]) fun _ _ _ _ _ _ us hl => match us, hl with | [_, _, _], _ => rfl
  have F12 := fun_mk (st := sRuns) l12 c12 k12
  have b12 := F12.binds (ps := ["self"]) fun _ _ _ _ _ _ us hl => match us, hl with | [_], _ => rfl
  have F13 := fun_mk (st := sClear) l13 c13 k13
  have b13 := F13.binds (ps := ["self"]) fun _ _ _ _ _ _ us hl => match us, hl with | [_], _ => rfl
  have F14 := fun_mk (st := sSign) l14 c14 k14
  have b14 := F14.binds (ps := ["script"]) fun _ _ _ _ _ _ us hl => match us, hl with | [_], _ => rfl
  have F15 := fun_mk (st := sSpoilt) l15 c15 k15
  have b15 := F15.binds (ps := ["script", "runs", "gap"]) fun _ _ _ _ _ _ us hl => match us, hl with | [_, _, _], _ => rfl
  refine ⟨PySem.W.fnOf "law" "law" (defArgs sLaw) (defBody sLaw) (defScope sLaw) .none kV10 dc10 pm10 an10 cd10 ct10, fun s v => .of_eq rfl, fun base _ _ => ?_⟩
  have G1 := ok_checkLine (P := l.prog) (w := w) (base := base) F1 T
  have GR := ok_runs (P := l.prog) (w := w) (base := base) F12 T
  have GI := ok_init (P := l.prog) (w := w) (base := base) F11 T G1 b1 (PySem.W.mg_of X G a1) k1
  have G3 := ok_number (P := l.prog) (w := w) (base := base) F3 T
  have G2 := ok_read (P := l.prog) (w := w) (base := base) F2 T G3 b3 (PySem.W.mg_of X G a3) k3 ⟨mk, a11, i11, kc⟩ GI b11
  have G5 := ok_whole (P := l.prog) (w := w) (base := base) F5 T
  have G8 := ok_num (P := l.prog) (w := w) (base := base) F8 T
  have Z4 : DrF l.prog w K mg base f4 _ := ⟨ok_drawn F4 T, b4, PySem.W.mg_of X G a4, k4⟩
  obtain ⟨mLB, G7, v7⟩ := ok_lineBy (P := l.prog) (w := w) (base := base) F7 T Z4
  obtain ⟨mSg, G14, v14⟩ := ok_sign (P := l.prog) (w := w) (base := base) F14 T Z4
  obtain ⟨mSp, G15, v15⟩ := ok_spoilt (P := l.prog) (w := w) (base := base) F15 T Z4 ⟨G14, b14, PySem.W.mg_of X G a14, k14, v14⟩
  exact ok_law (a := { fLB := f7, fSp := f15, fDu := f9, fRd := f2, fRow := f6, fR := f12, fC := f13, dLB := _, dSp := _, dDu := _, dRd := _, dRow := _, dR := _, dC := _, mLB := mLB, mSp := mSp }) F10 { T := T, GLB := G7, vLB := v7, bLB := b7, mLB := PySem.W.mg_of X G a7, kLB := k7, GSp := G15, vSp := v15, bSp := b15, mSp := PySem.W.mg_of X G a15, kSp := k15, GDu := ok_dueF F9 T G8 b8 (PySem.W.mg_of X G a8) k8, bDu := b9, mDu := PySem.W.mg_of X G a9, kDu := k9, GRd := G2, bRd := b2, mRd := PySem.W.mg_of X G a2, kRd := k2, GRow := ok_row F6 T G5 b5 (PySem.W.mg_of X G a5) k5, bRow := b6, mRow := PySem.W.mg_of X G a6, kRow := k6, GR := GR, bR := b12, mR := ⟨a12, i12, k12⟩, GC := ok_clear F13 T, bC := b13, mC := ⟨a13, i13, k13⟩ }
theorem cxf_false {P : Program} {w : World} {H : Hp} {s : Shared} {e : Value} {s' : Shared} (h : CXF P w [] H s (fun _ _ _ => False) e s') : False := by
  obtain ⟨_, _, _, _, _, _, _, _, _, _, _, _, _, _, q⟩ := h
  exact q
theorem walk {l : PySem.W.OpenLaw} {q : Program} {loose : List Str} {XP : (Str → Option Value) → Heap → Prop} {YP : World → Heap → Prop} {d : DefRec} {K : Params → PySem.W.Frag} (hn : l.most = some 63) (hdf : d.params.defaults = [])
    (hY : ∀ (w : World) (h : Heap), YP w h → (K w.params).In h)
    (F : ∀ (w : World) (mg : Str → Option Value) (fa : Addr) (h : Heap), (K w.params).In h → h.Ns mainGlobals mg → mg d.name = some (.ref fa) →
      ∃ fd : FuncData, (∀ (s : Shared) (u : Value), BindsTo s fd ⟨[u], []⟩ [("script", u)]) ∧ ∀ base : Heap, (K w.params).In base → base.Ns mainGlobals mg → FnOk l.prog w (K w.params) mg base (CXF l.prog w) 5 fa fd ["script"] (spLaw (K w.params))) :
    PySem.W.WalkO q loose XP YP l.row.toRowW d [] (fun f vs => PySem.call f vs) :=
  L2.walk_of (n := 63) (k := 5) (x := "script") (CX := fun w => CXF l.prog w) (sp := fun w => spLaw (K w.params)) hn (by decide) hdf ⟨rfl, by decide, by decide⟩ hY F (fun _ _ a ns _ _ hS => ⟨a, ns, rfl, hS, fun _ => rfl⟩) fun _ _ _ _ _ z => cxf_false z
end K13
open PySem PySem.W PyProof.Rows
set_option Elab.async false
set_option linter.all false
set_option maxRecDepth 100000 in
set_option maxHeartbeats 0 in
theorem PySem.Challenge.cw_haltline_k13_texts_refused_holds : PySem.Challenge.rw_haltline_k13_texts_refused.Holds := by
  w_on; o_law; k_head; (case hw => w_witness2)
  k_fill
  refine K13.walk (l := PySem.Challenge.rw_haltline_k13_texts_refused) rfl rfl (fun w h Y => PySem.W.kIn_of Y) ?F
  case F =>
    intro w mg fa h KX G hmg
    refine' K13.all_mk KX G hmg ?aCL ?aCHE ?aCBL ?aCBT ?aCBX ?a1 ?l1 ?c1 ?k1 ?a2 ?l2 ?c2 ?k2 ?a3 ?l3 ?c3 ?k3 ?a4 ?l4 ?c4 ?k4 ?a5 ?l5 ?c5 ?k5 ?a6 ?l6 ?c6 ?k6 ?a7 ?l7 ?c7 ?k7 ?a8 ?l8 ?c8 ?k8 ?a9 ?l9 ?c9 ?k9 ?a10 ?l10 ?c10 ?k10 ?a11 ?i11 ?l11 ?c11 ?k11 ?a12 ?i12 ?l12 ?c12 ?k12 ?a13 ?i13 ?l13 ?c13 ?k13 ?a14 ?l14 ?c14 ?k14 ?a15 ?l15 ?c15 ?k15 ?pg ?hd ?po ?sa ?mk ?kc ?nM ?nG ?z0 ?z1 ?z2 ?z3 ?z4 ?z5 ?z6 ?z7 ?z8 ?z9 ?z10 ?mS ?mR ?mC ?gB ?gA ?eCBL ?eCBX ?gaCBX ?ghCBX ?haCBX ?hmCBX ?hbCBX ?rVCBX ?rHCBX ?rBH ?rXL ?rXT ?hcCHE ?htCHE ?hcCBL ?htCBL ?hcCBT ?htCBT ?hcCBX ?htCBX ?nXL ?nXT ?sp ?tk
    (case aCL => k_is)
    (case aCHE => k_is)
    (case aCBL => k_is)
    (case aCBT => k_is)
    (case aCBX => k_is)
    (case a1 => k_is)
    (case l1 => k_is)
    (case c1 => k_is)
    (case k1 => k_is)
    (case a2 => k_is)
    (case l2 => k_is)
    (case c2 => k_is)
    (case k2 => k_is)
    (case a3 => k_is)
    (case l3 => k_is)
    (case c3 => k_is)
    (case k3 => k_is)
    (case a4 => k_is)
    (case l4 => k_is)
    (case c4 => k_is)
    (case k4 => k_is)
    (case a5 => k_is)
    (case l5 => k_is)
    (case c5 => k_is)
    (case k5 => k_is)
    (case a6 => k_is)
    (case l6 => k_is)
    (case c6 => k_is)
    (case k6 => k_is)
    (case a7 => k_is)
    (case l7 => k_is)
    (case c7 => k_is)
    (case k7 => k_is)
    (case a8 => k_is)
    (case l8 => k_is)
    (case c8 => k_is)
    (case k8 => k_is)
    (case a9 => k_is)
    (case l9 => k_is)
    (case c9 => k_is)
    (case k9 => k_is)
    (case a10 => k_is)
    (case l10 => k_is)
    (case c10 => k_is)
    (case k10 => k_is)
    (case a11 => k_is)
    (case i11 => k_is)
    (case l11 => k_is)
    (case c11 => k_is)
    (case k11 => k_is)
    (case a12 => k_is)
    (case i12 => k_is)
    (case l12 => k_is)
    (case c12 => k_is)
    (case k12 => k_is)
    (case a13 => k_is)
    (case i13 => k_is)
    (case l13 => k_is)
    (case c13 => k_is)
    (case k13 => k_is)
    (case a14 => k_is)
    (case l14 => k_is)
    (case c14 => k_is)
    (case k14 => k_is)
    (case a15 => k_is)
    (case l15 => k_is)
    (case c15 => k_is)
    (case k15 => k_is)
    (case pg => k_is)
    (case hd => k_is)
    (case po => k_is)
    (case sa => k_is)
    (case mk => k_is)
    (case kc => k_is)
    (case nM => k_is)
    (case nG => k_is)
    (case z0 => k_is)
    (case z1 => k_is)
    (case z2 => k_is)
    (case z3 => k_is)
    (case z4 => k_is)
    (case z5 => k_is)
    (case z6 => k_is)
    (case z7 => k_is)
    (case z8 => k_is)
    (case z9 => k_is)
    (case z10 => k_is)
    (case mS => k_is)
    (case mR => k_is)
    (case mC => k_is)
    (case gB => k_is)
    (case gA => k_is)
    (case eCBL => k_exc)
    (case eCBX => k_exc)
    (case gaCBX => k_is)
    (case ghCBX => k_is)
    (case haCBX => k_is)
    (case hmCBX => k_is)
    (case hbCBX => k_is)
    (case rVCBX => k_is)
    (case rHCBX => k_is)
    (case rBH => k_is)
    (case rXL => k_is)
    (case rXT => k_is)
    (case hcCHE => rfl)
    (case htCHE => k_is)
    (case hcCBL => rfl)
    (case htCBL => k_is)
    (case hcCBT => rfl)
    (case htCBT => k_is)
    (case hcCBX => rfl)
    (case htCBX => k_is)
    (case nXL => decide)
    (case nXT => decide)
    (case sp => k_is)
    (case tk => k_is)
#print axioms PySem.Challenge.cw_haltline_k13_texts_refused_holds
