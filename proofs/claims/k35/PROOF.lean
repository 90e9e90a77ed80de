import PyProof.Rows.All
import Wide.All
import OpenK.AllK
import Wide.FinOn
import Lean
import PyProof.EqAt
import PyProof.EqKinds
import PyProof.TupleCall
import PySem.Challenge.RW_stoke_k35_too_many_minds
set_option Elab.async false
set_option linter.all false
set_option maxRecDepth 100000
namespace L2
open PySem PySem.Spec PyProof.Rows

/-- a key: an int or a str -/
abbrev Key := Sum Int Str
def keyIs : Key → Value → Bool
  | .inl k, v => Value.isInt k v
  | .inr x, v => Value.isStrOf x v
def keyH (w : World) : Key → Int
  | .inl k => hashInt k
  | .inr x => hashStr w x
theorem keyIs_shape : ∀ {k : Key} {v : Value}, keyIs k v = true → (∃ i t, k = Sum.inl i ∧ v = Value.int i t) ∨ (∃ x t, k = Sum.inr x ∧ v = Value.str x t)
  | .inl i, v, h => by
    obtain ⟨t, e⟩ := Value.isInt_shape (k := i) (v := v) h
    exact .inl ⟨i, t, rfl, e⟩
  | .inr x, v, h => by
    obtain ⟨t, e⟩ := Value.isStrOf_shape (x := x) (v := v) h
    exact .inr ⟨x, t, rfl, e⟩
theorem key_ll (a b : Int) : decide ((Sum.inl a : Key) = Sum.inl b) = (a == b) := by
  by_cases e : a = b
  · subst e; simp
  · have h : ¬ (Sum.inl a : Key) = Sum.inl b := fun q => e (Sum.inl.inj q)
    rw [decide_eq_false h]
    exact (beq_eq_false_iff_ne.mpr e).symm
theorem key_rr (a b : Str) : decide ((Sum.inr a : Key) = Sum.inr b) = decide (a = b) := by
  by_cases e : a = b
  · subst e; simp
  · have h : ¬ (Sum.inr a : Key) = Sum.inr b := fun q => e (Sum.inr.inj q)
    rw [decide_eq_false h, decide_eq_false e]
theorem key_lr (a : Int) (b : Str) : decide ((Sum.inl a : Key) = Sum.inr b) = false := decide_eq_false (fun q => nomatch q)
theorem key_rl (a : Str) (b : Int) : decide ((Sum.inr a : Key) = Sum.inl b) = false := decide_eq_false (fun q => nomatch q)

def mixKind (prog : Program) (w : World) : PySem.KeyKind prog w Key where
  is := keyIs
  hash := keyH w
  inj := fun v a b ha hb => by
    rcases keyIs_shape ha with ⟨i, t, rfl, rfl⟩ | ⟨x, t, rfl, rfl⟩
    · rcases keyIs_shape hb with ⟨j, u, rfl, e⟩ | ⟨y, u, rfl, e⟩
      · injection e with e1 _; rw [e1]
      · exact nomatch e
    · rcases keyIs_shape hb with ⟨j, u, rfl, e⟩ | ⟨y, u, rfl, e⟩
      · exact nomatch e
      · injection e with e1 _; rw [e1]
  byValue := fun k v h => by
    rcases keyIs_shape h with ⟨i, t, rfl, rfl⟩ | ⟨x, t, rfl, rfl⟩ <;> rfl
  pyHash := fun hv h => by
    rcases keyIs_shape hv with ⟨i, t, rfl, rfl⟩ | ⟨x, t, rfl, rfl⟩
    · exact wpAny_pyHash_int h
    · exact wpAny_pyHash_str h
  eqBool := fun hu hv h => by
    rcases keyIs_shape hu with ⟨i, t, rfl, rfl⟩ | ⟨x, t, rfl, rfl⟩
    · rcases keyIs_shape hv with ⟨j, u, rfl, rfl⟩ | ⟨y, u, rfl, rfl⟩
      · rw [key_ll] at h; exact wpAny_eqBool_int h
      · rw [key_lr] at h; exact SeqAt.EqAt.int_str i t y u _ _ _ _ h
    · rcases keyIs_shape hv with ⟨j, u, rfl, rfl⟩ | ⟨y, u, rfl, rfl⟩
      · rw [key_rl] at h; exact SeqAt.EqAt.str_int x t j u _ _ _ _ h
      · rw [key_rr] at h; exact wpAny_eqBool_str h
  «strs» := fun k x t v h => by
    rcases keyIs_shape h with ⟨i, u, rfl, e⟩ | ⟨y, u, rfl, e⟩
    · exact nomatch e
    · injection e with e1 _
      subst e1
      cases v <;> rfl

end L2

namespace L2
open PySem PySem.Spec PyProof.Rows

/-- a value, without the heap -/
inductive V where
  | non | bl (b : Bool) | int (i : Int) | str (x : Str) | byt (b : Array UInt8) | flt (b : UInt64) | ref (a : Addr) | ty (n : String)
  deriving DecidableEq

def RelV : V → Value → Prop
  | .non, u => u = Value.none
  | .bl b, u => u = Value.bool b
  | .int i, u => ∃ t, u = Value.int i t
  | .str x, u => ∃ t, u = Value.str x t
  | .byt b, u => ∃ t, u = Value.bytes b t
  | .flt b, u => ∃ t, u = Value.float b t
  | .ref a, u => u = Value.ref a
  | .ty n, u => u = Value.type n

abbrev Vals : List V → List Value → Prop := Paired RelV
theorem Vals.length {xs : List V} {us : List Value} (r : Vals xs us) : xs.length = us.length := Paired.length r
theorem Vals.get : ∀ {xs : List V} {us : List Value} {i : Nat} {x : V}, Vals xs us → xs[i]? = some x → ∃ u, us[i]? = some u ∧ RelV x u
  | _, _, _, _, .nil, e => by simp at e
  | _, _, 0, _, .cons r _, e => by simp at e; subst e; exact ⟨_, rfl, r⟩
  | _, _, i + 1, x, .cons _ t, e => by
    obtain ⟨u, h1, h2⟩ := Vals.get (i := i) (x := x) t (by simpa using e)
    exact ⟨u, by simpa using h1, h2⟩
theorem Vals.set {x : V} {u : Value} (r : RelV x u) : ∀ {xs : List V} {us : List Value} (i : Nat), Vals xs us → Vals (xs.set i x) (us.set i u)
  | _, _, _, .nil => .nil
  | _, _, 0, .cons _ t => .cons r t
  | _, _, i + 1, .cons q t => .cons q (Vals.set r i t)
theorem Vals.append : ∀ {xs ys : List V} {us ws : List Value}, Vals xs us → Vals ys ws → Vals (xs ++ ys) (us ++ ws)
  | _, _, _, _, .nil, s => s
  | _, _, _, _, .cons r t, s => .cons r (Vals.append t s)
theorem Vals.take : ∀ {xs : List V} {us : List Value} (n : Nat), Vals xs us → Vals (xs.take n) (us.take n)
  | _, _, 0, _ => .nil
  | _, _, _ + 1, .nil => .nil
  | _, _, n + 1, .cons r t => .cons r (Vals.take n t)
theorem Vals.drop : ∀ {xs : List V} {us : List Value} (n : Nat), Vals xs us → Vals (xs.drop n) (us.drop n)
  | _, _, 0, r => r
  | _, _, _ + 1, .nil => .nil
  | _, _, n + 1, .cons _ t => Vals.drop n t
theorem Vals.none_of : ∀ {xs : List V} {us : List Value} {i : Nat}, Vals xs us → xs[i]? = none → us[i]? = none := fun {xs us i} r e => by
  have h1 := r.length
  have h2 : xs.length ≤ i := List.getElem?_eq_none_iff.mp e
  exact List.getElem?_eq_none_iff.mpr (by omega)

def RelO : Option V → Option Value → Prop
  | some v, some u => RelV v u
  | none, none => True
  | _, _ => False
def KV {κ : Type} : List (κ × V) → List (κ × Value) → Prop := Paired fun (p : κ × V) (q : κ × Value) => p.1 = q.1 ∧ RelV p.2 q.2

/-- a key of a dict (00_mix): an int or a text -/
def kV : Key → V
  | .inl i => .int i
  | .inr x => .str x

/-- what stands at a tracked address -/
inductive HO where
  /-- a list -/
  | lst (xs : List V)
  /-- a tuple (never changes) -/
  | tup (xs : List V)
  /-- a dict whose keys are ints and texts; one whose keys are tuples of ints and texts (the empty one is both) -/
  | dK (kvs : List (Key × V)) | dT (kvs : List (List Key × V))
  /-- a set of ints: its members, its size -/
  | set (S : Int → Bool) (n : Nat)
  /-- an instance of the class at C, its dict at dx, its attributes -/
  | ins (C dx : Addr) (fs : List (Str × V))
  /-- the dict of the instance at x -/
  | own (x : Addr)
  /-- the dict of an exception -/
  | xd (fs : List (Str × V))
  /-- a bound method, f of x -/
  | met (f x : Addr)
  /-- a range object lo, lo + 1, .. below hi -/
  | rng (lo hi : Int)
  /-- a thing that is known to the object (the script; a dict while a loop walks it): read, never written while it is so -/
  | frz (o : Obj) (u : HO)
  /-- a code object's table -/
  | tbl (ps : Array Value)
  /-- any other thing, by what is true of its one object (a def of one's own: SetO a S n := HO.ext fun h => ..) -/
  | ext (φ : Heap → Prop)

abbrev Hp := Addr → Option HO
def upd (H : Hp) (a : Addr) (o : HO) : Hp := fun b => if b = a then some o else H b
theorem upd_same {H : Hp} {a : Addr} {o : HO} : upd H a o a = some o := by unfold upd; rw [if_pos rfl]
theorem upd_ne {H : Hp} {a b : Addr} {o : HO} (h : b ≠ a) : upd H a o b = H b := by unfold upd; rw [if_neg h]
theorem ne_of_none {H : Hp} {a b : Addr} {o : HO} (h : H a = some o) (h' : H b = none) : a ≠ b := by
  intro e; subst e; rw [h] at h'; cases h'

section
variable (P : Program) (w : World)
def ObjOk (H : Hp) (h : Heap) (a : Addr) : HO → Prop
  | .lst xs => xs.length ≤ sizeLine ∧ ∃ (its : List Value) (n : Nat), Vals xs its ∧ h.get? a = some { cls := .type "list", data := .seq its.toArray n }
  | .tup xs => xs.length ≤ sizeLine ∧ ∃ its : List Value, Vals xs its ∧ IsTup h a its.toArray
  | .dK kvs => kvs.length ≤ sizeLine ∧ (a == sysModules) = false ∧ ∃ vs, KV kvs vs ∧ h.DictOf (mixKind P w) a vs
  | .dT kvs => kvs.length ≤ sizeLine ∧ (a == sysModules) = false ∧ ∃ xs : List (List Key × Addr × Value),
      Paired (fun (p : List Key × V) (q : List Key × Addr × Value) => p.1 = q.1 ∧ H q.2.1 = some (.tup (p.1.map kV)) ∧ RelV p.2 q.2.2) kvs xs ∧
      ∃ o es ep, h.get? a = some o ∧ o.ExactDict ∧ o.data = .dict es ep ∧ es.toList = xs.map (entryOfKey (tupleKind (mixKind P w))) ∧ (xs.map (·.1)).Nodup
  | .set S n => h.SetOf (intKind P w) a S n
  | .ins C dx fs => H dx = some (.own a) ∧ fs.length ≤ 1000 ∧ dx ≠ a ∧ h.get? a = some (PySem.W.instObj C dx) ∧
      ∃ mA, h.Ns1 dx mA ∧ (∀ f, RelO (fs.lookup f) (mA f)) ∧ PySem.Within mA (fs.map (·.1))
  | .own _ => ∃ o, h.get? a = some o
  | .xd fs => ∃ mA, h.Ns1 a mA ∧ ∀ f, RelO (fs.lookup f) (mA f)
  | .rng lo hi => ∃ t u v, h.get? a = some { cls := .type "range", data := .fields #[.int lo t, .int hi u, .int 1 v] }
  | .frz o u => h.get? a = some o ∧ ObjOk H h a u
  | .tbl ps => h.get? a = some { cls := .none, data := .fields ps }
  | .met f x => h.get? a = some (PySem.W.methodObj (.ref f) (.ref x))
  | .ext φ => φ h ∧ (∃ o, h.get? a = some o) ∧ ∀ h1 h2 : Heap, φ h1 → (∀ o, h1.get? a = some o → h2.get? a = some o) → φ h2
/-- the abstract heap is held -/
def HOk (H : Hp) (h : Heap) : Prop := ∀ a o, H a = some o → ObjOk P w H h a o
end

section
variable {P : Program} {w : World} {H H' : Hp} {h h' : Heap} {a : Addr} {o : HO}
theorem ObjOk.lt (x : ObjOk P w H h a o) : a < h.objs.size := by
  cases o with
  | lst xs => obtain ⟨_, _, _, _, e⟩ := x; exact Heap.lt_size e
  | tup xs => obtain ⟨_, _, _, p⟩ := x; exact p.lt
  | dK kvs => obtain ⟨_, _, _, _, o, _, _, e, _⟩ := x; exact Heap.lt_size e
  | dT kvs => obtain ⟨_, _, _, _, o, _, _, e, _⟩ := x; exact Heap.lt_size e
  | set S n => obtain ⟨o, _, _, _, e, _⟩ := x; exact Heap.lt_size e
  | ins C dx fs => obtain ⟨_, _, _, e, _⟩ := x; exact Heap.lt_size e
  | own y => obtain ⟨_, e⟩ := x; exact Heap.lt_size e
  | xd fs => obtain ⟨_, ⟨_, _, _, e, _⟩, _⟩ := x; exact Heap.lt_size e
  | rng lo hi => obtain ⟨_, _, _, e⟩ := x; exact Heap.lt_size e
  | frz ob u => obtain ⟨e, _⟩ := x; exact Heap.lt_size e
  | tbl ps => exact Heap.lt_size (show h.get? a = some _ from x)
  | met f y => exact Heap.lt_size (show h.get? a = some _ from x)
  | ext φ => obtain ⟨_, ⟨_, e⟩, _⟩ := x; exact Heap.lt_size e
theorem Paired.mapP {α β : Type} {F G : α → β → Prop} : ∀ {l₁ : List α} {l₂ : List β}, Paired F l₁ l₂ → (∀ a b, F a b → G a b) → Paired G l₁ l₂
  | _, _, .nil, _ => .nil
  | _, _, .cons r t, f => .cons (f _ _ r) (Paired.mapP t f)
/-- what an object's description leans on: its own object, its own dict, the tuples -/
theorem ObjOk.stay (x : ObjOk P w H h a o) (k : ∀ b u, (b = a ∨ H b = some (.own a)) → h.get? b = some u → h'.get? b = some u)
    (ho : ∀ b, H b = some (.own a) → H' b = some (.own a)) (ht : ∀ b xs, H b = some (.tup xs) → H' b = some (.tup xs)) : ObjOk P w H' h' a o := by
  induction o with
  | lst xs => obtain ⟨z, its, n, r, e⟩ := x; exact ⟨z, its, n, r, k _ _ (.inl rfl) e⟩
  | tup xs => obtain ⟨z, its, r, ob, e, c⟩ := x; exact ⟨z, its, r, ob, k _ _ (.inl rfl) e, c⟩
  | dK kvs => obtain ⟨z, y, vs, r, ob, es, ep, e, c⟩ := x; exact ⟨z, y, vs, r, ob, es, ep, k _ _ (.inl rfl) e, c⟩
  | dT kvs =>
    obtain ⟨z, y, xs, r, ob, es, ep, e, c⟩ := x
    exact ⟨z, y, xs, Paired.mapP r fun p q z => ⟨z.1, ht _ _ z.2.1, z.2.2⟩, ob, es, ep, k _ _ (.inl rfl) e, c⟩
  | set S n => obtain ⟨ob, es, ep, t, e, c⟩ := x; exact ⟨ob, es, ep, t, k _ _ (.inl rfl) e, c⟩
  | ins C dx fs =>
    obtain ⟨d, z, ne, e, mA, ⟨od, es, ep, e2, c⟩, r⟩ := x
    exact ⟨ho _ d, z, ne, k _ _ (.inl rfl) e, mA, ⟨od, es, ep, k _ _ (.inr d) e2, c⟩, r⟩
  | own y => obtain ⟨ob, e⟩ := x; exact ⟨ob, k _ _ (.inl rfl) e⟩
  | xd fs => obtain ⟨mA, ⟨od, es, ep, e, c⟩, r⟩ := x; exact ⟨mA, ⟨od, es, ep, k _ _ (.inl rfl) e, c⟩, r⟩
  | rng lo hi => obtain ⟨t, u, v, e⟩ := x; exact ⟨t, u, v, k _ _ (.inl rfl) e⟩
  | frz ob u ih => obtain ⟨e, q⟩ := x; exact ⟨k _ _ (.inl rfl) e, ih q⟩
  | tbl ps =>
    have e : h.get? a = some { cls := .none, data := .fields ps } := x
    show h'.get? a = some { cls := .none, data := .fields ps }
    exact k a _ (.inl rfl) e
  | met f y =>
    have e : h.get? a = some (PySem.W.methodObj (.ref f) (.ref y)) := x
    show h'.get? a = some (PySem.W.methodObj (.ref f) (.ref y))
    exact k a _ (.inl rfl) e
  | ext φ => obtain ⟨p, ⟨o, e⟩, st⟩ := x; exact ⟨st _ _ p fun o q => k _ _ (.inl rfl) q, ⟨o, k _ _ (.inl rfl) e⟩, st⟩
theorem HOk.lt (x : HOk P w H h) (e : H a = some o) : a < h.objs.size := (x a o e).lt
theorem HOk.fresh (x : HOk P w H h) (e : h.objs.size ≤ a) : H a = none := by
  cases q : H a with
  | none => rfl
  | some u => exact absurd (Nat.lt_of_lt_of_le (x.lt q) e) (Nat.lt_irrefl _)
/-- every object of the heap is kept -/
theorem HOk.kept (x : HOk P w H h) (k : ∀ b u, h.get? b = some u → h'.get? b = some u) : HOk P w H h' := fun a o e =>
  (x a o e).stay (fun b u _ q => k b u q) (fun _ q => q) fun _ _ q => q
/-- a new object is laid and tracked -/
theorem HOk.laid (x : HOk P w H h) (k : ∀ b u, h.get? b = some u → h'.get? b = some u) (hp : h.objs.size ≤ a) (new : ObjOk P w (upd H a o) h' a o) : HOk P w (upd H a o) h' := fun b u e => by
  have hn := x.fresh hp
  by_cases hb : b = a
  · subst hb; rw [upd_same] at e; cases e; exact new
  · rw [upd_ne hb] at e
    exact (x b u e).stay (fun c v _ q => k c v q) (fun c q => by rw [upd_ne (ne_of_none q hn)]; exact q) fun c xs q => by rw [upd_ne (ne_of_none q hn)]; exact q
end

/-- what may be read as u: it is u, or a known u -/
def Rd (H : Hp) (a : Addr) (u : HO) : Prop := H a = some u ∨ ∃ o, H a = some (.frz o u)
theorem Rd.of {H : Hp} {a : Addr} {u : HO} (h : H a = some u) : Rd H a u := .inl h
theorem Rd.ok {P : Program} {w : World} {H : Hp} {h : Heap} {a : Addr} {u : HO} (r : Rd H a u) (x : HOk P w H h) : ObjOk P w H h a u := by
  rcases r with r | ⟨o, r⟩
  · exact x a u r
  · obtain ⟨_, q⟩ := x a _ r
    exact q
/-- what may be written -/
def Mut : Option HO → Prop
  | some (.lst _) => True
  | some (.dK _) => True
  | some (.dT _) => True
  | some (.set _ _) => True
  | some (.ins _ _ _) => True
  | some (.ext _) => True
  | _ => False
section
variable {P : Program} {w : World} {H : Hp} {h h' : Heap} {x e : Addr} {o' : HO}
/-- the object at e is changed: x itself, or the dict of the instance x -/
theorem HOk.write (ok : HOk P w H h) (mu : Mut (H x)) (he : e = x ∨ H e = some (.own x)) (k : ∀ b u, b ≠ e → h.get? b = some u → h'.get? b = some u) (heo : ∃ u, h'.get? e = some u)
    (new : ObjOk P w (upd H x o') h' x o') : HOk P w (upd H x o') h' := fun b u q => by
  have nown : ∀ c y, H c = some (.own y) → c ≠ x := fun c y r z => by subst z; rw [r] at mu; exact mu
  have ntup : ∀ c xs, H c = some (.tup xs) → c ≠ x := fun c xs r z => by subst z; rw [r] at mu; exact mu
  by_cases hb : b = x
  · subst hb; rw [upd_same] at q; cases q; exact new
  · rw [upd_ne hb] at q
    by_cases hbe : b = e
    · have q' : H b = some (.own x) := by
        rcases he with z | z
        · exact absurd (hbe.trans z) hb
        · rw [hbe]; exact z
      rw [q] at q'; cases q'
      obtain ⟨v, hv⟩ := heo
      exact ⟨v, by rw [hbe]; exact hv⟩
    · refine (ok b u q).stay (fun c v hc r => k c v ?_ r) (fun c r => by rw [upd_ne (nown c b r)]; exact r) fun c xs r => by rw [upd_ne (ntup c xs r)]; exact r
      rcases hc with rfl | hc
      · exact hbe
      · rintro rfl
        rcases he with z | z
        · exact nown c b hc z
        · rw [hc] at z; cases z; exact hb rfl
end

structure Un (fs ex : List Addr) (H H' : Hp) (h h' : Heap) : Prop where
  keep : ∀ b o, h.get? b = some o → H b = none → b ∉ fs → b ∉ ex → h'.get? b = some o
  slot : ∀ b o, h.get? b = some o → H b = none → b ∈ fs → b ∉ ex → ∃ sl, h'.get? b = some { o with slots := sl }
  free : ∀ b o, h.get? b = some o → H b = none → b ∉ ex → H' b = none
  there : ∀ b o, h.get? b = some o → b ∉ ex → ∃ o', h'.get? b = some o'
  tups : ∀ b xs, H b = some (.tup xs) → H' b = some (.tup xs)
  frzs : ∀ b o u, H b = some (.frz o u) → H' b = some (.frz o u)
  tbls : ∀ b ps, H b = some (.tbl ps) → ∃ more, H' b = some (.tbl (ps ++ more))
section
variable {fs fs' ex ex' : List Addr} {H H1 H2 : Hp} {h h1 h2 h' : Heap} {a x e : Addr} {o : HO}
theorem Un.any (u : Un fs ex H H1 h h1) {b : Addr} {ob : Obj} (q : h.get? b = some ob) (n : H b = none) (hx : b ∉ ex) : ∃ sl, h1.get? b = some { ob with slots := sl } := by
  by_cases hb : b ∈ fs
  · exact u.slot b ob q n hb hx
  · exact ⟨ob.slots, u.keep b ob q n hb hx⟩
theorem Un.trans (a : Un fs ex H H1 h h1) (b : Un fs ex H1 H2 h1 h2) : Un fs ex H H2 h h2 where
  keep := fun c ob q n hc hx => b.keep c ob (a.keep c ob q n hc hx) (a.free c ob q n hx) hc hx
  slot := fun c ob q n hc hx => by
    obtain ⟨sl, e1⟩ := a.slot c ob q n hc hx
    obtain ⟨sl', e2⟩ := b.slot c _ e1 (a.free c ob q n hx) hc hx
    exact ⟨sl', e2⟩
  free := fun c ob q n hx => by
    obtain ⟨o', e1⟩ := a.there c ob q hx
    exact b.free c o' e1 (a.free c ob q n hx) hx
  there := fun c ob q hx => by
    obtain ⟨o', e1⟩ := a.there c ob q hx
    exact b.there c o' e1 hx
  tups := fun c xs q => b.tups c xs (a.tups c xs q)
  frzs := fun c ob xs q => b.frzs c ob xs (a.frzs c ob xs q)
  tbls := fun c ps q => by
    obtain ⟨m1, e1⟩ := a.tbls c ps q
    obtain ⟨m2, e2⟩ := b.tbls c _ e1
    exact ⟨m1 ++ m2, by rw [e2, Array.append_assoc]⟩
theorem Un.kept (k : ∀ b u, h.get? b = some u → h'.get? b = some u) : Un fs ex H H h h' :=
  ⟨fun b ob q _ _ _ => k b ob q, fun b ob q _ _ _ => ⟨ob.slots, k b ob q⟩, fun _ _ _ n _ => n, fun b ob q _ => ⟨ob, k b ob q⟩, fun _ _ q => q, fun _ _ _ q => q, fun _ ps q => ⟨#[], by rw [q]; simp⟩⟩
theorem Un.refl : Un fs ex H H h h := Un.kept fun _ _ q => q
theorem Un.laid (k : ∀ b u, h.get? b = some u → h'.get? b = some u) (hp : h.objs.size ≤ a) (hn : H a = none) : Un fs ex H (upd H a o) h h' where
  keep := fun b u q _ _ _ => k b u q
  slot := fun b u q _ _ _ => ⟨u.slots, k b u q⟩
  free := fun b u q n _ => by rw [upd_ne (Nat.ne_of_lt (Nat.lt_of_lt_of_le (Heap.lt_size q) hp))]; exact n
  there := fun b u q _ => ⟨u, k b u q⟩
  tups := fun b xs q => by rw [upd_ne (ne_of_none q hn)]; exact q
  frzs := fun b u xs q => by rw [upd_ne (ne_of_none q hn)]; exact q
  tbls := fun b ps q => ⟨#[], by rw [upd_ne (ne_of_none q hn), q]; simp⟩
theorem Un.write (mu : Mut (H x)) (he : e = x ∨ H e = some (.own x)) (k : ∀ b u, b ≠ e → h.get? b = some u → h'.get? b = some u) (heo : ∃ u, h'.get? e = some u) : Un fs ex H (upd H x o) h h' := by
  have hx : ∀ b, H b = none → b ≠ x := fun b n z => by subst z; rw [n] at mu; exact mu
  have hb : ∀ b, H b = none → b ≠ e := fun b n z => by
    subst z
    rcases he with r | r
    · exact hx b n r
    · rw [n] at r; cases r
  have hm : ∀ b u, H b = some u → ¬ Mut (some u) → b ≠ x := fun b u q nm z => by subst z; rw [q] at mu; exact nm mu
  refine ⟨fun b u q n _ _ => k b u (hb b n) q, fun b u q n _ _ => ⟨u.slots, k b u (hb b n) q⟩, fun b u q n _ => by rw [upd_ne (hx b n)]; exact n, fun b u q _ => ?_,
    fun b xs q => by rw [upd_ne (hm b _ q fun z => z)]; exact q, fun b u xs q => by rw [upd_ne (hm b _ q fun z => z)]; exact q, fun b ps q => ⟨#[], by rw [upd_ne (hm b _ q fun z => z), q]; simp⟩⟩
  by_cases hbe : b = e
  · subst hbe; exact heo
  · exact ⟨u, k b u hbe q⟩
theorem Un.mono (u : Un fs ex H H1 h h1) (hs : ∀ b ∈ fs, b ∈ fs') (hx : ∀ b ∈ ex, b ∈ ex') : Un fs' ex' H H1 h h1 :=
  ⟨fun b ob q n hb he => u.keep b ob q n (fun z => hb (hs b z)) fun z => he (hx b z), fun _ _ q n _ he => u.any q n fun z => he (hx _ z), fun b ob q n he => u.free b ob q n fun z => he (hx b z), fun b ob q he => u.there b ob q fun z => he (hx b z), u.tups, u.frzs, u.tbls⟩
end

def trk (h : Heap) (H : Hp) : List Addr := (List.range h.objs.size).filter fun a => (H a).isSome
def hidT (h : Heap) (H : Hp) : Heap := PySem.W.hideAll h (trk h H)
theorem hidT_size (h : Heap) (H : Hp) : (hidT h H).objs.size = h.objs.size := PySem.W.hideAll_size _ _
theorem hidT_get {h : Heap} {H : Hp} {b : Addr} {o : Obj} (e : h.get? b = some o) (n : H b = none) : (hidT h H).get? b = some o :=
  PySem.W.hideAll_get _ e fun hm => by
    have q : (H b).isSome = true := (List.mem_filter.mp hm).2
    rw [n] at q; simp at q
theorem of_hidT {h : Heap} {H : Hp} {b : Addr} {o : Obj} (e : (hidT h H).get? b = some o) : h.get? b = some o ∧ H b = none := by
  have e' : h.get? b = some o := PySem.W.of_hideAll (trk h H) e
  refine ⟨e', ?_⟩
  cases q : H b with
  | none => rfl
  | some x =>
    have hm : b ∈ trk h H := List.mem_filter.mpr ⟨List.mem_range.mpr (Heap.lt_size e'), by simp [q]⟩
    have z : (hidT h H).get? b = none := PySem.W.hideAll_none (trk h H) hm
    rw [z] at e; cases e

def allNews (g h : Heap) (L : Addr) : List (Addr × Obj) := (List.range h.objs.size).filterMap fun a => if a = L ∨ (g.get? a).isSome = true then none else (h.get? a).map fun o => (a, o)
def rest (g h : Heap) (L d : Addr) : List (Addr × Obj) := (allNews g h L).filter fun p => decide (p.1 ≠ d)
end L2

namespace L2
open PySem PySem.Spec PyProof.Rows

/-- the module's facts, over the base: the heap at the law's entry without what is tracked there -/
structure Mod (K : PySem.W.Frag) (mg : Str → Option Value) (base : Heap) : Prop where
  kin : K.In base
  glob : base.Ns mainGlobals mg
  blt : ∃ mb, base.Ns builtinsNs mb ∧ ∀ x : Str, x ≠ "__name__" → mb x = bootBuiltins x
  nolimit : base.NoLimit

/-- the context: a def's body (or a comprehension's block) running. base: fixed through the whole law; s₀, H₀: the entry; outer: the frames whose slots others may change (a def's callers); stack: all frames that run;
   ex: iterators that were made ahead of the entry and are walked here (a comprehension's); fn: the names whose cells were made at the entry (a def: all; a comprehension's block: its own); calm: not within an except suite; pn: pins that every state bears; xe: what is wanted of an exception that leaves the code -/
structure Cx where
  prog : Program
  w : World
  K : PySem.W.Frag
  mg : Str → Option Value
  base : Heap
  A : Around
  N : List Str
  s₀ : Shared
  H₀ : Hp
  env : Env
  outer : List Env
  stack : List Env
  ex : List Addr
  fn : Str → Bool
  calm : Bool
  pn : List (Addr × Obj)
  xe : Value → Shared → Prop
/-- the callers' frames -/
def frs (l : List Env) : List Addr := l.filterMap (·.frame)
abbrev Cx.fs (X : Cx) : List Addr := frs X.outer

def Vis (sc : Scope) (x : Str) : Prop := sc.names.lookup x = some .local ∨ sc.names.lookup x = some .cell ∨ sc.names.lookup x = some .free
def Loc (sc : Scope) (x : Str) : Prop := sc.names.lookup x = some .local ∨ sc.names.lookup x = some .cell
def Look (env : Env) (h : Heap) (m : Str → Option Value) (x : Str) (u : Value) : Prop :=
  (env.kindOf x = some .local ∧ m x = some u) ∨ ((env.kindOf x = some .cell ∨ env.kindOf x = some .free) ∧ ∃ c, env.cells.lookup x = some c ∧ h.IsCell c (some u))

structure Cx.Ok (X : Cx) : Prop where
  mod : Mod X.K X.mg X.base
  kind : X.env.scope.kind = .function
  glob : X.env.globals = mainGlobals
  blt : X.env.builtins = builtinsNs
  above : X.s₀.heap.objs.size ≤ X.env.locals
  inj : ∀ x y c, X.env.cells.lookup x = some c → X.env.cells.lookup y = some c → x = y
  has : ∀ x, (X.env.kindOf x = some .cell ∨ X.env.kindOf x = some .free) → ∃ c, X.env.cells.lookup x = some c
  cab : ∀ x c, X.fn x = true → X.env.cells.lookup x = some c → X.s₀.heap.objs.size ≤ c
  hd : X.calm = true → X.A.handled = none
  frames : X.A.frames = some X.stack
  stk : X.stack = X.outer ∨ (X.stack = X.env :: X.outer ∧ X.env.frame = some X.env.locals)
  exf : ∀ b ∈ X.ex, b ≠ X.env.locals ∧ ∀ x c, X.env.cells.lookup x = some c → c ≠ b
  bs : ∀ b o, X.base.get? b = some o → X.s₀.heap.get? b = some o ∧ X.H₀ b = none
  bsz : X.base.objs.size ≤ X.s₀.heap.objs.size
  noex : ∀ b o, X.base.get? b = some o → b ∉ X.ex
  exfs : ∀ b ∈ X.ex, b ∉ X.fs
  funs : X.s₀.heap.FunFrames X.base X.outer
  frf : ∀ b ∈ X.fs, X.H₀ b = none

structure Inv (X : Cx) (pins : List (Addr × Obj)) (σ : List (Option V)) (H : Hp) (s : Shared) : Prop where
  ok : X.Ok
  os : s.os = X.s₀.os
  bare : AllBare s.gens
  base : Un X.fs X.ex X.H₀ H X.s₀.heap s.heap
  loc : ∃ m, s.heap.Ns X.env.locals m ∧ ∀ (i : Nat) (x : Str) (v : V), X.N[i]? = some x → σ[i]? = some (some v) → Vis X.env.scope x → ∃ u, RelV v u ∧ Look X.env s.heap m x u
  cell : ∀ x c, X.env.cells.lookup x = some c → ∃ v, s.heap.IsCell c v
  free : H X.env.locals = none
  freeC : ∀ x c, X.env.cells.lookup x = some c → H c = none
  pin : ∀ p ∈ X.pn ++ pins, s.heap.get? p.1 = some p.2 ∧ H p.1 = none ∧ p.1 ≠ X.env.locals ∧ p.1 ∉ X.fs ∧ ∀ v, p.2.data ≠ .cell v
  hok : HOk X.prog X.w H s.heap
  len : σ.length = X.N.length

section
variable {X : Cx} {pins : List (Addr × Obj)} {σ : List (Option V)} {H H' : Hp} {s : Shared} {h' : Heap}

theorem Cx.Ok.nofr (ok : X.Ok) {b : Addr} {o : Obj} (e : X.base.get? b = some o) : b ∉ X.fs := fun hb => by
  have := (ok.funs.mem hb).1
  rw [e] at this; cases this
theorem Inv.bs (I : Inv X pins σ H s) : ∀ b o, X.base.get? b = some o → s.heap.get? b = some o ∧ H b = none := fun b o e =>
  ⟨I.base.keep b o (I.ok.bs b o e).1 (I.ok.bs b o e).2 (I.ok.nofr e) (I.ok.noex b o e), I.base.free b o (I.ok.bs b o e).1 (I.ok.bs b o e).2 (I.ok.noex b o e)⟩
theorem Inv.bk (I : Inv X pins σ H s) : ∀ b o, X.base.get? b = some o → s.heap.get? b = some o := fun b o e => (I.bs b o e).1
theorem Inv.mod (I : Inv X pins σ H s) : Mod X.K X.mg X.base := I.ok.mod
theorem Inv.kIn (I : Inv X pins σ H s) : X.K.In s.heap := I.ok.mod.kin.keeps I.bk
theorem Inv.nolimit (I : Inv X pins σ H s) : s.heap.NoLimit := I.ok.mod.nolimit.keeps I.bk
/-- the frame over the base: for OpenK's rules (K.In X.base is I.mod.kin) -/
theorem Inv.fr (I : Inv X pins σ H s) : ∃ m, Fr X.base X.env.locals s.heap m :=
  let ⟨m, hn, _⟩ := I.loc
  ⟨m, hn, I.bk, Nat.le_trans I.ok.bsz I.ok.above⟩
theorem Inv.lt (I : Inv X pins σ H s) : X.env.locals < s.heap.objs.size := let ⟨_, hn, _⟩ := I.loc; hn.lt
theorem Inv.sz (I : Inv X pins σ H s) : X.s₀.heap.objs.size ≤ s.heap.objs.size := Nat.le_trans I.ok.above (Nat.le_of_lt I.lt)
theorem Inv.nofs (I : Inv X pins σ H s) {a : Addr} (h : s.heap.objs.size ≤ a) : a ∉ X.fs := fun hb => by
  obtain ⟨_, o, ho, _⟩ := I.ok.funs.mem hb
  exact absurd (Nat.lt_of_lt_of_le (Heap.lt_size ho) (Nat.le_trans I.sz h)) (Nat.lt_irrefl _)
theorem Inv.cne (I : Inv X pins σ H s) : ∀ x c, X.env.cells.lookup x = some c → c ≠ X.env.locals := fun x c e z => by
  obtain ⟨v, o, ho, hd⟩ := I.cell x c e
  obtain ⟨m, ⟨o', es, ep, ho', hd', _⟩, _⟩ := I.loc
  rw [z, ho'] at ho; cases ho; rw [hd'] at hd; cases hd
theorem Inv.funs (I : Inv X pins σ H s) : s.heap.FunFrames X.base X.outer := by
  have all : ∀ (l : List Env), (∀ b ∈ frs l, b ∈ X.fs) → X.s₀.heap.FunFrames X.base l → s.heap.FunFrames X.base l := by
    intro l
    induction l with
    | nil => intro _ _; trivial
    | cons env r ih =>
      intro hs hl
      obtain ⟨hk, ⟨L, o, hf, hn, ho, hd⟩, hr⟩ := hl
      have hL : L ∈ X.fs := hs L (by unfold frs; rw [List.filterMap_cons, hf]; exact List.mem_cons_self)
      obtain ⟨sl, e⟩ := I.base.slot L o ho (I.ok.frf L hL) hL fun z => I.ok.exfs L z hL
      exact ⟨hk, ⟨L, _, hf, hn, e, hd⟩, ih (fun b hb => hs b (by unfold frs; rw [List.filterMap_cons, hf]; exact List.mem_cons_of_mem _ hb)) hr⟩
  exact all X.outer (fun _ hb => hb) I.ok.funs

/-- the frames that run, for a call -/
theorem Inv.stack (I : Inv X pins σ H s) : s.heap.FunFrames X.base X.stack := by
  rcases I.ok.stk with e | ⟨e, hf⟩
  · rw [e]; exact I.funs
  · rw [e]
    obtain ⟨m, hn, _⟩ := I.loc
    refine .cons (by rw [I.ok.kind]; decide) hf hn ?_ I.funs
    exact Heap.get?_none_of_le (Nat.le_trans I.ok.bsz I.ok.above)
theorem Inv.stkSub (I : Inv X pins σ H s) : ∀ b ∈ frs X.stack, b ∈ X.env.locals :: X.fs := fun b hb => by
  rcases I.ok.stk with e | ⟨e, hf⟩
  · rw [e] at hb; exact List.mem_cons_of_mem _ hb
  · rw [e] at hb
    unfold frs at hb
    rw [List.filterMap_cons, hf] at hb
    exact hb
theorem Inv.stkFree (I : Inv X pins σ H s) : ∀ b ∈ frs X.stack, H b = none := fun b hb => by
  rcases List.mem_cons.mp (I.stkSub b hb) with e | hb
  · rw [e]; exact I.free
  · obtain ⟨_, o, ho, _⟩ := I.ok.funs.mem hb
    exact I.base.free b o ho (I.ok.frf b hb) fun z => I.ok.exfs b z hb

/-- THE STEP: the untracked objects but the frame and the records at ch are kept (the callers' frames up to slots), the frame's map is kept, the new abstract heap is held -/
theorem Inv.step {g' : Array GenState} {t' : Nat} {d' : Drawn} {ch : List Addr} (I : Inv X pins σ H s)
    (hch : ∀ b ∈ ch, (b ∈ X.ex ∨ X.s₀.heap.objs.size ≤ b) ∧ b ≠ X.env.locals ∧ (∀ x c, X.env.cells.lookup x = some c → c ≠ b) ∧ ∀ p ∈ X.pn ++ pins, p.1 ≠ b)
    (keep : ∀ b o, b ≠ X.env.locals → b ∉ X.fs → b ∉ ch → s.heap.get? b = some o → H b = none → h'.get? b = some o)
    (slot : ∀ b o, b ≠ X.env.locals → b ∈ X.fs → b ∉ ch → s.heap.get? b = some o → H b = none → ∃ sl, h'.get? b = some { o with slots := sl }) (free : ∀ b o, b ∉ ch → s.heap.get? b = some o → H b = none → H' b = none)
    (there : ∀ b o, b ∉ ch → s.heap.get? b = some o → ∃ o', h'.get? b = some o')
    (tups : ∀ b xs, H b = some (.tup xs) → H' b = some (.tup xs)) (frzs : ∀ b o u, H b = some (.frz o u) → H' b = some (.frz o u)) (tbls : ∀ b ps, H b = some (.tbl ps) → ∃ more, H' b = some (.tbl (ps ++ more)))
    (ns : ∀ m, s.heap.Ns X.env.locals m → h'.Ns X.env.locals m) (hok : HOk X.prog X.w H' h') (hg : AllBare g') :
    Inv X pins σ H' { s with heap := h', gens := g', drawn := d', toks := t' } := by
  have neL : ∀ b o, X.s₀.heap.get? b = some o → b ≠ X.env.locals := fun b o e => Nat.ne_of_lt (Nat.lt_of_lt_of_le (Heap.lt_size e) I.ok.above)
  have neC : ∀ b o, X.s₀.heap.get? b = some o → b ∉ X.ex → b ∉ ch := fun b o e hx hb => by
    rcases (hch b hb).1 with z | z
    · exact hx z
    · exact absurd (Nat.lt_of_lt_of_le (Heap.lt_size e) z) (Nat.lt_irrefl _)
  have cellK : ∀ x c, X.env.cells.lookup x = some c → ∀ v, s.heap.IsCell c v → h'.IsCell c v := fun x c e v ⟨o, ho, hd⟩ => by
    have nch : c ∉ ch := fun z => (hch c z).2.2.1 x c e rfl
    by_cases hc : c ∈ X.fs
    · obtain ⟨sl, q⟩ := slot c o (I.cne x c e) hc nch ho (I.freeC x c e)
      exact ⟨_, q, hd⟩
    · exact ⟨o, keep c o (I.cne x c e) hc nch ho (I.freeC x c e), hd⟩
  refine ⟨I.ok, I.os, hg, ⟨fun b o e n hb hx => ?_, fun b o e n hb hx => ?_, fun b o e n hx => ?_, fun b o e hx => ?_, fun b xs e => tups b xs (I.base.tups b xs e), fun b o xs e => frzs b o xs (I.base.frzs b o xs e), fun b ps e => ?_⟩, ?_, fun x c e => ?_, ?_, fun x c e => ?_, fun p hp => ?_, hok, I.len⟩
  · exact keep b o (neL b o e) hb (neC b o e hx) (I.base.keep b o e n hb hx) (I.base.free b o e n hx)
  · obtain ⟨sl, e1⟩ := I.base.slot b o e n hb hx
    obtain ⟨sl', e2⟩ := slot b _ (neL b o e) hb (neC b o e hx) e1 (I.base.free b o e n hx)
    exact ⟨sl', e2⟩
  · obtain ⟨o', e1⟩ := I.base.there b o e hx
    exact free b o' (neC b o e hx) e1 (I.base.free b o e n hx)
  · obtain ⟨o', e1⟩ := I.base.there b o e hx
    exact there b o' (neC b o e hx) e1
  · obtain ⟨m1, e1⟩ := I.base.tbls b ps e
    obtain ⟨m2, e2⟩ := tbls b _ e1
    exact ⟨m1 ++ m2, by rw [e2, Array.append_assoc]⟩
  · obtain ⟨m, hn, hl⟩ := I.loc
    refine ⟨m, ns m hn, fun i x v e1 e2 e3 => ?_⟩
    obtain ⟨u, r, l⟩ := hl i x v e1 e2 e3
    refine ⟨u, r, ?_⟩
    rcases l with l | ⟨k, c, e, z⟩
    · exact .inl l
    · exact .inr ⟨k, c, e, cellK x c e _ z⟩
  · obtain ⟨v, z⟩ := I.cell x c e
    exact ⟨v, cellK x c e v z⟩
  · obtain ⟨m, ⟨o, _, _, ho, _⟩, _⟩ := I.loc
    exact free _ o (fun z => (hch _ z).2.1 rfl) ho I.free
  · obtain ⟨v, o, ho, hd⟩ := I.cell x c e
    exact free c o (fun z => (hch c z).2.2.1 x c e rfl) ho (I.freeC x c e)
  · obtain ⟨e, n, ne, nf, d⟩ := I.pin p hp
    have nch : p.1 ∉ ch := fun z => (hch p.1 z).2.2.2 p hp rfl
    exact ⟨keep p.1 p.2 ne nf nch e n, free p.1 p.2 nch e n, ne, nf, d⟩
/-- .. where the frame's own object is kept too -/
theorem Inv.un {t' : Nat} (I : Inv X pins σ H s) (u : Un X.fs [] H H' s.heap h') (hok : HOk X.prog X.w H' h') : Inv X pins σ H' { s with heap := h', toks := t' } := by
  obtain ⟨m, ⟨o, es, ep, ho, r⟩, _⟩ := id I.loc
  obtain ⟨sl, hL⟩ := u.any ho I.free (by simp)
  exact I.step (g' := s.gens) (d' := s.drawn) (ch := []) (fun _ z => nomatch z) (fun b o _ hb _ e n => u.keep b o e n hb (by simp)) (fun b o _ hb _ e n => u.slot b o e n hb (by simp)) (fun b o _ e n => u.free b o e n (by simp)) (fun b o _ e => u.there b o e (by simp)) u.tups u.frzs u.tbls (fun m' hm => by
    obtain ⟨o', es', ep', ho', r'⟩ := hm
    rw [ho] at ho'; cases ho'
    exact ⟨_, es', ep', hL, r'⟩) hok I.bare
/-- behind a call (or a comprehension's block): the slots of this frame may have changed too, the records at ch may have turned -/
theorem Inv.call {g' : Array GenState} {t' : Nat} {d' : Drawn} {ch : List Addr} (I : Inv X pins σ H s) (u : Un (frs X.stack) ch H H' s.heap h') (hok : HOk X.prog X.w H' h') (hg : AllBare g')
    (hch : ∀ b ∈ ch, (b ∈ X.ex ∨ X.s₀.heap.objs.size ≤ b) ∧ b ≠ X.env.locals ∧ (∀ x c, X.env.cells.lookup x = some c → c ≠ b) ∧ ∀ p ∈ X.pn ++ pins, p.1 ≠ b) :
    Inv X pins σ H' { s with heap := h', gens := g', drawn := d', toks := t' } := by
  obtain ⟨m, ⟨o, es, ep, ho, r⟩, _⟩ := id I.loc
  obtain ⟨sl, hL⟩ := u.any ho I.free fun z => (hch _ z).2.1 rfl
  exact I.step (ch := ch) hch (fun b o hL hb hc e n => u.keep b o e n (fun z => (List.mem_cons.mp (I.stkSub b z)).elim hL hb) hc) (fun b o _ _ hc e n => u.any e n hc) (fun b o hc e n => u.free b o e n hc) (fun b o hc e => u.there b o e hc) u.tups u.frzs u.tbls (fun m' hm => by
    obtain ⟨o', es', ep', ho', r'⟩ := hm
    rw [ho] at ho'; cases ho'
    exact ⟨_, es', ep', hL, r'⟩) hok hg
/-- an untracked record of ours (an iterator) has turned -/
theorem Inv.turned {t' : Nat} {it : Addr} (I : Inv X pins σ H s) (k : ∀ b o, b ≠ it → s.heap.get? b = some o → h'.get? b = some o) (hn : H it = none) (hL : it ≠ X.env.locals)
    (h1 : it ∈ X.ex ∨ X.s₀.heap.objs.size ≤ it) (h2 : ∀ x c, X.env.cells.lookup x = some c → c ≠ it) (h3 : ∀ p ∈ X.pn ++ pins, p.1 ≠ it) : Inv X pins σ H { s with heap := h', toks := t' } := by
  have nit : ∀ b u, H b = some u → b ≠ it := fun b u e z => by rw [z, hn] at e; cases e
  refine I.step (g' := s.gens) (d' := s.drawn) (ch := [it]) (fun b hb => ?_) (fun b o _ _ hc e _ => k b o (fun z => hc (by simp [z])) e) (fun b o _ _ hc e _ => ⟨o.slots, k b o (fun z => hc (by simp [z])) e⟩) (fun _ _ _ _ n => n)
    (fun b o hc e => ⟨o, k b o (fun z => hc (by simp [z])) e⟩) (fun _ _ e => e) (fun _ _ _ e => e) (fun b ps e => ⟨#[], by rw [e]; simp⟩) (fun m hm => ?_) (fun b u e => ?_) I.bare
  · have e : b = it := by simpa using hb
    subst e
    exact ⟨h1, hL, h2, h3⟩
  · obtain ⟨o, es, ep, ho, r⟩ := hm
    exact ⟨o, es, ep, k _ o (Ne.symm hL) ho, r⟩
  · refine (I.hok b u e).stay (fun c v hc q => k c v ?_ q) (fun _ q => q) fun _ _ q => q
    rcases hc with z | z
    · rw [z]; exact nit b u e
    · exact nit c _ z
theorem Inv.tok (I : Inv X pins σ H s) (t : Nat) : Inv X pins σ H { s with toks := t } := I.un (h' := s.heap) (t' := t) Un.refl I.hok
/-- all objects kept -/
theorem Inv.kept {t' : Nat} (I : Inv X pins σ H s) (k : ∀ b u, s.heap.get? b = some u → h'.get? b = some u) : Inv X pins σ H { s with heap := h', toks := t' } := I.un (Un.kept k) (I.hok.kept k)
/-- a new object laid and tracked -/
theorem Inv.laid {a : Addr} {o : HO} {t' : Nat} (I : Inv X pins σ H s) (k : ∀ b u, s.heap.get? b = some u → h'.get? b = some u) (hp : s.heap.objs.size ≤ a) (new : ObjOk X.prog X.w (upd H a o) h' a o) :
    Inv X pins σ (upd H a o) { s with heap := h', toks := t' } := I.un (Un.laid k hp (I.hok.fresh hp)) (I.hok.laid k hp new)
/-- an object written -/
theorem Inv.write {x e : Addr} {o : HO} {t' : Nat} (I : Inv X pins σ H s) (mu : Mut (H x)) (he : e = x ∨ H e = some (.own x)) (k : ∀ b u, b ≠ e → s.heap.get? b = some u → h'.get? b = some u) (heo : ∃ u, h'.get? e = some u)
    (new : ObjOk X.prog X.w (upd H x o) h' x o) : Inv X pins σ (upd H x o) { s with heap := h', toks := t' } := I.un (Un.write mu he k heo) (I.hok.write mu he k heo new)
theorem Inv.pins_of {pins' : List (Addr × Obj)} (I : Inv X pins σ H s) (h : ∀ p ∈ pins', s.heap.get? p.1 = some p.2 ∧ H p.1 = none ∧ p.1 ≠ X.env.locals ∧ p.1 ∉ X.fs ∧ ∀ v, p.2.data ≠ .cell v) : Inv X pins' σ H s :=
  ⟨I.ok, I.os, I.bare, I.base, I.loc, I.cell, I.free, I.freeC, fun p hp => (List.mem_append.mp hp).elim (fun z => I.pin p (List.mem_append_left _ z)) (h p), I.hok, I.len⟩

theorem nodup_ix {N : List Str} (hN : N.Nodup) {i j : Nat} {x : Str} (a : N[i]? = some x) (b : N[j]? = some x) : i = j := by
  obtain ⟨h1, e1⟩ := List.getElem?_eq_some_iff.mp a
  obtain ⟨h2, e2⟩ := List.getElem?_eq_some_iff.mp b
  exact (List.getElem_inj hN).mp (e1.trans e2.symm)

/-- a name is stored; what changed -/
theorem store_ok2 {M : Model} {A : Around} {E : Value → Shared → Prop} {i : Nat} {x : Str} {v : V} {u : Value} {Q : Unit → Shared → Prop} (I : Inv X pins σ H s) (hN : X.N.Nodup) (hi : X.N[i]? = some x) (hx : Loc X.env.scope x) (r : RelV v u)
    (h : ∀ s', Inv X pins (σ.set i (some v)) H s' → (∃ a, Heap.SameBut a s.heap s'.heap ∧ (a = X.env.locals ∨ X.env.cells.lookup x = some a)) → Q () s') (hf : X.fn x = true ∨ X.env.scope.names.lookup x = some .local := by first | exact .inl rfl | exact .inr rfl | assumption) : wpAny M A (storeName X.env x u) Q E s := by
  obtain ⟨m, hn, hl⟩ := id I.loc
  have hcls : (X.env.scope.kind == .class || (X.env.scope.kind == .module && X.env.locals != X.env.globals)) = false := by rw [I.ok.kind]; rfl
  have hiσ : i < σ.length := by rw [I.len]; exact (List.getElem?_eq_some_iff.mp hi).1
  have cne := I.cne
  have tracked : ∀ {a : Addr} {h' : Heap}, (∃ o, s.heap.get? a = some o ∧ H a = none) → Heap.SameBut a s.heap h' → HOk X.prog X.w H h' := fun {a h'} ha hs b ob e => by
    obtain ⟨_, _, hfree⟩ := ha
    refine (I.hok b ob e).stay (fun c w' hc q => (hs.2 c ?_).trans q) (fun _ q => q) fun _ _ q => q
    rintro rfl
    rcases hc with rfl | hc
    · rw [hfree] at e; cases e
    · rw [hfree] at hc; cases hc
  rcases hx with hk | hk
  · refine wpAny_storeName_local hk hn (fun h' hn' hs => ?_) hcls
    obtain ⟨oL, _, _, hoL, _⟩ := id hn
    refine h _ ⟨I.ok, I.os, I.bare, ⟨fun b o e n hb hx => ?_, fun b o e n hb hx => ?_, I.base.free, fun b o e hx => ?_, I.base.tups, I.base.frzs, I.base.tbls⟩, ⟨_, hn', fun j y v' e1 e2 e3 => ?_⟩, fun y c e => ?_, I.free, I.freeC, fun p hp => ?_, tracked ⟨oL, hoL, I.free⟩ hs, by simpa using I.len⟩ ⟨_, hs, .inl rfl⟩
    · exact (hs.2 b (Nat.ne_of_lt (Nat.lt_of_lt_of_le (Heap.lt_size e) I.ok.above))).trans (I.base.keep b o e n hb hx)
    · obtain ⟨sl, e1⟩ := I.base.slot b o e n hb hx
      exact ⟨sl, (hs.2 b (Nat.ne_of_lt (Nat.lt_of_lt_of_le (Heap.lt_size e) I.ok.above))).trans e1⟩
    · obtain ⟨o', e1⟩ := I.base.there b o e hx
      exact ⟨o', (hs.2 b (Nat.ne_of_lt (Nat.lt_of_lt_of_le (Heap.lt_size e) I.ok.above))).trans e1⟩
    · by_cases hj : j = i
      · subst hj
        rw [hi] at e1; cases e1
        rw [List.getElem?_set_self hiσ] at e2
        cases e2
        exact ⟨u, r, .inl ⟨hk, by simp⟩⟩
      · rw [List.getElem?_set_ne (Ne.symm hj)] at e2
        obtain ⟨u', r', q⟩ := hl j y v' e1 e2 e3
        refine ⟨u', r', ?_⟩
        rcases q with ⟨k, e⟩ | ⟨k, c, e, z⟩
        · refine .inl ⟨k, ?_⟩
          have : y ≠ x := fun e => hj (nodup_ix hN e1 (e ▸ hi))
          simp [this, e]
        · exact .inr ⟨k, c, e, z.sameBut hs (cne y c e)⟩
    · obtain ⟨w', z⟩ := I.cell y c e
      exact ⟨w', z.sameBut hs (cne y c e)⟩
    · obtain ⟨e, n, ne, nf, d⟩ := I.pin p hp
      exact ⟨(hs.2 p.1 ne).trans e, n, ne, nf, d⟩
  · have hfn : X.fn x = true := by
      rcases hf with z | z
      · exact z
      · rw [z] at hk; cases hk
    obtain ⟨c, hc⟩ := I.ok.has x (.inl hk)
    obtain ⟨w', z⟩ := I.cell x c hc
    refine wpAny_storeName_cell I.ok.kind hk hc z (fun h' hc' hs => ?_)
    obtain ⟨oc, hoc, hocd⟩ := id z
    refine h { s with heap := h' } ⟨I.ok, I.os, I.bare, ⟨fun b o e n hb hx => ?_, fun b o e n hb hx => ?_, I.base.free, fun b o e hx => ?_, I.base.tups, I.base.frzs, I.base.tbls⟩, ⟨m, hn.sameBut hs (Ne.symm (cne x c hc)), fun j y v' e1 e2 e3 => ?_⟩, fun y c' e => ?_, I.free, I.freeC, fun p hp => ?_, tracked ⟨oc, hoc, I.freeC x c hc⟩ hs, by simpa using I.len⟩ ⟨c, hs, .inr hc⟩
    · exact (hs.2 b (Nat.ne_of_lt (Nat.lt_of_lt_of_le (Heap.lt_size e) (I.ok.cab x c hfn hc)))).trans (I.base.keep b o e n hb hx)
    · obtain ⟨sl, e1⟩ := I.base.slot b o e n hb hx
      exact ⟨sl, (hs.2 b (Nat.ne_of_lt (Nat.lt_of_lt_of_le (Heap.lt_size e) (I.ok.cab x c hfn hc)))).trans e1⟩
    · obtain ⟨o', e1⟩ := I.base.there b o e hx
      exact ⟨o', (hs.2 b (Nat.ne_of_lt (Nat.lt_of_lt_of_le (Heap.lt_size e) (I.ok.cab x c hfn hc)))).trans e1⟩
    · by_cases hj : j = i
      · subst hj
        rw [hi] at e1; cases e1
        rw [List.getElem?_set_self hiσ] at e2
        cases e2
        exact ⟨u, r, .inr ⟨.inl hk, c, hc, hc'⟩⟩
      · rw [List.getElem?_set_ne (Ne.symm hj)] at e2
        obtain ⟨u', r', q⟩ := hl j y v' e1 e2 e3
        refine ⟨u', r', ?_⟩
        rcases q with q | ⟨k, c', e, z'⟩
        · exact .inl q
        · refine .inr ⟨k, c', e, z'.sameBut hs ?_⟩
          rintro rfl
          exact hj (nodup_ix hN e1 (I.ok.inj _ _ _ e hc ▸ hi))
    · by_cases hcc : c' = c
      · subst hcc; exact ⟨_, hc'⟩
      · obtain ⟨w2, z2⟩ := I.cell y c' e
        exact ⟨w2, z2.sameBut hs hcc⟩
    · obtain ⟨e, n, ne, nf, d⟩ := I.pin p hp
      refine ⟨(hs.2 p.1 ?_).trans e, n, ne, nf, d⟩
      intro q
      rw [q, hoc] at e
      have q' : oc = p.2 := Option.some.inj e
      exact d w' (by rw [← q']; exact hocd)
theorem store_ok {M : Model} {A : Around} {E : Value → Shared → Prop} {i : Nat} {x : Str} {v : V} {u : Value} {Q : Unit → Shared → Prop} (I : Inv X pins σ H s) (hN : X.N.Nodup) (hi : X.N[i]? = some x) (hx : Loc X.env.scope x) (r : RelV v u)
    (h : ∀ s', Inv X pins (σ.set i (some v)) H s' → Q () s') (hf : X.fn x = true ∨ X.env.scope.names.lookup x = some .local := by first | exact .inl rfl | exact .inr rfl | assumption) : wpAny M A (storeName X.env x u) Q E s :=
  store_ok2 I hN hi hx r (fun s' I' _ => h s' I') hf
/-- behind a call or a block, the state as it is -/
theorem Inv.call' {s' : Shared} {ch : List Addr} (I : Inv X pins σ H s) (ho : s'.os = s.os) (u : Un (frs X.stack) ch H H' s.heap s'.heap) (hok : HOk X.prog X.w H' s'.heap) (hg : AllBare s'.gens)
    (hch : ∀ b ∈ ch, (b ∈ X.ex ∨ X.s₀.heap.objs.size ≤ b) ∧ b ≠ X.env.locals ∧ (∀ x c, X.env.cells.lookup x = some c → c ≠ b) ∧ ∀ p ∈ X.pn ++ pins, p.1 ≠ b) : Inv X pins σ H' s' := by
  obtain ⟨h', g', d', t', o'⟩ := s'
  have e : o' = s.os := ho
  subst e
  exact I.call (g' := g') (t' := t') (d' := d') u hok hg hch
end

/-- an exception: its class, its own dict's address (where it has one), the abstract heap behind it -/
abbrev XK := Value → Option Addr → Hp → Prop
abbrev St := List (Option V)
abbrev VK := V → Hp → Prop
/-- an expression's reading; a test's; an argument list's -/
abbrev TE := St → Hp → VK → Prop
abbrev TT := St → Hp → (Bool → Hp → Prop) → Prop
abbrev TA := St → Hp → (List V → Hp → Prop) → Prop
/-- what is wanted behind a statement -/
structure Ends where
  nx : St → Hp → Prop
  rt : VK
  bk : St → Hp → Prop := fun _ _ => False
  ct : St → Hp → Prop := fun _ _ => False
abbrev TS := Ends → St → Hp → Prop

def EP (X : Cx) (pins : List (Addr × Obj)) (σ : St) (Q : VK) (u : Value) (s' : Shared) : Prop := ∃ v H', Inv X pins σ H' s' ∧ RelV v u ∧ Q v H'
def TP (X : Cx) (pins : List (Addr × Obj)) (σ : St) (Q : Bool → Hp → Prop) (b : Bool) (s' : Shared) : Prop := ∃ H', Inv X pins σ H' s' ∧ Q b H'
def AP (X : Cx) (pins : List (Addr × Obj)) (σ : St) (Q : List V → Hp → Prop) (us : List Value) (s' : Shared) : Prop := ∃ vs H', Inv X pins σ H' s' ∧ Vals vs us ∧ Q vs H'
def SP (X : Cx) (pins : List (Addr × Obj)) (D : Ends) (f : Flow) (s' : Shared) : Prop :=
  match f with
  | .next => ∃ σ' H', Inv X pins σ' H' s' ∧ D.nx σ' H'
  | .brk => ∃ σ' H', Inv X pins σ' H' s' ∧ D.bk σ' H'
  | .cont => ∃ σ' H', Inv X pins σ' H' s' ∧ D.ct σ' H'
  | .ret u => ∃ v σ' H', Inv X pins σ' H' s' ∧ RelV v u ∧ D.rt v H'

def PE (X : Cx) (e : Expr) (t : TE) : Prop :=
  ∀ (pins : List (Addr × Obj)) (s : Shared) (σ : St) (H : Hp) (Q : VK), Inv X pins σ H s → t σ H Q → wpAny (model X.prog X.w) X.A (eval e X.env) (EP X pins σ Q) X.xe s
def PT (X : Cx) (e : Expr) (t : TT) : Prop :=
  ∀ (pins : List (Addr × Obj)) (s : Shared) (σ : St) (H : Hp) (Q : Bool → Hp → Prop), Inv X pins σ H s → t σ H Q → wpAny (model X.prog X.w) X.A (isTrue e X.env (eval e X.env)) (TP X pins σ Q) X.xe s
/-- a test whatever its 'whole' is (and, or) -/
def PW (X : Cx) (e : Expr) (t : TT) : Prop :=
  ∀ (whole : Sem Value) (pins : List (Addr × Obj)) (s : Shared) (σ : St) (H : Hp) (Q : Bool → Hp → Prop), Inv X pins σ H s → t σ H Q → wpAny (model X.prog X.w) X.A (isTrue e X.env whole) (TP X pins σ Q) X.xe s
theorem PW.pt {X : Cx} {e : Expr} {t : TT} (h : PW X e t) : PT X e t := h _
/-- an argument list (no star), from the left -/
def PA (X : Cx) (es : List Expr) (t : TA) : Prop :=
  ∀ (pos : Pos) (pins : List (Addr × Obj)) (s : Shared) (σ : St) (H : Hp) (Q : List V → Hp → Prop), Inv X pins σ H s → t σ H Q → wpAny (model X.prog X.w) X.A (spliced (backTo pos (starEach es X.env))) (AP X pins σ Q) X.xe s
def PS (X : Cx) (st : Stmt) (t : TS) : Prop :=
  ∀ (pins : List (Addr × Obj)) (s : Shared) (σ : St) (H : Hp) (D : Ends), Inv X pins σ H s → t D σ H → wpAny (model X.prog X.w) X.A (exec st X.env) (SP X pins D) X.xe s
def PSs (X : Cx) (st : List Stmt) (t : TS) : Prop :=
  ∀ (pins : List (Addr × Obj)) (s : Shared) (σ : St) (H : Hp) (D : Ends), Inv X pins σ H s → t D σ H → wpAny (model X.prog X.w) X.A (execs st X.env) (SP X pins D) X.xe s
/-- weaken the end -/
theorem thn {α : Type} {t : Sem α} {Q Q' : α → Shared → Prop} {M : Model} {A : Around} {E : Value → Shared → Prop} {s : Shared} (h : wpAny M A t Q E s) (hQ : ∀ a s, Q a s → Q' a s) : wpAny M A t Q' E s := wpAny_mono h hQ fun _ _ x => x
end L2

namespace L2
open PySem PySem.Spec PyProof.Rows
section
variable {X : Cx}

def tVar (i : Nat) : TE := fun σ H Q => ∃ v, σ[i]? = some (some v) ∧ Q v H
def tC (v : V) : TE := fun _ H Q => Q v H
theorem pe_var {i : Nat} {x : Str} {pos : Pos} (hN : X.N[i]? = some x) (hv : Vis X.env.scope x) (hd : (x == ("__debug__" : Str)) = false := by decide) (hcd : (x == ("__classdict__" : Str)) = false := by decide) : PE X (.Name x pos) (tVar i) := by
  intro pins s σ H Q I h
  obtain ⟨v, e, h⟩ := h
  obtain ⟨m, hn, hl⟩ := I.loc
  obtain ⟨u, r, l⟩ := hl i x v hN e hv
  have fin : EP X pins σ Q u s := ⟨v, H, I, r, h⟩
  rcases l with ⟨hk, hm⟩ | ⟨hk, c, hc, hcell⟩
  · exact wpAny_Name (wpAny_loadName_local I.ok.kind hk hn hm fin) hd
  · rcases hk with hk | hk
    · exact wpAny_Name (wpAny_loadName_cell I.ok.kind hk hc hcell fin) hd
    · exact wpAny_Name (wpAny_loadName_free I.ok.kind hk hc hcell fin hcd) hd
theorem pe_int {i j pos} : PE X (.Constant (.int i) j pos) (tC (.int i)) := fun _ _ _ H _ I h => wpAny_Constant_int ⟨.int i, H, I.tok _, ⟨_, rfl⟩, h⟩
theorem pe_bl {b j pos} : PE X (.Constant (.bool b) j pos) (tC (.bl b)) := fun _ _ _ H _ I h => Constant_bool ⟨.bl b, H, I, rfl, h⟩
theorem pe_non {j pos} : PE X (.Constant .none j pos) (tC .non) := fun _ _ _ H _ I h => Constant_none ⟨.non, H, I, rfl, h⟩
theorem pe_str {x j pos} : PE X (.Constant (.str x) j pos) (tC (.str x)) := fun _ _ _ H _ I h => Calls.Constant_str ⟨.str x, H, I.tok _, ⟨_, rfl⟩, h⟩

/-- a global name of the def -/
def Gl (X : Cx) (x : Str) : Prop := X.env.kindOf x = some .globalImplicit
theorem ld_glob {E : Value → Shared → Prop} {pins : List (Addr × Obj)} {s : Shared} {σ : St} {H : Hp} {x : Str} {u : Value} {pos : Pos} {Q : Value → Shared → Prop} (I : Inv X pins σ H s) (hg : Gl X x) (hm : X.mg x = some u) (h : Q u s)
    (hd : (x == ("__debug__" : Str)) = false := by decide) : wpAny (model X.prog X.w) X.A (eval (.Name x pos) X.env) Q E s :=
  Calls.Name_function_global I.ok.kind hg (Calls.loadGlobal_global (by rw [I.ok.glob]; exact I.mod.glob.keeps I.bk) hm h) hd
theorem ld_blt {E : Value → Shared → Prop} {pins : List (Addr × Obj)} {s : Shared} {σ : St} {H : Hp} {x : Str} {u : Value} {pos : Pos} {Q : Value → Shared → Prop} (I : Inv X pins σ H s) (hg : Gl X x) (hm : X.mg x = none) (hv : bootBuiltins x = some u) (h : Q u s)
    (hn : x ≠ "__name__" := by decide) (hd : (x == ("__debug__" : Str)) = false := by decide) : wpAny (model X.prog X.w) X.A (eval (.Name x pos) X.env) Q E s := by
  obtain ⟨mb, h1, h2⟩ := I.mod.blt
  exact Calls.Name_function_global I.ok.kind hg (Calls.loadGlobal_builtin (by rw [I.ok.glob]; exact I.mod.glob.keeps I.bk) hm (by rw [I.ok.blt]; exact h1.keeps I.bk) ((h2 x hn).trans hv) h) hd
/-- a module's constant, a class, a function, as a value -/
theorem pe_glob {x : Str} {v : V} {u : Value} {pos : Pos} (hg : Gl X x) (hm : X.mg x = some u) (r : RelV v u) (hd : (x == ("__debug__" : Str)) = false := by decide) : PE X (.Name x pos) (tC v) :=
  fun _ _ _ H _ I h => ld_glob I hg hm ⟨v, H, I, r, h⟩ hd
theorem pe_bltn {x : Str} {v : V} {u : Value} {pos : Pos} (hg : Gl X x) (hm : X.mg x = none) (hv : bootBuiltins x = some u) (r : RelV v u) (hn : x ≠ "__name__" := by decide) (hd : (x == ("__debug__" : Str)) = false := by decide) : PE X (.Name x pos) (tC v) :=
  fun _ _ _ H _ I h => ld_blt I hg hm hv ⟨v, H, I, r, h⟩ hn hd

/-- two ints -/
def t2I (ta tb : TE) (k : Int → Int → Hp → Prop) : St → Hp → Prop := fun σ H => ta σ H fun x H1 => tb σ H1 fun y H2 => ∃ i j, x = .int i ∧ y = .int j ∧ k i j H2
def tAdd (ta tb : TE) : TE := fun σ H Q => t2I ta tb (fun i j H2 => Q (.int (i + j)) H2) σ H
def tSub (ta tb : TE) : TE := fun σ H Q => t2I ta tb (fun i j H2 => Q (.int (i - j)) H2) σ H
/-- the left factor below 2^64 -/
def tMul (ta tb : TE) : TE := fun σ H Q => t2I ta tb (fun i j H2 => (-(2 ^ 64) < i ∧ i < 2 ^ 64) ∧ Q (.int (i * j)) H2) σ H
variable {a b : Expr} {ta tb : TE} {pos : Pos}
def PC (X : Cx) (op : CmpOp) (a b : Expr) (t : TE) : Prop :=
  ∀ (pins : List (Addr × Obj)) (s : Shared) (σ : St) (H : Hp) (Q : VK), Inv X pins σ H s → t σ H Q →
    wpAny (model X.prog X.w) X.A (eval a X.env) (fun v s₁ => wpAny (model X.prog X.w) X.A (eval b X.env) (fun u s₂ => wpAny (model X.prog X.w) X.A (compareOp op v u) (EP X pins σ Q) X.xe s₂) X.xe s₁) X.xe s
def tCmp (p : Int → Int → Bool) (ta tb : TE) : TE := fun σ H Q => t2I ta tb (fun i j H2 => Q (.bl (p i j)) H2) σ H
abbrev tLt : TE → TE → TE := tCmp fun i j => decide (i < j)
abbrev tLe : TE → TE → TE := tCmp fun i j => decide (i ≤ j)
abbrev tGt : TE → TE → TE := tCmp fun i j => decide (j < i)
abbrev tGe : TE → TE → TE := tCmp fun i j => decide (j ≤ i)
abbrev tEqI : TE → TE → TE := tCmp fun i j => decide (i = j)
abbrev tNeI : TE → TE → TE := tCmp fun i j => !decide (i = j)
/-- is None -/
def tIsN (ta : TE) : TE := fun σ H Q => ta σ H fun x H1 => Q (.bl (decide (x = .non))) H1
def tNotN (ta : TE) : TE := fun σ H Q => ta σ H fun x H1 => Q (.bl (!decide (x = .non))) H1
/-- a comparison as a value, as a test -/
def tB (t : TE) : TT := fun σ H Q => t σ H fun x H1 => ∃ c, x = .bl c ∧ Q c H1
/-- an expression whose value is a bool, as a test -/
theorem pt_val {e : Expr} {t : TE} (h : PE X e t) (he : ∀ whole, isTrue e X.env whole = (do let v ← whole; standAt e.pos; holding [v] (truthy v)) := by intro _; rfl) : PT X e (tB t) := by
  intro pins s σ H Q I hw
  refine isTrue_plain (thn (h pins s σ H _ I hw) fun v s1 ⟨x, H1, I1, r1, q1⟩ => ?_) (he _)
  obtain ⟨d, rfl, q⟩ := q1
  cases r1
  exact wpAny_truthy_bool ⟨H1, I1, q⟩

variable {tA tB' : TT} {rest : List Expr}
def tAnd (t u : TT) : TT := fun σ H Q => t σ H fun c H1 => if c = true then u σ H1 Q else Q false H1
def tOr (t u : TT) : TT := fun σ H Q => t σ H fun c H1 => if c = true then Q true H1 else u σ H1 Q
def tNot (t : TT) : TT := fun σ H Q => t σ H fun c H1 => Q (!c) H1
theorem pw_or1 (ha : PT X a tA) : PW X (.BoolOp .Or [a] pos) tA := by
  intro wh pins s σ H Q I h
  refine isTrue_or (thn (ha pins s σ H Q I h) fun c s1 e => ?_)
  cases c with
  | false => exact isTrue_or_nil e
  | true => exact e
theorem pw_or (ha : PT X a tA) (hb : PW X (.BoolOp .Or (b :: rest) pos) tB') : PW X (.BoolOp .Or (a :: b :: rest) pos) (tOr tA tB') := by
  intro wh pins s σ H Q I h
  refine isTrue_or (thn (ha pins s σ H _ I h) fun c s1 ⟨H1, I1, q1⟩ => ?_)
  cases c with
  | true => exact ⟨H1, I1, q1⟩
  | false => exact hb wh pins s1 σ H1 Q I1 q1
theorem pt_not (ha : PT X a tA) : PT X (.UnaryOp .Not a pos) (tNot tA) := by
  intro pins s σ H Q I h
  exact isTrue_not (ha pins s σ H (fun c H1 => Q (!c) H1) I h)
/-- .. as values (bools) -/
def tAndV (ta tb : TE) : TE := fun σ H Q => ta σ H fun x H1 => ∃ c, x = .bl c ∧ if c = true then tb σ H1 Q else Q (.bl false) H1
def tOrV (ta tb : TE) : TE := fun σ H Q => ta σ H fun x H1 => ∃ c, x = .bl c ∧ if c = true then Q (.bl true) H1 else tb σ H1 Q
def tNotV (ta : TE) : TE := fun σ H Q => ta σ H fun x H1 => ∃ c, x = .bl c ∧ Q (.bl (!c)) H1
theorem pe_one {op} {t : TE} (h : PE X a t) : PE X (.BoolOp op [a] pos) t := fun pins s σ H Q I hw => BoolOp_one (h pins s σ H Q I hw)
theorem pe_and (ha : PE X a ta) (hb : PE X (.BoolOp .And (b :: rest) pos) tb) : PE X (.BoolOp .And (a :: b :: rest) pos) (tAndV ta tb) := by
  intro pins s σ H Q I h
  refine BoolOp_and (thn (ha pins s σ H _ I h) fun v s1 ⟨x, H1, I1, r1, q1⟩ => ?_)
  obtain ⟨c, rfl, q1⟩ := q1
  cases r1
  refine wpAny_truthy_bool ?_
  cases c with
  | true => exact hb pins s1 σ H1 Q I1 q1
  | false => exact ⟨.bl false, H1, I1, rfl, q1⟩
theorem pe_not (ha : PE X a ta) : PE X (.UnaryOp .Not a pos) (tNotV ta) := by
  intro pins s σ H Q I h
  refine UnaryOp_ (thn (ha pins s σ H _ I h) fun v s1 ⟨x, H1, I1, r1, q1⟩ => ?_)
  obtain ⟨c, rfl, q1⟩ := q1
  cases r1
  exact not_of (wpAny_truthy_bool ⟨.bl (!c), H1, I1, rfl, q1⟩)
/-- a if t else b -/
def tIf (t : TT) (ta tb : TE) : TE := fun σ H Q => t σ H fun c H1 => if c = true then ta σ H1 Q else tb σ H1 Q
theorem pe_ifExp {c : Expr} (hc : PT X c tA) (ha : PE X a ta) (hb : PE X b tb) : PE X (.IfExp c a b pos) (tIf tA ta tb) := by
  intro pins s σ H Q I h
  refine wpAny_IfExp (thn (hc pins s σ H _ I h) fun d s1 ⟨H1, I1, q1⟩ => ?_)
  cases d with
  | true => exact ha pins s1 σ H1 Q I1 q1
  | false => exact hb pins s1 σ H1 Q I1 q1
end
end L2

namespace L2
open PySem PySem.Spec PyProof.Rows

def SqL (K : PySem.W.Frag) (H : Hp) (a : Addr) (xs : List V) : Prop :=
  Rd H a (.lst xs) ∨
    ∃ (o : Obj) (its : Array Value) (n : Nat), K.lookup a = some o ∧ o.cls = .type "list" ∧ o.dict = none ∧ o.data = .seq its n ∧ its.size ≤ sizeLine ∧ Vals xs its.toList
def SqT (K : PySem.W.Frag) (H : Hp) (a : Addr) (xs : List V) : Prop :=
  Rd H a (.tup xs) ∨
    ∃ (o : Obj) (its : Array Value) (n : Nat), K.lookup a = some o ∧ o.cls = .type "tuple" ∧ o.data = .seq its n ∧ its.size ≤ sizeLine ∧ Vals xs its.toList
def absV : Value → Option V
  | .none => some .non
  | .bool b => some (.bl b)
  | .int i _ => some (.int i)
  | .str x _ => some (.str x)
  | .bytes b _ => some (.byt b)
  | .float b _ => some (.flt b)
  | .ref a => some (.ref a)
  | .type n => some (.ty n)
  | _ => none
theorem RelV.abs {x : V} {u : Value} (r : RelV x u) : absV u = some x := by
  cases x with
  | non => cases r; rfl
  | bl _ => cases r; rfl
  | int _ => obtain ⟨t, rfl⟩ := r; rfl
  | str _ => obtain ⟨t, rfl⟩ := r; rfl
  | byt _ => obtain ⟨t, rfl⟩ := r; rfl
  | flt _ => obtain ⟨t, rfl⟩ := r; rfl
  | ref _ => cases r; rfl
  | ty _ => cases r; rfl
theorem RelV.inj {x y : V} {u : Value} (r : RelV x u) (q : RelV y u) : x = y := Option.some.inj (r.abs.symm.trans q.abs)
theorem Vals.inj : ∀ {xs ys : List V} {us : List Value}, Vals xs us → Vals ys us → xs = ys
  | _, _, _, .nil, .nil => rfl
  | _, _, _, .cons r t, .cons r' t' => by rw [r.inj r', Vals.inj t t']
section
variable {X : Cx} {pins : List (Addr × Obj)} {σ : St} {H : Hp} {s : Shared} {a : Addr} {xs ys : List V}
theorem SqL.of {K : PySem.W.Frag} (h : H a = some (.lst xs)) : SqL K H a xs := .inl (.inl h)
theorem SqT.of {K : PySem.W.Frag} (h : H a = some (.tup xs)) : SqT K H a xs := .inl (.inl h)
theorem Inv.list (I : Inv X pins σ H s) (h : SqL X.K H a xs) : ∃ its : List Value, Vals xs its ∧ PlainL s.heap a its.toArray ∧ xs.length ≤ sizeLine := by
  rcases h with h | ⟨o, its, n, hk, hc, hd, hs, hz, r⟩
  · obtain ⟨z, its, n, r, e⟩ := h.ok I.hok
    exact ⟨its, r, ⟨_, n, e, rfl, rfl, rfl⟩, z⟩
  · refine ⟨its.toList, r, ⟨o, n, I.kIn a o hk, hc, hd, by simpa using hs⟩, ?_⟩
    have e := r.length
    simp only [Array.length_toList] at e
    omega
theorem Inv.tuple (I : Inv X pins σ H s) (h : SqT X.K H a xs) : ∃ its : List Value, Vals xs its ∧ IsTup s.heap a its.toArray ∧ xs.length ≤ sizeLine := by
  rcases h with h | ⟨o, its, n, hk, hc, hs, hz, r⟩
  · obtain ⟨z, its, r, p⟩ := h.ok I.hok
    exact ⟨its, r, p, z⟩
  · refine ⟨its.toList, r, ⟨o, I.kIn a o hk, hc, n, by simpa using hs⟩, ?_⟩
    have e := r.length
    simp only [Array.length_toList] at e
    omega
end

abbrev Cx.wish (X : Cx) (E : Value → Shared → Prop) : Cx := { X with xe := E }
/-- no exception leaves -/
abbrev Cx.nox (X : Cx) : Cx := X.wish fun _ _ => False
theorem Cx.Ok.wish {X : Cx} (ok : X.Ok) (E : Value → Shared → Prop) : (X.wish E).Ok :=
  ⟨ok.mod, ok.kind, ok.glob, ok.blt, ok.above, ok.inj, ok.has, ok.cab, ok.hd, ok.frames, ok.stk, ok.exf, ok.bs, ok.bsz, ok.noex, ok.exfs, ok.funs, ok.frf⟩
theorem Cx.Ok.unwish {X : Cx} {E : Value → Shared → Prop} (ok : (X.wish E).Ok) : X.Ok :=
  ⟨ok.mod, ok.kind, ok.glob, ok.blt, ok.above, ok.inj, ok.has, ok.cab, ok.hd, ok.frames, ok.stk, ok.exf, ok.bs, ok.bsz, ok.noex, ok.exfs, ok.funs, ok.frf⟩
section
variable {X : Cx} {pins : List (Addr × Obj)} {σ : St} {H : Hp} {s : Shared} {E : Value → Shared → Prop}
theorem Inv.wish (I : Inv X pins σ H s) (E : Value → Shared → Prop) : Inv (X.wish E) pins σ H s := ⟨I.ok.wish E, I.os, I.bare, I.base, I.loc, I.cell, I.free, I.freeC, I.pin, I.hok, I.len⟩
theorem Inv.unwish (I : Inv (X.wish E) pins σ H s) : Inv X pins σ H s := ⟨I.ok.unwish, I.os, I.bare, I.base, I.loc, I.cell, I.free, I.freeC, I.pin, I.hok, I.len⟩
theorem SP.unwish {D : Ends} {f : Flow} {s' : Shared} (h : SP (X.wish E) pins D f s') : SP X pins D f s' := by
  cases f with
  | next => obtain ⟨σ', H', I, q⟩ := h; exact ⟨σ', H', I.unwish, q⟩
  | brk => obtain ⟨σ', H', I, q⟩ := h; exact ⟨σ', H', I.unwish, q⟩
  | cont => obtain ⟨σ', H', I, q⟩ := h; exact ⟨σ', H', I.unwish, q⟩
  | ret u => obtain ⟨v, σ', H', I, r, q⟩ := h; exact ⟨v, σ', H', I.unwish, r, q⟩
theorem PE.nox {e : Expr} {t : TE} (h : PE X.nox e t) : PE X e t := fun pins s σ H Q I hw =>
  wpAny_mono (h pins s σ H Q (I.wish _) hw) (fun _ _ ⟨v, H', I', r, q⟩ => ⟨v, H', I'.unwish, r, q⟩) fun _ _ z => False.elim z
theorem PT.nox {e : Expr} {t : TT} (h : PT X.nox e t) : PT X e t := fun pins s σ H Q I hw =>
  wpAny_mono (h pins s σ H Q (I.wish _) hw) (fun _ _ ⟨H', I', q⟩ => ⟨H', I'.unwish, q⟩) fun _ _ z => False.elim z
theorem PSs.nox {st : List Stmt} {t : TS} (h : PSs X.nox st t) : PSs X st t := fun pins s σ H D I hw =>
  wpAny_mono (h pins s σ H D (I.wish _) hw) (fun _ _ q => q.unwish) fun _ _ z => False.elim z
end

section
variable {X : Cx} {st : Stmt} {rest : List Stmt} {t u : TS} {e : Expr} {te : TE} {pos : Pos}
def tNext : TS := fun D σ H => D.nx σ H
def tSeq (t u : TS) : TS := fun D σ H => t { D with nx := u D } σ H
theorem pss_nil : PSs X [] tNext := fun _ _ σ H _ I h => wpAny_execs_nil ⟨σ, H, I, h⟩
theorem pss_cons (h1 : PS X st t) (h2 : PSs X rest u) : PSs X (st :: rest) (tSeq t u) := by
  intro pins s σ H D I h
  refine wpAny_execs_cons (thn (h1 pins s σ H { D with nx := u D } I h) fun f s1 q => ?_)
  cases f with
  | next =>
    obtain ⟨σ', H', I', q⟩ := q
    exact h2 pins s1 σ' H' D I' q
  | ret v => exact q
  | brk => exact q
  | cont => exact q
theorem pss_one (h1 : PS X st t) : PSs X [st] t := by
  intro pins s σ H D I h
  refine wpAny_execs_cons (thn (h1 pins s σ H D I h) fun f s1 q => ?_)
  cases f with
  | next => exact wpAny_execs_nil q
  | ret v => exact q
  | brk => exact q
  | cont => exact q
def tBreak : TS := fun D σ H => D.bk σ H
def tCont : TS := fun D σ H => D.ct σ H
/-- in a def's body nothing is shown -/
theorem Inv.quiet {pins : List (Addr × Obj)} {σ : St} {H : Hp} {s : Shared} (I : Inv X pins σ H s) : interactive X.env = false := by simp [interactive, I.ok.kind]
/-- an expression whose value is dropped -/
def tDrop (te : TE) : TS := fun D σ H => te σ H fun _ H1 => D.nx σ H1
theorem ps_expr (he : PE X e te) (hs : swapsWith e none pos.line X.env = pure false := by rfl) : PS X (.Expr e pos) (tDrop te) := by
  intro pins s σ H D I h
  exact wpAny_Expr_any (thn (he pins s σ H _ I h) fun v s1 ⟨x, H1, I1, r1, q1⟩ => ⟨σ, H1, I1, q1⟩) I.quiet hs
def tRet (te : TE) : TS := fun D σ H => te σ H D.rt
theorem ps_ret (he : PE X e te) : PS X (.Return (some e) pos) (tRet te) := by
  intro pins s σ H D I h
  exact wpAny_Return_some (thn (he pins s σ H _ I h) fun v s1 ⟨x, H1, I1, r1, q1⟩ => ⟨x, σ, H1, I1, r1, q1⟩)
def tRetN : TS := fun D _ H => D.rt .non H
def tIfS (c : TT) (t u : TS) : TS := fun D σ H => c σ H fun b H1 => if b = true then t D σ H1 else u D σ H1
theorem ps_if {c : Expr} {a b : List Stmt} {tc : TT} (hc : PT X c tc) (ha : PSs X a t) (hb : PSs X b u) : PS X (.If c a b pos) (tIfS tc t u) := by
  intro pins s σ H D I h
  refine wpAny_If (thn (hc pins s σ H _ I h) fun d s1 ⟨H1, I1, q1⟩ => ?_)
  cases d with
  | true => exact ha pins s1 σ H1 D I1 q1
  | false => exact hb pins s1 σ H1 D I1 q1
/-- code that the proof never comes to -/
def tNever : TS := fun _ _ _ => False
theorem ps_never : PS X st tNever := fun _ _ _ _ _ _ h => h.elim
end

abbrev TG := V → St → Hp → (St → Hp → Prop) → Prop
abbrev TGs := List V → St → Hp → (St → Hp → Prop) → Prop
def PG (X : Cx) (target : Expr) (t : TG) : Prop :=
  ∀ (pins : List (Addr × Obj)) (s : Shared) (σ : St) (H : Hp) (v : V) (u : Value) (Q : St → Hp → Prop), Inv X pins σ H s → RelV v u → t v σ H Q →
    wpAny (model X.prog X.w) X.A (assign target X.env u) (fun _ s' => ∃ σ' H', Inv X pins σ' H' s' ∧ Q σ' H') X.xe s
/-- several targets, one after another -/
def PGs (X : Cx) (ts : List Expr) (t : TGs) : Prop :=
  ∀ (pins : List (Addr × Obj)) (s : Shared) (σ : St) (H : Hp) (vs : List V) (us : List Value) (Q : St → Hp → Prop), Inv X pins σ H s → Vals vs us → t vs σ H Q →
    wpAny (model X.prog X.w) X.A (assignInOrder ((assignEach ts X.env).map (·.2)) us) (fun _ s' => ∃ σ' H', Inv X pins σ' H' s' ∧ Q σ' H') X.xe s
/-- o[i] = v, by values -/
abbrev TSet := V → V → V → Hp → (Hp → Prop) → Prop
def PSet (X : Cx) (t : TSet) : Prop :=
  ∀ (pins : List (Addr × Obj)) (s : Shared) (σ : St) (H : Hp) (o i v : V) (ov iv u : Value) (Q : Hp → Prop), Inv X pins σ H s → RelV o ov → RelV i iv → RelV v u → t o i v H Q →
    wpAny (model X.prog X.w) X.A (setItem ov iv u) (fun _ s' => ∃ H', Inv X pins σ H' s' ∧ Q H') X.xe s
/-- a op= b, by values -/
abbrev TIp := V → V → Hp → VK → Prop
def PIp (X : Cx) (op : Operator) (t : TIp) : Prop :=
  ∀ (pins : List (Addr × Obj)) (s : Shared) (σ : St) (H : Hp) (x y : V) (v u : Value) (Q : VK), Inv X pins σ H s → RelV x v → RelV y u → t x y H Q →
    wpAny (model X.prog X.w) X.A (inplaceOp op v u) (EP X pins σ Q) X.xe s
section
variable {X : Cx} {pos : Pos}
def gName (i : Nat) : TG := fun v σ H Q => Q (σ.set i (some v)) H
theorem pg_name {i : Nat} {x : Str} (hN : X.N.Nodup) (hi : X.N[i]? = some x) (hx : Loc X.env.scope x) (hf : X.fn x = true ∨ X.env.scope.names.lookup x = some .local := by first | exact .inl rfl | exact .inr rfl | assumption) : PG X (.Name x pos) (gName i) := by
  intro pins s σ H v u Q I r h
  exact wpAny_assign_Name (store_ok I hN hi hx r (fun s' I' => ⟨_, H, I', h⟩) hf)
def gNil : TGs := fun vs σ H Q => vs = [] ∧ Q σ H
def gCons (t : TG) (u : TGs) : TGs := fun vs σ H Q => ∃ v r, vs = v :: r ∧ t v σ H fun σ' H' => u r σ' H' Q
/-- (a, b, ..) = a tuple of that length -/
def gTup (K : PySem.W.Frag) (n : Nat) (t : TGs) : TG := fun v σ H Q => ∃ a xs, v = .ref a ∧ SqT K H a xs ∧ xs.length = n ∧ t xs σ H Q
/-- o[i] = .. -/
def gSub (to ti : TE) (t : TSet) : TG := fun v σ H Q => to σ H fun o H1 => ti σ H1 fun i H2 => t o i v H2 fun H3 => Q σ H3
/-- target = value -/
def tAsg (te : TE) (g : TG) : TS := fun D σ H => te σ H fun x H1 => g x σ H1 D.nx
/-- name = value -/
theorem ps_set {i : Nat} {x : Str} {e : Expr} {te : TE} {pos' : Pos} (hN : X.N.Nodup) (hi : X.N[i]? = some x) (hx : Loc X.env.scope x) (he : PE X e te) (hs : swapsWith e (some (.Name x pos')) pos.line X.env = pure false := by rfl) (hf : X.fn x = true ∨ X.env.scope.names.lookup x = some .local := by first | exact .inl rfl | exact .inr rfl | assumption) :
    PS X (.Assign [.Name x pos'] e pos) (tAsg te (gName i)) := by
  intro pins s σ H D I h
  refine wpAny_Assign_Name (thn (he pins s σ H _ I h) fun v s1 ⟨y, H1, I1, r1, q1⟩ => ?_) hs
  exact store_ok I1 hN hi hx r1 (fun s2 I2 => ⟨_, H1, I2, q1⟩) hf
/-- a, b = x, y with plain local names: stored from the right; the pair itself is not tracked (the opening rows as in PyProof/Rows/TupAssign.lean:23) -/
def tPar (i j : Nat) (ta : TA) : TS := fun D σ H => ta σ H fun vs H1 => ∃ v w, vs = [v, w] ∧ D.nx ((σ.set i (some v)).set j (some w)) H1
/-- name op= e -/
def tAug (i : Nat) (te : TE) (ti : TIp) : TS := fun D σ H => ∃ x, σ[i]? = some (some x) ∧ te σ H fun y H1 => ti x y H1 fun z H2 => D.nx (σ.set i (some z)) H2
/-- o[i] op= e -/
def tAugS (to ti te : TE) (tget : V → V → Hp → VK → Prop) (tip : TIp) (tset : TSet) : TS := fun D σ H => to σ H fun o H1 => ti σ H1 fun i H2 => tget o i H2 fun x H3 => te σ H3 fun y H4 => tip x y H4 fun z H5 => tset o i z H5 fun H6 => D.nx σ H6
/-- o[i], by values -/
def PGet (X : Cx) (t : V → V → Hp → VK → Prop) : Prop :=
  ∀ (pins : List (Addr × Obj)) (s : Shared) (σ : St) (H : Hp) (o i : V) (ov iv : Value) (Q : VK), Inv X pins σ H s → RelV o ov → RelV i iv → t o i H Q →
    wpAny (model X.prog X.w) X.A (getItem ov iv) (EP X pins σ Q) X.xe s
/-- ints -/
def ipI (f : Int → Int → Int) : TIp := fun x y H Q => ∃ i j, x = .int i ∧ y = .int j ∧ Q (.int (f i j)) H
end

section
variable {X : Cx} {pos : Pos}
/-- the invariant W with its measure -/
def tWhile (c : TT) (tb : TS) : TS := fun D σ H => ∃ W : Nat → St → Hp → Prop, (∃ m, W m σ H) ∧ ∀ m σ H, W m σ H →
  c σ H fun b H1 => if b = true then ∃ N : St → Hp → Prop, (∀ σ' H', N σ' H' → ∃ m', m' < m ∧ W m' σ' H') ∧ tb { D with nx := N, ct := N, bk := D.nx } σ H1 else D.nx σ H1
theorem ps_while {c : Expr} {body : List Stmt} {tc : TT} {tb : TS} (hp : PassesOwn (model X.prog X.w) X.A X.env X.xe) (hc : PT X c tc) (hb : PSs X body tb) : PS X (.While c body [] pos) (tWhile tc tb) := by
  intro pins s σ H D I h
  obtain ⟨W, ⟨m0, w0⟩, turn⟩ := h
  refine wpAny_While (codeAny_whileLoop (fun n s' => ∃ σ' H', Inv X pins σ' H' s' ∧ W n σ' H') ?_ m0 ⟨σ, H, I, w0⟩)
  rintro n s1 ⟨σ1, H1, I1, w1⟩
  refine wpAny_passesOwn hp (thn (hc pins s1 σ1 H1 _ I1 (turn n σ1 H1 w1)) fun b s2 ⟨H2, I2, q2⟩ => ?_)
  cases b with
  | true =>
    obtain ⟨N, hN, q2⟩ := q2
    rw [if_pos rfl]
    refine wpAny_passesOwn hp (thn (hb pins s2 σ1 H2 _ I2 q2) fun f s3 q3 => ?_)
    cases f with
    | next =>
      obtain ⟨σ3, H3, I3, n3⟩ := q3
      obtain ⟨m', hm, w3⟩ := hN σ3 H3 n3
      exact ⟨m', hm, σ3, H3, I3, w3⟩
    | cont =>
      obtain ⟨σ3, H3, I3, n3⟩ := q3
      obtain ⟨m', hm, w3⟩ := hN σ3 H3 n3
      exact ⟨m', hm, σ3, H3, I3, w3⟩
    | brk => exact q3
    | ret v => exact q3
  | false =>
    rw [if_neg Bool.false_ne_true]
    exact wpAny_execs_nil ⟨σ1, H2, I2, q2⟩
end

/-- at turn i: it yields x (the heap may grow), or it stops -/
structure It where
  go : Nat → Hp → Prop
  yld : Nat → Hp → V → Hp → Prop
  stop : Nat → Hp → Prop
/-- the iterator's own objects may turn: they are not the frame's, not pinned, younger than the entry (or a comprehension's own) -/
def FpOk (X : Cx) (pins : List (Addr × Obj)) (H : Hp) (b : Addr) : Prop :=
  H b = none ∧ b ≠ X.env.locals ∧ b ∉ X.fs ∧ (b ∈ X.ex ∨ X.s₀.heap.objs.size ≤ b) ∧ (∀ x c, X.env.cells.lookup x = some c → c ≠ b) ∧ ∀ p ∈ X.pn ++ pins, p.1 ≠ b
theorem Inv.fpOk {X : Cx} {pins : List (Addr × Obj)} {σ : St} {H H' : Hp} {s : Shared} {b : Addr} (I : Inv X pins σ H s) (hb : s.heap.objs.size ≤ b) (hn : H' b = none) : FpOk X pins H' b := by
  refine ⟨hn, Nat.ne_of_gt (Nat.lt_of_lt_of_le I.lt hb), I.nofs hb, .inr (Nat.le_trans I.sz hb), fun x c e z => ?_, fun p hp z => ?_⟩
  · obtain ⟨v, q⟩ := I.cell x c e
    exact absurd (Nat.lt_of_lt_of_le q.lt (by rw [z]; exact hb)) (Nat.lt_irrefl _)
  · exact absurd (Nat.lt_of_lt_of_le (Heap.lt_size (I.pin p hp).1) (by rw [z]; exact hb)) (Nat.lt_irrefl _)
structure Turn (P : Program) (w : World) (K : PySem.W.Frag) (tg : Expr) (J : It) (fp : List Addr) (it : Addr) (tn : Nat → Heap → Prop) : Prop where
  mem : it ∈ fp
  obj : ∀ i h, tn i h → ∀ b ∈ fp, ∃ o, h.get? b = some o ∧ ∀ v, o.data ≠ .cell v
  keep : ∀ i h h', tn i h → (∀ b ∈ fp, ∀ o, h.get? b = some o → h'.get? b = some o) → tn i h'
  item : ∀ (X : Cx), X.prog = P → X.w = w → X.K = K → X.calm = true → ∀ (i : Nat) (pins : List (Addr × Obj)) (s : Shared) (σ : St) (H : Hp) (E : Value → Shared → Prop), Inv X pins σ H s → (∀ b ∈ fp, FpOk X pins H b) → tn i s.heap → J.go i H →
    wpAny (model P w) X.A (pyNext (.ref it)) (fun r s1 => ∃ u, r = some u ∧
      wpAny (model P w) X.A (letOwnedTupleGo tg (.ref it) u) (fun _ s2 => ∃ x H', Inv X pins σ H' s2 ∧ RelV x u ∧ J.yld i H x H' ∧ tn (i + 1) s2.heap ∧ ∀ b ∈ fp, H' b = none) E s1) E s
  done : ∀ (X : Cx), X.prog = P → X.w = w → X.K = K → X.calm = true → ∀ (i : Nat) (pins : List (Addr × Obj)) (s : Shared) (σ : St) (H : Hp) (E : Value → Shared → Prop), Inv X pins σ H s → (∀ b ∈ fp, FpOk X pins H b) → tn i s.heap → J.stop i H →
    wpAny (model P w) X.A (pyNext (.ref it)) (fun r s1 => r = none ∧ Inv X pins σ H s1) E s
  self : ∀ (A : Around) (i : Nat) (s : Shared) (Q : Value → Shared → Prop) (E : Value → Shared → Prop), tn i s.heap → Q (.ref it) s → wpAny (model P w) A (pyIter (.ref it)) Q E s
abbrev TI := St → Hp → (It → Hp → Prop) → Prop
/-- an iterator has come -/
def PIE (X : Cx) (pins : List (Addr × Obj)) (σ : St) (tg : Expr) (R : It → Hp → Prop) (itv : Value) (s2 : Shared) : Prop :=
  ∃ (it : Addr) (fp : List Addr) (tn : Nat → Heap → Prop) (J : It) (H' : Hp), itv = .ref it ∧ Inv X pins σ H' s2 ∧ Turn X.prog X.w X.K tg J fp it tn ∧ tn 0 s2.heap ∧ (∀ b ∈ fp, FpOk X pins H' b) ∧ R J H'
def PI (X : Cx) (tg iter : Expr) (wi : TI) : Prop :=
  ∀ (pins : List (Addr × Obj)) (s : Shared) (σ : St) (H : Hp) (R : It → Hp → Prop), Inv X pins σ H s → wi σ H R →
    wpAny (model X.prog X.w) X.A (eval iter X.env) (fun v s1 => wpAny (model X.prog X.w) X.A (pyIter v) (PIE X pins σ tg R) X.xe s1) X.xe s

/-- the step ahead of the store is nothing for an iterator that keeps no tuple -/
theorem go_of {M : Model} {A : Around} {E : Value → Shared → Prop} {s : Shared} {tg : Expr} {it : Addr} {u : Value} {o : Obj} {n : String} {vs : Array Value} {Q : Unit → Shared → Prop} (ho : s.heap.get? it = some o) (hc : o.cls = .type n) (hd : o.data = .fields vs)
    (hn : ["enumerate", "zip", "dict_itemiterator", "dict_reverseitemiterator", "odict_iterator", "itertools.zip_longest", "itertools.pairwise"].contains n = false) (hQ : Q () s) : wpAny M A (letOwnedTupleGo tg (.ref it) u) Q E s := by
  unfold letOwnedTupleGo
  cases tg <;> first
    | exact wpAny_pure hQ
    | (cases u <;> first
        | exact wpAny_pure hQ
        | (refine wpAny_bind (wpAny_load ho ?_)
           rw [hc, hd]
           show wpAny M A (if (["enumerate", "zip", "dict_itemiterator", "dict_reverseitemiterator", "odict_iterator", "itertools.zip_longest", "itertools.pairwise"].contains n && vs[0]? == some (rawInt _)) = true then _ else _) Q E s
           rw [if_neg (by intro h; rw [hn, Bool.false_and] at h; cases h)]
           exact wpAny_pure hQ))

/-- the list at a, as it stands at each turn (a loop may append to it) -/
def Itl (K : PySem.W.Frag) (a : Addr) : It :=
  ⟨fun i H => ∃ xs x, SqL K H a xs ∧ xs[i]? = some x, fun i H x H' => H' = H ∧ ∀ xs, SqL K H a xs → xs[i]? = some x, fun i H => ∃ xs, SqL K H a xs ∧ xs.length ≤ i⟩
def Itt (K : PySem.W.Frag) (a : Addr) : It :=
  ⟨fun i H => ∃ xs x, SqT K H a xs ∧ xs[i]? = some x, fun i H x H' => H' = H ∧ ∀ xs, SqT K H a xs → xs[i]? = some x, fun i H => ∃ xs, SqT K H a xs ∧ xs.length ≤ i⟩
/-- lo, lo + 1, .. (n of them) -/
def Itr (lo : Int) (n : Nat) : It := ⟨fun i _ => i < n, fun i H x H' => H' = H ∧ x = .int (lo + i), fun i _ => n ≤ i⟩
theorem turn_range {P : Program} {w : World} {K : PySem.W.Frag} {tg : Expr} (it : Addr) (lo : Int) (n : Nat) : Turn P w K tg (Itr lo n) [it] it (fun i h => IsRangeIter h it (lo + (i : Nat) * 1) ((n : Int) - (i : Nat)) 1) where
  mem := by simp
  obj := fun i h st b hb => by
    have e : b = it := by simpa using hb
    subst e
    exact ⟨_, st, fun v z => by
      have z' : Data.fields _ = Data.cell v := z
      cases z'⟩
  keep := fun i h h' st k => k it (by simp) _ st
  item := by
    intro X hP hw hK hc i pins s σ H E I hf st hg
    subst hP hw hK
    obtain ⟨f0, f1, f2, f3, f4, f5⟩ := hf it (by simp)
    have W := Walks.range (prog := X.prog) (w := X.w) (I.ok.hd hc) it lo 1 n
    refine W.item i s _ _ hg st fun v h' tk hv st' kk => ?_
    obtain ⟨t, rfl⟩ := hv
    have I1 : Inv X pins σ H { s with heap := h', toks := tk } := I.turned (fun b o hb e => kk b o (by simpa using hb) e) f0 f1 f3 f4 f5
    refine ⟨_, rfl, go_of (s := { s with heap := h', toks := tk }) (n := "range_iterator") st' rfl rfl (by decide) ⟨.int (lo + i), H, I1, ⟨t, ?_⟩, ⟨rfl, rfl⟩, st', fun b hb => (hf b hb).1⟩⟩
    rw [Int.mul_one]
  done := by
    intro X hP hw hK hc i pins s σ H E I hf st hg
    subst hP hw hK
    obtain ⟨f0, f1, f2, f3, f4, f5⟩ := hf it (by simp)
    exact wpAny_pyNext_range_end (I.ok.hd hc) st (by have : n ≤ i := hg; omega) fun h' eb => ⟨rfl, I.turned (t' := s.toks) (fun b o hb e => eb b o hb e) f0 f1 f3 f4 f5⟩
  self := fun _ _ _ _ _ st h => wpAny_pyIter_rangeiter st h
end L2

namespace L2
open PySem PySem.Spec PyProof.Rows
section
variable {X : Cx} {tg : Expr}
def iList (K : PySem.W.Frag) (tl : TE) : TI := fun σ H R => tl σ H fun x H1 => ∃ a, x = .ref a ∧ (∃ xs, SqL K H1 a xs) ∧ R (Itl K a) H1
def iTup (K : PySem.W.Frag) (tl : TE) : TI := fun σ H R => tl σ H fun x H1 => ∃ a, x = .ref a ∧ (∃ xs, SqT K H1 a xs) ∧ R (Itt K a) H1
/-- a range object just made, walked -/
theorem range_it {pins : List (Addr × Obj)} {σ : St} {H : Hp} {s : Shared} {R : It → Hp → Prop} {E : Value → Shared → Prop} {lo hi : Int} {t u v : Tok} {tk : Nat} (I : Inv X pins σ H s) (h1 : -(2 ^ 62) ≤ lo) (h2 : lo < 2 ^ 62) (h3 : -(2 ^ 62) ≤ hi) (h4 : hi < 2 ^ 62)
    (q : R (Itr lo (hi - lo).toNat) H) : wpAny (model X.prog X.w) X.A (pyIter (.ref s.heap.objs.size)) (PIE X pins σ tg R) E { s with heap := s.heap.push { cls := .type "range", data := .fields #[.int lo t, .int hi u, .int 1 v] }, toks := tk } := by
  refine wpAny_pyIter_range (IsRange.new ..) (small_one h1 h2 h3 h4) ?_
  have I1 : Inv X pins σ H { s with heap := s.heap.push { cls := .type "range", data := .fields #[.int lo t, .int hi u, .int 1 v] }, toks := tk } := I.kept fun b o e => Heap.get?_push_of_some _ e
  refine ⟨(s.heap.push { cls := .type "range", data := .fields #[.int lo t, .int hi u, .int 1 v] }).objs.size, [(s.heap.push { cls := .type "range", data := .fields #[.int lo t, .int hi u, .int 1 v] }).objs.size], _, _, H, rfl,
    I1.kept (t' := tk) fun b o e => Heap.get?_push_of_some _ e, turn_range _ lo (hi - lo).toNat, ?_, fun b hb => ?_, q⟩
  · have e1 : lo + ((0 : Nat) : Int) * 1 = lo := by simp
    have e2 : (((hi - lo).toNat : Nat) : Int) - ((0 : Nat) : Int) = Builtin.Range.rangeSize lo hi 1 := by rw [rangeSize_one]; split <;> omega
    show IsRangeIter _ _ (lo + ((0 : Nat) : Int) * 1) ((((hi - lo).toNat : Nat) : Int) - ((0 : Nat) : Int)) 1
    rw [e1, e2]
    exact Heap.get?_push_size _ rfl
  · have e : b = (s.heap.push { cls := .type "range", data := .fields #[.int lo t, .int hi u, .int 1 v] }).objs.size := by simpa using hb
    subst e
    exact I1.fpOk (Nat.le_refl _) (I1.hok.fresh (Nat.le_refl _))
def iRng1 (ta : TA) : TI := fun σ H R => ta σ H fun vs H1 => ∃ j : Int, vs = [.int j] ∧ -(2 ^ 62) ≤ j ∧ j < 2 ^ 62 ∧ R (Itr 0 j.toNat) H1
def iRng2 (ta : TA) : TI := fun σ H R => ta σ H fun vs H1 => ∃ i j : Int, vs = [.int i, .int j] ∧ (-(2 ^ 62) ≤ i ∧ i < 2 ^ 62 ∧ -(2 ^ 62) ≤ j ∧ j < 2 ^ 62) ∧ R (Itr i (j - i).toNat) H1
theorem pi_range1 {a : Expr} {ta : TA} {p pos : Pos} (hg : Gl X "range") (hm : X.mg "range" = none) (ha : PA X [a] ta) (hs : starEach [a] X.env = [(false, eval a X.env)] := by rfl) : PI X tg (.Call (.Name "range" p) [a] [] pos) (iRng1 ta) := by
  intro pins s σ H R I h
  refine Call_ (ld_blt I hg hm boot_range (PyProof.Rows.callWith_type1 (thn (ha pos pins s σ H _ I h) fun us s1 ⟨vs, H1, I1, r1, q1⟩ => ?_) hs rfl))
  obtain ⟨j, e, q1, q2, q⟩ := q1
  subst e
  cases r1 with
  | cons r rr =>
    cases rr
    obtain ⟨t, rfl⟩ := r
    exact call_range_1 (range_it I1 (by omega) (by omega) q1 q2 (by simpa using q))
/-- W: the invariant by the turn and a measure; N: what the body is to reach -/
def tFor (wi : TI) (g : TG) (tb : TS) : TS := fun D σ H => wi σ H fun J H1 => ∃ W : Nat → Nat → St → Hp → Prop, (∃ m, W 0 m σ H1) ∧ ∀ i m σ H, W i m σ H →
  (J.stop i H ∧ D.nx σ H) ∨ (J.go i H ∧ ∃ N : St → Hp → Prop, (∀ σ' H', N σ' H' → ∃ m', m' < m ∧ W (i + 1) m' σ' H') ∧ ∀ x H', J.yld i H x H' → g x σ H' fun σ2 H2 => tb { D with nx := N, ct := N, bk := D.nx } σ2 H2)
/-- the records at fp as they stand -/
def pinsAt (fp : List Addr) (h : Heap) : List (Addr × Obj) := fp.filterMap fun b => (h.get? b).map fun o => (b, o)
theorem mem_pinsAt {fp : List Addr} {h : Heap} {b : Addr} {o : Obj} (hb : b ∈ fp) (e : h.get? b = some o) : (b, o) ∈ pinsAt fp h := List.mem_filterMap.mpr ⟨b, hb, by rw [e]; rfl⟩
theorem of_pinsAt {fp : List Addr} {h : Heap} {p : Addr × Obj} (hp : p ∈ pinsAt fp h) : p.1 ∈ fp ∧ h.get? p.1 = some p.2 := by
  obtain ⟨b, hb, e⟩ := List.mem_filterMap.mp hp
  cases q : h.get? b with
  | none => rw [q] at e; cases e
  | some o =>
    rw [q] at e
    have e' : (b, o) = p := Option.some.inj e
    subst e'
    exact ⟨hb, q⟩
theorem Inv.pinned {pins : List (Addr × Obj)} {σ : St} {H : Hp} {s : Shared} {fp : List Addr} (I : Inv X pins σ H s) (hf : ∀ b ∈ fp, FpOk X pins H b) (ho : ∀ b ∈ fp, ∃ o, s.heap.get? b = some o ∧ ∀ v, o.data ≠ .cell v) : Inv X (pins ++ pinsAt fp s.heap) σ H s :=
  I.pins_of fun p hp => (List.mem_append.mp hp).elim (fun z => I.pin p (List.mem_append_right _ z)) fun z => by
    obtain ⟨hb, e⟩ := of_pinsAt z
    obtain ⟨f0, f1, f2, _⟩ := hf p.1 hb
    obtain ⟨o, e', d⟩ := ho p.1 hb
    rw [e] at e'; cases e'
    exact ⟨e, f0, f1, f2, d⟩
theorem Inv.unpinned {pins pl : List (Addr × Obj)} {σ : St} {H : Hp} {s : Shared} (I : Inv X (pins ++ pl) σ H s) : Inv X pins σ H s := I.pins_of fun p hp => I.pin p (List.mem_append_right _ (List.mem_append_left _ hp))
theorem ps_for {iter : Expr} {body : List Stmt} {wi : TI} {g : TG} {tb : TS} {pos : Pos} (hp : PassesOwn (model X.prog X.w) X.A X.env X.xe) (hc : X.calm = true) (hi : PI X tg iter wi) (hg : PG X tg g) (hb : PSs X body tb)
    (hs : ∀ x, foldedSetIterable iter X.env x = pure x := by intro _; rfl) : PS X (.For tg iter body [] pos) (tFor wi g tb) := by
  intro pins s σ H D I h
  refine wpAny_For (thn (hi pins s σ H _ I h) fun v s1 h1 => thn h1 fun itv s2 h2 => ?_) hs
  obtain ⟨it, fp, tn, J, H2, e, I2, T, st2, f2, W, ⟨m0, w0⟩, turn⟩ := h2
  subst e
  -- what stays true of the iterator's objects through the loop
  have stat : ∀ {H' : Hp}, (∀ b ∈ fp, H' b = none) → ∀ b ∈ fp, FpOk X pins H' b := fun hn b hb => ⟨hn b hb, (f2 b hb).2⟩
  refine codeAny_forLoop_any (fun n s' => ∃ i σ' H', Inv X pins σ' H' s' ∧ tn i s'.heap ∧ (∀ b ∈ fp, H' b = none) ∧ W i n σ' H') ?_ m0 ⟨0, σ, H2, I2, st2, fun b hb => (f2 b hb).1, w0⟩
  rintro n s3 ⟨i, σ3, H3, I3, st3, fr3, w3⟩
  rcases turn i n σ3 H3 w3 with ⟨stop, qn⟩ | ⟨go, N, hN, step⟩
  · refine wpAny_passesOwn hp (thn (T.done X rfl rfl rfl hc i pins s3 σ3 H3 X.xe I3 (stat fr3) st3 stop) fun r s4 ⟨hr, I4⟩ => ?_)
    subst hr
    exact wpAny_execs_nil ⟨σ3, H3, I4, qn⟩
  · refine wpAny_passesOwn hp (thn (T.item X rfl rfl rfl hc i pins s3 σ3 H3 X.xe I3 (stat fr3) st3 go) fun r s4 ⟨u, hr, h4⟩ => ?_)
    subst hr
    refine wpAny_passesOwn hp (thn h4 fun _ s5 ⟨x, H5, I5, r5, y5, st5, fr5⟩ => ?_)
    have I5' := I5.pinned (stat fr5) (T.obj _ _ st5)
    refine wpAny_passesOwn hp (thn (hg _ s5 σ3 H5 x u _ I5' r5 (step x H5 y5)) fun _ s6 ⟨σ6, H6, I6, q6⟩ => ?_)
    refine wpAny_passesOwn hp (thn (hb _ s6 σ6 H6 _ I6 q6) fun f s7 q7 => ?_)
    have again : ∀ {σ7 : St} {H7 : Hp}, Inv X (pins ++ pinsAt fp s5.heap) σ7 H7 s7 → N σ7 H7 → ∃ m, m < n ∧ ∃ i σ' H', Inv X pins σ' H' s7 ∧ tn i s7.heap ∧ (∀ b ∈ fp, H' b = none) ∧ W i m σ' H' := fun {σ7 H7} I7 n7 => by
      obtain ⟨m', hm, w7⟩ := hN σ7 H7 n7
      refine ⟨m', hm, i + 1, σ7, H7, I7.unpinned, T.keep _ _ _ st5 fun b hb o e => (I7.pin (b, o) (List.mem_append_right _ (List.mem_append_right _ (mem_pinsAt hb e)))).1, fun b hb => ?_, w7⟩
      obtain ⟨o, e, d⟩ := T.obj _ _ st5 b hb
      exact (I7.pin (b, o) (List.mem_append_right _ (List.mem_append_right _ (mem_pinsAt hb e)))).2.1
    cases f with
    | next => obtain ⟨σ7, H7, I7, n7⟩ := q7; exact again I7 n7
    | cont => obtain ⟨σ7, H7, I7, n7⟩ := q7; exact again I7 n7
    | brk => obtain ⟨σ7, H7, I7, q7⟩ := q7; exact ⟨σ7, H7, I7.unpinned, q7⟩
    | ret v => obtain ⟨x7, σ7, H7, I7, r7, q7⟩ := q7; exact ⟨x7, σ7, H7, I7.unpinned, r7, q7⟩
end

theorem for_range {lo : Int} {n : Nat} {g : TG} {tb : TS} {D : Ends} {σ : St} {H : Hp} (Pv : Nat → St → Hp → Prop) (h0 : Pv 0 σ H)
    (hs : ∀ i σ H, i < n → Pv i σ H → g (.int (lo + i)) σ H fun σ2 H2 => tb { D with nx := Pv (i + 1), ct := Pv (i + 1), bk := D.nx } σ2 H2) (hd : ∀ σ H, Pv n σ H → D.nx σ H) :
    ∃ W : Nat → Nat → St → Hp → Prop, (∃ m, W 0 m σ H) ∧ ∀ i m σ H, W i m σ H →
      ((Itr lo n).stop i H ∧ D.nx σ H) ∨ ((Itr lo n).go i H ∧ ∃ N : St → Hp → Prop, (∀ σ' H', N σ' H' → ∃ m', m' < m ∧ W (i + 1) m' σ' H') ∧ ∀ x H', (Itr lo n).yld i H x H' → g x σ H' fun σ2 H2 => tb { D with nx := N, ct := N, bk := D.nx } σ2 H2) := by
  refine ⟨fun i m σ H => m = n - i ∧ i ≤ n ∧ Pv i σ H, ⟨n, by simp, Nat.zero_le _, h0⟩, ?_⟩
  rintro i m σ H ⟨rfl, hi, p⟩
  by_cases hlt : i < n
  · refine .inr ⟨hlt, Pv (i + 1), fun σ' H' p' => ⟨n - (i + 1), by omega, rfl, hlt, p'⟩, fun x H' y => ?_⟩
    obtain ⟨e, y⟩ := y
    subst e y
    exact hs i σ _ hlt p
  · have e : i = n := by omega
    subst e
    exact .inl ⟨Nat.le_refl _, hd σ H p⟩
end L2

namespace L2
open PySem PySem.Spec PyProof.Rows

abbrev R2 := V → V → Hp → VK → Prop
/-- a two-place operation on values: f is binaryOp op, inplaceOp op or compareOp op -/
def OpR (X : Cx) (f : Value → Value → Sem Value) (r : R2) : Prop :=
  ∀ (pins : List (Addr × Obj)) (s : Shared) (σ : St) (H : Hp) (x y : V) (v u : Value) (Q : VK), Inv X pins σ H s → RelV x v → RelV y u → r x y H Q →
    wpAny (model X.prog X.w) X.A (f v u) (EP X pins σ Q) X.xe s
/-- a one-place operation -/
def UnR (X : Cx) (f : Value → Sem Value) (r : V → Hp → VK → Prop) : Prop :=
  ∀ (pins : List (Addr × Obj)) (s : Shared) (σ : St) (H : Hp) (x : V) (v : Value) (Q : VK), Inv X pins σ H s → RelV x v → r x H Q →
    wpAny (model X.prog X.w) X.A (f v) (EP X pins σ Q) X.xe s
/-- a call of a value that is known (a builtin, a type) with values -/
def CallR (X : Cx) (f : Value) (r : List V → Hp → VK → Prop) : Prop :=
  ∀ (pins : List (Addr × Obj)) (s : Shared) (σ : St) (H : Hp) (xs : List V) (us : List Value) (Q : VK), Inv X pins σ H s → Vals xs us → r xs H Q →
    wpAny (model X.prog X.w) X.A (call f us) (EP X pins σ Q) X.xe s
/-- a value's truth -/
def TruR (X : Cx) (r : V → Hp → (Bool → Hp → Prop) → Prop) : Prop :=
  ∀ (pins : List (Addr × Obj)) (s : Shared) (σ : St) (H : Hp) (x : V) (v : Value) (Q : Bool → Hp → Prop), Inv X pins σ H s → RelV x v → r x H Q →
    wpAny (model X.prog X.w) X.A (truthy v) (TP X pins σ Q) X.xe s

def tOp (r : R2) (ta tb : TE) : TE := fun σ H Q => ta σ H fun x H1 => tb σ H1 fun y H2 => r x y H2 Q
def tUn (r : V → Hp → VK → Prop) (ta : TE) : TE := fun σ H Q => ta σ H fun x H1 => r x H1 Q
/-- ints in, under C, and a value out -/
def rI (C : Int → Int → Prop) (g : Int → Int → V) : R2 := fun x y H Q => ∃ i j, x = .int i ∧ y = .int j ∧ C i j ∧ Q (g i j) H
def rI0 (g : Int → Int → V) : R2 := fun x y H Q => ∃ i j, x = .int i ∧ y = .int j ∧ Q (g i j) H
def rU (g : Int → V) : V → Hp → VK → Prop := fun x H Q => ∃ i, x = .int i ∧ Q (g i) H

section
variable {X : Cx} {a b c : Expr} {ta tb tc : TE} {pos : Pos}

theorem binT (ha : PE X a ta) (hb : PE X b tb) {pins : List (Addr × Obj)} {s : Shared} {σ : St} {H : Hp} {R : V → V → Hp → Prop} (I : Inv X pins σ H s)
    (h : ta σ H fun x H1 => tb σ H1 fun y H2 => R x y H2) {Q : Value → Shared → Prop} {f : Value → Value → Sem Value}
    (hf : ∀ v u s2 x y H2, Inv X pins σ H2 s2 → RelV x v → RelV y u → R x y H2 → wpAny (model X.prog X.w) X.A (f v u) Q X.xe s2) :
    wpAny (model X.prog X.w) X.A (eval a X.env) (fun v s₁ => wpAny (model X.prog X.w) X.A (eval b X.env) (fun u s₂ => wpAny (model X.prog X.w) X.A (f v u) Q X.xe s₂) X.xe s₁) X.xe s := by
  refine thn (ha pins s σ H _ I h) fun v s1 ⟨x, H1, I1, r1, q1⟩ => ?_
  refine thn (hb pins s1 σ H1 _ I1 q1) fun u s2 ⟨y, H2, I2, r2, q2⟩ => ?_
  exact hf v u s2 x y H2 I2 r1 r2 q2

theorem pe_op {op : Operator} {r : R2} (ho : OpR X (binaryOp op) r) (ha : PE X a ta) (hb : PE X b tb) : PE X (.BinOp a op b pos) (tOp r ta tb) := by
  intro pins s σ H Q I h
  exact wpAny_BinOp (binT ha hb I h fun v u s2 x y H2 I2 rx ry q => ho pins s2 σ H2 x y v u Q I2 rx ry q)
theorem opI {f : Value → Value → Sem Value} {C : Int → Int → Prop} {g : Int → Int → Int}
    (rule : ∀ (i j : Int) (t u : Tok) (s : Shared) (Q : Value → Shared → Prop) (E : Value → Shared → Prop), C i j → Q (.int (g i j) s.toks) { s with toks := s.toks + 1 } → wpAny (model X.prog X.w) X.A (f (.int i t) (.int j u)) Q E s) :
    OpR X f (rI C fun i j => .int (g i j)) := by
  intro pins s σ H x y v u Q I rx ry h
  obtain ⟨i, j, rfl, rfl, hc, q⟩ := h
  obtain ⟨t, rfl⟩ := rx
  obtain ⟨t', rfl⟩ := ry
  exact rule i j t t' s _ _ hc ⟨.int (g i j), H, I.tok _, ⟨_, rfl⟩, q⟩
theorem opI0 {f : Value → Value → Sem Value} {g : Int → Int → Int}
    (rule : ∀ (i j : Int) (t u : Tok) (s : Shared) (Q : Value → Shared → Prop) (E : Value → Shared → Prop), Q (.int (g i j) s.toks) { s with toks := s.toks + 1 } → wpAny (model X.prog X.w) X.A (f (.int i t) (.int j u)) Q E s) :
    OpR X f (rI0 fun i j => .int (g i j)) := by
  intro pins s σ H x y v u Q I rx ry h
  obtain ⟨i, j, rfl, rfl, q⟩ := h
  obtain ⟨t, rfl⟩ := rx
  obtain ⟨t', rfl⟩ := ry
  exact rule i j t t' s _ _ ⟨.int (g i j), H, I.tok _, ⟨_, rfl⟩, q⟩
theorem opB0 {f : Value → Value → Sem Value} {g : Int → Int → Bool}
    (rule : ∀ (i j : Int) (t u : Tok) (s : Shared) (Q : Value → Shared → Prop) (E : Value → Shared → Prop), Q (.bool (g i j)) s → wpAny (model X.prog X.w) X.A (f (.int i t) (.int j u)) Q E s) :
    OpR X f (rI0 fun i j => .bl (g i j)) := by
  intro pins s σ H x y v u Q I rx ry h
  obtain ⟨i, j, rfl, rfl, q⟩ := h
  obtain ⟨t, rfl⟩ := rx
  obtain ⟨t', rfl⟩ := ry
  exact rule i j t t' s _ _ ⟨.bl (g i j), H, I, rfl, q⟩

def CDiv (i j : Int) : Prop := 0 < j ∧ j < 1073741824
def CDivN (i j : Int) : Prop := j ≠ 0 ∧ j.natAbs < 1073741824
def CPow (i j : Int) : Prop := 0 ≤ j ∧ j ≤ 1000000 ∧ i.natAbs < 2 ^ 64
def CMul (i j : Int) : Prop := (-(2 ^ 64) < i ∧ i < 2 ^ 64) ∨ (-(2 ^ 64) < j ∧ j < 2 ^ 64)
theorem CMul.ok {i j : Int} (h : CMul i j) : IntMulOk i j := by
  rcases h with ⟨h1, h2⟩ | ⟨h1, h2⟩
  · exact .of_left (intBits_le_64 h1 h2)
  · exact .of_right (intBits_le_64 h1 h2)
theorem op_add : OpR X (binaryOp .Add) (rI0 fun i j => .int (i + j)) := opI0 fun _ _ _ _ _ _ _ q => add_int q
theorem op_sub : OpR X (binaryOp .Sub) (rI0 fun i j => .int (i - j)) := opI0 fun _ _ _ _ _ _ _ q => sub_int q
/-- % by a positive divisor of any size -/
theorem op_mod : OpR X (binaryOp .Mod) (rI (fun _ j => 0 < j) fun i j => .int (i % j)) := opI fun i j _ _ _ _ _ hc q => by
  have h1 : (0 : Int) < j := hc
  exact mod_int' (by omega) (by rw [Int.fmod_eq_emod_of_nonneg i (by omega)]; exact q)
end

/-- the scalars that == tells apart as data does -/
def scal : V → V → Bool
  | .non, .non => true | .non, .int _ => true | .int _, .non => true | .non, .bl _ => true | .bl _, .non => true | .non, .str _ => true | .str _, .non => true
  | .int _, .int _ => true | .bl _, .bl _ => true | .str _, .str _ => true | .byt _, .byt _ => true
  | .int _, .str _ => true | .str _, .int _ => true | .bl _, .str _ => true | .str _, .bl _ => true
  | _, _ => false
def rEq : R2 := fun x y H Q => scal x y = true ∧ Q (.bl (decide (x = y))) H
def rNe : R2 := fun x y H Q => scal x y = true ∧ Q (.bl (!decide (x = y))) H

theorem dec_int {i j : Int} : decide (V.int i = V.int j) = (i == j) := by
  rw [Bool.eq_iff_iff]
  simp
theorem dec_bl {i j : Bool} : decide (V.bl i = V.bl j) = (i == j) := by
  rw [Bool.eq_iff_iff]
  simp
theorem dec_str {i j : Str} : decide (V.str i = V.str j) = (i == j) := by
  rw [Bool.eq_iff_iff]
  simp
theorem dec_byt {i j : Array UInt8} : decide (V.byt i = V.byt j) = (i.toList == j.toList) := by
  rw [Bool.eq_iff_iff]
  cases i
  cases j
  simp

section
variable {X : Cx} {a b c : Expr} {ta tb tc : TE} {pos : Pos}
theorem fin_bl {pins : List (Addr × Obj)} {σ : St} {H : Hp} {s : Shared} {Q : VK} {k k' : Bool} (I : Inv X pins σ H s) (q : Q (.bl k) H) (e : k = k') : EP X pins σ Q (.bool k') s := by
  subst e
  exact ⟨.bl k, H, I, rfl, q⟩
theorem op_eq : OpR X (compareOp .Eq) rEq := by
  intro pins s σ H x y v u Q I rx ry h
  obtain ⟨hs, q⟩ := h
  cases x with
  | non =>
    cases rx
    cases y with
    | non => cases ry; exact PySem.EqNone.eq_none_none (fin_bl I q (by simp))
    | bl j => cases ry; exact PySem.EqNone.eq_none_bool (fin_bl I q (by simp))
    | int j => obtain ⟨t', rfl⟩ := ry; exact PySem.EqNone.eq_none_int (fin_bl I q (by simp))
    | str j => obtain ⟨t', rfl⟩ := ry; exact PySem.EqNone.eq_none_str (fin_bl I q (by simp))
    | _ => exact absurd (show false = true from hs) Bool.false_ne_true
  | bl i =>
    cases rx
    cases y with
    | non => cases ry; exact PySem.EqNone.eq_bool_none (fin_bl I q (by simp))
    | bl j => cases ry; exact eq_bool (fin_bl I q dec_bl)
    | str j => obtain ⟨t', rfl⟩ := ry; exact PySem.EqMixed.eq_bool_str (fin_bl I q (by simp))
    | _ => exact absurd (show false = true from hs) Bool.false_ne_true
  | int i =>
    obtain ⟨t, rfl⟩ := rx
    cases y with
    | non => cases ry; exact PySem.EqNone.eq_int_none (fin_bl I q (by simp))
    | int j => obtain ⟨t', rfl⟩ := ry; exact eq_int (fin_bl I q dec_int)
    | str j => obtain ⟨t', rfl⟩ := ry; exact PySem.EqMixed.eq_int_str (fin_bl I q (by simp))
    | _ => exact absurd (show false = true from hs) Bool.false_ne_true
  | str i =>
    obtain ⟨t, rfl⟩ := rx
    cases y with
    | non => cases ry; exact PySem.EqNone.eq_str_none (fin_bl I q (by simp))
    | bl j => cases ry; exact PySem.EqMixed.eq_str_bool (fin_bl I q (by simp))
    | int j => obtain ⟨t', rfl⟩ := ry; exact PySem.EqMixed.eq_str_int (fin_bl I q (by simp))
    | str j => obtain ⟨t', rfl⟩ := ry; exact eq_str (fin_bl I q dec_str)
    | _ => exact absurd (show false = true from hs) Bool.false_ne_true
  | byt i =>
    obtain ⟨t, rfl⟩ := rx
    cases y with
    | byt j => obtain ⟨t', rfl⟩ := ry; exact PySem.W.eq_bytes (fin_bl I q dec_byt)
    | _ => exact absurd (show false = true from hs) Bool.false_ne_true
  | _ => cases y <;> exact absurd (show false = true from hs) Bool.false_ne_true
theorem op_ne : OpR X (compareOp .NotEq) rNe := by
  intro pins s σ H x y v u Q I rx ry h
  obtain ⟨hs, q⟩ := h
  cases x with
  | non =>
    cases rx
    cases y with
    | non => cases ry; exact PySem.EqNone.ne_none_none (fin_bl I q (by simp))
    | bl j => cases ry; exact PySem.EqNone.ne_none_bool (fin_bl I q (by simp))
    | int j => obtain ⟨t', rfl⟩ := ry; exact PySem.EqNone.ne_none_int (fin_bl I q (by simp))
    | str j => obtain ⟨t', rfl⟩ := ry; exact PySem.EqNone.ne_none_str (fin_bl I q (by simp))
    | _ => exact absurd (show false = true from hs) Bool.false_ne_true
  | bl i =>
    cases rx
    cases y with
    | non => cases ry; exact PySem.EqNone.ne_bool_none (fin_bl I q (by simp))
    | bl j => cases ry; exact ne_bool (fin_bl I q (congrArg not dec_bl))
    | str j => obtain ⟨t', rfl⟩ := ry; exact PySem.EqMixed.ne_bool_str (fin_bl I q (by simp))
    | _ => exact absurd (show false = true from hs) Bool.false_ne_true
  | int i =>
    obtain ⟨t, rfl⟩ := rx
    cases y with
    | non => cases ry; exact PySem.EqNone.ne_int_none (fin_bl I q (by simp))
    | int j => obtain ⟨t', rfl⟩ := ry; exact ne_int (fin_bl I q (congrArg not dec_int))
    | str j => obtain ⟨t', rfl⟩ := ry; exact PySem.EqMixed.ne_int_str (fin_bl I q (by simp))
    | _ => exact absurd (show false = true from hs) Bool.false_ne_true
  | str i =>
    obtain ⟨t, rfl⟩ := rx
    cases y with
    | non => cases ry; exact PySem.EqNone.ne_str_none (fin_bl I q (by simp))
    | bl j => cases ry; exact PySem.EqMixed.ne_str_bool (fin_bl I q (by simp))
    | int j => obtain ⟨t', rfl⟩ := ry; exact PySem.EqMixed.ne_str_int (fin_bl I q (by simp))
    | str j => obtain ⟨t', rfl⟩ := ry; exact ne_str (fin_bl I q (congrArg not dec_str))
    | _ => exact absurd (show false = true from hs) Bool.false_ne_true
  | byt i =>
    obtain ⟨t, rfl⟩ := rx
    cases y with
    | byt j => obtain ⟨t', rfl⟩ := ry; exact PySem.W.ne_bytes (fin_bl I q (congrArg not dec_byt))
    | _ => exact absurd (show false = true from hs) Bool.false_ne_true
  | _ => cases y <;> exact absurd (show false = true from hs) Bool.false_ne_true

theorem op_lt : OpR X (compareOp .Lt) (rI0 fun i j => .bl (decide (i < j))) := opB0 fun _ _ _ _ _ _ _ q => lt_int q
theorem op_le : OpR X (compareOp .LtE) (rI0 fun i j => .bl (decide (i ≤ j))) := opB0 fun _ _ _ _ _ _ _ q => le_int q
theorem op_gt : OpR X (compareOp .Gt) (rI0 fun i j => .bl (decide (j < i))) := opB0 fun _ _ _ _ _ _ _ q => gt_int q
/-- is None, is not None: the right side a value none -/
theorem op_isN : OpR X (compareOp .Is) (fun x y H Q => y = .non ∧ Q (.bl (decide (x = .non))) H) := by
  intro pins s σ H x y v u Q I rx ry h
  obtain ⟨rfl, q⟩ := h
  cases ry
  refine is_none_gen (fin_bl I q ?_)
  cases x <;> first
    | (cases rx; rfl)
    | (obtain ⟨t, rfl⟩ := rx; rfl)
/-- is, is not of two objects that are tracked lists or instances -/
def isObj : HO → Bool
  | .lst _ => true
  | .ins _ _ _ => true
  | _ => false
/-- two rules for one operation: by cases -/
theorem OpR.or {f : Value → Value → Sem Value} {r r' : R2} (h : OpR X f r) (h' : OpR X f r') : OpR X f (fun x y H Q => r x y H Q ∨ r' x y H Q) := by
  intro pins s σ H x y v u Q I rx ry q
  rcases q with q | q
  · exact h pins s σ H x y v u Q I rx ry q
  · exact h' pins s σ H x y v u Q I rx ry q

theorem nomark (b : Expr) {op : CmpOp} (h : op ≠ .In := by decide) (h2 : op ≠ .NotIn := by decide) : behindInMarks op b = false := by
  have e1 : (op == CmpOp.In) = false := by cases op <;> first | rfl | exact absurd rfl h
  have e2 : (op == CmpOp.NotIn) = false := by cases op <;> first | rfl | exact absurd rfl h2
  cases b <;> simp [behindInMarks, e1, e2]
/-- a comparison as a value; hm: nomark b, or (for in, not in) by with_unfolding_all rfl -/
theorem pe_cmpR {op : CmpOp} {r : R2} (ho : OpR X (compareOp op) r) (ha : PE X a ta) (hb : PE X b tb) (hm : behindInMarks op b = false) : PE X (.Compare a [op] [b] pos) (tOp r ta tb) := by
  intro pins s σ H Q I h
  exact wpAny_Compare1 (binT ha hb I h fun v u s2 x y H2 I2 rx ry q => ho pins s2 σ H2 x y v u Q I2 rx ry q) hm
/-- a reading of a value as a test -/
def tTest (t : TE) : TT := fun σ H Q => t σ H fun x H' => ∃ k, x = .bl k ∧ Q k H'
theorem pt_cmpR {op : CmpOp} {r : R2} (ho : OpR X (compareOp op) r) (ha : PE X a ta) (hb : PE X b tb) (hm : behindInMarks op b = false) : PT X (.Compare a [op] [b] pos) (tTest (tOp r ta tb)) := by
  intro pins s σ H Q I h
  refine wpAny_isTrue_Compare1 (thn (ha pins s σ H _ I h) fun v s1 ⟨x, H1, I1, r1, q1⟩ => thn (hb pins s1 σ H1 _ I1 q1) fun u s2 ⟨y, H2, I2, r2, q2⟩ =>
    thn (ho pins s2 σ H2 x y v u _ I2 r1 r2 q2) fun c s3 ⟨z, H3, I3, r3, k, e, q3⟩ => ?_) hm
  subst e
  cases r3
  exact wpAny_truthy_bool ⟨H3, I3, q3⟩
/-- a op1 b op2 c -/
def tChain (r r' : R2) (ta tb tc : TE) : TE := fun σ H Q => ta σ H fun x H1 => tb σ H1 fun y H2 => r x y H2 fun z H3 => ∃ k, z = .bl k ∧
  (if k = true then tc σ H3 fun w' H4 => r' y w' H4 Q else Q (.bl false) H3)
theorem pt_chain {op op' : CmpOp} {r r' : R2} (ho : OpR X (compareOp op) r) (ho' : OpR X (compareOp op') r') (ha : PE X a ta) (hb : PE X b tb) (hc : PE X c tc)
    (hm : lastMarks [op, op'] [b, c] = false := by with_unfolding_all rfl) : PT X (.Compare a [op, op'] [b, c] pos) (tTest (tChain r r' ta tb tc)) := by
  intro pins s σ H Q I h
  refine isTrue_chain (thn (ha pins s σ H _ I h) fun v s1 ⟨x, H1, I1, r1, q1⟩ => test_link (thn (hb pins s1 σ H1 _ I1 q1) fun u s2 ⟨y, H2, I2, r2, q2⟩ =>
    thn (ho pins s2 σ H2 x y v u _ I2 r1 r2 q2) fun d s3 ⟨z, H3, I3, r3, k, e, q3⟩ => ?_)) hm
  subst e
  cases r3
  refine wpAny_truthy_bool ?_
  cases k with
  | false =>
    obtain ⟨k', e', q'⟩ := q3
    cases e'
    exact ite_ff ⟨H3, I3, q'⟩
  | true =>
    refine ite_tt (test_last (thn (hc pins s3 σ H3 _ I3 q3) fun w' s4 ⟨z', H4, I4, r4, q4⟩ => thn (ho' pins s4 σ H4 y z' u w' _ I4 r2 r4 q4) fun d' s5 ⟨z2, H5, I5, r5, k2, e2, q5⟩ => ?_))
    subst e2
    cases r5
    exact wpAny_truthy_bool ⟨H5, I5, q5⟩

/-- a value's truth by the abstract heap -/
def TruV (K : PySem.W.Frag) (x : V) (H : Hp) (k : Bool) : Prop :=
  match x with
  | .non => k = false
  | .bl b => k = b
  | .int i => k = (i != 0)
  | .str y => y.length ≤ sizeLine ∧ k = ((y.length : Int) != 0)
  | .byt y => y.size ≤ sizeLine ∧ k = ((y.size : Int) != 0)
  | .ref p => (∃ xs, SqL K H p xs ∧ k = !xs.isEmpty) ∨ (∃ xs, SqT K H p xs ∧ k = !xs.isEmpty) ∨ ∃ kvs, H p = some (.dK kvs) ∧ k = !kvs.isEmpty
  | _ => False
theorem line63 : (sizeLine : Nat) < 2 ^ 63 := by rw [sizeLine_eq]; decide
def PlainIxT (b : Expr) : Prop := ∀ o i, subscripted b false o i = operate [o, i] (getItem o i)
theorem vals1 {x : V} {us : List Value} (r : Vals [x] us) : ∃ u, us = [u] ∧ RelV x u := by
  cases r with
  | cons r1 r2 => cases r2; exact ⟨_, rfl, r1⟩
theorem vals2 {x y : V} {us : List Value} (r : Vals [x, y] us) : ∃ u w', us = [u, w'] ∧ RelV x u ∧ RelV y w' := by
  cases r with
  | cons r1 r2 =>
    cases r2 with
    | cons r3 r4 => cases r4; exact ⟨_, _, rfl, r1, r3⟩
theorem call_int1 : CallR X (.type "int") (fun xs H Q => (∃ i, xs = [.int i] ∧ Q (.int i) H) ∨ ∃ k, xs = [.bl k] ∧ Q (.int (if k then 1 else 0)) H) := by
  intro pins s σ H xs us Q I r h
  rcases h with ⟨i, rfl, q⟩ | ⟨k, rfl, q⟩
  · obtain ⟨u, rfl, t, rfl⟩ := vals1 r
    exact call_int_int ⟨.int i, H, I, ⟨_, rfl⟩, q⟩
  · obtain ⟨u, rfl, r1⟩ := vals1 r
    cases r1
    exact call_int_bool ⟨.int (if k then 1 else 0), H, I.tok _, ⟨_, rfl⟩, q⟩
/-- len of a str, a bytes, a list, a tuple -/
def LenV (K : PySem.W.Frag) (x : V) (H : Hp) (n : Nat) : Prop :=
  match x with
  | .str y => y.length ≤ sizeLine ∧ n = y.length
  | .byt y => y.size ≤ sizeLine ∧ n = y.size
  | .ref p => (∃ xs, SqL K H p xs ∧ n = xs.length) ∨ ∃ xs, SqT K H p xs ∧ n = xs.length
  | _ => False
end
end L2

namespace L2
open PySem PySem.Spec PyProof.Rows

structure ObjM (h : Heap) (x dx C : Addr) (mA : Str → Option Value) : Prop where
  obj : h.get? x = some (PySem.W.instObj C dx)
  ns : h.Ns1 dx mA
  ne : dx ≠ x

theorem lookIn_ns {h : Heap} {dx : Addr} {mA : Str → Option Value} (n : h.Ns1 dx mA) : ∃ od, h.get? dx = some od ∧ ∀ name, PySem.W.lookIn name od = some (mA name) := by
  obtain ⟨o, es, ep, ho, hd, hk, _, hm⟩ := n
  refine ⟨o, ho, fun name => ?_⟩
  have e := hm name
  unfold nsFind findBy at e
  rw [← Array.find?_toList] at e
  unfold PySem.W.lookIn
  rw [hd]
  dsimp only
  split
  · rename_i y q
    rw [q] at e
    exact congrArg some e
  · rename_i q
    rw [q] at e
    have a : es.toList.any (·.refKey) = false := by
      rw [List.any_eq_false]
      intro y hy
      obtain ⟨z, t, hkey⟩ := hk y (Array.mem_toList_iff.mp hy)
      simp [DictEntry.refKey, hkey]
    have a' : ¬ es.toList.any (·.refKey) = true := by rw [a]; exact Bool.false_ne_true
    rw [if_neg a']
    exact congrArg some e

theorem ObjM.look {h : Heap} {x dx C : Addr} {mA : Str → Option Value} (I : ObjM h x dx C mA) : ∃ od, PySem.W.InstAt h x (PySem.W.instObj C dx) C (some od) ∧ ∀ name, PySem.W.lookIn name od = some (mA name) :=
  let ⟨od, ho, hl⟩ := lookIn_ns I.ns
  ⟨od, ⟨I.obj, rfl, rfl, ho⟩, hl⟩

section
variable {prog : Program} {w : World} {A : Around} {E : Value → Shared → Prop} {s : Shared} {K : PySem.W.Frag} {x dx C f : Addr} {mA : Str → Option Value} {name : Str} {v : Value}

theorem get_map {expr : Bool} {Q : Value → Shared → Prop} (X : K.In s.heap) (I : ObjM s.heap x dx C mA) (hg : PySem.W.plainGet K C name = true) (hh : PySem.W.hasDictIn K C = true)
    (ha : PySem.W.findIn K (.ref C) name = some none) (hv : mA name = some v) (hv' : PySem.W.handedIn v = true) (h : Q v { s with toks := s.toks + 1 }) :
    wpAny (model prog w) A (getAttr (.ref x) name expr) Q E s := by
  obtain ⟨od, J, hl⟩ := I.look
  exact PySem.W.get_value X J (PySem.W.plainGet_of hg).1 (PySem.W.findObj_own hh ha rfl (by rw [hl, hv])) hv' h

theorem get_meth {pl : Sem Bool} {Q : Value × List Value → Shared → Prop} (X : K.In s.heap) (I : ObjM s.heap x dx C mA) (hg : PySem.W.plainGet K C name = true)
    (hf : PySem.W.findIn K (.ref C) name = some (some (.ref f))) (ht : PySem.W.isFn K (.ref f) = true) (hv : mA name = none) (h : Q (.ref f, [.ref x]) s) :
    wpAny (model prog w) A (getMethod (.ref x) name pl) Q E s := by
  obtain ⟨od, J, hl⟩ := I.look
  exact PySem.W.method_fn X J (PySem.W.plainGet_of hg).1 (PySem.W.plainGet_of hg).2 hf (beq_iff_eq.mp ht) (by show (PySem.W.lookIn name od).map (·.isSome) = some false; rw [hl, hv]; rfl) h

theorem set_map {ns : List Str} {Q : Unit → Shared → Prop} (X : K.In s.heap) (I : ObjM s.heap x dx C mA)
    (hs : PySem.W.findIn K (.ref C) "__setattr__" = some (some (.builtin "object.__setattr__"))) (hp : PySem.W.plainOver K C = true) (ht : PySem.W.takerIn K C name = some none) (hh : PySem.W.hasDictIn K C = true)
    (hw : PySem.Within mA ns) (hsz : ns.length ≤ sizeLine)
    (h : ∀ h', ObjM h' x dx C (fun y => if y = name then some v else mA y) → Heap.SameBut dx s.heap h' → Q () { s with heap := h', toks := s.toks + 2 }) :
    wpAny (model prog w) A (setAttr (.ref x) name v) Q E s := by
  obtain ⟨od, J, hl⟩ := I.look
  refine PySem.W.set_plain X J hs (PySem.W.osa_open (s := { s with toks := s.toks + 1 }) (r := none) X J hp ht fun b => ?_)
  obtain ⟨cd, hc, hd'⟩ := PySem.W.any_some hh
  have hx : s.heap.get? x = some ⟨.ref C, some dx, .plain, #[]⟩ := I.obj
  refine wpAny_bind (wpAny_pure (wpAny_bind (wpAny_bind (wpAny_loadPart hx (wpAny_bind (PySem.W.Looks.here (s := { s with toks := s.toks + 1 }) (PySem.W.looks_clsIn X hc) ?_))))))
  rw [hd']
  refine wpAny_pure (a := some dx) (wpAny_bind (wpAny_pure (wpAny_bind ?_)))
  refine wpAny_nsSet1 (s := { s with toks := s.toks + 1 }) I.ns fun h' hn2 hs2 => ?_
  obtain ⟨oD, esD, epD, hoD, hdD, hcD⟩ := hn2.count (PySem.Within.cons name v hw)
  refine wpAny_bind (wpAny_lookBehind hoD (by rw [hdD]; exact pastItsLine_dict (Nat.le_trans hcD (by rw [List.length_cons]; omega))) ?_)
  exact wpAny_pure (h _ ⟨(hs2.2 _ (Ne.symm I.ne)).trans I.obj, hn2, I.ne⟩ hs2)

/-- C(..): the dict at the heap's end, the instance behind it; then its __init__ -/
theorem make_map {R : Result → Shared → Prop} {vs : List Value} {kw : List (Str × Value)} (X : K.In s.heap) (hm : PySem.W.makesIn K C = true)
    (hi : PySem.W.findIn K (.ref C) "__init__" = some (some (.ref f))) (hf : PySem.W.typeIn K (.ref f) = some (.type "function"))
    (h : codeAny (model prog w) (A.under (.builtin "type.__call__" ⟨.ref C :: vs, kw⟩)) (.call (.ref f) ⟨.ref (s.heap.objs.size + 1) :: vs, kw⟩) (PySem.W.InitBack (s.heap.objs.size + 1) R)
      { s with heap := (s.heap.push PySem.W.emptyDict).push (PySem.W.instObj C s.heap.objs.size) }) :
    codeAny (model prog w) A (.call (.ref C) ⟨vs, kw⟩) R s := by
  obtain ⟨hh, g, d, t, os⟩ := s
  exact PySem.W.make_core (PySem.W.makes_of X hm) (PySem.W.looks_findIn X hi) (fun self => PySem.W.bind_fn X self hf) (.inl rfl) h
end

def putF (f : Str) (v : V) : List (Str × V) → List (Str × V)
  | [] => [(f, v)]
  | (g, x) :: r => if g = f then (g, v) :: r else (g, x) :: putF f v r
theorem lookup_putF (f g : Str) (v : V) : ∀ fs : List (Str × V), (putF f v fs).lookup g = if g = f then some v else fs.lookup g
  | [] => by
    show List.lookup g [(f, v)] = _
    by_cases h : g = f
    · have hb : (g == f) = true := beq_iff_eq.mpr h
      simp only [List.lookup, hb, if_pos h]
    · have hb : (g == f) = false := beq_eq_false_iff_ne.mpr h
      simp only [List.lookup, hb, if_neg h]
  | (k, x) :: r => by
    have ih := lookup_putF f g v r
    rw [show putF f v ((k, x) :: r) = (if k = f then (k, v) :: r else (k, x) :: putF f v r) from rfl]
    by_cases hk : k = f
    · rw [if_pos hk]
      by_cases h : g = k
      · have hb : (g == k) = true := beq_iff_eq.mpr h
        simp only [List.lookup, hb, if_pos (h.trans hk)]
      · have hb : (g == k) = false := beq_eq_false_iff_ne.mpr h
        simp only [List.lookup, hb, if_neg (fun e : g = f => h (e.trans hk.symm))]
    · rw [if_neg hk]
      by_cases h : g = k
      · have hb : (g == k) = true := beq_iff_eq.mpr h
        simp only [List.lookup, hb, if_neg (fun e : g = f => hk (h.symm.trans e))]
      · have hb : (g == k) = false := beq_eq_false_iff_ne.mpr h
        simp only [List.lookup, hb]
        exact ih
theorem keys_putF (f : Str) (v : V) : ∀ fs : List (Str × V), f ∈ (putF f v fs).map (·.1) ∧ ∀ g, g ∈ fs.map (·.1) → g ∈ (putF f v fs).map (·.1)
  | [] => ⟨by simp [putF], fun g h => by simp at h⟩
  | (k, x) :: r => by
    obtain ⟨i1, i2⟩ := keys_putF f v r
    rw [show putF f v ((k, x) :: r) = (if k = f then (k, v) :: r else (k, x) :: putF f v r) from rfl]
    by_cases hk : k = f
    · rw [if_pos hk]
      subst hk
      exact ⟨by simp, fun g h => by simpa using h⟩
    · rw [if_neg hk]
      refine ⟨?_, fun g h => ?_⟩
      · rw [List.map_cons]
        exact List.mem_cons_of_mem _ i1
      · rw [List.map_cons] at h ⊢
        rcases List.mem_cons.mp h with e | e
        · exact List.mem_cons.mpr (.inl e)
        · exact List.mem_cons_of_mem _ (i2 g e)
theorem length_putF (f : Str) (v : V) : ∀ fs : List (Str × V), (putF f v fs).length ≤ fs.length + 1
  | [] => by simp [putF]
  | (k, x) :: r => by
    have ih := length_putF f v r
    rw [show putF f v ((k, x) :: r) = (if k = f then (k, v) :: r else (k, x) :: putF f v r) from rfl]
    by_cases hk : k = f
    · rw [if_pos hk, List.length_cons, List.length_cons]; omega
    · rw [if_neg hk, List.length_cons, List.length_cons]; omega

theorem RelO.some_of {v : V} {o : Option Value} (r : RelO (some v) o) : ∃ u, o = some u ∧ RelV v u := by
  cases o with
  | none => exact (show False from r).elim
  | some u => exact ⟨u, rfl, r⟩
theorem RelO.none_of {o : Option Value} (r : RelO none o) : o = none := by
  cases o with
  | none => rfl
  | some u => exact (show False from r).elim
theorem handed_of {v : V} {u : Value} (r : RelV v u) : PySem.W.handedIn u = true := by
  cases v with
  | non => cases (show u = Value.none from r); rfl
  | bl b => cases (show u = Value.bool b from r); rfl
  | int i => obtain ⟨t, e⟩ := (show ∃ t, u = Value.int i t from r); cases e; rfl
  | str x => obtain ⟨t, e⟩ := (show ∃ t, u = Value.str x t from r); cases e; rfl
  | byt b => obtain ⟨t, e⟩ := (show ∃ t, u = Value.bytes b t from r); cases e; rfl
  | flt b => obtain ⟨t, e⟩ := (show ∃ t, u = Value.float b t from r); cases e; rfl
  | ref a => cases (show u = Value.ref a from r); rfl
  | ty n => cases (show u = Value.type n from r); rfl

section
variable {P : Program} {w : World} {H H' : Hp} {h h' : Heap} {a C dx : Addr} {fs fs' : List (Str × V)}
theorem ins_get (hok : HOk P w H h) (e : H a = some (.ins C dx fs)) : ∃ mA, ObjM h a dx C mA ∧ (∀ f, RelO (fs.lookup f) (mA f)) ∧ PySem.Within mA (fs.map (·.1)) ∧ fs.length ≤ 1000 ∧ H dx = some (.own a) := by
  obtain ⟨d, z, ne, ob, mA, n, r, q⟩ := (show ObjOk P w H h a (.ins C dx fs) from hok a _ e)
  exact ⟨mA, ⟨ob, n, ne⟩, r, q, z, d⟩
end

structure Cls (K : PySem.W.Frag) (C : Addr) : Prop where
  pg : PySem.W.plainGet K C Str.empty = true
  hd : PySem.W.hasDictIn K C = true
  po : PySem.W.plainOver K C = true
  sa : PySem.W.findIn K (.ref C) "__setattr__" = some (some (.builtin "object.__setattr__"))
theorem Cls.get {K : PySem.W.Frag} {C : Addr} (c : Cls K C) (f : Str) : PySem.W.plainGet K C f = true := c.pg
/-- no class of it has the name -/
def NoAttr (K : PySem.W.Frag) (C : Addr) (f : Str) : Prop := PySem.W.findIn K (.ref C) f = some none
theorem NoAttr.taker {K : PySem.W.Frag} {C : Addr} {f : Str} (n : NoAttr K C f) : PySem.W.takerIn K C f = some none := by
  unfold PySem.W.takerIn
  rw [show PySem.W.findIn K (.ref C) f = some none from n]
  rfl
/-- a constant of the class -/
structure Con (K : PySem.W.Frag) (C : Addr) (f : Str) (v : V) (u : Value) : Prop where
  at_ : PySem.W.findIn K (.ref C) f = some (some u)
  rel : RelV v u
  get : PySem.W.specialIn K u "__get__" = some none
  cp : PySem.W.copiedNames.contains f = false
/-- a method: a plain def of the class or of one above it -/
structure Meth (K : PySem.W.Frag) (C : Addr) (m : Str) (f : Addr) : Prop where
  at_ : PySem.W.findIn K (.ref C) m = some (some (.ref f))
  fn : PySem.W.isFn K (.ref f) = true
  kp : PySem.W.keepIn K (.ref f) = true

section
variable {X : Cx} {pins : List (Addr × Obj)} {σ : St} {H : Hp} {s : Shared} {a C dx : Addr} {fs : List (Str × V)} {f : Str} {v : V} {A : Around} {E : Value → Shared → Prop}

theorem getattr_ok {b : Bool} {Q : Value → Shared → Prop} (I : Inv X pins σ H s) (e : H a = some (.ins C dx fs)) (c : Cls X.K C) (n : NoAttr X.K C f) (l : fs.lookup f = some v)
    (h : ∀ u s', Inv X pins σ H s' → RelV v u → Q u s') : wpAny (model X.prog X.w) A (getAttr (.ref a) f b) Q E s := by
  obtain ⟨mA, O, r, _, _, _⟩ := ins_get I.hok e
  obtain ⟨u, hu, ru⟩ := RelO.some_of (v := v) (o := mA f) (by rw [← l]; exact r f)
  exact get_map I.kIn O (c.get f) c.hd n hu (handed_of ru) (h u _ (I.tok _) ru)

theorem getmeth_ok {m : Str} {g : Addr} {pl : Sem Bool} {Q : Value × List Value → Shared → Prop} (I : Inv X pins σ H s) (e : H a = some (.ins C dx fs)) (c : Cls X.K C) (k : Meth X.K C m g) (l : fs.lookup m = none)
    (h : Q (.ref g, [.ref a]) s) : wpAny (model X.prog X.w) A (getMethod (.ref a) m pl) Q E s := by
  obtain ⟨mA, O, r, _, _, _⟩ := ins_get I.hok e
  have hn : mA m = none := RelO.none_of (by rw [← l]; exact r m)
  exact get_meth I.kIn O (c.get m) k.at_ k.fn hn h

theorem setattr_ok {y : V} {u : Value} {Q : Unit → Shared → Prop} (I : Inv X pins σ H s) (e : H a = some (.ins C dx fs)) (c : Cls X.K C) (n : NoAttr X.K C f) (hl : fs.length < 1000) (ry : RelV y u)
    (h : ∀ s', Inv X pins σ (upd H a (.ins C dx (putF f y fs))) s' → Q () s') : wpAny (model X.prog X.w) A (setAttr (.ref a) f u) Q E s := by
  obtain ⟨mA, O, r, wi, _, ho⟩ := ins_get I.hok e
  have hz : (fs.map (·.1)).length ≤ sizeLine := by rw [List.length_map, sizeLine_eq]; omega
  refine set_map I.kIn O c.sa c.po n.taker c.hd wi hz fun h' O' sb => h _ ?_
  have hd : ∃ o, h'.get? dx = some o := let ⟨o, _, _, e', _⟩ := O'.ns; ⟨o, e'⟩
  refine I.write (x := a) (e := dx) (by rw [e]; exact True.intro) (.inr ho) (fun b q hb z => (sb.2 b hb).trans z) hd ?_
  refine ⟨by rw [upd_ne O.ne]; exact ho, ?_, O.ne, O'.obj, _, O'.ns, fun g => ?_, fun g hg => ?_⟩
  · have := length_putF f y fs; omega
  · show RelO ((putF f y fs).lookup g) (if g = f then some u else mA g)
    rw [lookup_putF]
    by_cases q : g = f
    · rw [if_pos q, if_pos q]; exact ry
    · rw [if_neg q, if_neg q]; exact r g
  · by_cases q : g = f
    · rw [q]; exact (keys_putF f y fs).1
    · refine (keys_putF f y fs).2 g (wi g fun z => hg ?_)
      show (if g = f then some u else mA g) = none
      rw [if_neg q]; exact z

/-- a new instance, tracked, without attributes -/
theorem Inv.made (I : Inv X pins σ H s) : Inv X pins σ (upd (upd H s.heap.objs.size (.own (s.heap.objs.size + 1))) (s.heap.objs.size + 1) (.ins C s.heap.objs.size []))
    { s with heap := (s.heap.push PySem.W.emptyDict).push (PySem.W.instObj C s.heap.objs.size) } := by
  have e1 : (s.heap.push PySem.W.emptyDict).get? s.heap.objs.size = some PySem.W.emptyDict := Heap.get?_push_size s.heap rfl
  have e2 : ((s.heap.push PySem.W.emptyDict).push (PySem.W.instObj C s.heap.objs.size)).get? (s.heap.objs.size + 1) = some (PySem.W.instObj C s.heap.objs.size) := by
    have := Heap.get?_push_size (s.heap.push PySem.W.emptyDict) (o := PySem.W.instObj C s.heap.objs.size) rfl
    rwa [Heap.size_push] at this
  have e3 : (s.heap.push PySem.W.emptyDict).Ns s.heap.objs.size (fun _ => none) := ⟨PySem.W.emptyDict, #[], _, e1, rfl, (fun e he => absurd he (by simp)), fun _ => rfl⟩
  have I1 := I.laid (a := s.heap.objs.size) (o := .own (s.heap.objs.size + 1)) (h' := s.heap.push PySem.W.emptyDict) (t' := s.toks) (fun b u q => Heap.get?_push_of_some _ q) (Nat.le_refl _) ⟨_, e1⟩
  refine I1.laid (a := s.heap.objs.size + 1) (o := .ins C s.heap.objs.size []) (t' := s.toks) (fun b u q => Heap.get?_push_of_some _ q) (Nat.le_of_eq (Heap.size_push _ _)) ?_
  have ne : s.heap.objs.size ≠ s.heap.objs.size + 1 := Nat.ne_of_lt (Nat.lt_succ_self _)
  refine ⟨by rw [upd_ne ne, upd_same], Nat.zero_le _, ne, e2, fun _ => none, (Heap.Ns1.of_empty e3).at fun o q => Heap.get?_push_of_some _ q, fun _ => True.intro, fun y hy => absurd rfl hy⟩

/-- e.f where nothing but the object is asked: through attributeBase (super) and the last hold -/
theorem attr_of {prog : Program} {w : World} {env : Env} {e : Expr} {f : Str} {pos : Pos} {s : Shared} {Q : Value → Shared → Prop} (hb : attributeBase e f env (eval e env) = eval e env)
    (h : wpAny (model prog w) A (eval e env) (fun o s₁ => wpAny (model prog w) A (getAttr o f true) Q E s₁) E s) : wpAny (model prog w) A (eval (.Attribute e f pos) env) Q E s :=
  Attribute_any_ h (by rw [arm_eval_Attribute, hb])
end

/-- e.f, an attribute of the instance -/
def tFld (K : PySem.W.Frag) (ta : TE) (f : Str) : TE := fun σ H Q => ta σ H fun x H1 => ∃ a C dx fs v, x = .ref a ∧ H1 a = some (.ins C dx fs) ∧ Cls K C ∧ NoAttr K C f ∧ fs.lookup f = some v ∧ Q v H1
/-- e.f, a constant of the class -/
def tCon (K : PySem.W.Frag) (ta : TE) (f : Str) : TE := fun σ H Q => ta σ H fun x H1 => ∃ a C dx fs v u, x = .ref a ∧ H1 a = some (.ins C dx fs) ∧ Cls K C ∧ Con K C f v u ∧ fs.lookup f = none ∧ Q v H1
/-- e.f = value -/
def sFld (K : PySem.W.Frag) (ta tv : TE) (f : Str) : TS := fun D σ H => tv σ H fun y H1 => ta σ H1 fun x H2 => ∃ a C dx fs, x = .ref a ∧ H2 a = some (.ins C dx fs) ∧ Cls K C ∧ NoAttr K C f ∧ fs.length < 1000 ∧
  D.nx σ (upd H2 a (.ins C dx (putF f y fs)))
/-- an augmented operator on two values -/
def InOp (X : Cx) (op : Operator) (rd : V → V → Hp → VK → Prop) : Prop :=
  ∀ (pins : List (Addr × Obj)) (s : Shared) (σ : St) (H : Hp) (x y : V) (u v : Value) (Q : VK), Inv X pins σ H s → RelV x u → RelV y v → rd x y H Q → wpAny (model X.prog X.w) X.A (inplaceOp op u v) (EP X pins σ Q) X.xe s
/-- e.f op= value -/
def sFldAug (K : PySem.W.Frag) (ta tv : TE) (rd : V → V → Hp → VK → Prop) (f : Str) : TS := fun D σ H => ta σ H fun x H1 => ∃ a C dx fs v, x = .ref a ∧ H1 a = some (.ins C dx fs) ∧ Cls K C ∧ NoAttr K C f ∧ fs.lookup f = some v ∧
  tv σ H1 fun y H2 => rd v y H2 fun z H3 => ∃ dx' fs', H3 a = some (.ins C dx' fs') ∧ fs'.length < 1000 ∧ D.nx σ (upd H3 a (.ins C dx' (putF f z fs')))

section
variable {X : Cx} {o e value : Expr} {f : Str} {pos pos' tpos : Pos} {ta tv : TE}
theorem pe_fld (he : PE X e ta) (hb : attributeBase e f X.env (eval e X.env) = eval e X.env) : PE X (.Attribute e f pos) (tFld X.K ta f) := by
  intro pins s σ H Q I h
  refine attr_of hb (thn (he pins s σ H _ I h) fun u s1 ⟨x, H1, I1, rx, a, C, dx, fs, v, ex, ea, c, n, l, q⟩ => ?_)
  subst ex
  obtain rfl : u = Value.ref a := rx
  exact getattr_ok I1 ea c n l fun u' s2 I2 ru => ⟨v, H1, I2, ru, q⟩
theorem ps_fld (ha : PE X o ta) (hv : PE X value tv) (hs : swapsWith value (some (.Attribute o f pos')) pos.line X.env = pure false) : PS X (.Assign [.Attribute o f pos'] value pos) (sFld X.K ta tv f) := by
  intro pins s σ H D I h
  refine plainObj_wpAny_Assign_Attribute (thn (hv pins s σ H _ I h) fun u s1 ⟨y, H1, I1, ry, q⟩ => thn (ha pins s1 σ H1 _ I1 q) fun ov s2 ⟨x, H2, I2, rx, a, C, dx, fs, ex, ea, c, n, l, q2⟩ => ?_) hs
  subst ex
  obtain rfl : ov = Value.ref a := rx
  exact setattr_ok I2 ea c n l ry fun s3 I3 => ⟨σ, _, I3, q2⟩
def rAdd : V → V → Hp → VK → Prop := fun x y H Q => ∃ i j, x = .int i ∧ y = .int j ∧ Q (.int (i + j)) H
def rSub : V → V → Hp → VK → Prop := fun x y H Q => ∃ i j, x = .int i ∧ y = .int j ∧ Q (.int (i - j)) H
end

section
variable {X : Cx} {pins : List (Addr × Obj)} {σ : St} {H : Hp} {s : Shared} {A : Around} {E : Value → Shared → Prop} {Q : Value → Shared → Prop} {c : Value} {b : Bool}
/-- the type of a value, as the fragment's deciders take it; for an instance its class -/
inductive TyOf (K : PySem.W.Frag) (H : Hp) : V → Value → Prop where
  | non : TyOf K H .non (.type "NoneType")
  | bl (x : Bool) : TyOf K H (.bl x) (.type "bool")
  | int (i : Int) : TyOf K H (.int i) (.type "int")
  | str (x : Str) : TyOf K H (.str x) (.type "str")
  | flt (x : UInt64) : TyOf K H (.flt x) (.type "float")
  | lst {a : Addr} {xs : List V} (e : H a = some (.lst xs)) : TyOf K H (.ref a) (.type "list")
  | frz {a : Addr} {o : Obj} {xs : List V} (e : H a = some (.frz o (.lst xs))) : TyOf K H (.ref a) (.type "list")
  | tup {a : Addr} {xs : List V} (e : H a = some (.tup xs)) : TyOf K H (.ref a) (.type "tuple")
  | dK {a : Addr} {kvs : List (Key × V)} (e : H a = some (.dK kvs)) : TyOf K H (.ref a) (.type "dict")
  | dT {a : Addr} {kvs : List (List Key × V)} (e : H a = some (.dT kvs)) : TyOf K H (.ref a) (.type "dict")
  | ins {a C dx : Addr} {fs : List (Str × V)} (e : H a = some (.ins C dx fs)) (cl : Cls K C) (ha : PySem.W.findIn K (.ref C) "__class__" = some (some (.builtin "object.__class__")))
      (hn : PySem.W.specialIn K (.builtin "object.__class__") "__get__" = some (some (.builtin "getset_descriptor.__get__"))) (htk : PySem.W.takesIn K (.builtin "object.__class__") = some true)
      (hm : PySem.W.mroIn K C (.type "object") = some true) : TyOf K H (.ref a) (.ref C)
/-- isinstance(x, c) for one class c, a built-in or an own one: kitOne's answer -/
theorem isinst_ok {x : V} {u t : Value} (I : Inv X pins σ H s) (rx : RelV x u) (ty : TyOf X.K H x t) (e : PySem.W.kitOne X.K t c = some b) (h : ∀ tk, Q (.bool b) { s with toks := tk }) :
    wpAny (model X.prog X.w) A (call (.builtin "isinstance") [u, c]) Q E s := by
  cases ty with
  | non => cases (show u = Value.none from rx); exact PySem.W.kia_one PySem.W.kitx_none I.kIn True.intro e (fun z => nomatch z) h
  | bl y => cases (show u = Value.bool y from rx); exact PySem.W.kia_one PySem.W.kitx_bool I.kIn True.intro e (fun z => nomatch z) h
  | int i => obtain ⟨t, q⟩ := (show ∃ t, u = Value.int i t from rx); cases q; exact PySem.W.kia_one PySem.W.kitx_int I.kIn True.intro e (fun z => nomatch z) h
  | str y => obtain ⟨t, q⟩ := (show ∃ t, u = Value.str y t from rx); cases q; exact PySem.W.kia_one PySem.W.kitx_str I.kIn True.intro e (fun z => nomatch z) h
  | flt y => obtain ⟨t, q⟩ := (show ∃ t, u = Value.float y t from rx); cases q; exact PySem.W.kia_one PySem.W.kitx_float I.kIn True.intro e (fun z => nomatch z) h
  | @lst a xs ea =>
    cases (show u = Value.ref a from rx)
    obtain ⟨_, _, n, _, h1⟩ := (show ObjOk X.prog X.w H s.heap a (.lst xs) from I.hok a _ ea)
    exact PySem.W.kia_one PySem.W.kitx_list I.kIn ⟨_, h1, rfl⟩ e (fun z => nomatch z) h
  | @frz a ob xs ea =>
    cases (show u = Value.ref a from rx)
    obtain ⟨_, _, _, n, _, h1⟩ := (show ObjOk X.prog X.w H s.heap a (.frz ob (.lst xs)) from I.hok a _ ea)
    exact PySem.W.kia_one PySem.W.kitx_list I.kIn ⟨_, h1, rfl⟩ e (fun z => nomatch z) h
  | @tup a xs ea =>
    cases (show u = Value.ref a from rx)
    obtain ⟨_, _, _, p⟩ := (show ObjOk X.prog X.w H s.heap a (.tup xs) from I.hok a _ ea)
    obtain ⟨o, h1, h2, _⟩ := p
    exact PySem.W.kia_one PySem.W.kitx_tuple I.kIn ⟨o, h1, h2⟩ e (fun z => nomatch z) h
  | @dK a kvs ea =>
    cases (show u = Value.ref a from rx)
    obtain ⟨_, _, vs, _, p⟩ := (show ObjOk X.prog X.w H s.heap a (.dK kvs) from I.hok a _ ea)
    obtain ⟨o, es, ep, h1, h2, _⟩ := p
    exact PySem.W.kia_one PySem.W.kitx_dict I.kIn ⟨o, h1, h2.1⟩ e (fun z => nomatch z) h
  | @dT a kvs ea =>
    cases (show u = Value.ref a from rx)
    obtain ⟨_, _, xs, _, o, es, ep, h1, h2, _⟩ := (show ObjOk X.prog X.w H s.heap a (.dT kvs) from I.hok a _ ea)
    exact PySem.W.kia_one PySem.W.kitx_dict I.kIn ⟨o, h1, h2.1⟩ e (fun z => nomatch z) h
  | @ins a C dx fs ea cl ha hn htk hm =>
    cases (show u = Value.ref a from rx)
    obtain ⟨mA, O, _⟩ := ins_get I.hok ea
    obtain ⟨od, J, _⟩ := O.look
    exact PySem.W.kia_one (PySem.W.kitx_own (cl.get _) cl.hd ha hn htk hm) I.kIn J e (fun z => nomatch z) h
end
end L2

namespace L2
open PySem PySem.Spec PyProof.Rows

structure Room (k : Nat) (A : Around) : Prop where
  hd : A.handled = none
  dp : A.depth + 3 * k + 5 < recursionLimit
  un : A.units + 16 * k + 200 < cLine
theorem Room.mono {j k : Nat} {A : Around} (r : Room k A) (h : j ≤ k) : Room j A := ⟨r.hd, by have := r.dp; omega, by have := r.un; omega⟩
theorem Room.deeper {k : Nat} {A : Around} (r : Room (k + 1) A) (env : Env) : Room k (A.deeper env) :=
  ⟨r.hd, by have := r.dp; show A.depth + 1 + 3 * k + 5 < _; omega, by have := r.un; show A.units + 3 + 16 * k + 200 < _; omega⟩
theorem make_depth {A : Around} {C : Addr} {us : List Value} {kw : List (Str × Value)} : (A.under (.builtin "type.__call__" ⟨.ref C :: us, kw⟩)).depth = A.depth + 1 := by
  first | rfl | simp [Around.under, Code.weight, Code.isCreation, Code.isGuard, Code.isCaller, Code.frames, Code.isFrame, guardIds]
theorem make_units {A : Around} {C : Addr} {us : List Value} {kw : List (Str × Value)} : (A.under (.builtin "type.__call__" ⟨.ref C :: us, kw⟩)).units = A.units + 1 := by
  first | rfl | simp [Around.under, Code.cUnits, Code.frames, Code.isFrame]
theorem Room.make {k : Nat} {A : Around} (r : Room (k + 1) A) (C : Addr) (us : List Value) (kw : List (Str × Value)) : Room k (A.under (.builtin "type.__call__" ⟨.ref C :: us, kw⟩)) :=
  ⟨r.hd, by have := r.dp; rw [make_depth]; omega, by have := r.un; rw [make_units]; omega⟩
theorem Room.depth {k : Nat} {A : Around} (r : Room k A) : A.depth < recursionLimit := by have := r.dp; omega
theorem Room.units {k : Nat} {A : Around} (r : Room k A) : A.units + 64 < cLine := by have := r.un; omega
def tNil : TA := fun _ H Q => Q [] H
def tCons (ta : TE) (tr : TA) : TA := fun σ H Q => ta σ H fun x H1 => tr σ H1 fun xs H2 => Q (x :: xs) H2
section
variable {X : Cx} {e : Expr} {es : List Expr} {te : TE} {t : TA} {pos : Pos}
theorem pa_nil : PA X [] tNil := fun _ _ _ _ H Q I h => Calls.spliced_nil ⟨[], H, I, .nil, h⟩
theorem pa_cons (ha : PE X e te) (hr : PA X es t) (hs : starEach (e :: es) X.env = (false, eval e X.env) :: starEach es X.env := by rfl) : PA X (e :: es) (tCons te t) := by
  intro pos pins s σ H Q I h
  rw [hs]
  show wpAny _ _ (spliced ((false, eval e X.env) :: backTo pos (starEach es X.env))) _ _ s
  refine Calls.spliced_cons (thn (ha pins s σ H _ I h) fun u s1 ⟨x, H1, I1, r1, q1⟩ => ?_)
  exact thn (hr pos pins s1 σ H1 _ I1 q1) fun us s2 ⟨xs, H2, I2, r2, q2⟩ => ⟨x :: xs, H2, I2, .cons r1 r2, q2⟩

/-- a tuple, a list of written items -/
def tTup (t : TA) : TE := fun σ H Q => t σ H fun xs H1 => xs.length ≤ sizeLine ∧ ∀ p, H1 p = none → Q (.ref p) (upd H1 p (.tup xs))
def tLst (t : TA) : TE := fun σ H Q => t σ H fun xs H1 => xs.length ≤ sizeLine ∧ ∀ p, H1 p = none → Q (.ref p) (upd H1 p (.lst xs))
theorem pe_tup {x1} (h : PA X es t) : PE X (.Tuple es x1 pos) (tTup t) := by
  intro pins s σ H Q I hq
  refine wpAny_Tuple_spliced (thn (h pos pins s σ H _ I hq) fun us s1 ⟨xs, H1, I1, r, z, q⟩ => ⟨by rw [← r.length]; exact z, ?_⟩)
  have hf : H1 s1.heap.objs.size = none := I1.hok.fresh (Nat.le_refl _)
  refine ⟨.ref s1.heap.objs.size, upd H1 s1.heap.objs.size (.tup xs), I1.laid (t' := s1.toks) (fun b u e => Heap.get?_push_of_some _ e) (Nat.le_refl _) ?_, rfl, q _ hf⟩
  exact ⟨z, us, r, ⟨_, Heap.get?_push_size _ rfl, rfl, _, rfl⟩⟩
theorem pe_lst (h : PA X es t) : PE X (.List es pos) (tLst t) := by
  intro pins s σ H Q I hq
  refine wpAny_List_spliced (thn (h pos pins s σ H _ I hq) fun us s1 ⟨xs, H1, I1, r, z, q⟩ => ⟨by rw [← r.length]; exact z, ?_⟩)
  have hf : H1 s1.heap.objs.size = none := I1.hok.fresh (Nat.le_refl _)
  refine ⟨.ref s1.heap.objs.size, upd H1 s1.heap.objs.size (.lst xs), I1.laid (t' := s1.toks) (fun b u e => Heap.get?_push_of_some _ e) (Nat.le_refl _) ?_, rfl, q _ hf⟩
  exact ⟨z, us, 0, r, Heap.get?_push_size _ rfl⟩
end

/-- a def's promise: the bound arguments in the parameters' order, the heap, the wanted end, the wanted exception -/
abbrev Sp := List V → Hp → VK → XK → Prop
/-- how an exception lies behind a call (file 08 gives it): the callers' frames, abstract heap and state ahead of the call, the wish, the exception, the state -/
abbrev CXT := List Env → Hp → Shared → XK → Value → Shared → Prop

/-- the state at a call -/
structure Env0 (P : Program) (w : World) (K : PySem.W.Frag) (mg : Str → Option Value) (base : Heap) (A : Around) (outer : List Env) (s : Shared) (H : Hp) : Prop where
  frames : A.frames = some outer
  mod : Mod K mg base
  bs : ∀ b o, base.get? b = some o → s.heap.get? b = some o ∧ H b = none
  bsz : base.objs.size ≤ s.heap.objs.size
  funs : s.heap.FunFrames base outer
  frf : ∀ b ∈ frs outer, H b = none
  hok : HOk P w H s.heap
  bare : AllBare s.gens
/-- a call's end -/
def CE (outer : List Env) (P : Program) (w : World) (H : Hp) (s : Shared) (Q : VK) (u : Value) (s' : Shared) : Prop :=
  ∃ v H', s'.os = s.os ∧ AllBare s'.gens ∧ Un (frs outer) [] H H' s.heap s'.heap ∧ HOk P w H' s'.heap ∧ RelV v u ∧ Q v H'
def CR (CX : CXT) (outer : List Env) (P : Program) (w : World) (H : Hp) (s : Shared) (Q : VK) (E : XK) (r : Result) (s' : Shared) : Prop :=
  match r with
  | .ok (.ret u) => CE outer P w H s Q u s'
  | .ok _ => False
  | .error e => CX outer H s E e s'
structure FnOk (P : Program) (w : World) (K : PySem.W.Frag) (mg : Str → Option Value) (base : Heap) (CX : CXT) (k : Nat) (f : Addr) (fd : FuncData) (ps : List Str) (sp : Sp) : Prop where
  len : ∀ vs H Q E, sp vs H Q E → vs.length = ps.length
  run : ∀ (A : Around) (outer : List Env) (s : Shared) (H : Hp) (args : Args) (us : List Value) (vs : List V) (Q : VK) (E : XK), Room k A → Env0 P w K mg base A outer s H → BindsTo s fd args (ps.zip us) → Vals vs us → sp vs H Q E →
    codeAny (model P w) A (.call (.ref f) args) (CR CX outer P w H s Q E) s
theorem FnOk.mono {P : Program} {w : World} {K : PySem.W.Frag} {mg : Str → Option Value} {base : Heap} {CX : CXT} {j k : Nat} {f : Addr} {fd : FuncData} {ps : List Str} {sp : Sp} (F : FnOk P w K mg base CX j f fd ps sp) (h : j ≤ k) :
    FnOk P w K mg base CX k f fd ps sp := ⟨F.len, fun A outer s H args us vs Q E hr => F.run A outer s H args us vs Q E (hr.mono h)⟩
theorem Env0.make {P : Program} {w : World} {K : PySem.W.Frag} {mg : Str → Option Value} {base : Heap} {A : Around} {outer : List Env} {s : Shared} {H : Hp} (e : Env0 P w K mg base A outer s H) (C : Addr) (us : List Value) (kw : List (Str × Value)) :
    Env0 P w K mg base (A.under (.builtin "type.__call__" ⟨.ref C :: us, kw⟩)) outer s H := ⟨by first | exact e.frames | (simpa [Around.under, Code.envs, Code.isFrame, pushEnvs] using e.frames), e.mod, e.bs, e.bsz, e.funs, e.frf, e.hok, e.bare⟩
section
variable {X : Cx} {pins : List (Addr × Obj)} {σ : St} {H : Hp} {s s' : Shared}
/-- from a body: what a callee wants -/
theorem Inv.env0 (I : Inv X pins σ H s) : Env0 X.prog X.w X.K X.mg X.base X.A X.stack s H :=
  ⟨I.ok.frames, I.ok.mod, I.bs, Nat.le_trans I.ok.bsz I.sz, I.stack, I.stkFree, I.hok, I.bare⟩
/-- behind a call -/
theorem Inv.after {Q : VK} {u : Value} (I : Inv X pins σ H s) (h : CE X.stack X.prog X.w H s Q u s') : EP X pins σ Q u s' := by
  obtain ⟨v, H', os, bare, un, hok, r, q⟩ := h
  obtain ⟨hh, g, d, t, os'⟩ := s'
  obtain rfl : os' = s.os := os
  exact ⟨v, H', I.call (h' := hh) (g' := g) (d' := d) (t' := t) (ch := []) un hok bare (fun b z => absurd z (by simp)), r, q⟩
end

/-- f(..): the written arguments, then the defaults dvs; E: what is wanted of an exception -/
def tCall (sp : Sp) (dvs : List V) (E : XK) (t : TA) : TE := fun σ H Q => t σ H fun vs H1 => sp (vs ++ dvs) H1 Q E
/-- o.m(..) of an instance of the class at C -/
def tMeth (C : Addr) (m : Str) (sp : Sp) (dvs : List V) (E : XK) (ta : TE) (t : TA) : TE := fun σ H Q => ta σ H fun x H1 => ∃ a dx fs, x = .ref a ∧ H1 a = some (.ins C dx fs) ∧ fs.lookup m = none ∧
  t σ H1 fun vs H2 => sp (x :: (vs ++ dvs)) H2 Q E
/-- C(..): a new instance and its dict, then __init__ -/
def tMake (C : Addr) (sp : Sp) (dvs : List V) (E : XK) (t : TA) : TE := fun σ H Q => t σ H fun vs H1 => ∀ x dx, H1 x = none → H1 dx = none → dx ≠ x →
  sp (.ref x :: (vs ++ dvs)) (upd (upd H1 dx (.own x)) x (.ins C dx [])) (fun v H2 => v = .non ∧ Q (.ref x) H2) E

/-- how the parameters are bound: us the positional arguments, kw the keywords' values by name, ds the defaults that fill up -/
def Binds (K : PySem.W.Frag) (fd : FuncData) (ps : List Str) (ds : List Value) : Prop :=
  ∀ (s : Shared) (us : List Value), K.In s.heap → (us ++ ds).length = ps.length → BindsTo s fd ⟨us, []⟩ (ps.zip (us ++ ds))
/-- every parameter is given -/
theorem Binds.all {K : PySem.W.Frag} {fd : FuncData} {ps : List Str} (h : ∀ us : List Value, us.length = ps.length → bindArgs fd ⟨us, []⟩ = pure (ps.zip us)) : Binds K fd ps [] := fun s us _ hl => by
  rw [List.append_nil] at hl ⊢
  exact .of_eq (h us hl)

/-- an exception of a callee reaches what this body wants of exceptions -/
def Passes (CX : CXT) (X : Cx) (E : XK) : Prop := ∀ (pins : List (Addr × Obj)) (σ : St) (H : Hp) (s : Shared) (e : Value) (s' : Shared), Inv X pins σ H s → CX X.stack H s E e s' → X.xe e s'

section
variable {X : Cx} {CX : CXT} {k : Nat} {f C : Addr} {fd : FuncData} {ps : List Str} {sp : Sp} {dvs : List V} {ds : List Value} {E : XK} {x m : Str} {p pos apos : Pos} {e o : Expr} {es : List Expr} {ta : TE} {t : TA}

/-- the callee runs -/
theorem run_fn {pins : List (Addr × Obj)} {σ : St} {H : Hp} {s : Shared} {Q : VK} {us : List Value} {vs : List V} (F : FnOk X.prog X.w X.K X.mg X.base CX k f fd ps sp) (hr : Room k X.A) (hb : Binds X.K fd ps ds) (hd : Vals dvs ds) (hx : Passes CX X E)
    (I : Inv X pins σ H s) (r : Vals vs us) (h : sp (vs ++ dvs) H Q E) : wpAny (model X.prog X.w) X.A (call (.ref f) us) (EP X pins σ Q) X.xe s := by
  have r2 : Vals (vs ++ dvs) (us ++ ds) := r.append hd
  have hl : (us ++ ds).length = ps.length := by rw [← r2.length]; exact F.len _ _ _ _ h
  refine wpAny_call (codeAny_mono (F.run X.A X.stack s H ⟨us, []⟩ (us ++ ds) (vs ++ dvs) Q E hr I.env0 (hb s us I.kIn hl) r2 h) fun r s' hq => ?_)
  cases r with
  | error e => exact hx pins σ H s e s' I hq
  | ok fl =>
    cases fl with
    | ret u => exact I.after hq
    | next => exact False.elim hq
    | brk => exact False.elim hq
    | cont => exact False.elim hq

theorem pe_call (F : FnOk X.prog X.w X.K X.mg X.base CX k f fd ps sp) (hr : Room k X.A) (hg : Gl X x) (hm : X.mg x = some (.ref f)) (hk : PySem.W.keepIn X.K (.ref f) = true) (hb : Binds X.K fd ps ds) (hd : Vals dvs ds) (hx : Passes CX X E)
    (ha : PA X (e :: es) t) (hdb : (x == ("__debug__" : Str)) = false := by decide) (he : starEach (e :: es) X.env = (false, eval e X.env) :: starEach es X.env := by rfl) (hpl : (backTo pos (starEach es X.env)).any (·.1) = false := by rfl) :
    PE X (.Call (.Name x p) (e :: es) [] pos) (tCall sp dvs E t) := by
  intro pins s σ H Q I h
  refine wpAny_Call_Name_kw (ld_glob I hg hm ?_ hdb)
  refine PySem.W.callWith_K (h₀ := X.base) I.ok.mod.kin hk (thn (ha pos pins s σ H _ I h) fun us s1 ⟨vs, H1, I1, r, q⟩ => ⟨I1.kIn, ?_⟩) he hpl
  exact run_fn F hr hb hd hx I1 r q
/-- what a class must have to be made -/
structure Mk (K : PySem.W.Frag) (C f : Addr) : Prop where
  makes : PySem.W.makesIn K C = true
  init : PySem.W.findIn K (.ref C) "__init__" = some (some (.ref f))
  fn : PySem.W.isFn K (.ref f) = true
  kp : PySem.W.keepIn K (.ref C) = true

theorem run_make {pins : List (Addr × Obj)} {σ : St} {H : Hp} {s : Shared} {Q : VK} {us : List Value} {vs : List V} (M : Mk X.K C f) (F : FnOk X.prog X.w X.K X.mg X.base CX k f fd ps sp) (hr : Room (k + 1) X.A) (hb : Binds X.K fd ps ds) (hd : Vals dvs ds)
    (hx : Passes CX X E) (I : Inv X pins σ H s) (r : Vals vs us)
    (h : ∀ x dx, H x = none → H dx = none → dx ≠ x → sp (.ref x :: (vs ++ dvs)) (upd (upd H dx (.own x)) x (.ins C dx [])) (fun v H2 => v = .non ∧ Q (.ref x) H2) E) :
    wpAny (model X.prog X.w) X.A (call (.ref C) us) (EP X pins σ Q) X.xe s := by
  have hq := h (s.heap.objs.size + 1) s.heap.objs.size (I.hok.fresh (Nat.le_succ _)) (I.hok.fresh (Nat.le_refl _)) (Nat.ne_of_lt (Nat.lt_succ_self _))
  have I2 := Inv.made (C := C) I
  have r2 : Vals (V.ref (s.heap.objs.size + 1) :: (vs ++ dvs)) (Value.ref (s.heap.objs.size + 1) :: (us ++ ds)) := .cons rfl (r.append hd)
  have hl : (Value.ref (s.heap.objs.size + 1) :: us ++ ds).length = ps.length := by
    have e := r2.length
    rw [F.len _ _ _ _ hq] at e
    exact e.symm
  refine wpAny_call (make_map (f := f) I.kIn M.makes M.init (beq_iff_eq.mp M.fn) (codeAny_mono (F.run _ X.stack _ _ ⟨Value.ref (s.heap.objs.size + 1) :: us, []⟩ (Value.ref (s.heap.objs.size + 1) :: (us ++ ds)) _ _ E (hr.make C us [])
    (I2.env0.make C us []) (hb _ (Value.ref (s.heap.objs.size + 1) :: us) I2.kIn hl) r2 hq) fun r s' hq' => ?_))
  cases r with
  | error e => exact hx pins σ _ _ e s' I2 hq'
  | ok fl =>
    cases fl with
    | ret u =>
      obtain ⟨v, H', I3, rv, ev, q3⟩ := I2.after hq'
      subst ev
      exact ⟨rv, ⟨V.ref (s.heap.objs.size + 1), H', I3, rfl, q3⟩⟩
    | next => exact False.elim hq'
    | brk => exact False.elim hq'
    | cont => exact False.elim hq'
theorem pe_make (M : Mk X.K C f) (F : FnOk X.prog X.w X.K X.mg X.base CX k f fd ps sp) (hr : Room (k + 1) X.A) (hg : Gl X x) (hm : X.mg x = some (.ref C)) (hb : Binds X.K fd ps ds) (hd : Vals dvs ds) (hx : Passes CX X E)
    (ha : PA X (e :: es) t) (hdb : (x == ("__debug__" : Str)) = false := by decide) (he : starEach (e :: es) X.env = (false, eval e X.env) :: starEach es X.env := by rfl) (hpl : (backTo pos (starEach es X.env)).any (·.1) = false := by rfl) :
    PE X (.Call (.Name x p) (e :: es) [] pos) (tMake C sp dvs E t) := by
  intro pins s σ H Q I h
  refine wpAny_Call_Name_kw (ld_glob I hg hm ?_ hdb)
  refine PySem.W.callWith_K (h₀ := X.base) I.ok.mod.kin M.kp (thn (ha pos pins s σ H _ I h) fun us s1 ⟨vs, H1, I1, r, q⟩ => ⟨I1.kIn, ?_⟩) he hpl
  exact run_make M F hr hb hd hx I1 r q
end

/-- the values of the keywords, from the left -/
def PK (X : Cx) (kws : List Keyword) (t : TA) : Prop :=
  ∀ (pos : Pos) (pins : List (Addr × Obj)) (s : Shared) (σ : St) (H : Hp) (Q : List V → Hp → Prop), Inv X pins σ H s → t σ H Q → wpAny (model X.prog X.w) X.A (evalAll ((backToKw pos (keywordEach kws X.env)).map (·.2))) (AP X pins σ Q) X.xe s
section
variable {X : Cx} {CX : CXT} {k : Nat} {f C : Addr} {fd : FuncData} {ps ks : List Str} {sp : Sp} {E : XK} {x m : Str} {p pos apos kpos : Pos} {e o : Expr} {es : List Expr} {kws : List Keyword} {te ta : TE} {t tk : TA} {nm : Option Str}
/-- how a call with keywords binds: g puts the positional values us and the keywords' values ws (names ks) in the parameters' order, defaults among them -/
structure KBinds (K : PySem.W.Frag) (fd : FuncData) (ps ks : List Str) (g : List Value → List Value → List Value) (gV : List V → List V → List V) : Prop where
  to : ∀ (s : Shared) (us ws : List Value), K.In s.heap → (g us ws).length = ps.length → BindsTo s fd ⟨us, ks.zip ws⟩ (ps.zip (g us ws))
  rel : ∀ {vs : List V} {us : List Value} {zs : List V} {ws : List Value}, Vals vs us → Vals zs ws → Vals (gV vs zs) (g us ws)
def tCallK (sp : Sp) (gV : List V → List V → List V) (E : XK) (t tk : TA) : TE := fun σ H Q => t σ H fun vs H1 => tk σ H1 fun zs H2 => sp (gV vs zs) H2 Q E
variable {g : List Value → List Value → List Value} {gV : List V → List V → List V}
end

/-- names: the parameters first -/
structure FnScope (N P : List Str) (sc : Scope) : Prop where
  kind : sc.kind = .function
  co : sc.isCoroutine = false
  gen : sc.isGenerator = false
  nd : N.Nodup
  pre : N.take P.length = P
  par : ∀ x ∈ P, sc.names.lookup x = some .local ∨ sc.names.lookup x = some .cell
  nofree : ∀ y ∈ sc.names, y.2 ≠ .free

theorem bindL_out {kindOf : Str → Option NameKind} {x : Str} : ∀ {binds : List (Str × Value)} {m : Str → Option Value}, (∀ v, (x, v) ∉ binds) → bindL kindOf binds m x = m x
  | [], _, _ => rfl
  | (n, v) :: r, m, h => by
    unfold bindL
    rw [bindL_out fun w hw => h w (List.mem_cons_of_mem _ hw)]
    split
    · have : x ≠ n := by rintro rfl; exact h v List.mem_cons_self
      simp [this]
    · rfl
theorem bindC_out {kindOf : Str → Option NameKind} {x : Str} : ∀ {binds : List (Str × Value)} {m : Str → Option Value}, (∀ v, (x, v) ∉ binds) → bindC kindOf binds m x = m x
  | [], _, _ => rfl
  | (n, v) :: r, m, h => by
    unfold bindC
    rw [bindC_out fun w hw => h w (List.mem_cons_of_mem _ hw)]
    split
    · rfl
    · have : x ≠ n := by rintro rfl; exact h v List.mem_cons_self
      simp [this]
theorem bindL_get {kindOf : Str → Option NameKind} {x : Str} {v : Value} : ∀ {P : List Str} {vs : List Value} {i : Nat} {m : Str → Option Value}, P.Nodup → P[i]? = some x → vs[i]? = some v → kindOf x = some .local →
    bindL kindOf (P.zip vs) m x = some v
  | [], _, _, _, _, h, _, _ => by simp at h
  | _ :: _, [], _, _, _, _, h, _ => by simp at h
  | p :: P, w :: vs, 0, m, nd, h1, h2, hk => by
    simp at h1 h2; subst h1; subst h2
    show bindL kindOf ((p, w) :: P.zip vs) m p = _
    unfold bindL
    rw [bindL_out fun v hv => (List.nodup_cons.mp nd).1 (List.of_mem_zip hv).1, if_pos hk]
    simp
  | p :: P, w :: vs, i + 1, m, nd, h1, h2, hk => by
    show bindL kindOf ((p, w) :: P.zip vs) m x = _
    unfold bindL
    exact bindL_get (i := i) (List.nodup_cons.mp nd).2 (by simpa using h1) (by simpa using h2) hk
theorem bindC_get {kindOf : Str → Option NameKind} {x : Str} {v : Value} : ∀ {P : List Str} {vs : List Value} {i : Nat} {m : Str → Option Value}, P.Nodup → P[i]? = some x → vs[i]? = some v → kindOf x ≠ some .local →
    bindC kindOf (P.zip vs) m x = some v
  | [], _, _, _, _, h, _, _ => by simp at h
  | _ :: _, [], _, _, _, _, h, _ => by simp at h
  | p :: P, w :: vs, 0, m, nd, h1, h2, hk => by
    simp at h1 h2; subst h1; subst h2
    show bindC kindOf ((p, w) :: P.zip vs) m p = _
    unfold bindC
    rw [bindC_out fun v hv => (List.nodup_cons.mp nd).1 (List.of_mem_zip hv).1, if_neg hk]
    simp
  | p :: P, w :: vs, i + 1, m, nd, h1, h2, hk => by
    show bindC kindOf ((p, w) :: P.zip vs) m x = _
    unfold bindC
    exact bindC_get (i := i) (List.nodup_cons.mp nd).2 (by simpa using h1) (by simpa using h2) hk

/-- the names' values at the entry -/
def start (N : List Str) (vs : List V) : St := vs.map some ++ List.replicate (N.length - vs.length) none

/-- the context of a def's body, at its entry; an exception leaves the frame, then lies as CX says -/
def cxOf (CX : CXT) (P : Program) (w : World) (K : PySem.W.Frag) (mg : Str → Option Value) (base : Heap) (N : List Str) (qual : Str) (scope : Scope) (f : Addr) (cd : Value) (A : Around) (outer : List Env) (s : Shared) (H : Hp) (E : XK) : Cx where
  prog := P
  w := w
  K := K
  mg := mg
  base := base
  A := A.deeper (envOfC qual scope s.heap.objs.size f cd)
  N := N
  s₀ := s
  H₀ := H
  env := envOfC qual scope s.heap.objs.size f cd
  outer := outer
  stack := envOfC qual scope s.heap.objs.size f cd :: outer
  ex := []
  calm := true
  fn := fun _ => true
  pn := []
  xe := fun e s' => wpAny (model P w) (A.deeper (envOfC qual scope s.heap.objs.size f cd)) (leaving (envOfC qual scope s.heap.objs.size f cd) e) (fun _ s'' => CX outer H s E e s'') (fun e' s'' => CX outer H s E e' s'') s'

theorem cell_has {sc : Scope} {n : Nat} {x : Str} (h : sc.names.lookup x = some .cell) : ∃ c, (cellsFrom n sc.names []).lookup x = some c := by
  have q := PySem.W.cellsFrom_some sc.names n [] (.inl h)
  exact Option.isSome_iff_exists.mp q

theorem inv_start {CX : CXT} {P : Program} {w : World} {K : PySem.W.Frag} {mg : Str → Option Value} {base : Heap} {N ps : List Str} {qual : Str} {scope : Scope} {f : Addr} {cd : Value} {A : Around} {outer : List Env} {s s1 : Shared} {H : Hp} {E : XK} {us : List Value} {vs : List V}
    (S : FnScope N ps scope) (hd : A.handled = none) (e0 : Env0 P w K mg base A outer s H) (hl : vs.length = ps.length) (r : Vals vs us)
    (x : InCallC s s.heap.objs.size (bindL (envOfC qual scope s.heap.objs.size f cd).kindOf (ps.zip us) fun _ => none) (cellsFrom (s.heap.objs.size + 1) scope.names []) (bindC (envOfC qual scope s.heap.objs.size f cd).kindOf (ps.zip us) fun _ => none) s1) :
    Inv (cxOf CX P w K mg base N qual scope f cd A outer s H E) [] (start N vs) H s1 := by
  have hpl : ps.length ≤ N.length := by have := congrArg List.length S.pre; rw [List.length_take] at this; omega
  obtain ⟨h1, tk, rfl, hk⟩ := x.done
  have noA : ∀ b : Addr, b ∉ (cxOf CX P w K mg base N qual scope f cd A outer s H E).ex := fun b z => absurd (show b ∈ ([] : List Addr) from z) (by simp)
  refine ⟨⟨e0.mod, S.kind, rfl, rfl, Nat.le_refl _, fun y z c h1 h2 => ?_, fun y hy => ?_, fun y c _ h => ?_, fun _ => hd, Around.frames_deeper e0.frames, .inr ⟨rfl, rfl⟩, fun b z => absurd z (noA b), e0.bs, e0.bsz, fun b _ _ => noA b, fun b z => absurd z (noA b), e0.funs, e0.frf⟩,
    rfl, e0.bare, Un.kept hk, ⟨_, x.toInCall.ns, fun i y v h1 h2 h3 => ?_⟩, fun y c h => ⟨_, x.cell y c h⟩, e0.hok.fresh (Nat.le_refl _), fun y c h => ?_, fun p hp => absurd (show p ∈ ([] : List (Addr × Obj)) from hp) (by simp), e0.hok.kept hk, ?_⟩
  · exact name_of_addr x.apart (PySem.mem_of_lookup h1) (PySem.mem_of_lookup h2)
  · have hy : scope.names.lookup y = some .cell ∨ scope.names.lookup y = some .free := hy
    rcases hy with hy | hy
    · exact cell_has hy
    · exact absurd rfl (S.nofree _ (PySem.mem_of_lookup hy))
  · exact Nat.le_of_lt (x.above y c (PySem.mem_of_lookup h))
  · have hi : i < vs.length := by
      unfold start at h2
      by_cases hi : i < vs.length
      · exact hi
      · rw [List.getElem?_append_right (by simpa using hi)] at h2
        rw [List.getElem?_replicate] at h2
        split at h2 <;> cases h2
    have ha : vs[i]? = some v := by
      unfold start at h2
      rw [List.getElem?_append_left (by simpa using hi), List.getElem?_map] at h2
      cases e : vs[i]? with
      | none => rw [e] at h2; cases h2
      | some a => rw [e] at h2; cases h2; rfl
    obtain ⟨u, hu, rv⟩ := r.get ha
    have hp : ps[i]? = some y := by
      rw [← S.pre, List.getElem?_take_of_lt (by omega)]; exact h1
    have ndP : ps.Nodup := by rw [← S.pre]; exact S.nd.sublist (List.take_sublist _ _)
    refine ⟨u, rv, ?_⟩
    rcases S.par y (List.mem_of_getElem? hp) with k | k
    · exact .inl ⟨k, bindL_get ndP hp hu k⟩
    · obtain ⟨c, e⟩ := cell_has (n := s.heap.objs.size + 1) k
      refine .inr ⟨.inl k, c, e, ?_⟩
      have q := x.cell y c e
      rw [bindC_get ndP hp hu (by show scope.names.lookup y ≠ _; rw [k]; decide)] at q
      exact q
  · exact e0.hok.fresh (Nat.le_of_lt (x.above y c (PySem.mem_of_lookup h)))
  · unfold start
    show _ = N.length
    rw [List.length_append, List.length_map, List.length_replicate]
    omega

/-- THE RULE: a def (or a method) of the text, by its body. The body's reading t is chosen for each entry; it is run at the parameters' values -/
theorem fn_of {CX : CXT} {P : Program} {w : World} {K : PySem.W.Frag} {mg : Str → Option Value} {base : Heap} {k : Nat} {f : Addr} {name qual : Str} {params : Arguments} {body : List Stmt} {scope : Scope} {dV kV doc pm cdv ct oc : Value} {an od : Option Addr}
    {osl : Array (Option Value)} {N ps : List Str} {sp : Sp} (lk : K.lookup f = some ⟨oc, od, .func (PySem.W.fnOf name qual params body scope dV kV doc pm an cdv ct), osl⟩) (hcd : PySem.W.codeIn K cdv qual = true) (S : FnScope N ps scope)
    (len : ∀ vs H Q E, sp vs H Q E → vs.length = ps.length)
    (hbody : ∀ (A : Around) (outer : List Env) (s : Shared) (H : Hp) (vs : List V) (Q : VK) (E : XK), Room k (A.deeper (envOfC qual scope s.heap.objs.size f cdv)) → sp vs H Q E →
      ∃ t, PSs (cxOf CX P w K mg base N qual scope f cdv A outer s H E) body t ∧ t { nx := fun _ H' => Q .non H', rt := Q } (start N vs) H) :
    FnOk P w K mg base CX (k + 1) f (PySem.W.fnOf name qual params body scope dV kV doc pm an cdv ct) ps sp := by
  refine ⟨len, fun A outer s H args us vs Q E hr e0 hb r hsp => ?_⟩
  have hl := len _ _ _ _ hsp
  have KX : K.In s.heap := e0.mod.kin.keeps fun b o e => (e0.bs b o e).1
  have lim : s.heap.NoLimit := e0.mod.nolimit.keeps fun b o e => (e0.bs b o e).1
  have hkind : ∀ y ∈ ps.zip us, scope.names.lookup y.1 = some .local ∨ (scope.names.lookup y.1 = some .cell ∧ ((cellsFrom (s.heap.objs.size + 1) scope.names []).lookup y.1).isSome = true) := fun ⟨n, v⟩ hy => by
    rcases S.par n (List.of_mem_zip hy).1 with q | q
    · exact .inl q
    · exact .inr ⟨q, PySem.W.cellsFrom_some _ _ _ (.inl q)⟩
  refine codeAny_call_function hr.depth (KX _ _ lk) rfl S.co S.gen rfl (PySem.W.codeRec_of KX hcd) (hb _ _ _ _ ?_)
  refine wpAny_newFunctionEnv_cells S.kind hkind fun env he s1 x => ?_
  subst he
  refine ⟨lim.keeps x.toInCall.keep, codeAny_func ?_⟩
  obtain ⟨t, ht, hq⟩ := hbody A outer s H vs Q E (hr.deeper _) hsp
  have I : Inv (cxOf CX P w K mg base N qual scope f cdv A outer s H E) [] (start N vs) H s1 := inv_start S hr.hd e0 hl r x
  refine wpAny_mono (ht [] s1 (start N vs) H _ I hq) (fun fl s' hs => ?_) fun e s' hs => hs
  have fin : ∀ {σ' : St} {H' : Hp} {v : V} {u : Value}, Inv (cxOf CX P w K mg base N qual scope f cdv A outer s H E) [] σ' H' s' → RelV v u → Q v H' → CE outer P w H s Q u s' :=
    fun {σ' H' v u} J rv q => ⟨v, H', J.os, J.bare, J.base, J.hok, rv, q⟩
  cases fl with
  | ret u =>
    obtain ⟨v, σ', H', J, rv, q⟩ := hs
    exact fin J rv q
  | next =>
    obtain ⟨σ', H', J, q⟩ := hs
    exact fin (v := V.non) (u := Value.none) J rfl q
  | brk =>
    obtain ⟨_, _, _, q⟩ := hs
    exact False.elim q
  | cont =>
    obtain ⟨_, _, _, q⟩ := hs
    exact False.elim q
end L2

namespace L2
open PySem PySem.Spec PyProof.Rows
section
variable {X : Cx} {x : Str} {p pos : Pos} {e : Expr} {es : List Expr} {t : TA} {id T : String} {r : List V → Hp → VK → Prop}

def tCB (r : List V → Hp → VK → Prop) (t : TA) : TE := fun σ H Q => t σ H fun vs H1 => r vs H1 Q
/-- f(e, ..), f a built-in function -/
theorem pe_callB (hc : CallR X (.builtin id) r) (hg : Gl X x) (hm : X.mg x = none) (hv : bootBuiltins x = some (.builtin id)) (ha : PA X (e :: es) t) (hn : x ≠ "__name__" := by decide) (hdb : (x == ("__debug__" : Str)) = false := by decide)
    (he : starEach (e :: es) X.env = (false, eval e X.env) :: starEach es X.env := by rfl) (hpl : (backTo pos (starEach es X.env)).any (·.1) = false := by rfl) : PE X (.Call (.Name x p) (e :: es) [] pos) (tCB r t) := by
  intro pins s σ H Q I h
  refine wpAny_Call_Name_kw (ld_blt I hg hm hv ?_ hn hdb)
  exact PyProof.Rows.callWith_builtin1 (thn (ha pos pins s σ H _ I h) fun us s1 ⟨vs, H1, I1, r1, q1⟩ => hc pins s1 σ H1 vs us Q I1 r1 q1) he hpl
/-- T(e, ..), T a built-in type -/
theorem pe_callTy (hc : CallR X (.type T) r) (hg : Gl X x) (hm : X.mg x = none) (hv : bootBuiltins x = some (.type T)) (ha : PA X (e :: es) t) (hn : x ≠ "__name__" := by decide) (hdb : (x == ("__debug__" : Str)) = false := by decide)
    (he : starEach (e :: es) X.env = (false, eval e X.env) :: starEach es X.env := by rfl) (hpl : (backTo pos (starEach es X.env)).any (·.1) = false := by rfl) : PE X (.Call (.Name x p) (e :: es) [] pos) (tCB r t) := by
  intro pins s σ H Q I h
  refine wpAny_Call_Name_kw (ld_blt I hg hm hv ?_ hn hdb)
  exact PyProof.Rows.callWith_type1 (thn (ha pos pins s σ H _ I h) fun us s1 ⟨vs, H1, I1, r1, q1⟩ => hc pins s1 σ H1 vs us Q I1 r1 q1) he hpl
end
end L2

namespace HT
open PySem PyProof.Rows

/-- t < u of tuples of ints -/
def lexLt : List Int → List Int → Bool
  | [], [] => false
  | [], _ :: _ => true
  | _ :: _, [] => false
  | x :: xs, y :: ys => if x = y then lexLt xs ys else decide (x < y)
section
open PySem.SeqAt
open PySem.AutoSeq1 (wpAny_loadPart')
open PySem.MeetsSeq PySem.MeetsSeq2 PySem.MeetsSeq3

end

section
variable {prog : Program} {w : World} {A : Around} {E : Value → Shared → Prop} {s : Shared}

/-- a slice's bound as a place among n (d where it is left out) -/
def sIx (n d : Nat) : Option Int → Nat
  | none => d
  | some v => if v < 0 then (v + (n : Int)).toNat else min v.toNat n
end
end HT

namespace L2
open PySem PySem.Spec PyProof.Rows

abbrev TO := St → Hp → (Option Int → Hp → Prop) → Prop
/-- a slice's part (left out, or an int) -/
def PO (X : Cx) (e : Option Expr) (t : TO) : Prop :=
  ∀ (pins : List (Addr × Obj)) (s : Shared) (σ : St) (H : Hp) (Q : Option Int → Hp → Prop), Inv X pins σ H s → t σ H Q →
    wpAny (model X.prog X.w) X.A (evalPart e X.env) (fun u s' => ∃ o H', Inv X pins σ H' s' ∧ IsPart u o ∧ Q o H') X.xe s
def tNoPart : TO := fun _ H Q => Q none H
def tPart (t : TE) : TO := fun σ H Q => t σ H fun x H1 => ∃ i, x = .int i ∧ Q (some i) H1

section
variable {X : Cx} {e : Expr} {te : TE} {lo hi : Option Expr} {tl th : TO} {pos p2 : Pos}

theorem po_none : PO X none tNoPart := by
  intro pins s σ H Q I h
  rw [evalPart_none]
  exact wpAny_pure ⟨none, H, I, .none, h⟩
theorem po_some (h : PE X e te) : PO X (some e) (tPart te) := by
  intro pins s σ H Q I hw
  rw [evalPart_some]
  refine thn (h pins s σ H _ I hw) fun u s1 ⟨x, H1, I1, r1, q1⟩ => ?_
  obtain ⟨i, rfl, q⟩ := q1
  obtain ⟨t, rfl⟩ := r1
  exact ⟨some i, H1, I1, .int i t, q⟩

/-- what a slice of a value is, by values: the slice object stands at sl -/
def SlR (X : Cx) (r : V → Option Int → Option Int → Hp → VK → Prop) : Prop :=
  ∀ (pins : List (Addr × Obj)) (s : Shared) (σ : St) (H : Hp) (x : V) (v vl vu : Value) (lo hi : Option Int) (sl : Addr) (Q : VK), Inv X pins σ H s → RelV x v → s.heap.IsSliceOf sl vl vu .none → IsPart vl lo → IsPart vu hi → r x lo hi H Q →
    ∃ T id, typeLookup (.type T) "__getitem__" = pure (some (.builtin id)) ∧ s.TypeIs v T ∧ wpAny (model X.prog X.w) X.A (getItem v (.ref sl)) (EP X pins σ Q) X.xe s
theorem SlR.or {r r' : V → Option Int → Option Int → Hp → VK → Prop} (h : SlR X r) (h' : SlR X r') : SlR X (fun x lo hi H Q => r x lo hi H Q ∨ r' x lo hi H Q) := by
  intro pins s σ H x v vl vu lo hi sl Q I rx hs pl pu q
  rcases q with q | q
  · exact h pins s σ H x v vl vu lo hi sl Q I rx hs pl pu q
  · exact h' pins s σ H x v vl vu lo hi sl Q I rx hs pl pu q
def tSl (r : V → Option Int → Option Int → Hp → VK → Prop) (te : TE) (tl th : TO) : TE := fun σ H Q => te σ H fun x H1 => tl σ H1 fun l H2 => th σ H2 fun u H3 => r x l u H3 Q
/-- a[lo:hi], any a -/
theorem pe_slice {r : V → Option Int → Option Int → Hp → VK → Prop} (hr : SlR X r) (he : PE X e te) (hl : PO X lo tl) (hu : PO X hi th) : PE X (.Subscript e (.Slice lo hi none p2) pos) (tSl r te tl th) := by
  intro pins s σ H Q I h
  refine Subscript_ (thn (he pins s σ H _ I h) fun v s1 ⟨x, H1, I1, r1, q1⟩ => ?_)
  refine wpAny_Slice (thn (hl pins s1 σ H1 _ I1 q1) fun vl s2 ⟨l, H2, I2, pl, q2⟩ => thn (hu pins s2 σ H2 _ I2 q2) fun vu s3 ⟨u, H3, I3, pu, q3⟩ => ?_)
  rw [evalPart_none]
  refine wpAny_pure ?_
  have I4 : Inv X pins σ H3 { s3 with heap := s3.heap.push { cls := .type "slice", data := .fields #[vl, vu, .none] } } := I3.kept (t' := s3.toks) fun b ob q => Heap.get?_push_of_some _ q
  obtain ⟨T, id, hT, ht, hg⟩ := hr pins { s3 with heap := s3.heap.push { cls := .type "slice", data := .fields #[vl, vu, .none] } } σ H3 x v vl vu l u s3.heap.objs.size Q I4 r1 (Heap.IsSliceOf.new ..) pl pu q3
  show wpAny (model X.prog X.w) X.A (subscriptTail e (.Slice lo hi none p2) v (.ref s3.heap.objs.size)) (EP X pins σ Q) X.xe { s3 with heap := s3.heap.push { cls := .type "slice", data := .fields #[vl, vu, .none] } }
  exact tail_any (ops := [.ref s3.heap.objs.size, v]) ht hT hg (by with_unfolding_all rfl)

/-- the items of xs[lo:hi] -/
def cutV (xs : List V) (lo hi : Option Int) : List V := (xs.drop (HT.sIx xs.length 0 lo)).take (HT.sIx xs.length xs.length hi - HT.sIx xs.length 0 lo)
theorem cutV_length (xs : List V) (lo hi : Option Int) : (cutV xs lo hi).length ≤ xs.length := by
  unfold cutV
  rw [List.length_take, List.length_drop]
  omega
/-- t[lo:hi], not the whole of it (the whole would be t itself) -/
def rSlT (K : PySem.W.Frag) : V → Option Int → Option Int → Hp → VK → Prop := fun x lo hi H Q => ∃ a xs, x = .ref a ∧ SqT K H a xs ∧
  ¬ (HT.sIx xs.length 0 lo = 0 ∧ HT.sIx xs.length xs.length hi = xs.length) ∧ ∀ p, H p = none → Q (.ref p) (upd H p (.tup (cutV xs lo hi)))
def rLtT (K : PySem.W.Frag) : R2 := fun x y H Q => ∃ a b ns ms, x = .ref a ∧ y = .ref b ∧ SqT K H a (ns.map V.int) ∧ SqT K H b (ms.map V.int) ∧ Q (.bl (HT.lexLt ns ms)) H
/-- t + u, t not empty: u empty gives t itself -/
def rCatT (K : PySem.W.Frag) : R2 := fun x y H Q => ∃ a b xs ys, x = .ref a ∧ y = .ref b ∧ SqT K H a xs ∧ SqT K H b ys ∧ xs ≠ [] ∧ xs.length + ys.length ≤ sizeLine ∧
  (ys = [] → Q (.ref a) H) ∧ (ys ≠ [] → ∀ p, H p = none → Q (.ref p) (upd H p (.tup (xs ++ ys))))
end
end L2

namespace L2
open PySem PySem.Spec PyProof.Rows

/-- the place that an index of any sign means -/
def ixN (n : Nat) (i : Int) : Option Nat := if 0 ≤ i then (if i < n then some i.toNat else none) else if -(n : Int) ≤ i then some (i + n).toNat else none
def atI {α : Type} (xs : List α) (i : Int) : Option α := (ixN xs.length i).bind fun j => xs[j]?
theorem ixN_seq {n : Nat} {i : Int} {j : Nat} (h : ixN n i = some j) : seqIndex? i n = some j ∧ j < n ∧ -(n : Int) ≤ i ∧ i < n := by
  unfold ixN at h
  by_cases h0 : 0 ≤ i
  · rw [if_pos h0] at h
    by_cases h1 : i < n
    · rw [if_pos h1] at h
      have e : i.toNat = j := Option.some.inj h
      exact ⟨by rw [seqIndex_of h0 h1, e], by omega, by omega, h1⟩
    · rw [if_neg h1] at h; cases h
  · rw [if_neg h0] at h
    by_cases h1 : -(n : Int) ≤ i
    · rw [if_pos h1] at h
      have e : (i + n).toNat = j := Option.some.inj h
      exact ⟨by rw [seqIndex_neg (by omega) h1, e], by omega, h1, by omega⟩
    · rw [if_neg h1] at h; cases h
theorem atI_get {α : Type} {xs : List α} {i : Int} {v : α} (h : atI xs i = some v) : ∃ j, seqIndex? i xs.length = some j ∧ xs[j]? = some v ∧ j < xs.length ∧ -(xs.length : Int) ≤ i ∧ i < xs.length := by
  unfold atI at h
  cases e : ixN xs.length i with
  | none => rw [e] at h; cases h
  | some j =>
    rw [e] at h
    obtain ⟨h1, h2, h3, h4⟩ := ixN_seq e
    exact ⟨j, h1, h, h2, h3, h4⟩
theorem atI_nat {α : Type} {xs : List α} {j : Nat} {v : α} (h : xs[j]? = some v) : atI xs (j : Int) = some v := by
  have hj : j < xs.length := (List.getElem?_eq_some_iff.mp h).1
  have e : ixN xs.length (j : Int) = some j := by
    unfold ixN
    rw [if_pos (by omega), if_pos (by omega)]; simp
  unfold atI; rw [e]; exact h
/-- what stands as an index of a plain subscript -/
def PlainIx (b : Expr) : Prop := ∀ o i, subscripted b false o i = operate [o, i] (getItem o i)
/-- a subscript by values -/
def IxR (X : Cx) (r : R2) : Prop :=
  ∀ (value slice : Expr) (pins : List (Addr × Obj)) (s : Shared) (σ : St) (H : Hp) (x y : V) (v u : Value) (Q : VK), Inv X pins σ H s → RelV x v → RelV y u → r x y H Q →
    subscripted slice false v u = operate [v, u] (getItem v u) → wpAny (model X.prog X.w) X.A (subscriptTail value slice v u) (EP X pins σ Q) X.xe s
/-- a call of a builtin's method by values: the receiver, the arguments -/
def MtR (X : Cx) (id : String) (r : V → List V → Hp → VK → Prop) : Prop :=
  ∀ (pins : List (Addr × Obj)) (s : Shared) (σ : St) (H : Hp) (x : V) (xs : List V) (v : Value) (us : List Value) (Q : VK), Inv X pins σ H s → RelV x v → Vals xs us → r x xs H Q →
    wpAny (model X.prog X.w) X.A (call (.builtin id) (v :: us)) (EP X pins σ Q) X.xe s
section
variable {X : Cx} {a b : Expr} {ta tb : TE} {pos : Pos}
theorem IxR.or {r r' : R2} (h : IxR X r) (h' : IxR X r') : IxR X (fun x y H Q => r x y H Q ∨ r' x y H Q) := by
  intro value slice pins s σ H x y v u Q I rx ry q hs
  rcases q with q | q
  · exact h value slice pins s σ H x y v u Q I rx ry q hs
  · exact h' value slice pins s σ H x y v u Q I rx ry q hs
theorem MtR.or {id : String} {r r' : V → List V → Hp → VK → Prop} (h : MtR X id r) (h' : MtR X id r') : MtR X id (fun x xs H Q => r x xs H Q ∨ r' x xs H Q) := by
  intro pins s σ H x xs v us Q I rx rs q
  rcases q with q | q
  · exact h pins s σ H x xs v us Q I rx rs q
  · exact h' pins s σ H x xs v us Q I rx rs q
/-- a[b] -/
theorem pe_ix {r : R2} (hr : IxR X r) (ha : PE X a ta) (hb : PE X b tb) (hs : PlainIx b) : PE X (.Subscript a b pos) (tOp r ta tb) := by
  intro pins s σ H Q I h
  exact Subscript_ (binT ha hb I h fun v u s2 x y H2 I2 rx ry q => hr a b pins s2 σ H2 x y v u Q I2 rx ry q (hs _ _))

def rIxL (K : PySem.W.Frag) : R2 := fun x y H Q => ∃ p xs i v, x = .ref p ∧ y = .int i ∧ SqL K H p xs ∧ atI xs i = some v ∧ Q v H
def rIxT (K : PySem.W.Frag) : R2 := fun x y H Q => ∃ p xs i v, x = .ref p ∧ y = .int i ∧ SqT K H p xs ∧ atI xs i = some v ∧ Q v H
def rIxS : R2 := fun x y H Q => ∃ z i c, x = .str z ∧ y = .int i ∧ z.length ≤ sizeLine ∧ atI z.cps.toList i = some c ∧ Q (.str ⟨#[c]⟩) H
theorem ix_list : IxR X (rIxL X.K) := by
  intro value slice pins s σ H x y v u Q I rx ry h hs
  obtain ⟨p, xs, i, z, rfl, rfl, hq, he, q⟩ := h
  cases rx
  obtain ⟨t, rfl⟩ := ry
  obtain ⟨its, r, pl, hz⟩ := I.list hq
  obtain ⟨j, h1, h2, h3, h4, h5⟩ := atI_get he
  obtain ⟨w, ew, rw'⟩ := r.get h2
  have hl := r.length
  have hn := line63
  have fin : EP X pins σ Q w s := ⟨z, H, I, rw', q⟩
  by_cases h0 : 0 ≤ i
  · have hj : i.toNat = j := by
      rw [seqIndex_of h0 h5] at h1
      exact Option.some.inj h1
    exact item_listR pl.isList h0 (by omega) (by rw [hj]; simpa using ew) fin hs
  · have hj : (i + (its.toArray.size : Int)).toNat = j := by
      rw [seqIndex_neg (by omega) h4] at h1
      rw [List.size_toArray, ← hl]
      exact Option.some.inj h1
    exact subscriptTail_builtinR (x := w) pl.isList.typeIs slot_list_getitem.lookup
      (wpAny_getItem_list_neg (Q := fun r s' => r = w ∧ EP X pins σ Q r s') pl.isList (by omega) (by rw [List.size_toArray] <;> omega) (by omega) (by rw [hj]; simpa using ew) ⟨rfl, fin⟩) hs
theorem ix_tup : IxR X (rIxT X.K) := by
  intro value slice pins s σ H x y v u Q I rx ry h hs
  obtain ⟨p, xs, i, z, rfl, rfl, hq, he, q⟩ := h
  cases rx
  obtain ⟨t, rfl⟩ := ry
  obtain ⟨its, r, pl, hz⟩ := I.tuple hq
  obtain ⟨j, h1, h2, h3, h4, h5⟩ := atI_get he
  obtain ⟨w, ew, rw'⟩ := r.get h2
  have hl := r.length
  have hn := line63
  have fin : EP X pins σ Q w s := ⟨z, H, I, rw', q⟩
  exact subscriptTail_builtinR (x := w) pl.typeIs slot_tuple_getitem.lookup
    (getItem_tuple (j := j) (Q := fun r s' => r = w ∧ EP X pins σ Q r s') pl (by omega) (by omega) (by rw [List.size_toArray, ← hl]; exact h1) (by simpa using ew) ⟨rfl, fin⟩) hs
/-- list, tuple or str -/
def rIx (K : PySem.W.Frag) : R2 := fun x y H Q => rIxL K x y H Q ∨ rIxT K x y H Q ∨ rIxS x y H Q
theorem Inv.lst {pins : List (Addr × Obj)} {σ : St} {H : Hp} {s : Shared} {p : Addr} {xs : List V} (I : Inv X pins σ H s) (h : H p = some (.lst xs)) :
    ∃ (its : List Value) (n : Nat), Vals xs its ∧ s.heap.get? p = some { cls := .type "list", data := .seq its.toArray n } ∧ xs.length ≤ sizeLine := by
  obtain ⟨z, its, n, r, e⟩ := I.hok p _ h
  exact ⟨its, n, r, e, z⟩
def rSetL : V → V → V → Hp → (Hp → Prop) → Prop := fun o i v H Q => ∃ p xs k j, o = .ref p ∧ i = .int k ∧ H p = some (.lst xs) ∧ ixN xs.length k = some j ∧ Q (upd H p (.lst (xs.set j v)))
theorem slice_bounds (lo hi : Option Int) (n : Nat) : (sliceBounds lo hi none n).1 = ((HT.sIx n 0 lo : Nat) : Int) ∧ (sliceBounds lo hi none n).2.1 = ((HT.sIx n n hi : Nat) : Int) ∧ (sliceBounds lo hi none n).2.2 = 1 := by
  refine ⟨?_, ?_, rfl⟩
  · cases lo with
    | none => simp [sliceBounds, HT.sIx]
    | some i =>
      simp only [sliceBounds, HT.sIx, Option.getD_none, show (1 : Int) > 0 by decide, if_true]
      by_cases h : i < 0
      · simp only [h, if_true] <;> omega
      · simp only [h, if_false] <;> omega
  · cases hi with
    | none => simp [sliceBounds, HT.sIx]
    | some i =>
      simp only [sliceBounds, HT.sIx, Option.getD_none, show (1 : Int) > 0 by decide, if_true]
      by_cases h : i < 0
      · simp only [h, if_true] <;> omega
      · simp only [h, if_false] <;> omega
theorem slicePick_cut (its : List Value) (lo hi : Option Int) : slicePick its.toArray lo hi none = ((its.drop (HT.sIx its.length 0 lo)).take (HT.sIx its.length its.length hi - HT.sIx its.length 0 lo)).toArray := by
  obtain ⟨h1, h2, h3⟩ := slice_bounds lo hi its.toArray.size
  unfold slicePick
  rw [h1, h2, h3]
  simp only [sliceRange_one, pick_run, List.size_toArray] <;> rfl
/-- xs[lo:hi] of a list: a new list -/
def rSlL (K : PySem.W.Frag) : V → Option Int → Option Int → Hp → VK → Prop := fun x lo hi H Q => ∃ a xs, x = .ref a ∧ SqL K H a xs ∧ ∀ p, H p = none → Q (.ref p) (upd H p (.lst (cutV xs lo hi)))
theorem sl_list : SlR X (rSlL X.K) := by
  intro pins s σ H x v vl vu lo hi sl Q I rx hs pl pu h
  obtain ⟨a, xs, rfl, hx, q⟩ := h
  cases rx
  obtain ⟨its, r, ht, hz⟩ := I.list hx
  have hlen := r.length
  refine ⟨"list", _, slot_list_getitem.lookup, ht.isList.typeIs, ?_⟩
  refine wpAny_getItem_list_slice ht.isList hs pl pu .none (by simp) ?_ (by rw [List.size_toArray] <;> omega)
  rw [slicePick_cut, ← hlen]
  refine ⟨.ref s.heap.objs.size, _, I.laid (t' := s.toks) (o := .lst (cutV xs lo hi)) (fun b ob q => Heap.get?_push_of_some _ q) (Nat.le_refl _) ?_, rfl, q _ (I.hok.fresh (Nat.le_refl _))⟩
  exact ⟨Nat.le_trans (cutV_length xs lo hi) hz, _, 0, (r.drop (HT.sIx xs.length 0 lo)).take (HT.sIx xs.length xs.length hi - HT.sIx xs.length 0 lo), Heap.get?_push_size _ rfl⟩

def flatV : V → Bool
  | .non => true
  | .bl _ => true
  | .int _ => true
  | .str _ => true
  | _ => false
/-- == of flat values -/
def eqV : V → V → Bool
  | .non, .non => true
  | .bl a, .bl b => a == b
  | .bl a, .int b => (if a then 1 else 0) == b
  | .int a, .bl b => a == (if b then 1 else 0)
  | .int a, .int b => a == b
  | .str a, .str b => a == b
  | _, _ => false
/-- the items' answers, read off the values (a value's own answer does not lean on its token) -/
def eqU (x : V) (u : Value) : Bool := match u with
  | .none => eqV .non x
  | .bool b => eqV (.bl b) x
  | .int i _ => eqV (.int i) x
  | .str z _ => eqV (.str z) x
  | _ => false
def inV (x : V) (xs : List V) : Bool := xs.any fun y => eqV y x
/-- x in a list or tuple of flat items -/
def rIn (K : PySem.W.Frag) (neg : Bool) : R2 := fun x y H Q => ∃ p xs, y = .ref p ∧ (SqL K H p xs ∨ SqT K H p xs) ∧ flatV x = true ∧ xs.all flatV = true ∧ Q (.bl (if neg then !inV x xs else inV x xs)) H
theorem call_len_seq : CallR X (.builtin "len") (fun xs H Q => ∃ p ys, xs = [.ref p] ∧ (SqL X.K H p ys ∨ SqT X.K H p ys) ∧ Q (.int ys.length) H) := by
  intro pins s σ H xs us Q I r h
  obtain ⟨p, ys, rfl, hq, q⟩ := h
  obtain ⟨u, rfl, rx⟩ := vals1 r
  cases rx
  have hn := line63
  rcases hq with hq | hq
  · obtain ⟨its, r', pl, hz⟩ := I.list hq
    have hlen := r'.length
    exact Calls.call_len_list pl.isList (by simp only [List.size_toArray] <;> omega) ⟨.int ys.length, H, I.tok _, ⟨s.toks + 1, by rw [List.size_toArray, hlen]⟩, q⟩
  · obtain ⟨its, r', pl, hz⟩ := I.tuple hq
    have hlen := r'.length
    exact len_tuple pl (by simp only [List.size_toArray] <;> omega) ⟨.int ys.length, H, I.tok _, ⟨s.toks + 1, by rw [List.size_toArray, hlen]⟩, q⟩
theorem CallR.or {f : Value} {r r' : List V → Hp → VK → Prop} (h : CallR X f r) (h' : CallR X f r') : CallR X f (fun xs H Q => r xs H Q ∨ r' xs H Q) := by
  intro pins s σ H xs us Q I rs q
  rcases q with q | q
  · exact h pins s σ H xs us Q I rs q
  · exact h' pins s σ H xs us Q I rs q
theorem call_list_of : CallR X (.type "list") (fun xs H Q => ∃ p ys, xs = [.ref p] ∧ (SqL X.K H p ys ∨ SqT X.K H p ys) ∧ ∀ l, H l = none → Q (.ref l) (upd H l (.lst ys))) := by
  intro pins s σ H xs us Q I r h
  obtain ⟨p, ys, rfl, hq, q⟩ := h
  obtain ⟨u, rfl, rx⟩ := vals1 r
  cases rx
  have fin : ∀ (its : List Value), Vals ys its → ys.length ≤ sizeLine → ∀ (h' : Heap) (c' : Nat), (∀ b o', s.heap.get? b = some o' → h'.get? b = some o') →
      h'.get? s.heap.objs.size = some { cls := .type "list", dict := none, data := .seq its.toArray c', slots := #[] } → EP X pins σ Q (.ref s.heap.objs.size) { s with heap := h' } := fun its r' hz h' c' kp e =>
    ⟨.ref s.heap.objs.size, _, I.laid (t' := s.toks) kp (Nat.le_refl _) (show ObjOk X.prog X.w _ h' _ (.lst ys) from ⟨hz, its, c', r', e⟩), rfl, q _ (I.hok.fresh (Nat.le_refl _))⟩
  rcases hq with hq | hq
  · obtain ⟨its, r', pl, hz⟩ := I.list hq
    have hlen := r'.length
    obtain ⟨o, ho, hc, n, hd⟩ := pl.isList
    exact call_list_seq p (.inl rfl) ho hc hd (fun h' c' kp e => fin its r' hz h' c' kp e) (by simp only [List.size_toArray] <;> omega)
  · obtain ⟨its, r', pl, hz⟩ := I.tuple hq
    have hlen := r'.length
    obtain ⟨o, ho, hc, n, hd⟩ := pl
    exact call_list_seq p (.inr rfl) ho hc hd (fun h' c' kp e => fin its r' hz h' c' kp e) (by simp only [List.size_toArray] <;> omega)
/-- the value is of that builtin type -/
def tyV (K : PySem.W.Frag) (T : String) (x : V) (H : Hp) : Prop := match x with
  | .str _ => T = "str"
  | .int _ => T = "int"
  | .ref p => (T = "list" ∧ ∃ xs, SqL K H p xs) ∨ (T = "tuple" ∧ ∃ o, K.lookup p = some o ∧ o.cls = .type "tuple" ∧ o.dict = none) ∨
      (T = "dict" ∧ ((∃ kvs, H p = some (.dK kvs)) ∨ ∃ kvs, H p = some (.dT kvs))) ∨ (T = "set" ∧ ∃ S n, H p = some (.set S n))
  | _ => False
theorem tyV_is {pins : List (Addr × Obj)} {σ : St} {H : Hp} {s : Shared} {T : String} {x : V} {v : Value} (I : Inv X pins σ H s) (r : RelV x v) (ty : tyV X.K T x H) :
    s.TypeIs v T ∧ ∀ a, v = .ref a → ∃ ob, s.heap.get? a = some ob ∧ ob.dict = none := by
  cases x with
  | str z =>
    obtain ⟨t, rfl⟩ := r
    cases (show T = "str" from ty)
    exact ⟨typeIs_str s z t, fun _ e => nomatch e⟩
  | int i =>
    obtain ⟨t, rfl⟩ := r
    cases (show T = "int" from ty)
    exact ⟨typeIs_int s i t, fun _ e => nomatch e⟩
  | ref p =>
    cases r
    rcases ty with ⟨rfl, xs, hq⟩ | ⟨rfl, o, hk, hc, hd⟩ | ⟨rfl, hk⟩ | ⟨rfl, S, n, hk⟩
    · obtain ⟨its, _, pl, _⟩ := I.list hq
      refine ⟨pl.isList.typeIs, fun a e => ?_⟩
      cases e
      obtain ⟨o, n, e, c, hd, _⟩ := pl
      exact ⟨o, e, hd⟩
    · refine ⟨⟨o, I.kIn p o hk, hc⟩, fun a e => ?_⟩
      cases e
      exact ⟨o, I.kIn _ o hk, hd⟩
    · have z : ∃ o, s.heap.get? p = some o ∧ o.ExactDict := by
        rcases hk with ⟨kvs, hk⟩ | ⟨kvs, hk⟩
        · obtain ⟨_, _, _, _, o, _, _, e, ex, _⟩ := I.hok p _ hk
          exact ⟨o, e, ex⟩
        · obtain ⟨_, _, _, _, o, _, _, e, ex, _⟩ := I.hok p _ hk
          exact ⟨o, e, ex⟩
      obtain ⟨o, e, ex⟩ := z
      refine ⟨⟨o, e, ex.1⟩, fun a e2 => ?_⟩
      cases e2
      exact ⟨o, e, ex.2.1⟩
    · obtain ⟨o, _, _, _, e, ex, _⟩ := I.hok p _ hk
      refine ⟨⟨o, e, ex.1⟩, fun a e2 => ?_⟩
      cases e2
      exact ⟨o, e, ex.2.1⟩
  | _ => exact False.elim ty
def tBM0 (K : PySem.W.Frag) (T : String) (r : V → List V → Hp → VK → Prop) (to : TE) : TE := fun σ H Q => to σ H fun x H1 => tyV K T x H1 ∧ r x [] H1 Q
def tBM (K : PySem.W.Frag) (T : String) (r : V → List V → Hp → VK → Prop) (to : TE) (t : TA) : TE := fun σ H Q => to σ H fun x H1 => tyV K T x H1 ∧ t σ H1 fun xs H2 => r x xs H2 Q
variable {o e : Expr} {es : List Expr} {to : TE} {t : TA} {name : Str} {apos cpos : Pos} {T id : String} {r : V → List V → Hp → VK → Prop}
theorem pe_bm (pa : PlainAttrs T) (slot : Slot T name id) (hty : typeOf (.builtin id) = pure (.type "method_descriptor")) (hm : MtR X id r) (ho : PE X o to) (ha : PA X (e :: es) t)
    (hbase : attributeBase o name X.env (eval o X.env) = eval o X.env := by rfl)
    (hfew : ((backTo cpos (starEach (e :: es) X.env)).all (fun x => !x.1) && (backToKw cpos (keywordEach [] X.env)).all (fun x => x.1.isSome)
      && decide ((e :: es).length + ([] : List Keyword).length + (if ([] : List Keyword).isEmpty then 0 else 1) < 30)) = true := by rfl)
    (hline : (apos.endLine == cpos.line) = true := by rfl) (hs : starEach (e :: es) X.env = (false, eval e X.env) :: starEach es X.env := by rfl) (hplain : (backTo cpos (starEach es X.env)).any (·.1) = false := by rfl) :
    PE X (.Call (.Attribute o name apos) (e :: es) [] cpos) (tBM X.K T r to t) := by
  intro pins s σ H Q I h
  refine wpAny_Call_method_late hbase hfew hline rfl (thn (ho pins s σ H _ I h) fun v s1 ⟨x, H1, I1, r1, ty, q1⟩ => ?_)
  obtain ⟨h1, h2⟩ := tyV_is I1 r1 ty
  refine ⟨T, id, pa, slot, hty, h1, h2, ?_⟩
  have hA := ha cpos pins s1 σ H1 _ I1 q1
  rw [hs] at hA ⊢
  refine Calls.callWith_builtin (by show (false || (backTo cpos (starEach es X.env)).any (·.1)) = false; rw [hplain] <;> rfl) (Calls.evalArgs_plain ?_)
  exact thn hA fun us s2 ⟨vs, H2, I2, r2, q2⟩ => hm pins s2 σ H2 x vs v us Q I2 r1 r2 q2
end
end L2

namespace L2
open PySem PySem.Spec PyProof.Rows

def MtM (X : Cx) (id : String) (r : V → List V → Hp → VK → Prop) : Prop :=
  ∀ (pins : List (Addr × Obj)) (s : Shared) (σ : St) (H : Hp) (x : V) (xs : List V) (v : Value) (us : List Value) (Q : VK), Inv X pins σ H s → RelV x v → Vals xs us → r x xs H Q →
    wpAny (model X.prog X.w) X.A (call (.builtin id) (v :: us)) (EP X pins σ Q) X.xe s

theorem Vals.one : ∀ {x : V} {us : List Value}, Vals [x] us → ∃ u, us = [u] ∧ RelV x u
  | _, _, .cons r .nil => ⟨_, rfl, r⟩
theorem Vals.two : ∀ {x y : V} {us : List Value}, Vals [x, y] us → ∃ u v, us = [u, v] ∧ RelV x u ∧ RelV y v
  | _, _, _, .cons r (.cons q .nil) => ⟨_, _, rfl, r, q⟩
theorem Vals.zero : ∀ {us : List Value}, Vals [] us → us = []
  | _, .nil => rfl
theorem Vals.dropLast {xs : List V} {us : List Value} (h : Vals xs us) : Vals xs.dropLast us.dropLast := by
  induction h with
  | nil => exact .nil
  | cons r t ih =>
    cases t with
    | nil => exact .nil
    | cons q t' => exact .cons r ih
theorem Vals.eraseIdx : ∀ {xs : List V} {us : List Value} (i : Nat), Vals xs us → Vals (xs.eraseIdx i) (us.eraseIdx i)
  | _, _, _, .nil => .nil
  | _, _, 0, .cons _ t => t
  | _, _, i + 1, .cons r t => .cons r (Vals.eraseIdx i t)
theorem Vals.reverse {xs : List V} {us : List Value} (h : Vals xs us) : Vals xs.reverse us.reverse := by
  induction h with
  | nil => exact .nil
  | cons r t ih => rw [List.reverse_cons, List.reverse_cons]; exact Vals.append ih (.cons r .nil)
theorem Vals.rep {xs : List V} {us : List Value} (h : Vals xs us) : ∀ k : Nat, Vals (List.replicate k xs).flatten (List.replicate k us).flatten
  | 0 => .nil
  | k + 1 => by
    rw [List.replicate_succ, List.replicate_succ, List.flatten_cons, List.flatten_cons]
    exact Vals.append h (Vals.rep h k)
theorem foldl_rep (its : List Value) : ∀ (k : Nat) (acc : List Value),
    List.foldl (fun x1 x2 => x1 ++ x2) acc.toArray (List.replicate k its.toArray) = (acc ++ (List.replicate k its).flatten).toArray
  | 0, acc => by simp
  | k + 1, acc => by
    have e : acc.toArray ++ its.toArray = (acc ++ its).toArray := by simp
    have e2 : (acc ++ its) ++ (List.replicate k its).flatten = acc ++ (List.replicate (k + 1) its).flatten := by
      rw [List.replicate_succ, List.flatten_cons, List.append_assoc]
    rw [← e2, ← foldl_rep its k (acc ++ its), ← e, List.replicate_succ, List.foldl_cons]

section
variable {X : Cx} {pins : List (Addr × Obj)} {σ : St} {H : Hp} {s : Shared} {l b : Addr} {xs ys zs : List V}

theorem Inv.lset {its its' : List Value} {n : Nat} {f : Array Value → Array Value} {t' : Nat} (I : Inv X pins σ H s) (hH : H l = some (.lst xs))
    (e : s.heap.get? l = some { cls := .type "list", data := .seq its.toArray n }) (hf : f its.toArray = its'.toArray) (hv : Vals ys its') (hz : ys.length ≤ sizeLine) :
    Inv X pins σ (upd H l (.lst ys)) { s with heap := s.heap.update l (Obj.mapSeq f), toks := t' } := by
  have q := PySem.IsL.update e f
  rw [hf] at q
  refine I.write (x := l) (e := l) (by rw [hH]; exact trivial) (.inl rfl) (fun b' u hb hu => (Heap.get?_update_other s.heap (Obj.mapSeq f) (Ne.symm hb)).trans hu) ⟨_, q⟩ ?_
  exact ⟨hz, its', _, hv, q⟩
theorem Inv.lnew {its : List Value} {t' : Nat} (I : Inv X pins σ H s) (hv : Vals ys its) (hz : ys.length ≤ sizeLine) :
    Inv X pins σ (upd H s.heap.objs.size (.lst ys)) { s with heap := s.heap.push { cls := .type "list", data := .seq its.toArray }, toks := t' } :=
  I.laid (fun _ _ q => Heap.get?_push_of_some _ q) (Nat.le_refl _) ⟨hz, its, 0, hv, Heap.get?_push_size _ rfl⟩
theorem Inv.fresh (I : Inv X pins σ H s) : H s.heap.objs.size = none := I.hok.fresh (Nat.le_refl _)
theorem Inv.lstM (I : Inv X pins σ H s) (hH : H l = some (.lst xs)) : xs.length ≤ sizeLine ∧ ∃ (its : List Value) (n : Nat), Vals xs its ∧ xs.length = its.length ∧ s.heap.get? l = some { cls := .type "list", data := .seq its.toArray n } := by
  obtain ⟨z, its, n, r, e⟩ := I.hok l _ hH
  exact ⟨z, its, n, r, r.length, e⟩

theorem notLongL {n : Nat} (h : n ≤ sizeLine) : Builtin.List.listTooLong n = false := by
  unfold Builtin.List.listTooLong
  exact decide_eq_false (by omega)
end

section
variable {X : Cx}

def rAppend : V → List V → Hp → VK → Prop := fun x vs H Q => ∃ l xs y, x = .ref l ∧ vs = [y] ∧ H l = some (.lst xs) ∧ xs.length < sizeLine ∧ Q .non (upd H l (.lst (xs ++ [y])))
theorem mt_append : MtM X "list.append" rAppend := by
  intro pins s σ H x vs v us Q I rx rv h
  obtain ⟨l, xs, y, rfl, rfl, hH, hz, q⟩ := h
  cases rx
  obtain ⟨u, rfl, ru⟩ := rv.one
  obtain ⟨z, its, n, r, hl, e⟩ := I.lstM hH
  refine call_meets F.slot_list_append ⟨_, e, rfl⟩ F.entry_list_append (F.args_list_append_2 _ _) (PySem.list_append l its.toArray n u (by rw [List.size_toArray]; omega)) ⟨e, ?_⟩
  refine ⟨.non, _, I.lset (its' := its ++ [u]) hH e (by simp) (r.append (.cons ru .nil)) ?_, rfl, q⟩
  rw [List.length_append, List.length_singleton]
  omega

def rExtend : V → List V → Hp → VK → Prop := fun x vs H Q => ∃ l b xs zs, x = .ref l ∧ vs = [.ref b] ∧ H l = some (.lst xs) ∧ H b = some (.lst zs) ∧ xs.length + zs.length ≤ sizeLine ∧ Q .non (upd H l (.lst (xs ++ zs)))
def rPop : V → List V → Hp → VK → Prop := fun x vs H Q => ∃ l xs y, x = .ref l ∧ vs = [] ∧ H l = some (.lst xs) ∧ xs[xs.length - 1]? = some y ∧ Q y (upd H l (.lst xs.dropLast))
def rPopAt : V → List V → Hp → VK → Prop := fun x vs H Q => ∃ l xs i k y, x = .ref l ∧ vs = [.int i] ∧ H l = some (.lst xs) ∧ -(2 ^ 63) ≤ i ∧ i < 2 ^ 63 ∧ seqIndex? i xs.length = some k ∧ xs[k]? = some y ∧ Q y (upd H l (.lst (xs.eraseIdx k)))
def rReverse : V → List V → Hp → VK → Prop := fun x vs H Q => ∃ l xs, x = .ref l ∧ vs = [] ∧ H l = some (.lst xs) ∧ Q .non (upd H l (.lst xs.reverse))
def rClear : V → List V → Hp → VK → Prop := fun x vs H Q => ∃ l xs, x = .ref l ∧ vs = [] ∧ H l = some (.lst xs) ∧ Q .non (upd H l (.lst []))
def rCat : R2 := fun x y H Q => ∃ l b xs zs, x = .ref l ∧ y = .ref b ∧ H l = some (.lst xs) ∧ H b = some (.lst zs) ∧ xs.length + zs.length ≤ sizeLine ∧ ∀ p, H p = none → Q (.ref p) (upd H p (.lst (xs ++ zs)))
theorem op_cat : OpR X (binaryOp .Add) rCat := by
  intro pins s σ H x y v u Q I rx ry h
  obtain ⟨l, b, xs, zs, rfl, rfl, hH, hB, hz, q⟩ := h
  cases rx
  cases ry
  obtain ⟨z, its, n, r, hl, e⟩ := I.lstM hH
  obtain ⟨z2, its2, n2, r2, hl2, e2⟩ := I.lstM hB
  refine PySem.P.add_list e e2 ?_ (by rw [List.size_toArray, List.size_toArray]; omega)
  have ea : its.toArray ++ its2.toArray = (its ++ its2).toArray := by simp
  rw [ea]
  exact ⟨.ref _, _, I.lnew (t' := s.toks) (r.append r2) (by rw [List.length_append]; omega), rfl, q _ I.fresh⟩
/-- a list times an int (a negative one is nothing) -/
def rRep : R2 := fun x y H Q => ∃ l k xs, x = .ref l ∧ y = .int k ∧ H l = some (.lst xs) ∧ -(2 ^ 63) ≤ k ∧ k < 2 ^ 63 ∧ xs.length * k.toNat ≤ sizeLine ∧
  ∀ p, H p = none → Q (.ref p) (upd H p (.lst (List.replicate k.toNat xs).flatten))
theorem len_rep {α : Type} (xs : List α) (k : Nat) : (List.replicate k xs).flatten.length = k * xs.length := by
  induction k with
  | zero => simp
  | succ k ih => rw [List.replicate_succ, List.flatten_cons, List.length_append, ih, Nat.succ_mul, Nat.add_comm]
theorem op_rep : OpR X (binaryOp .Mult) rRep := by
  intro pins s σ H x y v u Q I rx ry h
  obtain ⟨l, k, xs, rfl, rfl, hH, h1, h2, hz, q⟩ := h
  cases rx
  obtain ⟨t, rfl⟩ := ry
  obtain ⟨z, its, n, r, hl, e⟩ := I.lstM hH
  have hlen : its.toArray.size * k.toNat ≤ sizeLine := by rw [List.size_toArray, ← hl]; exact hz
  have hcap : ¬ its.toArray.size * k.toNat > (2 ^ 63 - 1) / 8 := by
    have : (sizeLine : Nat) ≤ (2 ^ 63 - 1) / 8 := by decide
    omega
  have hfit : ¬ (!Builtin.List.listFitsIndex k) = true := by
    rw [fitsIndex_both h1 h2]
    exact Bool.false_ne_true
  have hlong : ¬ Builtin.List.listTooLong (its.toArray.size * k.toNat) = true := by
    rw [notLongL hlen]
    exact Bool.false_ne_true
  have hnew : List.foldl (fun x1 x2 => x1 ++ x2) #[] (List.replicate (if its.toArray.isEmpty = true then 0 else k.toNat) its.toArray) = (List.replicate k.toNat its).flatten.toArray := by
    have f0 : ∀ m : Nat, List.foldl (fun x1 x2 => x1 ++ x2) #[] (List.replicate m its.toArray) = (List.replicate m its).flatten.toArray := fun m => by
      have := foldl_rep its m []
      rw [List.nil_append] at this
      exact this
    rw [f0]
    cases its with
    | nil => simp
    | cons a r' => rw [if_neg (by simp)]
  refine wpAny_binaryOp_repeat_ref (T := "list") (U := "int") (by decide) ⟨_, e, rfl⟩ (fun s' => typeIs_int s' k t) noFill_list_mul F.fills_int_mul F.slot_int_rmul repeat_list F.slot_int_index.lookup
    (call_meets F.slot_int_rmul (typeIs_int s k t) F.entry_int_rmul (F.args_int_rmul_2 _ _) (int___rmul___int_list k t l its.toArray n)
      ⟨e, rfl, ⟨_, e, rfl⟩, call_meets F.slot_list_mul ⟨_, e, rfl⟩ F.entry_list_mul (F.args_list_mul_2 _ _) (AutoListH.list___mul___list_int_3 l its.toArray n k t hfit hcap hlong) ⟨e, ?_⟩⟩)
  rw [hnew]
  exact ⟨.ref _, _, I.lnew (t' := s.toks) (r.rep k.toNat) (by rw [len_rep, Nat.mul_comm]; exact hz), rfl, q _ I.fresh⟩

end

section
variable {prog : Program} {w : World} {A : Around} {E : Value → Shared → Prop} {s : Shared}
end

section
variable {X : Cx}
end
end L2

namespace L2
open PySem PySem.Spec PyProof.Rows

section
variable {κ : Type} [DecidableEq κ]
def valV (kvs : List (κ × V)) (k : κ) : Option V := (kvs.find? fun kv => decide (kv.1 = k)).map (·.2)
/-- in its place, or at the end -/
def putK (kvs : List (κ × V)) (k : κ) (v : V) : List (κ × V) :=
  if (kvs.any fun kv => decide (kv.1 = k)) = true then kvs.map (fun kv => if kv.1 = k then (kv.1, v) else kv) else kvs ++ [(k, v)]
def dropK (kvs : List (κ × V)) (k : κ) : List (κ × V) := kvs.filter fun kv => decide (kv.1 ≠ k)

theorem valV_pos {p : κ × V} {r : List (κ × V)} {k : κ} (e : p.1 = k) : valV (p :: r) k = some p.2 := by simp [valV, List.find?_cons, e]
theorem valV_neg {p : κ × V} {r : List (κ × V)} {k : κ} (e : ¬ p.1 = k) : valV (p :: r) k = valV r k := by simp [valV, List.find?_cons, e]
theorem valV_any (k : κ) : ∀ kvs : List (κ × V), (kvs.any fun kv => decide (kv.1 = k)) = (valV kvs k).isSome
  | [] => rfl
  | p :: r => by
    rw [List.any_cons]
    by_cases e : p.1 = k
    · simp only [valV_pos e, decide_eq_true e, Bool.true_or, Option.isSome_some]
    · rw [valV_neg e, decide_eq_false e, Bool.false_or]; exact valV_any k r
theorem valV_map (k j : κ) (y : V) : ∀ kvs : List (κ × V), valV (kvs.map fun kv => if kv.1 = k then (kv.1, y) else kv) j = (valV kvs j).map fun x => if j = k then y else x
  | [] => rfl
  | p :: r => by
    have ih := valV_map k j y r
    rw [List.map_cons]
    by_cases h : p.1 = k
    · rw [if_pos h]
      by_cases e : p.1 = j
      · rw [valV_pos (p := (p.1, y)) e, valV_pos e, Option.map_some, if_pos (e.symm.trans h)]
      · rw [valV_neg (p := (p.1, y)) e, valV_neg e, ih]
    · rw [if_neg h]
      by_cases e : p.1 = j
      · rw [valV_pos (p := p) e, valV_pos e, Option.map_some, if_neg (fun z => h (e.trans z))]
      · rw [valV_neg (p := p) e, valV_neg e, ih]
theorem valV_snoc (k j : κ) (y : V) : ∀ kvs : List (κ × V), valV kvs k = none → valV (kvs ++ [(k, y)]) j = if j = k then some y else valV kvs j
  | [], _ => by
    by_cases e : k = j
    · rw [if_pos e.symm]; exact valV_pos (p := (k, y)) e
    · rw [if_neg (fun z => e z.symm)]; exact valV_neg (p := (k, y)) e
  | p :: r, hn => by
    rw [List.cons_append]
    have hk : ¬ p.1 = k := fun z => by rw [valV_pos z] at hn; cases hn
    rw [valV_neg hk] at hn
    have ih := valV_snoc k j y r hn
    by_cases e : p.1 = j
    · rw [valV_pos e, valV_pos e, if_neg (fun z => hk (e.trans z))]
    · rw [valV_neg e, valV_neg e, ih]
theorem valV_put (kvs : List (κ × V)) (k j : κ) (y : V) : valV (putK kvs k y) j = if j = k then some y else valV kvs j := by
  unfold putK
  by_cases a : (kvs.any fun kv => decide (kv.1 = k)) = true
  · rw [if_pos a, valV_map]
    rw [valV_any] at a
    by_cases e : j = k
    · obtain ⟨x, hx⟩ := Option.isSome_iff_exists.mp a
      rw [if_pos e, e, hx, Option.map_some, if_pos rfl]
    · rw [if_neg e]
      cases valV kvs j with
      | none => rfl
      | some x => rw [Option.map_some, if_neg e]
  · rw [if_neg a]
    refine valV_snoc k j y kvs ?_
    rw [valV_any] at a
    cases q : valV kvs k with
    | none => rfl
    | some x => rw [q] at a; exact (a rfl).elim
theorem putK_new {kvs : List (κ × V)} {k : κ} (v : V) (h : valV kvs k = none) : putK kvs k v = kvs ++ [(k, v)] := by
  unfold putK
  rw [valV_any, h]
  exact if_neg (by decide)

theorem RelO.isSome_eq {o : Option V} {u : Option Value} (r : RelO o u) : o.isSome = u.isSome := by
  cases o with
  | none => cases u with
    | none => rfl
    | some _ => exact (show False from r).elim
  | some _ => cases u with
    | none => exact (show False from r).elim
    | some _ => rfl
theorem RelO.getD {o : Option V} {u : Option Value} {d : V} {d' : Value} (r : RelO o u) (rd : RelV d d') : RelV (o.getD d) (u.getD d') := by
  cases o with
  | none => cases u with
    | none => exact rd
    | some _ => exact (show False from r).elim
  | some _ => cases u with
    | none => exact (show False from r).elim
    | some _ => exact r

/-- raw tables of the same keys -/
theorem KV.val {kvs : List (κ × V)} {vs : List (κ × Value)} (r : KV kvs vs) (k : κ) : RelO (valV kvs k) (valueAt vs k) := by
  unfold KV at r
  induction r with
  | nil => exact True.intro
  | @cons p q ps qs h t ih =>
    obtain ⟨h1, h2⟩ := h
    by_cases e : p.1 = k
    · have e' : q.1 = k := h1.symm.trans e
      have b : valueAt (q :: qs) k = some q.2 := by simp [valueAt, List.find?_cons, e']
      rw [valV_pos e, b]; exact h2
    · have e' : ¬ q.1 = k := fun z => e (h1.trans z)
      have b : valueAt (q :: qs) k = valueAt qs k := by simp [valueAt, List.find?_cons, e']
      rw [valV_neg e, b]; exact ih
theorem KV.any {kvs : List (κ × V)} {vs : List (κ × Value)} (r : KV kvs vs) (k : κ) : (kvs.any fun kv => decide (kv.1 = k)) = vs.any fun kv => decide (kv.1 = k) := by
  unfold KV at r
  induction r with
  | nil => rfl
  | cons h t ih => rw [List.any_cons, List.any_cons, ih, h.1]
theorem KV.repl {kvs : List (κ × V)} {vs : List (κ × Value)} (r : KV kvs vs) (k : κ) {y : V} {u : Value} (ry : RelV y u) :
    KV (kvs.map fun kv => if kv.1 = k then (kv.1, y) else kv) (vs.map fun kv => if kv.1 = k then (kv.1, u) else kv) := by
  unfold KV at r ⊢
  induction r with
  | nil => exact .nil
  | @cons p q ps qs h t ih =>
    rw [List.map_cons, List.map_cons]
    refine .cons ?_ ih
    obtain ⟨h1, h2⟩ := h
    by_cases e : p.1 = k
    · rw [if_pos e, if_pos (h1.symm.trans e)]; exact ⟨h1, ry⟩
    · rw [if_neg e, if_neg (fun z => e (h1.trans z))]; exact ⟨h1, h2⟩
theorem KV.put {kvs : List (κ × V)} {vs : List (κ × Value)} (r : KV kvs vs) (k : κ) {y : V} {u : Value} (ry : RelV y u) : KV (putK kvs k y) (stored vs k u) := by
  unfold putK stored
  rw [r.any k]
  by_cases e : (vs.any fun kv => decide (kv.1 = k)) = true
  · rw [if_pos e, if_pos e]; exact r.repl k ry
  · rw [if_neg e, if_neg e]; exact Paired.snoc r ⟨rfl, ry⟩
theorem KV.drop {kvs : List (κ × V)} {vs : List (κ × Value)} (r : KV kvs vs) (k : κ) : KV (dropK kvs k) (without vs k) := by
  unfold KV at r ⊢
  unfold dropK without
  induction r with
  | nil => exact .nil
  | @cons p q ps qs h t ih =>
    obtain ⟨h1, h2⟩ := h
    rw [List.filter_cons, List.filter_cons]
    by_cases e : p.1 = k
    · have a : ¬ decide (p.1 ≠ k) = true := by simp [e]
      have b : ¬ decide (q.1 ≠ k) = true := by simp [h1.symm.trans e]
      rw [if_neg a, if_neg b]; exact ih
    · have e' : ¬ q.1 = k := fun z => e (h1.trans z)
      have a : decide (p.1 ≠ k) = true := by simp [e]
      have b : decide (q.1 ≠ k) = true := by simp [e']
      rw [if_pos a, if_pos b]; exact .cons ⟨h1, h2⟩ ih
theorem KV.keys {kvs : List (κ × V)} {vs : List (κ × Value)} (r : KV kvs vs) : kvs.map (·.1) = vs.map (·.1) := by
  unfold KV at r
  induction r with
  | nil => rfl
  | cons h t ih => rw [List.map_cons, List.map_cons, ih, h.1]
theorem KV.length {kvs : List (κ × V)} {vs : List (κ × Value)} (r : KV kvs vs) : kvs.length = vs.length := Paired.length r
end


/-- raw entries of a dict with tuple keys -/
abbrev KT (H : Hp) : List (List Key × V) → List (List Key × Addr × Value) → Prop := Paired fun p q => p.1 = q.1 ∧ H q.2.1 = some (.tup (p.1.map kV)) ∧ RelV p.2 q.2.2
theorem KT.val {H : Hp} {kvs : List (List Key × V)} {xs : List (List Key × Addr × Value)} (r : KT H kvs xs) (k : List Key) : RelO (valV kvs k) ((atKey xs k).map (·.2)) := by
  induction r with
  | nil => exact True.intro
  | @cons p q ps qs h t ih =>
    obtain ⟨h1, _, h2⟩ := h
    by_cases e : p.1 = k
    · have e' : q.1 = k := h1.symm.trans e
      have b : atKey (q :: qs) k = some q.2 := by simp [atKey, List.find?_cons, e']
      rw [valV_pos e, b]; exact h2
    · have e' : ¬ q.1 = k := fun z => e (h1.trans z)
      have b : atKey (q :: qs) k = atKey qs k := by simp [atKey, List.find?_cons, e']
      rw [valV_neg e, b]; exact ih
theorem KT.repl {H : Hp} {kvs : List (List Key × V)} {xs : List (List Key × Addr × Value)} (r : KT H kvs xs) (k : List Key) {y : V} {u : Value} (ry : RelV y u) :
    KT H (kvs.map fun kv => if kv.1 = k then (kv.1, y) else kv) (xs.map (putAt k u)) := by
  induction r with
  | nil => exact .nil
  | @cons p q ps qs h t ih =>
    rw [List.map_cons, List.map_cons]
    refine .cons ?_ ih
    obtain ⟨h1, h2, h3⟩ := h
    unfold putAt
    by_cases e : p.1 = k
    · rw [if_pos e, if_pos (h1.symm.trans e)]; exact ⟨h1, h2, ry⟩
    · rw [if_neg e, if_neg (fun z => e (h1.trans z))]; exact ⟨h1, h2, h3⟩
theorem KT.put {H : Hp} {kvs : List (List Key × V)} {xs : List (List Key × Addr × Value)} (r : KT H kvs xs) (k : List Key) {b : Addr} {y : V} {u : Value} (hb : H b = some (.tup (k.map kV))) (ry : RelV y u) :
    KT H (putK kvs k y) (storedH xs k b u) := by
  have e : (kvs.any fun kv => decide (kv.1 = k)) = (atKey xs k).isSome := by
    rw [valV_any, (r.val k).isSome_eq, Option.isSome_map]
  unfold putK storedH
  rw [e]
  by_cases q : (atKey xs k).isSome = true
  · rw [if_pos q, if_pos q]; exact r.repl k ry
  · rw [if_neg q, if_neg q]; exact Paired.snoc r ⟨rfl, hb, ry⟩
theorem KT.keeps {H H' : Hp} {kvs : List (List Key × V)} {xs : List (List Key × Addr × Value)} (r : KT H kvs xs) (ht : ∀ b ys, H b = some (.tup ys) → H' b = some (.tup ys)) : KT H' kvs xs :=
  Paired.mapP r fun _ _ z => ⟨z.1, ht _ _ z.2.1, z.2.2⟩

section
variable {P : Program} {w : World} {H : Hp} {h : Heap} {a : Addr}
theorem rd_of {u : HO} (ok : HOk P w H h) (e : Rd H a u) : ObjOk P w H h a u := e.ok ok
theorem dk_rd {kvs : List (Key × V)} (ok : HOk P w H h) (e : Rd H a (.dK kvs)) : kvs.length ≤ sizeLine ∧ (a == sysModules) = false ∧ ∃ vs, KV kvs vs ∧ h.DictOf (mixKind P w) a vs :=
  show ObjOk P w H h a (.dK kvs) from rd_of ok e
end

/-- what the dict at a holds at the key y -/
def DGet (H : Hp) (a : Addr) (y : V) (r : Option V) : Prop :=
  (∃ kvs k, Rd H a (.dK kvs) ∧ y = kV k ∧ r = valV kvs k) ∨ ∃ kvs k b, Rd H a (.dT kvs) ∧ y = .ref b ∧ H b = some (.tup (k.map kV)) ∧ r = valV kvs k
/-- the heap behind a[y] = v -/
def DPut (H : Hp) (a : Addr) (y v : V) (H' : Hp) : Prop :=
  (∃ kvs k, H a = some (.dK kvs) ∧ y = kV k ∧ kvs.length < sizeLine ∧ H' = upd H a (.dK (putK kvs k v))) ∨
  ∃ kvs k b, H a = some (.dT kvs) ∧ y = .ref b ∧ H b = some (.tup (k.map kV)) ∧ kvs.length < sizeLine ∧ H' = upd H a (.dT (putK kvs k v))
theorem DGet.k {H : Hp} {a : Addr} {kvs : List (Key × V)} {k : Key} (e : H a = some (.dK kvs)) : DGet H a (kV k) (valV kvs k) := .inl ⟨kvs, k, .inl e, rfl, rfl⟩
theorem DGet.t {H : Hp} {a b : Addr} {kvs : List (List Key × V)} {k : List Key} (e : H a = some (.dT kvs)) (eb : H b = some (.tup (k.map kV))) : DGet H a (.ref b) (valV kvs k) := .inr ⟨kvs, k, b, .inl e, rfl, eb, rfl⟩
theorem DPut.k {H : Hp} {a : Addr} {kvs : List (Key × V)} {k : Key} {v : V} (e : H a = some (.dK kvs)) (hl : kvs.length < sizeLine) : DPut H a (kV k) v (upd H a (.dK (putK kvs k v))) := .inl ⟨kvs, k, e, rfl, hl, rfl⟩
theorem DPut.t {H : Hp} {a b : Addr} {kvs : List (List Key × V)} {k : List Key} {v : V} (e : H a = some (.dT kvs)) (eb : H b = some (.tup (k.map kV))) (hl : kvs.length < sizeLine) :
    DPut H a (.ref b) v (upd H a (.dT (putK kvs k v))) := .inr ⟨kvs, k, b, e, rfl, eb, hl, rfl⟩


section
variable {X : Cx} {pins : List (Addr × Obj)} {σ : St} {H : Hp} {s : Shared} {a : Addr} {y v : V} {u r : Value} {o : Option V} {A : Around} {E : Value → Shared → Prop}

theorem Inv.big (I : Inv X pins σ H s) : sysModules < s.heap.objs.size := by
  have h : mainGlobals < s.heap.objs.size := (I.mod.glob.keeps I.bk).lt
  exact Nat.lt_trans (by decide) h

theorem dk_new {P : Program} {w : World} {H' : Hp} {h' : Heap} {kvs : List (Key × V)} {vs : List (Key × Value)} (z : kvs.length ≤ sizeLine) (hd : (a == sysModules) = false) (rel : KV kvs vs) (dd : h'.DictOf (mixKind P w) a vs) :
    ObjOk P w H' h' a (.dK kvs) := ⟨z, hd, vs, rel, dd⟩
end

section
variable {X : Cx} {pins : List (Addr × Obj)} {σ : St} {H : Hp} {s : Shared} {a : Addr} {kvs : List (Key × V)} {k : Key} {u : Value} {A : Around} {E : Value → Shared → Prop}
end


/-- the element of a subscription, not a slice -/
def NoSl (i : Expr) : Prop := ∀ ov iv, subscripted i false ov iv = operate [ov, iv] (getItem ov iv)
/-- d[y] -/
def tDGet (td ty : TE) : TE := fun σ H Q => td σ H fun x H1 => ty σ H1 fun y H2 => ∃ a v, x = .ref a ∧ DGet H2 a y (some v) ∧ Q v H2
/-- y in d, y not in d -/
def tDIn (ty td : TE) : TE := fun σ H Q => ty σ H fun y H1 => td σ H1 fun x H2 => ∃ a o, x = .ref a ∧ DGet H2 a y o ∧ Q (.bl o.isSome) H2
def tDNotIn (ty td : TE) : TE := fun σ H Q => ty σ H fun y H1 => td σ H1 fun x H2 => ∃ a o, x = .ref a ∧ DGet H2 a y o ∧ Q (.bl (!o.isSome)) H2
/-- d[y] = v -/
def sDPut (td ty tv : TE) : TS := fun D σ H => tv σ H fun v H1 => td σ H1 fun x H2 => ty σ H2 fun y H3 => ∃ a H4, x = .ref a ∧ DPut H3 a y v H4 ∧ D.nx σ H4
/-- d[y] op= v -/
def sDAug (td ty tv : TE) (rd : V → V → Hp → VK → Prop) : TS := fun D σ H => td σ H fun x H1 => ty σ H1 fun y H2 => ∃ a v, x = .ref a ∧ DGet H2 a y (some v) ∧
  tv σ H2 fun y2 H3 => rd v y2 H3 fun z H4 => ∃ H5, DPut H4 a y z H5 ∧ D.nx σ H5
/-- del d[y] -/
def sDDel (td ty : TE) : TS := fun D σ H => td σ H fun x H1 => ty σ H1 fun y H2 => ∃ a kvs k, x = .ref a ∧ H2 a = some (.dK kvs) ∧ y = kV k ∧ (valV kvs k).isSome = true ∧ D.nx σ (upd H2 a (.dK (dropK kvs k)))

section
variable {X : Cx} {o i e value : Expr} {pos pos' tpos : Pos} {td ty tv : TE}
end


theorem dk_empty {P : Program} {w : World} {H : Hp} (h : Heap) (hb : sysModules < h.objs.size) : ObjOk P w H (h.push { cls := .type "dict", data := .dict #[] }) h.objs.size (.dK []) :=
  ⟨Nat.zero_le _, beq_eq_false_iff_ne.mpr (Ne.symm (Nat.ne_of_lt hb)), [], .nil, Heap.DictOf.new h⟩
/-- {}, to be a dict of the kind that is wanted -/
def tDNewK : TE := fun _ H Q => ∀ p, H p = none → Q (.ref p) (upd H p (.dK []))
def tDNewT : TE := fun _ H Q => ∀ p, H p = none → Q (.ref p) (upd H p (.dT []))
section
variable {X : Cx} {pos : Pos}
theorem pe_dnewK : PE X (.Dict [] [] pos) tDNewK := fun pins s σ H Q I h =>
  wpAny_Dict_empty ⟨.ref s.heap.objs.size, _, I.laid (a := s.heap.objs.size) (o := .dK []) (t' := s.toks) (fun _ _ q => Heap.get?_push_of_some _ q) (Nat.le_refl _) (dk_empty s.heap I.big), rfl, h _ (I.hok.fresh (Nat.le_refl _))⟩
end

/-- the pairs of a display, from the left -/
def tPairs : List (TE × TE) → St → Hp → (List (V × V) → Hp → Prop) → Prop
  | [], _, H, Q => Q [] H
  | (tk, tv) :: r, σ, H, Q => tk σ H fun x H1 => tv σ H1 fun y H2 => tPairs r σ H2 fun ps H3 => Q ((x, y) :: ps) H3
abbrev VV : List (V × V) → List (Value × Value) → Prop := Paired fun p q => RelV p.1 q.1 ∧ RelV p.2 q.2
def PPs (X : Cx) (pos : Pos) (keys : List (Option Expr)) (values : List Expr) (trs : List (TE × TE)) : Prop :=
  ∀ (pins : List (Addr × Obj)) (s : Shared) (σ : St) (H : Hp) (Q : List (V × V) → Hp → Prop), Inv X pins σ H s → tPairs trs σ H Q →
    wpAny (model X.prog X.w) X.A (evalPairs (pairTrees keys values X.env pos)) (fun vs s' => ∃ ps H', Inv X pins σ H' s' ∧ VV ps vs ∧ Q ps H') X.xe s
def mergeK (kvs more : List (Key × V)) : List (Key × V) := more.foldl (fun acc kv => putK acc kv.1 kv.2) kvs
/-- {k: v, ..} with keys ints and texts; the new dict stands empty while the pairs are made -/
def tDisp (trs : List (TE × TE)) : TE := fun σ H Q => ∀ p, H p = none → tPairs trs σ (upd H p (.dK [])) fun ps H2 => H2 p = some (.dK []) ∧ ∃ kvs : List (Key × V), ps = kvs.map (fun kv => (kV kv.1, kv.2)) ∧ kvs.length ≤ 15 ∧ Q (.ref p) (upd H2 p (.dK (mergeK [] kvs)))
/-- a method call o.m(e) of a built-in, with one argument: what must be seen of the text -/
structure M1 (X : Cx) (o : Expr) (m : Str) (apos : Pos) (e : Expr) (cpos : Pos) : Prop where
  base : attributeBase o m X.env (eval o X.env) = eval o X.env
  few : ((backTo cpos (starEach [e] X.env)).all (fun x => !x.1) && (backToKw cpos (keywordEach [] X.env)).all (fun x => x.1.isSome)
    && decide (([e] : List Expr).length + ([] : List Keyword).length + (if ([] : List Keyword).isEmpty then 0 else 1) < 30)) = true
  line : (apos.endLine == cpos.line) = true
  trees : backTo cpos (starEach [e] X.env) = [(false, eval e X.env)]
structure M2 (X : Cx) (o : Expr) (m : Str) (apos : Pos) (e f : Expr) (cpos : Pos) : Prop where
  base : attributeBase o m X.env (eval o X.env) = eval o X.env
  few : ((backTo cpos (starEach [e, f] X.env)).all (fun x => !x.1) && (backToKw cpos (keywordEach [] X.env)).all (fun x => x.1.isSome)
    && decide (([e, f] : List Expr).length + ([] : List Keyword).length + (if ([] : List Keyword).isEmpty then 0 else 1) < 30)) = true
  line : (apos.endLine == cpos.line) = true
  trees : backTo cpos (starEach [e, f] X.env) = [(false, eval e X.env), (false, eval f X.env)]

/-- a is a dict, whatever its keys -/
def IsD (H : Hp) (a : Addr) : Prop := (∃ kvs, Rd H a (.dK kvs)) ∨ ∃ kvs, Rd H a (.dT kvs)
section
variable {X : Cx} {pins : List (Addr × Obj)} {σ : St} {H : Hp} {s : Shared} {a : Addr} {y d : V} {u r : Value} {o : Option V} {A : Around} {E : Value → Shared → Prop}
end

def tDGet1 (td ty : TE) : TE := fun σ H Q => td σ H fun x H1 => ∃ a, x = .ref a ∧ IsD H1 a ∧ ty σ H1 fun y H2 => ∃ o, DGet H2 a y o ∧ Q (o.getD .non) H2
def tDGet2 (td ty tx : TE) : TE := fun σ H Q => td σ H fun x H1 => ∃ a, x = .ref a ∧ IsD H1 a ∧ ty σ H1 fun y H2 => tx σ H2 fun z H3 => ∃ o, DGet H3 a y o ∧ Q (o.getD z) H3
/-- d.pop(k): there; d.pop(k, x): there or not -/
def tDPop1 (td ty : TE) : TE := fun σ H Q => td σ H fun x H1 => ∃ a, x = .ref a ∧ IsD H1 a ∧ ty σ H1 fun y H2 => ∃ kvs k v, H2 a = some (.dK kvs) ∧ y = kV k ∧ valV kvs k = some v ∧ Q v (upd H2 a (.dK (dropK kvs k)))
def tDPop2 (td ty tx : TE) : TE := fun σ H Q => td σ H fun x H1 => ∃ a, x = .ref a ∧ IsD H1 a ∧ ty σ H1 fun y H2 => tx σ H2 fun z H3 => ∃ kvs k, H3 a = some (.dK kvs) ∧ y = kV k ∧
  (∀ v, valV kvs k = some v → Q v (upd H3 a (.dK (dropK kvs k)))) ∧ (valV kvs k = none → Q z H3)
section
variable {X : Cx} {o e f : Expr} {apos cpos : Pos} {td ty tx : TE}
end

section
variable {X : Cx} {pins : List (Addr × Obj)} {σ : St} {H : Hp} {s : Shared} {a : Addr} {kvs : List (Key × V)} {A : Around} {E : Value → Shared → Prop}
theorem d_copyOf {Q : Value → Shared → Prop} (I : Inv X pins σ H s) (e : Rd H a (.dK kvs)) (h : ∀ p s', H p = none → Inv X pins σ (upd H p (.dK kvs)) s' → Q (.ref p) s') : wpAny (model X.prog X.w) A (call (.type "dict") [.ref a]) Q E s := by
  obtain ⟨z, hd, vs, rel, dd⟩ := dk_rd I.hok e
  refine kt_call_dict hd dd (by rw [← rel.length]; exact z) fun h' dd' hs => ?_
  refine h _ _ (I.hok.fresh (Nat.le_refl _)) (I.laid (a := s.heap.objs.size) (o := .dK kvs) (t' := s.toks) (fun b q hq => ?_) (Nat.le_refl _) (dk_new z (beq_eq_false_iff_ne.mpr (Ne.symm (Nat.ne_of_lt I.big))) rel dd'))
  exact (hs.2 b (Nat.ne_of_lt (Heap.lt_size hq))).trans (Heap.get?_push_of_some _ hq)
end


section
variable {X : Cx} {pins : List (Addr × Obj)} {σ : St} {H : Hp} {s : Shared} {a : Addr} {y : V} {u : Value} {A : Around} {E : Value → Shared → Prop}
end
end L2

namespace Att
open PySem PySem.W PySem.Calls PyProof.Rows

theorem ints_of_wellAll {P : Params} {h : Heap} : ∀ (ns : List Int) (vs : List Value), WellAll P h vs (ns.map WData.int) → IntsAre vs ns := by
  intro ns
  induction ns with
  | nil =>
    intro vs w
    rw [List.map_nil] at w
    cases w
    exact .nil
  | cons n ns ih =>
    intro vs w
    rw [List.map_cons] at w
    cases w with
    | cons a b =>
      cases a
      exact .cons _ _ (ih _ b)

theorem script_of {l : OpenLaw} {n : Nat} (hn : l.most = some n) {P : Params} {h : Heap} {args : List WData} {vals : List Value}
    (hpre : l.row.toRowW.claim.pre args = true) (hwl : WellAll P h vals args) :
    ∃ a vs ns, vals = [Value.ref a] ∧ args = [WData.list (ns.map WData.int)] ∧ h.get? a = some { cls := .type "list", data := .seq vs.toArray } ∧ IntsAre vs ns ∧ ns.length ≤ n := by
  have hsh : WShape.hasAll [] args [.list .int] = true := (pre_splitW hpre).1
  have hc : l.pre.holds [] { args := args } = true := (pre_splitW hpre).2
  obtain ⟨d, r, rfl, h1, h2⟩ := hasAllW_cons hsh
  obtain rfl := hasAllW_nil h2
  obtain ⟨xs, rfl, h3⟩ := hasW_list h1
  obtain ⟨ns, rfl⟩ := items_int h3
  have hlen : ns.length ≤ n := by
    unfold OpenLaw.pre at hc
    have h4 : (WTm.not (.lt (.lit (.int (n : Int))) (.len (.arg 0)))).holds [] { args := [.list (ns.map .int)] } = true := by
      have h4 := (holds_andW hc).1
      rw [hn] at h4
      exact h4
    have h5 := condW_of h4 (w_not (w_lt w_lit (w_len_list (w_arg rfl))))
    rw [List.length_map] at h5
    refine Nat.le_of_not_lt fun q => ?_
    have q' : (n : Int) < ((ns.length : Nat) : Int) := by omega
    first
      | (rw [decide_eq_true q'] at h5; exact absurd h5 (by decide))
      | (simp at h5; omega)
  cases hwl with
  | cons w1 w2 =>
    cases w2
    cases w1 with
    | list ho hall => exact ⟨_, _, ns, rfl, rfl, ho, ints_of_wellAll ns _ hall, hlen⟩

theorem post_true (l : OpenLaw) (args : List WData) : l.row.toRowW.claim.post args (.bool true) args = true :=
  postW_of (r := l.row.toRowW) (X := (true == true))
    (show WShape.has [] (.bool true) .bool = true by first | rfl | decide | simp [WShape.has, WShape.arms, WShape.armsAll])
    (show (WTm.eq .res (.lit (.bool true))).value [] { args := args, res := some (.bool true), after := args } = some (.bool (true == true)) from w_eq_bool (w_res rfl) w_lit) rfl

theorem attach {l : OpenLaw} {n : Nat} {q : Program} {loose : List Str} {XP : (Str → Option Value) → Heap → Prop} {YP : World → Heap → Prop} {d : DefRec} {x : Str}
    (hn : l.most = some n) (hdf : d.params.defaults = [])
    (hbind : ∀ pm cd doc v : Value, bindArgs (docDef d.name d.params d.body d.scope pm cd doc) ⟨[v], []⟩ = pure [(x, v)])
    (hx : d.scope.names.lookup x = some .local ∨ d.scope.names.lookup x = some .cell)
    (hk : d.scope.kind = .function) (hco : d.scope.isCoroutine = false) (hgen : d.scope.isGenerator = false)
    (body : ∀ (w : World) (s₀ s₁ s : Shared) (mg mb : Str → Option Value) (fa : Addr) (o : Obj) (pm cd doc : Value) (a : Addr) (vs : List Value) (ns : List Int),
      Ground q loose [] XP w s₀ mg mb s₁.heap → YP w s₁.heap →
      s₁.heap.get? fa = some o → o.data = .func (docDef d.name d.params d.body d.scope pm cd doc) → s₁.heap.CodeRec cd d.name → mg d.name = some (.ref fa) →
      s₁.heap.get? a = some { cls := .type "list", data := .seq vs.toArray } → IntsAre vs ns → ns.length ≤ n →
      s.gens = #[] → s.os = s₁.os →
      Fr s₁.heap s₁.heap.objs.size s.heap (bindL (envOfC d.name d.scope s₁.heap.objs.size fa cd).kindOf [(x, .ref a)] fun _ => none) →
      Cl s₁.heap.objs.size (cellsFrom (s₁.heap.objs.size + 1) d.scope.names []) s.heap (bindC (envOfC d.name d.scope s₁.heap.objs.size fa cd).kindOf [(x, .ref a)] fun _ => none) →
      wpAny (model l.prog w) (callerA.deeper (envOfC d.name d.scope s₁.heap.objs.size fa cd)) (execs d.body (envOfC d.name d.scope s₁.heap.objs.size fa cd))
        (fun f s' => f = .ret (.bool true) ∧ OldK s₁.heap s'.heap ∧ s'.os = s₁.os ∧ AllBare s'.gens) (fun _ _ => False) s) :
    WalkO q loose XP YP l.row.toRowW d [] (fun f vs => PySem.call f vs) := by
  intro w s₀ s₁ mg mb G Y fa o pm cd doc dV kV ho hd hcd hD hmg hg args vals as hpre hlay hrd hwl hlo
  obtain rfl : dV = .none := Dflts.none hD hdf
  obtain rfl : kV = .none := Dflts.noKw hD
  obtain ⟨a, vs, ns, rfl, rfl, hobj, hints, hlen⟩ := script_of hn hpre hwl
  refine enter_call ?_
  refine call_cells_ret (o := o) (by rw [depth_caller]; decide) ho (fd_plain hd) G.T.nolimit hcd (hbind pm cd doc (.ref a)) (fun y hy => ?_) (fun h₁ tk F X => ?_) hco hgen hk
  · obtain rfl : y = (x, Value.ref a) := List.mem_singleton.mp hy
    rcases hx with e | e
    · exact .inl e
    · exact .inr ⟨e, cellsFrom_some _ _ _ (.inl e)⟩
  · refine wpAny_mono (body w s₀ s₁ { s₁ with heap := h₁, toks := tk } mg mb fa o pm cd doc a vs ns G Y ho (fd_plain hd) hcd hmg hobj hints hlen hg rfl F X) (fun f s' hq => ?_) (fun _ _ hq => hq)
    obtain ⟨rfl, h2, h3, h4⟩ := hq
    exact ⟨.inl ⟨.bool true, .bool true, [], rfl, fun _ => rfl, .bool true, post_true l _, fun _ => ⟨List.Pairwise.nil, fun _ hm => (nomatch hm)⟩⟩, h2, h3, h4⟩

section
variable {prog : Program} {w : World} {A : Around} {E : Value → Shared → Prop} {s : Shared} {K : Frag}

def noObjs (h : Heap) : Heap := { h with objs := #[] }
def ledger (h : Heap) (L d : Addr) : List (Addr × Obj) := (List.range h.objs.size).filterMap fun a => if a = L ∨ a = d then none else (h.get? a).map fun o => (a, o)
end
end Att

namespace L2
open PySem PySem.Spec PyProof.Rows

theorem vals_ints : ∀ {vs : List Value} {ns : List Int}, IntsAre vs ns → Vals (ns.map V.int) vs
  | _, _, .nil => .nil
  | _, _, .cons n t h => .cons ⟨t, rfl⟩ (vals_ints h)

/-- nothing is tracked but the script, known to the object (or it is an object of the module) -/
def Only (H : Hp) : Prop := ∀ b, H b = none ∨ ∃ o xs, H b = some (.frz o (.lst xs))

/-- THE HEAD: the law's promise, at the heap behind the top. F, the promise of the law's def, may use that base is part of the heap (so K.In base, base.Ns mainGlobals mg stand in Mod) -/
theorem law_call {P : Program} {w : World} {K : PySem.W.Frag} {mg mb : Str → Option Value} {CX : CXT} {k : Nat} {fa a : Addr} {fd : FuncData} {x : Str} {sp : Sp} {s₁ : Shared} {vs : List Value} {ns : List Int}
    (KX : K.In s₁.heap) (hns : s₁.heap.Ns mainGlobals mg) (hb : s₁.heap.Ns builtinsNs mb) (hbb : ∀ x : Str, x ≠ "__name__" → mb x = bootBuiltins x) (hlim : s₁.heap.NoLimit) (hg : s₁.gens = #[])
    (ha : s₁.heap.get? a = some { cls := .type "list", data := .seq vs.toArray }) (hi : IntsAre vs ns) (hl : ns.length ≤ sizeLine) (hr : Room k callerA)
    (F : ∀ base : Heap, K.In base → base.Ns mainGlobals mg → FnOk P w K mg base CX k fa fd [x] sp) (hbind : ∀ (s : Shared) (u : Value), BindsTo s fd ⟨[u], []⟩ [(x, u)])
    (hsp : ∀ H : Hp, Only H → SqL K H a (ns.map V.int) → sp [.ref a] H (fun v _ => v = .bl true) fun _ _ _ => False)
    (hCX : ∀ H e s', CX [] H s₁ (fun _ _ _ => False) e s' → False) :
    codeAny (model P w) callerA (.call (.ref fa) ⟨[.ref a], []⟩) (fun r s' => r = .ok (.ret (.bool true)) ∧ OldK s₁.heap s'.heap ∧ s'.os = s₁.os ∧ AllBare s'.gens) s₁ := by
  have rv := vals_ints hi
  have lenV := hi.length
  -- from an abstract heap in which nothing but the script may be tracked
  have core : ∀ H : Hp, Only H → SqL K H a (ns.map V.int) → HOk P w H s₁.heap → (∀ b, H b ≠ none → b = a) → (H a ≠ none → K.lookup a = none) →
      codeAny (model P w) callerA (.call (.ref fa) ⟨[.ref a], []⟩) (fun r s' => r = .ok (.ret (.bool true)) ∧ OldK s₁.heap s'.heap ∧ s'.os = s₁.os ∧ AllBare s'.gens) s₁ := by
    intro H hO hS hok hA hK
    have base_of : ∀ {b : Addr} {o : Obj}, s₁.heap.get? b = some o → H b = none → (hidT s₁.heap H).get? b = some o := fun e n => hidT_get e n
    have noA : ∀ {b : Addr} {o : Obj} {es : Array DictEntry} {ep : Nat}, s₁.heap.get? b = some o → o.data = .dict es ep → H b = none := fun {b o es ep} e d => by
      cases q : H b with
      | none => rfl
      | some u =>
        have e' : b = a := hA b (by rw [q]; simp)
        subst e'
        rw [ha] at e; cases e
        have d' : Data.seq vs.toArray _ = Data.dict es ep := d
        cases d'
    have nsK : ∀ {b : Addr} {m : Str → Option Value}, s₁.heap.Ns b m → (hidT s₁.heap H).Ns b m := fun {b m} ⟨o, es, ep, e, d, r⟩ => ⟨o, es, ep, base_of e (noA e d), d, r⟩
    have hKb : K.In (hidT s₁.heap H) := fun b o e => base_of (KX b o e) (by
      cases q : H b with
      | none => rfl
      | some u =>
        have e' : b = a := hA b (by rw [q]; simp)
        subst e'
        rw [hK (by rw [q]; simp)] at e; cases e)
    have hM : Mod K mg (hidT s₁.heap H) := ⟨hKb, nsK hns, ⟨mb, nsK hb, hbb⟩, let ⟨mc, h1, h2⟩ := hlim; ⟨mc, nsK h1, h2⟩⟩
    have e0 : Env0 P w K mg (hidT s₁.heap H) callerA [] s₁ H := ⟨rfl, hM, fun b o e => of_hidT e, Nat.le_of_eq (hidT_size _ _), trivial, fun b hb => absurd (show b ∈ ([] : List Addr) from hb) (by simp), hok, .of_eq hg⟩
    refine codeAny_mono ((F _ hKb (nsK hns)).run callerA [] s₁ H ⟨[.ref a], []⟩ [.ref a] [.ref a] _ _ hr e0 (hbind s₁ (.ref a)) (.cons rfl .nil) (hsp H hO hS)) fun r s' h => ?_
    cases r with
    | error e => exact (hCX H e s' h).elim
    | ok fl =>
      cases fl with
      | next => exact False.elim h
      | brk => exact False.elim h
      | cont => exact False.elim h
      | ret u =>
        obtain ⟨v, H', os, bare, un, hok', r', q⟩ := h
        have q' : v = .bl true := q
        subst q'
        obtain rfl : u = Value.bool true := r'
        refine ⟨rfl, OldK.of_keep fun b o e => ?_, os, bare⟩
        cases q : H b with
        | none => exact un.keep b o e q (by intro z; exact absurd (show b ∈ ([] : List Addr) from z) (by simp)) (by simp)
        | some u =>
          rcases hO b with z | ⟨ob, xs, z⟩
          · rw [q] at z; cases z
          · have z2 := un.frzs b ob _ z
            obtain ⟨e1, _⟩ := hok b _ z
            obtain ⟨e2, _⟩ := hok' b _ z2
            rw [e] at e1; cases e1
            exact e2
  cases hk : K.lookup a with
  | some o =>
    -- the script is one of the module's own objects
    have e := KX a o hk
    rw [ha] at e
    cases e
    refine core (fun _ => none) (fun _ => .inl rfl) (.inr ⟨_, vs.toArray, _, hk, rfl, rfl, rfl, by rw [List.size_toArray, lenV]; exact hl, by simpa using rv⟩) (fun b u z => by have z' : (none : Option HO) = some u := z; cases z') (fun b z => absurd rfl z) fun z => absurd rfl z
  | none =>
    refine core (fun b => if b = a then some (.frz { cls := .type "list", data := .seq vs.toArray } (.lst (ns.map V.int))) else none) (fun b => ?_) (.inl (.inr ⟨{ cls := .type "list", data := .seq vs.toArray }, if_pos rfl⟩)) (fun b u z => ?_) (fun b z => ?_) fun _ => hk
    · by_cases hb : b = a
      · exact .inr ⟨_, _, if_pos hb⟩
      · exact .inl (if_neg hb)
    · by_cases hb : b = a
      · have z' := (if_pos hb).symm.trans z
        cases z'
        subst hb
        exact ⟨ha, by rw [List.length_map]; exact hl, vs, _, rv, ha⟩
      · have z' := (if_neg hb).symm.trans z
        cases z'
    · by_cases hb : b = a
      · exact hb
      · exact absurd (if_neg hb) z
end L2

namespace L2
open PySem PySem.Spec PyProof.Rows

abbrev KOf {K : PySem.W.Frag} {h : Heap} (_ : K.In h) : PySem.W.Frag := K

end L2


namespace L2
open PySem PySem.Spec PyProof.Rows

/-- the j-th statement of a class's body -/
def inClass (s : Stmt) (j : Nat) : Stmt := match s with
  | .ClassDef _ _ _ body _ _ _ _ _ _ _ => body.getD j (.Pass ⟨0, 0, 0, 0⟩)
  | _ => .Pass ⟨0, 0, 0, 0⟩
def defArgs (s : Stmt) : Arguments := match s with
  | .FunctionDef _ a _ _ _ _ _ _ _ _ => a
  | _ => { posonlyargs := [], args := [], vararg := none, kwonlyargs := [], kw_defaults := [], kwarg := none, defaults := [] }
def defBody (s : Stmt) : List Stmt := match s with
  | .FunctionDef _ _ b _ _ _ _ _ _ _ => b
  | _ => []
def defScope (s : Stmt) : Scope := match s with
  | .FunctionDef _ _ _ _ _ _ sc _ _ _ => sc
  | _ => { kind := .function, names := [], isGenerator := false, isCoroutine := false }

abbrev CX0 : CXT := fun _ _ _ _ _ _ => False
abbrev E0 : XK := fun _ _ _ => False
theorem pass0 {X : Cx} : Passes CX0 X E0 := fun _ _ _ _ _ _ _ h => h.elim

structure Fun (K : PySem.W.Frag) (x qual : Str) (st : Stmt) (f : Addr) (fd : FuncData) : Prop where
  ex : ∃ (oc : Value) (od : Option Addr) (kV doc pm : Value) (an : Option Addr) (cdv ct : Value) (osl : Array (Option Value)),
    fd = PySem.W.fnOf x qual (defArgs st) (defBody st) (defScope st) .none kV doc pm an cdv ct ∧ K.lookup f = some ⟨oc, od, .func fd, osl⟩ ∧ PySem.W.codeIn K cdv qual = true
  kp : PySem.W.keepIn K (.ref f) = true
section
variable {P : Program} {w : World} {K : PySem.W.Frag} {mg : Str → Option Value} {base : Heap}
/-- THE RULE for a def: its body as a term of rules, and the reading of that term -/
theorem Fun.ok {x qual : Str} {st : Stmt} {f : Addr} {fd : FuncData} {N ps : List Str} {k : Nat} {sp : Sp} (F : Fun K x qual st f fd) (S : FnScope N ps (defScope st)) (len : ∀ vs H Q E, sp vs H Q E → vs.length = ps.length)
    (hbody : ∀ (cdv : Value) (A : Around) (outer : List Env) (s : Shared) (H : Hp) (vs : List V) (Q : VK) (E : XK), Room k (A.deeper (envOfC qual (defScope st) s.heap.objs.size f cdv)) → sp vs H Q E →
      ∃ t, PSs (cxOf CX0 P w K mg base N qual (defScope st) f cdv A outer s H E).nox (defBody st) t ∧ t { nx := fun _ H' => Q .non H', rt := Q } (start N vs) H) : FnOk P w K mg base CX0 (k + 1) f fd ps sp := by
  obtain ⟨oc, od, kV, doc, pm, an, cdv, ct, osl, rfl, lk, hcd⟩ := F.ex
  refine fn_of lk hcd S len fun A outer s H vs Q E hr hsp => ?_
  obtain ⟨t, h, q⟩ := hbody cdv A outer s H vs Q E hr hsp
  exact ⟨t, h.nox, q⟩
/-- how its arguments bind (no defaults): h is «fun _ _ _ _ _ _ us hl => match us, hl with | [_, _], _ => rfl», one _ a parameter -/
theorem Fun.binds {x qual : Str} {st : Stmt} {f : Addr} {fd : FuncData} {ps : List Str} (F : Fun K x qual st f fd)
    (h : ∀ (kV doc pm : Value) (an : Option Addr) (cdv ct : Value) (us : List Value), us.length = ps.length → bindArgs (PySem.W.fnOf x qual (defArgs st) (defBody st) (defScope st) .none kV doc pm an cdv ct) ⟨us, []⟩ = pure (ps.zip us)) : Binds K fd ps [] := by
  obtain ⟨oc, od, kV, doc, pm, an, cdv, ct, osl, rfl, lk, hcd⟩ := F.ex
  exact .all (h kV doc pm an cdv ct)
theorem fun_mk {x qual : Str} {st : Stmt} {f : Addr} {oc : Value} {od an : Option Addr} {osl : Array (Option Value)} {kV doc pm cdv ct : Value} (l : K.lookup f = some ⟨oc, od, .func (PySem.W.fnOf x qual (defArgs st) (defBody st) (defScope st) .none kV doc pm an cdv ct), osl⟩)
    (c : PySem.W.codeIn K cdv qual = true) (k : PySem.W.keepIn K (.ref f) = true) : Fun K x qual st f (PySem.W.fnOf x qual (defArgs st) (defBody st) (defScope st) .none kV doc pm an cdv ct) := ⟨⟨oc, od, kV, doc, pm, an, cdv, ct, osl, rfl, l, c⟩, k⟩
end
theorem small1000 {n : Nat} (h : n ≤ 1000) : n < sizeLine := Nat.lt_of_le_of_lt h (by decide)

section
variable {X : Cx}
theorem pv (i : Nat) {x : Str} {pos : Pos} (hN : X.N[i]? = some x := by rfl) (hv : Vis X.env.scope x := by first | exact Or.inl rfl | exact Or.inr (Or.inl rfl) | exact Or.inr (Or.inr rfl)) (hd : (x == ("__debug__" : Str)) = false := by decide)
    (hcd : (x == ("__classdict__" : Str)) = false := by decide) : PE X (.Name x pos) (tVar i) := pe_var hN hv hd hcd
end

theorem iteF {A B : Prop} (h : B) : if false = true then A else B := by
  rw [if_neg Bool.false_ne_true]
  exact h
theorem iteT {A B : Prop} (h : A) : if true = true then A else B := by
  rw [if_pos rfl]
  exact h
theorem iteNS {c A B : Prop} [Decidable c] (hc : c) (h : B) : if (!decide c) = true then A else B := by
  rw [decide_eq_true hc]
  exact iteF h

/-- all that was tracked is as it was -/
def Same (H H' : Hp) : Prop := ∀ b o, H b = some o → H' b = some o
theorem Same.refl (H : Hp) : Same H H := fun _ _ h => h
theorem Same.trans {H H1 H2 : Hp} (a : Same H H1) (b : Same H1 H2) : Same H H2 := fun c o h => b c o (a c o h)
theorem Same.free {H H' : Hp} (e : Same H H') {l : Addr} (h : H' l = Option.none) : H l = Option.none := by
  cases q : H l with
  | none => rfl
  | some o =>
    rw [e l o q] at h
    cases h
theorem Same.seq {K : PySem.W.Frag} {H H' : Hp} {a : Addr} {xs : List V} (e : Same H H') (h : SqL K H a xs) : SqL K H' a xs := by
  rcases h with (h | ⟨o, h⟩) | h
  · exact .inl (.inl (e _ _ h))
  · exact .inl (.inr ⟨o, e _ _ h⟩)
  · exact .inr h

end L2

namespace L2
open PySem PySem.Spec PyProof.Rows
section
variable {X : Cx}
end
end L2
namespace L2
open PySem PySem.Spec PyProof.Rows
section
variable {κ : Type} [DecidableEq κ]
theorem valV_not {kvs : List (κ × V)} {k : κ} (h : valV kvs k = none) : ¬ k ∈ kvs.map (·.1) := by
  intro m
  obtain ⟨p, hp, e⟩ := List.mem_map.mp m
  have q : (kvs.any fun kv => decide (kv.1 = k)) = true := List.any_eq_true.mpr ⟨p, hp, decide_eq_true e⟩
  rw [valV_any, h] at q
  exact absurd q (by simp)
theorem nd_snoc : ∀ {l : List κ} {k : κ}, l.Nodup → ¬ k ∈ l → (l ++ [k]).Nodup
  | [], k, _, _ => by simp
  | a :: r, k, h, hk => by
    obtain ⟨h1, h2⟩ := List.nodup_cons.mp h
    show (a :: (r ++ [k])).Nodup
    refine List.nodup_cons.mpr ⟨fun m => ?_, nd_snoc h2 fun m => hk (List.mem_cons.mpr (Or.inr m))⟩
    rcases List.mem_append.mp m with q | q
    · exact h1 q
    · exact hk (List.mem_cons.mpr (Or.inl (List.mem_singleton.mp q).symm))
theorem nd_putK {kvs : List (κ × V)} {k : κ} (v : V) (hn : (kvs.map (·.1)).Nodup) (h : valV kvs k = none) : ((putK kvs k v).map (·.1)).Nodup := by
  rw [putK_new v h, List.map_append]
  exact nd_snoc hn (valV_not h)
end
end L2

namespace Mth
theorem pos_right {a b : Int} (ha : 0 < a) (h : 0 < a * b) : 0 < b := by
  rcases (by omega : 0 < b ∨ b ≤ 0) with q | q
  · exact q
  · have := Int.mul_nonneg (Int.le_of_lt ha) (by omega : 0 ≤ -b)
    rw [Int.mul_neg] at this
    omega
/-- what a fraction made of t and b (not 0) is -/
structure Fr (t b q r : Int) : Prop where
  pos : 0 < r
  cross : q * b = t * r
  cop : Int.gcd q r = 1
  topLe : q.natAbs ≤ t.natAbs
  botLe : r.natAbs ≤ b.natAbs
theorem abs_le_mul {c q : Int} (hc : 0 < c) : q.natAbs ≤ (c * q).natAbs := by
  rw [Int.natAbs_mul]
  exact Nat.le_mul_of_pos_left _ (by omega)
theorem fr_of {t b c : Int} (hb : b ≠ 0) (hc : c = ((Int.gcd t b : Nat) : Int)) : 0 < c ∧ c ≤ b.natAbs ∧ (0 < b → Fr t b (t.fdiv c) (b.fdiv c)) ∧ (b < 0 → Fr t b (t.fdiv (-c)) (b.fdiv (-c))) := by
  have hp : 0 < Int.gcd t b := Int.gcd_pos_iff.mpr (.inr hb)
  have c0 : 0 < c := by omega
  have d1 : c ∣ t := hc ▸ Int.gcd_dvd_left t b
  have d2 : c ∣ b := hc ▸ Int.gcd_dvd_right t b
  obtain ⟨q, hq⟩ := d1
  obtain ⟨r, hr⟩ := d2
  have hr0 : r ≠ 0 := by rintro rfl; rw [Int.mul_zero] at hr; exact hb hr
  have hle : c ≤ b.natAbs := by
    rw [hr, Int.natAbs_mul]
    have : c.natAbs * 1 ≤ c.natAbs * r.natAbs := Nat.mul_le_mul_left _ (by omega)
    omega
  have e1 : t.fdiv c = q := by rw [hq, Int.mul_fdiv_cancel_left _ (by omega)]
  have e2 : b.fdiv c = r := by rw [hr, Int.mul_fdiv_cancel_left _ (by omega)]
  have e3 : t.fdiv (-c) = -q := by rw [show t = -c * -q by rw [hq, Int.neg_mul_neg], Int.mul_fdiv_cancel_left _ (by omega)]
  have e4 : b.fdiv (-c) = -r := by rw [show b = -c * -r by rw [hr, Int.neg_mul_neg], Int.mul_fdiv_cancel_left _ (by omega)]
  have hg : Int.gcd q r = 1 := by
    have h1 : Int.gcd (c * q) (c * r) = c.natAbs * Int.gcd q r := Int.gcd_mul_left c q r
    rw [← hq, ← hr] at h1
    have h3 : c.natAbs = Int.gcd t b := by omega
    rw [h3] at h1
    have h2 : Int.gcd t b * Int.gcd q r = Int.gcd t b * 1 := by rw [← h1, Nat.mul_one]
    exact Nat.eq_of_mul_eq_mul_left hp h2
  have l1 : q.natAbs ≤ t.natAbs := hq ▸ abs_le_mul c0
  have l2 : r.natAbs ≤ b.natAbs := hr ▸ abs_le_mul c0
  refine ⟨c0, hle, fun b0 => ?_, fun b0 => ?_⟩
  · rw [e1, e2]
    exact ⟨pos_right c0 (hr ▸ b0), by rw [hq, hr, Int.mul_assoc, Int.mul_left_comm], hg, l1, l2⟩
  · rw [e3, e4]
    refine ⟨pos_right c0 (by rw [Int.mul_neg, ← hr]; omega), ?_, by rw [Int.gcd_neg, Int.neg_gcd]; exact hg, by omega, by omega⟩
    rw [hq, hr, Int.neg_mul, Int.mul_neg, Int.mul_assoc, Int.mul_left_comm]
/-- below 2 ^ n -/
def Bd (n : Nat) (x : Int) : Prop := x.natAbs < 2 ^ n
theorem Bd.mono {m n : Nat} {x : Int} (h : Bd m x) (l : m ≤ n) : Bd n x := Nat.lt_of_lt_of_le h (Nat.pow_le_pow_right (by decide) l)
theorem Bd.mul {m n : Nat} {x y : Int} (h : Bd m x) (k : Bd n y) : Bd (m + n) (x * y) := by
  unfold Bd at *
  rw [Int.natAbs_mul, Nat.pow_add]
  exact Nat.mul_lt_mul'' h k
theorem Bd.add {m : Nat} {x y : Int} (h : Bd m x) (k : Bd m y) : Bd (m + 1) (x + y) := by
  unfold Bd at *
  rw [Nat.pow_succ]
  have := Int.natAbs_add_le x y
  omega
theorem Bd.neg {m : Nat} {x : Int} (h : Bd m x) : Bd m (-x) := by unfold Bd at *; rw [Int.natAbs_neg]; exact h
theorem Bd.sub {m : Nat} {x y : Int} (h : Bd m x) (k : Bd m y) : Bd (m + 1) (x - y) := by rw [Int.sub_eq_add_neg]; exact h.add k.neg
theorem Bd.le {m : Nat} {x y : Int} (h : Bd m y) (k : x.natAbs ≤ y.natAbs) : Bd m x := Nat.lt_of_le_of_lt k h
theorem Bd.abs {m : Nat} {x : Int} (h : Bd m x) : Bd m (x.natAbs : Int) := by unfold Bd at *; simpa using h
theorem Bd.log {n : Nat} {x : Int} (h : Bd n x) (hn : 0 < n) : x.natAbs.log2 < n := by
  by_cases h0 : x.natAbs = 0
  · rw [h0]; simpa using hn
  · exact (Nat.log2_lt h0).mpr h
theorem Fr.bdq {t b q r : Int} {n : Nat} (h : Fr t b q r) (k : Bd n t) : Bd n q := k.le h.topLe
theorem Fr.bdr {t b q r : Int} {n : Nat} (h : Fr t b q r) (k : Bd n b) : Bd n r := k.le h.botLe
end Mth
namespace Bit
/-- the rooms of bits, rising -/
def rooms (n : Nat) : List Nat := (List.range 61).filter n.testBit
/-- bits of a list of rooms -/
def sumOf (l : List Nat) : Nat := l.foldl (fun n r => n ||| 2 ^ r) 0
/-- the parts, as the program makes them -/
def parts (l : List Nat) : List Nat := l.foldl (fun ps r => ps ++ ps.map (· ||| 2 ^ r)) [0]
structure Ok (ps l : List Nat) : Prop where
  len : ps.length = 2 ^ l.length
  first : ps[0]? = some 0
  last : ps[ps.length - 1]? = some (sumOf l)
  rise : ps.Pairwise (· < ·)
  sub : ∀ p ∈ ps, ∀ k, p.testBit k = true → k ∈ l
end Bit
namespace L2
open PySem PySem.Spec PyProof.Rows Mth

theorem bt_len : bootBuiltins "len" = some (.builtin "len") := by decide +kernel
theorem bt_isinstance : bootBuiltins "isinstance" = some (.builtin "isinstance") := by decide +kernel
theorem bt_list : bootBuiltins "list" = some (.type "list") := by decide +kernel
theorem bt_int : bootBuiltins "int" = some (.type "int") := by decide +kernel
theorem bt_bool : bootBuiltins "bool" = some (.type "bool") := by decide +kernel

theorem bd_bits {n : Nat} {x : Int} (h : Bd n x) : Builtin.Int.intBits x ≤ n := PySem.intBits_le_iff.mpr h
theorem bits_bd {n : Nat} {x : Int} (h : Builtin.Int.intBits x ≤ n) : Bd n x := PySem.intBits_le_iff.mp h

section
variable {X : Cx}
def CMulB (i j : Int) : Prop := ∃ m n, Bd m i ∧ Bd n j ∧ m + n ≤ 100000000
def CDivB (_ j : Int) : Prop := j ≠ 0 ∧ Bd 8999 j
theorem op_mulB : OpR X (binaryOp .Mult) (rI CMulB fun i j => .int (i * j)) := opI fun _ _ _ _ _ _ _ hc q => by
  obtain ⟨m, n, h1, h2, h3⟩ := hc
  exact mul_int q (IntMulOk.of_le (bd_bits h1) (bd_bits h2) (by omega))
theorem op_fdivB : OpR X (binaryOp .FloorDiv) (rI CDivB fun i j => .int (i.fdiv j)) := opI fun _ _ _ _ _ _ _ hc q => by
  have h2 : Bd 8999 _ := hc.2
  exact floordiv_int hc.1 q (.inl (PyProof.noPylong_of_log2 (Nat.lt_of_lt_of_le (h2.log (by decide)) (by decide))))
/-- xs[i] of a list or a tuple -/
def rIxA (K : PySem.W.Frag) : R2 := fun x y H Q => ∃ p xs i v, x = .ref p ∧ y = .int i ∧ (SqL K H p xs ∨ SqT K H p xs) ∧ atI xs i = some v ∧ Q v H
theorem ix_any : IxR X (rIxA X.K) := by
  intro value slice pins s σ H x y v u Q I rx ry h hs
  obtain ⟨p, xs, i, w, e1, e2, hq, e3, q⟩ := h
  rcases hq with hq | hq
  · exact ix_list value slice pins s σ H x y v u Q I rx ry ⟨p, xs, i, w, e1, e2, hq, e3, q⟩ hs
  · exact ix_tup value slice pins s σ H x y v u Q I rx ry ⟨p, xs, i, w, e1, e2, hq, e3, q⟩ hs
/-- isinstance(x, c), c one class -/
theorem call_isinst : CallR X (.builtin "isinstance") (fun xs H Q => ∃ x c t cv b, xs = [x, c] ∧ TyOf X.K H x t ∧ RelV c cv ∧ PySem.W.kitOne X.K t cv = some b ∧ Q (.bl b) H) := by
  intro pins s σ H xs us Q I r h
  obtain ⟨x, c, t, cv, b, rfl, ty, rc, e, q⟩ := h
  obtain ⟨u, w', rfl, r1, r2⟩ := vals2 r
  have : w' = cv := by
    cases c with
    | non => cases r2; cases rc; rfl
    | bl b => cases r2; cases rc; rfl
    | ref a => cases r2; cases rc; rfl
    | ty n => cases r2; cases rc; rfl
    | int i => exact absurd e (by obtain ⟨k, rfl⟩ := rc; intro z; unfold PySem.W.kitOne PySem.W.kitCls at z; cases ty <;> simp at z)
    | str i => exact absurd e (by obtain ⟨k, rfl⟩ := rc; intro z; unfold PySem.W.kitOne PySem.W.kitCls at z; cases ty <;> simp at z)
    | byt i => exact absurd e (by obtain ⟨k, rfl⟩ := rc; intro z; unfold PySem.W.kitOne PySem.W.kitCls at z; cases ty <;> simp at z)
    | flt i => exact absurd e (by obtain ⟨k, rfl⟩ := rc; intro z; unfold PySem.W.kitOne PySem.W.kitCls at z; cases ty <;> simp at z)
  subst this
  exact isinst_ok I r1 ty e fun tk => ⟨.bl b, H, I.tok _, rfl, q⟩
end

def Has (K : PySem.W.Frag) (mg : Str → Option Value) (x : Str) (st : Stmt) : Prop := ∃ f fd, mg x = some (.ref f) ∧ Fun K x x st f fd
def Def (P : Program) (w : World) (K : PySem.W.Frag) (mg : Str → Option Value) (base : Heap) (x : Str) (k : Nat) (ps : List Str) (sp : Sp) : Prop :=
  ∃ f fd, mg x = some (.ref f) ∧ PySem.W.keepIn K (.ref f) = true ∧ Binds K fd ps [] ∧ FnOk P w K mg base CX0 k f fd ps sp
section
variable {P : Program} {w : World} {K : PySem.W.Frag} {mg : Str → Option Value} {base : Heap}
theorem Has.def {x : Str} {st : Stmt} {N ps : List Str} {k : Nat} {sp : Sp} (h : Has K mg x st) (S : FnScope N ps (defScope st)) (len : ∀ vs H Q E, sp vs H Q E → vs.length = ps.length)
    (hb : ∀ (kV doc pm : Value) (an : Option Addr) (cdv ct : Value) (us : List Value), us.length = ps.length → bindArgs (PySem.W.fnOf x x (defArgs st) (defBody st) (defScope st) .none kV doc pm an cdv ct) ⟨us, []⟩ = pure (ps.zip us))
    (hbody : ∀ (f : Addr) (cdv : Value) (A : Around) (outer : List Env) (s : Shared) (H : Hp) (vs : List V) (Q : VK) (E : XK), Room k (A.deeper (envOfC x (defScope st) s.heap.objs.size f cdv)) → sp vs H Q E →
      ∃ t, PSs (cxOf CX0 P w K mg base N x (defScope st) f cdv A outer s H E).nox (defBody st) t ∧ t { nx := fun _ H' => Q .non H', rt := Q } (start N vs) H) : Def P w K mg base x (k + 1) ps sp := by
  obtain ⟨f, fd, hm, F⟩ := h
  exact ⟨f, fd, hm, F.kp, F.binds hb, F.ok S len fun cdv A outer s H vs Q E hr hs => hbody f cdv A outer s H vs Q E hr hs⟩
theorem Def.mono {x : Str} {j k : Nat} {ps : List Str} {sp : Sp} (D : Def P w K mg base x j ps sp) (h : j ≤ k) : Def P w K mg base x k ps sp :=
  let ⟨f, fd, a, b, c, d⟩ := D; ⟨f, fd, a, b, c, d.mono h⟩
theorem Fun.binds1 {x qual : Str} {st : Stmt} {f : Addr} {fd : FuncData} {p : Str} (F : Fun K x qual st f fd)
    (h : ∀ (kV doc pm : Value) (an : Option Addr) (cdv ct : Value) (u : Value), bindArgs (PySem.W.fnOf x qual (defArgs st) (defBody st) (defScope st) .none kV doc pm an cdv ct) ⟨[u], []⟩ = pure [(p, u)]) (s : Shared) (u : Value) : BindsTo s fd ⟨[u], []⟩ [(p, u)] := by
  obtain ⟨oc, od, kV, doc, pm, an, cdv, ct, osl, rfl, lk, hcd⟩ := F.ex
  exact .of_eq (h kV doc pm an cdv ct u)
end
section
variable {X : Cx} {x : Str} {p pos : Pos} {e : Expr} {es : List Expr} {t : TA} {k : Nat} {ps : List Str} {sp : Sp}
theorem pe_callD (D : Def X.prog X.w X.K X.mg X.base x k ps sp) (hr : Room k X.A) (ha : PA X (e :: es) t) (hg : Gl X x := by rfl) (hdb : (x == ("__debug__" : Str)) = false := by decide)
    (he : starEach (e :: es) X.env = (false, eval e X.env) :: starEach es X.env := by rfl) (hpl : (backTo pos (starEach es X.env)).any (·.1) = false := by rfl) : PE X (.Call (.Name x p) (e :: es) [] pos) (tCall sp [] E0 t) := by
  obtain ⟨f, fd, hm, hk, hb, F⟩ := D
  exact pe_call F hr hg hm hk hb .nil pass0 ha hdb he hpl
end

theorem weight_int {n : Int} {m : Nat} (h : (PySem.W.WData.int n).weight ≤ m) : Bd m n := by
  refine bits_bd ?_
  simpa only [PySem.W.WData.weight, Builtin.Int.intBits] using h
end L2
namespace Att
open PySem PySem.W PySem.Calls PyProof.Rows Mth
theorem attach_callB {l : OpenLaw} {n : Nat} {q : Program} {loose : List Str} {XP : (Str → Option Value) → Heap → Prop} {YP : World → Heap → Prop} {d : DefRec}
    (hn : l.most = some n) (hdf : d.params.defaults = [])
    (call : ∀ (w : World) (s₀ s₁ : Shared) (mg mb : Str → Option Value) (fa : Addr) (o : Obj) (pm cd doc : Value) (a : Addr) (vs : List Value) (ns : List Int),
      Ground q loose [] XP w s₀ mg mb s₁.heap → YP w s₁.heap →
      s₁.heap.get? fa = some o → o.data = .func (docDef d.name d.params d.body d.scope pm cd doc) → s₁.heap.CodeRec cd d.name → mg d.name = some (.ref fa) →
      s₁.heap.get? a = some { cls := .type "list", data := .seq vs.toArray } → IntsAre vs ns → ns.length ≤ n → (∀ z ∈ ns, Bd 1048576 z) → s₁.gens = #[] →
      codeAny (model l.prog w) callerA (.call (.ref fa) ⟨[.ref a], []⟩) (fun r s' => r = .ok (.ret (.bool true)) ∧ OldK s₁.heap s'.heap ∧ s'.os = s₁.os ∧ AllBare s'.gens) s₁) :
    WalkO q loose XP YP l.row.toRowW d [] (fun f vs => PySem.call f vs) := by
  intro w s₀ s₁ mg mb G Y fa o pm cd doc dV kV ho hd hcd hD hmg hg args vals as hpre hlay hrd hwl hlo
  obtain rfl : dV = .none := Dflts.none hD hdf
  obtain rfl : kV = .none := Dflts.noKw hD
  obtain ⟨a, vs, ns, rfl, rfl, hobj, hints, hlen⟩ := script_of hn hpre hwl
  have hbits : ∀ z ∈ ns, Bd 1048576 z := fun z hz => by
    have h1 := layableW_arg hlay _ (List.mem_singleton.mpr rfl)
    have h2 := layableW_item h1 (.int z) (List.mem_map.mpr ⟨z, hz, rfl⟩)
    exact L2.weight_int (Nat.le_trans (layableW_iff.mp h2).2.2 (by decide))
  refine enter_call (codeAny_mono (call w s₀ s₁ mg mb fa o pm cd doc a vs ns G Y ho (fd_plain hd) hcd hmg hobj hints hlen hbits hg) fun r s' hq => ?_)
  obtain ⟨rfl, h2, h3, h4⟩ := hq
  exact ⟨.inl ⟨.bool true, .bool true, [], rfl, fun _ => rfl, .bool true, post_true l _, fun _ => ⟨List.Pairwise.nil, fun _ hm => (nomatch hm)⟩⟩, h2, h3, h4⟩
end Att
namespace L2
open PySem PySem.Spec PyProof.Rows Mth
/-- law's promise: a list of at most 63 ints (each below 2 ^ 2 ^ 20) is handed in, True comes out -/
def sp_law (K : PySem.W.Frag) : Sp := fun vs H Q _ => ∃ (a : Addr) (ns : List Int), vs = [.ref a] ∧ SqL K H a (ns.map V.int) ∧ ns.length ≤ 63 ∧ (∀ z ∈ ns, Bd 1048576 z) ∧ ∀ H', Q (.bl true) H'
theorem walk_ofB {l : PySem.W.OpenLaw} {k : Nat} {q : Program} {loose : List Str} {XP : (Str → Option Value) → Heap → Prop} {YP : World → Heap → Prop} {d : DefRec} {K : Params → PySem.W.Frag} {x : Str}
    (hn : l.most = some 63) (hdf : d.params.defaults = []) (hr : Room k callerA)
    (hY : ∀ (w : World) (h : Heap), YP w h → (K w.params).In h)
    (F : ∀ (w : World) (mg : Str → Option Value) (fa : Addr) (h : Heap), (K w.params).In h → h.Ns mainGlobals mg → mg d.name = some (.ref fa) →
      ∃ fd : FuncData, (∀ (s : Shared) (u : Value), BindsTo s fd ⟨[u], []⟩ [(x, u)]) ∧
        ∀ base : Heap, (K w.params).In base → base.Ns mainGlobals mg → FnOk l.prog w (K w.params) mg base CX0 k fa fd [x] (sp_law (K w.params))) :
    PySem.W.WalkO q loose XP YP l.row.toRowW d [] (fun f vs => PySem.call f vs) := by
  refine Att.attach_callB hn hdf fun w s₀ s₁ mg mb fa o pm cd doc a vs ns G Y ho hd hcd hmg hobj hints hlen hbits hg => ?_
  have KX := hY w _ Y
  obtain ⟨fd, hb, hF⟩ := F w mg fa _ KX G.T.g hmg
  exact law_call KX G.T.g G.T.b G.T.builtins G.T.nolimit hg hobj hints (Nat.le_trans hlen (by decide)) hr hF hb (fun H hO hS => ⟨a, ns, rfl, hS, hlen, hbits, fun _ => rfl⟩) fun H e s' z => z
section
variable {X : Cx}
def rAddL : R2 := fun x y H Q => ∃ i j, x = .int i ∧ y = .int j ∧ ∀ r : Int, r = i + j → Q (.int r) H
def rSubL : R2 := fun x y H Q => ∃ i j, x = .int i ∧ y = .int j ∧ ∀ r : Int, r = i - j → Q (.int r) H
def rMulL : R2 := fun x y H Q => ∃ i j, x = .int i ∧ y = .int j ∧ CMulB i j ∧ ∀ r : Int, r = i * j → Q (.int r) H
def rDivL : R2 := fun x y H Q => ∃ i j, x = .int i ∧ y = .int j ∧ CDivB i j ∧ ∀ r : Int, r = i.fdiv j → Q (.int r) H
def rPowL : R2 := fun x y H Q => ∃ i j, x = .int i ∧ y = .int j ∧ CPow i j ∧ ∀ r : Int, r = i ^ j.toNat → Q (.int r) H
def rShlL : R2 := fun x y H Q => ∃ i j, x = .int i ∧ y = .int j ∧ CPow i j ∧ ∀ r : Int, r = i * 2 ^ j.toNat → Q (.int r) H
def rShrL : R2 := fun x y H Q => ∃ i j, x = .int i ∧ y = .int j ∧ 0 ≤ j ∧ ∀ r : Int, r = i / 2 ^ j.toNat → Q (.int r) H
def rOrL : R2 := fun x y H Q => ∃ i j, x = .int i ∧ y = .int j ∧ ∀ r : Int, r = Builtin.bitOr i j → Q (.int r) H
def rAndL : R2 := fun x y H Q => ∃ i j, x = .int i ∧ y = .int j ∧ ∀ r : Int, r = Builtin.bitAnd i j → Q (.int r) H
def rLM : R2 := fun x y H Q => ∃ i j, x = .int i ∧ y = .int j ∧ 0 < j ∧ ∀ r : Int, 0 ≤ r → r < j → r = i % j → Q (.int r) H
theorem op_addL : OpR X (binaryOp .Add) rAddL := fun pins s σ H x y v u Q I rx ry ⟨i, j, e1, e2, q⟩ => op_add pins s σ H x y v u Q I rx ry ⟨i, j, e1, e2, q _ rfl⟩
theorem op_subL : OpR X (binaryOp .Sub) rSubL := fun pins s σ H x y v u Q I rx ry ⟨i, j, e1, e2, q⟩ => op_sub pins s σ H x y v u Q I rx ry ⟨i, j, e1, e2, q _ rfl⟩
theorem op_mulL : OpR X (binaryOp .Mult) rMulL := fun pins s σ H x y v u Q I rx ry ⟨i, j, e1, e2, c, q⟩ => op_mulB pins s σ H x y v u Q I rx ry ⟨i, j, e1, e2, c, q _ rfl⟩
theorem op_fdivL : OpR X (binaryOp .FloorDiv) rDivL := fun pins s σ H x y v u Q I rx ry ⟨i, j, e1, e2, c, q⟩ => op_fdivB pins s σ H x y v u Q I rx ry ⟨i, j, e1, e2, c, q _ rfl⟩
theorem op_modL : OpR X (binaryOp .Mod) rLM := fun pins s σ H x y v u Q I rx ry ⟨i, j, e1, e2, c, q⟩ =>
  op_mod pins s σ H x y v u Q I rx ry ⟨i, j, e1, e2, c, q _ (Int.emod_nonneg _ (by omega)) (Int.emod_lt_of_pos _ c) rfl⟩
theorem call_lenL : CallR X (.builtin "len") (fun xs H Q => ∃ p ys, xs = [.ref p] ∧ (SqL X.K H p ys ∨ SqT X.K H p ys) ∧ ∀ r : Int, r = ys.length → Q (.int r) H) :=
  fun pins s σ H xs us Q I r ⟨p, ys, e, hq, q⟩ => call_len_seq pins s σ H xs us Q I r ⟨p, ys, e, hq, q _ rfl⟩
def tCut (t : TS) : TS := fun D σ H => ∃ P : St → Hp → Prop, t { D with nx := P } σ H ∧ ∀ σ' H', P σ' H' → D.nx σ' H'
theorem ps_cut {st : Stmt} {t : TS} (h : PS X st t) : PS X st (tCut t) := by
  intro pins s σ H D I hw
  obtain ⟨P, h1, h2⟩ := hw
  refine thn (h pins s σ H { D with nx := P } I h1) fun f s1 q => ?_
  cases f with
  | next =>
    obtain ⟨σ', H', I', q⟩ := q
    exact ⟨σ', H', I', h2 σ' H' q⟩
  | ret v => exact q
  | brk => exact q
  | cont => exact q
end
theorem iteP {c A B : Prop} [Decidable c] (hc : c) (h : A) : if decide c = true then A else B := by
  rw [decide_eq_true hc]; exact iteT h
theorem iteN {c A B : Prop} [Decidable c] (hc : ¬ c) (h : B) : if decide c = true then A else B := by
  rw [decide_eq_false hc]; exact iteF h
theorem ite3 {c A B : Prop} [Decidable c] (h1 : c → A) (h2 : ¬ c → B) : if decide c = true then A else B := by
  by_cases h : c
  · exact iteP h (h1 h)
  · exact iteN h (h2 h)
theorem same_upd {H : Hp} {p : Addr} {o : HO} (h : H p = none) : Same H (upd H p o) := fun b u e => by rw [upd_ne (ne_of_none e h)]; exact e
theorem Same.tup {K : PySem.W.Frag} {H H' : Hp} {a : Addr} {xs : List V} (e : Same H H') (h : SqT K H a xs) : SqT K H' a xs := by
  rcases h with (h | ⟨o, h⟩) | h
  · exact .inl (.inl (e _ _ h))
  · exact .inl (.inr ⟨o, e _ _ h⟩)
  · exact .inr h
theorem bdd {n : Nat} {x : Int} (h : x.natAbs < 2 ^ n := by decide) : Bd n x := h
theorem bdS {x : Int} (n : Nat) (lo : -(2 ^ 100) < x) (hi : x < 2 ^ 100) (h : 100 ≤ n := by decide) : Bd n x := by
  have : Bd 100 x := by unfold Bd; omega
  exact this.mono h
theorem kit_int_bool (K : PySem.W.Frag) : PySem.W.kitOne K (.type "int") (.type "bool") = some false := by
  show (if PySem.W.kitMeta "bool" = true then ((PySem.fastBuiltinMro "int").map (·.contains (Value.type "bool"))) else none) = some false
  decide +kernel
theorem sz2 {x y : V} : [x, y].length ≤ sizeLine := by show 2 ≤ sizeLine; decide
theorem sz3 {x y z : V} : [x, y, z].length ≤ sizeLine := by show 3 ≤ sizeLine; decide
def sp_gcd : Sp := fun vs H Q _ => ∃ a b : Int, vs = [.int a, .int b] ∧ ∀ r : Int, r = ((Int.gcd a b : Nat) : Int) → Q (.int r) H
def sp_fraction : Sp := fun vs H Q _ => ∃ t b : Int, vs = [.int t, .int b] ∧ b ≠ 0 ∧ Bd 4000 b ∧ ∀ q r p H', Fr t b q r → Same H H' → H' p = some (.tup [.int q, .int r]) → Q (.ref p) H'
def sp_arith (f : Int → Int → Int → Int → Int) (K : PySem.W.Frag) : Sp := fun vs H Q _ => ∃ p1 p2 a b c d, vs = [.ref p1, .ref p2] ∧ SqT K H p1 [.int a, .int b] ∧ SqT K H p2 [.int c, .int d] ∧ 0 < b ∧ 0 < d ∧
  Bd 1000 a ∧ Bd 1000 b ∧ Bd 1000 c ∧ Bd 1000 d ∧ ∀ q r p H', Fr (f a b c d) (b * d) q r → Same H H' → H' p = some (.tup [.int q, .int r]) → Q (.ref p) H'
def sp_under (K : PySem.W.Frag) : Sp := fun vs H Q _ => ∃ p1 p2 a b c d, vs = [.ref p1, .ref p2] ∧ SqT K H p1 [.int a, .int b] ∧ SqT K H p2 [.int c, .int d] ∧
  Bd 1000 a ∧ Bd 1000 b ∧ Bd 1000 c ∧ Bd 1000 d ∧ Q (.bl (decide (a * d < c * b))) H
def sp_cell_at (K : PySem.W.Frag) : Sp := fun vs H Q _ => ∃ (a : Addr) (ns : List Int) (k : Int), vs = [.ref a, .int k] ∧ SqL K H a (ns.map V.int) ∧ 0 ≤ k ∧ ∀ z, (z ∈ ns ∨ z = 0) → Q (.int z) H
def sp_number_by : Sp := fun vs H Q _ => ∃ c : Int, vs = [.int c] ∧ ∀ n, Bd 110 n → Q (.int n) H
def sp_ratio : Sp := fun vs H Q _ => ∃ t b : Int, vs = [.int t, .int b] ∧ 0 < b ∧ Bd 4000 b ∧ ∀ q r p H', Fr t b q r → Same H H' → H' p = some (.tup [.int q, .int r]) → Q (.ref p) H'
end L2
namespace L2
open PySem PySem.Spec PyProof.Rows Mth

/-- the comprehension's block: its own frame's names N', the closure cl -/
def cxComp (X : Cx) (N' : List Str) (scope : Scope) (cl : List (Str × Addr)) (C : Addr) (s : Shared) (H : Hp) (ex : List Addr) : Cx :=
  { X with N := N', env := compEnvC scope cl C X.env, s₀ := s, H₀ := H, outer := X.stack, ex := ex, fn := fun _ => false, pn := [], xe := fun _ _ => False }

theorem Un.same_but {fs ex : List Addr} {H H' : Hp} {h h' h'' : Heap} {C : Addr} (u : Un fs ex H H' h h') (sb : Heap.SameBut C h' h'') (hC : h.get? C = none) : Un fs ex H H' h h'' := by
  have ne : ∀ b o, h.get? b = some o → b ≠ C := fun b o e z => by rw [z, hC] at e; cases e
  exact ⟨fun b o e n hb hx => sb.extBut b o (ne b o e) (u.keep b o e n hb hx), fun b o e n hb hx => by
      obtain ⟨sl, q⟩ := u.slot b o e n hb hx
      exact ⟨sl, sb.extBut b _ (ne b o e) q⟩, u.free, fun b o e hx => by
      obtain ⟨o', q⟩ := u.there b o e hx
      exact ⟨o', sb.extBut b o' (ne b o e) q⟩, u.tups, u.frzs, u.tbls⟩
theorem HOk.same_but {P : Program} {w : World} {H : Hp} {h h' : Heap} {C : Addr} (x : HOk P w H h) (sb : Heap.SameBut C h h') (hn : H C = none) : HOk P w H h' := fun a o e =>
  (x a o e).stay (fun b u hb q => sb.extBut b u (fun z => by
    subst z
    rcases hb with z | z
    · rw [z, e] at hn; cases hn
    · rw [z] at hn; cases hn) q) (fun _ q => q) fun _ _ q => q

/-- the tests of a comprehension -/
def PIf (X : Cx) (ifs : List Expr) (tt : TT) : Prop :=
  ∀ (pins : List (Addr × Obj)) (s : Shared) (σ : St) (H : Hp) (Q : Bool → Hp → Prop), Inv X pins σ H s → tt σ H Q →
    wpAny (model X.prog X.w) X.A (forIn ifs true fun c r => if r = true then do let ok ← isTrue c X.env (eval c X.env); pure (ForInStep.yield ok) else pure (ForInStep.yield r)) (TP X pins σ Q) X.xe s
def tYes : TT := fun _ H Q => Q true H
def closL (env : Env) : List (Str × NameKind) → List (Str × Addr) → List (Str × Addr)
  | [], acc => acc
  | y :: r, acc => closL env r (if (y.2 == NameKind.free) = true then (y.1, (env.cells.lookup y.1).getD 0) :: acc else acc)
section
variable {prog : Program} {w : World} {A : Around} {E : Value → Shared → Prop} {R : Result → Shared → Prop} {s : Shared}
end
section
variable {X : Cx}
/-- readings: the turn's names come first, then the names of the frame that it reads (their slots) -/
def tComp (wi : TI) (g : TG) (tt : TT) (te : TE) (nt : Nat) (sl : List Nat) : TE := fun σ H Q => wi σ H fun J H1 => ∀ D, H1 D = none →
  ∃ W : Nat → Nat → List V → St → Hp → Prop, (∃ m, W 0 m [] (List.replicate nt none ++ sl.map fun j => (σ[j]?).join) (upd H1 D (.lst []))) ∧
    ∀ i m acc σ' H', W i m acc σ' H' →
      (J.stop i H' ∧ Q (.ref D) H') ∨
      (J.go i H' ∧ ∃ N : List V → St → Hp → Prop, (∀ acc' σ2 H4, N acc' σ2 H4 → ∃ m', m' < m ∧ W (i + 1) m' acc' σ2 H4) ∧ ∀ x H2, J.yld i H' x H2 → g x σ' H2 fun σ2 H3 => tt σ2 H3 fun b H4 =>
        if b = true then te σ2 H4 fun y H5 => H5 D = some (.lst acc) ∧ acc.length < sizeLine ∧ N (acc ++ [y]) σ2 (upd H5 D (.lst (acc ++ [y])))
        else N acc σ2 H4)

end
section
variable {X : Cx}
def rBitLen : V → List V → Hp → VK → Prop := fun x vs H Q => ∃ i : Int, x = .int i ∧ vs = [] ∧ ∀ b : Int, b = ((Builtin.Int.intBits i : Nat) : Int) → Q (.int b) H
end
def natV (k : Nat) : V := .int (k : Int)
def sp_has_room : Sp := fun vs H Q _ => ∃ n r : Nat, vs = [natV n, natV r] ∧ Q (.bl (n.testBit r)) H
def sp_with_room : Sp := fun vs H Q _ => ∃ n r : Nat, vs = [natV n, natV r] ∧ r ≤ 1000 ∧ Q (natV (n ||| 2 ^ r)) H
def sp_members : Sp := fun vs H Q _ => ∃ n : Nat, vs = [natV n] ∧ n < 2 ^ 61 ∧ ∀ p H', H p = none → Same H H' → H' p = some (.lst ((Bit.rooms n).map natV)) → Q (.ref p) H'
def sp_subsets : Sp := fun vs H Q _ => ∃ n : Nat, vs = [natV n] ∧ n < 2 ^ 61 ∧ (Bit.rooms n).length ≤ 8 ∧ ∀ p H', H p = none → Same H H' → H' p = some (.lst ((Bit.parts (Bit.rooms n)).map natV)) → Q (.ref p) H'
end L2
namespace L2
open PySem PySem.Spec PyProof.Rows Mth

theorem hide_get {h : Heap} {as : List Addr} {b : Addr} {o : Obj} (e : h.get? b = some o) (n : b ∉ as) : (PySem.W.hideAll h as).get? b = some o := PySem.W.hideAll_get _ e n
/-- an exception flies: from the state s (H) of the one who called, to s' (H'); outer: the frames that it has still to pass -/
structure Fly (P : Program) (w : World) (outer : List Env) (H : Hp) (s : Shared) (cls : Value) (x : Addr) (H' : Hp) (s' : Shared) : Prop where
  os : s'.os = s.os
  bare : AllBare s'.gens
  un : Un (frs outer) [] H H' s.heap s'.heap
  hok : HOk P w H' s'.heap
  fly : ∃ a0 B, Heap.FlyingW B outer x cls a0 s'.heap ∧ (∀ b o, s.heap.get? b = some o → b ∉ frs outer → ∀ o', s'.heap.get? b = some o' → B.get? b = some o') ∧ ∀ b u, H' b = some u → ∃ o, B.get? b = some o
def CX1 (P : Program) (w : World) : CXT := fun outer H s E e s' => ∃ x cls H', e = .ref x ∧ Fly P w outer H s cls x H' s' ∧ E cls none H'

theorem hok_of {P : Program} {w : World} {H : Hp} {h h' B : Heap} (x : HOk P w H h) (hB : ∀ b o, B.get? b = some o → h'.get? b = some o) (hb : ∀ b o, B.get? b = some o → h.get? b = some o) (tk : ∀ b u, H b = some u → ∃ o, B.get? b = some o) : HOk P w H h' := fun a o e =>
  (x a o e).stay (fun b u hb' q => by
    have : ∃ u', H b = some u' := by
      rcases hb' with z | z
      · exact ⟨o, by rw [z]; exact e⟩
      · exact ⟨_, z⟩
    obtain ⟨u', hu'⟩ := this
    obtain ⟨ob, hob⟩ := tk b u' hu'
    have := hb b ob hob
    rw [q] at this
    cases this
    exact hB b u hob) (fun _ q => q) fun _ _ q => q

/-- a fresh exception leaves the body as it is wanted -/
def Thr (X : Cx) (E : XK) : Prop := ∀ (pins : List (Addr × Obj)) (σ : St) (H : Hp) (s : Shared) (h' : Heap) (x : Addr) (cls : Value) (args : List Value), Inv X pins σ H s → Heap.MadeExcOf s.heap h' x cls args → E cls none H → X.xe (.ref x) { s with heap := h' }
section
variable {P : Program} {w : World} {K : PySem.W.Frag} {mg : Str → Option Value} {base : Heap} {N : List Str} {qual : Str} {scope : Scope} {f : Addr} {cd : Value} {A : Around} {outer : List Env} {s₀ : Shared} {H₀ : Hp} {E E' : XK}
theorem thr_of (hE : ∀ cls d H, E' cls d H → E cls d H) : Thr (cxOf (CX1 P w) P w K mg base N qual scope f cd A outer s₀ H₀ E) E' := by
  intro pins σ H s h' x cls args I hx he
  have L1 : (envOfC qual scope s₀.heap.objs.size f cd).frame = some s₀.heap.objs.size := rfl
  have fr := I.ok.frames
  have st := I.stack
  have hin : ∀ env ∈ (envOfC qual scope s₀.heap.objs.size f cd :: outer), ∀ b, env.frame = some b → b ∈ frs (envOfC qual scope s₀.heap.objs.size f cd :: outer) := fun env he b hb => List.mem_filterMap.mpr ⟨env, he, hb⟩
  refine wpAny_leaves_madeW (base := PySem.W.hideAll s.heap (frs (envOfC qual scope s₀.heap.objs.size f cd :: outer))) fr L1 (fun b o q => PySem.W.of_hideAll _ q) (PySem.W.funFrames_hide st hin) hx fun h2 t fl tup tn up => ?_
  have nofr : ∀ b o, s₀.heap.get? b = some o → b ∉ frs outer → b ∉ frs (envOfC qual scope s₀.heap.objs.size f cd :: outer) := fun b o e n hm => by
    rcases List.mem_cons.mp (show b ∈ s₀.heap.objs.size :: frs outer from hm) with z | z
    · exact absurd (Heap.lt_size e) (by rw [z]; exact Nat.lt_irrefl _)
    · exact n z
  have stay : ∀ b o, s.heap.get? b = some o → b ∉ frs (envOfC qual scope s₀.heap.objs.size f cd :: outer) → h2.get? b = some o := fun b o e n => fl.1 b o (hide_get e n)
  have fin : ∀ b ∈ frs outer, ∃ o, s.heap.get? b = some o ∧ ∀ vs, o.data ≠ .fields vs := fun b hb => (I.ok.funs.mem hb).2 |> fun ⟨o, e, hd⟩ => by
    obtain ⟨sl, e2⟩ := I.base.slot b o e (I.ok.frf b hb) hb (by intro z; exact absurd (show b ∈ ([] : List Addr) from z) (by simp))
    exact ⟨_, e2, hd⟩
  have tk : ∀ b u, H b = some u → ∃ o, (PySem.W.hideAll s.heap (frs (envOfC qual scope s₀.heap.objs.size f cd :: outer))).get? b = some o := fun b u e => by
    have nf : b ∉ frs (envOfC qual scope s₀.heap.objs.size f cd :: outer) := fun z => by rw [I.stkFree b z] at e; cases e
    have lt := I.hok.lt e
    cases q : s.heap.get? b with
    | none => 
      obtain ⟨o, ho⟩ : ∃ o, s.heap.get? b = some o := by
        have ok := I.hok b u e
        cases u with
        | lst xs => obtain ⟨_, _, _, _, e⟩ := ok; exact ⟨_, e⟩
        | tup xs => obtain ⟨_, _, _, o, e, _⟩ := ok; exact ⟨_, e⟩
        | dK kvs => obtain ⟨_, _, _, _, o, _, _, e, _⟩ := ok; exact ⟨_, e⟩
        | dT kvs => obtain ⟨_, _, _, _, o, _, _, e, _⟩ := ok; exact ⟨_, e⟩
        | set S n => obtain ⟨o, _, _, _, e, _⟩ := ok; exact ⟨_, e⟩
        | ins C dx fs => obtain ⟨_, _, _, e, _⟩ := ok; exact ⟨_, e⟩
        | own y => obtain ⟨_, e⟩ := ok; exact ⟨_, e⟩
        | xd fs => obtain ⟨_, ⟨_, _, _, e, _⟩, _⟩ := ok; exact ⟨_, e⟩
        | rng lo hi => obtain ⟨_, _, _, e⟩ := ok; exact ⟨_, e⟩
        | frz ob u => obtain ⟨e, _⟩ := ok; exact ⟨_, e⟩
        | tbl ps => exact ⟨_, ok⟩
        | met f y => exact ⟨_, ok⟩
        | ext φ => obtain ⟨_, ⟨_, e⟩, _⟩ := ok; exact ⟨_, e⟩
      rw [q] at ho; cases ho
    | some o => exact ⟨o, hide_get q nf⟩
  refine ⟨x, cls, H, rfl, ⟨I.os, I.bare, ?_, hok_of I.hok fl.1 (fun b o q => PySem.W.of_hideAll _ q) tk, _, _, fl, ?_, tk⟩, hE _ _ _ he⟩
  · refine ⟨fun b o e n hb _ => stay b o (I.base.keep b o e n hb (by simp [cxOf])) (nofr b o e hb), fun b o e n hb _ => ?_, fun b o e n _ => I.base.free b o e n (by simp [cxOf]), fun b o e _ => ?_, I.base.tups, I.base.frzs, I.base.tbls⟩
    · obtain ⟨sl, e1⟩ := I.base.slot b o e n hb (by simp [cxOf])
      obtain ⟨o1, e2, hd⟩ := fin b hb
      rw [e1] at e2
      cases e2
      obtain ⟨sl2, e3⟩ := up b _ (hx.keeps b _ e1) hd
      exact ⟨sl2, e3⟩
    · obtain ⟨o', e1⟩ := I.base.there b o e (by simp [cxOf])
      by_cases hb : b ∈ frs outer
      · obtain ⟨o1, e2, hd⟩ := fin b hb
        obtain ⟨sl2, e3⟩ := up b _ (hx.keeps b _ e2) hd
        exact ⟨_, e3⟩
      · exact ⟨o', stay b o' e1 (nofr b o e hb)⟩
  · intro b o e hb o' e'
    obtain ⟨o1, e1⟩ := I.base.there b o e (by simp [cxOf])
    have e2 := stay b o1 e1 (nofr b o e hb)
    rw [e2] at e'
    cases e'
    exact hide_get e1 (nofr b o e hb)
theorem pass_of (hE : ∀ cls d H, E' cls d H → E cls d H) : Passes (CX1 P w) (cxOf (CX1 P w) P w K mg base N qual scope f cd A outer s₀ H₀ E) E' := by
  intro pins σ H s e s' I hc
  obtain ⟨x, cls, H', rfl, F, he⟩ := hc
  obtain ⟨a0, B, fl, hB, tk⟩ := F.fly
  have L1 : (envOfC qual scope s₀.heap.objs.size f cd).frame = some s₀.heap.objs.size := rfl
  have fr := I.ok.frames
  refine wpAny_leaves_onW (outer := outer) fr L1 fl fun h2 fl2 up => ?_
  have nofr : ∀ b o, s₀.heap.get? b = some o → b ∉ frs outer → b ∉ frs (envOfC qual scope s₀.heap.objs.size f cd :: outer) := fun b o e n hm => by
    rcases List.mem_cons.mp (show b ∈ s₀.heap.objs.size :: frs outer from hm) with z | z
    · exact absurd (Heap.lt_size e) (by rw [z]; exact Nat.lt_irrefl _)
    · exact n z
  have nex : ∀ b : Addr, b ∉ (cxOf (CX1 P w) P w K mg base N qual scope f cd A outer s₀ H₀ E).ex := fun b => by simp [cxOf]
  have at2 : ∀ b o, s₀.heap.get? b = some o → b ∉ frs outer → ∃ o', s'.heap.get? b = some o' ∧ B.get? b = some o' ∧ h2.get? b = some o' := fun b o e n => by
    obtain ⟨o1, e1⟩ := I.base.there b o e (nex b)
    obtain ⟨o2, e2⟩ := F.un.there b o1 e1 (by simp)
    have e3 := hB b o1 e1 (nofr b o e n) o2 e2
    exact ⟨o2, e2, e3, fl2.1 b o2 e3⟩
  have fin : ∀ b ∈ frs outer, ∃ o, s'.heap.get? b = some o ∧ ∀ vs, o.data ≠ .fields vs := fun b hb => (fl.2.2.1.mem (List.mem_cons_of_mem (s₀.heap.objs.size) hb : b ∈ frs (envOfC qual scope s₀.heap.objs.size f cd :: outer))).2
  refine ⟨x, cls, H', rfl, ⟨F.os.trans I.os, F.bare, ?_, hok_of F.hok fl2.1 fl.1 tk, a0, B, fl2, ?_, tk⟩, hE _ _ _ he⟩
  · refine ⟨fun b o e n hb _ => ?_, fun b o e n hb _ => ?_, fun b o e n _ => ?_, fun b o e _ => ?_, fun b xs q => F.un.tups b xs (I.base.tups b xs q), fun b ob u q => F.un.frzs b ob u (I.base.frzs b ob u q), fun b ps q => ?_⟩
    · have e1 := I.base.keep b o e n hb (nex b)
      have e2 := F.un.keep b o e1 (I.base.free b o e n (nex b)) (nofr b o e hb) (by simp)
      exact fl2.1 b o (hB b o e1 (nofr b o e hb) o e2)
    · obtain ⟨sl, e1⟩ := I.base.slot b o e n hb (nex b)
      obtain ⟨sl', e2⟩ := F.un.slot b _ e1 (I.base.free b o e n (nex b)) (List.mem_cons_of_mem (s₀.heap.objs.size) hb : b ∈ frs (envOfC qual scope s₀.heap.objs.size f cd :: outer)) (by simp)
      obtain ⟨o1, e3, hd⟩ := fin b hb
      rw [e2] at e3
      cases e3
      obtain ⟨sl2, e4⟩ := up b _ e2 hd
      exact ⟨sl2, e4⟩
    · obtain ⟨o1, e1⟩ := I.base.there b o e (nex b)
      exact F.un.free b o1 e1 (I.base.free b o e n (nex b)) (by simp)
    · by_cases hb : b ∈ frs outer
      · obtain ⟨o1, e3, hd⟩ := fin b hb
        obtain ⟨sl2, e4⟩ := up b _ e3 hd
        exact ⟨_, e4⟩
      · obtain ⟨o', _, _, e'⟩ := at2 b o e hb
        exact ⟨o', e'⟩
    · obtain ⟨m1, e1⟩ := I.base.tbls b ps q
      obtain ⟨m2, e2⟩ := F.un.tbls b _ e1
      exact ⟨m1 ++ m2, by rw [e2, Array.append_assoc]⟩
  · intro b o e hb o' e'
    obtain ⟨o1, _, e1, e2⟩ := at2 b o e hb
    rw [e2] at e'
    cases e'
    exact e1
end
theorem exc_obj {K : PySem.W.Frag} {h : Heap} {C : Addr} {bmB : List Value} {newId : String} (X : K.In h) (q : PySem.W.excIn K C bmB newId = true) :
    ∃ bm N nm q bs hdct sn sub ab col dd k0 k1 k2 k3 k5 mN, h.get? C = some (excClassObj nm q C N bs bm hdct sn sub ab col dd k0 k1 k2 k3 k5 newId) ∧ h.Ns N mN ∧ mN "__init__" = none ∧ OwnTail h bmB bm := by
  unfold PySem.W.excIn at q
  split at q
  · rename_i dd cd sl ho
    split at q
    · rename_i C' bm k0 k1 k2 k3 n k5 hm hs
      simp only [Bool.and_eq_true, beq_iff_eq, Bool.not_eq_true'] at q
      obtain ⟨⟨⟨⟨⟨rfl, rfl⟩, hdel⟩, ht⟩, hok⟩, hni⟩ := q
      obtain ⟨nm, bs, mro, ns, qn, hd, sn, sub, ab, col, del⟩ := cd
      dsimp only at hm hdel hok hni
      subst hm hdel
      have hsl : sl = #[k0, k1, k2, k3, some (.builtin n), k5] := by
        obtain ⟨l⟩ := sl
        simp only at hs
        rw [hs]
      subst hsl
      exact ⟨bm, ns, nm, qn, bs, hd, sn, sub, ab, col, dd, k0, k1, k2, k3, k5, _, X _ _ ho, .of_isNs (PySem.W.isNs_of_in X hok), PySem.W.nsMap_none_of_in X hok hni, PySem.W.tail_of_in X ht⟩
    · cases q
  · cases q
section
variable {X : Cx}
/-- raise C(e, ..) -/
def tRaise (C : Addr) (E : XK) (t : TA) : TS := fun _ σ H => t σ H fun vs H1 => vs.length ≤ sizeLine ∧ E (.ref C) none H1
theorem ps_raise {c : Str} {C : Addr} {B initId : String} {bmB : List Value} {newId : String} {e₀ : Expr} {rest : List Expr} {np cpos pos : Pos} {t : TA} {E : XK} (hc : X.calm = true) (FB : ExcBaseFacts B newId initId bmB)
    (hm : X.mg c = some (.ref C)) (q : PySem.W.excIn X.K C bmB newId = true) (th : Thr X E) (ha : PA X (e₀ :: rest) t) (hg : Gl X c := by rfl) (hd : (c == ("__debug__" : Str)) = false := by decide)
    (he : starEach (e₀ :: rest) X.env = (false, eval e₀ X.env) :: starEach rest X.env := by rfl) (hplain : (backTo cpos (starEach rest X.env)).any (·.1) = false := by rfl) :
    PS X (.Raise (some (.Call (.Name c np) (e₀ :: rest) [] cpos)) none pos) (tRaise C E t) := by
  intro pins s σ H D I h
  obtain ⟨tl, N, nm, qn, bs, hdct, sn, sub, ab, col, dd, k0, k1, k2, k3, k5, mN, hC, hN, hni, T⟩ := exc_obj I.ok.mod.kin q
  refine wpAny_Raise_call_subT (C := C) (nm := nm) (q := qn) (N := N) (bs := bs) (bm := tl) (hdct := hdct) (sn := sn) (sub := sub) (ab := ab) (col := col) (dd := dd) (k0 := k0) (k1 := k1) (k2 := k2) (k3 := k3) (k5 := k5)
    FB (mN := mN) (T.hasType FB.hasBase) (I.ok.hd hc) (by rw [he]; show (false || (backTo cpos (starEach rest X.env)).any (·.1)) = false; rw [hplain]; rfl) hni (ld_glob I hg hm ⟨rfl, ?_⟩ hd)
  have hA := ha cpos pins s σ H _ I h
  rw [he] at hA ⊢
  refine Calls.evalArgs_plain (wpAny_mono hA (fun us s2 ⟨vs, H2, I2, r2, hz, q2⟩ => ⟨rfl, by rw [← r2.length]; exact hz, I2.bk _ _ hC, hN.keeps I2.bk, T.keeps I2.bk, fun h' x hx => ?_⟩) fun _ _ y => y)
  exact th pins σ H2 s2 h' x _ _ I2 hx q2
end
section
variable {P : Program} {w : World} {K : PySem.W.Frag} {mg : Str → Option Value} {base : Heap}
theorem Fun.okX {x qual : Str} {st : Stmt} {f : Addr} {fd : FuncData} {N ps : List Str} {k : Nat} {sp : Sp} (F : Fun K x qual st f fd) (S : FnScope N ps (defScope st)) (len : ∀ vs H Q E, sp vs H Q E → vs.length = ps.length)
    (hbody : ∀ (cdv : Value) (A : Around) (outer : List Env) (s : Shared) (H : Hp) (vs : List V) (Q : VK) (E : XK), Room k (A.deeper (envOfC qual (defScope st) s.heap.objs.size f cdv)) → sp vs H Q E →
      ∃ t, PSs (cxOf (CX1 P w) P w K mg base N qual (defScope st) f cdv A outer s H E) (defBody st) t ∧ t { nx := fun _ H' => Q .non H', rt := Q } (start N vs) H) : FnOk P w K mg base (CX1 P w) (k + 1) f fd ps sp := by
  obtain ⟨oc, od, kV, doc, pm, an, cdv, ct, osl, rfl, lk, hcd⟩ := F.ex
  exact fn_of lk hcd S len fun A outer s H vs Q E hr hsp => hbody cdv A outer s H vs Q E hr hsp
def DefX (P : Program) (w : World) (K : PySem.W.Frag) (mg : Str → Option Value) (base : Heap) (x : Str) (k : Nat) (ps : List Str) (sp : Sp) : Prop :=
  ∃ f fd, mg x = some (.ref f) ∧ PySem.W.keepIn K (.ref f) = true ∧ Binds K fd ps [] ∧ FnOk P w K mg base (CX1 P w) k f fd ps sp
theorem Has.defX {x : Str} {st : Stmt} {N ps : List Str} {k : Nat} {sp : Sp} (h : Has K mg x st) (S : FnScope N ps (defScope st)) (len : ∀ vs H Q E, sp vs H Q E → vs.length = ps.length)
    (hb : ∀ (kV doc pm : Value) (an : Option Addr) (cdv ct : Value) (us : List Value), us.length = ps.length → bindArgs (PySem.W.fnOf x x (defArgs st) (defBody st) (defScope st) .none kV doc pm an cdv ct) ⟨us, []⟩ = pure (ps.zip us))
    (hbody : ∀ (f : Addr) (cdv : Value) (A : Around) (outer : List Env) (s : Shared) (H : Hp) (vs : List V) (Q : VK) (E : XK), Room k (A.deeper (envOfC x (defScope st) s.heap.objs.size f cdv)) → sp vs H Q E →
      ∃ t, PSs (cxOf (CX1 P w) P w K mg base N x (defScope st) f cdv A outer s H E) (defBody st) t ∧ t { nx := fun _ H' => Q .non H', rt := Q } (start N vs) H) : DefX P w K mg base x (k + 1) ps sp := by
  obtain ⟨f, fd, hm, F⟩ := h
  exact ⟨f, fd, hm, F.kp, F.binds hb, F.okX S len fun cdv A outer s H vs Q E hr hs => hbody f cdv A outer s H vs Q E hr hs⟩
/-- .. and the other way, where no exception can be wanted -/
theorem FnOk.to0 {k : Nat} {f : Addr} {fd : FuncData} {ps : List Str} {sp : Sp} (F : FnOk P w K mg base (CX1 P w) k f fd ps sp) : FnOk P w K mg base CX0 k f fd ps (fun vs H Q _ => sp vs H Q E0) :=
  ⟨fun vs H Q _ h => F.len vs H Q E0 h, fun A outer s H args us vs Q E hr e0 hb r hs => codeAny_mono (F.run A outer s H args us vs Q E0 hr e0 hb r hs) fun r s' h => by
    cases r with
    | error e => obtain ⟨_, _, _, _, _, z⟩ := h; exact False.elim z
    | ok fl => cases fl <;> exact h⟩
theorem DefX.to0 {x : Str} {k : Nat} {ps : List Str} {sp : Sp} (D : DefX P w K mg base x k ps sp) : Def P w K mg base x k ps (fun vs H Q _ => sp vs H Q E0) :=
  let ⟨f, fd, a, b, c, d⟩ := D; ⟨f, fd, a, b, c, d.to0⟩
end
def PX (X : Cx) (e : Expr) (t : St → Hp → VK → XK → Prop) : Prop :=
  ∀ (pins : List (Addr × Obj)) (s : Shared) (σ : St) (H : Hp) (Q : VK) (E : XK), Inv X pins σ H s → t σ H Q E →
    wpAny (model X.prog X.w) X.A (eval e X.env) (EP X pins σ Q) (fun ex s' => ∃ H1 s1, Inv X pins σ H1 s1 ∧ CX1 X.prog X.w X.stack H1 s1 E ex s') s
section
variable {X : Cx} {x : Str} {p pos : Pos} {e : Expr} {es : List Expr} {t : TA} {k : Nat} {ps : List Str} {sp : Sp}
theorem px_callD (D : DefX X.prog X.w X.K X.mg X.base x k ps sp) (hr : Room k X.A) (ha : PA X.nox (e :: es) t) (hg : Gl X x := by rfl) (hdb : (x == ("__debug__" : Str)) = false := by decide)
    (he : starEach (e :: es) X.env = (false, eval e X.env) :: starEach es X.env := by rfl) (hpl : (backTo pos (starEach es X.env)).any (·.1) = false := by rfl) :
    PX X (.Call (.Name x p) (e :: es) [] pos) (fun σ H Q E => t σ H fun vs H1 => sp (vs ++ []) H1 Q E) := by
  obtain ⟨f, fd, hm, hk, hb, F⟩ := D
  intro pins s σ H Q E I h
  refine wpAny_Call_Name_kw (ld_glob I hg hm ?_ hdb)
  refine PySem.W.callWith_K (h₀ := X.base) I.ok.mod.kin hk (wpAny_mono (ha pos pins s σ H _ (I.wish _) h) (fun us s1 ⟨vs, H1, I1, r, q⟩ => ⟨I1.kIn, ?_⟩) fun _ _ z => False.elim z) he hpl
  have I1' : Inv X pins σ H1 s1 := I1.unwish
  have q : sp (vs ++ []) H1 Q E := q
  rw [List.append_nil] at q
  have hl : us.length = ps.length := by rw [← r.length]; exact F.len _ _ _ _ q
  refine wpAny_call (codeAny_mono (F.run X.A X.stack s1 H1 ⟨us, []⟩ us vs Q E hr I1'.env0 (by have := hb s1 us I1'.kIn (by rw [List.append_nil]; exact hl); rw [List.append_nil] at this; exact this) r q) fun r s' hq => ?_)
  cases r with
  | error e => exact ⟨H1, s1, I1', hq⟩
  | ok fl =>
    cases fl with
    | ret u => exact I1'.after hq
    | next => exact False.elim hq
    | brk => exact False.elim hq
    | cont => exact False.elim hq
end
end L2
namespace L2
open PySem PySem.Spec PyProof.Rows Mth

/-- Fly, its ground B told -/
structure FlyB (P : Program) (w : World) (outer : List Env) (H : Hp) (s : Shared) (cls : Value) (x : Addr) (H' : Hp) (a0 : Value) (B : Heap) (s' : Shared) : Prop where
  os : s'.os = s.os
  bare : AllBare s'.gens
  un : Un (frs outer) [] H H' s.heap s'.heap
  hok : HOk P w H' s'.heap
  fl : Heap.FlyingW B outer x cls a0 s'.heap
  st : ∀ b o, s.heap.get? b = some o → b ∉ frs outer → ∀ o', s'.heap.get? b = some o' → B.get? b = some o'
  tk : ∀ b u, H' b = some u → ∃ o, B.get? b = some o
theorem Fly.b {P : Program} {w : World} {outer : List Env} {H H' : Hp} {s s' : Shared} {cls : Value} {x : Addr} (F : Fly P w outer H s cls x H' s') : ∃ a0 B, FlyB P w outer H s cls x H' a0 B s' :=
  let ⟨a0, B, fl, hB, tk⟩ := F.fly; ⟨a0, B, F.os, F.bare, F.un, F.hok, fl, hB, tk⟩
section
variable {P : Program} {w : World} {outer : List Env} {H H' : Hp} {s s' : Shared} {cls a0 : Value} {x : Addr} {B : Heap}
theorem FlyB.fin (F : FlyB P w outer H s cls x H' a0 B s') : ∀ b ∈ frs outer, ∃ o, s'.heap.get? b = some o ∧ ∀ vs, o.data ≠ .fields vs := fun b hb => (F.fl.2.2.1.mem hb).2
theorem FlyB.moved {h2 : Heap} {t2 : Nat} (F : FlyB P w outer H s cls x H' a0 B s') (fl2 : Heap.FlyingW B outer x cls a0 h2) (up : s'.heap.UpToSlots h2) : FlyB P w outer H s cls x H' a0 B { s' with heap := h2, toks := t2 } := by
  have th : ∀ b o, s.heap.get? b = some o → b ∉ frs outer → ∃ o', B.get? b = some o' ∧ h2.get? b = some o' := fun b o e hb => by
    obtain ⟨o1, e1⟩ := F.un.there b o e (by simp)
    have q := F.st b o e hb o1 e1
    exact ⟨o1, q, fl2.1 b o1 q⟩
  refine ⟨F.os, F.bare, ⟨fun b o e n hb hx => ?_, fun b o e n hb hx => ?_, F.un.free, fun b o e hx => ?_, F.un.tups, F.un.frzs, F.un.tbls⟩, hok_of F.hok fl2.1 F.fl.1 F.tk, fl2, fun b o e hb o' e' => ?_, F.tk⟩
  · exact fl2.1 b o (F.st b o e hb o (F.un.keep b o e n hb hx))
  · obtain ⟨sl, e1⟩ := F.un.slot b o e n hb hx
    obtain ⟨o1, e3, hd⟩ := F.fin b hb
    rw [e1] at e3
    cases e3
    obtain ⟨sl2, e4⟩ := up b _ e1 hd
    exact ⟨sl2, e4⟩
  · by_cases hb : b ∈ frs outer
    · obtain ⟨o1, e3, hd⟩ := F.fin b hb
      obtain ⟨sl2, e4⟩ := up b _ e3 hd
      exact ⟨_, e4⟩
    · obtain ⟨o', _, e4⟩ := th b o e hb
      exact ⟨o', e4⟩
  · obtain ⟨o1, q, e4⟩ := th b o e hb
    have e4' : h2.get? b = some o' := e'
    rw [e4] at e4'
    cases e4'
    exact q
theorem FlyB.none (F : FlyB P w outer H s cls x H' a0 B s') : H' x = none := by
  cases q : H' x with
  | none => rfl
  | some u =>
    obtain ⟨o, e⟩ := F.tk x u q
    rw [F.fl.2.1] at e
    cases e
theorem FlyB.obj (F : FlyB P w outer H s cls x H' a0 B s') : ∃ oe vs, s'.heap.get? x = some oe ∧ oe.cls = cls ∧ oe.data = .fields vs :=
  let ⟨oe, vs, e, c, d, _⟩ := F.fl.first; ⟨oe, vs, e, c, d⟩
theorem FlyB.nofr (F : FlyB P w outer H s cls x H' a0 B s') : x ∉ frs outer := fun z => by
  obtain ⟨o, e, hd⟩ := F.fin x z
  obtain ⟨oe, vs, e', _, d⟩ := F.obj
  rw [e] at e'
  cases e'
  exact hd vs d
end

/-- within an except suite: the exception at e, its object oe -/
def Cx.held (X : Cx) (e : Addr) (oe : Obj) : Cx := { X with A := X.A.mark (some (.ref e)), calm := false, pn := X.pn ++ [(e, oe)], xe := fun _ _ => False }
theorem Cx.Ok.held {X : Cx} (ok : X.Ok) (e : Addr) (oe : Obj) : (X.held e oe).Ok :=
  ⟨ok.mod, ok.kind, ok.glob, ok.blt, ok.above, ok.inj, ok.has, ok.cab, (fun z => nomatch z), ok.frames, ok.stk, ok.exf, ok.bs, ok.bsz, ok.noex, ok.exfs, ok.funs, ok.frf⟩
section
variable {X : Cx} {pins : List (Addr × Obj)} {σ : St} {H H' : Hp} {s s' : Shared} {cls a0 : Value} {e : Addr} {oe : Obj} {B : Heap}
theorem Inv.caught (I : Inv X pins σ H s) (F : FlyB X.prog X.w X.stack H s cls e H' a0 B s') : Inv X pins σ H' s' :=
  I.call' (ch := []) F.os F.un F.hok F.bare (fun b z => absurd z (by simp))
theorem Inv.held {vs : Array Value} (I : Inv X pins σ H s) (he : s.heap.get? e = some oe) (hd : oe.data = .fields vs) (hn : H e = none) : Inv (X.held e oe) pins σ H s := by
  refine ⟨I.ok.held e oe, I.os, I.bare, I.base, I.loc, I.cell, I.free, I.freeC, fun p hp => ?_, I.hok, I.len⟩
  rcases List.mem_append.mp hp with hp | hp
  · rcases List.mem_append.mp hp with hp | hp
    · exact I.pin p (List.mem_append_left _ hp)
    · have ep : p = (e, oe) := by simpa using hp
      subst ep
      refine ⟨he, hn, fun z => ?_, fun z => ?_, fun v z => ?_⟩
      · obtain ⟨m, ⟨o, es, ep, ho, hod, _⟩, _⟩ := I.loc
        have z' : e = X.env.locals := z
        rw [z', ho] at he
        cases he
        rw [hod] at hd
        cases hd
      · obtain ⟨_, o, ho, hnf⟩ := I.funs.mem z
        have ho' : s.heap.get? e = some o := ho
        rw [he] at ho'
        cases ho'
        exact hnf vs hd
      · have z' : oe.data = .cell v := z
        rw [hd] at z'
        cases z'
  · exact I.pin p (List.mem_append_right _ hp)
theorem Inv.unheld (ok : X.Ok) (I : Inv (X.held e oe) pins σ H s) : Inv X pins σ H s :=
  ⟨ok, I.os, I.bare, I.base, I.loc, I.cell, I.free, I.freeC, fun p hp => I.pin p ((List.mem_append.mp hp).elim (fun z => List.mem_append_left _ (List.mem_append_left _ z)) fun z => List.mem_append_right _ z), I.hok, I.len⟩
/-- the name of an except clause goes behind its suite -/
theorem name_gone {A : Around} {E : Value → Shared → Prop} {i : Nat} {n : Str} {pos : Pos} {Q : Unit → Shared → Prop} (I : Inv X pins σ H s) (hN : X.N.Nodup) (hi : X.N[i]? = some n) (hl : X.env.scope.names.lookup n = some .local)
    (h : ∀ s', Inv X pins (σ.set i none) H s' → Q () s') : wpAny (model X.prog X.w) A (do bindName X.env n .none; unbindBehindTheSuite X.env n pos) Q E s := by
  obtain ⟨m, hn, hm⟩ := id I.loc
  refine wpAny_nameGoes_keeps hl hn (by rw [I.ok.kind]; rfl) fun h' v hn' hs => h _ ?_
  have cne := I.cne
  refine ⟨I.ok, I.os, I.bare, I.base.same_but hs (Heap.get?_none_of_le I.ok.above), ⟨_, hn', fun j y v' e1 e2 e3 => ?_⟩, fun y c q => ?_, I.free, I.freeC, fun p hp => ?_, I.hok.same_but hs I.free, by rw [List.length_set]; exact I.len⟩
  · by_cases hj : j = i
    · subst hj
      rw [List.getElem?_set] at e2
      simp only [if_true] at e2
      split at e2 <;> cases e2
    · rw [List.getElem?_set_ne (Ne.symm hj)] at e2
      obtain ⟨u', r', q⟩ := hm j y v' e1 e2 e3
      refine ⟨u', r', ?_⟩
      rcases q with ⟨k, q⟩ | ⟨k, c, q, z⟩
      · refine .inl ⟨k, ?_⟩
        have : y ≠ n := fun z => hj (nodup_ix hN e1 (z ▸ hi))
        show (if y = n then v else m y) = some u'
        rw [if_neg this]
        exact q
      · exact .inr ⟨k, c, q, z.sameBut hs (cne y c q)⟩
  · obtain ⟨w', z⟩ := I.cell y c q
    exact ⟨w', z.sameBut hs (cne y c q)⟩
  · obtain ⟨q, n', ne, nf, d⟩ := I.pin p hp
    exact ⟨(hs.2 p.1 ne).trans q, n', ne, nf, d⟩
end

/-- a block; E: what is wanted of an exception, by the frame's values at its place -/
def PSx (X : Cx) (st : List Stmt) (t : (St → XK) → TS) : Prop :=
  ∀ (pins : List (Addr × Obj)) (s : Shared) (σ : St) (H : Hp) (D : Ends) (E : St → XK), Inv X pins σ H s → t E D σ H →
    wpAny (model X.prog X.w) X.A (execs st X.env) (SP X pins D) (fun ex s' => ∃ σ1 H1 s1, Inv X pins σ1 H1 s1 ∧ CX1 X.prog X.w X.stack H1 s1 (E σ1) ex s') s
section
variable {X : Cx} {pos : Pos}
theorem psx_set {i : Nat} {x : Str} {e : Expr} {pos' : Pos} {t : St → Hp → VK → XK → Prop} (hN : X.N.Nodup) (hi : X.N[i]? = some x) (hx : Loc X.env.scope x) (he : PX X e t) (hs : swapsWith e (some (.Name x pos')) pos.line X.env = pure false := by rfl)
    (hf : X.fn x = true ∨ X.env.scope.names.lookup x = some .local := by first | exact .inl rfl | exact .inr rfl | assumption) : PSx X [.Assign [.Name x pos'] e pos] (fun E D σ H => t σ H (fun v H1 => D.nx (σ.set i (some v)) H1) (E σ)) := by
  intro pins s σ H D E I h
  refine wpAny_execs_cons (wpAny_Assign_Name (wpAny_mono (he pins s σ H _ _ I h) (fun v s1 q => ?_) fun ex s1 q => ?_) hs)
  · obtain ⟨y, H1, I1, r1, q1⟩ := q
    exact store_ok I1 hN hi hx r1 (fun s2 I2 => wpAny_execs_nil ⟨_, H1, I2, q1⟩) hf
  · obtain ⟨H1, s1, I1, c⟩ := q
    exact ⟨σ, H1, s1, I1, c⟩
def Ends.unset (D : Ends) (i : Nat) : Ends := ⟨fun σ H => D.nx (σ.set i none) H, D.rt, fun σ H => D.bk (σ.set i none) H, fun σ H => D.ct (σ.set i none) H⟩
def tTry (K : PySem.W.Frag) (c : Value) (i : Nat) (t : (St → XK) → TS) (ts : Value → Addr → TS) : TS := fun D σ H =>
  t (fun σ1 cls _ H1 => PySem.W.exmOne K cls c = some true ∧ ∀ e, H1 e = none → ts cls e (D.unset i) (σ1.set i (some (.ref e))) H1) D σ H
theorem ps_try {body : List Stmt} {c n : Str} {C : Addr} {np hpos : Pos} {b₀ : Stmt} {suite : List Stmt} {t : (St → XK) → TS} {ts : Value → Addr → TS} {i : Nat}
    (hst : X.stack = X.env :: X.outer) (hfr : X.env.frame = some X.env.locals) (hN : X.N.Nodup) (hi : X.N[i]? = some n) (hl : X.env.scope.names.lookup n = some .local)
    (hm : X.mg c = some (.ref C)) (hb : PSx X body t) (hs : ∀ cls e oe, oe.cls = cls → PSs (X.held e oe) (b₀ :: suite) (ts cls e)) (hg : Gl X c := by rfl) (hdb : (c == ("__debug__" : Str)) = false := by decide) :
    PS X (.Try body [.ExceptHandler (some (.Name c np)) (some n) (b₀ :: suite) hpos] [] [] pos) (tTry X.K (.ref C) i t ts) := by
  intro pins s σ H D I h
  refine wpAny_Try_except (wpAny_mono (hb pins s σ H D _ I h) (fun f s1 q => ?_) fun ex s1 hx => ?_)
  · cases f with
    | next => exact wpAny_execs_nil q
    | ret v => exact q
    | brk => exact q
    | cont => exact q
  · obtain ⟨σ1, H1, s0, I0, x, cls, H', rfl, F, hm', hk⟩ := hx
    obtain ⟨a0, B, FB⟩ := F.b
    have fr : X.A.frames = some (X.env :: X.outer) := hst ▸ I.ok.frames
    have fl' : Heap.FlyingW B (X.env :: X.outer) x cls a0 s1.heap := hst ▸ FB.fl
    refine wpAny_looks_onW fr hfr fl' fun h4 held up4 => ?_
    refine wpAny_landsW held fun h5 fl5 up5 => ?_
    have F5 := FB.moved (t2 := s1.toks) (hst ▸ fl5) (Heap.UpToSlots.trans up4 up5)
    have I5 := I0.caught F5
    obtain ⟨oe5, vs5, he5, hc5, hd5⟩ := F5.obj
    have J5 := I5.held he5 hd5 F5.none
    refine wpAny_handleBy_cons (codeAny_handlers_test (ld_glob (X := X.held x oe5) J5 hg hm ?_ hdb)) (by intro q; cases q)
    have LT : PySem.W.Looks (model X.prog X.w) h5 (typeOf (.ref x)) cls := hc5 ▸ (PySem.W.Looks.ld he5).andThen .now
    refine (PySem.W.exm_one J5.kIn LT hm') _ _ _ _ (fun _ _ q => q) ?_
    refine codeAny_handlers_suite_as ?_
    refine lands_againW fl5 fun h6 fl6 up6 => ?_
    have F6 := F5.moved (t2 := s1.toks) (hst ▸ fl6) up6
    have I6 := I0.caught F6
    obtain ⟨oe, vs, he, hc, hd⟩ := F6.obj
    have J6 := I6.held he hd F6.none
    refine store_ok (X := X.held x oe) (v := .ref x) J6 hN hi (.inl hl) rfl (fun s7 J7 => ?_) (.inr hl)
    refine wpAny_mono (hs cls x oe hc pins s7 _ H' (D.unset i) J7 (hk x F6.none)) (fun f s8 q => ?_) fun _ _ z => False.elim z
    have ok := I.ok
    cases f with
    | next =>
      obtain ⟨σ8, H8, J8, q8⟩ := q
      exact name_gone (J8.unheld ok) hN hi hl fun s9 I9 => ⟨_, H8, I9, q8⟩
    | brk =>
      obtain ⟨σ8, H8, J8, q8⟩ := q
      exact name_gone (J8.unheld ok) hN hi hl fun s9 I9 => ⟨_, H8, I9, q8⟩
    | cont =>
      obtain ⟨σ8, H8, J8, q8⟩ := q
      exact name_gone (J8.unheld ok) hN hi hl fun s9 I9 => ⟨_, H8, I9, q8⟩
    | ret v =>
      obtain ⟨v8, σ8, H8, J8, r8, q8⟩ := q
      exact name_gone (J8.unheld ok) hN hi hl fun s9 I9 => ⟨v8, _, H8, I9, r8, q8⟩
end

/-- an own exception's class, as far as isinstance looks at it -/
structure ExcCl (K : PySem.W.Frag) (C : Addr) : Prop where
  ga : PySem.W.findIn K (.ref C) "__getattribute__" = some (some (.builtin "BaseException.__getattribute__"))
  gt : PySem.W.findIn K (.ref C) "__getattr__" = some none
  cl : PySem.W.findIn K (.ref C) "__class__" = some (some (.builtin "object.__class__"))
  gs : PySem.W.specialIn K (.builtin "object.__class__") "__get__" = some (some (.builtin "getset_descriptor.__get__"))
  tk : PySem.W.takesIn K (.builtin "object.__class__") = some true
  mo : PySem.W.mroIn K C (.type "object") = some true
  mb : PySem.W.mroIn K C (.type "BaseException") = some true
  is : (PySem.W.clsIn K C).isSome = true
section
open PySem.Builtin PySem.Builtin.ObjectAttr PySem.Builtin.Getset_descriptor
variable {K : PySem.W.Frag} {C e : Addr}
theorem find_data {M : Model} {h : Heap} {name : Str} {a g : Value} (X : K.In h) (h1 : PySem.W.findIn K (.ref C) name = some (some a)) (h2 : PySem.W.specialIn K a "__get__" = some (some g)) (h3 : PySem.W.takesIn K a = some true) :
    PySem.W.Looks M h (find (.ref e) (.ref C) name) (.bind g a) := by
  have M1 := PySem.W.looks_findIn (M := M) X h1
  have M2 : PySem.W.Looks M h (getOf (some a)) (some g) := PySem.W.looks_specialIn X h2
  have M3 : PySem.W.Looks M h (dataDescriptor? (some a) (some g)) (some (g, a)) := (PySem.W.looks_takesIn (M := M) X h3).andThen .now
  exact M1.andThen (M2.andThen (M3.andThen (PySem.W.Looks.tag .now)))
variable {prog : Program} {w : World} {A : Around} {s : Shared} {oe : Obj}
theorem exc_descr {R : Result → Shared → Prop} {tp : Value} (X : K.In s.heap) (he : s.heap.get? e = some oe) (hc : oe.cls = .ref C) (hE : ExcCl K C) (h : R (.ok (.ret (.ref C))) s) :
    codeAny (model prog w) A (.call (.builtin "getset_descriptor.__get__") ⟨[.builtin "object.__class__", .ref e, tp], []⟩) R s := by
  obtain ⟨hp0, gn, dw, tt, os0⟩ := s
  have M0 : PySem.W.Looks (model prog w) hp0 (typeOf (.ref e)) (.ref C) := hc ▸ (PySem.W.Looks.ld he).andThen .now
  have M1 := PySem.W.looks_mroIn (M := model prog w) X hE.mo
  refine codeAny_call_builtin PySem.W.KF.slot_gs.plain PySem.W.KF.entry_gs (PySem.W.KF.slot_gs.check _ _ _ _ _ _ _ _ PySem.W.KF.type_class (PySem.W.KF.args_gs _ _ _) ?_)
  unfold PySem.Builtin.«getset_descriptor.__get__» descrGet
  rw [PySem.W.dga_obj]
  refine wpAny_bind (wpAny_pure ?_)
  unfold descrGetter descrCheckInstance descrNameAndClass PySem.isInstance
  simp only [PySem.W.KF.owner_class]
  repeat lk
  refine ⟨Code.quiet_builtin _ (by decide +kernel), codeAny_builtin PySem.W.KF.entry_class ?_⟩
  unfold PySem.Builtin.«object.__class__» PySem.shownTypeOf
  repeat lk
  exact h
theorem exc_ga {R : Result → Shared → Prop} {tk : Tok} (X : K.In s.heap) (he : s.heap.get? e = some oe) (hc : oe.cls = .ref C) (hE : ExcCl K C) (h : R (.ok (.ret (.ref C))) s) :
    codeAny (model prog w) A (.call (.builtin "BaseException.__getattribute__") ⟨[.ref e, .str "__class__" tk], []⟩) R s := by
  obtain ⟨hp0, gn, dw, tt, os0⟩ := s
  have M0 : PySem.W.Looks (model prog w) hp0 (typeOf (.ref e)) (.ref C) := hc ▸ (PySem.W.Looks.ld he).andThen .now
  have MB := PySem.W.looks_mroIn (M := model prog w) X hE.mb
  have MF := find_data (M := model prog w) (e := e) X hE.cl hE.gs hE.tk
  have ar := PySem.F.args_bexc_ga (.ref e) (.str "__class__" tk)
  refine codeAny_call_builtin PySem.F.excAttr_ValueError.ga.plain PySem.F.entry_bexc_ga ?_
  have hk : builtinKind "BaseException.__getattribute__" = some .slot := by decide +kernel
  have hsplit : splitId "BaseException.__getattribute__" = some ("BaseException", "__getattribute__") := by decide +kernel
  simp only [checkBuiltinCall, hk, hsplit]
  refine wpAny_bind ((M0.andThen MB).at ?_)
  simp only [Bool.not_true, Bool.false_eq_true, if_false]
  unfold argsOk at ar
  refine wpAny_of_eq (a := ()) ar ?_
  unfold PySem.Builtin.«object.__getattribute__»
  refine wpAny_bind (wpAny_of_eq (a := (Value.ref e, [Value.str "__class__" tk])) rfl ?_)
  dsimp only
  refine wpAny_bind (wpAny_of_eq (a := ("__class__" : Str)) rfl ?_)
  refine wpAny_bind (M0.at (wpAny_bind (MF.at ?_)))
  show wpAny _ _ (holding [_] (call _ [_, _, _]) >>= ret) _ _ _
  refine wpAny_bind (wpAny_holding (wpAny_call (exc_descr (s := ⟨hp0, gn, dw, tt, os0⟩) X he hc hE ?_)))
  exact wpAny_pure h
theorem kitx_exc (hE : ExcCl K C) : PySem.W.KitX K (.ref e) (.ref C) (fun h => ∃ oe, h.get? e = some oe ∧ oe.cls = .ref C) where
  ty := fun _ _ _ ⟨_, he, hc⟩ => hc ▸ (PySem.W.Looks.ld he).andThen .now
  it := fun _ _ X _ => by
    obtain ⟨cd, hcd⟩ := Option.isSome_iff_exists.mp hE.is
    unfold PySem.W.clsIn at hcd
    split at hcd
    · rename_i q1 q2 q3 q4 ho
      intro A1 Q1 E1 s1 keep q
      unfold isType loadHead
      exact wpAny_bind (wpAny_loadPart (keep _ _ (X _ _ ho)) (wpAny_pure q))
    · cases hcd
  ne := fun h tp dd its n sl X htp => by
    obtain ⟨cd, hcd⟩ := Option.isSome_iff_exists.mp hE.is
    refine Bool.eq_false_iff.mpr fun q => ?_
    have z : C = tp := Value.ref.inj (beq_iff_eq.mp q)
    subst z
    unfold PySem.W.clsIn at hcd
    split at hcd
    · rename_i q1 q2 q3 q4 ho
      have y := (X _ _ ho).symm.trans htp
      cases y
    · cases hcd
  ca := fun {prog w A E Q s} X hx k => by
    obtain ⟨oe, he, hc⟩ := hx
    obtain ⟨hp0, gn, dw, tt, os0⟩ := s
    have M0 : PySem.W.Looks (model prog w) hp0 (typeOf (.ref e)) (.ref C) := hc ▸ (PySem.W.Looks.ld he).andThen .now
    have M1 := PySem.W.looks_findIn (M := model prog w) X hE.ga
    have M2 := PySem.W.looks_findIn (M := model prog w) X hE.gt
    unfold getAttr? getAttrBy? getAttrBy
    refine wpAny_bind (wpAny_mkText (wpAny_bind (wpAny_attempt (wpAny_holding (wpAny_bind (M0.at (wpAny_bind (M1.at ?_))))))))
    show wpAny _ _ (getAttrByItsOwn _ _ _ _ _ _) _ _ _
    unfold getAttrByItsOwn
    refine wpAny_bind (m := hookBefore _) (M2.at ?_)
    refine wpAny_bind (wpAny_attempt (wpAny_holding ?_))
    show wpAny _ _ (boundAndCalled _ _ _) _ _ _
    unfold boundAndCalled
    refine wpAny_bind (wpAny_of_eq (PySem.F.excAttr_ValueError.ga.bind (.ref e)) ?_)
    refine wpAny_call (exc_ga (s := ⟨hp0, gn, dw, tt + 1, os0⟩) X he hc hE ?_)
    exact PySem.W.handed_on rfl (wpAny_pure k)
end
/-- a class as a value -/
def clsV : V → Bool
  | .ref _ => true
  | .ty _ => true
  | _ => false
def vOf : V → Value
  | .ref a => .ref a
  | .ty n => .type n
  | _ => .none
theorem relv_cls {c : V} {u : Value} (hc : clsV c = true) (r : RelV c u) : u = vOf c := by
  cases c <;> first | exact r | cases hc
theorem vals_cls : ∀ {cs : List V} {us : List Value}, Vals cs us → (∀ x ∈ cs, clsV x = true) → us = cs.map vOf
  | _, _, .nil, _ => rfl
  | _, _, .cons r t, h => by rw [List.map_cons, relv_cls (h _ List.mem_cons_self) r, vals_cls t fun x hx => h x (List.mem_cons_of_mem _ hx)]
/-- what isinstance(e, c) answers, e an exception of the own class at C -/
inductive IsE (K : PySem.W.Frag) (C : Addr) (H : Hp) : V → Bool → Prop where
  | one {c : V} {b : Bool} (hc : clsV c = true) (h : PySem.W.kitOne K (.ref C) (vOf c) = some b) : IsE K C H c b
  | many {p : Addr} {cs : List V} {b : Bool} (hp : H p = some (.tup cs)) (hc : ∀ x ∈ cs, clsV x = true) (h : PySem.W.kitAny K (.ref C) (cs.map vOf) = some b) : IsE K C H (.ref p) b
section
variable {X : Cx}
theorem call_isE {e : Addr} {oe : Obj} {cls : Value} (K : PySem.W.Frag) (hK : X.K = K) (hp : (e, oe) ∈ X.pn) (hc : oe.cls = cls) :
    CallR X (.builtin "isinstance") (fun xs H Q => ∃ c b C, xs = [.ref e, c] ∧ cls = .ref C ∧ ExcCl K C ∧ IsE K C H c b ∧ Q (.bl b) H) := by
  subst hK
  intro pins s σ H xs us Q I r h
  obtain ⟨c, b, C, rfl, ec, hE, is, q⟩ := h
  obtain ⟨u, w', rfl, r1, r2⟩ := vals2 r
  obtain rfl : u = Value.ref e := r1
  have he : s.heap.get? e = some oe := (I.pin (e, oe) (List.mem_append_left _ hp)).1
  have fin : ∀ tk, EP X pins σ Q (.bool b) { s with toks := tk } := fun tk => ⟨.bl b, H, I.tok _, rfl, q⟩
  cases is with
  | one hc' h1 =>
    rw [relv_cls hc' r2]
    exact PySem.W.kia_one (kitx_exc hE) I.kIn ⟨oe, he, hc.trans ec⟩ h1 (fun z => nomatch z) fin
  | @many p cs _ hp' hc' h1 =>
    obtain rfl : w' = Value.ref p := r2
    obtain ⟨_, its, rv, o, ho, hcl, n, hd⟩ := (show ObjOk X.prog X.w H s.heap p (.tup cs) from I.hok p _ hp')
    have ei := vals_cls rv hc'
    subst ei
    obtain ⟨o1, o2, o3, o4⟩ := o
    dsimp only at hcl hd
    subst hcl hd
    exact PySem.W.kia_tup (kitx_exc hE) I.kIn ⟨oe, he, hc.trans ec⟩ ho h1 (fun z => nomatch z) fin
end
theorem bt_ValueError : bootBuiltins "ValueError" = some (.type "ValueError") := by decide +kernel
end L2
namespace L2
open PySem PySem.Spec PyProof.Rows Mth

section
variable {X : Cx} {x : Str} {pos : Pos}
theorem pe_globI {i : Int} (hg : Gl X x) (hm : ∃ t, X.mg x = some (.int i t)) (hd : (x == ("__debug__" : Str)) = false := by decide) : PE X (.Name x pos) (tC (.int i)) := by
  obtain ⟨t, hm⟩ := hm
  exact pe_glob hg hm ⟨t, rfl⟩ hd
end
/-- a tuple of the module -/
def KTup (K : PySem.W.Frag) (a : Addr) (xs : List V) : Prop :=
  ∃ (o : Obj) (its : Array Value) (n : Nat), K.lookup a = some o ∧ o.cls = .type "tuple" ∧ o.data = .seq its n ∧ its.size ≤ sizeLine ∧ Vals xs its.toList
theorem KTup.at {K : PySem.W.Frag} {a : Addr} {xs : List V} (h : KTup K a xs) (H : Hp) : SqT K H a xs := .inr h
/-- the defaults of a def -/
def DfIs (K : PySem.W.Frag) (T : Addr) (dvs : List V) : Prop := ∃ o n items, K.lookup T = some o ∧ o.data = .seq items n ∧ Vals dvs items.toList
structure FunD (K : PySem.W.Frag) (x qual : Str) (st : Stmt) (dV : Value) (f : Addr) (fd : FuncData) : Prop where
  ex : ∃ (oc : Value) (od : Option Addr) (kV doc pm : Value) (an : Option Addr) (cdv ct : Value) (osl : Array (Option Value)),
    fd = PySem.W.fnOf x qual (defArgs st) (defBody st) (defScope st) dV kV doc pm an cdv ct ∧ K.lookup f = some ⟨oc, od, .func fd, osl⟩ ∧ PySem.W.codeIn K cdv qual = true
  kp : PySem.W.keepIn K (.ref f) = true
theorem fund_mk {K : PySem.W.Frag} {x qual : Str} {st : Stmt} {f : Addr} {oc : Value} {od an : Option Addr} {osl : Array (Option Value)} {dV kV doc pm cdv ct : Value} (l : K.lookup f = some ⟨oc, od, .func (PySem.W.fnOf x qual (defArgs st) (defBody st) (defScope st) dV kV doc pm an cdv ct), osl⟩)
    (c : PySem.W.codeIn K cdv qual = true) (k : PySem.W.keepIn K (.ref f) = true) : FunD K x qual st dV f (PySem.W.fnOf x qual (defArgs st) (defBody st) (defScope st) dV kV doc pm an cdv ct) := ⟨⟨oc, od, kV, doc, pm, an, cdv, ct, osl, rfl, l, c⟩, k⟩
/-- a tuple of defaults -/
def Dflt (K : PySem.W.Frag) (dV : Value) (items : List Value) : Prop := (dV = .none ∧ items = []) ∨ ∃ T o n, dV = .ref T ∧ K.lookup T = some o ∧ o.data = .seq items.toArray n
section
variable {P : Program} {w : World} {K : PySem.W.Frag} {mg : Str → Option Value} {base : Heap} {x qual m : Str} {st : Stmt} {dV : Value} {f C : Addr} {fd : FuncData} {N ps : List Str} {k : Nat} {sp : Sp} {ds : List Value}
theorem FunD.ok (F : FunD K x qual st dV f fd) (S : FnScope N ps (defScope st)) (len : ∀ vs H Q E, sp vs H Q E → vs.length = ps.length)
    (hbody : ∀ (cdv : Value) (A : Around) (outer : List Env) (s : Shared) (H : Hp) (vs : List V) (Q : VK) (E : XK), Room k (A.deeper (envOfC qual (defScope st) s.heap.objs.size f cdv)) → sp vs H Q E →
      ∃ t, PSs (cxOf CX0 P w K mg base N qual (defScope st) f cdv A outer s H E).nox (defBody st) t ∧ t { nx := fun _ H' => Q .non H', rt := Q } (start N vs) H) : FnOk P w K mg base CX0 (k + 1) f fd ps sp := by
  obtain ⟨oc, od, kV, doc, pm, an, cdv, ct, osl, rfl, lk, hcd⟩ := F.ex
  refine fn_of lk hcd S len fun A outer s H vs Q E hr hsp => ?_
  obtain ⟨t, h, q⟩ := hbody cdv A outer s H vs Q E hr hsp
  exact ⟨t, h.nox, q⟩
/-- how its arguments bind: us are given, ds are the defaults that fill up -/
theorem FunD.binds {T : Addr} {o : Obj} {n : Nat} {items : Array Value} (F : FunD K x qual st (.ref T) f fd) (hT : K.lookup T = some o) (ho : o.data = .seq items n)
    (h : ∀ (kV doc pm : Value) (an : Option Addr) (cdv ct : Value) (us : List Value), (us ++ ds).length = ps.length → ∃ k, bindArgs (PySem.W.fnOf x qual (defArgs st) (defBody st) (defScope st) (.ref T) kV doc pm an cdv ct) ⟨us, []⟩ = seqItems? (.ref T) >>= k ∧ k (some items) = pure (ps.zip (us ++ ds))) : Binds K fd ps ds := by
  obtain ⟨oc, od, kV, doc, pm, an, cdv, ct, osl, rfl, lk, hcd⟩ := F.ex
  intro s us X hl
  obtain ⟨k, h1, h2⟩ := h kV doc pm an cdv ct us hl
  exact PySem.W.binds_K X rfl hT ho h1 h2
theorem FunD.binds0 (F : FunD K x qual st .none f fd)
    (h : ∀ (kV doc pm : Value) (an : Option Addr) (cdv ct : Value) (us : List Value), us.length = ps.length → bindArgs (PySem.W.fnOf x qual (defArgs st) (defBody st) (defScope st) .none kV doc pm an cdv ct) ⟨us, []⟩ = pure (ps.zip us)) : Binds K fd ps [] := by
  obtain ⟨oc, od, kV, doc, pm, an, cdv, ct, osl, rfl, lk, hcd⟩ := F.ex
  exact .all (h kV doc pm an cdv ct)
/-- a method of the text -/
def HasM (K : PySem.W.Frag) (C : Addr) (m qual : Str) (st : Stmt) (dV : Value) : Prop := ∃ f fd, Meth K C m f ∧ FunD K m qual st dV f fd
def MDef (P : Program) (w : World) (K : PySem.W.Frag) (mg : Str → Option Value) (base : Heap) (C : Addr) (m : Str) (k : Nat) (ps : List Str) (ds : List Value) (sp : Sp) : Prop :=
  ∃ f fd, Meth K C m f ∧ Binds K fd ps ds ∧ FnOk P w K mg base CX0 k f fd ps sp
theorem HasM.mdef (h : HasM K C m qual st .none) (S : FnScope N ps (defScope st)) (len : ∀ vs H Q E, sp vs H Q E → vs.length = ps.length)
    (hb : ∀ (kV doc pm : Value) (an : Option Addr) (cdv ct : Value) (us : List Value), us.length = ps.length → bindArgs (PySem.W.fnOf m qual (defArgs st) (defBody st) (defScope st) .none kV doc pm an cdv ct) ⟨us, []⟩ = pure (ps.zip us))
    (hbody : ∀ (f : Addr) (cdv : Value) (A : Around) (outer : List Env) (s : Shared) (H : Hp) (vs : List V) (Q : VK) (E : XK), Room k (A.deeper (envOfC qual (defScope st) s.heap.objs.size f cdv)) → sp vs H Q E →
      ∃ t, PSs (cxOf CX0 P w K mg base N qual (defScope st) f cdv A outer s H E).nox (defBody st) t ∧ t { nx := fun _ H' => Q .non H', rt := Q } (start N vs) H) : MDef P w K mg base C m (k + 1) ps [] sp := by
  obtain ⟨f, fd, M, F⟩ := h
  exact ⟨f, fd, M, F.binds0 hb, F.ok S len fun cdv A outer s H vs Q E hr hs => hbody f cdv A outer s H vs Q E hr hs⟩
/-- a class that is made by its __init__ -/
structure MkCl (K : PySem.W.Frag) (C : Addr) : Prop where
  makes : PySem.W.makesIn K C = true
  kp : PySem.W.keepIn K (.ref C) = true
/-- a def by its name, with defaults -/
def HasD (K : PySem.W.Frag) (mg : Str → Option Value) (x : Str) (st : Stmt) (dV : Value) : Prop := ∃ f fd, mg x = some (.ref f) ∧ FunD K x x st dV f fd
def DefD (P : Program) (w : World) (K : PySem.W.Frag) (mg : Str → Option Value) (base : Heap) (x : Str) (k : Nat) (ps : List Str) (ds : List Value) (sp : Sp) : Prop :=
  ∃ f fd, mg x = some (.ref f) ∧ PySem.W.keepIn K (.ref f) = true ∧ Binds K fd ps ds ∧ FnOk P w K mg base CX0 k f fd ps sp
end
section
variable {X : Cx} {C : Addr} {m x : Str} {p pos apos : Pos} {e o : Expr} {es : List Expr} {ta : TE} {t : TA} {k : Nat} {ps : List Str} {sp : Sp} {ds : List Value} {dvs : List V}
theorem pe_makeD (M : MkCl X.K C) (D : MDef X.prog X.w X.K X.mg X.base C "__init__" k ps ds sp) (hd : Vals dvs ds) (hr : Room (k + 1) X.A) (hm : X.mg x = some (.ref C)) (ha : PA X (e :: es) t) (hg : Gl X x := by rfl) (hdb : (x == ("__debug__" : Str)) = false := by decide)
    (he : starEach (e :: es) X.env = (false, eval e X.env) :: starEach es X.env := by rfl) (hpl : (backTo pos (starEach es X.env)).any (·.1) = false := by rfl) : PE X (.Call (.Name x p) (e :: es) [] pos) (tMake C sp dvs E0 t) := by
  obtain ⟨f, fd, me, hb, F⟩ := D
  exact pe_make ⟨M.makes, me.at_, me.fn, M.kp⟩ F hr hg hm hb hd pass0 ha hdb he hpl
end
end L2
namespace L2
open PySem PySem.Spec PyProof.Rows Mth

section
variable {X : Cx} {pins : List (Addr × Obj)} {σ : St} {H : Hp} {s : Shared} {h' : Heap} {ch : List Addr}
end

/-- two lists side by side: a new pair each turn -/
def Itz (K : PySem.W.Frag) (a b : Addr) : It :=
  ⟨fun i H => ∃ xs ys x y, SqL K H a xs ∧ SqL K H b ys ∧ xs[i]? = some x ∧ ys[i]? = some y,
   fun i H v H' => ∃ p x y, H p = none ∧ v = .ref p ∧ H' = upd H p (.tup [x, y]) ∧ (∀ xs, SqL K H a xs → xs[i]? = some x) ∧ ∀ ys, SqL K H b ys → ys[i]? = some y,
   fun i H => ∃ xs ys, SqL K H a xs ∧ SqL K H b ys ∧ (xs.length ≤ i ∨ ys.length ≤ i)⟩
def ZipSt (z TI TO i1 i2 a b : Addr) (i : Nat) (h : Heap) : Prop := IsZip h z TI TO .none ∧ IsPair h TI (.ref i1) (.ref i2) ∧ (∃ u v, IsPair h TO u v) ∧ h.IsListIter i1 a i ∧ h.IsListIter i2 b i
theorem ZipSt.obj {z TI TO i1 i2 a b : Addr} {i : Nat} {h : Heap} (st : ZipSt z TI TO i1 i2 a b i h) : ∀ c ∈ [z, TI, TO, i1, i2], ∃ o, h.get? c = some o ∧ ∀ v, o.data ≠ .cell v := fun c hc => by
  obtain ⟨hz, hTI, ⟨u, v, hTO⟩, ⟨o1, e1, _, d1⟩, ⟨o2, e2, _, d2⟩⟩ := st
  simp only [List.mem_cons, List.not_mem_nil, or_false] at hc
  rcases hc with rfl | rfl | rfl | rfl | rfl
  · exact ⟨_, hz, fun v q => by cases q⟩
  · exact ⟨_, hTI, fun v q => by cases q⟩
  · exact ⟨_, hTO, fun v q => by cases q⟩
  · exact ⟨o1, e1, fun v q => by rw [d1] at q; cases q⟩
  · exact ⟨o2, e2, fun v q => by rw [d2] at q; cases q⟩
section
variable {X : Cx}
def iZip (K : PySem.W.Frag) (ta : TA) : TI := fun σ H R => ta σ H fun vs H1 => ∃ a b, vs = [.ref a, .ref b] ∧ (∃ xs, SqL K H1 a xs) ∧ (∃ ys, SqL K H1 b ys) ∧ R (Itz K a b) H1
end
end L2
namespace L2
open PySem PySem.Spec PyProof.Rows Mth

mutual
/-- the value v tells d -/
def Dn (K : PySem.W.Frag) (H : Hp) : PyData → V → Prop
  | .none, v => v = .non
  | .bool b, v => v = .bl b
  | .int i, v => v = .int i
  | .str x, v => v = .str x
  | .list ds, v => ∃ a xs, v = .ref a ∧ SqL K H a xs ∧ DnA K H ds xs
  | .tuple ds, v => ∃ a xs, v = .ref a ∧ SqT K H a xs ∧ DnA K H ds xs
  | .dict _, _ => False
def DnA (K : PySem.W.Frag) (H : Hp) : List PyData → List V → Prop
  | [], xs => xs = []
  | d :: ds, xs => ∃ x r, xs = x :: r ∧ Dn K H d x ∧ DnA K H ds r
end
/-- no list within -/
def flatD : PyData → Bool
  | .list _ => false
  | .dict _ => false
  | .tuple ds => ds.attach.all fun ⟨d, _⟩ => flatD d
  | _ => true
theorem flatD_tuple {ds : List PyData} : flatD (.tuple ds) = true ↔ ∀ d ∈ ds, flatD d = true := by
  rw [flatD, List.all_eq_true]
  constructor
  · intro h d hd
    exact h ⟨d, hd⟩ (List.mem_attach ..)
  · intro h x _
    exact h x.1 x.2
/-- the tuples stay -/
def TStay (K : PySem.W.Frag) (H H' : Hp) : Prop := ∀ a xs, SqT K H a xs → SqT K H' a xs
theorem TStay.refl {K : PySem.W.Frag} (H : Hp) : TStay K H H := fun _ _ h => h
theorem TStay.trans {K : PySem.W.Frag} {H H1 H2 : Hp} (a : TStay K H H1) (b : TStay K H1 H2) : TStay K H H2 := fun c xs h => b c xs (a c xs h)
theorem Same.ts {K : PySem.W.Frag} {H H' : Hp} (s : Same H H') : TStay K H H' := fun _ _ h => s.tup h
/-- an object that is no tuple is written -/
def noTup : HO → Bool
  | .tup _ => false
  | .frz _ _ => false
  | _ => true
theorem ts_upd {K : PySem.W.Frag} {H : Hp} {a : Addr} {o o' : HO} (h : H a = some o) (n : noTup o = true) : TStay K H (upd H a o') := fun b xs q => by
  have ne : ∀ u, H b = some u → noTup u = false → b ≠ a := fun u e z y => by
    subst y
    rw [h] at e
    cases e
    rw [n] at z
    cases z
  rcases q with (q | ⟨ob, q⟩) | q
  · exact .inl (.inl (by rw [upd_ne (ne _ q rfl)]; exact q))
  · exact .inl (.inr ⟨ob, by rw [upd_ne (ne _ q rfl)]; exact q⟩)
  · exact .inr q
section
variable {K : PySem.W.Frag} {H H' : Hp}
mutual
theorem Dn.same (s : Same H H') : ∀ (d : PyData) {v : V}, Dn K H d v → Dn K H' d v
  | .none, _, h => by rw [Dn] at h ⊢; exact h
  | .bool _, _, h => by rw [Dn] at h ⊢; exact h
  | .int _, _, h => by rw [Dn] at h ⊢; exact h
  | .str _, _, h => by rw [Dn] at h ⊢; exact h
  | .list ds, _, h => by
    rw [Dn] at h ⊢
    obtain ⟨a, xs, e, q, r⟩ := h
    exact ⟨a, xs, e, s.seq q, DnA.same s ds r⟩
  | .tuple ds, _, h => by
    rw [Dn] at h ⊢
    obtain ⟨a, xs, e, q, r⟩ := h
    exact ⟨a, xs, e, s.tup q, DnA.same s ds r⟩
  | .dict _, _, h => by rw [Dn] at h; exact h.elim
theorem DnA.same (s : Same H H') : ∀ (ds : List PyData) {xs : List V}, DnA K H ds xs → DnA K H' ds xs
  | [], _, h => by rw [DnA] at h ⊢; exact h
  | d :: ds, _, h => by
    rw [DnA] at h ⊢
    obtain ⟨x, r, e, q, t⟩ := h
    exact ⟨x, r, e, Dn.same s d q, DnA.same s ds t⟩
end
mutual
theorem Dn.ts (s : TStay K H H') : ∀ (d : PyData) {v : V}, flatD d = true → Dn K H d v → Dn K H' d v
  | .none, _, _, h => by rw [Dn] at h ⊢; exact h
  | .bool _, _, _, h => by rw [Dn] at h ⊢; exact h
  | .int _, _, _, h => by rw [Dn] at h ⊢; exact h
  | .str _, _, _, h => by rw [Dn] at h ⊢; exact h
  | .list ds, _, f, _ => by rw [flatD] at f; cases f
  | .tuple ds, _, f, h => by
    rw [Dn] at h ⊢
    obtain ⟨a, xs, e, q, r⟩ := h
    exact ⟨a, xs, e, s _ _ q, DnA.ts s ds (flatD_tuple.mp f) r⟩
  | .dict _, _, _, h => by rw [Dn] at h; exact h.elim
theorem DnA.ts (s : TStay K H H') : ∀ (ds : List PyData) {xs : List V}, (∀ d ∈ ds, flatD d = true) → DnA K H ds xs → DnA K H' ds xs
  | [], _, _, h => by rw [DnA] at h ⊢; exact h
  | d :: ds, _, f, h => by
    rw [DnA] at h ⊢
    obtain ⟨x, r, e, q, t⟩ := h
    exact ⟨x, r, e, Dn.ts s d (f d List.mem_cons_self) q, DnA.ts s ds (fun d hd => f d (List.mem_cons_of_mem _ hd)) t⟩
end
theorem DnA.length : ∀ {ds : List PyData} {xs : List V}, DnA K H ds xs → xs.length = ds.length
  | [], _, h => by rw [DnA] at h; rw [h]; rfl
  | d :: ds, _, h => by
    rw [DnA] at h
    obtain ⟨x, r, rfl, _, t⟩ := h
    rw [List.length_cons, List.length_cons, DnA.length t]
theorem DnA.get : ∀ {ds : List PyData} {xs : List V} {i : Nat} {d : PyData}, DnA K H ds xs → ds[i]? = some d → ∃ x, xs[i]? = some x ∧ Dn K H d x
  | [], _, _, _, _, e => by simp at e
  | _ :: _, _, 0, _, h, e => by
    rw [DnA] at h
    obtain ⟨x, r, rfl, q, t⟩ := h
    simp at e
    subst e
    exact ⟨x, rfl, q⟩
  | _ :: ds, _, i + 1, d, h, e => by
    rw [DnA] at h
    obtain ⟨x, r, rfl, q, t⟩ := h
    obtain ⟨y, e1, e2⟩ := DnA.get (i := i) t (by simpa using e)
    exact ⟨y, by simpa using e1, e2⟩
theorem DnA.snoc : ∀ {ds : List PyData} {xs : List V} {d : PyData} {x : V}, DnA K H ds xs → Dn K H d x → DnA K H (ds ++ [d]) (xs ++ [x])
  | [], _, d, x, h, q => by
    rw [DnA] at h
    subst h
    exact ⟨x, [], rfl, q, rfl⟩
  | _ :: ds, _, d, x, h, q => by
    rw [DnA] at h
    obtain ⟨y, r, rfl, q', t⟩ := h
    exact ⟨y, r ++ [x], rfl, q', DnA.snoc t q⟩
theorem DnA.set : ∀ {ds : List PyData} {xs : List V} {i : Nat} {d : PyData} {x : V}, DnA K H ds xs → Dn K H d x → DnA K H (ds.set i d) (xs.set i x)
  | [], _, _, _, _, h, _ => by
    rw [DnA] at h
    subst h
    exact rfl
  | _ :: _, _, 0, d, x, h, q => by
    rw [DnA] at h
    obtain ⟨y, r, rfl, q', t⟩ := h
    exact ⟨x, r, rfl, q, t⟩
  | _ :: ds, _, i + 1, d, x, h, q => by
    rw [DnA] at h
    obtain ⟨y, r, rfl, q', t⟩ := h
    exact ⟨y, r.set i x, rfl, q', DnA.set t q⟩
theorem dn_nil : DnA K H [] [] := rfl
theorem dn_cons {d : PyData} {ds : List PyData} {x : V} {xs : List V} (a : Dn K H d x) (b : DnA K H ds xs) : DnA K H (d :: ds) (x :: xs) := ⟨x, xs, rfl, a, b⟩
theorem dn_int {i : Int} : Dn K H (.int i) (.int i) := rfl
theorem dn_tup {a : Addr} {xs : List V} {ds : List PyData} (h : SqT K H a xs) (r : DnA K H ds xs) : Dn K H (.tuple ds) (.ref a) := ⟨a, xs, rfl, h, r⟩
/-- a fraction -/
abbrev frD (f : Int × Int) : PyData := .tuple [.int f.1, .int f.2]
theorem dn_fr {p : Addr} {f : Int × Int} (h : SqT K H p [.int f.1, .int f.2]) : Dn K H (frD f) (.ref p) := dn_tup h (dn_cons dn_int (dn_cons dn_int dn_nil))
theorem Dn.fr {v : V} {f : Int × Int} (h : Dn K H (frD f) v) : ∃ p, v = .ref p ∧ SqT K H p [.int f.1, .int f.2] := by
  obtain ⟨p, xs, e, q, x, r, e1, e2, y, r2, e3, e4, e5⟩ := h
  have e2 : x = V.int f.1 := e2
  have e4 : y = V.int f.2 := e4
  have e5 : r2 = [] := e5
  subst e1 e2 e3 e4 e5
  exact ⟨p, e, q⟩
theorem flat_fr (f : Int × Int) : flatD (frD f) = true := by simp [frD, flatD]
end
section
variable {X : Cx} {pins : List (Addr × Obj)} {σ : St} {H : Hp} {s : Shared}
mutual
theorem Inv.reads (I : Inv X pins σ H s) : ∀ (d : PyData) {v : V} {u : Value}, Dn X.K H d v → RelV v u → ∃ as, Reads s.heap u d as
  | .none, _, _, h, r => by
    have h : _ = V.non := h
    subst h
    obtain rfl := (show _ = Value.none from r)
    exact ⟨_, .none⟩
  | .bool b, _, _, h, r => by
    have h : _ = V.bl b := h
    subst h
    obtain rfl := (show _ = Value.bool b from r)
    exact ⟨_, .bool b⟩
  | .int i, _, _, h, r => by
    have h : _ = V.int i := h
    subst h
    obtain ⟨t, rfl⟩ := r
    exact ⟨_, .int i t⟩
  | .str x, _, _, h, r => by
    have h : _ = V.str x := h
    subst h
    obtain ⟨t, rfl⟩ := r
    exact ⟨_, .str x t⟩
  | .list ds, _, _, h, r => by
    obtain ⟨a, xs, rfl, q, t⟩ := h
    obtain rfl := (show _ = Value.ref a from r)
    obtain ⟨its, rv, p, _⟩ := I.list q
    obtain ⟨o, ho, hc, n, hd⟩ := p.isList
    obtain ⟨as, ra⟩ := Inv.readsAll I ds t rv
    exact ⟨_, .list ho hc hd (by simpa using ra)⟩
  | .tuple ds, _, _, h, r => by
    obtain ⟨a, xs, rfl, q, t⟩ := h
    obtain rfl := (show _ = Value.ref a from r)
    obtain ⟨its, rv, p, _⟩ := I.tuple q
    obtain ⟨o, ho, hc, n, hd⟩ := p
    obtain ⟨as, ra⟩ := Inv.readsAll I ds t rv
    exact ⟨_, .tuple ho hc hd (by simpa using ra)⟩
  | .dict _, _, _, h, _ => (show False from h).elim
theorem Inv.readsAll (I : Inv X pins σ H s) : ∀ (ds : List PyData) {xs : List V} {us : List Value}, DnA X.K H ds xs → Vals xs us → ∃ as, ReadsAll s.heap us ds as
  | [], _, _, h, r => by
    have h : _ = [] := h
    subst h
    obtain rfl := Vals.zero r
    exact ⟨_, .nil⟩
  | d :: ds, _, _, h, r => by
    obtain ⟨x, t, rfl, q, qt⟩ := h
    cases r with
    | cons r1 r2 =>
      obtain ⟨as, ra⟩ := Inv.reads I d q r1
      obtain ⟨bs, rb⟩ := Inv.readsAll I ds qt r2
      exact ⟨_, .cons ra rb⟩
end
def rEqD (K : PySem.W.Frag) : R2 := fun x y H Q => ∃ d e, Dn K H d x ∧ Dn K H e y ∧ SeqAt.shaped d = true ∧ SeqAt.shaped e = true ∧ Q (.bl (PyData.eqv d e)) H
def rNeD (K : PySem.W.Frag) : R2 := fun x y H Q => ∃ d e, Dn K H d x ∧ Dn K H e y ∧ SeqAt.shaped d = true ∧ SeqAt.shaped e = true ∧ Q (.bl (!PyData.eqv d e)) H
theorem op_eqD (hu : X.A.units + 64 < cLine) : OpR X (compareOp .Eq) (rEqD X.K) := by
  intro pins s σ H x y v u Q I rx ry h
  obtain ⟨d, e, h1, h2, s1, s2, q⟩ := h
  obtain ⟨as, r1⟩ := I.reads d h1 rx
  obtain ⟨bs, r2⟩ := I.reads e h2 ry
  exact eq_dataH r1 r2 s1 s2 hu ⟨.bl _, H, I, rfl, q⟩
end
end L2
namespace L2
open PySem PySem.Spec PyProof.Rows Mth
section
variable {P : Program} {w : World} {K : PySem.W.Frag} {mg : Str → Option Value} {base : Heap} {x qual m : Str} {st : Stmt} {dV : Value} {f C : Addr} {fd : FuncData} {N ps : List Str} {k : Nat} {sp : Sp} {ds : List Value} {dvs : List V}
def MOk (P : Program) (w : World) (K : PySem.W.Frag) (mg : Str → Option Value) (base : Heap) (C : Addr) (m qual : Str) (st : Stmt) (dV : Value) (k : Nat) (ps : List Str) (sp : Sp) : Prop :=
  ∃ f fd, Meth K C m f ∧ FunD K m qual st dV f fd ∧ FnOk P w K mg base CX0 k f fd ps sp
def MDefE (P : Program) (w : World) (K : PySem.W.Frag) (mg : Str → Option Value) (base : Heap) (C : Addr) (m : Str) (k : Nat) (ps : List Str) (dvs : List V) (sp : Sp) : Prop :=
  ∃ ds, Vals dvs ds ∧ MDef P w K mg base C m k ps ds sp
theorem MOk.mdef {T : Addr} {dall : List V} (h : MOk P w K mg base C m qual st (.ref T) k ps sp) (hT : DfIs K T dall)
    (hb : ∀ items : Array Value, Vals dall items.toList → ∃ ds, Vals dvs ds ∧ ∀ (kV doc pm : Value) (an : Option Addr) (cdv ct : Value) (us : List Value), (us ++ ds).length = ps.length → ∃ k, bindArgs (PySem.W.fnOf m qual (defArgs st) (defBody st) (defScope st) (.ref T) kV doc pm an cdv ct) ⟨us, []⟩ = seqItems? (.ref T) >>= k ∧ k (some items) = pure (ps.zip (us ++ ds))) :
    MDefE P w K mg base C m k ps dvs sp := by
  obtain ⟨f, fd, M, F, O⟩ := h
  obtain ⟨o, n, items, hT, ho, hv⟩ := hT
  obtain ⟨ds, hd, hb⟩ := hb items hv
  exact ⟨ds, hd, f, fd, M, F.binds hT ho hb, O⟩
def DOk (P : Program) (w : World) (K : PySem.W.Frag) (mg : Str → Option Value) (base : Heap) (x : Str) (st : Stmt) (dV : Value) (k : Nat) (ps : List Str) (sp : Sp) : Prop :=
  ∃ f fd, mg x = some (.ref f) ∧ FunD K x x st dV f fd ∧ FnOk P w K mg base CX0 k f fd ps sp
def DefE (P : Program) (w : World) (K : PySem.W.Frag) (mg : Str → Option Value) (base : Heap) (x : Str) (k : Nat) (ps : List Str) (dvs : List V) (sp : Sp) : Prop :=
  ∃ ds, Vals dvs ds ∧ DefD P w K mg base x k ps ds sp
end
section
variable {X : Cx} {C : Addr} {m x : Str} {p pos apos : Pos} {e o : Expr} {es : List Expr} {ta : TE} {t : TA} {k : Nat} {ps : List Str} {sp : Sp} {dvs : List V}
theorem pe_makeE (M : MkCl X.K C) (D : MDefE X.prog X.w X.K X.mg X.base C "__init__" k ps dvs sp) (hr : Room (k + 1) X.A) (hm : X.mg x = some (.ref C)) (ha : PA X (e :: es) t) (hg : Gl X x := by rfl) (hdb : (x == ("__debug__" : Str)) = false := by decide)
    (he : starEach (e :: es) X.env = (false, eval e X.env) :: starEach es X.env := by rfl) (hpl : (backTo pos (starEach es X.env)).any (·.1) = false := by rfl) : PE X (.Call (.Name x p) (e :: es) [] pos) (tMake C sp dvs E0 t) := by
  obtain ⟨ds, hd, D⟩ := D
  exact pe_makeD M D hd hr hm ha hg hdb he hpl
end
end L2
namespace L2
open PySem PySem.Spec PyProof.Rows Mth
end L2
namespace PySem
open Sem (wp)
section
variable {prog : Program} {w : World} {K : Type} [DecidableEq K] {knd : KeyKind prog w K} {A : Around} {E : Value → Shared → Prop} {s : Shared}
end
end PySem
namespace L2
open PySem PySem.Spec PyProof.Rows Mth
section
variable {X : Cx} {pins : List (Addr × Obj)} {σ : St} {H : Hp} {s : Shared} {a : Addr} {kvs : List (List Key × V)} {A : Around} {E : Value → Shared → Prop}
end
theorem bt_dict : bootBuiltins "dict" = some (.type "dict") := by decide +kernel
end L2
namespace L2
open PySem PySem.Spec PyProof.Rows Mth
section
variable {X : Cx}
end
end L2
namespace L2
open PySem PySem.Spec PyProof.Rows Mth
abbrev Fra := Int × Int
structure HoldM where
  most : Int
  cap : Int
  load : Int
  rows : List (List Fra)
  flows : Int → Int → Option Fra
  skies : List (Fra × Fra × Fra)
  stoves : List (Option (Fra × Int × Int × Int))
abbrev skyD (s : Fra × Fra × Fra) : PyData := .tuple [frD s.1, frD s.2.1, frD s.2.2]
abbrev stoveD : Option (Fra × Int × Int × Int) → PyData
  | none => .none
  | some s => .tuple [frD s.1, .int s.2.1, .int s.2.2.1, .int s.2.2.2]
abbrev rowD (r : List Fra) : PyData := .tuple (r.map frD)
def hfs (m : HoldM) (pm pf ps pt : Addr) : List (Str × V) :=
  [("most", .int m.most), ("cap", .int m.cap), ("load", .int m.load), ("mark_rows", .ref pm), ("flows", .ref pf), ("skies", .ref ps), ("stoves", .ref pt)]
section
variable (m : HoldM) (pm pf ps pt : Addr)
end
def FlowIs (K : PySem.W.Frag) (H : Hp) : Option Fra → Option V → Prop
  | none, none => True
  | some f, some v => Dn K H (frD f) v
  | _, _ => False
abbrev fkey (i j : Int) : List Key := [.inl i, .inl j]
/-- keys of flows: pairs of room numbers, each once -/
def FKeys (kvs : List (List Key × V)) : Prop := (kvs.map (·.1)).Nodup ∧ ∀ p ∈ kvs, ∃ i j : Nat, i < 4 ∧ j < 4 ∧ p.1 = fkey i j
end L2
namespace Mth
/-- a fraction in lowest terms -/
def nf (t b : Int) : Int × Int := (t.fdiv (Int.gcd t b : Nat), b.fdiv (Int.gcd t b : Nat))
theorem dvd_cop {r q s : Int} (h : r ∣ q * s) (c : Int.gcd q r = 1) : r ∣ s := by
  have h1 : r.natAbs ∣ q.natAbs * s.natAbs := by rw [← Int.natAbs_mul]; exact Int.natAbs_dvd_natAbs.mpr h
  have h2 : Nat.Coprime r.natAbs q.natAbs := by rw [Nat.coprime_comm]; exact c
  exact Int.natAbs_dvd_natAbs.mp (Nat.Coprime.dvd_of_dvd_mul_left h2 h1)
theorem Fr.uniq {t b q r q' r' : Int} (hb : b ≠ 0) (h : Fr t b q r) (k : Fr t b q' r') : q = q' ∧ r = r' := by
  have e : q * r' = q' * r := by
    have e1 : (q * r') * b = (q' * r) * b := by
      have a1 := h.cross
      have a2 := k.cross
      calc (q * r') * b = (q * b) * r' := by rw [Int.mul_right_comm]
        _ = (t * r) * r' := by rw [a1]
        _ = (t * r') * r := by rw [Int.mul_right_comm]
        _ = (q' * b) * r := by rw [a2]
        _ = (q' * r) * b := by rw [Int.mul_right_comm]
    exact Int.eq_of_mul_eq_mul_right hb e1
  have d1 : r ∣ r' := by
    have : r ∣ q * r' := ⟨q', by rw [e, Int.mul_comm]⟩
    exact dvd_cop this h.cop
  have d2 : r' ∣ r := by
    have : r' ∣ q' * r := ⟨q, by rw [← e, Int.mul_comm]⟩
    exact dvd_cop this k.cop
  have er : r = r' := Int.dvd_antisymm (Int.le_of_lt h.pos) (Int.le_of_lt k.pos) d1 d2
  subst er
  exact ⟨Int.eq_of_mul_eq_mul_right (Int.ne_of_gt h.pos) e, rfl⟩
theorem nf_fr {t b : Int} (hb : 0 < b) : Fr t b (nf t b).1 (nf t b).2 := (fr_of (Int.ne_of_gt hb) rfl).2.2.1 hb
theorem Fr.nf {t b q r : Int} (hb : 0 < b) (h : Fr t b q r) : (q, r) = nf t b := by
  obtain ⟨e1, e2⟩ := h.uniq (Int.ne_of_gt hb) (nf_fr hb)
  rw [e1, e2]
def plusM (x y : Int × Int) : Int × Int := nf (x.1 * y.2 + y.1 * x.2) (x.2 * y.2)
def minusM (x y : Int × Int) : Int × Int := nf (x.1 * y.2 - y.1 * x.2) (x.2 * y.2)
def underM (x y : Int × Int) : Bool := decide (x.1 * y.2 < y.1 * x.2)
/-- top and bottom below 2 ^ n, the bottom above nought -/
structure OkF (n : Nat) (f : Int × Int) : Prop where
  t : Bd n f.1
  b : Bd n f.2
  p : 0 < f.2
theorem OkF.mono {m n : Nat} {f : Int × Int} (h : OkF m f) (l : m ≤ n) : OkF n f := ⟨h.t.mono l, h.b.mono l, h.p⟩
theorem OkF.minus {m n : Nat} {x y : Int × Int} (h : OkF m x) (k : OkF n y) : OkF (m + n + 1) (minusM x y) := by
  have F := nf_fr (t := x.1 * y.2 - y.1 * x.2) (b := x.2 * y.2) (Int.mul_pos h.p k.p)
  have b1 : Bd (m + n) (x.1 * y.2) := h.t.mul k.b
  have b2 : Bd (m + n) (y.1 * x.2) := by rw [Nat.add_comm]; exact k.t.mul h.b
  exact ⟨F.bdq (b1.sub b2), F.bdr ((h.b.mul k.b).mono (Nat.le_succ _)), F.pos⟩
theorem ok01 : OkF 100 (0, 1) := ⟨(by decide : (_ : Int).natAbs < _), (by decide : (_ : Int).natAbs < _), by decide⟩
theorem ok11 : OkF 100 (1, 1) := ⟨(by decide : (_ : Int).natAbs < _), (by decide : (_ : Int).natAbs < _), by decide⟩
end Mth
namespace L2
open PySem PySem.Spec PyProof.Rows Mth
structure HoldM.Wf (m : HoldM) : Prop where
  rows : ∀ r ∈ m.rows, ∀ f ∈ r, OkF 100 f
  len : ∀ r ∈ m.rows, 2 ≤ r.length ∧ r.length ≤ 7
  flows : ∀ i j f, m.flows i j = some f → OkF 100 f
  skies : ∀ s ∈ m.skies, OkF 100 s.1 ∧ OkF 100 s.2.1 ∧ OkF 100 s.2.2
  stoves : ∀ x, some x ∈ m.stoves → OkF 100 x.1
/-- a hold at a: its own objects fp -/
structure HoldAt (K : PySem.W.Frag) (C : Addr) (H : Hp) (a : Addr) (fp : List Addr) (m : HoldM) : Prop where
  ex : ∃ dx pm pf ps pt vm vs vt kvs, fp = [a, dx, pm, pf, ps, pt] ∧ H a = some (.ins C dx (hfs m pm pf ps pt)) ∧ H dx = some (.own a) ∧ H pm = some (.lst vm) ∧ H pf = some (.dT kvs) ∧ H ps = some (.lst vs) ∧ H pt = some (.lst vt) ∧
    pm ≠ ps ∧ pm ≠ pt ∧ ps ≠ pt ∧ DnA K H (m.rows.map rowD) vm ∧ DnA K H (m.skies.map skyD) vs ∧ DnA K H (m.stoves.map stoveD) vt ∧ (∀ i j, FlowIs K H (m.flows i j) (valV kvs (fkey i j))) ∧ FKeys kvs
  sk : m.skies.length = m.rows.length
  st : m.stoves.length = m.rows.length
  mx : m.rows.length ≤ 4
  wf : m.Wf
def But (fp : List Addr) (H H' : Hp) : Prop := ∀ b o, H b = some o → b ∉ fp → H' b = some o
def HoldM.flow (m : HoldM) (i j : Nat) : Fra := (m.flows i j).getD (0, 1)
def HoldM.skyS (m : HoldM) (i : Nat) : Fra := ((m.skies[i]?).map (·.1)).getD (0, 1)
def HoldM.ownTo (m : HoldM) (i n : Nat) : Fra := (List.range n).foldl (fun acc j => minusM acc (m.flow i j)) (minusM (1, 1) (m.skyS i))
def HoldM.own (m : HoldM) (i : Nat) : Fra := m.ownTo i m.rows.length
def HoldM.share (m : HoldM) (i j : Nat) : Fra := if i = j then m.own i else m.flow i j
theorem HoldM.Wf.flow {m : HoldM} (w : m.Wf) (i j : Nat) : OkF 100 (m.flow i j) := by
  unfold HoldM.flow
  cases e : m.flows i j with
  | none => exact ok01
  | some f => exact w.flows i j f e
theorem HoldM.Wf.skyS {m : HoldM} (w : m.Wf) (i : Nat) : OkF 100 (m.skyS i) := by
  unfold HoldM.skyS
  cases e : m.skies[i]? with
  | none => exact ok01
  | some f => exact (w.skies f (List.mem_of_getElem? e)).1
theorem HoldM.ownTo_succ (m : HoldM) (i n : Nat) : m.ownTo i (n + 1) = minusM (m.ownTo i n) (m.flow i n) := by
  unfold HoldM.ownTo
  rw [List.range_succ, List.foldl_append]; rfl
theorem HoldM.Wf.ownTo {m : HoldM} (w : m.Wf) (i : Nat) : ∀ n, OkF (201 + 101 * n) (m.ownTo i n)
  | 0 => (ok11.minus (w.skyS i)).mono (by decide)
  | n + 1 => by
    rw [HoldM.ownTo_succ]
    exact ((w.ownTo i n).minus (w.flow i n)).mono (by omega)
section
variable {K : PySem.W.Frag} {H : Hp} {v : V}
theorem Dn.sky {s : Fra × Fra × Fra} (h : Dn K H (skyD s) v) : ∃ p v1 v2 v3, v = .ref p ∧ SqT K H p [v1, v2, v3] ∧ Dn K H (frD s.1) v1 ∧ Dn K H (frD s.2.1) v2 ∧ Dn K H (frD s.2.2) v3 := by
  obtain ⟨p, xs, e, q, x1, r1, e1, d1, x2, r2, e2, d2, x3, r3, e3, d3, e4⟩ := h
  have e4 : r3 = [] := e4
  subst e1 e2 e3 e4
  exact ⟨p, x1, x2, x3, e, q, d1, d2, d3⟩
theorem flat_sky (s : Fra × Fra × Fra) : flatD (skyD s) = true := by simp [skyD, frD, flatD]
theorem flat_stove (s : Option (Fra × Int × Int × Int)) : flatD (stoveD s) = true := by cases s <;> simp [stoveD, frD, flatD]
theorem flat_row (r : List Fra) : flatD (rowD r) = true := flatD_tuple.mpr fun d hd => by
  obtain ⟨f, _, rfl⟩ := List.mem_map.mp hd
  exact flat_fr f
theorem KTup.fr {a : Addr} {f : Fra} (h : KTup K a [.int f.1, .int f.2]) : Dn K H (frD f) (.ref a) := dn_fr (h.at H)
end
theorem get_nat {α : Type} {l : List α} {i : Nat} (h : i < l.length) : l[i]? = some l[i] := List.getElem?_eq_getElem h
def sp_upto : Sp := fun vs H Q _ => ∃ n g : Int, vs = [.int n, .int g] ∧ Q (.bl (decide (0 ≤ n ∧ n ≤ g))) H
section
variable (K : PySem.W.Frag) (C : Addr)
def sp_many : Sp := fun vs H Q _ => ∃ a fp m, vs = [.ref a] ∧ HoldAt K C H a fp m ∧ Q (natV m.rows.length) H
def sp_look_for : Sp := fun vs H Q _ => ∃ a fp m, ∃ i : Nat, vs = [.ref a, natV i] ∧ HoldAt K C H a fp m ∧ i < m.rows.length ∧ Q .non H
def sp_sky : Sp := fun vs H Q _ => ∃ a fp m, ∃ i : Nat, ∃ s, vs = [.ref a, natV i] ∧ HoldAt K C H a fp m ∧ m.skies[i]? = some s ∧ ∀ v, Dn K H (skyD s) v → Q v H
def sp_stove : Sp := fun vs H Q _ => ∃ a fp m, ∃ i : Nat, ∃ s, vs = [.ref a, natV i] ∧ HoldAt K C H a fp m ∧ m.stoves[i]? = some s ∧ ∀ v, Dn K H (stoveD s) v → Q v H
def sp_marks : Sp := fun vs H Q _ => ∃ a fp m, ∃ i : Nat, ∃ r, vs = [.ref a, natV i] ∧ HoldAt K C H a fp m ∧ m.rows[i]? = some r ∧ ∀ p xs, H p = none → DnA K H (r.map frD) xs → Q (.ref p) (upd H p (.lst xs))
def sp_own : Sp := fun vs H Q _ => ∃ a fp m, ∃ i : Nat, vs = [.ref a, natV i] ∧ HoldAt K C H a fp m ∧ i < m.rows.length ∧ ∀ v H', Same H H' → Dn K H' (frD (m.own i)) v → Q v H'
def sp_share : Sp := fun vs H Q _ => ∃ a fp m, ∃ i j : Nat, vs = [.ref a, natV i, natV j] ∧ HoldAt K C H a fp m ∧ i < m.rows.length ∧ j < m.rows.length ∧ ∀ v H', Same H H' → Dn K H' (frD (m.share i j)) v → Q v H'
end
theorem HoldAt.same {K : PySem.W.Frag} {C : Addr} {H H' : Hp} {a : Addr} {fp : List Addr} {m : HoldM} (s : Same H H') (h : HoldAt K C H a fp m) : HoldAt K C H' a fp m := by
  obtain ⟨⟨dx, pm, pf, ps, pt, vm, vs, vt, kvs, e, ha, hdx, hpm, hpf, hps, hpt, n1, n2, n3, dm, ds, dt, df, fk⟩, q1, q2, q3, q4⟩ := h
  refine ⟨⟨dx, pm, pf, ps, pt, vm, vs, vt, kvs, e, s _ _ ha, s _ _ hdx, s _ _ hpm, s _ _ hpf, s _ _ hps, s _ _ hpt, n1, n2, n3, DnA.same s _ dm, DnA.same s _ ds, DnA.same s _ dt, fun i j => ?_, fk⟩, q1, q2, q3, q4⟩
  have := df i j
  revert this
  cases m.flows i j <;> cases valV kvs (fkey i j) <;> intro q
  · exact q
  · exact q
  · exact q
  · exact Dn.same s _ q
end L2
namespace L2
open PySem PySem.Spec PyProof.Rows Mth
theorem sz1 {x : V} : [x].length ≤ sizeLine := by show 1 ≤ sizeLine; decide
theorem nodup_len {α : Type} [DecidableEq α] : ∀ (l L : List α), l.Nodup → (∀ x ∈ l, x ∈ L) → l.length ≤ L.length
  | [], _, _, _ => Nat.zero_le _
  | x :: l, L, hn, hs => by
    obtain ⟨h1, h2⟩ := List.nodup_cons.mp hn
    have hx := hs x List.mem_cons_self
    have := nodup_len l (L.erase x) h2 fun y hy => (List.mem_erase_of_ne (fun e => h1 (by rw [← e]; exact hy))).mpr (hs y (List.mem_cons_of_mem _ hy))
    rw [List.length_erase_of_mem hx] at this
    have hp := List.length_pos_of_mem hx
    rw [List.length_cons]
    omega
def allKeys : List (List Key) := (List.range 4).flatMap fun (i : Nat) => (List.range 4).map fun (j : Nat) => fkey (i : Int) (j : Int)
theorem FKeys.len {kvs : List (List Key × V)} (h : FKeys kvs) : kvs.length ≤ 16 := by
  have := nodup_len (kvs.map (·.1)) allKeys h.1 fun x hx => by
    obtain ⟨p, hp, rfl⟩ := List.mem_map.mp hx
    obtain ⟨i, j, hi, hj, e⟩ := h.2 p hp
    rw [e]
    exact List.mem_flatMap.mpr ⟨i, List.mem_range.mpr hi, List.mem_map.mpr ⟨j, List.mem_range.mpr hj, rfl⟩⟩
  rw [List.length_map] at this
  exact Nat.le_trans this (by decide)
theorem FKeys.put {kvs : List (List Key × V)} (h : FKeys kvs) {i j : Nat} (hi : i < 4) (hj : j < 4) (v : V) : FKeys (putK kvs (fkey i j) v) := by
  refine ⟨?_, fun p hp => ?_⟩
  · cases e : valV kvs (fkey i j) with
    | none => exact nd_putK v h.1 e
    | some y =>
      have hc : (kvs.any fun kv => decide (kv.1 = fkey i j)) = true := by
        unfold valV at e
        cases q : kvs.find? fun kv => decide (kv.1 = fkey i j) with
        | none => rw [q] at e; cases e
        | some z => have q2 := List.find?_some q; exact List.any_eq_true.mpr ⟨z, List.mem_of_find?_eq_some q, q2⟩
      unfold putK
      rw [if_pos hc, List.map_map]
      have : ((fun x : List Key × V => x.1) ∘ fun kv : List Key × V => if kv.1 = fkey i j then (kv.1, v) else kv) = fun x => x.1 := by
        funext x
        show (if x.1 = fkey i j then (x.1, v) else x).1 = x.1
        split <;> rfl
      rw [this]
      exact h.1
  · unfold putK at hp
    split at hp
    · obtain ⟨z, hz, rfl⟩ := List.mem_map.mp hp
      obtain ⟨a, b, ha, hb, e⟩ := h.2 z hz
      refine ⟨a, b, ha, hb, ?_⟩
      split <;> exact e
    · rcases List.mem_append.mp hp with hp | hp
      · exact h.2 p hp
      · have : p = (fkey i j, v) := by simpa using hp
        subst this
        exact ⟨i, j, hi, hj, rfl⟩
theorem fkey_inj {i j i' j' : Int} (h : fkey i j = fkey i' j') : i = i' ∧ j = j' := by
  simp only [fkey, List.cons.injEq, Sum.inl.injEq, and_true] at h
  exact h
def HoldM.setFlow (m : HoldM) (i j : Nat) (f : Fra) : HoldM := { m with flows := fun a b => if a = (i : Int) ∧ b = (j : Int) then some f else m.flows a b }
def HoldM.setSky (m : HoldM) (i : Nat) (s : Fra × Fra × Fra) : HoldM := { m with skies := m.skies.set i s }
def HoldM.setStove (m : HoldM) (i : Nat) (s : Fra × Int × Int × Int) : HoldM := { m with stoves := m.stoves.set i (some s) }
def HoldM.addRoom (m : HoldM) (r : List Fra) : HoldM := { m with rows := m.rows ++ [r], skies := m.skies ++ [((0, 1), (0, 1), (0, 1))], stoves := m.stoves ++ [none] }
def HoldM.new (most cap load : Int) : HoldM := ⟨most, cap, load, [], fun _ _ => none, [], []⟩
/-- a deed on a hold: its own objects and new ones alone are changed, the tuples stay -/
structure Deed (K : PySem.W.Frag) (C : Addr) (H : Hp) (a : Addr) (fp : List Addr) (m' : HoldM) (H' : Hp) (fp' : List Addr) : Prop where
  at_ : HoldAt K C H' a fp' m'
  but : But fp H H'
  ts : TStay K H H'
  own : ∀ b ∈ fp', b ∈ fp ∨ H b = none
theorem FlowIs.ts {K : PySem.W.Frag} {H H' : Hp} (s : TStay K H H') : ∀ {o : Option Fra} {v : Option V}, FlowIs K H o v → FlowIs K H' o v
  | none, none, _ => trivial
  | some f, some v, h => Dn.ts s _ (flat_fr f) h
  | none, some _, h => h
  | some _, none, h => h
theorem rows_ts {K : PySem.W.Frag} {H H' : Hp} {rs : List (List Fra)} {xs : List V} (s : TStay K H H') (h : DnA K H (rs.map rowD) xs) : DnA K H' (rs.map rowD) xs := DnA.ts s _ (fun d hd => by obtain ⟨r, _, rfl⟩ := List.mem_map.mp hd; exact flat_row r) h
theorem skies_ts {K : PySem.W.Frag} {H H' : Hp} {rs : List (Fra × Fra × Fra)} {xs : List V} (s : TStay K H H') (h : DnA K H (rs.map skyD) xs) : DnA K H' (rs.map skyD) xs := DnA.ts s _ (fun d hd => by obtain ⟨r, _, rfl⟩ := List.mem_map.mp hd; exact flat_sky r) h
theorem stoves_ts {K : PySem.W.Frag} {H H' : Hp} {rs : List (Option (Fra × Int × Int × Int))} {xs : List V} (s : TStay K H H') (h : DnA K H (rs.map stoveD) xs) : DnA K H' (rs.map stoveD) xs := DnA.ts s _ (fun d hd => by obtain ⟨r, _, rfl⟩ := List.mem_map.mp hd; exact flat_stove r) h
def risingM (r : List Fra) : Bool := (List.zipWith underM r r.tail).all id
def bandsM (rs : List (List Fra)) : Int := rs.foldl (fun p r => p * ((r.length : Int) - 1)) 1
section
variable (K : PySem.W.Frag) (C : Addr)
def sp_fits : Sp := fun vs H Q _ => ∃ a fp m, ∃ i : Nat, ∃ v1 v2 f g, vs = [.ref a, natV i, v1, v2] ∧ HoldAt K C H a fp m ∧ i < m.rows.length ∧ Dn K H (frD f) v1 ∧ Dn K H (frD g) v2 ∧ OkF 100 f ∧ OkF 100 g ∧
  0 ≤ f.1 ∧ underM (plusM (m.own i) g) f = false ∧ ∀ H', Same H H' → Q .non H'
def sp_put_flow : Sp := fun vs H Q _ => ∃ a fp m, ∃ i j : Nat, ∃ v f, vs = [.ref a, natV i, natV j, v] ∧ HoldAt K C H a fp m ∧ i < m.rows.length ∧ j < m.rows.length ∧ i ≠ j ∧ Dn K H (frD f) v ∧ OkF 100 f ∧
  0 ≤ f.1 ∧ underM (plusM (m.own i) (m.flow i j)) f = false ∧ ∀ H' fp', Deed K C H a fp (m.setFlow i j f) H' fp' → Q .non H'
def sp_put_sky : Sp := fun vs H Q _ => ∃ a fp m, ∃ i : Nat, ∃ v1 v2 v3 f lo hi, vs = [.ref a, natV i, v1, v2, v3] ∧ HoldAt K C H a fp m ∧ i < m.rows.length ∧ Dn K H (frD f) v1 ∧ Dn K H (frD lo) v2 ∧ Dn K H (frD hi) v3 ∧
  OkF 100 f ∧ OkF 100 lo ∧ OkF 100 hi ∧ underM hi lo = false ∧ 0 ≤ f.1 ∧ underM (plusM (m.own i) (m.skyS i)) f = false ∧ ∀ H' fp', Deed K C H a fp (m.setSky i (f, lo, hi)) H' fp' → Q .non H'
def sp_put_stove : Sp := fun vs H Q _ => ∃ a fp m, ∃ i : Nat, ∃ v f, ∃ w st fl : Int, vs = [.ref a, natV i, v, .int w, .int st, .int fl] ∧ HoldAt K C H a fp m ∧ i < m.rows.length ∧ Dn K H (frD f) v ∧ OkF 100 f ∧ 0 ≤ f.1 ∧
  (0 ≤ w ∧ w ≤ 9) ∧ (0 ≤ st ∧ st ≤ 3) ∧ (0 ≤ fl ∧ fl ≤ 3) ∧ ∀ H' fp', Deed K C H a fp (m.setStove i (f, w, st, fl)) H' fp' → Q .non H'
def sp_rising : Sp := fun vs H Q _ => ∃ p xs r, vs = [.ref p] ∧ SqL K H p xs ∧ DnA K H (r.map frD) xs ∧ (∀ f ∈ r, OkF 100 f) ∧ r.length ≤ 7 ∧ ∀ H', Same H H' → Q (.bl (risingM r)) H'
def sp_bands : Sp := fun vs H Q _ => ∃ p xs rs, vs = [.ref p] ∧ SqL K H p xs ∧ DnA K H (rs.map rowD) xs ∧ rs.length ≤ 5 ∧ (∀ r ∈ rs, 1 ≤ r.length ∧ r.length ≤ 7) ∧ Q (.int (bandsM rs)) H
def sp_put_room : Sp := fun vs H Q _ => ∃ a fp m p xs r, vs = [.ref a, .ref p] ∧ HoldAt K C H a fp m ∧ m.rows.length < 4 ∧ SqL K H p xs ∧ DnA K H (r.map frD) xs ∧ (∀ f ∈ r, OkF 100 f) ∧ 2 ≤ r.length ∧ r.length ≤ 7 ∧ risingM r = true ∧ bandsM (m.rows ++ [r]) ≤ 400 ∧
  ∀ H' fp', Deed K C H a fp (m.addRoom r) H' fp' → Q (natV m.rows.length) H'
def sp_init : Sp := fun vs H Q _ => ∃ x dx, ∃ most cap load : Int, vs = [.ref x, .int most, .int cap, .int load] ∧ H x = some (.ins C dx []) ∧ H dx = some (.own x) ∧ (0 ≤ most ∧ most ≤ 4) ∧ (0 ≤ cap ∧ cap ≤ 30) ∧ (0 ≤ load ∧ load ≤ 30) ∧
  ∀ H' fp', Deed K C H x [x, dx] (HoldM.new most cap load) H' fp' → Q .non H'
end
end L2
namespace L2
open PySem PySem.Spec PyProof.Rows Mth
theorem ne_obj {H : Hp} {a b : Addr} {o u : HO} (h : H a = some o) (k : H b = some u) (n : o ≠ u) : a ≠ b := fun e => by
  subst e
  rw [h] at k
  exact n (Option.some.inj k)
theorem But.same {fp : List Addr} {H H' : Hp} (s : Same H H') : But fp H H' := fun b o h _ => s b o h
theorem But.upd {fp : List Addr} {H H' : Hp} {p : Addr} {o : HO} (b : But fp H H') (hp : p ∈ fp) : But fp H (upd H' p o) := fun c u h n => by
  rw [upd_ne (fun e => n (by rw [e]; exact hp))]
  exact b c u h n
section
variable {K : PySem.W.Frag} {C : Addr} {H H1 : Hp} {a : Addr} {fp : List Addr} {m : HoldM}
end
end L2
namespace L2
open PySem PySem.Spec PyProof.Rows Mth
theorem Same.put {H H' : Hp} {D : Addr} {o : HO} (s : Same H H') (h : H D = none) : Same H (upd H' D o) := fun b u e => by
  rw [upd_ne (ne_of_none e h)]
  exact s b u e
end L2
namespace L2
open PySem PySem.Spec PyProof.Rows Mth
section
variable {K : PySem.W.Frag} {C : Addr} {H H1 : Hp} {a : Addr} {fp : List Addr} {m : HoldM}
end
end L2
namespace L2
open PySem PySem.Spec PyProof.Rows Mth
/-- but for x all stays, and x is an instance -/
structure ButX (K : PySem.W.Frag) (C x dx : Addr) (H H' : Hp) (fs : List (Str × V)) : Prop where
  st : ∀ b o, H b = some o → b ≠ x → H' b = some o
  ts : TStay K H H'
  at_ : H' x = some (.ins C dx fs)
section
variable {K : PySem.W.Frag} {C x dx : Addr} {H H' : Hp} {fs fs' : List (Str × V)}
theorem ButX.start (h : H x = some (.ins C dx fs)) : ButX K C x dx H H fs := ⟨fun _ _ h _ => h, TStay.refl _, h⟩
theorem ButX.put (B : ButX K C x dx H H' fs) : ButX K C x dx H (upd H' x (.ins C dx fs')) fs' := ⟨fun b o h n => by rw [upd_ne n]; exact B.st b o h n, B.ts.trans (ts_upd B.at_ rfl), upd_same⟩
theorem ButX.new {p : Addr} {o : HO} (B : ButX K C x dx H H' fs) (hp : H' p = none) : ButX K C x dx H (upd H' p o) fs := ⟨fun b u h n => by rw [upd_ne (ne_of_none (B.st b u h n) hp)]; exact B.st b u h n, B.ts.trans (Same.ts (same_upd hp)), by rw [upd_ne (ne_of_none B.at_ hp)]; exact B.at_⟩
theorem ButX.keep {b : Addr} {o u : HO} (B : ButX K C x dx H H' fs) (h : H' b = some o) (n : b ≠ x) : (upd H' x u) b = some o := by rw [upd_ne n]; exact h
theorem ButX.none {p : Addr} (B : ButX K C x dx H H' fs) (hp : H' p = none) : H p = Option.none := by
  cases e : H p with
  | none => rfl
  | some o =>
    by_cases q : p = x
    · rw [q, B.at_] at hp; cases hp
    · rw [B.st p o e q] at hp; cases hp
theorem ButX.ne {p : Addr} (B : ButX K C x dx H H' fs) (hp : H' p = Option.none) : p ≠ x := fun q => by rw [q, B.at_] at hp; cases hp
end
theorem lt1000 {n : Nat} (h : Nat.ble (n + 1) 1000 = true) : n < 1000 := Nat.le_of_ble_eq_true h
end L2
namespace L2
open PySem PySem.Spec PyProof.Rows Mth
def hpair (i j : Int) : Int := reduceHash (Builtin.Tuple.tupleHashOf [hashInt i, hashInt j])
theorem hpair_fin : ∀ i j i' j' : Fin 4, hpair (i.val : Int) (j.val : Int) = hpair (i'.val : Int) (j'.val : Int) → i = i' ∧ j = j' := by decide +kernel
theorem hpair_inj (i : Nat) (hi : i < 4) (j : Nat) (hj : j < 4) (i' : Nat) (hi' : i' < 4) (j' : Nat) (hj' : j' < 4) (h : hpair (i : Int) (j : Int) = hpair (i' : Int) (j' : Int)) : i = i' ∧ j = j' := by
  obtain ⟨a, b⟩ := hpair_fin ⟨i, hi⟩ ⟨j, hj⟩ ⟨i', hi'⟩ ⟨j', hj'⟩ h
  exact ⟨congrArg Fin.val a, congrArg Fin.val b⟩
theorem FKeys.hash {P : Program} {w : World} {kvs : List (List Key × V)} (h : FKeys kvs) : (kvs.map fun kv => tupleKeyHash (mixKind P w) kv.1).Nodup := by
  have h1 := List.pairwise_map.mp h.1
  refine List.pairwise_map.mpr (h1.imp_of_mem fun {a b} ha hb n e => ?_)
  obtain ⟨i, j, hi, hj, e1⟩ := h.2 a ha
  obtain ⟨i', j', hi', hj', e2⟩ := h.2 b hb
  rw [e1, e2] at e
  obtain ⟨z1, z2⟩ := hpair_inj i hi j hj i' hi' j' hj' e
  exact n (by rw [e1, e2, z1, z2])
def optV : Option Int → V
  | none => .non
  | some n => .int n
def HoldM.with (m : HoldM) (x y z : Option Int) : HoldM := { m with most := x.getD m.most, cap := y.getD m.cap, load := z.getD m.load }
def HoldM.Bds (m : HoldM) : Prop := (0 ≤ m.most ∧ m.most ≤ 4) ∧ (0 ≤ m.cap ∧ m.cap ≤ 30) ∧ (0 ≤ m.load ∧ m.load ≤ 30)
def sp_like (K : PySem.W.Frag) (C : Addr) : Sp := fun vs H Q _ => ∃ a fp m x y z, vs = [.ref a, optV x, optV y, optV z] ∧ HoldAt K C H a fp m ∧ (m.with x y z).Bds ∧
  ∀ b H' fp', Same H H' → HoldAt K C H' b fp' (m.with x y z) → (∀ c ∈ fp', H c = none) → Q (.ref b) H'
end L2
namespace L2
open PySem PySem.Spec PyProof.Rows Mth
theorem atI_ints {ns : List Int} {r : Int} (h0 : 0 ≤ r) (h1 : r < ns.length) : ∃ z ∈ ns, atI (ns.map V.int) r = some (.int z) := by
  have hl : r.toNat < ns.length := by omega
  have e : (ns.map V.int)[r.toNat]? = some (.int (ns[r.toNat]'hl)) := by simp [hl]
  have e2 := atI_nat e
  rw [Int.toNat_of_nonneg h0] at e2
  exact ⟨_, List.getElem_mem hl, e2⟩
def sp_pick : Sp := fun vs H Q _ => ∃ c k n : Int, vs = [.int c, .int k, .int n] ∧ 0 ≤ k ∧ k ≤ 1000 ∧ 0 < n ∧ ∀ r, 0 ≤ r → r < n → Q (.int r) H
structure ScM where
  a : Int
  b : Int
  t : Int
  d : Int
structure ScM.Ok (s : ScM) : Prop where
  a0 : 1 ≤ s.a
  a1 : s.a ≤ 10 ^ 9
  b0 : 1 ≤ s.b
  b1 : s.b ≤ 10 ^ 9
  t0 : -(10 ^ 9) ≤ s.t
  t1 : s.t ≤ 10 ^ 9
  d0 : 1 ≤ s.d
  d1 : s.d ≤ 10 ^ 9
abbrev ScM.vs (s : ScM) : List V := [.int s.a, .int s.b, .int s.t, .int s.d]
def sp_scale : Sp := fun vs H Q _ => ∃ c : Int, vs = [.int c] ∧ ∀ p H' (s : ScM), s.Ok → Same H H' → H' p = some (.tup s.vs) → Q (.ref p) H'
/-- num by parts, scaled and moved -/
def warmT (num parts : Int) (s : ScM) : Int := num * s.a * s.d + parts * s.t * s.b
def warmB (parts : Int) (s : ScM) : Int := parts * s.b * s.d
def warmM (num parts : Int) (s : ScM) : Fra := nf (warmT num parts s) (warmB parts s)
def sp_warm (K : PySem.W.Frag) : Sp := fun vs H Q _ => ∃ num parts p, ∃ s : ScM, vs = [.int num, .int parts, .ref p] ∧ SqT K H p s.vs ∧ s.Ok ∧ Bd 30 num ∧ 0 < parts ∧ Bd 30 parts ∧
  ∀ q H', Same H H' → H' q = some (.tup [.int (warmM num parts s).1, .int (warmM num parts s).2]) → Q (.ref q) H'
theorem bd30 {x : Int} (h0 : -(10 ^ 9) ≤ x) (h1 : x ≤ 10 ^ 9) : Bd 30 x := by show x.natAbs < 2 ^ 30; omega
section
variable {s : ScM}
theorem ScM.Ok.bd (h : s.Ok) : Bd 30 s.d := bd30 (by have := h.d0; omega) h.d1
end
abbrev stoveI (z : Int × Int × Int × Int) : List V := [.int z.1, .int z.2.1, .int z.2.2.1, .int z.2.2.2]
structure StI (z : Int × Int × Int × Int) : Prop where
  h : 0 ≤ z.1 ∧ z.1 ≤ 25
  w : 0 ≤ z.2.1 ∧ z.2.1 ≤ 9
  s : 0 ≤ z.2.2.1 ∧ z.2.2.1 ≤ 3
  f : 0 ≤ z.2.2.2 ∧ z.2.2.2 ≤ 3
def sp_stove_by : Sp := fun vs H Q _ => ∃ a b c : Int, ∃ i : Nat, vs = [.int a, .int b, .int c, natV i] ∧ i < 4 ∧ Q .non H ∧ ∀ p z, StI z → H p = none → Q (.ref p) (upd H p (.tup (stoveI z)))
end L2
namespace L2
open PySem PySem.Spec PyProof.Rows Mth
def cutH (H : Hp) (L : List Addr) : Hp := fun b => if b ∈ L then none else H b
section
variable {K : PySem.W.Frag} {H H' : Hp} {L : List Addr} {a : Addr} {o : HO}
theorem cut_upd (h : a ∈ L) : cutH (upd H a o) L = cutH H L := by
  funext b
  unfold cutH
  split
  · rfl
  · rename_i n
    rw [upd_ne (fun e => n (by rw [e]; exact h))]
theorem same_cut (s : Same H H') : Same (cutH H L) (cutH H' L) := fun b u h => by
  unfold cutH at h ⊢
  split at h
  · cases h
  · rename_i n
    rw [if_neg n]
    exact s b u h
/-- but for L all stays -/
theorem But.cut (b : But L H H') : Same (cutH H L) (cutH H' L) := fun c u h => by
  unfold cutH at h ⊢
  split at h
  · cases h
  · rename_i n
    rw [if_neg n]
    exact b c u h n
/-- none of L is a tuple -/
def NoTups (H : Hp) (L : List Addr) : Prop := ∀ b ∈ L, ∃ o, H b = some o ∧ noTup o = true
end
structure ToldM where
  marks : List (List Int)
  sky : List (Int × Int × Int)
  stoves : List (Option (Int × Int × Int × Int))
  flows : Nat → Nat → Option Int
  scale : ScM
  bounds : Int × Int × Int
abbrev skyI (z : Int × Int × Int) : PyData := .tuple [.int z.1, .int z.2.1, .int z.2.2]
abbrev stI : Option (Int × Int × Int × Int) → PyData
  | none => .none
  | some z => .tuple [.int z.1, .int z.2.1, .int z.2.2.1, .int z.2.2.2]
abbrev rowI (l : List Int) : PyData := .list (l.map PyData.int)
def toldKV (pm ps pt pf psc pb : Addr) : List (Key × V) :=
  [(.inr "marks", .ref pm), (.inr "sky", .ref ps), (.inr "stoves", .ref pt), (.inr "flows", .ref pf), (.inr "scale", .ref psc), (.inr "bounds", .ref pb)]
section
variable (pm ps pt pf psc pb : Addr)
end
/-- the objects of what is told -/
structure TC (K : PySem.W.Frag) (H : Hp) (p pm ps pt pf psc pb : Addr) (vm vs vt : List V) (kvs : List (List Key × V)) (m : ToldM) : Prop where
  hp : H p = some (.dK (toldKV pm ps pt pf psc pb))
  hpm : H pm = some (.lst vm)
  hps : H ps = some (.lst vs)
  hpt : H pt = some (.lst vt)
  hpf : H pf = some (.dT kvs)
  n1 : pm ≠ ps
  n2 : pm ≠ pt
  n3 : ps ≠ pt
  dm : DnA K (cutH H [p, pm, ps, pt, pf]) (m.marks.map rowI) vm
  ds : DnA K (cutH H [p, pm, ps, pt, pf]) (m.sky.map skyI) vs
  dt : DnA K (cutH H [p, pm, ps, pt, pf]) (m.stoves.map stI) vt
  df : ∀ i j : Nat, i < 4 → j < 4 → valV kvs (fkey i j) = (m.flows i j).map V.int
  fk : FKeys kvs
  sc : SqT K (cutH H [p, pm, ps, pt, pf]) psc m.scale.vs
  bo : SqT K (cutH H [p, pm, ps, pt, pf]) pb [.int m.bounds.1, .int m.bounds.2.1, .int m.bounds.2.2]
section
variable {K : PySem.W.Frag} {H H' : Hp} {p pm ps pt pf psc pb : Addr} {vm vs vt : List V} {kvs : List (List Key × V)} {m : ToldM}
theorem TC.same (c : TC K H p pm ps pt pf psc pb vm vs vt kvs m) (s : Same H H') : TC K H' p pm ps pt pf psc pb vm vs vt kvs m :=
  ⟨s _ _ c.hp, s _ _ c.hpm, s _ _ c.hps, s _ _ c.hpt, s _ _ c.hpf, c.n1, c.n2, c.n3, DnA.same (same_cut s) _ c.dm, DnA.same (same_cut s) _ c.ds, DnA.same (same_cut s) _ c.dt, c.df, c.fk, (same_cut s).tup c.sc, (same_cut s).tup c.bo⟩
def ToldM.setFlow (m : ToldM) (i j : Nat) (k : Int) : ToldM := { m with flows := fun a b => if a = i ∧ b = j then some k else m.flows a b }
theorem TC.setFlow (c : TC K H p pm ps pt pf psc pb vm vs vt kvs m) {i j : Nat} {k : Int} (hi : i < 4) (hj : j < 4) :
    TC K (upd H pf (.dT (putK kvs (fkey i j) (.int k)))) p pm ps pt pf psc pb vm vs vt (putK kvs (fkey i j) (.int k)) (m.setFlow i j k) := by
  have e : cutH (upd H pf (.dT (putK kvs (fkey i j) (.int k)))) [p, pm, ps, pt, pf] = cutH H [p, pm, ps, pt, pf] := cut_upd (by simp)
  refine ⟨by rw [upd_ne (ne_obj c.hp c.hpf nofun)]; exact c.hp, by rw [upd_ne (ne_obj c.hpm c.hpf nofun)]; exact c.hpm, by rw [upd_ne (ne_obj c.hps c.hpf nofun)]; exact c.hps, by rw [upd_ne (ne_obj c.hpt c.hpf nofun)]; exact c.hpt, upd_same, c.n1, c.n2, c.n3, by rw [e]; exact c.dm, by rw [e]; exact c.ds, by rw [e]; exact c.dt, fun a b ha hb => ?_, c.fk.put hi hj _, by rw [e]; exact c.sc, by rw [e]; exact c.bo⟩
  rw [valV_put]
  show _ = (if a = i ∧ b = j then some k else m.flows a b).map V.int
  by_cases z : a = i ∧ b = j
  · rw [if_pos z, if_pos (by rw [z.1, z.2])]; rfl
  · rw [if_neg z, if_neg (fun y => z (by have := fkey_inj y; omega))]
    exact c.df a b ha hb
end
def risingI (l : List Int) : Prop := ∀ i x y, l[i]? = some x → l[i + 1]? = some y → x < y
structure RowOk (n : Nat) (l : List Int) : Prop where
  two : 2 ≤ l.length
  most : l.length ≤ if n ≤ 2 then 7 else 5
  ris : risingI l
  bd : ∀ x ∈ l, -200 ≤ x ∧ x ≤ 200
structure ToldM.Ok (n i : Nat) (m : ToldM) : Prop where
  lm : m.marks.length = i
  ls : m.sky.length = i
  lt : m.stoves.length = i
  rows : ∀ l ∈ m.marks, RowOk n l
  sky : ∀ z ∈ m.sky, (0 ≤ z.1 ∧ z.1 ≤ 3) ∧ (-30 ≤ z.2.1 ∧ z.2.1 ≤ 30) ∧ z.2.1 ≤ z.2.2 ∧ z.2.2 ≤ z.2.1 + 30
  stoves : ∀ z, some z ∈ m.stoves → StI z
  flows : ∀ a b, a < i → b < n → a ≠ b → ∃ k, m.flows a b = some k ∧ 0 ≤ k ∧ k ≤ 3
  scale : m.scale.Ok
  bounds : (0 ≤ m.bounds.1 ∧ m.bounds.1 ≤ 4) ∧ (0 ≤ m.bounds.2.1 ∧ m.bounds.2.1 ≤ 30) ∧ (0 ≤ m.bounds.2.2 ∧ m.bounds.2.2 ≤ 30)
def ToldAt (K : PySem.W.Frag) (H : Hp) (p : Addr) (m : ToldM) : Prop := ∃ pm ps pt pf psc pb vm vs vt kvs, TC K H p pm ps pt pf psc pb vm vs vt kvs m
theorem ToldAt.same {K : PySem.W.Frag} {H H' : Hp} {p : Addr} {m : ToldM} (h : ToldAt K H p m) (s : Same H H') : ToldAt K H' p m := by
  obtain ⟨pm, ps, pt, pf, psc, pb, vm, vs, vt, kvs, c⟩ := h
  exact ⟨pm, ps, pt, pf, psc, pb, vm, vs, vt, kvs, c.same s⟩
def sp_drawn (K : PySem.W.Frag) : Sp := fun vs H Q _ => ∃ a, ∃ ns : List Int, vs = [.ref a] ∧ SqL K H a (ns.map V.int) ∧ ∀ p H' m n, 1 ≤ n → n ≤ 4 → ToldM.Ok n n m → Same H H' → ToldAt K H' p m → Q (.ref p) H'
end L2
namespace L2
open PySem PySem.Spec PyProof.Rows Mth
section
variable {H : Hp} {p pm ps pt pf psc pb : Addr}
end
theorem ToldM.Ok.marks {n i : Nat} {m : ToldM} {l : List Int} {z : Int × Int × Int} {t : Option (Int × Int × Int × Int)} {fl : Nat → Nat → Option Int} (h : m.Ok n i) (hl : RowOk n l)
    (hz : (0 ≤ z.1 ∧ z.1 ≤ 3) ∧ (-30 ≤ z.2.1 ∧ z.2.1 ≤ 30) ∧ z.2.1 ≤ z.2.2 ∧ z.2.2 ≤ z.2.1 + 30) (ht : ∀ y, t = some y → StI y) (hf : ∀ a b, a < i + 1 → b < n → a ≠ b → ∃ k, fl a b = some k ∧ 0 ≤ k ∧ k ≤ 3) :
    ToldM.Ok n (i + 1) { m with marks := m.marks ++ [l], sky := m.sky ++ [z], stoves := m.stoves ++ [t], flows := fl } := by
  refine ⟨?_, ?_, ?_, fun x hx => ?_, fun x hx => ?_, fun x hx => ?_, hf, h.scale, h.bounds⟩
  · show (m.marks ++ [l]).length = _
    rw [List.length_append, h.lm]; rfl
  · show (m.sky ++ [z]).length = _
    rw [List.length_append, h.ls]; rfl
  · show (m.stoves ++ [t]).length = _
    rw [List.length_append, h.lt]; rfl
  · rcases List.mem_append.mp hx with q | q
    · exact h.rows x q
    · rw [List.mem_singleton.mp q]; exact hl
  · rcases List.mem_append.mp hx with q | q
    · exact h.sky x q
    · rw [List.mem_singleton.mp q]; exact hz
  · rcases List.mem_append.mp hx with q | q
    · exact h.stoves x q
    · exact ht x (List.mem_singleton.mp q).symm
end L2
namespace L2
open PySem PySem.Spec PyProof.Rows Mth
/-- a stove told, or none -/
def StV (H : Hp) (t : Option (Int × Int × Int × Int)) (x : V) (H' : Hp) : Prop := (t = none ∧ x = .non ∧ H' = H) ∨ ∃ p z, t = some z ∧ x = .ref p ∧ H p = none ∧ StI z ∧ H' = upd H p (.tup (stoveI z))
theorem StV.same {H H' : Hp} {t : Option (Int × Int × Int × Int)} {x : V} (h : StV H t x H') : Same H H' := by
  rcases h with ⟨_, _, rfl⟩ | ⟨p, z, _, _, hp, _, rfl⟩
  · exact Same.refl _
  · exact same_upd hp
theorem StV.ok {H H' : Hp} {t : Option (Int × Int × Int × Int)} {x : V} (h : StV H t x H') : ∀ y, t = some y → StI y := by
  rcases h with ⟨rfl, _, _⟩ | ⟨p, z, rfl, _, hp, hz, _⟩
  · exact nofun
  · intro y e; cases e; exact hz
end L2
namespace L2
open PySem PySem.Spec PyProof.Rows Mth
end L2
namespace Mth
/-- f is k by W -/
def Ov (W k : Int) (f : Int × Int) : Prop := f.1 * W = k * f.2 ∧ 0 < f.2
theorem Ov.nf {W k : Int} (h : 0 < W) : Ov W k (nf k W) := by
  have F := nf_fr (t := k) h
  exact ⟨F.cross, F.pos⟩
theorem ov_one {W : Int} : Ov W W (1, 1) := ⟨by show 1 * W = W * 1; omega, by decide⟩
theorem ov_zero {W : Int} : Ov W 0 (0, 1) := ⟨by show 0 * W = 0 * 1; omega, by decide⟩
theorem Ov.minus {W a b : Int} {x y : Int × Int} (h : Ov W a x) (k : Ov W b y) : Ov W (a - b) (minusM x y) := by
  have F := nf_fr (t := x.1 * y.2 - y.1 * x.2) (b := x.2 * y.2) (Int.mul_pos h.2 k.2)
  refine ⟨?_, F.pos⟩
  have c := F.cross
  have hx := h.1
  have hy := k.1
  have pp : 0 < x.2 * y.2 := Int.mul_pos h.2 k.2
  show (Mth.nf (x.1 * y.2 - y.1 * x.2) (x.2 * y.2)).1 * W = (a - b) * (Mth.nf (x.1 * y.2 - y.1 * x.2) (x.2 * y.2)).2
  generalize (Mth.nf (x.1 * y.2 - y.1 * x.2) (x.2 * y.2)).1 = q at c ⊢
  generalize (Mth.nf (x.1 * y.2 - y.1 * x.2) (x.2 * y.2)).2 = r at c ⊢
  refine Int.eq_of_mul_eq_mul_right (Int.ne_of_gt pp) ?_
  have e1 : x.1 * y.2 * W = a * (x.2 * y.2) := by rw [Int.mul_right_comm, hx, Int.mul_assoc]
  have e2 : y.1 * x.2 * W = b * (x.2 * y.2) := by rw [Int.mul_right_comm, hy, Int.mul_assoc, Int.mul_comm y.2]
  calc q * W * (x.2 * y.2) = (q * (x.2 * y.2)) * W := by rw [Int.mul_right_comm]
    _ = (x.1 * y.2 - y.1 * x.2) * r * W := by rw [c]
    _ = ((x.1 * y.2 - y.1 * x.2) * W) * r := by rw [Int.mul_right_comm]
    _ = (a * (x.2 * y.2) - b * (x.2 * y.2)) * r := by rw [Int.sub_mul, e1, e2]
    _ = (a - b) * r * (x.2 * y.2) := by rw [← Int.sub_mul, Int.mul_right_comm]
theorem Ov.under {W a b : Int} {x y : Int × Int} (hW : 0 < W) (h : Ov W a x) (k : Ov W b y) : underM x y = decide (a < b) := by
  unfold underM
  refine decide_eq_decide.mpr ?_
  have pp : 0 < x.2 * y.2 := Int.mul_pos h.2 k.2
  have e1 : x.1 * y.2 * W = a * (x.2 * y.2) := by rw [Int.mul_right_comm, h.1, Int.mul_assoc]
  have e2 : y.1 * x.2 * W = b * (x.2 * y.2) := by rw [Int.mul_right_comm, k.1, Int.mul_assoc, Int.mul_comm y.2]
  constructor
  · intro l
    have := Int.mul_lt_mul_of_pos_right l hW
    rw [e1, e2] at this
    exact Int.lt_of_mul_lt_mul_right this (Int.le_of_lt pp)
  · intro l
    have := Int.mul_lt_mul_of_pos_right l pp
    rw [← e1, ← e2] at this
    exact Int.lt_of_mul_lt_mul_right this (Int.le_of_lt hW)
end Mth
namespace L2
open PySem PySem.Spec PyProof.Rows Mth
def sumF (fl : Nat → Nat → Int) (i : Nat) : Nat → Int
  | 0 => 0
  | t + 1 => sumF fl i t + fl i t
/-- the shares of a hold, over W -/
structure ShOk (W : Int) (sk : Nat → Int) (fl : Nat → Nat → Int) (m : HoldM) : Prop where
  sky : ∀ i, Ov W (sk i) (m.skyS i)
  flow : ∀ i j, Ov W (fl i j) (m.flow i j)
theorem ShOk.ownTo {W : Int} {sk : Nat → Int} {fl : Nat → Nat → Int} {m : HoldM} (h : ShOk W sk fl m) (i : Nat) : ∀ t, Ov W (W - sk i - sumF fl i t) (m.ownTo i t)
  | 0 => by
    have := (ov_one (W := W)).minus (h.sky i)
    have e : W - sk i - sumF fl i 0 = W - sk i := by show W - sk i - 0 = _; omega
    rw [e]
    exact this
  | t + 1 => by
    rw [HoldM.ownTo_succ]
    have := (h.ownTo i t).minus (h.flow i t)
    have e : W - sk i - sumF fl i (t + 1) = W - sk i - sumF fl i t - fl i t := by show W - sk i - (sumF fl i t + fl i t) = _; omega
    rw [e]
    exact this
theorem ShOk.own {W : Int} {sk : Nat → Int} {fl : Nat → Nat → Int} {m : HoldM} (h : ShOk W sk fl m) (i : Nat) : Ov W (W - sk i - sumF fl i m.rows.length) (m.own i) := h.ownTo i _
theorem flow_setFlow {m : HoldM} {i j a b : Nat} {f : Fra} : (m.setFlow i j f).flow a b = if a = i ∧ b = j then f else m.flow a b := by
  unfold HoldM.flow HoldM.setFlow
  by_cases e : a = i ∧ b = j
  · rw [if_pos e]
    show ((if (a : Int) = (i : Int) ∧ (b : Int) = (j : Int) then some f else m.flows a b)).getD (0, 1) = f
    rw [if_pos (by omega)]; rfl
  · rw [if_neg e]
    show ((if (a : Int) = (i : Int) ∧ (b : Int) = (j : Int) then some f else m.flows a b)).getD (0, 1) = _
    rw [if_neg (by omega)]
theorem ShOk.setFlow {W k : Int} {sk : Nat → Int} {fl : Nat → Nat → Int} {m : HoldM} {f : Fra} {i j : Nat} (h : ShOk W sk fl m) (hf : Ov W k f) : ShOk W sk (fun a b => if a = i ∧ b = j then k else fl a b) (m.setFlow i j f) := by
  refine ⟨fun a => h.sky a, fun a b => ?_⟩
  rw [flow_setFlow]
  by_cases e : a = i ∧ b = j
  · simp only [if_pos e]; exact hf
  · simp only [if_neg e]; exact h.flow a b
theorem skyS_setSky {m : HoldM} {i a : Nat} {z : Fra × Fra × Fra} (hi : i < m.skies.length) : (m.setSky i z).skyS a = if a = i then z.1 else m.skyS a := by
  unfold HoldM.skyS HoldM.setSky
  by_cases e : a = i
  · subst e
    rw [if_pos rfl]
    show (((m.skies.set a z)[a]?).map (·.1)).getD (0, 1) = _
    rw [List.getElem?_set_self hi]; rfl
  · rw [if_neg e]
    show (((m.skies.set i z)[a]?).map (·.1)).getD (0, 1) = _
    rw [List.getElem?_set_ne (fun x => e x.symm)]
theorem ShOk.setSky {W k : Int} {sk : Nat → Int} {fl : Nat → Nat → Int} {m : HoldM} {z : Fra × Fra × Fra} {i : Nat} (h : ShOk W sk fl m) (hi : i < m.skies.length) (hf : Ov W k z.1) : ShOk W (fun a => if a = i then k else sk a) fl (m.setSky i z) := by
  refine ⟨fun a => ?_, fun a b => h.flow a b⟩
  rw [skyS_setSky hi]
  by_cases e : a = i
  · simp only [if_pos e]; exact hf
  · simp only [if_neg e]; exact h.sky a
theorem ShOk.new {W : Int} {most cap load : Int} : ShOk W (fun _ => 0) (fun _ _ => 0) (HoldM.new most cap load) := ⟨fun _ => ov_zero, fun _ _ => ov_zero⟩
theorem ShOk.addRoom {W : Int} {sk : Nat → Int} {fl : Nat → Nat → Int} {m : HoldM} {r : List Fra} (h : ShOk W sk fl m) (hs : ∀ i, m.skies.length ≤ i → sk i = 0) : ShOk W sk fl (m.addRoom r) := by
  refine ⟨fun a => ?_, fun a b => h.flow a b⟩
  by_cases e : a < m.skies.length
  · have : (m.addRoom r).skyS a = m.skyS a := by
      show (((m.skies ++ [((0, 1), (0, 1), (0, 1))])[a]?).map (·.1)).getD (0, 1) = ((m.skies[a]?).map (·.1)).getD (0, 1)
      rw [List.getElem?_append_left e]
    rw [this]
    exact h.sky a
  · have : (m.addRoom r).skyS a = (0, 1) := by
      show (((m.skies ++ [((0, 1), (0, 1), (0, 1))])[a]?).map (·.1)).getD (0, 1) = (0, 1)
      rw [List.getElem?_append_right (by omega)]
      cases q : a - m.skies.length with
      | zero => rfl
      | succ n => rfl
    rw [this, hs a (by omega)]
    exact ov_zero
theorem ShOk.setStove {W : Int} {sk : Nat → Int} {fl : Nat → Nat → Int} {m : HoldM} {i : Nat} {z : Fra × Int × Int × Int} (h : ShOk W sk fl m) : ShOk W sk fl (m.setStove i z) := ⟨fun a => h.sky a, fun a b => h.flow a b⟩
end L2
namespace L2
open PySem PySem.Spec PyProof.Rows Mth
def ToldM.row (tm : ToldM) (l : List Int) : List Fra := l.map fun x => warmM x 1 tm.scale
def ToldM.m1 (tm : ToldM) (k : Nat) : HoldM := ((tm.marks.take k).map tm.row).foldl HoldM.addRoom (HoldM.new tm.bounds.1 tm.bounds.2.1 tm.bounds.2.2)
def ToldM.skyAt (tm : ToldM) (z : Int × Int × Int) : Fra × Fra × Fra := (nf z.1 12, warmM z.2.1 1 tm.scale, warmM z.2.2 1 tm.scale)
def ToldM.stoveAt (tm : ToldM) (z : Int × Int × Int × Int) : Fra × Int × Int × Int := (nf (z.1 * tm.scale.a) tm.scale.b, z.2.1, z.2.2.1, z.2.2.2)
def ToldM.skyStep (tm : ToldM) (m : HoldM) (i : Nat) : HoldM := match tm.sky[i]? with | some z => m.setSky i (tm.skyAt z) | none => m
def ToldM.stoveStep (tm : ToldM) (m : HoldM) (i : Nat) : HoldM := match tm.stoves[i]? with | some (some z) => m.setStove i (tm.stoveAt z) | _ => m
def ToldM.flowStep (tm : ToldM) (i : Nat) (m : HoldM) (j : Nat) : HoldM := if j = i then m else match tm.flows i j with | some k => m.setFlow i j (nf k 12) | none => m
def ToldM.flowsTo (tm : ToldM) (i : Nat) (m : HoldM) (j : Nat) : HoldM := (List.range j).foldl (tm.flowStep i) m
def ToldM.roomStep (tm : ToldM) (n : Nat) (m : HoldM) (i : Nat) : HoldM := tm.flowsTo i (tm.stoveStep (tm.skyStep m i) i) n
def ToldM.m2 (tm : ToldM) (n k : Nat) : HoldM := (List.range k).foldl (tm.roomStep n) (tm.m1 n)
theorem Deed.keep {K : PySem.W.Frag} {C : Addr} {H0 H H' : Hp} {a : Addr} {fp fp' : List Addr} {m' : HoldM} (S : Same H0 H) (n : ∀ b ∈ fp, H0 b = none) (D : Deed K C H a fp m' H' fp') : Same H0 H' ∧ ∀ b ∈ fp', H0 b = none := by
  refine ⟨fun b o h => D.but b o (S b o h) fun q => ?_, fun b hb => ?_⟩
  · rw [n b q] at h; cases h
  · rcases D.own b hb with q | q
    · exact n b q
    · exact S.free q
/-- rows and bounds stay -/
structure Kp (m m' : HoldM) : Prop where
  rows : m'.rows = m.rows
  most : m'.most = m.most
  cap : m'.cap = m.cap
  load : m'.load = m.load
theorem Kp.refl (m : HoldM) : Kp m m := ⟨rfl, rfl, rfl, rfl⟩
theorem Kp.trans {m m1 m2 : HoldM} (a : Kp m m1) (b : Kp m1 m2) : Kp m m2 := ⟨b.rows.trans a.rows, b.most.trans a.most, b.cap.trans a.cap, b.load.trans a.load⟩
end L2
namespace L2
open PySem PySem.Spec PyProof.Rows Mth
end L2
namespace L2
open PySem PySem.Spec PyProof.Rows Mth
structure SF (sk : Nat → Int) (fl : Nat → Nat → Int) : Prop where
  hsk : ∀ a, 0 ≤ sk a ∧ sk a ≤ 3
  hfl : ∀ a b, 0 ≤ fl a b ∧ fl a b ≤ 3
  hno : ∀ a, fl a a = 0
/-- a hold whose shares are twelfths, at most three each -/
def Tw (m : HoldM) : Prop := ∃ sk fl, ShOk 12 sk fl m ∧ SF sk fl
theorem Tw.sky {m : HoldM} {i : Nat} {z : Fra × Fra × Fra} {k : Int} (h : Tw m) (hi : i < m.skies.length) (hf : Ov 12 k z.1) (k0 : 0 ≤ k) (k3 : k ≤ 3) : Tw (m.setSky i z) := by
  obtain ⟨sk, fl, S, F⟩ := h
  refine ⟨_, _, S.setSky hi hf, ⟨fun a => ?_, F.hfl, F.hno⟩⟩
  show 0 ≤ (if a = i then k else sk a) ∧ (if a = i then k else sk a) ≤ 3
  split
  · exact ⟨k0, k3⟩
  · exact F.hsk a
theorem Tw.flow {m : HoldM} {i j : Nat} {f : Fra} {k : Int} (h : Tw m) (hij : i ≠ j) (hf : Ov 12 k f) (k0 : 0 ≤ k) (k3 : k ≤ 3) : Tw (m.setFlow i j f) := by
  obtain ⟨sk, fl, S, F⟩ := h
  refine ⟨_, _, S.setFlow hf, ⟨F.hsk, fun a b => ?_, fun a => ?_⟩⟩
  · show 0 ≤ (if a = i ∧ b = j then k else fl a b) ∧ (if a = i ∧ b = j then k else fl a b) ≤ 3
    split
    · exact ⟨k0, k3⟩
    · exact F.hfl a b
  · show (if a = i ∧ a = j then k else fl a a) = 0
    rw [if_neg (by omega)]
    exact F.hno a
theorem Tw.stove {m : HoldM} {i : Nat} {z : Fra × Int × Int × Int} (h : Tw m) : Tw (m.setStove i z) := by
  obtain ⟨sk, fl, S, F⟩ := h
  exact ⟨sk, fl, S.setStove, F⟩
end L2
namespace L2
open PySem PySem.Spec PyProof.Rows Mth
def seenRoom (m : HoldM) (i : Nat) : List PyData :=
  [.tuple [.list (((m.rows[i]?).getD []).map frD), skyD ((m.skies[i]?).getD ((0, 1), (0, 1), (0, 1))), stoveD ((m.stoves[i]?).getD none)], .list ((List.range m.rows.length).map fun j => frD (m.share i j))]
def seenTo (m : HoldM) (k : Nat) : List PyData := .int m.rows.length :: (List.range k).flatMap (seenRoom m)
def seenD (m : HoldM) : PyData := .list (seenTo m m.rows.length)
/-- what is seen, told by objects that are none of L -/
def sp_seen (K : PySem.W.Frag) (C : Addr) : Sp := fun vs H Q _ => ∃ a fp m L, vs = [.ref a] ∧ HoldAt K C H a fp m ∧ NoTups H L ∧ ∀ v H', Same H H' → Dn K (cutH H' L) (seenD m) v → Q v H'
def sp_bounds (K : PySem.W.Frag) (C : Addr) : Sp := fun vs H Q _ => ∃ a fp m, vs = [.ref a] ∧ HoldAt K C H a fp m ∧ ∀ p, H p = none → Q (.ref p) (upd H p (.tup [.int m.most, .int m.cap, .int m.load]))
end L2
namespace L2
open PySem PySem.Spec PyProof.Rows Mth
theorem NoTups.same {H H' : Hp} {L : List Addr} (h : NoTups H L) (s : Same H H') : NoTups H' L := fun b hb => by
  obtain ⟨o, e, n⟩ := h b hb
  exact ⟨o, s _ _ e, n⟩
end L2
namespace L2
open PySem PySem.Spec PyProof.Rows Mth
section
variable {K : PySem.W.Frag} {C : Addr} {H H1 H2 : Hp} {a : Addr} {fp fp1 fp2 : List Addr} {m1 m2 : HoldM}
theorem Deed.trans (D1 : Deed K C H a fp m1 H1 fp1) (D2 : Deed K C H1 a fp1 m2 H2 fp2) : Deed K C H a fp m2 H2 fp2 := by
  refine ⟨D2.at_, fun b o h n => D2.but b o (D1.but b o h n) fun q => ?_, D1.ts.trans D2.ts, fun b hb => ?_⟩
  · rcases D1.own b q with z | z
    · exact n z
    · rw [z] at h; cases h
  · rcases D2.own b hb with q | q
    · exact D1.own b q
    · by_cases z : b ∈ fp
      · exact .inl z
      · refine .inr ?_
        cases e : H b with
        | none => rfl
        | some o => rw [D1.but b o e z] at q; cases q
theorem Deed.pre (s : Same H H1) (D : Deed K C H1 a fp m2 H2 fp2) : Deed K C H a fp m2 H2 fp2 :=
  ⟨D.at_, fun b o h n => D.but b o (s b o h) n, (Same.ts s).trans D.ts, fun b hb => (D.own b hb).elim .inl fun q => .inr (s.free q)⟩
end
def sp_changed (K : PySem.W.Frag) (C : Addr) : Sp := fun vs H Q _ => ∃ a fp m, ∃ c : Int, vs = [.ref a, .int c] ∧ HoldAt K C H a fp m ∧ Tw m ∧ 1 ≤ m.rows.length ∧ bandsM m.rows ≤ 400 ∧
  ∀ H' fp' m', m'.most = m.most → m'.cap = m.cap → m'.load = m.load → Deed K C H a fp m' H' fp' → Q .non H'
end L2
namespace L2
open PySem PySem.Spec PyProof.Rows Mth
end L2
namespace L2
open PySem PySem.Spec PyProof.Rows Mth
def sp_built (K : PySem.W.Frag) (C : Addr) : Sp := fun vs H Q _ => ∃ p, ∃ tm : ToldM, ∃ n : Nat, vs = [.ref p] ∧ ToldAt K H p tm ∧ tm.Ok n n ∧ 1 ≤ n ∧ n ≤ 4 ∧
  ∀ a H' fp, Same H H' → HoldAt K C H' a fp (tm.m2 n n) → (∀ b ∈ fp, H b = none) → (tm.m2 n n).rows.length = n → Tw (tm.m2 n n) → Q (.ref a) H'
end L2
namespace L2
open PySem PySem.Spec PyProof.Rows Mth
/-- whole numbers, truths and None in lists and tuples, n deep at most -/
def plD : Nat → PyData → Prop
  | _, .none => True
  | _, .bool _ => True
  | _, .int _ => True
  | n + 1, .list ds => ∀ d ∈ ds, plD n d
  | n + 1, .tuple ds => ∀ d ∈ ds, plD n d
  | _, _ => False
end L2
namespace L2
open PySem PySem.Spec PyProof.Rows Mth
section
variable {K : PySem.W.Frag} {C : Addr} {H H1 H' : Hp} {a b : Addr} {fp fp' fpb L M : List Addr} {m m' mb : HoldM}
/-- its own objects are there, and no tuples -/
theorem HoldAt.notups (h : HoldAt K C H a fp m) : NoTups H fp := by
  obtain ⟨⟨dx, pm, pf, ps, pt, vm, vs, vt, kvs, rfl, ha, hdx, hpm, hpf, hps, hpt, _⟩, _⟩ := h
  intro c hc
  simp only [List.mem_cons, List.not_mem_nil, or_false] at hc
  rcases hc with rfl | rfl | rfl | rfl | rfl | rfl
  · exact ⟨_, ha, rfl⟩
  · exact ⟨_, hdx, rfl⟩
  · exact ⟨_, hpm, rfl⟩
  · exact ⟨_, hpf, rfl⟩
  · exact ⟨_, hps, rfl⟩
  · exact ⟨_, hpt, rfl⟩
theorem HoldAt.mem (h : HoldAt K C H a fp m) : a ∈ fp := by
  obtain ⟨⟨dx, pm, pf, ps, pt, vm, vs, vt, kvs, rfl, _⟩, _⟩ := h
  exact List.mem_cons_self
/-- a hold made later has none of what was there -/
theorem HoldAt.apart (h : HoldAt K C H a fp m) (n : ∀ c ∈ fpb, H c = none) : ∀ c ∈ fp, c ∉ fpb := fun c hc hb => by
  obtain ⟨o, e, _⟩ := h.notups c hc
  rw [n c hb] at e
  cases e
theorem But.mono (b : But L H H') (h : ∀ c ∈ L, c ∈ M) : But M H H' := fun c o e n => b c o e fun z => n (h c z)
/-- a deed on one hold leaves another one -/
theorem Deed.other (D : Deed K C H a fp m' H' fp') (h : HoldAt K C H b fpb mb) (dis : ∀ c ∈ fpb, c ∉ fp) : HoldAt K C H' b fpb mb := by
  obtain ⟨⟨dx, pm, pf, ps, pt, vm, vs, vt, kvs, rfl, ha, hdx, hpm, hpf, hps, hpt, n1, n2, n3, dm, ds, dt, df, fk⟩, q1, q2, q3, q4⟩ := h
  have g : ∀ {c o}, H c = some o → c ∈ [b, dx, pm, pf, ps, pt] → H' c = some o := fun e hc => D.but _ _ e (dis _ hc)
  exact ⟨⟨dx, pm, pf, ps, pt, vm, vs, vt, kvs, rfl, g ha (by simp), g hdx (by simp), g hpm (by simp), g hpf (by simp), g hps (by simp), g hpt (by simp), n1, n2, n3, rows_ts D.ts dm, skies_ts D.ts ds, stoves_ts D.ts dt, fun i j => (df i j).ts D.ts, fk⟩, q1, q2, q3, q4⟩
end
end L2
namespace L2
open PySem PySem.Spec PyProof.Rows Mth
theorem Tw.with {m : HoldM} {x y z : Option Int} (h : Tw m) : Tw (m.with x y z) := by
  obtain ⟨sk, fl, S, F⟩ := h
  exact ⟨sk, fl, ⟨S.sky, S.flow⟩, F⟩
end L2
namespace L2
open PySem PySem.Spec PyProof.Rows Mth
section
variable {X : Cx}
end
end L2
namespace L2
open PySem PySem.Spec PyProof.Rows Mth
end L2
namespace L2
open PySem PySem.Spec PyProof.Rows Mth
def touchP (r : List Fra) (f g : Fra) (b : Nat) : Bool := (!underM g (r.getD b (0, 1))) && !underM (r.getD (b + 1) (0, 1)) f
def touchTo (r : List Fra) (f g : Fra) (n : Nat) : List Nat := (List.range n).filter (touchP r f g)
def touchM (r : List Fra) (f g : Fra) : List Nat := touchTo r f g (r.length - 1)
def withinM (r : List Fra) (f g : Fra) : Bool := (!underM f (r.getD 0 (0, 1))) && !underM (r.getD (r.length - 1) (0, 1)) g
def sp_touched (K : PySem.W.Frag) (C : Addr) : Sp := fun vs H Q _ => ∃ a fp m, ∃ i : Nat, ∃ r v1 v2 f g, vs = [.ref a, natV i, v1, v2] ∧ HoldAt K C H a fp m ∧ m.rows[i]? = some r ∧ Dn K H (frD f) v1 ∧ Dn K H (frD g) v2 ∧ OkF 1000 f ∧ OkF 1000 g ∧
  ∀ p H', Same H H' → H' p = some (.lst ((touchM r f g).map natV)) → Q (.ref p) H'
def sp_within (K : PySem.W.Frag) (C : Addr) : Sp := fun vs H Q _ => ∃ a fp m, ∃ i : Nat, ∃ r v1 v2 f g, vs = [.ref a, natV i, v1, v2] ∧ HoldAt K C H a fp m ∧ m.rows[i]? = some r ∧ Dn K H (frD f) v1 ∧ Dn K H (frD g) v2 ∧ OkF 1000 f ∧ OkF 1000 g ∧
  ∀ H', Same H H' → Q (.bl (withinM r f g)) H'
end L2
namespace L2
open PySem PySem.Spec PyProof.Rows Mth
end L2
namespace L2
open PySem PySem.Spec PyProof.Rows Mth
end L2
namespace L2
open PySem PySem.Spec PyProof.Rows Mth
def natD (n : Nat) : PyData := .int (n : Int)
theorem sz0 : ([] : List V).length ≤ sizeLine := Nat.zero_le _
end L2
namespace L2
open PySem PySem.Spec PyProof.Rows Mth
def cutI (ns : List Int) (lo hi : Option Int) : List Int := (ns.drop (HT.sIx ns.length 0 lo)).take (HT.sIx ns.length ns.length hi - HT.sIx ns.length 0 lo)
theorem cutV_ints (ns : List Int) (lo hi : Option Int) : cutV (ns.map V.int) lo hi = (cutI ns lo hi).map V.int := by
  unfold cutV cutI
  rw [List.length_map, ← List.map_drop, ← List.map_take]
end L2
namespace L2
open PySem PySem.Spec PyProof.Rows Mth
theorem cut {t u : TS} {D : Ends} {σ : St} {H : Hp} (h : ∀ R : St → Hp → Prop, (∀ σ' H', u D σ' H' → R σ' H') → t { D with nx := R } σ H) : tSeq t u D σ H := h (u D) fun _ _ x => x
/-- o.m(..), whatever class o is of -/
def tDyn (P : Program) (w : World) (K : PySem.W.Frag) (mg : Str → Option Value) (base : Heap) (m : Str) (k : Nat) (ta : TE) (t : TA) : TE := fun σ H Q => ta σ H fun x H1 =>
  ∃ C a dx fs ps sp, x = .ref a ∧ H1 a = some (.ins C dx fs) ∧ fs.lookup m = none ∧ Cls K C ∧ MDef P w K mg base C m k ps [] sp ∧ t σ H1 fun vs H2 => sp (.ref a :: (vs ++ [])) H2 Q E0
section
variable {X : Cx} {P : Program} {w : World} {K : PySem.W.Frag} {mg : Str → Option Value} {base : Heap} {m x : Str} {p pos apos : Pos} {e o : Expr} {es : List Expr} {ta : TE} {t : TA} {k : Nat}
theorem pe_dyn0 {pl : Sem Bool} (hX : X.prog = P ∧ X.w = w ∧ X.K = K ∧ X.mg = mg ∧ X.base = base) (he : PE X o ta) (hr : Room k X.A)
    (ht : eval (.Call (.Attribute o m apos) [] [] pos) X.env = (do
      let ov ← eval o X.env
      standAt apos.atName
      let (f, first) ← holding [ov] (getMethod ov m pl)
      callWith pos f first (backTo pos (starEach [] X.env)) (backToKw pos (keywordEach [] X.env))) := by rfl) :
    PE X (.Call (.Attribute o m apos) [] [] pos) (tDyn P w K mg base m k ta tNil) := by
  obtain ⟨rfl, rfl, rfl, rfl, rfl⟩ := hX
  intro pins s σ H Q I h
  refine PySem.W.methodCall_KW (pl := pl) (thn (he pins s σ H _ I h) fun u s1 z => ?_) ht
  obtain ⟨x, H1, I1, rx, C, a, dx, fs, ps, sp, ex, ea, l, c, ⟨f, fd, hm, hb, F⟩, q⟩ := z
  subst ex
  obtain rfl : u = Value.ref a := rx
  refine getmeth_ok I1 ea c hm l ?_
  exact PySem.W.callWith_K0 (first := [.ref a]) I1.kIn hm.kp (run_fn (us := [.ref a]) (vs := [.ref a]) F hr hb .nil pass0 I1 (.cons rfl .nil) q)
/-- a def of the class at C, read off the class -/
structure ClsFn (K : PySem.W.Frag) (C : Addr) (m : Str) (f : Addr) : Prop where
  ga : PySem.W.specialIn K (.ref C) "__getattribute__" = some (some (.builtin "type.__getattribute__"))
  rd : ∃ mc, PySem.W.readsIn K C mc = true ∧ PySem.W.findCls K (.ref C) mc m = some (.val (.ref f))
  kp : PySem.W.keepIn K (.ref f) = true
end
/-- a def that is read off its class -/
def CDef (P : Program) (w : World) (K : PySem.W.Frag) (mg : Str → Option Value) (base : Heap) (C : Addr) (m : Str) (k : Nat) (ps : List Str) (sp : Sp) : Prop :=
  ∃ f fd, ClsFn K C m f ∧ Binds K fd ps [] ∧ FnOk P w K mg base CX0 k f fd ps sp
theorem MDef.mono {P : Program} {w : World} {K : PySem.W.Frag} {mg : Str → Option Value} {base : Heap} {C : Addr} {m : Str} {j k : Nat} {ps : List Str} {ds : List Value} {sp : Sp} (h : MDef P w K mg base C m j ps ds sp) (hk : j ≤ k) : MDef P w K mg base C m k ps ds sp := by
  obtain ⟨f, fd, M, B, F⟩ := h
  exact ⟨f, fd, M, B, F.mono hk⟩
end L2
namespace L2
open PySem PySem.Spec PyProof.Rows Mth
def ClockAt (C : Addr) (H : Hp) (a : Addr) (ws : List Int) : Prop := ∃ dx pw, H a = some (.ins C dx [("wishes", .ref pw)]) ∧ H dx = some (.own a) ∧ H pw = some (.lst (ws.map V.int)) ∧ 1 ≤ ws.length ∧ ws.length ≤ 24
theorem ClockAt.same {C : Addr} {H H' : Hp} {a : Addr} {ws : List Int} (h : ClockAt C H a ws) (s : Same H H') : ClockAt C H' a ws := by
  obtain ⟨dx, pw, h1, h2, h3, h4⟩ := h
  exact ⟨dx, pw, s _ _ h1, s _ _ h2, s _ _ h3, h4⟩
/-- the attributes of a pair -/
def PairAt (C : Addr) (H : Hp) (b a1 a2 : Addr) (ex : List (Str × V)) : Prop := ∃ dx, H b = some (.ins C dx (("one", .ref a1) :: ("other", .ref a2) :: ex)) ∧ H dx = some (.own b)
theorem PairAt.same {C : Addr} {H H' : Hp} {b a1 a2 : Addr} {ex : List (Str × V)} (h : PairAt C H b a1 a2 ex) (s : Same H H') : PairAt C H' b a1 a2 ex := by
  obtain ⟨dx, h1, h2⟩ := h
  exact ⟨dx, s _ _ h1, s _ _ h2⟩
section
variable (C : Addr)
def sp_cminds : Sp := fun vs H Q _ => ∃ a ws, vs = [.ref a] ∧ ClockAt C H a ws ∧ Q (natV ws.length) H
def sp_csize : Sp := fun vs H Q _ => ∃ v, vs = [v] ∧ Q (.int 1) H
def sp_cwish : Sp := fun vs H Q _ => ∃ a ws, ∃ i : Nat, ∃ z st, vs = [.ref a, natV i, st] ∧ ClockAt C H a ws ∧ ws[i]? = some z ∧ Q (.int z) H
def sp_cafter : Sp := fun vs H Q _ => ∃ a ws, ∃ i : Nat, ∃ st, vs = [.ref a, natV i, st] ∧ ClockAt C H a ws ∧ Q (natV ((i + 1) % ws.length)) H
def sp_cinit (K : PySem.W.Frag) : Sp := fun vs H Q _ => ∃ x dx p, ∃ ws : List Int, vs = [.ref x, .ref p] ∧ H x = some (.ins C dx []) ∧ H dx = some (.own x) ∧ SqL K H p (ws.map V.int) ∧ 1 ≤ ws.length ∧ ws.length ≤ 24 ∧
  ∀ H', (∀ b o, H b = some o → b ≠ x → H' b = some o) → ClockAt C H' x ws → Q .non H'
end
end L2
namespace L2
open PySem PySem.Spec PyProof.Rows Mth
/-- what a class of pairs must have -/
structure PCl (K : PySem.W.Frag) (C : Addr) : Prop where
  cl : Cls K C
  n1 : NoAttr K C "one"
  n2 : NoAttr K C "other"
/-- a pair of two clocks -/
structure PairC (K : PySem.W.Frag) (CC C : Addr) (H : Hp) (b a1 a2 : Addr) (ex : List (Str × V)) (ws1 ws2 : List Int) : Prop where
  pc : PCl K C
  at_ : PairAt C H b a1 a2 ex
  c1 : ClockAt CC H a1 ws1
  c2 : ClockAt CC H a2 ws2
  e0 : ex.lookup ("minds" : Str) = none ∧ ex.lookup ("size" : Str) = none ∧ ex.lookup ("wish_of_one" : Str) = none ∧ ex.lookup ("wish_of_other" : Str) = none
theorem PairC.same {K : PySem.W.Frag} {CC C : Addr} {H H' : Hp} {b a1 a2 : Addr} {ex : List (Str × V)} {ws1 ws2 : List Int} (h : PairC K CC C H b a1 a2 ex ws1 ws2) (s : Same H H') : PairC K CC C H' b a1 a2 ex ws1 ws2 :=
  ⟨h.pc, h.at_.same s, h.c1.same s, h.c2.same s, h.e0⟩
section
variable (K : PySem.W.Frag) (CC : Addr)
def sp_pminds : Sp := fun vs H Q _ => ∃ C b a1 a2 ex ws1 ws2, vs = [.ref b] ∧ PairC K CC C H b a1 a2 ex ws1 ws2 ∧ Q (natV (ws1.length * ws2.length)) H
def sp_psize : Sp := fun vs H Q _ => ∃ C b a1 a2 ex ws1 ws2, vs = [.ref b] ∧ PairC K CC C H b a1 a2 ex ws1 ws2 ∧ Q (.int 3) H
def sp_pone : Sp := fun vs H Q _ => ∃ C b a1 a2 ex ws1 ws2, ∃ i : Nat, ∃ z st, vs = [.ref b, natV i, st] ∧ PairC K CC C H b a1 a2 ex ws1 ws2 ∧ ws1[i / ws2.length]? = some z ∧ Q (.int z) H
def sp_pother : Sp := fun vs H Q _ => ∃ C b a1 a2 ex ws1 ws2, ∃ i : Nat, ∃ z st, vs = [.ref b, natV i, st] ∧ PairC K CC C H b a1 a2 ex ws1 ws2 ∧ ws2[i % ws2.length]? = some z ∧ Q (.int z) H
def sp_pafter : Sp := fun vs H Q _ => ∃ C b a1 a2 ex ws1 ws2, ∃ i : Nat, ∃ st, vs = [.ref b, natV i, st] ∧ PairC K CC C H b a1 a2 ex ws1 ws2 ∧
  ∀ H', Same H H' → Q (natV ((i / ws2.length + 1) % ws1.length * ws2.length + (i % ws2.length + 1) % ws2.length)) H'
end
/-- its minds and its size by any class of pairs -/
structure PM (P : Program) (w : World) (K : PySem.W.Frag) (mg : Str → Option Value) (base : Heap) (CC C : Addr) : Prop where
  pc : PCl K C
  mi : MDef P w K mg base C "minds" 2 ["self"] [] (sp_pminds K CC)
  si : MDef P w K mg base C "size" 2 ["self"] [] (sp_psize K CC)
def sp_look (P : Program) (w : World) (K : PySem.W.Frag) (mg : Str → Option Value) (base : Heap) (CC : Addr) : Sp := fun vs H Q _ => ∃ C b a1 a2 ex ws1 ws2, vs = [.ref b] ∧ PM P w K mg base CC C ∧ PairC K CC C H b a1 a2 ex ws1 ws2 ∧ ws1.length * ws2.length ≤ 60 ∧ Q .non H
def sp_pinit (P : Program) (w : World) (K : PySem.W.Frag) (mg : Str → Option Value) (base : Heap) (CC : Addr) : Sp := fun vs H Q _ => ∃ C x dx a1 a2 ws1 ws2, vs = [.ref x, .ref a1, .ref a2] ∧ PM P w K mg base CC C ∧ H x = some (.ins C dx []) ∧ H dx = some (.own x) ∧
  ClockAt CC H a1 ws1 ∧ ClockAt CC H a2 ws2 ∧ ws1.length * ws2.length ≤ 60 ∧ ∀ H', (∀ b o, H b = some o → b ≠ x → H' b = some o) → H' x = some (.ins C dx [("one", .ref a1), ("other", .ref a2)]) → Q .non H'
theorem HasM.of {P : Program} {w : World} {K : PySem.W.Frag} {mg : Str → Option Value} {base : Heap} {C : Addr} {m qual : Str} {st : Stmt} {k : Nat} {ps : List Str} {sp : Sp} (h : HasM K C m qual st .none)
    (hb : ∀ (kV doc pm : Value) (an : Option Addr) (cdv ct : Value) (us : List Value), us.length = ps.length → bindArgs (PySem.W.fnOf m qual (defArgs st) (defBody st) (defScope st) .none kV doc pm an cdv ct) ⟨us, []⟩ = pure (ps.zip us))
    (hf : ∀ f fd, FunD K m qual st .none f fd → FnOk P w K mg base CX0 k f fd ps sp) : MDef P w K mg base C m k ps [] sp := by
  obtain ⟨f, fd, M, F⟩ := h
  exact ⟨f, fd, M, F.binds0 hb, hf f fd F⟩
end L2
namespace L2
open PySem PySem.Spec PyProof.Rows Mth
section
variable (K : PySem.W.Frag) (CC : Addr)
/-- the wish of a pair of the class at C, by both wishes -/
def sp_w (C : Addr) (g : Int → Int → Int) : Sp := fun vs H Q _ => ∃ b a1 a2 ex ws1 ws2, ∃ i : Nat, ∃ z1 z2 st, vs = [.ref b, natV i, st] ∧ PairC K CC C H b a1 a2 ex ws1 ws2 ∧ ws1[i / ws2.length]? = some z1 ∧ ws2[i % ws2.length]? = some z2 ∧ ∀ r, r = g z1 z2 → Q (.int r) H
def belowX (r bd : Int) : List (Str × V) := [("room", .int r), ("band", .int bd)]
def sp_w3 (C : Addr) : Sp := fun vs H Q _ => ∃ b a1 a2 ws1 ws2, ∃ i r : Nat, ∃ z1 z2 bd x : Int, ∃ ps pb rest, ∃ bs : List Int, vs = [.ref b, natV i, .ref ps] ∧ PairC K CC C H b a1 a2 (belowX r bd) ws1 ws2 ∧ ws1[i / ws2.length]? = some z1 ∧ ws2[i % ws2.length]? = some z2 ∧
  SqT K H ps (.ref pb :: rest) ∧ SqT K H pb (bs.map V.int) ∧ bs[r]? = some x ∧ Q (.int (if x < bd then z1 else z2)) H
end
def sp_binit (P : Program) (w : World) (K : PySem.W.Frag) (mg : Str → Option Value) (base : Heap) (CC C : Addr) : Sp := fun vs H Q _ => ∃ x dx a1 a2 ws1 ws2, ∃ r bd : Int, vs = [.ref x, .int r, .int bd, .ref a1, .ref a2] ∧ H x = some (.ins C dx []) ∧ H dx = some (.own x) ∧
  ClockAt CC H a1 ws1 ∧ ClockAt CC H a2 ws2 ∧ ws1.length * ws2.length ≤ 60 ∧ ∀ H', (∀ b o, H b = some o → b ≠ x → H' b = some o) → H' x = some (.ins C dx (("one", .ref a1) :: ("other", .ref a2) :: belowX r bd)) → Q .non H'
end L2
namespace L2
open PySem PySem.Spec PyProof.Rows Mth
def sp_stream : Sp := fun vs H Q _ => ∃ c : Int, ∃ m : Nat, vs = [.int c, natV m] ∧ m ≤ 100 ∧ ∀ p (ns : List Int) H', Same H H' → H' p = some (.lst (ns.map V.int)) → ns.length = m → (∀ z ∈ ns, 0 ≤ z ∧ z < 2 ^ 31) → Q (.ref p) H'
theorem cut2 {ns : List Int} {n : Nat} (h : ns.length = n + 2) : cutV (ns.map V.int) (some 2) none = (ns.drop 2).map V.int := by
  rw [cutV_ints]
  unfold cutI
  have e : HT.sIx ns.length 0 (some 2) = 2 := by
    unfold HT.sIx
    simp
    omega
  rw [e]
  have e2 : HT.sIx ns.length ns.length none = ns.length := rfl
  rw [e2, List.take_of_length_le (by rw [List.length_drop]; omega)]
end L2
namespace L2
open PySem PySem.Spec PyProof.Rows Mth
/-- a state of some rooms at ps -/
def StAt (H : Hp) (ps : Addr) (bs ws fs : List Int) (bu hp : Int) : Prop := ∃ pb pw pf, H ps = some (.tup [.ref pb, .int bu, .ref pw, .ref pf, .int hp]) ∧ H pb = some (.tup (bs.map V.int)) ∧ H pw = some (.tup (ws.map V.int)) ∧ H pf = some (.tup (fs.map V.int))
theorem StAt.same {H H' : Hp} {ps : Addr} {bs ws fs : List Int} {bu hp : Int} (h : StAt H ps bs ws fs bu hp) (s : Same H H') : StAt H' ps bs ws fs bu hp := by
  obtain ⟨pb, pw, pf, h1, h2, h3, h4⟩ := h
  exact ⟨pb, pw, pf, s _ _ h1, s _ _ h2, s _ _ h3, s _ _ h4⟩
def sp_state (K : PySem.W.Frag) : Sp := fun vs H Q _ => ∃ p, ∃ ns : List Int, ∃ r : Nat, vs = [.ref p, natV r] ∧ SqL K H p (ns.map V.int) ∧ 6 ≤ ns.length ∧ (∀ z ∈ ns, 0 ≤ z ∧ z < 2 ^ 31) ∧ 1 ≤ r ∧ r ≤ 4 ∧
  ∀ ps (bs ws fs : List Int) (bu hp : Int) H', Same H H' → StAt H' ps bs ws fs bu hp → bs.length = r → ws.length = r → fs.length = r → (∀ z ∈ bs, 0 ≤ z ∧ z ≤ 6) → 0 ≤ bu → bu < 16 → 0 ≤ hp → hp ≤ 30 → Q (.ref ps) H'
def sp_whole : Sp := fun vs H Q _ => ∃ z : Int, vs = [.int z] ∧ Q (.bl true) H
def sp_bits : Sp := fun vs H Q _ => ∃ c : Int, vs = [.int c] ∧ 0 ≤ c ∧ c < 2 ^ 31 ∧ ∀ z, 0 ≤ z → z < 2 ^ 61 → ∀ H', Same H H' → Q (.int z) H'
def sp_are (K : PySem.W.Frag) : Sp := fun vs H Q _ => ∃ p q, ∃ ns : List Int, vs = [.ref p, .ref q] ∧ SqL K H p (ns.map V.int) ∧ SqL K H q (ns.map V.int) ∧ ns.length ≤ 10 ∧ Q (.bl true) H
theorem ints_get {l : List Int} {j : Nat} (h : j < l.length) : (l.map V.int)[j]? = some (.int l[j]) := by rw [List.getElem?_map, get_nat h]; rfl
end L2
namespace L2
open PySem PySem.Spec PyProof.Rows Mth
def opN (any : Bool) (a b : Nat) : Nat := if any then a ||| b else a &&& b
def digN (any : Bool) (a b : Nat) : Nat := if a % 2 + b % 2 > 1 - (if any then 1 else 0) then 1 else 0
def sp_mixed : Sp := fun vs H Q _ => ∃ a b : Nat, ∃ any : Bool, vs = [natV a, natV b, .bl any] ∧ a < 2 ^ 61 ∧ b < 2 ^ 61 ∧ Q (natV (opN any a b)) H
end L2
namespace L2
open PySem PySem.Spec PyProof.Rows Mth
def dueN (w a b : Nat) (c : Bool) : Nat := if w = 0 then a else if w = 3 then (if c then a else b) else opN (w == 1) a b
def sp_due : Sp := fun vs H Q _ => ∃ w a b : Nat, ∃ c : Bool, vs = [natV w, natV a, natV b, .bl c] ∧ w < 4 ∧ a < 2 ^ 61 ∧ b < 2 ^ 61 ∧ ∀ H', Same H H' → Q (natV (dueN w a b c)) H'
def exW (w r : Nat) (bd : Int) : List (Str × V) := if w = 3 then belowX r bd else []
/-- a wish, by any of the four classes -/
def sp_wishW (K : PySem.W.Frag) (CC C : Addr) (w : Nat) : Sp := fun vs H Q _ => ∃ b a1 a2 ws1 ws2, ∃ i r : Nat, ∃ z1 z2 : Nat, ∃ bd x : Int, ∃ ps bs us fs bu hp, vs = [.ref b, natV i, .ref ps] ∧ PairC K CC C H b a1 a2 (exW w r bd) ws1 ws2 ∧ ws1[i / ws2.length]? = some (z1 : Int) ∧ ws2[i % ws2.length]? = some (z2 : Int) ∧
  StAt H ps bs us fs bu hp ∧ bs[r]? = some x ∧ Q (natV (dueN w z1 z2 (decide (x < bd)))) H
structure KW (P : Program) (w : World) (K : PySem.W.Frag) (mg : Str → Option Value) (base : Heap) (CC C CK CP : Addr) (way : Nat) : Prop where
  pm : PM P w K mg base CC C
  af : MDef P w K mg base C "after" 2 ["self", "mind", "state"] [] (sp_pafter K CC)
  wi : MDef P w K mg base C "wish" 3 ["self", "mind", "state"] [] (sp_wishW K CC C way)
  ty : ∀ {H : Hp} {b dx : Addr} {fs : List (Str × V)}, H b = some (.ins C dx fs) → TyOf K H (.ref b) (.ref C)
  kk : PySem.W.kitOne K (.ref C) (.ref CK) = some true
  kp : PySem.W.kitOne K (.ref C) (.ref CP) = some true
def sp_made (K : PySem.W.Frag) (CC : Addr) (cw : Nat → Addr) : Sp := fun vs H Q _ => ∃ way r : Nat, ∃ bd : Int, ∃ a1 a2 ws1 ws2, vs = [natV way, .ref a1, .ref a2, natV r, .int bd] ∧ way < 4 ∧ ClockAt CC H a1 ws1 ∧ ClockAt CC H a2 ws2 ∧ ws1.length * ws2.length ≤ 60 ∧
  ∀ b H', Same H H' → PairC K CC (cw way) H' b a1 a2 (exW way r bd) ws1 ws2 → Q (.ref b) H'
end L2
namespace L2
open PySem PySem.Spec PyProof.Rows Mth
abbrev natsI (l : List Nat) : List Int := l.map Int.ofNat
structure PR (K : PySem.W.Frag) (CC : Addr) (H : Hp) (pp pws pst a1 a2 q1 q2 s1 s2 : Addr) (W1 W2 : List Nat) (room : Nat) : Prop where
  hp : H pp = some (.lst [.ref a1, .ref a2])
  hw : H pws = some (.lst [.ref q1, .ref q2])
  hs : H pst = some (.lst [.ref s1, .ref s2])
  c1 : ClockAt CC H a1 (natsI W1)
  c2 : ClockAt CC H a2 (natsI W2)
  h1 : H q1 = some (.lst ((natsI W1).map V.int))
  h2 : H q2 = some (.lst ((natsI W2).map V.int))
  t1 : ∃ bs us fs bu hp, StAt H s1 bs us fs bu hp ∧ room < bs.length
  t2 : ∃ bs us fs bu hp, StAt H s2 bs us fs bu hp ∧ room < bs.length
theorem PR.same {K : PySem.W.Frag} {CC : Addr} {H H' : Hp} {pp pws pst a1 a2 q1 q2 s1 s2 : Addr} {W1 W2 : List Nat} {room : Nat} (h : PR K CC H pp pws pst a1 a2 q1 q2 s1 s2 W1 W2 room) (s : Same H H') : PR K CC H' pp pws pst a1 a2 q1 q2 s1 s2 W1 W2 room := by
  obtain ⟨b1, u1, f1, c1, d1, g1, l1⟩ := h.t1
  obtain ⟨b2, u2, f2, c2, d2, g2, l2⟩ := h.t2
  exact ⟨s _ _ h.hp, s _ _ h.hw, s _ _ h.hs, h.c1.same s, h.c2.same s, s _ _ h.h1, s _ _ h.h2, ⟨b1, u1, f1, c1, d1, g1.same s, l1⟩, ⟨b2, u2, f2, c2, d2, g2.same s, l2⟩⟩
def sp_pright (K : PySem.W.Frag) (CC : Addr) : Sp := fun vs H Q _ => ∃ way room : Nat, ∃ band number : Int, ∃ pp pws pst a1 a2 q1 q2 s1 s2 W1 W2, vs = [natV way, .ref pp, .ref pws, .ref pst, natV room, .int band, .int number] ∧ way < 4 ∧ PR K CC H pp pws pst a1 a2 q1 q2 s1 s2 W1 W2 room ∧
  1 ≤ W1.length ∧ W1.length ≤ 7 ∧ 1 ≤ W2.length ∧ W2.length ≤ 8 ∧ (∀ z ∈ W1, z < 2 ^ 61) ∧ (∀ z ∈ W2, z < 2 ^ 61) ∧ 0 ≤ number ∧ ∀ H', Same H H' → Q (.bl true) H'
end L2
namespace L2
open PySem PySem.Spec PyProof.Rows Mth
end L2
namespace L2
open PySem PySem.Spec PyProof.Rows Mth
theorem StAt.put {H : Hp} {ps D : Addr} {bs ws fs : List Int} {bu hp : Int} {acc : List V} {o : HO} (h : StAt H ps bs ws fs bu hp) (hD : H D = some (.lst acc)) : StAt (upd H D o) ps bs ws fs bu hp := by
  obtain ⟨pb, pw, pf, h1, h2, h3, h4⟩ := h
  exact ⟨pb, pw, pf, by rw [upd_ne (ne_obj h1 hD nofun)]; exact h1, by rw [upd_ne (ne_obj h2 hD nofun)]; exact h2, by rw [upd_ne (ne_obj h3 hD nofun)]; exact h3, by rw [upd_ne (ne_obj h4 hD nofun)]; exact h4⟩
end L2
namespace L2
open PySem PySem.Spec PyProof.Rows Mth
end L2
namespace L2
open PySem PySem.Spec PyProof.Rows Mth
/-- an object that stays as it is -/
def Fz (o : Obj) : HO := .frz o (.ext fun _ => True)
theorem fz_ok {P : Program} {w : World} {H : Hp} {h : Heap} {a : Addr} {o : Obj} (e : h.get? a = some o) : ObjOk P w H h a (Fz o) := ⟨e, trivial, ⟨o, e⟩, fun _ _ _ _ => trivial⟩
/-- without the cells at cs; with them again -/
def wo (H : Hp) (cs : List Addr) : Hp := fun b => if b ∈ cs then none else H b
def wi (H : Hp) (cs : List Addr) (H' : Hp) : Hp := fun b => if b ∈ cs then H b else H' b
section
variable {P : Program} {w : World} {H H' : Hp} {h h' : Heap} {cs fs : List Addr}
end
/-- the frame of a function made at run time -/
def cxLam (P : Program) (w : World) (K : PySem.W.Frag) (mg : Str → Option Value) (base : Heap) (N : List Str) (env : Env) (A : Around) (outer : List Env) (s : Shared) (H : Hp) : Cx where
  prog := P
  w := w
  K := K
  mg := mg
  base := base
  A := A.deeper env
  N := N
  s₀ := s
  H₀ := H
  env := env
  outer := outer
  stack := env :: outer
  ex := []
  calm := true
  fn := fun _ => false
  pn := []
  xe := fun _ _ => False
/-- what the text says of a function of one parameter x, that reads the names fr of its maker -/
structure LamScope (x : Str) (fr : List Str) (scope : Scope) : Prop where
  kind : scope.kind = .function
  co : scope.isCoroutine = false
  gen : scope.isGenerator = false
  par : scope.names.lookup x = some .local
  frs : ∀ y ∈ fr, scope.names.lookup y = some .free
  nocell : ∀ y ∈ scope.names, y.2 ≠ .cell
  free : ∀ y, scope.names.lookup y = some .free → y ∈ fr
/-- the function at f as it was made: its text, its cells and what they hold -/
structure Lam (H : Hp) (f : Addr) (qual : Str) (params : Arguments) (body : Expr) (scope : Scope) (cl : List (Str × Addr)) (fr : List Str) (vals : List V) : Prop where
  fn : ∃ name pm c' ctv oc vs t, H f = some (Fz (PySem.W.kla_obj name qual params body scope cl pm c' ctv)) ∧ H c' = some (Fz oc) ∧ oc.data = .fields vs ∧ vs[1]? = some (.str qual t) ∧ c' ≤ f
  cells : Paired (fun (y : Str) (v : V) => ∃ c o u, cl.lookup y = some c ∧ H c = some (Fz o) ∧ o.data = .cell (some u) ∧ RelV v u) fr vals
  all : ∀ y c, (y, c) ∈ cl → ∃ o v, H c = some (Fz o) ∧ o.data = .cell v ∧ c ≤ f
  apart : ∀ y z c, cl.lookup y = some c → cl.lookup z = some c → y = z
theorem paired_get {α β : Type} {F : α → β → Prop} : ∀ {l₁ : List α} {l₂ : List β} {i : Nat} {x : α}, Paired F l₁ l₂ → l₁[i]? = some x → ∃ y, l₂[i]? = some y ∧ F x y
  | _, _, _, _, .nil, e => by simp at e
  | _, _, 0, _, .cons r _, e => by simp at e; subst e; exact ⟨_, rfl, r⟩
  | _, _, i + 1, x, .cons _ t, e => by
    obtain ⟨y, h1, h2⟩ := paired_get (i := i) (x := x) t (by simpa using e)
    exact ⟨y, by simpa using h1, h2⟩
section
variable {P : Program} {w : World} {K : PySem.W.Frag} {mg : Str → Option Value} {base : Heap} {k : Nat} {f : Addr} {A : Around} {outer : List Env} {s : Shared} {H : Hp}
  {qual : Str} {params : Arguments} {body : Expr} {scope : Scope} {cl : List (Str × Addr)} {fr : List Str} {vals : List V} {x : Str} {u : Value} {v : V} {Q : VK} {E : XK}
/-- the frame's environment -/
def lamEnv (qual : Str) (scope : Scope) (L f c' : Addr) (cl : List (Str × Addr)) : Env :=
  { scope := scope, locals := L, globals := mainGlobals, cells := cl, qual := qual ++ ".<locals>.", func := some f, code := .ref c', frame := some L, builtins := builtinsNs }
end
end L2
namespace L2
open PySem PySem.Spec PyProof.Rows Mth
/-- a table of nested texts: empty, or with the one text at its place -/
def tabRow (p : Pos) (c : Addr) : Array Value := #[rawInt p.line, rawInt p.col, .ref c]
def TabE (H : Hp) (e : Addr × Pos × Str) : Prop :=
  H e.1 = some (.tbl #[]) ∨ ∃ c oc vs t, H e.1 = some (.tbl (tabRow e.2.1 c)) ∧ H c = some (Fz oc) ∧ oc.data = .fields vs ∧ vs[1]? = some (.str e.2.2 t)
def TabOk (T : List (Addr × Pos × Str)) (H : Hp) : Prop := ∀ e ∈ T, TabE H e
/-- the same but for tables -/
def Gr (H H' : Hp) : Prop := ∀ b o, H b = some o → (∀ ps, o ≠ .tbl ps) → H' b = some o
theorem Gr.refl {H : Hp} : Gr H H := fun _ _ e _ => e
theorem Gr.trans {H H1 H2 : Hp} (a : Gr H H1) (b : Gr H1 H2) : Gr H H2 := fun c o e n => b c o (a c o e n) n
theorem Gr.of {H H' : Hp} (h : ∀ b o, H b = some o → H' b = some o) : Gr H H' := fun b o e _ => h b o e
theorem among_row (p : Pos) (c : Addr) : codeAmong p (tabRow p c).toList = some (.ref c) := by
  show codeAmong p [rawInt p.line, rawInt p.col, .ref c] = _
  have := codeAmong_snoc (pos := p) (c := .ref c) [] trivial rfl
  exact this
theorem triples_row (p : Pos) (c : Addr) : TriplesOk (tabRow p c).toList := trivial
/-- the module __builtins__ -/
def BMain (mg : Str → Option Value) (base : Heap) : Prop := ∃ bm ob, mg "__builtins__" = some (.ref bm) ∧ bm ≠ builtinsNs ∧ base.get? bm = some ob ∧ ob.cls = .type "module" ∧ ob.dict = some builtinsNs ∧ ob.data = .plain
/-- a lambda: a new function object, and its text's record at the first time -/
def tLam (cells : List (Str × Addr)) (T : Addr) (pos : Pos) (qual : Str) (params : Arguments) (body : Expr) (scope : Scope) (cl : List (Str × Addr)) : TE := fun _ H Q => TabE H (T, pos, qual) ∧ ∀ f pm c ctv oc vs t H', H f = none → oc.data = .fields vs → vs[1]? = some (.str qual t) → c < f → (∀ y d, cells.lookup y = some d → d < f) →
  ((H c = some (Fz oc) ∧ H T = some (.tbl (tabRow pos c)) ∧ H' = upd H f (Fz (PySem.W.kla_obj "<lambda>" qual params body scope cl pm c ctv))) ∨
   (H c = none ∧ H T = some (.tbl #[]) ∧ H' = upd (upd (upd H T (.tbl (tabRow pos c))) c (Fz oc)) f (Fz (PySem.W.kla_obj "<lambda>" qual params body scope cl pm c ctv)))) → Q (.ref f) H'
section
variable {X : Cx} {params : Arguments} {body : Expr} {scope : Scope} {pos : Pos} {cl : List (Str × Addr)} {c T : Addr}
theorem pe_lam (hdef : defaultsOf params X.env = ([], [])) (hcl : closureFor scope X.env = pure cl) (hcode : X.env.code = .ref c) (hC : PySem.W.CodeHd X.base c T) (hbm : BMain X.mg X.base) :
    PE X (.Lambda params body scope pos) (tLam X.env.cells T pos (X.env.qual ++ "<lambda>") params body scope cl) := by
  intro pins s σ H Q I h
  obtain ⟨hT, h⟩ := h
  have hg : s.heap.Ns mainGlobals X.mg := I.mod.glob.keeps I.bk
  have hC' : PySem.W.CodeHd s.heap c T := hC.keeps I.bk
  obtain ⟨bm, ob, b1, b2, b3, b4, b5, b6⟩ := hbm
  have ⟨b3', b3n⟩ := I.bs _ _ b3
  have hTs : H T ≠ none := by
    rcases hT with q | ⟨_, _, _, _, q, _⟩ <;> rw [show H T = _ from q] <;> simp
  have hgT : mainGlobals ≠ T := fun q => by
    obtain ⟨o, es, ep, e, _⟩ := I.mod.glob
    exact hTs (q ▸ (I.bs _ _ e).2)
  have hbG : bm ≠ mainGlobals := fun q => by
    obtain ⟨o, es, ep, e, d, _⟩ := I.mod.glob
    rw [q, e] at b3
    cases b3
    rw [d] at b6; cases b6
  have hbT : bm ≠ T := fun q => hTs (q ▸ b3n)
  have cls : ∀ y d, X.env.cells.lookup y = some d → d < s.heap.objs.size := fun y d e => by
    obtain ⟨_, _, q, _⟩ := I.cell y d e
    exact Heap.lt_size q
  refine PySem.W.kla_eval hdef ?_
  have hb : s.heap.BuiltinsAt X.mg T := ⟨bm, ob, b1, b2, hbG, hbT, b3', b4, b5, b6⟩
  rcases hT with q | ⟨c', oc, vs, t, q1, q2, q3, q4⟩
  · have hP : s.heap.get? T = some (PySem.W.tabObj #[]) := I.hok _ _ q
    refine PySem.W.kla_makeFunction (mg := X.mg) hcl I.ok.glob hg hcode hC' hP trivial rfl hgT hb fun c' ctv h' tk hx hge hlt hrec htb => ?_
    obtain ⟨c2, oc, vs, t, e2, hoc, hd, hv⟩ := hrec
    cases e2
    have lt : ∀ b u, H b = some u → b < s.heap.objs.size := fun b u e => I.hok.lt e
    have cn : H c' = none := I.hok.fresh hge
    have fn : H h'.objs.size = none := I.hok.fresh (Nat.le_trans hge (Nat.le_of_lt hlt))
    have cf : c' ≠ h'.objs.size := Nat.ne_of_lt hlt
    have ct : c' ≠ T := fun z => hTs (z ▸ cn)
    have ft : h'.objs.size ≠ T := fun z => hTs (z ▸ fn)
    have old : ∀ b : Addr, b < s.heap.objs.size → b ≠ c' ∧ b ≠ h'.objs.size := fun b hb => ⟨Nat.ne_of_lt (Nat.lt_of_lt_of_le hb hge), Nat.ne_of_lt (Nat.lt_of_lt_of_le hb (Nat.le_trans hge (Nat.le_of_lt hlt)))⟩
    have same : ∀ b : Addr, b ≠ T → b < s.heap.objs.size → upd (upd (upd H T (.tbl (tabRow pos c'))) c' (Fz oc)) h'.objs.size (Fz (PySem.W.kla_obj "<lambda>" (X.env.qual ++ "<lambda>") params body scope cl ((X.mg "__name__").getD .none) c' ctv)) b = H b := fun b ht hb => by
      rw [upd_ne (old b hb).2, upd_ne (old b hb).1, upd_ne ht]
    have kp : ∀ b o, b ≠ T → s.heap.get? b = some o → (h'.push (PySem.W.kla_obj "<lambda>" (X.env.qual ++ "<lambda>") params body scope cl ((X.mg "__name__").getD .none) c' ctv)).get? b = some o := fun b o hb e => Heap.get?_push_of_some _ (hx b o hb e)
    have nT : ∀ b, H b = none → b ≠ T := fun b n z => hTs (z ▸ n)
    refine I.after (s' := { s with heap := h'.push (PySem.W.kla_obj "<lambda>" (X.env.qual ++ "<lambda>") params body scope cl ((X.mg "__name__").getD .none) c' ctv), toks := tk }) ⟨.ref h'.objs.size, _, rfl, I.bare, ?_, ?_, rfl, h h'.objs.size ((X.mg "__name__").getD .none) c' ctv oc vs t _ fn hd hv hlt (fun y d e => Nat.lt_of_lt_of_le (cls y d e) (Nat.le_trans hge (Nat.le_of_lt hlt))) (.inr ⟨cn, q, rfl⟩)⟩
    · refine ⟨fun b o e n _ _ => kp b o (nT b n) e, fun b o e n _ _ => ⟨o.slots, kp b o (nT b n) e⟩, fun b o e n _ => ?_, fun b o e _ => ?_, fun b xs e => ?_, fun b o u e => ?_, fun b ps e => ?_⟩
      · rw [same b (nT b n) (Heap.lt_size e)]; exact n
      · by_cases hb : b = T
        · subst hb; exact ⟨_, Heap.get?_push_of_some _ htb⟩
        · exact ⟨o, kp b o hb e⟩
      · rw [same b (fun z => by rw [z, q] at e; cases e) (lt _ _ e)]; exact e
      · rw [same b (fun z => by rw [z, q] at e; cases e) (lt _ _ e)]; exact e
      · by_cases hb : b = T
        · subst hb
          rw [q] at e
          cases e
          refine ⟨tabRow pos c', ?_⟩
          rw [upd_ne ft.symm, upd_ne ct.symm, upd_same]
          simp
        · exact ⟨#[], by rw [same b hb (lt _ _ e), e]; simp⟩
    · intro a o e
      by_cases hf : a = h'.objs.size
      · subst hf
        rw [upd_same] at e
        cases e
        exact fz_ok (Heap.get?_push_size _ rfl)
      · rw [upd_ne hf] at e
        by_cases hc : a = c'
        · subst hc
          rw [upd_same] at e
          cases e
          exact fz_ok (Heap.get?_push_of_some _ hoc)
        · rw [upd_ne hc] at e
          by_cases ht : a = T
          · subst ht
            rw [upd_same] at e
            cases e
            show _ = _
            refine (Heap.get?_push_of_some _ htb).trans ?_
            simp [tabRow]
          · rw [upd_ne ht] at e
            refine (I.hok a o e).stay (fun b u hb r => kp b u ?_ r) (fun b r => ?_) fun b xs r => ?_
            · rcases hb with rfl | hb
              · exact ht
              · intro z; rw [z, q] at hb; cases hb
            · rw [same b (fun z => by rw [z, q] at r; cases r) (lt _ _ r)]; exact r
            · rw [same b (fun z => by rw [z, q] at r; cases r) (lt _ _ r)]; exact r
  · have hP : s.heap.get? T = some (PySem.W.tabObj (tabRow pos c')) := I.hok _ _ q1
    refine PySem.W.kla_makeFunctionHit (mg := X.mg) hcl I.ok.glob hg hcode hC' hP (triples_row _ _) (among_row _ _) hb fun ctv h' tk hk hsz => ?_
    have fn : H h'.objs.size = none := I.hok.fresh hsz
    have clt : c' < h'.objs.size := Nat.lt_of_lt_of_le (I.hok.lt q2) hsz
    refine I.after (s' := { s with heap := h'.push (PySem.W.kla_obj "<lambda>" (X.env.qual ++ "<lambda>") params body scope cl ((X.mg "__name__").getD .none) c' ctv), toks := tk }) ⟨.ref h'.objs.size, _, rfl, I.bare, ?_, ?_, rfl, h h'.objs.size ((X.mg "__name__").getD .none) c' ctv oc vs t _ fn q3 q4 clt (fun y d e => Nat.lt_of_lt_of_le (cls y d e) hsz) (.inl ⟨q2, q1, rfl⟩)⟩
    · have kp : ∀ b o, s.heap.get? b = some o → (h'.push (PySem.W.kla_obj "<lambda>" (X.env.qual ++ "<lambda>") params body scope cl ((X.mg "__name__").getD .none) c' ctv)).get? b = some o := fun b o e => Heap.get?_push_of_some _ (hk b o e)
      have ne : ∀ b : Addr, b < s.heap.objs.size → b ≠ h'.objs.size := fun b hb => Nat.ne_of_lt (Nat.lt_of_lt_of_le hb hsz)
      refine ⟨fun b o e _ _ _ => kp b o e, fun b o e _ _ _ => ⟨o.slots, kp b o e⟩, fun b o e n _ => ?_, fun b o e _ => ⟨o, kp b o e⟩, fun b xs e => ?_, fun b o u e => ?_, fun b ps e => ⟨#[], ?_⟩⟩
      · rw [upd_ne (ne b (Heap.lt_size e))]; exact n
      · rw [upd_ne (ne b (I.hok.lt e))]; exact e
      · rw [upd_ne (ne b (I.hok.lt e))]; exact e
      · rw [upd_ne (ne b (I.hok.lt e)), e]; simp
    · exact I.hok.laid (fun b u e => Heap.get?_push_of_some _ (hk b u e)) hsz (fz_ok (Heap.get?_push_size _ rfl))
end
end L2
namespace L2
open PySem PySem.Spec PyProof.Rows Mth
/-- the cells at cs as they stand in h -/
def wc (h : Heap) (cs : List Addr) (H : Hp) : Hp := fun b => if b ∈ cs then (h.get? b).map Fz else H b
theorem wc_in {h : Heap} {cs : List Addr} {H : Hp} {b : Addr} {o : Obj} (hb : b ∈ cs) (e : h.get? b = some o) : wc h cs H b = some (Fz o) := by unfold wc; rw [if_pos hb, e]; rfl
theorem wc_out {h : Heap} {cs : List Addr} {H : Hp} {b : Addr} (hb : b ∉ cs) : wc h cs H b = H b := if_neg hb
/-- what a maker tells: a new function that closes over its arguments -/
def spMk (T : List (Addr × Pos × Str)) (qual : Str) (params : Arguments) (body : Expr) (scope : Scope) (ps : List Str) : Sp := fun vs H Q _ => vs.length = ps.length ∧ TabOk T H ∧
  ∀ f cl H', Gr H H' → TabOk T H' → Lam H' f qual params body scope cl ps vs → (∀ b o, H b = some o → ∀ y c, (y, c) ∈ cl → b < c) → H f = none → Q (.ref f) H'
theorem paired_of {α β : Type} {F : α → β → Prop} : ∀ {l₁ : List α} {l₂ : List β}, l₁.length = l₂.length → (∀ (i : Nat) x y, l₁[i]? = some x → l₂[i]? = some y → F x y) → Paired F l₁ l₂
  | [], [], _, _ => .nil
  | [], _ :: _, e, _ => by cases e
  | _ :: _, [], e, _ => by cases e
  | a :: r, b :: t, e, h => .cons (h 0 a b rfl rfl) (paired_of (by simpa using e) fun i x y h1 h2 => h (i + 1) x y (by simpa using h1) (by simpa using h2))
theorem fn_mk {CX : CXT} {P : Program} {w : World} {K : PySem.W.Frag} {mg : Str → Option Value} {base : Heap} {k : Nat} {f : Addr} {name qual : Str} {params : Arguments} {scope : Scope} {dV kV doc pm ct oc : Value} {an od : Option Addr} {cd Tb : Addr} {pos : Pos}
    {osl : Array (Option Value)} {ps : List Str} {lps : Arguments} {lbody : Expr} {lscope : Scope} {lpos : Pos} {T : List (Addr × Pos × Str)} {clo : Addr → List (Str × Addr)}
    (lk : K.lookup f = some ⟨oc, od, .func (PySem.W.fnOf name qual params [.Return (some (.Lambda lps lbody lscope lpos)) pos] scope dV kV doc pm an (.ref cd) ct), osl⟩) (hcd : PySem.W.codeIn K (.ref cd) qual = true) (S : FnScope ps ps scope)
    (hcell : ∀ y ∈ ps, scope.names.lookup y = some .cell)
    (hC : PySem.W.CodeHd base cd Tb) (hbm : BMain mg base) (hTm : (Tb, lpos, qual ++ ".<locals>." ++ "<lambda>") ∈ T) (hTd : ∀ e ∈ T, e.1 = Tb → e = (Tb, lpos, qual ++ ".<locals>." ++ "<lambda>"))
    (hdef : ∀ L, defaultsOf lps (envOfC qual scope L f (.ref cd)) = ([], [])) (hcl : ∀ L, closureFor lscope (envOfC qual scope L f (.ref cd)) = pure (clo L))
    (hclo : ∀ L y c, (y, c) ∈ clo L → (cellsFrom (L + 1) scope.names []).lookup y = some c) (hfr : ∀ L, ∀ y ∈ ps, ∃ c, (clo L).lookup y = some c) :
    FnOk P w K mg base CX (k + 1) f (PySem.W.fnOf name qual params [.Return (some (.Lambda lps lbody lscope lpos)) pos] scope dV kV doc pm an (.ref cd) ct) ps (spMk T (qual ++ ".<locals>." ++ "<lambda>") lps lbody lscope ps) := by
  refine ⟨fun vs H Q E h => h.1, fun A outer s H args us vs Q E hr e0 hb r hsp => ?_⟩
  obtain ⟨hl, hT, hq⟩ := hsp
  have KX : K.In s.heap := e0.mod.kin.keeps fun b o e => (e0.bs b o e).1
  have lim : s.heap.NoLimit := e0.mod.nolimit.keeps fun b o e => (e0.bs b o e).1
  have hkind : ∀ y ∈ ps.zip us, scope.names.lookup y.1 = some .local ∨ (scope.names.lookup y.1 = some .cell ∧ ((cellsFrom (s.heap.objs.size + 1) scope.names []).lookup y.1).isSome = true) := fun ⟨n, v⟩ hy => by
    rcases S.par n (List.of_mem_zip hy).1 with q | q
    · exact .inl q
    · exact .inr ⟨q, PySem.W.cellsFrom_some _ _ _ (.inl q)⟩
  refine codeAny_call_function hr.depth (KX _ _ lk) rfl S.co S.gen rfl (PySem.W.codeRec_of KX hcd) (hb _ _ _ _ ?_)
  refine wpAny_newFunctionEnv_cells S.kind hkind fun env he s1 xx => ?_
  subst he
  refine ⟨lim.keeps xx.toInCall.keep, codeAny_func ?_⟩
  have I : Inv (cxOf CX P w K mg base ps qual scope f (.ref cd) A outer s H E) [] (start ps vs) H s1 := inv_start S hr.hd e0 hl r xx
  have hpe : PE (cxOf CX P w K mg base ps qual scope f (.ref cd) A outer s H E) (.Lambda lps lbody lscope lpos) _ := pe_lam (T := Tb) (c := cd) (cl := clo s.heap.objs.size) (hdef _) (hcl _) rfl hC hbm
  have hst : start ps vs = vs.map some := by unfold start; rw [hl]; simp
  let Q1 : VK := fun v H1 => ∃ f' pm c ctv oc vs' t, v = .ref f' ∧ H f' = none ∧ oc.data = .fields vs' ∧ vs'[1]? = some (.str (qual ++ ".<locals>." ++ "<lambda>") t) ∧ c < f' ∧ (∀ y d, (cellsFrom (s.heap.objs.size + 1) scope.names []).lookup y = some d → d < f') ∧
    ((H c = some (Fz oc) ∧ H Tb = some (.tbl (tabRow lpos c)) ∧ H1 = upd H f' (Fz (PySem.W.kla_obj "<lambda>" (qual ++ ".<locals>." ++ "<lambda>") lps lbody lscope (clo s.heap.objs.size) pm c ctv))) ∨
     (H c = none ∧ H Tb = some (.tbl #[]) ∧ H1 = upd (upd (upd H Tb (.tbl (tabRow lpos c))) c (Fz oc)) f' (Fz (PySem.W.kla_obj "<lambda>" (qual ++ ".<locals>." ++ "<lambda>") lps lbody lscope (clo s.heap.objs.size) pm c ctv))))
  have hw := hpe [] s1 (start ps vs) H Q1 I ⟨hT _ hTm, fun f' pm c ctv oc vs' t H' h1 h2 h3 h4 h6 h5 => ⟨f', pm, c, ctv, oc, vs', t, rfl, h1, h2, h3, h4, h6, h5⟩⟩
  refine wpAny_execs_cons (wpAny_Return_some (wpAny_mono hw (fun u s' hs => ?_) fun e s' hs => hs))
  obtain ⟨v, H1, J, rv, f', pm', c, ctv, oc', vs', t, rfl, hf', hd, hv, hcf, hcs, hH⟩ := hs
  obtain rfl : u = .ref f' := rv
  have cab : ∀ y c', (cellsFrom (s.heap.objs.size + 1) scope.names []).lookup y = some c' → s.heap.objs.size ≤ c' := fun y c' e => J.ok.cab y c' rfl e
  have lt : ∀ b o, H b = some o → b < s.heap.objs.size := fun b o e => e0.hok.lt e
  have csge : ∀ b ∈ (clo s.heap.objs.size).map (·.2), s.heap.objs.size ≤ b ∧ H1 b = none ∧ ∃ o v, s'.heap.get? b = some o ∧ o.data = .cell v := fun b hb => by
    obtain ⟨⟨y, b'⟩, hm, rfl⟩ := List.mem_map.mp hb
    have e := hclo _ _ _ hm
    obtain ⟨v, o, h1, h2⟩ := J.cell y b' e
    exact ⟨cab _ _ e, J.freeC y b' e, o, v, h1, h2⟩
  have nin : ∀ b, b < s.heap.objs.size → b ∉ (clo s.heap.objs.size).map (·.2) := fun b hb hm => absurd (Nat.lt_of_lt_of_le hb (csge b hm).1) (Nat.lt_irrefl _)
  have tin : ∀ b o, H1 b = some o → b ∉ (clo s.heap.objs.size).map (·.2) := fun b o e hm => by rw [(csge b hm).2.1] at e; cases e
  have H1f : H1 f' = some (Fz (PySem.W.kla_obj "<lambda>" (qual ++ ".<locals>." ++ "<lambda>") lps lbody lscope (clo s.heap.objs.size) pm' c ctv)) := by
    rcases hH with ⟨_, _, rfl⟩ | ⟨_, _, rfl⟩ <;> exact upd_same
  have H1c : H1 c = some (Fz oc') := by
    rcases hH with ⟨q, _, rfl⟩ | ⟨_, _, rfl⟩
    · rw [upd_ne (Nat.ne_of_lt hcf)]; exact q
    · rw [upd_ne (Nat.ne_of_lt hcf)]; exact upd_same
  have H1T : H1 Tb = some (.tbl (tabRow lpos c)) := by
    rcases hH with ⟨_, q, rfl⟩ | ⟨qc, q, rfl⟩
    · rw [upd_ne (fun z => by rw [z, hf'] at q; cases q)]; exact q
    · rw [upd_ne (fun z => by rw [z, hf'] at q; cases q), upd_ne (fun z => by rw [z, qc] at q; cases q)]; exact upd_same
  have H1o : ∀ b o, H b = some o → b ≠ Tb → H1 b = some o := fun b o e hb => by
    have bf : b ≠ f' := fun z => by rw [z, hf'] at e; cases e
    rcases hH with ⟨_, _, rfl⟩ | ⟨qc, _, rfl⟩
    · rw [upd_ne bf]; exact e
    · rw [upd_ne bf, upd_ne (fun z => by rw [z, qc] at e; cases e), upd_ne hb]; exact e
  have Tt : ∃ ps, H Tb = some (.tbl ps) := by rcases hH with ⟨_, q, _⟩ | ⟨_, q, _⟩ <;> exact ⟨_, q⟩
  have out : ∀ b o, H1 b = some o → wc s'.heap ((clo s.heap.objs.size).map (·.2)) H1 b = some o := fun b o e => by rw [wc_out (tin b o e)]; exact e
  have ub : Un (frs outer) [] H H1 s.heap s'.heap := J.base
  refine (show CE outer P w H s Q (.ref f') s' from ⟨.ref f', wc s'.heap ((clo s.heap.objs.size).map (·.2)) H1, J.os, J.bare, ?_, ?_, rfl, ?_⟩)
  · refine ⟨ub.keep, ub.slot, fun b o e n hx => ?_, ub.there, fun b xs e => out _ _ (ub.tups b xs e), fun b o u e => out _ _ (ub.frzs b o u e), fun b ps e => ?_⟩
    · rw [wc_out (nin b (Heap.lt_size e))]; exact ub.free b o e n hx
    · obtain ⟨more, q⟩ := ub.tbls b ps e
      exact ⟨more, out _ _ q⟩
  · intro a o e
    by_cases ha : a ∈ (clo s.heap.objs.size).map (·.2)
    · obtain ⟨_, _, ob, _, h1, _⟩ := csge a ha
      rw [wc_in ha h1] at e
      cases e
      exact fz_ok h1
    · rw [wc_out ha] at e
      exact (J.hok a o e).stay (fun b u _ q => q) (fun b q => out _ _ q) fun b xs q => out _ _ q
  · refine hq f' (clo s.heap.objs.size) _ (fun b o e n => ?_) (fun e he => ?_) ⟨⟨"<lambda>", pm', c, ctv, oc', vs', t, out _ _ H1f, out _ _ H1c, hd, hv, Nat.le_of_lt hcf⟩, ?_, ?_, ?_⟩ (fun b o e y c' hm => ?_) hf'
    · refine out _ _ (H1o b o e fun z => ?_)
      obtain ⟨ps, q⟩ := Tt
      rw [z, q] at e
      cases e
      exact n ps rfl
    · by_cases hb : e.1 = Tb
      · rw [hTd e he hb]
        exact .inr ⟨c, oc', vs', t, out _ _ H1T, out _ _ H1c, hd, hv⟩
      · rcases hT e he with q | ⟨c2, oc2, vs2, t2, q1, q2, q3, q4⟩
        · exact .inl (out _ _ (H1o _ _ q hb))
        · refine .inr ⟨c2, oc2, vs2, t2, out _ _ (H1o _ _ q1 hb), out _ _ (H1o _ _ q2 fun z => ?_), q3, q4⟩
          obtain ⟨ps, q⟩ := Tt
          rw [z, q] at q2
          unfold Fz at q2
          cases q2
    · obtain ⟨m, hn, hlook⟩ := J.loc
      refine paired_of hl.symm fun i y v h1 h2 => ?_
      have hy : y ∈ ps := List.mem_of_getElem? h1
      obtain ⟨u, ru, lk⟩ := hlook i y v h1 (by rw [hst, List.getElem?_map, h2]; rfl) (.inr (.inl (hcell y hy)))
      obtain ⟨c', ec⟩ := hfr s.heap.objs.size y hy
      have em := hclo _ _ _ (PySem.mem_of_lookup ec)
      rcases lk with ⟨hk, _⟩ | ⟨_, c2, e2, hcl2⟩
      · have hk : scope.names.lookup y = some .local := hk
        rw [hcell y hy] at hk; cases hk
      · have e2 : (cellsFrom (s.heap.objs.size + 1) scope.names []).lookup y = some c2 := e2
        rw [em] at e2
        cases e2
        obtain ⟨o, h3, h4⟩ := hcl2
        exact ⟨c', o, u, ec, wc_in (List.mem_map.mpr ⟨(y, c'), PySem.mem_of_lookup ec, rfl⟩) h3, h4, ru⟩
    · intro y c' hm
      have hmem : c' ∈ (clo s.heap.objs.size).map (·.2) := List.mem_map.mpr ⟨(y, c'), hm, rfl⟩
      obtain ⟨_, _, o, v, h1, h2⟩ := csge c' hmem
      refine ⟨o, v, wc_in hmem h1, h2, ?_⟩
      exact Nat.le_of_lt (hcs y c' (hclo _ _ _ hm))
    · intro y z c' h1 h2
      exact J.ok.inj y z c' (hclo _ _ _ (PySem.mem_of_lookup h1)) (hclo _ _ _ (PySem.mem_of_lookup h2))
    · have hmem : c' ∈ (clo s.heap.objs.size).map (·.2) := List.mem_map.mpr ⟨(y, c'), hm, rfl⟩
      exact Nat.lt_of_lt_of_le (lt b o e) (csge c' hmem).1
end L2
namespace L2
open PySem PySem.Spec PyProof.Rows Mth
/-- the promise of a function at f: at these arguments, from this heap -/
def Runs (X : Cx) (f : Addr) (vs : List V) (H : Hp) (Q : VK) : Prop := ∀ (s : Shared) (us : List Value), Env0 X.prog X.w X.K X.mg X.base X.A X.stack s H → Vals vs us →
  codeAny (model X.prog X.w) X.A (.call (.ref f) ⟨us, []⟩) (CR CX0 X.stack X.prog X.w H s Q E0) s
/-- x(e, ..), x a name that holds a made function -/
def tCallV (X : Cx) (i : Nat) (t : TA) : TE := fun σ H Q => ∃ f o fd, σ[i]? = some (some (.ref f)) ∧ o.data = .func fd ∧ t σ H fun vs H1 => H1 f = some (Fz o) ∧ Runs X f vs H1 Q
section
variable {X : Cx} {i : Nat} {x : Str} {p pos : Pos} {e : Expr} {es : List Expr} {t : TA}
end
/-- the base of a law with makers -/
structure Bs (K : PySem.W.Frag) (mg : Str → Option Value) (base : Heap) : Prop where
  kin : K.In base
  bm : BMain mg base
/-- the text of a lambda that a def returns -/
def lamOf (st : Stmt) : Expr := match defBody st with
  | [.Return (some e) _] => e
  | _ => .Constant .none 0 ⟨0, 0, 0, 0⟩
def lamArgs (st : Stmt) : Arguments := match lamOf st with
  | .Lambda a _ _ _ => a
  | _ => { posonlyargs := [], args := [], vararg := none, kwonlyargs := [], kw_defaults := [], kwarg := none, defaults := [] }
def lamBody (st : Stmt) : Expr := match lamOf st with
  | .Lambda _ b _ _ => b
  | _ => .Constant .none 0 ⟨0, 0, 0, 0⟩
def lamScope (st : Stmt) : Scope := match lamOf st with
  | .Lambda _ _ s _ => s
  | _ => { kind := .function, names := [], isGenerator := false, isCoroutine := false }
def lamPos (st : Stmt) : Pos := match lamOf st with
  | .Lambda _ _ _ p => p
  | _ => ⟨0, 0, 0, 0⟩
def retPos (st : Stmt) : Pos := match defBody st with
  | [.Return _ p] => p
  | _ => ⟨0, 0, 0, 0⟩
/-- a def that makes a function: its table stands at T -/
def HasMk (K : PySem.W.Frag) (mg : Str → Option Value) (x : Str) (st : Stmt) (T : Addr) : Prop :=
  ∃ (f cd : Addr) (oc : Value) (od : Option Addr) (kV doc pm : Value) (an : Option Addr) (ct : Value) (osl : Array (Option Value)), mg x = some (.ref f) ∧
    K.lookup f = some ⟨oc, od, .func (PySem.W.fnOf x x (defArgs st) (defBody st) (defScope st) .none kV doc pm an (.ref cd) ct), osl⟩ ∧ PySem.W.codeIn K (.ref cd) x = true ∧ PySem.W.keepIn K (.ref f) = true ∧ PySem.W.codeHdIn K cd T = true
theorem HasMk.def {P : Program} {w : World} {K : PySem.W.Frag} {mg : Str → Option Value} {base : Heap} {x : Str} {st : Stmt} {Tb : Addr} {ps : List Str} {k : Nat} {T : List (Addr × Pos × Str)} {clo : Addr → List (Str × Addr)} (h : HasMk K mg x st Tb) (B : Bs K mg base)
    (hst : defBody st = [.Return (some (.Lambda (lamArgs st) (lamBody st) (lamScope st) (lamPos st))) (retPos st)]) (S : FnScope ps ps (defScope st)) (hcell : ∀ y ∈ ps, (defScope st).names.lookup y = some .cell)
    (hTm : (Tb, lamPos st, x ++ ".<locals>." ++ "<lambda>") ∈ T) (hTd : ∀ e ∈ T, e.1 = Tb → e = (Tb, lamPos st, x ++ ".<locals>." ++ "<lambda>"))
    (hdef : ∀ f cd L, defaultsOf (lamArgs st) (envOfC x (defScope st) L f (.ref cd)) = ([], [])) (hcl : ∀ f cd L, closureFor (lamScope st) (envOfC x (defScope st) L f (.ref cd)) = pure (clo L))
    (hclo : ∀ L y c, (y, c) ∈ clo L → (cellsFrom (L + 1) (defScope st).names []).lookup y = some c) (hfr : ∀ L, ∀ y ∈ ps, ∃ c, (clo L).lookup y = some c)
    (hb : ∀ (kV doc pm : Value) (an : Option Addr) (cdv ct : Value) (us : List Value), us.length = ps.length → bindArgs (PySem.W.fnOf x x (defArgs st) (defBody st) (defScope st) .none kV doc pm an cdv ct) ⟨us, []⟩ = pure (ps.zip us)) :
    Def P w K mg base x (k + 1) ps (spMk T (x ++ ".<locals>." ++ "<lambda>") (lamArgs st) (lamBody st) (lamScope st) ps) := by
  obtain ⟨f, cd, oc, od, kV, doc, pm, an, ct, osl, h1, h2, h3, h4, h5⟩ := h
  refine ⟨f, _, h1, h4, .all fun us hl => hb kV doc pm an (.ref cd) ct us hl, ?_⟩
  rw [hst] at h2 ⊢
  exact fn_mk h2 h3 S hcell (PySem.W.codeHd_of_K B.kin h5) B.bm hTm hTd (hdef f cd) (hcl f cd) hclo hfr
/-- law's promise, with the tables at ts -/
def sp_lawT (K : PySem.W.Frag) (ts : List Addr) : Sp := fun vs H Q _ => ∃ (a : Addr) (ns : List Int), vs = [.ref a] ∧ SqL K H a (ns.map V.int) ∧ ns.length ≤ 63 ∧ (∀ z ∈ ns, Bd 1048576 z) ∧ (∀ T ∈ ts, H T = some (.tbl #[])) ∧ ∀ H', Q (.bl true) H'
end L2
namespace L2
open PySem PySem.Spec PyProof.Rows Mth
section
variable {P : Program} {w : World} {H H' : Hp} {f : Addr} {qual : Str} {params : Arguments} {body : Expr} {scope : Scope} {cl : List (Str × Addr)} {fr : List Str} {vals : List V}
theorem Paired.mem {α β : Type} {F G : α → β → Prop} : ∀ {l₁ : List α} {l₂ : List β}, Paired F l₁ l₂ → (∀ a ∈ l₁, ∀ b, F a b → G a b) → Paired G l₁ l₂
  | _, _, .nil, _ => .nil
  | _, _, .cons r t, f => .cons (f _ (List.mem_cons_self) _ r) (Paired.mem t fun a ha b h => f a (List.mem_cons_of_mem _ ha) b h)
theorem Lam.mono (L : Lam H f qual params body scope cl fr vals) (h : ∀ b o, b ≤ f → H b = some (Fz o) → H' b = some (Fz o)) : Lam H' f qual params body scope cl fr vals := by
  obtain ⟨name, pm, c', ctv, oc, vs, t, h1, h2, h3, h4, h5⟩ := L.fn
  refine ⟨⟨name, pm, c', ctv, oc, vs, t, h _ _ (Nat.le_refl _) h1, h _ _ h5 h2, h3, h4, h5⟩, Paired.mapP L.cells fun y v ⟨c, o, u, e1, e2, e3, e4⟩ => ?_, fun y c hm => ?_, L.apart⟩
  · obtain ⟨_, _, _, _, le⟩ := L.all y c (PySem.mem_of_lookup e1)
    exact ⟨c, o, u, e1, h _ _ le e2, e3, e4⟩
  · obtain ⟨o, v, e1, e2, le⟩ := L.all y c hm
    exact ⟨o, v, h _ _ le e1, e2, le⟩
theorem Lam.obj (L : Lam H f qual params body scope cl fr vals) : ∃ o fd, H f = some (Fz o) ∧ o.data = .func fd := by
  obtain ⟨name, pm, c', ctv, oc, vs, t, h1, _⟩ := L.fn
  exact ⟨_, _, h1, rfl⟩
theorem Lam.cs (L : Lam H f qual params body scope cl fr vals) : ∀ c ∈ cl.map (·.2), ∃ o, H c = some (Fz o) := fun c hc => by
  obtain ⟨⟨y, c2⟩, hm, rfl⟩ := List.mem_map.mp hc
  obtain ⟨o, _, e, _⟩ := L.all y c2 hm
  exact ⟨o, e⟩
/-- what is captured first lies below: some cell stands between -/
theorem Lam.lt (L : Lam H f qual params body scope cl fr vals) {y : Str} (hy : y ∈ fr) {n : Addr} (h : ∀ z c, (z, c) ∈ cl → n < c) : n < f := by
  obtain ⟨i, hi, e⟩ := List.getElem_of_mem hy
  obtain ⟨_, _, c, _, _, ec, _⟩ := paired_get L.cells (i := i) (x := y) (by rw [List.getElem?_eq_getElem hi, e])
  have m := PySem.mem_of_lookup ec
  obtain ⟨_, _, _, _, le⟩ := L.all y c m
  exact Nat.lt_of_lt_of_le (h y c m) le
variable {cs : List Addr}
theorem CR.mono {outer : List Env} {s s' : Shared} {Q Q' : VK} {r : Result} (h : ∀ v H', Q v H' → Q' v H') (x : CR CX0 outer P w H s Q E0 r s') : CR CX0 outer P w H s Q' E0 r s' := by
  cases r with
  | error e => exact x
  | ok fl =>
    cases fl with
    | ret u =>
      obtain ⟨v, H', a, b, c, d, e, q⟩ := x
      exact ⟨v, H', a, b, c, d, e, h v H' q⟩
    | next => exact x
    | brk => exact x
    | cont => exact x
theorem Gr.tup {b : Addr} {xs : List V} (g : Gr H H') (e : H b = some (.tup xs)) : H' b = some (.tup xs) := g b _ e nofun
theorem Gr.lst {b : Addr} {xs : List V} (g : Gr H H') (e : H b = some (.lst xs)) : H' b = some (.lst xs) := g b _ e nofun
end
end L2
namespace L2
open PySem PySem.Spec PyProof.Rows Mth
section
variable {P : Program} {w : World} {K : PySem.W.Frag} {mg : Str → Option Value} {base : Heap} {x qual m : Str} {st : Stmt} {dV : Value} {f C : Addr} {fd : FuncData} {N ps : List Str} {k : Nat} {sp : Sp} {ds : List Value} {dvs : List V}
theorem FunD.okX (F : FunD K x qual st dV f fd) (S : FnScope N ps (defScope st)) (len : ∀ vs H Q E, sp vs H Q E → vs.length = ps.length)
    (hbody : ∀ (cdv : Value) (A : Around) (outer : List Env) (s : Shared) (H : Hp) (vs : List V) (Q : VK) (E : XK), Room k (A.deeper (envOfC qual (defScope st) s.heap.objs.size f cdv)) → sp vs H Q E →
      ∃ t, PSs (cxOf (CX1 P w) P w K mg base N qual (defScope st) f cdv A outer s H E) (defBody st) t ∧ t { nx := fun _ H' => Q .non H', rt := Q } (start N vs) H) : FnOk P w K mg base (CX1 P w) (k + 1) f fd ps sp := by
  obtain ⟨oc, od, kV, doc, pm, an, cdv, ct, osl, rfl, lk, hcd⟩ := F.ex
  exact fn_of lk hcd S len fun A outer s H vs Q E hr hsp => hbody cdv A outer s H vs Q E hr hsp
def MDefX (P : Program) (w : World) (K : PySem.W.Frag) (mg : Str → Option Value) (base : Heap) (C : Addr) (m : Str) (k : Nat) (ps : List Str) (ds : List Value) (sp : Sp) : Prop :=
  ∃ f fd, Meth K C m f ∧ Binds K fd ps ds ∧ FnOk P w K mg base (CX1 P w) k f fd ps sp
theorem HasM.mdefX (h : HasM K C m qual st .none) (S : FnScope N ps (defScope st)) (len : ∀ vs H Q E, sp vs H Q E → vs.length = ps.length)
    (hb : ∀ (kV doc pm : Value) (an : Option Addr) (cdv ct : Value) (us : List Value), us.length = ps.length → bindArgs (PySem.W.fnOf m qual (defArgs st) (defBody st) (defScope st) .none kV doc pm an cdv ct) ⟨us, []⟩ = pure (ps.zip us))
    (hbody : ∀ (f : Addr) (cdv : Value) (A : Around) (outer : List Env) (s : Shared) (H : Hp) (vs : List V) (Q : VK) (E : XK), Room k (A.deeper (envOfC qual (defScope st) s.heap.objs.size f cdv)) → sp vs H Q E →
      ∃ t, PSs (cxOf (CX1 P w) P w K mg base N qual (defScope st) f cdv A outer s H E) (defBody st) t ∧ t { nx := fun _ H' => Q .non H', rt := Q } (start N vs) H) : MDefX P w K mg base C m (k + 1) ps [] sp := by
  obtain ⟨f, fd, M, F⟩ := h
  exact ⟨f, fd, M, F.binds0 hb, F.okX S len fun cdv A outer s H vs Q E hr hs => hbody f cdv A outer s H vs Q E hr hs⟩
def DOkX (P : Program) (w : World) (K : PySem.W.Frag) (mg : Str → Option Value) (base : Heap) (x : Str) (st : Stmt) (dV : Value) (k : Nat) (ps : List Str) (sp : Sp) : Prop :=
  ∃ f fd, mg x = some (.ref f) ∧ FunD K x x st dV f fd ∧ FnOk P w K mg base (CX1 P w) k f fd ps sp
def DefXE (P : Program) (w : World) (K : PySem.W.Frag) (mg : Str → Option Value) (base : Heap) (x : Str) (k : Nat) (ps : List Str) (dvs : List V) (sp : Sp) : Prop :=
  ∃ ds, Vals dvs ds ∧ ∃ f fd, mg x = some (.ref f) ∧ PySem.W.keepIn K (.ref f) = true ∧ Binds K fd ps ds ∧ FnOk P w K mg base (CX1 P w) k f fd ps sp
end
section
variable {X : Cx} {C : Addr} {x : Str} {p pos : Pos} {e : Expr} {es : List Expr} {t : TA} {k k1 : Nat} {ps ps1 : List Str} {sp sp1 : Sp} {ds : List Value} {dvs : List V} {E : XK}
/-- a call whose exception goes on to the caller's caller -/
theorem pe_callX (D : DefX X.prog X.w X.K X.mg X.base x k ps sp) (hr : Room k X.A) (hx : Passes (CX1 X.prog X.w) X E) (ha : PA X (e :: es) t) (hg : Gl X x := by rfl) (hdb : (x == ("__debug__" : Str)) = false := by decide)
    (he : starEach (e :: es) X.env = (false, eval e X.env) :: starEach es X.env := by rfl) (hpl : (backTo pos (starEach es X.env)).any (·.1) = false := by rfl) : PE X (.Call (.Name x p) (e :: es) [] pos) (tCall sp [] E t) := by
  obtain ⟨f, fd, hm, hk, hb, F⟩ := D
  exact pe_call F hr hg hm hk hb .nil hx ha hdb he hpl
theorem pe_makeX (M : MkCl X.K C) (D : MDefX X.prog X.w X.K X.mg X.base C "__init__" k ps ds sp) (hd : Vals dvs ds) (hr : Room (k + 1) X.A) (hx : Passes (CX1 X.prog X.w) X E) (hm : X.mg x = some (.ref C)) (ha : PA X (e :: es) t) (hg : Gl X x := by rfl) (hdb : (x == ("__debug__" : Str)) = false := by decide)
    (he : starEach (e :: es) X.env = (false, eval e X.env) :: starEach es X.env := by rfl) (hpl : (backTo pos (starEach es X.env)).any (·.1) = false := by rfl) : PE X (.Call (.Name x p) (e :: es) [] pos) (tMake C sp dvs E t) := by
  obtain ⟨f, fd, me, hb, F⟩ := D
  exact pe_make ⟨M.makes, me.at_, me.fn, M.kp⟩ F hr hg hm hb hd hx ha hdb he hpl
end
end L2
namespace L2
open PySem PySem.Spec PyProof.Rows Mth
section
variable {X : Cx} {pins : List (Addr × Obj)} {σ : St} {H : Hp} {s : Shared} {d : Addr} {u u' : HO}
theorem objOk_retag {P : Program} {w : World} {h : Heap} {a : Addr} {o : HO} (e : H d = some u) (h1 : ∀ xs, u ≠ .tup xs) (h2 : ∀ y, u ≠ .own y) (ok : ObjOk P w H h a o) : ObjOk P w (upd H d u') h a o :=
  ok.stay (fun _ _ _ q => q) (fun b q => by rw [upd_ne (fun z => by subst z; rw [e] at q; exact h2 _ (Option.some.inj q))]; exact q) (fun b xs q => by rw [upd_ne (fun z => by subst z; rw [e] at q; exact h1 _ (Option.some.inj q))]; exact q)
theorem Inv.retag (I : Inv X pins σ H s) (e : H d = some u) (h1 : ∀ xs, u ≠ .tup xs) (h2 : ∀ y, u ≠ .own y) (h3 : ∀ ps, u ≠ .tbl ps) (h4 : ∀ o v, X.H₀ d ≠ some (.frz o v)) (ok : ObjOk X.prog X.w H s.heap d u') : Inv X pins σ (upd H d u') s := by
  have ne : ∀ {b}, H b = none → b ≠ d := fun {b} h z => by subst z; rw [e] at h; cases h
  refine ⟨I.ok, I.os, I.bare, ⟨I.base.keep, I.base.slot, fun b o q n hx => ?_, I.base.there, fun b xs q => ?_, fun b o v q => ?_, fun b ps q => ?_⟩, I.loc, I.cell, ?_, fun x c q => ?_, fun p hp => ?_, ?_, I.len⟩
  · have := I.base.free b o q n hx
    rw [upd_ne (ne this)]; exact this
  · have := I.base.tups b xs q
    rw [upd_ne (fun z => by subst z; rw [e] at this; exact h1 _ (Option.some.inj this))]; exact this
  · have := I.base.frzs b o v q
    rw [upd_ne (fun z => by subst z; exact h4 _ _ q)]; exact this
  · obtain ⟨m, this⟩ := I.base.tbls b ps q
    exact ⟨m, by rw [upd_ne (fun z => by subst z; rw [e] at this; exact h3 _ (Option.some.inj this))]; exact this⟩
  · rw [upd_ne (ne I.free)]; exact I.free
  · have := I.freeC x c q
    rw [upd_ne (ne this)]; exact this
  · obtain ⟨a, b, c⟩ := I.pin p hp
    exact ⟨a, by rw [upd_ne (ne b)]; exact b, c⟩
  · intro b o q
    by_cases hb : b = d
    · subst hb; rw [upd_same] at q; cases q; exact objOk_retag e h1 h2 ok
    · rw [upd_ne hb] at q; exact objOk_retag e h1 h2 (I.hok b o q)
abbrev Fd (ob : Obj) (kvs : List (Key × V)) : HO := .frz ob (.dK kvs)
theorem Inv.thaw {kvs : List (Key × V)} {ob : Obj} (I : Inv X pins σ H s) (nf : ∀ o v, X.H₀ d ≠ some (.frz o v)) (e : H d = some (Fd ob kvs)) : Inv X pins σ (upd H d (.dK kvs)) s :=
  I.retag e nofun nofun nofun nf (I.hok d _ e).2
end
section
variable {X : Cx} {pos : Pos}
/-- a dict is known while e is looked at -/
def tThaw (t : TE) : TE := fun σ H Q => ∃ d kvs, H d = some (.dK kvs) ∧ ∀ ob, t σ (upd H d (Fd ob kvs)) fun v H' => H' d = some (Fd ob kvs) ∧ Q v (upd H' d (.dK kvs))
def Ends.thaw (D : Ends) (d : Addr) (ob : Obj) (kvs : List (Key × V)) : Ends :=
  ⟨fun σ H => H d = some (Fd ob kvs) ∧ D.nx σ (upd H d (.dK kvs)), fun v H => H d = some (Fd ob kvs) ∧ D.rt v (upd H d (.dK kvs)), fun σ H => H d = some (Fd ob kvs) ∧ D.bk σ (upd H d (.dK kvs)), fun σ H => H d = some (Fd ob kvs) ∧ D.ct σ (upd H d (.dK kvs))⟩
/-- .. while a statement is done -/
def sThaw (t : TS) : TS := fun D σ H => ∃ d kvs, H d = some (.dK kvs) ∧ ∀ ob, t (D.thaw d ob kvs) σ (upd H d (Fd ob kvs))
end
def Itk (d : Addr) (ob : Obj) (kvs : List (Key × V)) : It :=
  ⟨fun i H => H d = some (Fd ob kvs) ∧ i < kvs.length, fun i H x H' => H' = H ∧ ∃ p, kvs[i]? = some p ∧ x = kV p.1, fun i H => H d = some (Fd ob kvs) ∧ kvs.length ≤ i⟩
def Itv (d : Addr) (ob : Obj) (kvs : List (Key × V)) : It :=
  ⟨fun i H => H d = some (Fd ob kvs) ∧ i < kvs.length, fun i H x H' => H' = H ∧ ∃ p, kvs[i]? = some p ∧ x = p.2, fun i H => H d = some (Fd ob kvs) ∧ kvs.length ≤ i⟩
theorem KV.get {κ : Type} : ∀ {kvs : List (κ × V)} {vs : List (κ × Value)} {i : Nat} {p : κ × V}, KV kvs vs → kvs[i]? = some p → ∃ q, vs[i]? = some q ∧ p.1 = q.1 ∧ RelV p.2 q.2
  | _, _, 0, _, .cons r _, e => by cases e; exact ⟨_, rfl, r⟩
  | _, _, i + 1, _, .cons _ t, e => KV.get (i := i) t e
section
variable {X : Cx} {tg : Expr}
def iKeys (tl : TE) : TI := fun σ H R => tl σ H fun x H1 => ∃ d ob kvs, x = .ref d ∧ H1 d = some (Fd ob kvs) ∧ R (Itk d ob kvs) H1
end
end L2
namespace L2
open PySem PySem.Spec PyProof.Rows Mth
section
variable {X : Cx} {tg o : Expr} {to : TE} {apos cpos : Pos}
def iVals (to : TE) : TI := fun σ H R => to σ H fun x H1 => ∃ d ob kvs, x = .ref d ∧ H1 d = some (Fd ob kvs) ∧ R (Itv d ob kvs) H1
def rClearD : V → List V → Hp → VK → Prop := fun x vs H Q => ∃ a kvs, x = .ref a ∧ vs = [] ∧ H a = some (.dK kvs) ∧ Q .non (upd H a (.dK []))
def rClearL : V → List V → Hp → VK → Prop := fun x vs H Q => ∃ a xs, x = .ref a ∧ vs = [] ∧ H a = some (.lst xs) ∧ Q .non (upd H a (.lst []))
theorem call_dict_ofK : CallR X (.type "dict") (fun xs H Q => ∃ p kvs, xs = [.ref p] ∧ Rd H p (.dK kvs) ∧ ∀ l, H l = none → Q (.ref l) (upd H l (.dK kvs))) := by
  intro pins s σ H xs us Q I r h
  obtain ⟨p, kvs, rfl, hq, q⟩ := h
  obtain ⟨u, rfl, rx⟩ := vals1 r
  cases rx
  exact d_copyOf I hq fun l s' hl I' => ⟨.ref l, _, I', rfl, q l hl⟩
end
end L2
namespace L2
open PySem PySem.Spec PyProof.Rows Mth
structure MkN (K : PySem.W.Frag) (C : Addr) : Prop where
  makes : PySem.W.makesIn K C = true
  init : PySem.W.findIn K (.ref C) "__init__" = some (some (.builtin "object.__init__"))
  kp : PySem.W.keepIn K (.ref C) = true
section
variable {X : Cx} {C : Addr} {x : Str} {p pos : Pos}
def tMakeN (C : Addr) : TE := fun _ H Q => ∀ x dx, H x = none → H dx = none → dx ≠ x → Q (.ref x) (upd (upd H dx (.own x)) x (.ins C dx []))
theorem pe_makeN (M : MkN X.K C) (hm : X.mg x = some (.ref C)) (hg : Gl X x := by rfl) (hdb : (x == ("__debug__" : Str)) = false := by decide) : PE X (.Call (.Name x p) [] [] pos) (tMakeN C) := by
  intro pins s σ H Q I h
  refine wpAny_Call_Name_kw (ld_glob I hg hm ?_ hdb)
  refine PySem.W.callWith_K0 I.kIn M.kp (wpAny_call ?_)
  have hq := h (s.heap.objs.size + 1) s.heap.objs.size (I.hok.fresh (Nat.le_succ _)) (I.hok.fresh (Nat.le_refl _)) (Nat.ne_of_lt (Nat.lt_succ_self _))
  have I2 := Inv.made (C := C) I
  have kin := I.kIn
  obtain ⟨hh, g, d, t, os⟩ := s
  have Y := PySem.W.makes_of (M := model X.prog X.w) kin M.makes
  refine PySem.W.make_core Y (PySem.W.looks_findIn kin M.init) (fun self => PySem.W.Looks.of_pure (PySem.W.oi_bind self)) (.inr ⟨rfl, rfl⟩) ?_
  have gi : ((hh.push PySem.W.emptyDict).push (PySem.W.instObj C hh.objs.size)).get? (hh.objs.size + 1) = some (PySem.W.instObj C hh.objs.size) := by
    have : ((hh.push PySem.W.emptyDict).push (PySem.W.instObj C hh.objs.size)).get? (hh.push PySem.W.emptyDict).objs.size = some (PySem.W.instObj C hh.objs.size) := Heap.get?_push_size _ rfl
    rwa [Heap.size_push] at this
  have t1 : PySem.W.Looks (model X.prog X.w) ((hh.push PySem.W.emptyDict).push (PySem.W.instObj C hh.objs.size)) (typeOf (.ref (hh.objs.size + 1))) (.ref C) := (PySem.W.Looks.ld gi).andThen .now
  have t2 : PySem.W.Looks (model X.prog X.w) ((hh.push PySem.W.emptyDict).push (PySem.W.instObj C hh.objs.size)) (isInstance (.ref (hh.objs.size + 1)) (.type "object")) true := t1.andThen (Y.top.keeps fun b o e => Heap.get?_push_of_some _ (Heap.get?_push_of_some _ e))
  refine codeAny_call_builtin PySem.W.oi_plain PySem.W.entry_oi (@PySem.W.check_slot (model X.prog X.w) _ _ _ "object.__init__" "object" "__init__" (.ref (hh.objs.size + 1)) [] [] _ PySem.W.oi_kind PySem.W.oi_split t2 (PySem.W.oi_args (.ref (hh.objs.size + 1))) ?_)
  show wpAny _ _ (Builtin.«object.__init__» ⟨[.ref (hh.objs.size + 1)], []⟩) _ _ _
  rw [PySem.W.oi_run]
  exact wpAny_pure (And.intro rfl ⟨.ref (hh.objs.size + 1), _, I2, rfl, hq⟩)
end
section
variable {X : Cx} {C : Addr} {x : Str} {p pos : Pos} {e : Expr} {es : List Expr} {t : TA} {k : Nat} {ps : List Str} {sp : Sp} {ds : List Value} {dvs : List V}
end
def orB (l : List Nat) (b : Nat) : Nat := l.foldl (fun a r => a ||| 2 ^ r) b
def RunsK (P : Program) (w : World) (K : PySem.W.Frag) (mg : Str → Option Value) (base : Heap) (k : Nat) (f : Addr) (vs : List V) (H : Hp) (Q : VK) : Prop := ∀ (A : Around) (st : List Env) (s : Shared) (us : List Value), Room k A → Env0 P w K mg base A st s H → Vals vs us →
  codeAny (model P w) A (.call (.ref f) ⟨us, []⟩) (CR CX0 st P w H s Q E0) s
def tCallVK (P : Program) (w : World) (K : PySem.W.Frag) (mg : Str → Option Value) (base : Heap) (k i : Nat) (t : TA) : TE := fun σ H Q => ∃ f o fd, σ[i]? = some (some (.ref f)) ∧ o.data = .func fd ∧ t σ H fun vs H1 => H1 f = some (Fz o) ∧ RunsK P w K mg base k f vs H1 Q
section
variable {X : Cx} {P : Program} {w : World} {K : PySem.W.Frag} {mg : Str → Option Value} {base : Heap} {i k : Nat} {x : Str} {p pos : Pos} {e : Expr} {es : List Expr} {t : TA}
end
end L2
namespace L2
open PySem PySem.Spec PyProof.Rows Mth
theorem KV.same {κ : Type} : ∀ {kvs : List (κ × V)} {vs us : List (κ × Value)}, KV kvs vs → KV kvs us → (∀ kv ∈ kvs, ∃ p, kv.2 = .ref p) → vs = us
  | [], _, _, .nil, .nil, _ => rfl
  | c :: kvs, _, _, .cons (b := b) r t, .cons (b := b') r' t', h => by
    obtain ⟨p, e⟩ := h c (by simp)
    have e1 : b = b' := by
      obtain ⟨b1, b2⟩ := b
      obtain ⟨c1, c2⟩ := b'
      obtain ⟨r1, r2⟩ := r
      obtain ⟨r3, r4⟩ := r'
      rw [e] at r2 r4
      have r2 : b2 = .ref p := r2
      have r4 : c2 = .ref p := r4
      rw [r2, r4, ← (show c.1 = b1 from r1), ← (show c.1 = c1 from r3)]
    rw [e1, KV.same t t' fun kv hk => h kv (by simp [hk])]
def rNeDK : R2 := fun x y H Q => ∃ a b kvs, x = .ref a ∧ y = .ref b ∧ H a = some (.dK kvs) ∧ H b = some (.dK kvs) ∧ (∀ kv ∈ kvs, ∃ p, kv.2 = .ref p) ∧ Q (.bl false) H
end L2
namespace L2
open PySem PySem.Spec PyProof.Rows Mth
section
variable {P : Program} {w : World} {K : PySem.W.Frag} {mg : Str → Option Value} {base : Heap} {x qual m : Str} {st : Stmt} {dV : Value} {f C : Addr} {fd : FuncData} {N ps : List Str} {k : Nat} {sp : Sp} {ds : List Value} {dvs : List V}
def MOkX (P : Program) (w : World) (K : PySem.W.Frag) (mg : Str → Option Value) (base : Heap) (C : Addr) (m qual : Str) (st : Stmt) (dV : Value) (k : Nat) (ps : List Str) (sp : Sp) : Prop :=
  ∃ f fd, Meth K C m f ∧ FunD K m qual st dV f fd ∧ FnOk P w K mg base (CX1 P w) k f fd ps sp
def MDefXE (P : Program) (w : World) (K : PySem.W.Frag) (mg : Str → Option Value) (base : Heap) (C : Addr) (m : Str) (k : Nat) (ps : List Str) (dvs : List V) (sp : Sp) : Prop :=
  ∃ ds, Vals dvs ds ∧ MDefX P w K mg base C m k ps ds sp
theorem HasM.mokX (h : HasM K C m qual st dV) (S : FnScope N ps (defScope st)) (len : ∀ vs H Q E, sp vs H Q E → vs.length = ps.length)
    (hbody : ∀ (f : Addr) (cdv : Value) (A : Around) (outer : List Env) (s : Shared) (H : Hp) (vs : List V) (Q : VK) (E : XK), Room k (A.deeper (envOfC qual (defScope st) s.heap.objs.size f cdv)) → sp vs H Q E →
      ∃ t, PSs (cxOf (CX1 P w) P w K mg base N qual (defScope st) f cdv A outer s H E) (defBody st) t ∧ t { nx := fun _ H' => Q .non H', rt := Q } (start N vs) H) : MOkX P w K mg base C m qual st dV (k + 1) ps sp := by
  obtain ⟨f, fd, M, F⟩ := h
  exact ⟨f, fd, M, F, F.okX S len fun cdv A outer s H vs Q E hr hs => hbody f cdv A outer s H vs Q E hr hs⟩
theorem MOkX.mdefX {T : Addr} {dall : List V} (h : MOkX P w K mg base C m qual st (.ref T) k ps sp) (hT : DfIs K T dall)
    (hb : ∀ items : Array Value, Vals dall items.toList → ∃ ds, Vals dvs ds ∧ ∀ (kV doc pm : Value) (an : Option Addr) (cdv ct : Value) (us : List Value), (us ++ ds).length = ps.length → ∃ k, bindArgs (PySem.W.fnOf m qual (defArgs st) (defBody st) (defScope st) (.ref T) kV doc pm an cdv ct) ⟨us, []⟩ = seqItems? (.ref T) >>= k ∧ k (some items) = pure (ps.zip (us ++ ds))) :
    MDefXE P w K mg base C m k ps dvs sp := by
  obtain ⟨f, fd, M, F, O⟩ := h
  obtain ⟨o, n, items, hT, ho, hv⟩ := hT
  obtain ⟨ds, hd, hb⟩ := hb items hv
  exact ⟨ds, hd, f, fd, M, F.binds hT ho hb, O⟩
theorem MDefX.to0 (D : MDefX P w K mg base C m k ps ds sp) : MDef P w K mg base C m k ps ds (fun vs H Q _ => sp vs H Q E0) :=
  let ⟨f, fd, a, b, d⟩ := D; ⟨f, fd, a, b, d.to0⟩
theorem MDefXE.to0 (D : MDefXE P w K mg base C m k ps dvs sp) : MDefE P w K mg base C m k ps dvs (fun vs H Q _ => sp vs H Q E0) :=
  let ⟨ds, a, b⟩ := D; ⟨ds, a, b.to0⟩
theorem vals1A {a : V} {items : Array Value} (h : Vals [a] items.toList) : ∃ u, items = #[u] ∧ RelV a u := by
  obtain ⟨l⟩ := items
  cases h with
  | cons h1 h => cases h with
    | nil => exact ⟨_, rfl, h1⟩
/-- a def that is read off its class, and may refuse -/
def CDefX (P : Program) (w : World) (K : PySem.W.Frag) (mg : Str → Option Value) (base : Heap) (C : Addr) (m : Str) (k : Nat) (ps : List Str) (sp : Sp) : Prop :=
  ∃ f fd, ClsFn K C m f ∧ Binds K fd ps [] ∧ FnOk P w K mg base (CX1 P w) k f fd ps sp
theorem cdefX_of (h : ∃ f fd, ClsFn K C m f ∧ FunD K m qual st .none f fd)
    (hb : ∀ (kV doc pm : Value) (an : Option Addr) (cdv ct : Value) (us : List Value), us.length = ps.length → bindArgs (PySem.W.fnOf m qual (defArgs st) (defBody st) (defScope st) .none kV doc pm an cdv ct) ⟨us, []⟩ = pure (ps.zip us))
    (hf : ∀ f fd, FunD K m qual st .none f fd → FnOk P w K mg base (CX1 P w) k f fd ps sp) : CDefX P w K mg base C m k ps sp := by
  obtain ⟨f, fd, M, F⟩ := h
  exact ⟨f, fd, M, F.binds0 hb, hf f fd F⟩
theorem HasM.ofX (h : HasM K C m qual st .none)
    (hb : ∀ (kV doc pm : Value) (an : Option Addr) (cdv ct : Value) (us : List Value), us.length = ps.length → bindArgs (PySem.W.fnOf m qual (defArgs st) (defBody st) (defScope st) .none kV doc pm an cdv ct) ⟨us, []⟩ = pure (ps.zip us))
    (hf : ∀ f fd, FunD K m qual st .none f fd → FnOk P w K mg base (CX1 P w) k f fd ps sp) : MDefX P w K mg base C m k ps [] sp := by
  obtain ⟨f, fd, M, F⟩ := h
  exact ⟨f, fd, M, F.binds0 hb, hf f fd F⟩
end
section
variable {X : Cx} {C : Addr} {m x : Str} {p pos apos : Pos} {e o : Expr} {es : List Expr} {t : TA} {k : Nat} {ps : List Str} {sp : Sp} {dvs : List V} {E : XK}
theorem pe_makeXE (M : MkCl X.K C) (D : MDefXE X.prog X.w X.K X.mg X.base C "__init__" k ps dvs sp) (hr : Room (k + 1) X.A) (hx : Passes (CX1 X.prog X.w) X E) (hm : X.mg x = some (.ref C)) (ha : PA X (e :: es) t) (hg : Gl X x := by rfl) (hdb : (x == ("__debug__" : Str)) = false := by decide)
    (he : starEach (e :: es) X.env = (false, eval e X.env) :: starEach es X.env := by rfl) (hpl : (backTo pos (starEach es X.env)).any (·.1) = false := by rfl) : PE X (.Call (.Name x p) (e :: es) [] pos) (tMake C sp dvs E t) := by
  obtain ⟨ds, hd, D⟩ := D
  exact pe_makeX M D hd hr hx hm ha hg hdb he hpl
theorem pe_clsX {pl : Sem Bool} (c : CDefX X.prog X.w X.K X.mg X.base C m k ps sp) (hr : Room k X.A) (hx : Passes (CX1 X.prog X.w) X E) (hm : X.mg x = some (.ref C)) (ha : PA X (e :: es) t)
    (hg : Gl X x := by rfl) (hdb : (x == ("__debug__" : Str)) = false := by decide)
    (hst : starEach (e :: es) X.env = (false, eval e X.env) :: starEach es X.env := by rfl) (hpl : (backTo pos (starEach es X.env)).any (·.1) = false := by rfl)
    (ht : eval (.Call (.Attribute (.Name x p) m apos) (e :: es) [] pos) X.env = (do
      let ov ← eval (.Name x p) X.env
      standAt apos.atName
      let (f, first) ← holding [ov] (getMethod ov m pl)
      callWith pos f first (backTo pos (starEach (e :: es) X.env)) (backToKw pos (keywordEach [] X.env))) := by rfl) :
    PE X (.Call (.Attribute (.Name x p) m apos) (e :: es) [] pos) (tCall sp [] E t) := by
  obtain ⟨f, fd, c, hb, F⟩ := c
  have he : PE X (.Name x p) (tC (.ref C)) := pe_glob (v := V.ref C) hg hm rfl hdb
  intro pins s σ H Q I h
  refine PySem.W.methodCall_KW (pl := pl) (thn (he pins s σ H (fun v H1 => v = .ref C ∧ H1 = H) I ⟨rfl, rfl⟩) fun u s1 z => ?_) ht
  obtain ⟨v, H1, I1, rx, rfl, rfl⟩ := z
  obtain rfl : u = Value.ref C := rx
  obtain ⟨mc, h1, h2⟩ := c.rd
  refine PySem.W.method_cls I1.kIn c.ga (PySem.W.cls_value I1.kIn h1 h2 rfl ?_)
  have I2 : Inv X pins σ H1 { s1 with toks := s1.toks + 1 } := I1.tok _
  refine PySem.W.callWith_K (first := []) (h₀ := X.base) I.ok.mod.kin c.kp (thn (ha pos pins _ σ H1 _ I2 h) fun us s2 ⟨vs, H2, I3, r, q2⟩ => ⟨I3.kIn, ?_⟩) hst hpl
  exact run_fn (us := us) (vs := vs) F hr hb .nil hx I3 r q2
end
end L2


namespace K35
open PySem PySem.Spec PyProof.Rows L2 Mth
seal PE PS PSs PPs PA PG PGs PT PIf PI
def top (i : Nat) : Stmt := PySem.Challenge.pw_stoke_k35_too_many_minds.main.body.getD i (.Pass ⟨0, 0, 0, 0⟩)
abbrev s_wall : Stmt := top 0
theorem sc_wall : FnScope ["k"] ["k"] (defScope s_wall) := ⟨rfl, rfl, rfl, by decide +kernel, rfl, by decide +kernel, by decide +kernel⟩
abbrev s_NoRoom___init__ : Stmt := inClass (top 22) 0
theorem sc_NoRoom___init__ : FnScope ["self", "room"] ["self", "room"] (defScope s_NoRoom___init__) := ⟨rfl, rfl, rfl, by decide +kernel, rfl, by decide +kernel, by decide +kernel⟩
abbrev s_NoShare___init__ : Stmt := inClass (top 23) 0
theorem sc_NoShare___init__ : FnScope ["self", "room"] ["self", "room"] (defScope s_NoShare___init__) := ⟨rfl, rfl, rfl, by decide +kernel, rfl, by decide +kernel, by decide +kernel⟩
abbrev s_NoTurn___init__ : Stmt := inClass (top 24) 0
theorem sc_NoTurn___init__ : FnScope ["self", "room", "turn"] ["self", "room", "turn"] (defScope s_NoTurn___init__) := ⟨rfl, rfl, rfl, by decide +kernel, rfl, by decide +kernel, by decide +kernel⟩
abbrev s_NoBand___init__ : Stmt := inClass (top 25) 0
theorem sc_NoBand___init__ : FnScope ["self", "room", "turn"] ["self", "room", "turn"] (defScope s_NoBand___init__) := ⟨rfl, rfl, rfl, by decide +kernel, rfl, by decide +kernel, by decide +kernel⟩
abbrev s_Keeper_minds : Stmt := inClass (top 30) 0
theorem sc_Keeper_minds : FnScope ["self"] ["self"] (defScope s_Keeper_minds) := ⟨rfl, rfl, rfl, by decide +kernel, rfl, by decide +kernel, by decide +kernel⟩
abbrev s_Keeper_size : Stmt := inClass (top 30) 1
theorem sc_Keeper_size : FnScope ["self"] ["self"] (defScope s_Keeper_size) := ⟨rfl, rfl, rfl, by decide +kernel, rfl, by decide +kernel, by decide +kernel⟩
abbrev s_Keeper_wish : Stmt := inClass (top 30) 2
theorem sc_Keeper_wish : FnScope ["self", "mind", "state"] ["self", "mind", "state"] (defScope s_Keeper_wish) := ⟨rfl, rfl, rfl, by decide +kernel, rfl, by decide +kernel, by decide +kernel⟩
abbrev s_Keeper_after : Stmt := inClass (top 30) 3
theorem sc_Keeper_after : FnScope ["self", "mind", "state"] ["self", "mind", "state"] (defScope s_Keeper_after) := ⟨rfl, rfl, rfl, by decide +kernel, rfl, by decide +kernel, by decide +kernel⟩
abbrev s_look_at_size : Stmt := top 31
theorem sc_look_at_size : FnScope ["keeper"] ["keeper"] (defScope s_look_at_size) := ⟨rfl, rfl, rfl, by decide +kernel, rfl, by decide +kernel, by decide +kernel⟩
abbrev s_Clock___init__ : Stmt := inClass (top 32) 0
theorem sc_Clock___init__ : FnScope ["self", "wishes"] ["self", "wishes"] (defScope s_Clock___init__) := ⟨rfl, rfl, rfl, by decide +kernel, rfl, by decide +kernel, by decide +kernel⟩
abbrev s_Clock_minds : Stmt := inClass (top 32) 1
theorem sc_Clock_minds : FnScope ["self"] ["self"] (defScope s_Clock_minds) := ⟨rfl, rfl, rfl, by decide +kernel, rfl, by decide +kernel, by decide +kernel⟩
abbrev s_Clock_wish : Stmt := inClass (top 32) 2
theorem sc_Clock_wish : FnScope ["self", "mind", "state"] ["self", "mind", "state"] (defScope s_Clock_wish) := ⟨rfl, rfl, rfl, by decide +kernel, rfl, by decide +kernel, by decide +kernel⟩
abbrev s_Clock_after : Stmt := inClass (top 32) 3
theorem sc_Clock_after : FnScope ["self", "mind", "state"] ["self", "mind", "state"] (defScope s_Clock_after) := ⟨rfl, rfl, rfl, by decide +kernel, rfl, by decide +kernel, by decide +kernel⟩
abbrev s_Table___init__ : Stmt := inClass (top 33) 0
theorem sc_Table___init__ : FnScope ["self", "rows", "other"] ["self", "rows", "other"] (defScope s_Table___init__) := ⟨rfl, rfl, rfl, by decide +kernel, rfl, by decide +kernel, by decide +kernel⟩
abbrev s_Table_minds : Stmt := inClass (top 33) 1
theorem sc_Table_minds : FnScope ["self"] ["self"] (defScope s_Table_minds) := ⟨rfl, rfl, rfl, by decide +kernel, rfl, by decide +kernel, by decide +kernel⟩
abbrev s_Table_size : Stmt := inClass (top 33) 2
theorem sc_Table_size : FnScope ["self"] ["self"] (defScope s_Table_size) := ⟨rfl, rfl, rfl, by decide +kernel, rfl, by decide +kernel, by decide +kernel⟩
abbrev s_Table_wish : Stmt := inClass (top 33) 3
theorem sc_Table_wish : FnScope ["self", "mind", "state"] ["self", "mind", "state"] (defScope s_Table_wish) := ⟨rfl, rfl, rfl, by decide +kernel, rfl, by decide +kernel, by decide +kernel⟩
abbrev s_Table_after : Stmt := inClass (top 33) 4
theorem sc_Table_after : FnScope ["self", "mind", "state"] ["self", "mind", "state"] (defScope s_Table_after) := ⟨rfl, rfl, rfl, by decide +kernel, rfl, by decide +kernel, by decide +kernel⟩
abbrev s_Pair___init__ : Stmt := inClass (top 34) 0
theorem sc_Pair___init__ : FnScope ["self", "one", "other"] ["self", "one", "other"] (defScope s_Pair___init__) := ⟨rfl, rfl, rfl, by decide +kernel, rfl, by decide +kernel, by decide +kernel⟩
abbrev s_Pair_minds : Stmt := inClass (top 34) 1
theorem sc_Pair_minds : FnScope ["self"] ["self"] (defScope s_Pair_minds) := ⟨rfl, rfl, rfl, by decide +kernel, rfl, by decide +kernel, by decide +kernel⟩
abbrev s_Pair_size : Stmt := inClass (top 34) 2
theorem sc_Pair_size : FnScope ["self"] ["self"] (defScope s_Pair_size) := ⟨rfl, rfl, rfl, by decide +kernel, rfl, by decide +kernel, by decide +kernel⟩
abbrev s_Pair_wish : Stmt := inClass (top 34) 3
theorem sc_Pair_wish : FnScope ["self", "mind", "state"] ["self", "mind", "state"] (defScope s_Pair_wish) := ⟨rfl, rfl, rfl, by decide +kernel, rfl, by decide +kernel, by decide +kernel⟩
abbrev s_Pair_after : Stmt := inClass (top 34) 4
theorem sc_Pair_after : FnScope ["self", "mind", "state"] ["self", "mind", "state"] (defScope s_Pair_after) := ⟨rfl, rfl, rfl, by decide +kernel, rfl, by decide +kernel, by decide +kernel⟩
abbrev s_Pair_wish_of_one : Stmt := inClass (top 34) 5
theorem sc_Pair_wish_of_one : FnScope ["self", "mind", "state"] ["self", "mind", "state"] (defScope s_Pair_wish_of_one) := ⟨rfl, rfl, rfl, by decide +kernel, rfl, by decide +kernel, by decide +kernel⟩
abbrev s_Pair_wish_of_other : Stmt := inClass (top 34) 6
theorem sc_Pair_wish_of_other : FnScope ["self", "mind", "state"] ["self", "mind", "state"] (defScope s_Pair_wish_of_other) := ⟨rfl, rfl, rfl, by decide +kernel, rfl, by decide +kernel, by decide +kernel⟩
abbrev s_Either_wish : Stmt := inClass (top 35) 0
theorem sc_Either_wish : FnScope ["self", "mind", "state"] ["self", "mind", "state"] (defScope s_Either_wish) := ⟨rfl, rfl, rfl, by decide +kernel, rfl, by decide +kernel, by decide +kernel⟩
abbrev s_Together_wish : Stmt := inClass (top 36) 0
theorem sc_Together_wish : FnScope ["self", "mind", "state"] ["self", "mind", "state"] (defScope s_Together_wish) := ⟨rfl, rfl, rfl, by decide +kernel, rfl, by decide +kernel, by decide +kernel⟩
abbrev s_Below___init__ : Stmt := inClass (top 37) 0
theorem sc_Below___init__ : FnScope ["self", "room", "band", "one", "other"] ["self", "room", "band", "one", "other"] (defScope s_Below___init__) := ⟨rfl, rfl, rfl, by decide +kernel, rfl, by decide +kernel, by decide +kernel⟩
abbrev s_Below_wish : Stmt := inClass (top 37) 1
theorem sc_Below_wish : FnScope ["self", "mind", "state"] ["self", "mind", "state"] (defScope s_Below_wish) := ⟨rfl, rfl, rfl, by decide +kernel, rfl, by decide +kernel, by decide +kernel⟩
abbrev s_law_cell_at : Stmt := top 39
theorem sc_law_cell_at : FnScope ["_law_script", "_law_k"] ["_law_script", "_law_k"] (defScope s_law_cell_at) := ⟨rfl, rfl, rfl, by decide +kernel, rfl, by decide +kernel, by decide +kernel⟩
abbrev s_law_whole : Stmt := top 40
theorem sc_law_whole : FnScope ["_law_found"] ["_law_found"] (defScope s_law_whole) := ⟨rfl, rfl, rfl, by decide +kernel, rfl, by decide +kernel, by decide +kernel⟩
abbrev s_law_stream : Stmt := top 41
theorem sc_law_stream : FnScope ["_law_cell", "_law_many", "_law_found", "_law_number", "_law_k"] ["_law_cell", "_law_many"] (defScope s_law_stream) := ⟨rfl, rfl, rfl, by decide +kernel, rfl, by decide +kernel, by decide +kernel⟩
abbrev s_law_made : Stmt := top 42
theorem sc_law_made : FnScope ["_law_way", "_law_one", "_law_other"] ["_law_way", "_law_one", "_law_other"] (defScope s_law_made) := ⟨rfl, rfl, rfl, by decide +kernel, rfl, by decide +kernel, by decide +kernel⟩
abbrev s_law_told : Stmt := top 43
theorem sc_law_told : FnScope ["_law_way", "_law_one", "_law_other", "_law_keeper", "_law_own", "e"] ["_law_way", "_law_one", "_law_other"] (defScope s_law_told) := ⟨rfl, rfl, rfl, by decide +kernel, rfl, by decide +kernel, by decide +kernel⟩
abbrev s_law_right : Stmt := top 44
theorem sc_law_right : FnScope ["_law_told_here", "_law_minds", "_law_size"] ["_law_told_here", "_law_minds", "_law_size"] (defScope s_law_right) := ⟨rfl, rfl, rfl, by decide +kernel, rfl, by decide +kernel, by decide +kernel⟩
abbrev s_law_minds_right : Stmt := top 45
theorem sc_law_minds_right : FnScope ["_law_xs", "_law_first", "_law_second", "_law_one", "_law_told_here"] ["_law_xs"] (defScope s_law_minds_right) := ⟨rfl, rfl, rfl, by decide +kernel, rfl, by decide +kernel, by decide +kernel⟩
abbrev s_law_size_right : Stmt := top 46
theorem sc_law_size_right : FnScope ["_law_xs", "_law_keeper", "_law_minds", "_law_size", "_law_steps", "_law_way"] ["_law_xs"] (defScope s_law_size_right) := ⟨rfl, rfl, rfl, by decide +kernel, rfl, by decide +kernel, by decide +kernel⟩
abbrev s_law : Stmt := top 47
theorem sc_law : FnScope ["_law_script", "_law_k", "_law_xs"] ["_law_script"] (defScope s_law) := ⟨rfl, rfl, rfl, by decide +kernel, rfl, by decide +kernel, by decide +kernel⟩
structure Ads where
  Keeper : Addr
  Clock : Addr
  Table : Addr
  Pair : Addr
  Either : Addr
  Together : Addr
  Below : Addr
  StokeError : Addr
  Ended : Addr
  Full : Addr
  NoBand : Addr
  NoFailing : Addr
  NoHold : Addr
  NoKeeper : Addr
  NoLine : Addr
  NoMarks : Addr
  NoName : Addr
  NoNumber : Addr
  NoOrder : Addr
  NoRoom : Addr
  NoShare : Addr
  NoSky : Addr
  NoState : Addr
  NoStove : Addr
  NoText : Addr
  NoTurn : Addr
  NotKept : Addr
  NotOut : Addr
  Shared : Addr
  TooMany : Addr
  Twice : Addr
  T_Table___init__ : Addr
structure Txt (K : PySem.W.Frag) (mg : Str → Option Value) (A : Ads) : Prop where
  m_Keeper : mg "Keeper" = some (.ref A.Keeper)
  m_Clock : mg "Clock" = some (.ref A.Clock)
  m_Table : mg "Table" = some (.ref A.Table)
  m_Pair : mg "Pair" = some (.ref A.Pair)
  m_Either : mg "Either" = some (.ref A.Either)
  m_Together : mg "Together" = some (.ref A.Together)
  m_Below : mg "Below" = some (.ref A.Below)
  m_StokeError : mg "StokeError" = some (.ref A.StokeError)
  m_Ended : mg "Ended" = some (.ref A.Ended)
  m_Full : mg "Full" = some (.ref A.Full)
  m_NoBand : mg "NoBand" = some (.ref A.NoBand)
  m_NoFailing : mg "NoFailing" = some (.ref A.NoFailing)
  m_NoHold : mg "NoHold" = some (.ref A.NoHold)
  m_NoKeeper : mg "NoKeeper" = some (.ref A.NoKeeper)
  m_NoLine : mg "NoLine" = some (.ref A.NoLine)
  m_NoMarks : mg "NoMarks" = some (.ref A.NoMarks)
  m_NoName : mg "NoName" = some (.ref A.NoName)
  m_NoNumber : mg "NoNumber" = some (.ref A.NoNumber)
  m_NoOrder : mg "NoOrder" = some (.ref A.NoOrder)
  m_NoRoom : mg "NoRoom" = some (.ref A.NoRoom)
  m_NoShare : mg "NoShare" = some (.ref A.NoShare)
  m_NoSky : mg "NoSky" = some (.ref A.NoSky)
  m_NoState : mg "NoState" = some (.ref A.NoState)
  m_NoStove : mg "NoStove" = some (.ref A.NoStove)
  m_NoText : mg "NoText" = some (.ref A.NoText)
  m_NoTurn : mg "NoTurn" = some (.ref A.NoTurn)
  m_NotKept : mg "NotKept" = some (.ref A.NotKept)
  m_NotOut : mg "NotOut" = some (.ref A.NotOut)
  m_Shared : mg "Shared" = some (.ref A.Shared)
  m_TooMany : mg "TooMany" = some (.ref A.TooMany)
  m_Twice : mg "Twice" = some (.ref A.Twice)
  x_TooMany : PySem.W.excIn K A.TooMany [.type "ValueError", .type "Exception", .type "BaseException", .type "object"] "ValueError.__new__" = true
  xga_TooMany : PySem.W.findIn K (.ref A.TooMany) "__getattribute__" = some (some (.builtin "BaseException.__getattribute__"))
  xgt_TooMany : PySem.W.findIn K (.ref A.TooMany) "__getattr__" = some none
  xcl_TooMany : PySem.W.findIn K (.ref A.TooMany) "__class__" = some (some (.builtin "object.__class__"))
  xmo_TooMany : PySem.W.mroIn K A.TooMany (.type "object") = some true
  xmb_TooMany : PySem.W.mroIn K A.TooMany (.type "BaseException") = some true
  xis_TooMany : PySem.W.isClsIn K A.TooMany = true
  gs : PySem.W.specialIn K (.builtin "object.__class__") "__get__" = some (some (.builtin "getset_descriptor.__get__"))
  tk : PySem.W.takesIn K (.builtin "object.__class__") = some true
  ex : PySem.W.exmOne K (.ref A.TooMany) (.ref A.StokeError) = some true
  k0 : PySem.W.kitAny K (.ref A.TooMany) [.ref A.Ended, .ref A.Full, .ref A.NoBand, .ref A.NoFailing, .ref A.NoHold, .ref A.NoKeeper, .ref A.NoLine, .ref A.NoMarks, .ref A.NoName, .ref A.NoNumber] = some false
  k2 : PySem.W.kitAny K (.ref A.TooMany) [.ref A.NoOrder, .ref A.NoRoom, .ref A.NoShare, .ref A.NoSky, .ref A.NoState, .ref A.NoStove, .ref A.NoText, .ref A.NoTurn, .ref A.NotKept, .ref A.NotOut] = some false
  k4 : PySem.W.kitAny K (.ref A.TooMany) [.ref A.Shared, .ref A.Twice] = some false
  k1 : PySem.W.kitOne K (.ref A.TooMany) (.type "ValueError") = some true
  k3 : PySem.W.kitOne K (.ref A.TooMany) (.ref A.TooMany) = some true
  in_Keeper : PySem.W.findIn K (.ref A.Keeper) "__init__" = some (some (.builtin "object.__init__"))
  m_MOST_MINDS : ∃ t, mg "MOST_MINDS" = some (.int 60 t)
  m_MOST_SIZE : ∃ t, mg "MOST_SIZE" = some (.int 15 t)
  m_MOST_WISHES : ∃ t, mg "MOST_WISHES" = some (.int 24 t)
  cl_Keeper : Cls K A.Keeper
  mk_Keeper : MkCl K A.Keeper
  e_Keeper_minds : HasM K A.Keeper "minds" "Keeper.minds" s_Keeper_minds .none
  e_Keeper_size : HasM K A.Keeper "size" "Keeper.size" s_Keeper_size .none
  e_Keeper_wish : HasM K A.Keeper "wish" "Keeper.wish" s_Keeper_wish .none
  e_Keeper_after : HasM K A.Keeper "after" "Keeper.after" s_Keeper_after .none
  cl_Clock : Cls K A.Clock
  mk_Clock : MkCl K A.Clock
  na_Clock_wishes : NoAttr K A.Clock "wishes"
  e_Clock___init__ : HasM K A.Clock "__init__" "Clock.__init__" s_Clock___init__ .none
  e_Clock_minds : HasM K A.Clock "minds" "Clock.minds" s_Clock_minds .none
  e_Clock_wish : HasM K A.Clock "wish" "Clock.wish" s_Clock_wish .none
  e_Clock_after : HasM K A.Clock "after" "Clock.after" s_Clock_after .none
  e_Clock_size : HasM K A.Clock "size" "Keeper.size" s_Keeper_size .none
  cl_Table : Cls K A.Table
  mk_Table : MkCl K A.Table
  na_Table_rows : NoAttr K A.Table "rows"
  na_Table_other : NoAttr K A.Table "other"
  e_Table___init__ : HasM K A.Table "__init__" "Table.__init__" s_Table___init__ (.ref A.T_Table___init__)
  t_Table___init__ : DfIs K A.T_Table___init__ [.non]
  e_Table_minds : HasM K A.Table "minds" "Table.minds" s_Table_minds .none
  e_Table_size : HasM K A.Table "size" "Table.size" s_Table_size .none
  e_Table_wish : HasM K A.Table "wish" "Table.wish" s_Table_wish .none
  e_Table_after : HasM K A.Table "after" "Table.after" s_Table_after .none
  cl_Pair : Cls K A.Pair
  mk_Pair : MkCl K A.Pair
  na_Pair_one : NoAttr K A.Pair "one"
  na_Pair_other : NoAttr K A.Pair "other"
  e_Pair___init__ : HasM K A.Pair "__init__" "Pair.__init__" s_Pair___init__ .none
  e_Pair_minds : HasM K A.Pair "minds" "Pair.minds" s_Pair_minds .none
  e_Pair_size : HasM K A.Pair "size" "Pair.size" s_Pair_size .none
  e_Pair_wish : HasM K A.Pair "wish" "Pair.wish" s_Pair_wish .none
  e_Pair_after : HasM K A.Pair "after" "Pair.after" s_Pair_after .none
  e_Pair_wish_of_one : HasM K A.Pair "wish_of_one" "Pair.wish_of_one" s_Pair_wish_of_one .none
  e_Pair_wish_of_other : HasM K A.Pair "wish_of_other" "Pair.wish_of_other" s_Pair_wish_of_other .none
  cl_Either : Cls K A.Either
  mk_Either : MkCl K A.Either
  na_Either_one : NoAttr K A.Either "one"
  na_Either_other : NoAttr K A.Either "other"
  e_Either_wish : HasM K A.Either "wish" "Either.wish" s_Either_wish .none
  e_Either___init__ : HasM K A.Either "__init__" "Pair.__init__" s_Pair___init__ .none
  e_Either_minds : HasM K A.Either "minds" "Pair.minds" s_Pair_minds .none
  e_Either_size : HasM K A.Either "size" "Pair.size" s_Pair_size .none
  e_Either_after : HasM K A.Either "after" "Pair.after" s_Pair_after .none
  e_Either_wish_of_one : HasM K A.Either "wish_of_one" "Pair.wish_of_one" s_Pair_wish_of_one .none
  e_Either_wish_of_other : HasM K A.Either "wish_of_other" "Pair.wish_of_other" s_Pair_wish_of_other .none
  cl_Together : Cls K A.Together
  mk_Together : MkCl K A.Together
  na_Together_one : NoAttr K A.Together "one"
  na_Together_other : NoAttr K A.Together "other"
  e_Together_wish : HasM K A.Together "wish" "Together.wish" s_Together_wish .none
  e_Together___init__ : HasM K A.Together "__init__" "Pair.__init__" s_Pair___init__ .none
  e_Together_minds : HasM K A.Together "minds" "Pair.minds" s_Pair_minds .none
  e_Together_size : HasM K A.Together "size" "Pair.size" s_Pair_size .none
  e_Together_after : HasM K A.Together "after" "Pair.after" s_Pair_after .none
  e_Together_wish_of_one : HasM K A.Together "wish_of_one" "Pair.wish_of_one" s_Pair_wish_of_one .none
  e_Together_wish_of_other : HasM K A.Together "wish_of_other" "Pair.wish_of_other" s_Pair_wish_of_other .none
  cl_Below : Cls K A.Below
  mk_Below : MkCl K A.Below
  na_Below_one : NoAttr K A.Below "one"
  na_Below_other : NoAttr K A.Below "other"
  na_Below_room : NoAttr K A.Below "room"
  na_Below_band : NoAttr K A.Below "band"
  e_Below___init__ : HasM K A.Below "__init__" "Below.__init__" s_Below___init__ .none
  e_Below_wish : HasM K A.Below "wish" "Below.wish" s_Below_wish .none
  e_Below_minds : HasM K A.Below "minds" "Pair.minds" s_Pair_minds .none
  e_Below_size : HasM K A.Below "size" "Pair.size" s_Pair_size .none
  e_Below_after : HasM K A.Below "after" "Pair.after" s_Pair_after .none
  e_Below_wish_of_one : HasM K A.Below "wish_of_one" "Pair.wish_of_one" s_Pair_wish_of_one .none
  e_Below_wish_of_other : HasM K A.Below "wish_of_other" "Pair.wish_of_other" s_Pair_wish_of_other .none
  g_Pair___init__ : ∃ f fd, ClsFn K A.Pair "__init__" f ∧ FunD K "__init__" "Pair.__init__" s_Pair___init__ .none f fd
  d_wall : Has K mg "_wall" s_wall
  d_look_at_size : Has K mg "look_at_size" s_look_at_size
  d_law_cell_at : Has K mg "_law_cell_at" s_law_cell_at
  d_law_whole : Has K mg "_law_whole" s_law_whole
  d_law_stream : Has K mg "_law_stream" s_law_stream
  d_law_made : Has K mg "_law_made" s_law_made
  d_law_told : Has K mg "_law_told" s_law_told
  d_law_right : Has K mg "_law_right" s_law_right
  d_law_minds_right : Has K mg "_law_minds_right" s_law_minds_right
  d_law_size_right : Has K mg "_law_size_right" s_law_size_right
  d_law : Has K mg "law" s_law
  n_ValueError : mg "ValueError" = none
  n_bool : mg "bool" = none
  n_dict : mg "dict" = none
  n_int : mg "int" = none
  n_isinstance : mg "isinstance" = none
  n_len : mg "len" = none
  n_list : mg "list" = none
  n_range : mg "range" = none
  n_tuple : mg "tuple" = none
theorem txt_mk {K : PySem.W.Frag} {h : Heap} {mg : Str → Option Value} (X : K.In h) (G : h.Ns mainGlobals mg)
    {c_Keeper : Addr}
    {c_Clock : Addr}
    {c_Table : Addr}
    {c_Pair : Addr}
    {c_Either : Addr}
    {c_Together : Addr}
    {c_Below : Addr}
    {c_StokeError : Addr}
    {c_Ended : Addr}
    {c_Full : Addr}
    {c_NoBand : Addr}
    {c_NoFailing : Addr}
    {c_NoHold : Addr}
    {c_NoKeeper : Addr}
    {c_NoLine : Addr}
    {c_NoMarks : Addr}
    {c_NoName : Addr}
    {c_NoNumber : Addr}
    {c_NoOrder : Addr}
    {c_NoRoom : Addr}
    {c_NoShare : Addr}
    {c_NoSky : Addr}
    {c_NoState : Addr}
    {c_NoStove : Addr}
    {c_NoText : Addr}
    {c_NoTurn : Addr}
    {c_NotKept : Addr}
    {c_NotOut : Addr}
    {c_Shared : Addr}
    {c_TooMany : Addr}
    {c_Twice : Addr}
    {t_MOST_MINDS : Tok}
    {t_MOST_SIZE : Tok}
    {t_MOST_WISHES : Tok}
    {f_Keeper_minds : Addr} {od_Keeper_minds an_Keeper_minds : Option Addr} {sl_Keeper_minds : Array (Option Value)} {oc_Keeper_minds kV_Keeper_minds dc_Keeper_minds pm_Keeper_minds cd_Keeper_minds ct_Keeper_minds : Value}
    {f_Keeper_size : Addr} {od_Keeper_size an_Keeper_size : Option Addr} {sl_Keeper_size : Array (Option Value)} {oc_Keeper_size kV_Keeper_size dc_Keeper_size pm_Keeper_size cd_Keeper_size ct_Keeper_size : Value}
    {f_Keeper_wish : Addr} {od_Keeper_wish an_Keeper_wish : Option Addr} {sl_Keeper_wish : Array (Option Value)} {oc_Keeper_wish kV_Keeper_wish dc_Keeper_wish pm_Keeper_wish cd_Keeper_wish ct_Keeper_wish : Value}
    {f_Keeper_after : Addr} {od_Keeper_after an_Keeper_after : Option Addr} {sl_Keeper_after : Array (Option Value)} {oc_Keeper_after kV_Keeper_after dc_Keeper_after pm_Keeper_after cd_Keeper_after ct_Keeper_after : Value}
    {f_Clock___init__ : Addr} {od_Clock___init__ an_Clock___init__ : Option Addr} {sl_Clock___init__ : Array (Option Value)} {oc_Clock___init__ kV_Clock___init__ dc_Clock___init__ pm_Clock___init__ cd_Clock___init__ ct_Clock___init__ : Value}
    {f_Clock_minds : Addr} {od_Clock_minds an_Clock_minds : Option Addr} {sl_Clock_minds : Array (Option Value)} {oc_Clock_minds kV_Clock_minds dc_Clock_minds pm_Clock_minds cd_Clock_minds ct_Clock_minds : Value}
    {f_Clock_wish : Addr} {od_Clock_wish an_Clock_wish : Option Addr} {sl_Clock_wish : Array (Option Value)} {oc_Clock_wish kV_Clock_wish dc_Clock_wish pm_Clock_wish cd_Clock_wish ct_Clock_wish : Value}
    {f_Clock_after : Addr} {od_Clock_after an_Clock_after : Option Addr} {sl_Clock_after : Array (Option Value)} {oc_Clock_after kV_Clock_after dc_Clock_after pm_Clock_after cd_Clock_after ct_Clock_after : Value}
    {f_Clock_size : Addr} {od_Clock_size an_Clock_size : Option Addr} {sl_Clock_size : Array (Option Value)} {oc_Clock_size kV_Clock_size dc_Clock_size pm_Clock_size cd_Clock_size ct_Clock_size : Value}
    {f_Table___init__ : Addr} {od_Table___init__ an_Table___init__ : Option Addr} {sl_Table___init__ : Array (Option Value)} {oc_Table___init__ kV_Table___init__ dc_Table___init__ pm_Table___init__ cd_Table___init__ ct_Table___init__ : Value}
    {T_Table___init__ : Addr}
    {do_Table___init__ : Value} {dd_Table___init__ : Option Addr} {dn_Table___init__ : Nat} {ds_Table___init__ : Array (Option Value)}
    {f_Table_minds : Addr} {od_Table_minds an_Table_minds : Option Addr} {sl_Table_minds : Array (Option Value)} {oc_Table_minds kV_Table_minds dc_Table_minds pm_Table_minds cd_Table_minds ct_Table_minds : Value}
    {f_Table_size : Addr} {od_Table_size an_Table_size : Option Addr} {sl_Table_size : Array (Option Value)} {oc_Table_size kV_Table_size dc_Table_size pm_Table_size cd_Table_size ct_Table_size : Value}
    {f_Table_wish : Addr} {od_Table_wish an_Table_wish : Option Addr} {sl_Table_wish : Array (Option Value)} {oc_Table_wish kV_Table_wish dc_Table_wish pm_Table_wish cd_Table_wish ct_Table_wish : Value}
    {f_Table_after : Addr} {od_Table_after an_Table_after : Option Addr} {sl_Table_after : Array (Option Value)} {oc_Table_after kV_Table_after dc_Table_after pm_Table_after cd_Table_after ct_Table_after : Value}
    {f_Pair___init__ : Addr} {od_Pair___init__ an_Pair___init__ : Option Addr} {sl_Pair___init__ : Array (Option Value)} {oc_Pair___init__ kV_Pair___init__ dc_Pair___init__ pm_Pair___init__ cd_Pair___init__ ct_Pair___init__ : Value}
    {f_Pair_minds : Addr} {od_Pair_minds an_Pair_minds : Option Addr} {sl_Pair_minds : Array (Option Value)} {oc_Pair_minds kV_Pair_minds dc_Pair_minds pm_Pair_minds cd_Pair_minds ct_Pair_minds : Value}
    {f_Pair_size : Addr} {od_Pair_size an_Pair_size : Option Addr} {sl_Pair_size : Array (Option Value)} {oc_Pair_size kV_Pair_size dc_Pair_size pm_Pair_size cd_Pair_size ct_Pair_size : Value}
    {f_Pair_wish : Addr} {od_Pair_wish an_Pair_wish : Option Addr} {sl_Pair_wish : Array (Option Value)} {oc_Pair_wish kV_Pair_wish dc_Pair_wish pm_Pair_wish cd_Pair_wish ct_Pair_wish : Value}
    {f_Pair_after : Addr} {od_Pair_after an_Pair_after : Option Addr} {sl_Pair_after : Array (Option Value)} {oc_Pair_after kV_Pair_after dc_Pair_after pm_Pair_after cd_Pair_after ct_Pair_after : Value}
    {f_Pair_wish_of_one : Addr} {od_Pair_wish_of_one an_Pair_wish_of_one : Option Addr} {sl_Pair_wish_of_one : Array (Option Value)} {oc_Pair_wish_of_one kV_Pair_wish_of_one dc_Pair_wish_of_one pm_Pair_wish_of_one cd_Pair_wish_of_one ct_Pair_wish_of_one : Value}
    {f_Pair_wish_of_other : Addr} {od_Pair_wish_of_other an_Pair_wish_of_other : Option Addr} {sl_Pair_wish_of_other : Array (Option Value)} {oc_Pair_wish_of_other kV_Pair_wish_of_other dc_Pair_wish_of_other pm_Pair_wish_of_other cd_Pair_wish_of_other ct_Pair_wish_of_other : Value}
    {f_Either_wish : Addr} {od_Either_wish an_Either_wish : Option Addr} {sl_Either_wish : Array (Option Value)} {oc_Either_wish kV_Either_wish dc_Either_wish pm_Either_wish cd_Either_wish ct_Either_wish : Value}
    {f_Either___init__ : Addr} {od_Either___init__ an_Either___init__ : Option Addr} {sl_Either___init__ : Array (Option Value)} {oc_Either___init__ kV_Either___init__ dc_Either___init__ pm_Either___init__ cd_Either___init__ ct_Either___init__ : Value}
    {f_Either_minds : Addr} {od_Either_minds an_Either_minds : Option Addr} {sl_Either_minds : Array (Option Value)} {oc_Either_minds kV_Either_minds dc_Either_minds pm_Either_minds cd_Either_minds ct_Either_minds : Value}
    {f_Either_size : Addr} {od_Either_size an_Either_size : Option Addr} {sl_Either_size : Array (Option Value)} {oc_Either_size kV_Either_size dc_Either_size pm_Either_size cd_Either_size ct_Either_size : Value}
    {f_Either_after : Addr} {od_Either_after an_Either_after : Option Addr} {sl_Either_after : Array (Option Value)} {oc_Either_after kV_Either_after dc_Either_after pm_Either_after cd_Either_after ct_Either_after : Value}
    {f_Either_wish_of_one : Addr} {od_Either_wish_of_one an_Either_wish_of_one : Option Addr} {sl_Either_wish_of_one : Array (Option Value)} {oc_Either_wish_of_one kV_Either_wish_of_one dc_Either_wish_of_one pm_Either_wish_of_one cd_Either_wish_of_one ct_Either_wish_of_one : Value}
    {f_Either_wish_of_other : Addr} {od_Either_wish_of_other an_Either_wish_of_other : Option Addr} {sl_Either_wish_of_other : Array (Option Value)} {oc_Either_wish_of_other kV_Either_wish_of_other dc_Either_wish_of_other pm_Either_wish_of_other cd_Either_wish_of_other ct_Either_wish_of_other : Value}
    {f_Together_wish : Addr} {od_Together_wish an_Together_wish : Option Addr} {sl_Together_wish : Array (Option Value)} {oc_Together_wish kV_Together_wish dc_Together_wish pm_Together_wish cd_Together_wish ct_Together_wish : Value}
    {f_Together___init__ : Addr} {od_Together___init__ an_Together___init__ : Option Addr} {sl_Together___init__ : Array (Option Value)} {oc_Together___init__ kV_Together___init__ dc_Together___init__ pm_Together___init__ cd_Together___init__ ct_Together___init__ : Value}
    {f_Together_minds : Addr} {od_Together_minds an_Together_minds : Option Addr} {sl_Together_minds : Array (Option Value)} {oc_Together_minds kV_Together_minds dc_Together_minds pm_Together_minds cd_Together_minds ct_Together_minds : Value}
    {f_Together_size : Addr} {od_Together_size an_Together_size : Option Addr} {sl_Together_size : Array (Option Value)} {oc_Together_size kV_Together_size dc_Together_size pm_Together_size cd_Together_size ct_Together_size : Value}
    {f_Together_after : Addr} {od_Together_after an_Together_after : Option Addr} {sl_Together_after : Array (Option Value)} {oc_Together_after kV_Together_after dc_Together_after pm_Together_after cd_Together_after ct_Together_after : Value}
    {f_Together_wish_of_one : Addr} {od_Together_wish_of_one an_Together_wish_of_one : Option Addr} {sl_Together_wish_of_one : Array (Option Value)} {oc_Together_wish_of_one kV_Together_wish_of_one dc_Together_wish_of_one pm_Together_wish_of_one cd_Together_wish_of_one ct_Together_wish_of_one : Value}
    {f_Together_wish_of_other : Addr} {od_Together_wish_of_other an_Together_wish_of_other : Option Addr} {sl_Together_wish_of_other : Array (Option Value)} {oc_Together_wish_of_other kV_Together_wish_of_other dc_Together_wish_of_other pm_Together_wish_of_other cd_Together_wish_of_other ct_Together_wish_of_other : Value}
    {f_Below___init__ : Addr} {od_Below___init__ an_Below___init__ : Option Addr} {sl_Below___init__ : Array (Option Value)} {oc_Below___init__ kV_Below___init__ dc_Below___init__ pm_Below___init__ cd_Below___init__ ct_Below___init__ : Value}
    {f_Below_wish : Addr} {od_Below_wish an_Below_wish : Option Addr} {sl_Below_wish : Array (Option Value)} {oc_Below_wish kV_Below_wish dc_Below_wish pm_Below_wish cd_Below_wish ct_Below_wish : Value}
    {f_Below_minds : Addr} {od_Below_minds an_Below_minds : Option Addr} {sl_Below_minds : Array (Option Value)} {oc_Below_minds kV_Below_minds dc_Below_minds pm_Below_minds cd_Below_minds ct_Below_minds : Value}
    {f_Below_size : Addr} {od_Below_size an_Below_size : Option Addr} {sl_Below_size : Array (Option Value)} {oc_Below_size kV_Below_size dc_Below_size pm_Below_size cd_Below_size ct_Below_size : Value}
    {f_Below_after : Addr} {od_Below_after an_Below_after : Option Addr} {sl_Below_after : Array (Option Value)} {oc_Below_after kV_Below_after dc_Below_after pm_Below_after cd_Below_after ct_Below_after : Value}
    {f_Below_wish_of_one : Addr} {od_Below_wish_of_one an_Below_wish_of_one : Option Addr} {sl_Below_wish_of_one : Array (Option Value)} {oc_Below_wish_of_one kV_Below_wish_of_one dc_Below_wish_of_one pm_Below_wish_of_one cd_Below_wish_of_one ct_Below_wish_of_one : Value}
    {f_Below_wish_of_other : Addr} {od_Below_wish_of_other an_Below_wish_of_other : Option Addr} {sl_Below_wish_of_other : Array (Option Value)} {oc_Below_wish_of_other kV_Below_wish_of_other dc_Below_wish_of_other pm_Below_wish_of_other cd_Below_wish_of_other ct_Below_wish_of_other : Value}
    {f_gPair___init__ : Addr} {od_gPair___init__ an_gPair___init__ : Option Addr} {sl_gPair___init__ : Array (Option Value)} {oc_gPair___init__ kV_gPair___init__ dc_gPair___init__ pm_gPair___init__ cd_gPair___init__ ct_gPair___init__ : Value}
    {f_wall : Addr} {od_wall an_wall : Option Addr} {sl_wall : Array (Option Value)} {oc_wall kV_wall dc_wall pm_wall cd_wall ct_wall : Value}
    {f_look_at_size : Addr} {od_look_at_size an_look_at_size : Option Addr} {sl_look_at_size : Array (Option Value)} {oc_look_at_size kV_look_at_size dc_look_at_size pm_look_at_size cd_look_at_size ct_look_at_size : Value}
    {f_law_cell_at : Addr} {od_law_cell_at an_law_cell_at : Option Addr} {sl_law_cell_at : Array (Option Value)} {oc_law_cell_at kV_law_cell_at dc_law_cell_at pm_law_cell_at cd_law_cell_at ct_law_cell_at : Value}
    {f_law_whole : Addr} {od_law_whole an_law_whole : Option Addr} {sl_law_whole : Array (Option Value)} {oc_law_whole kV_law_whole dc_law_whole pm_law_whole cd_law_whole ct_law_whole : Value}
    {f_law_stream : Addr} {od_law_stream an_law_stream : Option Addr} {sl_law_stream : Array (Option Value)} {oc_law_stream kV_law_stream dc_law_stream pm_law_stream cd_law_stream ct_law_stream : Value}
    {f_law_made : Addr} {od_law_made an_law_made : Option Addr} {sl_law_made : Array (Option Value)} {oc_law_made kV_law_made dc_law_made pm_law_made cd_law_made ct_law_made : Value}
    {f_law_told : Addr} {od_law_told an_law_told : Option Addr} {sl_law_told : Array (Option Value)} {oc_law_told kV_law_told dc_law_told pm_law_told cd_law_told ct_law_told : Value}
    {f_law_right : Addr} {od_law_right an_law_right : Option Addr} {sl_law_right : Array (Option Value)} {oc_law_right kV_law_right dc_law_right pm_law_right cd_law_right ct_law_right : Value}
    {f_law_minds_right : Addr} {od_law_minds_right an_law_minds_right : Option Addr} {sl_law_minds_right : Array (Option Value)} {oc_law_minds_right kV_law_minds_right dc_law_minds_right pm_law_minds_right cd_law_minds_right ct_law_minds_right : Value}
    {f_law_size_right : Addr} {od_law_size_right an_law_size_right : Option Addr} {sl_law_size_right : Array (Option Value)} {oc_law_size_right kV_law_size_right dc_law_size_right pm_law_size_right cd_law_size_right ct_law_size_right : Value}
    {f_law : Addr} {od_law an_law : Option Addr} {sl_law : Array (Option Value)} {oc_law kV_law dc_law pm_law cd_law ct_law : Value}
    (y_Keeper : PySem.W.nsIn K mainGlobals "Keeper" = some (some (.ref c_Keeper)))
    (y_Clock : PySem.W.nsIn K mainGlobals "Clock" = some (some (.ref c_Clock)))
    (y_Table : PySem.W.nsIn K mainGlobals "Table" = some (some (.ref c_Table)))
    (y_Pair : PySem.W.nsIn K mainGlobals "Pair" = some (some (.ref c_Pair)))
    (y_Either : PySem.W.nsIn K mainGlobals "Either" = some (some (.ref c_Either)))
    (y_Together : PySem.W.nsIn K mainGlobals "Together" = some (some (.ref c_Together)))
    (y_Below : PySem.W.nsIn K mainGlobals "Below" = some (some (.ref c_Below)))
    (y_StokeError : PySem.W.nsIn K mainGlobals "StokeError" = some (some (.ref c_StokeError)))
    (y_Ended : PySem.W.nsIn K mainGlobals "Ended" = some (some (.ref c_Ended)))
    (y_Full : PySem.W.nsIn K mainGlobals "Full" = some (some (.ref c_Full)))
    (y_NoBand : PySem.W.nsIn K mainGlobals "NoBand" = some (some (.ref c_NoBand)))
    (y_NoFailing : PySem.W.nsIn K mainGlobals "NoFailing" = some (some (.ref c_NoFailing)))
    (y_NoHold : PySem.W.nsIn K mainGlobals "NoHold" = some (some (.ref c_NoHold)))
    (y_NoKeeper : PySem.W.nsIn K mainGlobals "NoKeeper" = some (some (.ref c_NoKeeper)))
    (y_NoLine : PySem.W.nsIn K mainGlobals "NoLine" = some (some (.ref c_NoLine)))
    (y_NoMarks : PySem.W.nsIn K mainGlobals "NoMarks" = some (some (.ref c_NoMarks)))
    (y_NoName : PySem.W.nsIn K mainGlobals "NoName" = some (some (.ref c_NoName)))
    (y_NoNumber : PySem.W.nsIn K mainGlobals "NoNumber" = some (some (.ref c_NoNumber)))
    (y_NoOrder : PySem.W.nsIn K mainGlobals "NoOrder" = some (some (.ref c_NoOrder)))
    (y_NoRoom : PySem.W.nsIn K mainGlobals "NoRoom" = some (some (.ref c_NoRoom)))
    (y_NoShare : PySem.W.nsIn K mainGlobals "NoShare" = some (some (.ref c_NoShare)))
    (y_NoSky : PySem.W.nsIn K mainGlobals "NoSky" = some (some (.ref c_NoSky)))
    (y_NoState : PySem.W.nsIn K mainGlobals "NoState" = some (some (.ref c_NoState)))
    (y_NoStove : PySem.W.nsIn K mainGlobals "NoStove" = some (some (.ref c_NoStove)))
    (y_NoText : PySem.W.nsIn K mainGlobals "NoText" = some (some (.ref c_NoText)))
    (y_NoTurn : PySem.W.nsIn K mainGlobals "NoTurn" = some (some (.ref c_NoTurn)))
    (y_NotKept : PySem.W.nsIn K mainGlobals "NotKept" = some (some (.ref c_NotKept)))
    (y_NotOut : PySem.W.nsIn K mainGlobals "NotOut" = some (some (.ref c_NotOut)))
    (y_Shared : PySem.W.nsIn K mainGlobals "Shared" = some (some (.ref c_Shared)))
    (y_TooMany : PySem.W.nsIn K mainGlobals "TooMany" = some (some (.ref c_TooMany)))
    (y_Twice : PySem.W.nsIn K mainGlobals "Twice" = some (some (.ref c_Twice)))
    (y_x_TooMany : PySem.W.excIn K c_TooMany [.type "ValueError", .type "Exception", .type "BaseException", .type "object"] "ValueError.__new__" = true)
    (y_xga_TooMany : PySem.W.findIn K (.ref c_TooMany) "__getattribute__" = some (some (.builtin "BaseException.__getattribute__")))
    (y_xgt_TooMany : PySem.W.findIn K (.ref c_TooMany) "__getattr__" = some none)
    (y_xcl_TooMany : PySem.W.findIn K (.ref c_TooMany) "__class__" = some (some (.builtin "object.__class__")))
    (y_xmo_TooMany : PySem.W.mroIn K c_TooMany (.type "object") = some true)
    (y_xmb_TooMany : PySem.W.mroIn K c_TooMany (.type "BaseException") = some true)
    (y_xis_TooMany : PySem.W.isClsIn K c_TooMany = true)
    (y_gs : PySem.W.specialIn K (.builtin "object.__class__") "__get__" = some (some (.builtin "getset_descriptor.__get__")))
    (y_tk : PySem.W.takesIn K (.builtin "object.__class__") = some true)
    (y_ex : PySem.W.exmOne K (.ref c_TooMany) (.ref c_StokeError) = some true)
    (y_k0 : PySem.W.kitAny K (.ref c_TooMany) [.ref c_Ended, .ref c_Full, .ref c_NoBand, .ref c_NoFailing, .ref c_NoHold, .ref c_NoKeeper, .ref c_NoLine, .ref c_NoMarks, .ref c_NoName, .ref c_NoNumber] = some false)
    (y_k2 : PySem.W.kitAny K (.ref c_TooMany) [.ref c_NoOrder, .ref c_NoRoom, .ref c_NoShare, .ref c_NoSky, .ref c_NoState, .ref c_NoStove, .ref c_NoText, .ref c_NoTurn, .ref c_NotKept, .ref c_NotOut] = some false)
    (y_k4 : PySem.W.kitAny K (.ref c_TooMany) [.ref c_Shared, .ref c_Twice] = some false)
    (y_k1 : PySem.W.kitOne K (.ref c_TooMany) (.type "ValueError") = some true)
    (y_k3 : PySem.W.kitOne K (.ref c_TooMany) (.ref c_TooMany) = some true)
    (y_in_Keeper : PySem.W.findIn K (.ref c_Keeper) "__init__" = some (some (.builtin "object.__init__")))
    (i_MOST_MINDS : PySem.W.nsIn K mainGlobals "MOST_MINDS" = some (some (.int 60 t_MOST_MINDS)))
    (i_MOST_SIZE : PySem.W.nsIn K mainGlobals "MOST_SIZE" = some (some (.int 15 t_MOST_SIZE)))
    (i_MOST_WISHES : PySem.W.nsIn K mainGlobals "MOST_WISHES" = some (some (.int 24 t_MOST_WISHES)))
    (pg_Keeper : PySem.W.plainGet K c_Keeper Str.empty = true)
    (hd_Keeper : PySem.W.hasDictIn K c_Keeper = true)
    (po_Keeper : PySem.W.plainOver K c_Keeper = true)
    (sa_Keeper : PySem.W.findIn K (.ref c_Keeper) "__setattr__" = some (some (.builtin "object.__setattr__")))
    (mk_Keeper : PySem.W.makesIn K c_Keeper = true)
    (kc_Keeper : PySem.W.keepIn K (.ref c_Keeper) = true)
    (at_Keeper_minds : PySem.W.findIn K (.ref c_Keeper) "minds" = some (some (.ref f_Keeper_minds)))
    (fn_Keeper_minds : PySem.W.isFn K (.ref f_Keeper_minds) = true)
    (l_Keeper_minds : K.lookup f_Keeper_minds = some ⟨oc_Keeper_minds, od_Keeper_minds, .func (PySem.W.fnOf "minds" "Keeper.minds" (defArgs s_Keeper_minds) (defBody s_Keeper_minds) (defScope s_Keeper_minds) .none kV_Keeper_minds dc_Keeper_minds pm_Keeper_minds an_Keeper_minds cd_Keeper_minds ct_Keeper_minds), sl_Keeper_minds⟩)
    (co_Keeper_minds : PySem.W.codeIn K cd_Keeper_minds "Keeper.minds" = true)
    (k_Keeper_minds : PySem.W.keepIn K (.ref f_Keeper_minds) = true)
    (at_Keeper_size : PySem.W.findIn K (.ref c_Keeper) "size" = some (some (.ref f_Keeper_size)))
    (fn_Keeper_size : PySem.W.isFn K (.ref f_Keeper_size) = true)
    (l_Keeper_size : K.lookup f_Keeper_size = some ⟨oc_Keeper_size, od_Keeper_size, .func (PySem.W.fnOf "size" "Keeper.size" (defArgs s_Keeper_size) (defBody s_Keeper_size) (defScope s_Keeper_size) .none kV_Keeper_size dc_Keeper_size pm_Keeper_size an_Keeper_size cd_Keeper_size ct_Keeper_size), sl_Keeper_size⟩)
    (co_Keeper_size : PySem.W.codeIn K cd_Keeper_size "Keeper.size" = true)
    (k_Keeper_size : PySem.W.keepIn K (.ref f_Keeper_size) = true)
    (at_Keeper_wish : PySem.W.findIn K (.ref c_Keeper) "wish" = some (some (.ref f_Keeper_wish)))
    (fn_Keeper_wish : PySem.W.isFn K (.ref f_Keeper_wish) = true)
    (l_Keeper_wish : K.lookup f_Keeper_wish = some ⟨oc_Keeper_wish, od_Keeper_wish, .func (PySem.W.fnOf "wish" "Keeper.wish" (defArgs s_Keeper_wish) (defBody s_Keeper_wish) (defScope s_Keeper_wish) .none kV_Keeper_wish dc_Keeper_wish pm_Keeper_wish an_Keeper_wish cd_Keeper_wish ct_Keeper_wish), sl_Keeper_wish⟩)
    (co_Keeper_wish : PySem.W.codeIn K cd_Keeper_wish "Keeper.wish" = true)
    (k_Keeper_wish : PySem.W.keepIn K (.ref f_Keeper_wish) = true)
    (at_Keeper_after : PySem.W.findIn K (.ref c_Keeper) "after" = some (some (.ref f_Keeper_after)))
    (fn_Keeper_after : PySem.W.isFn K (.ref f_Keeper_after) = true)
    (l_Keeper_after : K.lookup f_Keeper_after = some ⟨oc_Keeper_after, od_Keeper_after, .func (PySem.W.fnOf "after" "Keeper.after" (defArgs s_Keeper_after) (defBody s_Keeper_after) (defScope s_Keeper_after) .none kV_Keeper_after dc_Keeper_after pm_Keeper_after an_Keeper_after cd_Keeper_after ct_Keeper_after), sl_Keeper_after⟩)
    (co_Keeper_after : PySem.W.codeIn K cd_Keeper_after "Keeper.after" = true)
    (k_Keeper_after : PySem.W.keepIn K (.ref f_Keeper_after) = true)
    (pg_Clock : PySem.W.plainGet K c_Clock Str.empty = true)
    (hd_Clock : PySem.W.hasDictIn K c_Clock = true)
    (po_Clock : PySem.W.plainOver K c_Clock = true)
    (sa_Clock : PySem.W.findIn K (.ref c_Clock) "__setattr__" = some (some (.builtin "object.__setattr__")))
    (mk_Clock : PySem.W.makesIn K c_Clock = true)
    (kc_Clock : PySem.W.keepIn K (.ref c_Clock) = true)
    (na_Clock_wishes : PySem.W.findIn K (.ref c_Clock) "wishes" = some none)
    (at_Clock___init__ : PySem.W.findIn K (.ref c_Clock) "__init__" = some (some (.ref f_Clock___init__)))
    (fn_Clock___init__ : PySem.W.isFn K (.ref f_Clock___init__) = true)
    (l_Clock___init__ : K.lookup f_Clock___init__ = some ⟨oc_Clock___init__, od_Clock___init__, .func (PySem.W.fnOf "__init__" "Clock.__init__" (defArgs s_Clock___init__) (defBody s_Clock___init__) (defScope s_Clock___init__) .none kV_Clock___init__ dc_Clock___init__ pm_Clock___init__ an_Clock___init__ cd_Clock___init__ ct_Clock___init__), sl_Clock___init__⟩)
    (co_Clock___init__ : PySem.W.codeIn K cd_Clock___init__ "Clock.__init__" = true)
    (k_Clock___init__ : PySem.W.keepIn K (.ref f_Clock___init__) = true)
    (at_Clock_minds : PySem.W.findIn K (.ref c_Clock) "minds" = some (some (.ref f_Clock_minds)))
    (fn_Clock_minds : PySem.W.isFn K (.ref f_Clock_minds) = true)
    (l_Clock_minds : K.lookup f_Clock_minds = some ⟨oc_Clock_minds, od_Clock_minds, .func (PySem.W.fnOf "minds" "Clock.minds" (defArgs s_Clock_minds) (defBody s_Clock_minds) (defScope s_Clock_minds) .none kV_Clock_minds dc_Clock_minds pm_Clock_minds an_Clock_minds cd_Clock_minds ct_Clock_minds), sl_Clock_minds⟩)
    (co_Clock_minds : PySem.W.codeIn K cd_Clock_minds "Clock.minds" = true)
    (k_Clock_minds : PySem.W.keepIn K (.ref f_Clock_minds) = true)
    (at_Clock_wish : PySem.W.findIn K (.ref c_Clock) "wish" = some (some (.ref f_Clock_wish)))
    (fn_Clock_wish : PySem.W.isFn K (.ref f_Clock_wish) = true)
    (l_Clock_wish : K.lookup f_Clock_wish = some ⟨oc_Clock_wish, od_Clock_wish, .func (PySem.W.fnOf "wish" "Clock.wish" (defArgs s_Clock_wish) (defBody s_Clock_wish) (defScope s_Clock_wish) .none kV_Clock_wish dc_Clock_wish pm_Clock_wish an_Clock_wish cd_Clock_wish ct_Clock_wish), sl_Clock_wish⟩)
    (co_Clock_wish : PySem.W.codeIn K cd_Clock_wish "Clock.wish" = true)
    (k_Clock_wish : PySem.W.keepIn K (.ref f_Clock_wish) = true)
    (at_Clock_after : PySem.W.findIn K (.ref c_Clock) "after" = some (some (.ref f_Clock_after)))
    (fn_Clock_after : PySem.W.isFn K (.ref f_Clock_after) = true)
    (l_Clock_after : K.lookup f_Clock_after = some ⟨oc_Clock_after, od_Clock_after, .func (PySem.W.fnOf "after" "Clock.after" (defArgs s_Clock_after) (defBody s_Clock_after) (defScope s_Clock_after) .none kV_Clock_after dc_Clock_after pm_Clock_after an_Clock_after cd_Clock_after ct_Clock_after), sl_Clock_after⟩)
    (co_Clock_after : PySem.W.codeIn K cd_Clock_after "Clock.after" = true)
    (k_Clock_after : PySem.W.keepIn K (.ref f_Clock_after) = true)
    (at_Clock_size : PySem.W.findIn K (.ref c_Clock) "size" = some (some (.ref f_Clock_size)))
    (fn_Clock_size : PySem.W.isFn K (.ref f_Clock_size) = true)
    (l_Clock_size : K.lookup f_Clock_size = some ⟨oc_Clock_size, od_Clock_size, .func (PySem.W.fnOf "size" "Keeper.size" (defArgs s_Keeper_size) (defBody s_Keeper_size) (defScope s_Keeper_size) .none kV_Clock_size dc_Clock_size pm_Clock_size an_Clock_size cd_Clock_size ct_Clock_size), sl_Clock_size⟩)
    (co_Clock_size : PySem.W.codeIn K cd_Clock_size "Keeper.size" = true)
    (k_Clock_size : PySem.W.keepIn K (.ref f_Clock_size) = true)
    (pg_Table : PySem.W.plainGet K c_Table Str.empty = true)
    (hd_Table : PySem.W.hasDictIn K c_Table = true)
    (po_Table : PySem.W.plainOver K c_Table = true)
    (sa_Table : PySem.W.findIn K (.ref c_Table) "__setattr__" = some (some (.builtin "object.__setattr__")))
    (mk_Table : PySem.W.makesIn K c_Table = true)
    (kc_Table : PySem.W.keepIn K (.ref c_Table) = true)
    (na_Table_rows : PySem.W.findIn K (.ref c_Table) "rows" = some none)
    (na_Table_other : PySem.W.findIn K (.ref c_Table) "other" = some none)
    (at_Table___init__ : PySem.W.findIn K (.ref c_Table) "__init__" = some (some (.ref f_Table___init__)))
    (fn_Table___init__ : PySem.W.isFn K (.ref f_Table___init__) = true)
    (l_Table___init__ : K.lookup f_Table___init__ = some ⟨oc_Table___init__, od_Table___init__, .func (PySem.W.fnOf "__init__" "Table.__init__" (defArgs s_Table___init__) (defBody s_Table___init__) (defScope s_Table___init__) (.ref T_Table___init__) kV_Table___init__ dc_Table___init__ pm_Table___init__ an_Table___init__ cd_Table___init__ ct_Table___init__), sl_Table___init__⟩)
    (co_Table___init__ : PySem.W.codeIn K cd_Table___init__ "Table.__init__" = true)
    (k_Table___init__ : PySem.W.keepIn K (.ref f_Table___init__) = true)
    (t_Table___init__ : K.lookup T_Table___init__ = some ⟨do_Table___init__, dd_Table___init__, .seq #[.none] dn_Table___init__, ds_Table___init__⟩)
    (at_Table_minds : PySem.W.findIn K (.ref c_Table) "minds" = some (some (.ref f_Table_minds)))
    (fn_Table_minds : PySem.W.isFn K (.ref f_Table_minds) = true)
    (l_Table_minds : K.lookup f_Table_minds = some ⟨oc_Table_minds, od_Table_minds, .func (PySem.W.fnOf "minds" "Table.minds" (defArgs s_Table_minds) (defBody s_Table_minds) (defScope s_Table_minds) .none kV_Table_minds dc_Table_minds pm_Table_minds an_Table_minds cd_Table_minds ct_Table_minds), sl_Table_minds⟩)
    (co_Table_minds : PySem.W.codeIn K cd_Table_minds "Table.minds" = true)
    (k_Table_minds : PySem.W.keepIn K (.ref f_Table_minds) = true)
    (at_Table_size : PySem.W.findIn K (.ref c_Table) "size" = some (some (.ref f_Table_size)))
    (fn_Table_size : PySem.W.isFn K (.ref f_Table_size) = true)
    (l_Table_size : K.lookup f_Table_size = some ⟨oc_Table_size, od_Table_size, .func (PySem.W.fnOf "size" "Table.size" (defArgs s_Table_size) (defBody s_Table_size) (defScope s_Table_size) .none kV_Table_size dc_Table_size pm_Table_size an_Table_size cd_Table_size ct_Table_size), sl_Table_size⟩)
    (co_Table_size : PySem.W.codeIn K cd_Table_size "Table.size" = true)
    (k_Table_size : PySem.W.keepIn K (.ref f_Table_size) = true)
    (at_Table_wish : PySem.W.findIn K (.ref c_Table) "wish" = some (some (.ref f_Table_wish)))
    (fn_Table_wish : PySem.W.isFn K (.ref f_Table_wish) = true)
    (l_Table_wish : K.lookup f_Table_wish = some ⟨oc_Table_wish, od_Table_wish, .func (PySem.W.fnOf "wish" "Table.wish" (defArgs s_Table_wish) (defBody s_Table_wish) (defScope s_Table_wish) .none kV_Table_wish dc_Table_wish pm_Table_wish an_Table_wish cd_Table_wish ct_Table_wish), sl_Table_wish⟩)
    (co_Table_wish : PySem.W.codeIn K cd_Table_wish "Table.wish" = true)
    (k_Table_wish : PySem.W.keepIn K (.ref f_Table_wish) = true)
    (at_Table_after : PySem.W.findIn K (.ref c_Table) "after" = some (some (.ref f_Table_after)))
    (fn_Table_after : PySem.W.isFn K (.ref f_Table_after) = true)
    (l_Table_after : K.lookup f_Table_after = some ⟨oc_Table_after, od_Table_after, .func (PySem.W.fnOf "after" "Table.after" (defArgs s_Table_after) (defBody s_Table_after) (defScope s_Table_after) .none kV_Table_after dc_Table_after pm_Table_after an_Table_after cd_Table_after ct_Table_after), sl_Table_after⟩)
    (co_Table_after : PySem.W.codeIn K cd_Table_after "Table.after" = true)
    (k_Table_after : PySem.W.keepIn K (.ref f_Table_after) = true)
    (pg_Pair : PySem.W.plainGet K c_Pair Str.empty = true)
    (hd_Pair : PySem.W.hasDictIn K c_Pair = true)
    (po_Pair : PySem.W.plainOver K c_Pair = true)
    (sa_Pair : PySem.W.findIn K (.ref c_Pair) "__setattr__" = some (some (.builtin "object.__setattr__")))
    (mk_Pair : PySem.W.makesIn K c_Pair = true)
    (kc_Pair : PySem.W.keepIn K (.ref c_Pair) = true)
    (na_Pair_one : PySem.W.findIn K (.ref c_Pair) "one" = some none)
    (na_Pair_other : PySem.W.findIn K (.ref c_Pair) "other" = some none)
    (at_Pair___init__ : PySem.W.findIn K (.ref c_Pair) "__init__" = some (some (.ref f_Pair___init__)))
    (fn_Pair___init__ : PySem.W.isFn K (.ref f_Pair___init__) = true)
    (l_Pair___init__ : K.lookup f_Pair___init__ = some ⟨oc_Pair___init__, od_Pair___init__, .func (PySem.W.fnOf "__init__" "Pair.__init__" (defArgs s_Pair___init__) (defBody s_Pair___init__) (defScope s_Pair___init__) .none kV_Pair___init__ dc_Pair___init__ pm_Pair___init__ an_Pair___init__ cd_Pair___init__ ct_Pair___init__), sl_Pair___init__⟩)
    (co_Pair___init__ : PySem.W.codeIn K cd_Pair___init__ "Pair.__init__" = true)
    (k_Pair___init__ : PySem.W.keepIn K (.ref f_Pair___init__) = true)
    (at_Pair_minds : PySem.W.findIn K (.ref c_Pair) "minds" = some (some (.ref f_Pair_minds)))
    (fn_Pair_minds : PySem.W.isFn K (.ref f_Pair_minds) = true)
    (l_Pair_minds : K.lookup f_Pair_minds = some ⟨oc_Pair_minds, od_Pair_minds, .func (PySem.W.fnOf "minds" "Pair.minds" (defArgs s_Pair_minds) (defBody s_Pair_minds) (defScope s_Pair_minds) .none kV_Pair_minds dc_Pair_minds pm_Pair_minds an_Pair_minds cd_Pair_minds ct_Pair_minds), sl_Pair_minds⟩)
    (co_Pair_minds : PySem.W.codeIn K cd_Pair_minds "Pair.minds" = true)
    (k_Pair_minds : PySem.W.keepIn K (.ref f_Pair_minds) = true)
    (at_Pair_size : PySem.W.findIn K (.ref c_Pair) "size" = some (some (.ref f_Pair_size)))
    (fn_Pair_size : PySem.W.isFn K (.ref f_Pair_size) = true)
    (l_Pair_size : K.lookup f_Pair_size = some ⟨oc_Pair_size, od_Pair_size, .func (PySem.W.fnOf "size" "Pair.size" (defArgs s_Pair_size) (defBody s_Pair_size) (defScope s_Pair_size) .none kV_Pair_size dc_Pair_size pm_Pair_size an_Pair_size cd_Pair_size ct_Pair_size), sl_Pair_size⟩)
    (co_Pair_size : PySem.W.codeIn K cd_Pair_size "Pair.size" = true)
    (k_Pair_size : PySem.W.keepIn K (.ref f_Pair_size) = true)
    (at_Pair_wish : PySem.W.findIn K (.ref c_Pair) "wish" = some (some (.ref f_Pair_wish)))
    (fn_Pair_wish : PySem.W.isFn K (.ref f_Pair_wish) = true)
    (l_Pair_wish : K.lookup f_Pair_wish = some ⟨oc_Pair_wish, od_Pair_wish, .func (PySem.W.fnOf "wish" "Pair.wish" (defArgs s_Pair_wish) (defBody s_Pair_wish) (defScope s_Pair_wish) .none kV_Pair_wish dc_Pair_wish pm_Pair_wish an_Pair_wish cd_Pair_wish ct_Pair_wish), sl_Pair_wish⟩)
    (co_Pair_wish : PySem.W.codeIn K cd_Pair_wish "Pair.wish" = true)
    (k_Pair_wish : PySem.W.keepIn K (.ref f_Pair_wish) = true)
    (at_Pair_after : PySem.W.findIn K (.ref c_Pair) "after" = some (some (.ref f_Pair_after)))
    (fn_Pair_after : PySem.W.isFn K (.ref f_Pair_after) = true)
    (l_Pair_after : K.lookup f_Pair_after = some ⟨oc_Pair_after, od_Pair_after, .func (PySem.W.fnOf "after" "Pair.after" (defArgs s_Pair_after) (defBody s_Pair_after) (defScope s_Pair_after) .none kV_Pair_after dc_Pair_after pm_Pair_after an_Pair_after cd_Pair_after ct_Pair_after), sl_Pair_after⟩)
    (co_Pair_after : PySem.W.codeIn K cd_Pair_after "Pair.after" = true)
    (k_Pair_after : PySem.W.keepIn K (.ref f_Pair_after) = true)
    (at_Pair_wish_of_one : PySem.W.findIn K (.ref c_Pair) "wish_of_one" = some (some (.ref f_Pair_wish_of_one)))
    (fn_Pair_wish_of_one : PySem.W.isFn K (.ref f_Pair_wish_of_one) = true)
    (l_Pair_wish_of_one : K.lookup f_Pair_wish_of_one = some ⟨oc_Pair_wish_of_one, od_Pair_wish_of_one, .func (PySem.W.fnOf "wish_of_one" "Pair.wish_of_one" (defArgs s_Pair_wish_of_one) (defBody s_Pair_wish_of_one) (defScope s_Pair_wish_of_one) .none kV_Pair_wish_of_one dc_Pair_wish_of_one pm_Pair_wish_of_one an_Pair_wish_of_one cd_Pair_wish_of_one ct_Pair_wish_of_one), sl_Pair_wish_of_one⟩)
    (co_Pair_wish_of_one : PySem.W.codeIn K cd_Pair_wish_of_one "Pair.wish_of_one" = true)
    (k_Pair_wish_of_one : PySem.W.keepIn K (.ref f_Pair_wish_of_one) = true)
    (at_Pair_wish_of_other : PySem.W.findIn K (.ref c_Pair) "wish_of_other" = some (some (.ref f_Pair_wish_of_other)))
    (fn_Pair_wish_of_other : PySem.W.isFn K (.ref f_Pair_wish_of_other) = true)
    (l_Pair_wish_of_other : K.lookup f_Pair_wish_of_other = some ⟨oc_Pair_wish_of_other, od_Pair_wish_of_other, .func (PySem.W.fnOf "wish_of_other" "Pair.wish_of_other" (defArgs s_Pair_wish_of_other) (defBody s_Pair_wish_of_other) (defScope s_Pair_wish_of_other) .none kV_Pair_wish_of_other dc_Pair_wish_of_other pm_Pair_wish_of_other an_Pair_wish_of_other cd_Pair_wish_of_other ct_Pair_wish_of_other), sl_Pair_wish_of_other⟩)
    (co_Pair_wish_of_other : PySem.W.codeIn K cd_Pair_wish_of_other "Pair.wish_of_other" = true)
    (k_Pair_wish_of_other : PySem.W.keepIn K (.ref f_Pair_wish_of_other) = true)
    (pg_Either : PySem.W.plainGet K c_Either Str.empty = true)
    (hd_Either : PySem.W.hasDictIn K c_Either = true)
    (po_Either : PySem.W.plainOver K c_Either = true)
    (sa_Either : PySem.W.findIn K (.ref c_Either) "__setattr__" = some (some (.builtin "object.__setattr__")))
    (mk_Either : PySem.W.makesIn K c_Either = true)
    (kc_Either : PySem.W.keepIn K (.ref c_Either) = true)
    (na_Either_one : PySem.W.findIn K (.ref c_Either) "one" = some none)
    (na_Either_other : PySem.W.findIn K (.ref c_Either) "other" = some none)
    (at_Either_wish : PySem.W.findIn K (.ref c_Either) "wish" = some (some (.ref f_Either_wish)))
    (fn_Either_wish : PySem.W.isFn K (.ref f_Either_wish) = true)
    (l_Either_wish : K.lookup f_Either_wish = some ⟨oc_Either_wish, od_Either_wish, .func (PySem.W.fnOf "wish" "Either.wish" (defArgs s_Either_wish) (defBody s_Either_wish) (defScope s_Either_wish) .none kV_Either_wish dc_Either_wish pm_Either_wish an_Either_wish cd_Either_wish ct_Either_wish), sl_Either_wish⟩)
    (co_Either_wish : PySem.W.codeIn K cd_Either_wish "Either.wish" = true)
    (k_Either_wish : PySem.W.keepIn K (.ref f_Either_wish) = true)
    (at_Either___init__ : PySem.W.findIn K (.ref c_Either) "__init__" = some (some (.ref f_Either___init__)))
    (fn_Either___init__ : PySem.W.isFn K (.ref f_Either___init__) = true)
    (l_Either___init__ : K.lookup f_Either___init__ = some ⟨oc_Either___init__, od_Either___init__, .func (PySem.W.fnOf "__init__" "Pair.__init__" (defArgs s_Pair___init__) (defBody s_Pair___init__) (defScope s_Pair___init__) .none kV_Either___init__ dc_Either___init__ pm_Either___init__ an_Either___init__ cd_Either___init__ ct_Either___init__), sl_Either___init__⟩)
    (co_Either___init__ : PySem.W.codeIn K cd_Either___init__ "Pair.__init__" = true)
    (k_Either___init__ : PySem.W.keepIn K (.ref f_Either___init__) = true)
    (at_Either_minds : PySem.W.findIn K (.ref c_Either) "minds" = some (some (.ref f_Either_minds)))
    (fn_Either_minds : PySem.W.isFn K (.ref f_Either_minds) = true)
    (l_Either_minds : K.lookup f_Either_minds = some ⟨oc_Either_minds, od_Either_minds, .func (PySem.W.fnOf "minds" "Pair.minds" (defArgs s_Pair_minds) (defBody s_Pair_minds) (defScope s_Pair_minds) .none kV_Either_minds dc_Either_minds pm_Either_minds an_Either_minds cd_Either_minds ct_Either_minds), sl_Either_minds⟩)
    (co_Either_minds : PySem.W.codeIn K cd_Either_minds "Pair.minds" = true)
    (k_Either_minds : PySem.W.keepIn K (.ref f_Either_minds) = true)
    (at_Either_size : PySem.W.findIn K (.ref c_Either) "size" = some (some (.ref f_Either_size)))
    (fn_Either_size : PySem.W.isFn K (.ref f_Either_size) = true)
    (l_Either_size : K.lookup f_Either_size = some ⟨oc_Either_size, od_Either_size, .func (PySem.W.fnOf "size" "Pair.size" (defArgs s_Pair_size) (defBody s_Pair_size) (defScope s_Pair_size) .none kV_Either_size dc_Either_size pm_Either_size an_Either_size cd_Either_size ct_Either_size), sl_Either_size⟩)
    (co_Either_size : PySem.W.codeIn K cd_Either_size "Pair.size" = true)
    (k_Either_size : PySem.W.keepIn K (.ref f_Either_size) = true)
    (at_Either_after : PySem.W.findIn K (.ref c_Either) "after" = some (some (.ref f_Either_after)))
    (fn_Either_after : PySem.W.isFn K (.ref f_Either_after) = true)
    (l_Either_after : K.lookup f_Either_after = some ⟨oc_Either_after, od_Either_after, .func (PySem.W.fnOf "after" "Pair.after" (defArgs s_Pair_after) (defBody s_Pair_after) (defScope s_Pair_after) .none kV_Either_after dc_Either_after pm_Either_after an_Either_after cd_Either_after ct_Either_after), sl_Either_after⟩)
    (co_Either_after : PySem.W.codeIn K cd_Either_after "Pair.after" = true)
    (k_Either_after : PySem.W.keepIn K (.ref f_Either_after) = true)
    (at_Either_wish_of_one : PySem.W.findIn K (.ref c_Either) "wish_of_one" = some (some (.ref f_Either_wish_of_one)))
    (fn_Either_wish_of_one : PySem.W.isFn K (.ref f_Either_wish_of_one) = true)
    (l_Either_wish_of_one : K.lookup f_Either_wish_of_one = some ⟨oc_Either_wish_of_one, od_Either_wish_of_one, .func (PySem.W.fnOf "wish_of_one" "Pair.wish_of_one" (defArgs s_Pair_wish_of_one) (defBody s_Pair_wish_of_one) (defScope s_Pair_wish_of_one) .none kV_Either_wish_of_one dc_Either_wish_of_one pm_Either_wish_of_one an_Either_wish_of_one cd_Either_wish_of_one ct_Either_wish_of_one), sl_Either_wish_of_one⟩)
    (co_Either_wish_of_one : PySem.W.codeIn K cd_Either_wish_of_one "Pair.wish_of_one" = true)
    (k_Either_wish_of_one : PySem.W.keepIn K (.ref f_Either_wish_of_one) = true)
    (at_Either_wish_of_other : PySem.W.findIn K (.ref c_Either) "wish_of_other" = some (some (.ref f_Either_wish_of_other)))
    (fn_Either_wish_of_other : PySem.W.isFn K (.ref f_Either_wish_of_other) = true)
    (l_Either_wish_of_other : K.lookup f_Either_wish_of_other = some ⟨oc_Either_wish_of_other, od_Either_wish_of_other, .func (PySem.W.fnOf "wish_of_other" "Pair.wish_of_other" (defArgs s_Pair_wish_of_other) (defBody s_Pair_wish_of_other) (defScope s_Pair_wish_of_other) .none kV_Either_wish_of_other dc_Either_wish_of_other pm_Either_wish_of_other an_Either_wish_of_other cd_Either_wish_of_other ct_Either_wish_of_other), sl_Either_wish_of_other⟩)
    (co_Either_wish_of_other : PySem.W.codeIn K cd_Either_wish_of_other "Pair.wish_of_other" = true)
    (k_Either_wish_of_other : PySem.W.keepIn K (.ref f_Either_wish_of_other) = true)
    (pg_Together : PySem.W.plainGet K c_Together Str.empty = true)
    (hd_Together : PySem.W.hasDictIn K c_Together = true)
    (po_Together : PySem.W.plainOver K c_Together = true)
    (sa_Together : PySem.W.findIn K (.ref c_Together) "__setattr__" = some (some (.builtin "object.__setattr__")))
    (mk_Together : PySem.W.makesIn K c_Together = true)
    (kc_Together : PySem.W.keepIn K (.ref c_Together) = true)
    (na_Together_one : PySem.W.findIn K (.ref c_Together) "one" = some none)
    (na_Together_other : PySem.W.findIn K (.ref c_Together) "other" = some none)
    (at_Together_wish : PySem.W.findIn K (.ref c_Together) "wish" = some (some (.ref f_Together_wish)))
    (fn_Together_wish : PySem.W.isFn K (.ref f_Together_wish) = true)
    (l_Together_wish : K.lookup f_Together_wish = some ⟨oc_Together_wish, od_Together_wish, .func (PySem.W.fnOf "wish" "Together.wish" (defArgs s_Together_wish) (defBody s_Together_wish) (defScope s_Together_wish) .none kV_Together_wish dc_Together_wish pm_Together_wish an_Together_wish cd_Together_wish ct_Together_wish), sl_Together_wish⟩)
    (co_Together_wish : PySem.W.codeIn K cd_Together_wish "Together.wish" = true)
    (k_Together_wish : PySem.W.keepIn K (.ref f_Together_wish) = true)
    (at_Together___init__ : PySem.W.findIn K (.ref c_Together) "__init__" = some (some (.ref f_Together___init__)))
    (fn_Together___init__ : PySem.W.isFn K (.ref f_Together___init__) = true)
    (l_Together___init__ : K.lookup f_Together___init__ = some ⟨oc_Together___init__, od_Together___init__, .func (PySem.W.fnOf "__init__" "Pair.__init__" (defArgs s_Pair___init__) (defBody s_Pair___init__) (defScope s_Pair___init__) .none kV_Together___init__ dc_Together___init__ pm_Together___init__ an_Together___init__ cd_Together___init__ ct_Together___init__), sl_Together___init__⟩)
    (co_Together___init__ : PySem.W.codeIn K cd_Together___init__ "Pair.__init__" = true)
    (k_Together___init__ : PySem.W.keepIn K (.ref f_Together___init__) = true)
    (at_Together_minds : PySem.W.findIn K (.ref c_Together) "minds" = some (some (.ref f_Together_minds)))
    (fn_Together_minds : PySem.W.isFn K (.ref f_Together_minds) = true)
    (l_Together_minds : K.lookup f_Together_minds = some ⟨oc_Together_minds, od_Together_minds, .func (PySem.W.fnOf "minds" "Pair.minds" (defArgs s_Pair_minds) (defBody s_Pair_minds) (defScope s_Pair_minds) .none kV_Together_minds dc_Together_minds pm_Together_minds an_Together_minds cd_Together_minds ct_Together_minds), sl_Together_minds⟩)
    (co_Together_minds : PySem.W.codeIn K cd_Together_minds "Pair.minds" = true)
    (k_Together_minds : PySem.W.keepIn K (.ref f_Together_minds) = true)
    (at_Together_size : PySem.W.findIn K (.ref c_Together) "size" = some (some (.ref f_Together_size)))
    (fn_Together_size : PySem.W.isFn K (.ref f_Together_size) = true)
    (l_Together_size : K.lookup f_Together_size = some ⟨oc_Together_size, od_Together_size, .func (PySem.W.fnOf "size" "Pair.size" (defArgs s_Pair_size) (defBody s_Pair_size) (defScope s_Pair_size) .none kV_Together_size dc_Together_size pm_Together_size an_Together_size cd_Together_size ct_Together_size), sl_Together_size⟩)
    (co_Together_size : PySem.W.codeIn K cd_Together_size "Pair.size" = true)
    (k_Together_size : PySem.W.keepIn K (.ref f_Together_size) = true)
    (at_Together_after : PySem.W.findIn K (.ref c_Together) "after" = some (some (.ref f_Together_after)))
    (fn_Together_after : PySem.W.isFn K (.ref f_Together_after) = true)
    (l_Together_after : K.lookup f_Together_after = some ⟨oc_Together_after, od_Together_after, .func (PySem.W.fnOf "after" "Pair.after" (defArgs s_Pair_after) (defBody s_Pair_after) (defScope s_Pair_after) .none kV_Together_after dc_Together_after pm_Together_after an_Together_after cd_Together_after ct_Together_after), sl_Together_after⟩)
    (co_Together_after : PySem.W.codeIn K cd_Together_after "Pair.after" = true)
    (k_Together_after : PySem.W.keepIn K (.ref f_Together_after) = true)
    (at_Together_wish_of_one : PySem.W.findIn K (.ref c_Together) "wish_of_one" = some (some (.ref f_Together_wish_of_one)))
    (fn_Together_wish_of_one : PySem.W.isFn K (.ref f_Together_wish_of_one) = true)
    (l_Together_wish_of_one : K.lookup f_Together_wish_of_one = some ⟨oc_Together_wish_of_one, od_Together_wish_of_one, .func (PySem.W.fnOf "wish_of_one" "Pair.wish_of_one" (defArgs s_Pair_wish_of_one) (defBody s_Pair_wish_of_one) (defScope s_Pair_wish_of_one) .none kV_Together_wish_of_one dc_Together_wish_of_one pm_Together_wish_of_one an_Together_wish_of_one cd_Together_wish_of_one ct_Together_wish_of_one), sl_Together_wish_of_one⟩)
    (co_Together_wish_of_one : PySem.W.codeIn K cd_Together_wish_of_one "Pair.wish_of_one" = true)
    (k_Together_wish_of_one : PySem.W.keepIn K (.ref f_Together_wish_of_one) = true)
    (at_Together_wish_of_other : PySem.W.findIn K (.ref c_Together) "wish_of_other" = some (some (.ref f_Together_wish_of_other)))
    (fn_Together_wish_of_other : PySem.W.isFn K (.ref f_Together_wish_of_other) = true)
    (l_Together_wish_of_other : K.lookup f_Together_wish_of_other = some ⟨oc_Together_wish_of_other, od_Together_wish_of_other, .func (PySem.W.fnOf "wish_of_other" "Pair.wish_of_other" (defArgs s_Pair_wish_of_other) (defBody s_Pair_wish_of_other) (defScope s_Pair_wish_of_other) .none kV_Together_wish_of_other dc_Together_wish_of_other pm_Together_wish_of_other an_Together_wish_of_other cd_Together_wish_of_other ct_Together_wish_of_other), sl_Together_wish_of_other⟩)
    (co_Together_wish_of_other : PySem.W.codeIn K cd_Together_wish_of_other "Pair.wish_of_other" = true)
    (k_Together_wish_of_other : PySem.W.keepIn K (.ref f_Together_wish_of_other) = true)
    (pg_Below : PySem.W.plainGet K c_Below Str.empty = true)
    (hd_Below : PySem.W.hasDictIn K c_Below = true)
    (po_Below : PySem.W.plainOver K c_Below = true)
    (sa_Below : PySem.W.findIn K (.ref c_Below) "__setattr__" = some (some (.builtin "object.__setattr__")))
    (mk_Below : PySem.W.makesIn K c_Below = true)
    (kc_Below : PySem.W.keepIn K (.ref c_Below) = true)
    (na_Below_one : PySem.W.findIn K (.ref c_Below) "one" = some none)
    (na_Below_other : PySem.W.findIn K (.ref c_Below) "other" = some none)
    (na_Below_room : PySem.W.findIn K (.ref c_Below) "room" = some none)
    (na_Below_band : PySem.W.findIn K (.ref c_Below) "band" = some none)
    (at_Below___init__ : PySem.W.findIn K (.ref c_Below) "__init__" = some (some (.ref f_Below___init__)))
    (fn_Below___init__ : PySem.W.isFn K (.ref f_Below___init__) = true)
    (l_Below___init__ : K.lookup f_Below___init__ = some ⟨oc_Below___init__, od_Below___init__, .func (PySem.W.fnOf "__init__" "Below.__init__" (defArgs s_Below___init__) (defBody s_Below___init__) (defScope s_Below___init__) .none kV_Below___init__ dc_Below___init__ pm_Below___init__ an_Below___init__ cd_Below___init__ ct_Below___init__), sl_Below___init__⟩)
    (co_Below___init__ : PySem.W.codeIn K cd_Below___init__ "Below.__init__" = true)
    (k_Below___init__ : PySem.W.keepIn K (.ref f_Below___init__) = true)
    (at_Below_wish : PySem.W.findIn K (.ref c_Below) "wish" = some (some (.ref f_Below_wish)))
    (fn_Below_wish : PySem.W.isFn K (.ref f_Below_wish) = true)
    (l_Below_wish : K.lookup f_Below_wish = some ⟨oc_Below_wish, od_Below_wish, .func (PySem.W.fnOf "wish" "Below.wish" (defArgs s_Below_wish) (defBody s_Below_wish) (defScope s_Below_wish) .none kV_Below_wish dc_Below_wish pm_Below_wish an_Below_wish cd_Below_wish ct_Below_wish), sl_Below_wish⟩)
    (co_Below_wish : PySem.W.codeIn K cd_Below_wish "Below.wish" = true)
    (k_Below_wish : PySem.W.keepIn K (.ref f_Below_wish) = true)
    (at_Below_minds : PySem.W.findIn K (.ref c_Below) "minds" = some (some (.ref f_Below_minds)))
    (fn_Below_minds : PySem.W.isFn K (.ref f_Below_minds) = true)
    (l_Below_minds : K.lookup f_Below_minds = some ⟨oc_Below_minds, od_Below_minds, .func (PySem.W.fnOf "minds" "Pair.minds" (defArgs s_Pair_minds) (defBody s_Pair_minds) (defScope s_Pair_minds) .none kV_Below_minds dc_Below_minds pm_Below_minds an_Below_minds cd_Below_minds ct_Below_minds), sl_Below_minds⟩)
    (co_Below_minds : PySem.W.codeIn K cd_Below_minds "Pair.minds" = true)
    (k_Below_minds : PySem.W.keepIn K (.ref f_Below_minds) = true)
    (at_Below_size : PySem.W.findIn K (.ref c_Below) "size" = some (some (.ref f_Below_size)))
    (fn_Below_size : PySem.W.isFn K (.ref f_Below_size) = true)
    (l_Below_size : K.lookup f_Below_size = some ⟨oc_Below_size, od_Below_size, .func (PySem.W.fnOf "size" "Pair.size" (defArgs s_Pair_size) (defBody s_Pair_size) (defScope s_Pair_size) .none kV_Below_size dc_Below_size pm_Below_size an_Below_size cd_Below_size ct_Below_size), sl_Below_size⟩)
    (co_Below_size : PySem.W.codeIn K cd_Below_size "Pair.size" = true)
    (k_Below_size : PySem.W.keepIn K (.ref f_Below_size) = true)
    (at_Below_after : PySem.W.findIn K (.ref c_Below) "after" = some (some (.ref f_Below_after)))
    (fn_Below_after : PySem.W.isFn K (.ref f_Below_after) = true)
    (l_Below_after : K.lookup f_Below_after = some ⟨oc_Below_after, od_Below_after, .func (PySem.W.fnOf "after" "Pair.after" (defArgs s_Pair_after) (defBody s_Pair_after) (defScope s_Pair_after) .none kV_Below_after dc_Below_after pm_Below_after an_Below_after cd_Below_after ct_Below_after), sl_Below_after⟩)
    (co_Below_after : PySem.W.codeIn K cd_Below_after "Pair.after" = true)
    (k_Below_after : PySem.W.keepIn K (.ref f_Below_after) = true)
    (at_Below_wish_of_one : PySem.W.findIn K (.ref c_Below) "wish_of_one" = some (some (.ref f_Below_wish_of_one)))
    (fn_Below_wish_of_one : PySem.W.isFn K (.ref f_Below_wish_of_one) = true)
    (l_Below_wish_of_one : K.lookup f_Below_wish_of_one = some ⟨oc_Below_wish_of_one, od_Below_wish_of_one, .func (PySem.W.fnOf "wish_of_one" "Pair.wish_of_one" (defArgs s_Pair_wish_of_one) (defBody s_Pair_wish_of_one) (defScope s_Pair_wish_of_one) .none kV_Below_wish_of_one dc_Below_wish_of_one pm_Below_wish_of_one an_Below_wish_of_one cd_Below_wish_of_one ct_Below_wish_of_one), sl_Below_wish_of_one⟩)
    (co_Below_wish_of_one : PySem.W.codeIn K cd_Below_wish_of_one "Pair.wish_of_one" = true)
    (k_Below_wish_of_one : PySem.W.keepIn K (.ref f_Below_wish_of_one) = true)
    (at_Below_wish_of_other : PySem.W.findIn K (.ref c_Below) "wish_of_other" = some (some (.ref f_Below_wish_of_other)))
    (fn_Below_wish_of_other : PySem.W.isFn K (.ref f_Below_wish_of_other) = true)
    (l_Below_wish_of_other : K.lookup f_Below_wish_of_other = some ⟨oc_Below_wish_of_other, od_Below_wish_of_other, .func (PySem.W.fnOf "wish_of_other" "Pair.wish_of_other" (defArgs s_Pair_wish_of_other) (defBody s_Pair_wish_of_other) (defScope s_Pair_wish_of_other) .none kV_Below_wish_of_other dc_Below_wish_of_other pm_Below_wish_of_other an_Below_wish_of_other cd_Below_wish_of_other ct_Below_wish_of_other), sl_Below_wish_of_other⟩)
    (co_Below_wish_of_other : PySem.W.codeIn K cd_Below_wish_of_other "Pair.wish_of_other" = true)
    (k_Below_wish_of_other : PySem.W.keepIn K (.ref f_Below_wish_of_other) = true)
    (ga_gPair___init__ : PySem.W.specialIn K (.ref c_Pair) "__getattribute__" = some (some (.builtin "type.__getattribute__")))
    (fc_gPair___init__ : PySem.W.findCls K (.ref c_Pair) (.type "type") "__init__" = some (.val (.ref f_gPair___init__)))
    (rd_gPair___init__ : PySem.W.readsIn K c_Pair (.type "type") = true)
    (l_gPair___init__ : K.lookup f_gPair___init__ = some ⟨oc_gPair___init__, od_gPair___init__, .func (PySem.W.fnOf "__init__" "Pair.__init__" (defArgs s_Pair___init__) (defBody s_Pair___init__) (defScope s_Pair___init__) .none kV_gPair___init__ dc_gPair___init__ pm_gPair___init__ an_gPair___init__ cd_gPair___init__ ct_gPair___init__), sl_gPair___init__⟩)
    (co_gPair___init__ : PySem.W.codeIn K cd_gPair___init__ "Pair.__init__" = true)
    (k_gPair___init__ : PySem.W.keepIn K (.ref f_gPair___init__) = true)
    (a_wall : PySem.W.nsIn K mainGlobals "_wall" = some (some (.ref f_wall)))
    (l_wall : K.lookup f_wall = some ⟨oc_wall, od_wall, .func (PySem.W.fnOf "_wall" "_wall" (defArgs s_wall) (defBody s_wall) (defScope s_wall) .none kV_wall dc_wall pm_wall an_wall cd_wall ct_wall), sl_wall⟩)
    (co_wall : PySem.W.codeIn K cd_wall "_wall" = true)
    (k_wall : PySem.W.keepIn K (.ref f_wall) = true)
    (a_look_at_size : PySem.W.nsIn K mainGlobals "look_at_size" = some (some (.ref f_look_at_size)))
    (l_look_at_size : K.lookup f_look_at_size = some ⟨oc_look_at_size, od_look_at_size, .func (PySem.W.fnOf "look_at_size" "look_at_size" (defArgs s_look_at_size) (defBody s_look_at_size) (defScope s_look_at_size) .none kV_look_at_size dc_look_at_size pm_look_at_size an_look_at_size cd_look_at_size ct_look_at_size), sl_look_at_size⟩)
    (co_look_at_size : PySem.W.codeIn K cd_look_at_size "look_at_size" = true)
    (k_look_at_size : PySem.W.keepIn K (.ref f_look_at_size) = true)
    (a_law_cell_at : PySem.W.nsIn K mainGlobals "_law_cell_at" = some (some (.ref f_law_cell_at)))
    (l_law_cell_at : K.lookup f_law_cell_at = some ⟨oc_law_cell_at, od_law_cell_at, .func (PySem.W.fnOf "_law_cell_at" "_law_cell_at" (defArgs s_law_cell_at) (defBody s_law_cell_at) (defScope s_law_cell_at) .none kV_law_cell_at dc_law_cell_at pm_law_cell_at an_law_cell_at cd_law_cell_at ct_law_cell_at), sl_law_cell_at⟩)
    (co_law_cell_at : PySem.W.codeIn K cd_law_cell_at "_law_cell_at" = true)
    (k_law_cell_at : PySem.W.keepIn K (.ref f_law_cell_at) = true)
    (a_law_whole : PySem.W.nsIn K mainGlobals "_law_whole" = some (some (.ref f_law_whole)))
    (l_law_whole : K.lookup f_law_whole = some ⟨oc_law_whole, od_law_whole, .func (PySem.W.fnOf "_law_whole" "_law_whole" (defArgs s_law_whole) (defBody s_law_whole) (defScope s_law_whole) .none kV_law_whole dc_law_whole pm_law_whole an_law_whole cd_law_whole ct_law_whole), sl_law_whole⟩)
    (co_law_whole : PySem.W.codeIn K cd_law_whole "_law_whole" = true)
    (k_law_whole : PySem.W.keepIn K (.ref f_law_whole) = true)
    (a_law_stream : PySem.W.nsIn K mainGlobals "_law_stream" = some (some (.ref f_law_stream)))
    (l_law_stream : K.lookup f_law_stream = some ⟨oc_law_stream, od_law_stream, .func (PySem.W.fnOf "_law_stream" "_law_stream" (defArgs s_law_stream) (defBody s_law_stream) (defScope s_law_stream) .none kV_law_stream dc_law_stream pm_law_stream an_law_stream cd_law_stream ct_law_stream), sl_law_stream⟩)
    (co_law_stream : PySem.W.codeIn K cd_law_stream "_law_stream" = true)
    (k_law_stream : PySem.W.keepIn K (.ref f_law_stream) = true)
    (a_law_made : PySem.W.nsIn K mainGlobals "_law_made" = some (some (.ref f_law_made)))
    (l_law_made : K.lookup f_law_made = some ⟨oc_law_made, od_law_made, .func (PySem.W.fnOf "_law_made" "_law_made" (defArgs s_law_made) (defBody s_law_made) (defScope s_law_made) .none kV_law_made dc_law_made pm_law_made an_law_made cd_law_made ct_law_made), sl_law_made⟩)
    (co_law_made : PySem.W.codeIn K cd_law_made "_law_made" = true)
    (k_law_made : PySem.W.keepIn K (.ref f_law_made) = true)
    (a_law_told : PySem.W.nsIn K mainGlobals "_law_told" = some (some (.ref f_law_told)))
    (l_law_told : K.lookup f_law_told = some ⟨oc_law_told, od_law_told, .func (PySem.W.fnOf "_law_told" "_law_told" (defArgs s_law_told) (defBody s_law_told) (defScope s_law_told) .none kV_law_told dc_law_told pm_law_told an_law_told cd_law_told ct_law_told), sl_law_told⟩)
    (co_law_told : PySem.W.codeIn K cd_law_told "_law_told" = true)
    (k_law_told : PySem.W.keepIn K (.ref f_law_told) = true)
    (a_law_right : PySem.W.nsIn K mainGlobals "_law_right" = some (some (.ref f_law_right)))
    (l_law_right : K.lookup f_law_right = some ⟨oc_law_right, od_law_right, .func (PySem.W.fnOf "_law_right" "_law_right" (defArgs s_law_right) (defBody s_law_right) (defScope s_law_right) .none kV_law_right dc_law_right pm_law_right an_law_right cd_law_right ct_law_right), sl_law_right⟩)
    (co_law_right : PySem.W.codeIn K cd_law_right "_law_right" = true)
    (k_law_right : PySem.W.keepIn K (.ref f_law_right) = true)
    (a_law_minds_right : PySem.W.nsIn K mainGlobals "_law_minds_right" = some (some (.ref f_law_minds_right)))
    (l_law_minds_right : K.lookup f_law_minds_right = some ⟨oc_law_minds_right, od_law_minds_right, .func (PySem.W.fnOf "_law_minds_right" "_law_minds_right" (defArgs s_law_minds_right) (defBody s_law_minds_right) (defScope s_law_minds_right) .none kV_law_minds_right dc_law_minds_right pm_law_minds_right an_law_minds_right cd_law_minds_right ct_law_minds_right), sl_law_minds_right⟩)
    (co_law_minds_right : PySem.W.codeIn K cd_law_minds_right "_law_minds_right" = true)
    (k_law_minds_right : PySem.W.keepIn K (.ref f_law_minds_right) = true)
    (a_law_size_right : PySem.W.nsIn K mainGlobals "_law_size_right" = some (some (.ref f_law_size_right)))
    (l_law_size_right : K.lookup f_law_size_right = some ⟨oc_law_size_right, od_law_size_right, .func (PySem.W.fnOf "_law_size_right" "_law_size_right" (defArgs s_law_size_right) (defBody s_law_size_right) (defScope s_law_size_right) .none kV_law_size_right dc_law_size_right pm_law_size_right an_law_size_right cd_law_size_right ct_law_size_right), sl_law_size_right⟩)
    (co_law_size_right : PySem.W.codeIn K cd_law_size_right "_law_size_right" = true)
    (k_law_size_right : PySem.W.keepIn K (.ref f_law_size_right) = true)
    (a_law : PySem.W.nsIn K mainGlobals "law" = some (some (.ref f_law)))
    (l_law : K.lookup f_law = some ⟨oc_law, od_law, .func (PySem.W.fnOf "law" "law" (defArgs s_law) (defBody s_law) (defScope s_law) .none kV_law dc_law pm_law an_law cd_law ct_law), sl_law⟩)
    (co_law : PySem.W.codeIn K cd_law "law" = true)
    (k_law : PySem.W.keepIn K (.ref f_law) = true)
    (z_ValueError : PySem.W.nsIn K mainGlobals "ValueError" = some none)
    (z_bool : PySem.W.nsIn K mainGlobals "bool" = some none)
    (z_dict : PySem.W.nsIn K mainGlobals "dict" = some none)
    (z_int : PySem.W.nsIn K mainGlobals "int" = some none)
    (z_isinstance : PySem.W.nsIn K mainGlobals "isinstance" = some none)
    (z_len : PySem.W.nsIn K mainGlobals "len" = some none)
    (z_list : PySem.W.nsIn K mainGlobals "list" = some none)
    (z_range : PySem.W.nsIn K mainGlobals "range" = some none)
    (z_tuple : PySem.W.nsIn K mainGlobals "tuple" = some none)
    : Txt K mg ⟨c_Keeper, c_Clock, c_Table, c_Pair, c_Either, c_Together, c_Below, c_StokeError, c_Ended, c_Full, c_NoBand, c_NoFailing, c_NoHold, c_NoKeeper, c_NoLine, c_NoMarks, c_NoName, c_NoNumber, c_NoOrder, c_NoRoom, c_NoShare, c_NoSky, c_NoState, c_NoStove, c_NoText, c_NoTurn, c_NotKept, c_NotOut, c_Shared, c_TooMany, c_Twice, T_Table___init__⟩ :=
  ⟨PySem.W.mg_of X G y_Keeper,
    PySem.W.mg_of X G y_Clock,
    PySem.W.mg_of X G y_Table,
    PySem.W.mg_of X G y_Pair,
    PySem.W.mg_of X G y_Either,
    PySem.W.mg_of X G y_Together,
    PySem.W.mg_of X G y_Below,
    PySem.W.mg_of X G y_StokeError,
    PySem.W.mg_of X G y_Ended,
    PySem.W.mg_of X G y_Full,
    PySem.W.mg_of X G y_NoBand,
    PySem.W.mg_of X G y_NoFailing,
    PySem.W.mg_of X G y_NoHold,
    PySem.W.mg_of X G y_NoKeeper,
    PySem.W.mg_of X G y_NoLine,
    PySem.W.mg_of X G y_NoMarks,
    PySem.W.mg_of X G y_NoName,
    PySem.W.mg_of X G y_NoNumber,
    PySem.W.mg_of X G y_NoOrder,
    PySem.W.mg_of X G y_NoRoom,
    PySem.W.mg_of X G y_NoShare,
    PySem.W.mg_of X G y_NoSky,
    PySem.W.mg_of X G y_NoState,
    PySem.W.mg_of X G y_NoStove,
    PySem.W.mg_of X G y_NoText,
    PySem.W.mg_of X G y_NoTurn,
    PySem.W.mg_of X G y_NotKept,
    PySem.W.mg_of X G y_NotOut,
    PySem.W.mg_of X G y_Shared,
    PySem.W.mg_of X G y_TooMany,
    PySem.W.mg_of X G y_Twice,
    y_x_TooMany,
    y_xga_TooMany,
    y_xgt_TooMany,
    y_xcl_TooMany,
    y_xmo_TooMany,
    y_xmb_TooMany,
    y_xis_TooMany,
    y_gs,
    y_tk,
    y_ex,
    y_k0,
    y_k2,
    y_k4,
    y_k1,
    y_k3,
    y_in_Keeper,
    ⟨_, PySem.W.mg_of X G i_MOST_MINDS⟩,
    ⟨_, PySem.W.mg_of X G i_MOST_SIZE⟩,
    ⟨_, PySem.W.mg_of X G i_MOST_WISHES⟩,
    ⟨pg_Keeper, hd_Keeper, po_Keeper, sa_Keeper⟩,
    ⟨mk_Keeper, kc_Keeper⟩,
    ⟨f_Keeper_minds, _, ⟨at_Keeper_minds, fn_Keeper_minds, k_Keeper_minds⟩, fund_mk (st := s_Keeper_minds) l_Keeper_minds co_Keeper_minds k_Keeper_minds⟩,
    ⟨f_Keeper_size, _, ⟨at_Keeper_size, fn_Keeper_size, k_Keeper_size⟩, fund_mk (st := s_Keeper_size) l_Keeper_size co_Keeper_size k_Keeper_size⟩,
    ⟨f_Keeper_wish, _, ⟨at_Keeper_wish, fn_Keeper_wish, k_Keeper_wish⟩, fund_mk (st := s_Keeper_wish) l_Keeper_wish co_Keeper_wish k_Keeper_wish⟩,
    ⟨f_Keeper_after, _, ⟨at_Keeper_after, fn_Keeper_after, k_Keeper_after⟩, fund_mk (st := s_Keeper_after) l_Keeper_after co_Keeper_after k_Keeper_after⟩,
    ⟨pg_Clock, hd_Clock, po_Clock, sa_Clock⟩,
    ⟨mk_Clock, kc_Clock⟩,
    na_Clock_wishes,
    ⟨f_Clock___init__, _, ⟨at_Clock___init__, fn_Clock___init__, k_Clock___init__⟩, fund_mk (st := s_Clock___init__) l_Clock___init__ co_Clock___init__ k_Clock___init__⟩,
    ⟨f_Clock_minds, _, ⟨at_Clock_minds, fn_Clock_minds, k_Clock_minds⟩, fund_mk (st := s_Clock_minds) l_Clock_minds co_Clock_minds k_Clock_minds⟩,
    ⟨f_Clock_wish, _, ⟨at_Clock_wish, fn_Clock_wish, k_Clock_wish⟩, fund_mk (st := s_Clock_wish) l_Clock_wish co_Clock_wish k_Clock_wish⟩,
    ⟨f_Clock_after, _, ⟨at_Clock_after, fn_Clock_after, k_Clock_after⟩, fund_mk (st := s_Clock_after) l_Clock_after co_Clock_after k_Clock_after⟩,
    ⟨f_Clock_size, _, ⟨at_Clock_size, fn_Clock_size, k_Clock_size⟩, fund_mk (st := s_Keeper_size) l_Clock_size co_Clock_size k_Clock_size⟩,
    ⟨pg_Table, hd_Table, po_Table, sa_Table⟩,
    ⟨mk_Table, kc_Table⟩,
    na_Table_rows,
    na_Table_other,
    ⟨f_Table___init__, _, ⟨at_Table___init__, fn_Table___init__, k_Table___init__⟩, fund_mk (st := s_Table___init__) l_Table___init__ co_Table___init__ k_Table___init__⟩,
    ⟨_, _, _, t_Table___init__, rfl, (.cons rfl .nil)⟩,
    ⟨f_Table_minds, _, ⟨at_Table_minds, fn_Table_minds, k_Table_minds⟩, fund_mk (st := s_Table_minds) l_Table_minds co_Table_minds k_Table_minds⟩,
    ⟨f_Table_size, _, ⟨at_Table_size, fn_Table_size, k_Table_size⟩, fund_mk (st := s_Table_size) l_Table_size co_Table_size k_Table_size⟩,
    ⟨f_Table_wish, _, ⟨at_Table_wish, fn_Table_wish, k_Table_wish⟩, fund_mk (st := s_Table_wish) l_Table_wish co_Table_wish k_Table_wish⟩,
    ⟨f_Table_after, _, ⟨at_Table_after, fn_Table_after, k_Table_after⟩, fund_mk (st := s_Table_after) l_Table_after co_Table_after k_Table_after⟩,
    ⟨pg_Pair, hd_Pair, po_Pair, sa_Pair⟩,
    ⟨mk_Pair, kc_Pair⟩,
    na_Pair_one,
    na_Pair_other,
    ⟨f_Pair___init__, _, ⟨at_Pair___init__, fn_Pair___init__, k_Pair___init__⟩, fund_mk (st := s_Pair___init__) l_Pair___init__ co_Pair___init__ k_Pair___init__⟩,
    ⟨f_Pair_minds, _, ⟨at_Pair_minds, fn_Pair_minds, k_Pair_minds⟩, fund_mk (st := s_Pair_minds) l_Pair_minds co_Pair_minds k_Pair_minds⟩,
    ⟨f_Pair_size, _, ⟨at_Pair_size, fn_Pair_size, k_Pair_size⟩, fund_mk (st := s_Pair_size) l_Pair_size co_Pair_size k_Pair_size⟩,
    ⟨f_Pair_wish, _, ⟨at_Pair_wish, fn_Pair_wish, k_Pair_wish⟩, fund_mk (st := s_Pair_wish) l_Pair_wish co_Pair_wish k_Pair_wish⟩,
    ⟨f_Pair_after, _, ⟨at_Pair_after, fn_Pair_after, k_Pair_after⟩, fund_mk (st := s_Pair_after) l_Pair_after co_Pair_after k_Pair_after⟩,
    ⟨f_Pair_wish_of_one, _, ⟨at_Pair_wish_of_one, fn_Pair_wish_of_one, k_Pair_wish_of_one⟩, fund_mk (st := s_Pair_wish_of_one) l_Pair_wish_of_one co_Pair_wish_of_one k_Pair_wish_of_one⟩,
    ⟨f_Pair_wish_of_other, _, ⟨at_Pair_wish_of_other, fn_Pair_wish_of_other, k_Pair_wish_of_other⟩, fund_mk (st := s_Pair_wish_of_other) l_Pair_wish_of_other co_Pair_wish_of_other k_Pair_wish_of_other⟩,
    ⟨pg_Either, hd_Either, po_Either, sa_Either⟩,
    ⟨mk_Either, kc_Either⟩,
    na_Either_one,
    na_Either_other,
    ⟨f_Either_wish, _, ⟨at_Either_wish, fn_Either_wish, k_Either_wish⟩, fund_mk (st := s_Either_wish) l_Either_wish co_Either_wish k_Either_wish⟩,
    ⟨f_Either___init__, _, ⟨at_Either___init__, fn_Either___init__, k_Either___init__⟩, fund_mk (st := s_Pair___init__) l_Either___init__ co_Either___init__ k_Either___init__⟩,
    ⟨f_Either_minds, _, ⟨at_Either_minds, fn_Either_minds, k_Either_minds⟩, fund_mk (st := s_Pair_minds) l_Either_minds co_Either_minds k_Either_minds⟩,
    ⟨f_Either_size, _, ⟨at_Either_size, fn_Either_size, k_Either_size⟩, fund_mk (st := s_Pair_size) l_Either_size co_Either_size k_Either_size⟩,
    ⟨f_Either_after, _, ⟨at_Either_after, fn_Either_after, k_Either_after⟩, fund_mk (st := s_Pair_after) l_Either_after co_Either_after k_Either_after⟩,
    ⟨f_Either_wish_of_one, _, ⟨at_Either_wish_of_one, fn_Either_wish_of_one, k_Either_wish_of_one⟩, fund_mk (st := s_Pair_wish_of_one) l_Either_wish_of_one co_Either_wish_of_one k_Either_wish_of_one⟩,
    ⟨f_Either_wish_of_other, _, ⟨at_Either_wish_of_other, fn_Either_wish_of_other, k_Either_wish_of_other⟩, fund_mk (st := s_Pair_wish_of_other) l_Either_wish_of_other co_Either_wish_of_other k_Either_wish_of_other⟩,
    ⟨pg_Together, hd_Together, po_Together, sa_Together⟩,
    ⟨mk_Together, kc_Together⟩,
    na_Together_one,
    na_Together_other,
    ⟨f_Together_wish, _, ⟨at_Together_wish, fn_Together_wish, k_Together_wish⟩, fund_mk (st := s_Together_wish) l_Together_wish co_Together_wish k_Together_wish⟩,
    ⟨f_Together___init__, _, ⟨at_Together___init__, fn_Together___init__, k_Together___init__⟩, fund_mk (st := s_Pair___init__) l_Together___init__ co_Together___init__ k_Together___init__⟩,
    ⟨f_Together_minds, _, ⟨at_Together_minds, fn_Together_minds, k_Together_minds⟩, fund_mk (st := s_Pair_minds) l_Together_minds co_Together_minds k_Together_minds⟩,
    ⟨f_Together_size, _, ⟨at_Together_size, fn_Together_size, k_Together_size⟩, fund_mk (st := s_Pair_size) l_Together_size co_Together_size k_Together_size⟩,
    ⟨f_Together_after, _, ⟨at_Together_after, fn_Together_after, k_Together_after⟩, fund_mk (st := s_Pair_after) l_Together_after co_Together_after k_Together_after⟩,
    ⟨f_Together_wish_of_one, _, ⟨at_Together_wish_of_one, fn_Together_wish_of_one, k_Together_wish_of_one⟩, fund_mk (st := s_Pair_wish_of_one) l_Together_wish_of_one co_Together_wish_of_one k_Together_wish_of_one⟩,
    ⟨f_Together_wish_of_other, _, ⟨at_Together_wish_of_other, fn_Together_wish_of_other, k_Together_wish_of_other⟩, fund_mk (st := s_Pair_wish_of_other) l_Together_wish_of_other co_Together_wish_of_other k_Together_wish_of_other⟩,
    ⟨pg_Below, hd_Below, po_Below, sa_Below⟩,
    ⟨mk_Below, kc_Below⟩,
    na_Below_one,
    na_Below_other,
    na_Below_room,
    na_Below_band,
    ⟨f_Below___init__, _, ⟨at_Below___init__, fn_Below___init__, k_Below___init__⟩, fund_mk (st := s_Below___init__) l_Below___init__ co_Below___init__ k_Below___init__⟩,
    ⟨f_Below_wish, _, ⟨at_Below_wish, fn_Below_wish, k_Below_wish⟩, fund_mk (st := s_Below_wish) l_Below_wish co_Below_wish k_Below_wish⟩,
    ⟨f_Below_minds, _, ⟨at_Below_minds, fn_Below_minds, k_Below_minds⟩, fund_mk (st := s_Pair_minds) l_Below_minds co_Below_minds k_Below_minds⟩,
    ⟨f_Below_size, _, ⟨at_Below_size, fn_Below_size, k_Below_size⟩, fund_mk (st := s_Pair_size) l_Below_size co_Below_size k_Below_size⟩,
    ⟨f_Below_after, _, ⟨at_Below_after, fn_Below_after, k_Below_after⟩, fund_mk (st := s_Pair_after) l_Below_after co_Below_after k_Below_after⟩,
    ⟨f_Below_wish_of_one, _, ⟨at_Below_wish_of_one, fn_Below_wish_of_one, k_Below_wish_of_one⟩, fund_mk (st := s_Pair_wish_of_one) l_Below_wish_of_one co_Below_wish_of_one k_Below_wish_of_one⟩,
    ⟨f_Below_wish_of_other, _, ⟨at_Below_wish_of_other, fn_Below_wish_of_other, k_Below_wish_of_other⟩, fund_mk (st := s_Pair_wish_of_other) l_Below_wish_of_other co_Below_wish_of_other k_Below_wish_of_other⟩,
    ⟨f_gPair___init__, _, ⟨ga_gPair___init__, ⟨_, rd_gPair___init__, fc_gPair___init__⟩, k_gPair___init__⟩, fund_mk (st := s_Pair___init__) l_gPair___init__ co_gPair___init__ k_gPair___init__⟩,
    ⟨f_wall, _, PySem.W.mg_of X G a_wall, fun_mk (st := s_wall) l_wall co_wall k_wall⟩,
    ⟨f_look_at_size, _, PySem.W.mg_of X G a_look_at_size, fun_mk (st := s_look_at_size) l_look_at_size co_look_at_size k_look_at_size⟩,
    ⟨f_law_cell_at, _, PySem.W.mg_of X G a_law_cell_at, fun_mk (st := s_law_cell_at) l_law_cell_at co_law_cell_at k_law_cell_at⟩,
    ⟨f_law_whole, _, PySem.W.mg_of X G a_law_whole, fun_mk (st := s_law_whole) l_law_whole co_law_whole k_law_whole⟩,
    ⟨f_law_stream, _, PySem.W.mg_of X G a_law_stream, fun_mk (st := s_law_stream) l_law_stream co_law_stream k_law_stream⟩,
    ⟨f_law_made, _, PySem.W.mg_of X G a_law_made, fun_mk (st := s_law_made) l_law_made co_law_made k_law_made⟩,
    ⟨f_law_told, _, PySem.W.mg_of X G a_law_told, fun_mk (st := s_law_told) l_law_told co_law_told k_law_told⟩,
    ⟨f_law_right, _, PySem.W.mg_of X G a_law_right, fun_mk (st := s_law_right) l_law_right co_law_right k_law_right⟩,
    ⟨f_law_minds_right, _, PySem.W.mg_of X G a_law_minds_right, fun_mk (st := s_law_minds_right) l_law_minds_right co_law_minds_right k_law_minds_right⟩,
    ⟨f_law_size_right, _, PySem.W.mg_of X G a_law_size_right, fun_mk (st := s_law_size_right) l_law_size_right co_law_size_right k_law_size_right⟩,
    ⟨f_law, _, PySem.W.mg_of X G a_law, fun_mk (st := s_law) l_law co_law k_law⟩,
    PySem.W.mg_none_of X G z_ValueError,
    PySem.W.mg_none_of X G z_bool,
    PySem.W.mg_none_of X G z_dict,
    PySem.W.mg_none_of X G z_int,
    PySem.W.mg_none_of X G z_isinstance,
    PySem.W.mg_none_of X G z_len,
    PySem.W.mg_none_of X G z_list,
    PySem.W.mg_none_of X G z_range,
    PySem.W.mg_none_of X G z_tuple⟩
section
variable {P : Program} {w : World} {K : PySem.W.Frag} {mg : Str → Option Value} {base : Heap} {Ad : Ads}
theorem ok_law_cell_at (T : Txt K mg Ad) : Def P w K mg base "_law_cell_at" 1 ["_law_script", "_law_k"] (sp_cell_at K) := by
  refine T.d_law_cell_at.def sc_law_cell_at (fun vs H Q E h => ?_) (fun _ _ _ _ _ _ us hl => match us, hl with | [_, _], _ => rfl) (fun f cdv A outer s H vs Q E hr h => ?_)
  · obtain ⟨a, ns, z, rfl, _⟩ := h
    rfl
  · obtain ⟨a, ns, z, rfl, hS, hz, k⟩ := h
    refine ⟨_, (pss_cons (ps_if (pt_cmpR op_lt (pv 1) (pe_callB call_lenL (by rfl) T.n_len bt_len (pa_cons (pv 0) pa_nil)) (nomark _)) (pss_one (ps_ret (pe_ix ix_any (pv 0) (pv 1) (fun _ _ => rfl)))) pss_nil)
      (pss_one (ps_ret pe_int))), ?_⟩
    refine ⟨_, rfl, _, rfl, _, _, rfl, .inl hS, fun n en => ⟨_, _, rfl, rfl, _, rfl, ?_⟩⟩
    rw [List.length_map] at en
    refine ite3 (fun h => ?_) (fun h => ?_)
    · have hl : z.toNat < ns.length := by omega
      have e : (ns.map V.int)[z.toNat]? = some (.int (ns[z.toNat]'hl)) := by simp [hl]
      have e2 := atI_nat e
      rw [Int.toNat_of_nonneg hz] at e2
      refine ⟨_, rfl, _, rfl, _, _, _, _, rfl, rfl, .inl hS, e2, k _ (.inl (List.getElem_mem hl))⟩
    · exact k 0 (.inr rfl)

theorem ok_law_stream (T : Txt K mg Ad) : Def P w K mg base "_law_stream" 1 ["_law_cell", "_law_many"] sp_stream := by
  refine T.d_law_stream.def sc_law_stream (fun vs H Q E h => ?_) (fun _ _ _ _ _ _ us hl => match us, hl with | [_, _], _ => rfl) (fun f cdv A outer s H vs Q E hr h => ?_)
  · obtain ⟨c, m, rfl, _⟩ := h
    rfl
  · obtain ⟨c, m, rfl, hm, k⟩ := h
    refine ⟨_, (pss_cons (ps_set (i := 2) sc_law_stream.nd rfl (by first | exact Or.inl rfl | exact Or.inr rfl) (pe_lst pa_nil))
      (pss_cons (ps_set (i := 3) sc_law_stream.nd rfl (by first | exact Or.inl rfl | exact Or.inr rfl) (pe_op op_addL (pe_op op_modL (pv 0) pe_int) pe_int))
      (pss_cons (ps_for PassesOwn.never rfl (pi_range1 rfl T.n_range (pa_cons (pe_op op_addL (pv 1) pe_int) pa_nil)) (pg_name (i := 4) sc_law_stream.nd rfl (by first | exact Or.inl rfl | exact Or.inr rfl)) (pss_cons (ps_set (i := 3) sc_law_stream.nd rfl (by first | exact Or.inl rfl | exact Or.inr rfl) (pe_op op_modL (pe_op op_addL (pe_op op_addL (pe_op op_mulL (pv 3) pe_int) (pe_op op_mulL (pe_op op_mulL pe_int (pv 4)) (pv 4))) pe_int) pe_int))
      (pss_one (ps_expr (pe_bm PySem.F.plainAttrs_list PySem.F.slot_list_append PySem.F.type_list_append mt_append (pv 2) (pa_cons (pe_op op_fdivL (pv 3) pe_int) pa_nil))))))
      (pss_one (ps_ret (pe_slice sl_list (pv 2) (po_some pe_int) po_none)))))), ?_⟩
    refine ⟨sz0, fun pf hpf => ?_⟩
    refine ⟨_, rfl, _, _, rfl, rfl, by decide, fun q q0 q1 eq => ⟨_, _, rfl, rfl, fun nu enu => ?_⟩⟩
    refine ⟨_, rfl, _, _, rfl, rfl, fun y ey => ⟨_, rfl, by omega, by omega, ?_⟩⟩
    obtain rfl : y = ((m + 2 : Nat) : Int) := by rw [ey]; push_cast; rfl
    refine for_range (lo := 0) (n := m + 2) (fun i σ H' => Same H H' ∧ (∃ ns : List Int, H' pf = some (.lst (ns.map V.int)) ∧ ns.length = i ∧ ∀ z ∈ ns, 0 ≤ z ∧ z < 2 ^ 31) ∧ ∃ nu v, 0 ≤ nu ∧ nu ≤ 2147483647 ∧ σ = [some (.int c), some (natV m), some (.ref pf), some (.int nu), v])
      ⟨same_upd hpf, ⟨[], upd_same, rfl, nofun⟩, nu, none, by omega, by omega, rfl⟩ ?_ ?_
    · rintro i σ H' hi ⟨s1, ⟨ns, hp, ln, bn⟩, nu, v, n0, n1, rfl⟩
      refine ⟨_, rfl, _, _, rfl, rfl, ⟨31, 16, (show nu.natAbs < 2 ^ 31 by omega), bdd, by decide⟩, fun y1 e1 => ?_⟩
      refine ⟨_, rfl, _, _, rfl, rfl, ⟨13, 7, bdd, (show Int.natAbs _ < 2 ^ 7 by omega), by decide⟩, fun y2 e2 => ?_⟩
      have e2 : y2 = 7919 * (0 + (i : Int)) := e2
      refine ⟨_, rfl, _, _, rfl, rfl, ⟨20, 7, (show Int.natAbs _ < 2 ^ 20 by omega), (show Int.natAbs _ < 2 ^ 7 by omega), by decide⟩, fun y3 e3 => ⟨_, _, rfl, rfl, fun y4 e4 => ⟨_, _, rfl, rfl, fun y5 e5 => ⟨_, _, rfl, rfl, by decide, fun y6 g0 g1 e6 => ?_⟩⟩⟩⟩
      refine ⟨_, rfl, .inl ⟨rfl, _, SqL.of hp⟩, _, rfl, _, _, rfl, rfl, ⟨by decide, bdd⟩, fun y7 e7 => ?_⟩
      rw [Int.fdiv_eq_ediv_of_nonneg _ (by decide)] at e7
      have e7 : y7 = y6 / 3 := e7
      refine ⟨pf, _, _, rfl, rfl, hp, small1000 (by rw [List.length_map]; omega), s1.put hpf, ⟨ns ++ [y7], by rw [List.map_append]; exact upd_same, by rw [List.length_append, ln]; rfl, fun z hz => ?_⟩, y6, _, g0, by omega, rfl⟩
      rcases List.mem_append.mp hz with h | h
      · exact bn z h
      · rw [List.mem_singleton.mp h]; omega
    · rintro σ H' ⟨s1, ⟨ns, hp, ln, bn⟩, nu, v, n0, n1, rfl⟩
      refine ⟨_, rfl, 2, rfl, pf, _, rfl, SqL.of hp, fun p2 hp2 => ?_⟩
      rw [cut2 ln]
      exact k p2 (ns.drop 2) _ (s1.trans (same_upd hp2)) upd_same (by rw [List.length_drop]; omega) (fun z hz => bn z (List.mem_of_mem_drop hz))
theorem ok_law_whole (T : Txt K mg Ad) : Def P w K mg base "_law_whole" 1 ["_law_found"] sp_whole := by
  refine T.d_law_whole.def sc_law_whole (fun vs H Q E h => ?_) (fun _ _ _ _ _ _ us hl => match us, hl with | [_], _ => rfl) (fun f cdv A outer s H vs Q E hr h => ?_)
  · obtain ⟨z, rfl, _⟩ := h
    rfl
  · obtain ⟨z, rfl, k⟩ := h
    refine ⟨_, (pss_one (ps_ret (pe_and (pe_callB call_isinst (by rfl) T.n_isinstance bt_isinstance (pa_cons (pv 0) (pa_cons (pe_bltn (v := V.ty "int") rfl T.n_int bt_int rfl) pa_nil))) (pe_one (pe_not (pe_callB call_isinst (by rfl) T.n_isinstance bt_isinstance (pa_cons (pv 0) (pa_cons (pe_bltn (v := V.ty "bool") rfl T.n_bool bt_bool rfl) pa_nil)))))))), ?_⟩
    exact ⟨_, rfl, _, _, _, _, _, rfl, .int z, rfl, rfl, _, rfl, iteT ⟨_, rfl, _, _, _, _, _, rfl, .int z, rfl, kit_int_bool K, _, rfl, k⟩⟩

def sp_one1 : Sp := fun vs H Q _ => ∃ v, vs = [v] ∧ Q (.int 1) H
theorem okm_Keeper_minds (T : Txt K mg Ad) : MDef P w K mg base Ad.Keeper "minds" 1 ["self"] [] sp_one1 := by
  refine T.e_Keeper_minds.mdef sc_Keeper_minds (fun vs H Q E h => ?_) (fun _ _ _ _ _ _ us hl => match us, hl with | [_], _ => rfl) (fun f cdv A outer s H vs Q E hr h => ?_)
  · obtain ⟨v, rfl, _⟩ := h
    rfl
  · obtain ⟨v, rfl, k⟩ := h
    exact ⟨_, (pss_one (ps_ret pe_int)), k⟩
theorem okm_Keeper_size (T : Txt K mg Ad) : MDef P w K mg base Ad.Keeper "size" 1 ["self"] [] sp_one1 := by
  refine T.e_Keeper_size.mdef sc_Keeper_size (fun vs H Q E h => ?_) (fun _ _ _ _ _ _ us hl => match us, hl with | [_], _ => rfl) (fun f cdv A outer s H vs Q E hr h => ?_)
  · obtain ⟨v, rfl, _⟩ := h
    rfl
  · obtain ⟨v, rfl, k⟩ := h
    exact ⟨_, (pss_one (ps_ret pe_int)), k⟩
theorem okm_Clock_size (T : Txt K mg Ad) : MDef P w K mg base Ad.Clock "size" 1 ["self"] [] sp_one1 := by
  refine T.e_Clock_size.mdef sc_Keeper_size (fun vs H Q E h => ?_) (fun _ _ _ _ _ _ us hl => match us, hl with | [_], _ => rfl) (fun f cdv A outer s H vs Q E hr h => ?_)
  · obtain ⟨v, rfl, _⟩ := h
    rfl
  · obtain ⟨v, rfl, k⟩ := h
    exact ⟨_, (pss_one (ps_ret pe_int)), k⟩
theorem okm_Clock_minds (T : Txt K mg Ad) : MDef P w K mg base Ad.Clock "minds" 1 ["self"] [] (sp_cminds Ad.Clock) := by
  refine T.e_Clock_minds.mdef sc_Clock_minds (fun vs H Q E h => ?_) (fun _ _ _ _ _ _ us hl => match us, hl with | [_], _ => rfl) (fun f cdv A outer s H vs Q E hr h => ?_)
  · obtain ⟨a, ws, rfl, _⟩ := h
    rfl
  · obtain ⟨a, ws, rfl, ⟨dx, pw, ha, hdx, hpw, _⟩, k⟩ := h
    refine ⟨_, (pss_one (ps_ret (pe_callB call_lenL (by rfl) T.n_len bt_len (pa_cons (pe_fld (pv 0) rfl) pa_nil)))), ?_⟩
    exact ⟨_, rfl, a, _, dx, _, _, rfl, ha, T.cl_Clock, T.na_Clock_wishes, rfl, pw, _, rfl, .inl (SqL.of hpw), fun r er => by rw [er, List.length_map]; exact k⟩
theorem okm_Clock___init__ (T : Txt K mg Ad) : MDef P w K mg base Ad.Clock "__init__" 1 ["self", "wishes"] [] (sp_cinit Ad.Clock K) := by
  refine T.e_Clock___init__.mdef sc_Clock___init__ (fun vs H Q E h => ?_) (fun _ _ _ _ _ _ us hl => match us, hl with | [_, _], _ => rfl) (fun f cdv A outer s H vs Q E hr h => ?_)
  · obtain ⟨x, dx, p, ws, rfl, _⟩ := h
    rfl
  · obtain ⟨x, dx, p, ws, rfl, hx, hdx, hp, l1, l2, k⟩ := h
    refine ⟨_, (pss_cons (ps_if (pt_not (pt_chain op_le op_le pe_int (pe_callB call_lenL (by rfl) T.n_len bt_len (pa_cons (pv 1) pa_nil)) (pe_globI rfl T.m_MOST_WISHES))) (pss_one ps_never) pss_nil)
      (pss_one (ps_fld (pv 0) (pe_callTy call_list_of (by rfl) T.n_list bt_list (pa_cons (pv 1) pa_nil)) rfl))), ?_⟩
    refine ⟨_, rfl, p, _, rfl, .inl hp, fun r er => ?_⟩
    rw [List.length_map] at er
    refine ⟨_, _, rfl, rfl, _, rfl, iteP (by omega) ⟨_, _, rfl, rfl, _, rfl, iteNS (by omega) ?_⟩⟩
    refine ⟨_, rfl, p, _, rfl, .inl hp, fun pw hpw => ?_⟩
    have hxp : x ≠ pw := ne_of_none hx hpw
    refine ⟨_, rfl, x, _, dx, _, rfl, by rw [upd_ne hxp]; exact hx, T.cl_Clock, T.na_Clock_wishes, lt1000 rfl, k _ (fun b o hb n => ?_) ⟨dx, pw, upd_same, ?_, ?_, l1, l2⟩⟩
    · rw [upd_ne n, upd_ne (ne_of_none hb hpw)]; exact hb
    · rw [upd_ne (ne_obj hdx hx nofun), upd_ne (ne_of_none hdx hpw)]; exact hdx
    · rw [upd_ne hxp.symm]; exact upd_same
/-- a keeper of m minds and a size of s -/
structure KS (P : Program) (w : World) (K : PySem.W.Frag) (mg : Str → Option Value) (base : Heap) (H : Hp) (a : Addr) (m s k : Nat) : Prop where
  ex : ∃ C dx fs spm sps, H a = some (.ins C dx fs) ∧ fs.lookup ("minds" : Str) = none ∧ fs.lookup ("size" : Str) = none ∧ Cls K C ∧ MDef P w K mg base C "minds" k ["self"] [] spm ∧ MDef P w K mg base C "size" k ["self"] [] sps ∧
    (∀ {H' : Hp} {Q : VK}, Same H H' → Q (natV m) H' → spm [.ref a] H' Q E0) ∧ (∀ {H' : Hp} {Q : VK}, Same H H' → Q (natV s) H' → sps [.ref a] H' Q E0)
  hm : m ≤ 4000
  hs : s ≤ 100
theorem KS.same {H H' : Hp} {a m s k : Nat} (h : KS P w K mg base H a m s k) (q : Same H H') : KS P w K mg base H' a m s k := by
  obtain ⟨⟨C, dx, fs, spm, sps, h1, h2, h3, h4, h5, h6, h7, h8⟩, hm, hs⟩ := h
  exact ⟨⟨C, dx, fs, spm, sps, q _ _ h1, h2, h3, h4, h5, h6, fun q' k' => h7 (q.trans q') k', fun q' k' => h8 (q.trans q') k'⟩, hm, hs⟩
theorem KS.mono {H : Hp} {a m s k j : Nat} (h : KS P w K mg base H a m s k) (q : k ≤ j) : KS P w K mg base H a m s j := by
  obtain ⟨⟨C, dx, fs, spm, sps, h1, h2, h3, h4, h5, h6, h7, h8⟩, hm, hs⟩ := h
  exact ⟨⟨C, dx, fs, spm, sps, h1, h2, h3, h4, h5.mono q, h6.mono q, h7, h8⟩, hm, hs⟩
theorem ks_keeper (T : Txt K mg Ad) {H : Hp} {a dx : Addr} (h : H a = some (.ins Ad.Keeper dx [])) : KS P w K mg base H a 1 1 1 :=
  ⟨⟨_, dx, [], _, _, h, rfl, rfl, T.cl_Keeper, okm_Keeper_minds T, okm_Keeper_size T, fun _ k => ⟨_, rfl, k⟩, fun _ k => ⟨_, rfl, k⟩⟩, by decide, by decide⟩
theorem ks_clock (T : Txt K mg Ad) {H : Hp} {a : Addr} {ws : List Int} (h : ClockAt Ad.Clock H a ws) : KS P w K mg base H a ws.length 1 1 := by
  obtain ⟨dx, pw, h1, h2, h3, h4, h5⟩ := id h
  exact ⟨⟨_, dx, _, _, _, h1, rfl, rfl, T.cl_Clock, okm_Clock_minds T, okm_Clock_size T, fun q k => ⟨a, ws, rfl, h.same q, k⟩, fun _ k => ⟨_, rfl, k⟩⟩, by omega, by decide⟩
def sp_tm (P : Program) (w : World) (K : PySem.W.Frag) (mg : Str → Option Value) (base : Heap) (C : Addr) (k : Nat) : Sp := fun vs H Q _ => ∃ a dx pr b m s, vs = [.ref a] ∧ H a = some (.ins C dx [("rows", .ref pr), ("other", .ref b)]) ∧ KS P w K mg base H b m s k ∧ Q (natV m) H
def sp_ts (P : Program) (w : World) (K : PySem.W.Frag) (mg : Str → Option Value) (base : Heap) (C : Addr) (k : Nat) : Sp := fun vs H Q _ => ∃ a dx pr b m s, vs = [.ref a] ∧ H a = some (.ins C dx [("rows", .ref pr), ("other", .ref b)]) ∧ KS P w K mg base H b m s k ∧ Q (natV (1 + s)) H
theorem okm_Table_minds (T : Txt K mg Ad) {k : Nat} : MDef P w K mg base Ad.Table "minds" (k + 1) ["self"] [] (sp_tm P w K mg base Ad.Table k) := by
  refine T.e_Table_minds.mdef sc_Table_minds (fun vs H Q E h => ?_) (fun _ _ _ _ _ _ us hl => match us, hl with | [_], _ => rfl) (fun f cdv A outer s H vs Q E hr h => ?_)
  · obtain ⟨a, dx, pr, b, m, s, rfl, _⟩ := h
    rfl
  · obtain ⟨a, dx, pr, b, m, s, rfl, ha, hb, q⟩ := h
    refine ⟨_, (pss_one (ps_ret (pe_ifExp (pt_cmpR op_isN (pe_fld (pv 0) rfl) pe_non (nomark _)) pe_int (pe_dyn0 (P := P) (w := w) (K := K) (mg := mg) (base := base) (k := k) ⟨rfl, rfl, rfl, rfl, rfl⟩ (pe_fld (pv 0) rfl) hr)))), ?_⟩
    obtain ⟨C, dx', fs, spm, sps, h1, h2, h3, h4, h5, h6, h7, h8⟩ := hb.ex
    exact ⟨_, rfl, a, _, dx, _, _, rfl, ha, T.cl_Table, T.na_Table_other, rfl, rfl, _, rfl, iteN nofun ⟨_, rfl, a, _, dx, _, _, rfl, ha, T.cl_Table, T.na_Table_other, rfl, C, b, dx', fs, _, spm, rfl, h1, h2, h4, h5, h7 (Same.refl _) q⟩⟩
theorem okm_Table_size (T : Txt K mg Ad) {k : Nat} : MDef P w K mg base Ad.Table "size" (k + 1) ["self"] [] (sp_ts P w K mg base Ad.Table k) := by
  refine T.e_Table_size.mdef sc_Table_size (fun vs H Q E h => ?_) (fun _ _ _ _ _ _ us hl => match us, hl with | [_], _ => rfl) (fun f cdv A outer s H vs Q E hr h => ?_)
  · obtain ⟨a, dx, pr, b, m, s, rfl, _⟩ := h
    rfl
  · obtain ⟨a, dx, pr, b, m, s, rfl, ha, hb, q⟩ := h
    refine ⟨_, (pss_one (ps_ret (pe_ifExp (pt_cmpR op_isN (pe_fld (pv 0) rfl) pe_non (nomark _)) pe_int (pe_op op_addL pe_int (pe_dyn0 (P := P) (w := w) (K := K) (mg := mg) (base := base) (k := k) ⟨rfl, rfl, rfl, rfl, rfl⟩ (pe_fld (pv 0) rfl) hr))))), ?_⟩
    obtain ⟨C, dx', fs, spm, sps, h1, h2, h3, h4, h5, h6, h7, h8⟩ := hb.ex
    refine ⟨_, rfl, a, _, dx, _, _, rfl, ha, T.cl_Table, T.na_Table_other, rfl, rfl, _, rfl, iteN nofun ⟨_, rfl, a, _, dx, _, _, rfl, ha, T.cl_Table, T.na_Table_other, rfl, C, b, dx', fs, _, sps, rfl, h1, h3, h4, h6, h8 (Same.refl _) ⟨_, _, rfl, rfl, fun y ey => ?_⟩⟩⟩
    have e : y = ((1 + s : Nat) : Int) := by rw [ey]; push_cast; rfl
    rw [e]; exact q
theorem ks_table (T : Txt K mg Ad) {H : Hp} {a dx pr b : Addr} {m s k : Nat} (ha : H a = some (.ins Ad.Table dx [("rows", .ref pr), ("other", .ref b)])) (hb : KS P w K mg base H b m s k) (hs : s ≤ 15) : KS P w K mg base H a m (1 + s) (k + 1) :=
  ⟨⟨_, dx, _, _, _, ha, rfl, rfl, T.cl_Table, okm_Table_minds T, okm_Table_size T, fun q k' => ⟨a, dx, pr, b, m, s, rfl, q _ _ ha, hb.same q, k'⟩, fun q k' => ⟨a, dx, pr, b, m, s, rfl, q _ _ ha, hb.same q, k'⟩⟩, hb.hm, by omega⟩
def PrAt (K : PySem.W.Frag) (C : Addr) (H : Hp) (a b c : Addr) (ex : List (Str × V)) : Prop := PCl K C ∧ ∃ dx, H a = some (.ins C dx (("one", .ref b) :: ("other", .ref c) :: ex))
def sp_pm (P : Program) (w : World) (K : PySem.W.Frag) (mg : Str → Option Value) (base : Heap) (k : Nat) : Sp := fun vs H Q _ => ∃ C a b c ex m1 s1 m2 s2, vs = [.ref a] ∧ PrAt K C H a b c ex ∧ KS P w K mg base H b m1 s1 k ∧ KS P w K mg base H c m2 s2 k ∧ Q (natV (m1 * m2)) H
def sp_ps (P : Program) (w : World) (K : PySem.W.Frag) (mg : Str → Option Value) (base : Heap) (k : Nat) : Sp := fun vs H Q _ => ∃ C a b c ex m1 s1 m2 s2, vs = [.ref a] ∧ PrAt K C H a b c ex ∧ KS P w K mg base H b m1 s1 k ∧ KS P w K mg base H c m2 s2 k ∧ Q (natV (1 + s1 + s2)) H
theorem fb_Pair_minds (T : Txt K mg Ad) {k : Nat} {f : Addr} {fd : FuncData} (F : FunD K "minds" "Pair.minds" s_Pair_minds .none f fd) : FnOk P w K mg base CX0 (k + 1) f fd ["self"] (sp_pm P w K mg base k) := by
  refine F.ok sc_Pair_minds (fun vs H Q E h => ?_) (fun cdv A outer s H vs Q E hr h => ?_)
  · obtain ⟨C, a, b, c, ex, m1, s1, m2, s2, rfl, _⟩ := h
    rfl
  · obtain ⟨C, a, b, c, ex, m1, s1, m2, s2, rfl, ⟨pc, dx, ha⟩, hb, hc, q⟩ := h
    refine ⟨_, (pss_one (ps_ret (pe_op op_mulL (pe_dyn0 (P := P) (w := w) (K := K) (mg := mg) (base := base) (k := k) ⟨rfl, rfl, rfl, rfl, rfl⟩ (pe_fld (pv 0) rfl) hr) (pe_dyn0 (P := P) (w := w) (K := K) (mg := mg) (base := base) (k := k) ⟨rfl, rfl, rfl, rfl, rfl⟩ (pe_fld (pv 0) rfl) hr)))), ?_⟩
    obtain ⟨C1, d1, f1, sm1, ss1, b1, b2, b3, b4, b5, b6, b7, b8⟩ := hb.ex
    obtain ⟨C2, d2, f2, sm2, ss2, c1, c2, c3, c4, c5, c6, c7, c8⟩ := hc.ex
    refine ⟨_, rfl, a, _, dx, _, _, rfl, ha, pc.cl, pc.n1, rfl, C1, b, d1, f1, _, sm1, rfl, b1, b2, b4, b5, b7 (Same.refl _) ?_⟩
    refine ⟨_, rfl, a, _, dx, _, _, rfl, ha, pc.cl, pc.n2, rfl, C2, c, d2, f2, _, sm2, rfl, c1, c2, c4, c5, c7 (Same.refl _) ?_⟩
    have := hb.hm
    have := hc.hm
    refine ⟨_, _, rfl, rfl, ⟨12, 12, (show Int.natAbs _ < 2 ^ 12 by omega), (show Int.natAbs _ < 2 ^ 12 by omega), by decide⟩, fun r er => ?_⟩
    have e : r = ((m1 * m2 : Nat) : Int) := by rw [er]; push_cast; rfl
    rw [e]
    exact q
theorem fb_Pair_size (T : Txt K mg Ad) {k : Nat} {f : Addr} {fd : FuncData} (F : FunD K "size" "Pair.size" s_Pair_size .none f fd) : FnOk P w K mg base CX0 (k + 1) f fd ["self"] (sp_ps P w K mg base k) := by
  refine F.ok sc_Pair_size (fun vs H Q E h => ?_) (fun cdv A outer s H vs Q E hr h => ?_)
  · obtain ⟨C, a, b, c, ex, m1, s1, m2, s2, rfl, _⟩ := h
    rfl
  · obtain ⟨C, a, b, c, ex, m1, s1, m2, s2, rfl, ⟨pc, dx, ha⟩, hb, hc, q⟩ := h
    refine ⟨_, (pss_one (ps_ret (pe_op op_addL (pe_op op_addL pe_int (pe_dyn0 (P := P) (w := w) (K := K) (mg := mg) (base := base) (k := k) ⟨rfl, rfl, rfl, rfl, rfl⟩ (pe_fld (pv 0) rfl) hr)) (pe_dyn0 (P := P) (w := w) (K := K) (mg := mg) (base := base) (k := k) ⟨rfl, rfl, rfl, rfl, rfl⟩ (pe_fld (pv 0) rfl) hr)))), ?_⟩
    obtain ⟨C1, d1, f1, sm1, ss1, b1, b2, b3, b4, b5, b6, b7, b8⟩ := hb.ex
    obtain ⟨C2, d2, f2, sm2, ss2, c1, c2, c3, c4, c5, c6, c7, c8⟩ := hc.ex
    refine ⟨_, rfl, a, _, dx, _, _, rfl, ha, pc.cl, pc.n1, rfl, C1, b, d1, f1, _, ss1, rfl, b1, b3, b4, b6, b8 (Same.refl _) ⟨_, _, rfl, rfl, fun y ey => ?_⟩⟩
    refine ⟨_, rfl, a, _, dx, _, _, rfl, ha, pc.cl, pc.n2, rfl, C2, c, d2, f2, _, ss2, rfl, c1, c3, c4, c6, c8 (Same.refl _) ⟨_, _, rfl, rfl, fun z ez => ?_⟩⟩
    have e : z = ((1 + s1 + s2 : Nat) : Int) := by rw [ez, ey]; push_cast; rfl
    rw [e]
    exact q
/-- a class of pairs -/
structure PK (P : Program) (w : World) (K : PySem.W.Frag) (mg : Str → Option Value) (base : Heap) (C : Addr) : Prop where
  pc : PCl K C
  mi : ∀ k, MDef P w K mg base C "minds" (k + 1) ["self"] [] (sp_pm P w K mg base k)
  si : ∀ k, MDef P w K mg base C "size" (k + 1) ["self"] [] (sp_ps P w K mg base k)
theorem ks_pair {C : Addr} (pk : PK P w K mg base C) {H : Hp} {a b c dx : Addr} {ex : List (Str × V)} {m1 s1 m2 s2 k : Nat} (ha : H a = some (.ins C dx (("one", .ref b) :: ("other", .ref c) :: ex))) (e1 : ex.lookup ("minds" : Str) = none) (e2 : ex.lookup ("size" : Str) = none)
    (hb : KS P w K mg base H b m1 s1 k) (hc : KS P w K mg base H c m2 s2 k) (z1 : m1 ≤ 60) (z2 : m2 ≤ 60) (z3 : s1 ≤ 15) (z4 : s2 ≤ 15) : KS P w K mg base H a (m1 * m2) (1 + s1 + s2) (k + 1) :=
  ⟨⟨C, dx, _, _, _, ha, e1, e2, pk.pc.cl, pk.mi k, pk.si k, fun q k' => ⟨C, a, b, c, ex, m1, s1, m2, s2, rfl, ⟨pk.pc, dx, q _ _ ha⟩, hb.same q, hc.same q, k'⟩, fun q k' => ⟨C, a, b, c, ex, m1, s1, m2, s2, rfl, ⟨pk.pc, dx, q _ _ ha⟩, hb.same q, hc.same q, k'⟩⟩,
    Nat.le_trans (Nat.mul_le_mul z1 z2) (by decide), by omega⟩
theorem bm1 {m qual : Str} {st : Stmt} (h : ∀ (kV doc pm : Value) (an : Option Addr) (cdv ct u : Value), bindArgs (PySem.W.fnOf m qual (defArgs st) (defBody st) (defScope st) .none kV doc pm an cdv ct) ⟨[u], []⟩ = pure ((["self"] : List Str).zip [u])) (kV doc pm : Value) (an : Option Addr) (cdv ct : Value) (us : List Value) (hl : us.length = (["self"] : List Str).length) :
    bindArgs (PySem.W.fnOf m qual (defArgs st) (defBody st) (defScope st) .none kV doc pm an cdv ct) ⟨us, []⟩ = pure ((["self"] : List Str).zip us) := match us, hl with | [u], _ => h kV doc pm an cdv ct u
theorem pk_Pair (T : Txt K mg Ad) : PK P w K mg base Ad.Pair := ⟨⟨T.cl_Pair, T.na_Pair_one, T.na_Pair_other⟩, fun _ => T.e_Pair_minds.of (bm1 fun _ _ _ _ _ _ _ => rfl) fun _ _ F => fb_Pair_minds T F, fun _ => T.e_Pair_size.of (bm1 fun _ _ _ _ _ _ _ => rfl) fun _ _ F => fb_Pair_size T F⟩
theorem pk_Either (T : Txt K mg Ad) : PK P w K mg base Ad.Either := ⟨⟨T.cl_Either, T.na_Either_one, T.na_Either_other⟩, fun _ => T.e_Either_minds.of (bm1 fun _ _ _ _ _ _ _ => rfl) fun _ _ F => fb_Pair_minds T F, fun _ => T.e_Either_size.of (bm1 fun _ _ _ _ _ _ _ => rfl) fun _ _ F => fb_Pair_size T F⟩
theorem pk_Together (T : Txt K mg Ad) : PK P w K mg base Ad.Together := ⟨⟨T.cl_Together, T.na_Together_one, T.na_Together_other⟩, fun _ => T.e_Together_minds.of (bm1 fun _ _ _ _ _ _ _ => rfl) fun _ _ F => fb_Pair_minds T F, fun _ => T.e_Together_size.of (bm1 fun _ _ _ _ _ _ _ => rfl) fun _ _ F => fb_Pair_size T F⟩
theorem pk_Below (T : Txt K mg Ad) : PK P w K mg base Ad.Below := ⟨⟨T.cl_Below, T.na_Below_one, T.na_Below_other⟩, fun _ => T.e_Below_minds.of (bm1 fun _ _ _ _ _ _ _ => rfl) fun _ _ F => fb_Pair_minds T F, fun _ => T.e_Below_size.of (bm1 fun _ _ _ _ _ _ _ => rfl) fun _ _ F => fb_Pair_size T F⟩
def sp_lookX (P : Program) (w : World) (K : PySem.W.Frag) (mg : Str → Option Value) (base : Heap) (N : Addr) : Sp := fun vs H Q E => ∃ a m s k, vs = [.ref a] ∧ KS P w K mg base H a m s k ∧ k ≤ 37 ∧ (m ≤ 60 → s ≤ 15 → Q .non H) ∧ (60 < m ∨ 15 < s → E (.ref N) none H)
theorem okx_look_at_size (T : Txt K mg Ad) : DefX P w K mg base "look_at_size" 38 ["keeper"] (sp_lookX P w K mg base Ad.TooMany) := by
  refine T.d_look_at_size.defX sc_look_at_size (fun vs H Q E h => ?_) (fun _ _ _ _ _ _ us hl => match us, hl with | [_], _ => rfl) (fun f cdv A outer s H vs Q E hr h => ?_)
  · obtain ⟨a, m, s, k, rfl, _⟩ := h
    rfl
  · obtain ⟨a, m, s, k, rfl, hk, k37, q1, q2⟩ := h
    refine ⟨_, (pss_cons (ps_if (pt_cmpR op_gt (pe_dyn0 (P := P) (w := w) (K := K) (mg := mg) (base := base) (k := 37) ⟨rfl, rfl, rfl, rfl, rfl⟩ (pv 0) hr) (pe_globI rfl T.m_MOST_MINDS) (nomark _)) (pss_one (ps_raise rfl PySem.F.excBase_ValueError T.m_TooMany T.x_TooMany (thr_of fun _ _ _ z => z) (pa_cons pe_str pa_nil))) pss_nil)
      (pss_one (ps_if (pt_cmpR op_gt (pe_dyn0 (P := P) (w := w) (K := K) (mg := mg) (base := base) (k := 37) ⟨rfl, rfl, rfl, rfl, rfl⟩ (pv 0) hr) (pe_globI rfl T.m_MOST_SIZE) (nomark _)) (pss_one (ps_raise rfl PySem.F.excBase_ValueError T.m_TooMany T.x_TooMany (thr_of fun _ _ _ z => z) (pa_cons pe_str pa_nil))) pss_nil))), ?_⟩
    obtain ⟨C, dx, fs, spm, sps, h1, h2, h3, h4, h5, h6, h7, h8⟩ := (hk.mono k37).ex
    refine ⟨_, rfl, C, a, dx, fs, _, spm, rfl, h1, h2, h4, h5, h7 (Same.refl _) ⟨_, _, rfl, rfl, _, rfl, ite3 (fun z => ?_) fun z => ?_⟩⟩
    · exact ⟨sz1, q2 (.inl (by have z : (60 : Int) < (m : Int) := z; omega))⟩
    · have z : ¬ (60 : Int) < (m : Int) := z
      refine ⟨_, rfl, C, a, dx, fs, _, sps, rfl, h1, h3, h4, h6, h8 (Same.refl _) ⟨_, _, rfl, rfl, _, rfl, ite3 (fun z2 => ?_) fun z2 => ?_⟩⟩
      · exact ⟨sz1, q2 (.inr (by have z2 : (15 : Int) < (s : Int) := z2; omega))⟩
      · have z2 : ¬ (15 : Int) < (s : Int) := z2
        exact q1 (by omega) (by omega)

def InitK (P : Program) (w : World) (K : PySem.W.Frag) (mg : Str → Option Value) (base : Heap) (H : Hp) (x b c : Addr) (m1 s1 m2 s2 k : Nat) : Prop := ∃ H0, Same H0 H ∧ H0 x = none ∧ KS P w K mg base H0 b m1 s1 k ∧ KS P w K mg base H0 c m2 s2 k ∧ m1 ≤ 60 ∧ m2 ≤ 60 ∧ s1 ≤ 15 ∧ s2 ≤ 15 ∧ k ≤ 36
def sp_pinitX (P : Program) (w : World) (K : PySem.W.Frag) (mg : Str → Option Value) (base : Heap) (N : Addr) : Sp := fun vs H Q E => ∃ C x dx b c m1 s1 m2 s2 k, vs = [.ref x, .ref b, .ref c] ∧ PK P w K mg base C ∧ H x = some (.ins C dx []) ∧ H dx = some (.own x) ∧ InitK P w K mg base H x b c m1 s1 m2 s2 k ∧
  (m1 * m2 ≤ 60 → 1 + s1 + s2 ≤ 15 → ∀ H', (∀ b o, H b = some o → b ≠ x → H' b = some o) → H' x = some (.ins C dx [("one", .ref b), ("other", .ref c)]) → Q .non H') ∧
  (60 < m1 * m2 ∨ 15 < 1 + s1 + s2 → ∀ H', (∀ b o, H b = some o → b ≠ x → H' b = some o) → E (.ref N) none H')
theorem fx_Pair___init__ (T : Txt K mg Ad) {f : Addr} {fd : FuncData} (F : FunD K "__init__" "Pair.__init__" s_Pair___init__ .none f fd) : FnOk P w K mg base (CX1 P w) 39 f fd ["self", "one", "other"] (sp_pinitX P w K mg base Ad.TooMany) := by
  refine F.okX sc_Pair___init__ (fun vs H Q E h => ?_) (fun cdv A outer s H vs Q E hr h => ?_)
  · obtain ⟨C, x, dx, b, c, m1, s1, m2, s2, k, rfl, _⟩ := h
    rfl
  · obtain ⟨C, x, dx, b, c, m1, s1, m2, s2, k, rfl, pk, hx, hdx, ⟨H0, S0, f0, hb, hc, z1, z2, z3, z4, k36⟩, q1, q2⟩ := h
    refine ⟨_, (pss_cons (ps_fld (pv 0) (pv 1) rfl)
      (pss_cons (ps_fld (pv 0) (pv 2) rfl)
      (pss_one (ps_expr (pe_callX (okx_look_at_size T) (hr.mono (by decide)) (pass_of fun _ _ _ z => z) (pa_cons (pv 0) pa_nil)))))), ?_⟩
    have B0 : ButX K C x dx H H [] := .start hx
    refine ⟨_, rfl, _, rfl, x, _, dx, _, rfl, B0.at_, pk.pc.cl, pk.pc.n1, lt1000 rfl, ?_⟩
    have B1 := B0.put (fs' := putF "one" (.ref b) [])
    refine ⟨_, rfl, _, rfl, x, _, dx, _, rfl, B1.at_, pk.pc.cl, pk.pc.n2, lt1000 rfl, ?_⟩
    have B2 := B1.put (fs' := putF "other" (.ref c) (putF "one" (.ref b) []))
    generalize upd (upd H x (.ins C dx (putF "one" (.ref b) []))) x (.ins C dx (putF "other" (.ref c) (putF "one" (.ref b) []))) = H2 at B2 ⊢
    have S2 : Same H0 H2 := fun a o e => B2.st a o (S0 _ _ e) (ne_of_none e f0)
    have hk : KS P w K mg base H2 x (m1 * m2) (1 + s1 + s2) (k + 1) := ks_pair pk (ex := []) B2.at_ rfl rfl (hb.same S2) (hc.same S2) z1 z2 z3 z4
    exact ⟨_, rfl, x, _, _, _, rfl, hk, by omega, fun y1 y2 => q1 y1 y2 _ B2.st B2.at_, fun y => q2 y _ B2.st⟩
theorem okx_Pair___init__ (T : Txt K mg Ad) : MDefX P w K mg base Ad.Pair "__init__" 39 ["self", "one", "other"] [] (sp_pinitX P w K mg base Ad.TooMany) := T.e_Pair___init__.ofX (fun _ _ _ _ _ _ us hl => match us, hl with | [_, _, _], _ => rfl) (fun _ _ F => fx_Pair___init__ T F)
theorem okx_Either___init__ (T : Txt K mg Ad) : MDefX P w K mg base Ad.Either "__init__" 39 ["self", "one", "other"] [] (sp_pinitX P w K mg base Ad.TooMany) := T.e_Either___init__.ofX (fun _ _ _ _ _ _ us hl => match us, hl with | [_, _, _], _ => rfl) (fun _ _ F => fx_Pair___init__ T F)
theorem okx_Together___init__ (T : Txt K mg Ad) : MDefX P w K mg base Ad.Together "__init__" 39 ["self", "one", "other"] [] (sp_pinitX P w K mg base Ad.TooMany) := T.e_Together___init__.ofX (fun _ _ _ _ _ _ us hl => match us, hl with | [_, _, _], _ => rfl) (fun _ _ F => fx_Pair___init__ T F)
theorem okcx_Pair___init__ (T : Txt K mg Ad) : CDefX P w K mg base Ad.Pair "__init__" 39 ["self", "one", "other"] (sp_pinitX P w K mg base Ad.TooMany) := cdefX_of T.g_Pair___init__ (fun _ _ _ _ _ _ us hl => match us, hl with | [_, _, _], _ => rfl) (fun _ _ F => fx_Pair___init__ T F)
theorem okm_Pair___init__ (T : Txt K mg Ad) : MDef P w K mg base Ad.Pair "__init__" 39 ["self", "one", "other"] [] (fun vs H Q _ => sp_pinitX P w K mg base Ad.TooMany vs H Q E0) := (okx_Pair___init__ T).to0
def sp_binitX (P : Program) (w : World) (K : PySem.W.Frag) (mg : Str → Option Value) (base : Heap) (C N : Addr) : Sp := fun vs H Q E => ∃ x dx b c m1 s1 m2 s2 k, ∃ r bd : Int, vs = [.ref x, .int r, .int bd, .ref b, .ref c] ∧ H x = some (.ins C dx []) ∧ H dx = some (.own x) ∧ InitK P w K mg base H x b c m1 s1 m2 s2 k ∧
  (m1 * m2 ≤ 60 → 1 + s1 + s2 ≤ 15 → ∀ H', (∀ b o, H b = some o → b ≠ x → H' b = some o) → H' x = some (.ins C dx (("one", .ref b) :: ("other", .ref c) :: belowX r bd)) → Q .non H') ∧
  (60 < m1 * m2 ∨ 15 < 1 + s1 + s2 → ∀ H', (∀ b o, H b = some o → b ≠ x → H' b = some o) → E (.ref N) none H')
theorem okx_Below___init__ (T : Txt K mg Ad) : MDefX P w K mg base Ad.Below "__init__" 40 ["self", "room", "band", "one", "other"] [] (sp_binitX P w K mg base Ad.Below Ad.TooMany) := by
  refine T.e_Below___init__.mdefX sc_Below___init__ (fun vs H Q E h => ?_) (fun _ _ _ _ _ _ us hl => match us, hl with | [_, _, _, _, _], _ => rfl) (fun f cdv A outer s H vs Q E hr h => ?_)
  · obtain ⟨x, dx, b, c, m1, s1, m2, s2, k, r, bd, rfl, _⟩ := h
    rfl
  · obtain ⟨x, dx, b, c, m1, s1, m2, s2, k, r, bd, rfl, hx, hdx, ik, q1, q2⟩ := h
    refine ⟨_, (pss_cons (ps_expr (pe_clsX (okcx_Pair___init__ T) (hr.mono (by decide)) (pass_of fun _ _ _ z => z) T.m_Pair (pa_cons (pv 0) (pa_cons (pv 3) (pa_cons (pv 4) pa_nil)))))
      (pss_cons (ps_fld (pv 0) (pv 1) rfl)
      (pss_one (ps_fld (pv 0) (pv 2) rfl)))), ?_⟩
    refine ⟨_, rfl, _, rfl, _, rfl, Ad.Below, x, dx, b, c, m1, s1, m2, s2, k, rfl, pk_Below T, hx, hdx, ik, fun y1 y2 H1 st1 hx1 => ?_, q2⟩
    have B0 : ButX K Ad.Below x dx H1 H1 [("one", .ref b), ("other", .ref c)] := .start hx1
    refine ⟨_, rfl, _, rfl, x, _, dx, _, rfl, B0.at_, T.cl_Below, T.na_Below_room, lt1000 rfl, ?_⟩
    have B1 := B0.put (fs' := putF "room" (.int r) [("one", .ref b), ("other", .ref c)])
    refine ⟨_, rfl, _, rfl, x, _, dx, _, rfl, B1.at_, T.cl_Below, T.na_Below_band, lt1000 rfl, ?_⟩
    have B2 := B1.put (fs' := putF "band" (.int bd) (putF "room" (.int r) [("one", .ref b), ("other", .ref c)]))
    exact q1 y1 y2 _ (fun b o hb n => B2.st b o (st1 b o hb n) n) B2.at_
def sp_tinitX (P : Program) (w : World) (K : PySem.W.Frag) (mg : Str → Option Value) (base : Heap) (C N : Addr) : Sp := fun vs H Q E => ∃ x dx p b m s k, vs = [.ref x, .ref p, .ref b] ∧ H x = some (.ins C dx []) ∧ H dx = some (.own x) ∧ H p = some (.dK []) ∧
  (∃ H0, Same H0 H ∧ H0 x = none ∧ KS P w K mg base H0 b m s k) ∧ m ≤ 60 ∧ s ≤ 15 ∧ k ≤ 36 ∧
  (1 + s ≤ 15 → ∀ pr H', (∀ b o, H b = some o → b ≠ x → H' b = some o) → H' x = some (.ins C dx [("rows", .ref pr), ("other", .ref b)]) → Q .non H') ∧
  (15 < 1 + s → ∀ H', (∀ b o, H b = some o → b ≠ x → H' b = some o) → E (.ref N) none H')
theorem bx_Table___init__ (T : Txt K mg Ad) : MOkX P w K mg base Ad.Table "__init__" "Table.__init__" s_Table___init__ (.ref Ad.T_Table___init__) 39 ["self", "rows", "other"] (sp_tinitX P w K mg base Ad.Table Ad.TooMany) := by
  refine T.e_Table___init__.mokX sc_Table___init__ (fun vs H Q E h => ?_) (fun f cdv A outer s H vs Q E hr h => ?_)
  · obtain ⟨x, dx, p, b, m, s, k, rfl, _⟩ := h
    rfl
  · obtain ⟨x, dx, p, b, m, s, k, rfl, hx, hdx, hp, ⟨H0, S0, f0, hb⟩, z1, z2, k36, q1, q2⟩ := h
    refine ⟨_, (pss_cons (ps_fld (pv 0) (pe_callTy call_dict_ofK (by rfl) T.n_dict bt_dict (pa_cons (pv 1) pa_nil)) rfl)
      (pss_cons (ps_fld (pv 0) (pv 2) rfl)
      (pss_one (ps_expr (pe_callX (okx_look_at_size T) (hr.mono (by decide)) (pass_of fun _ _ _ z => z) (pa_cons (pv 0) pa_nil)))))), ?_⟩
    refine ⟨_, rfl, p, _, rfl, .inl hp, fun pr hpr => ?_⟩
    have hxp : x ≠ pr := ne_of_none hx hpr
    have s1 := same_upd (o := .dK []) hpr
    have B0 : ButX K Ad.Table x dx (upd H pr (.dK [])) (upd H pr (.dK [])) [] := .start (s1 _ _ hx)
    refine ⟨_, rfl, x, _, dx, _, rfl, B0.at_, T.cl_Table, T.na_Table_rows, lt1000 rfl, ?_⟩
    have B1 := B0.put (fs' := putF "rows" (.ref pr) [])
    refine ⟨_, rfl, _, rfl, x, _, dx, _, rfl, B1.at_, T.cl_Table, T.na_Table_other, lt1000 rfl, ?_⟩
    have B2 := B1.put (fs' := putF "other" (.ref b) (putF "rows" (.ref pr) []))
    generalize upd (upd (upd H pr (.dK [])) x (.ins Ad.Table dx (putF "rows" (.ref pr) []))) x (.ins Ad.Table dx (putF "other" (.ref b) (putF "rows" (.ref pr) []))) = H2 at B2 ⊢
    have S2 : Same H0 H2 := fun a o e => B2.st a o (s1 _ _ (S0 _ _ e)) (ne_of_none e f0)
    have hk : KS P w K mg base H2 x m (1 + s) (k + 1) := ks_table T B2.at_ (hb.same S2) z2
    exact ⟨_, rfl, x, _, _, _, rfl, hk, by omega, fun y1 y2 => q1 y2 pr _ (fun b o hb n => B2.st b o (s1 _ _ hb) n) B2.at_, fun y => q2 (by omega) _ fun b o hb n => B2.st b o (s1 _ _ hb) n⟩
theorem okx_Table___init___0 (T : Txt K mg Ad) : MDefXE P w K mg base Ad.Table "__init__" 39 ["self", "rows", "other"] [] (sp_tinitX P w K mg base Ad.Table Ad.TooMany) :=
  (bx_Table___init__ T).mdefX T.t_Table___init__ fun items hv => by
    obtain ⟨u1, rfl, r1⟩ := vals1A hv
    exact ⟨[], .nil, fun _ _ _ _ _ _ us hl => match us, hl with | [_, _, _], _ => ⟨_, rfl, rfl⟩⟩
theorem okm_Table___init___0 (T : Txt K mg Ad) : MDefE P w K mg base Ad.Table "__init__" 39 ["self", "rows", "other"] [] (fun vs H Q _ => sp_tinitX P w K mg base Ad.Table Ad.TooMany vs H Q E0) := (okx_Table___init___0 T).to0
/-- what each way makes -/
def mW (way m1 m2 : Nat) : Nat := if way = 4 then m1 else m1 * m2
def sW (way s1 s2 : Nat) : Nat := if way = 4 then 1 + s1 else 1 + s1 + s2
def sp_madeX (P : Program) (w : World) (K : PySem.W.Frag) (mg : Str → Option Value) (base : Heap) (N : Addr) : Sp := fun vs H Q E => ∃ way b c m1 s1 m2 s2 k, vs = [natV way, .ref b, .ref c] ∧ way < 5 ∧ KS P w K mg base H b m1 s1 k ∧ KS P w K mg base H c m2 s2 k ∧ m1 ≤ 60 ∧ m2 ≤ 60 ∧ s1 ≤ 15 ∧ s2 ≤ 15 ∧ k ≤ 36 ∧
  (mW way m1 m2 ≤ 60 → sW way s1 s2 ≤ 15 → ∀ x H', Same H H' → KS P w K mg base H' x (mW way m1 m2) (sW way s1 s2) (k + 1) → Q (.ref x) H') ∧ (60 < mW way m1 m2 ∨ 15 < sW way s1 s2 → ∀ H', Same H H' → E (.ref N) none H')
theorem okx_law_made (T : Txt K mg Ad) : DefX P w K mg base "_law_made" 42 ["_law_way", "_law_one", "_law_other"] (sp_madeX P w K mg base Ad.TooMany) := by
  refine T.d_law_made.defX sc_law_made (fun vs H Q E h => ?_) (fun _ _ _ _ _ _ us hl => match us, hl with | [_, _, _], _ => rfl) (fun f cdv A outer s H vs Q E hr h => ?_)
  · obtain ⟨way, b, c, m1, s1, m2, s2, k, rfl, _⟩ := h
    rfl
  · obtain ⟨way, b, c, m1, s1, m2, s2, k, rfl, w5, hb, hc, z1, z2, z3, z4, k36, q1, q2⟩ := h
    refine ⟨_, (pss_cons (ps_if (pt_cmpR op_eq (pv 0) pe_int (nomark _)) (pss_one (ps_ret (pe_makeX T.mk_Pair (okx_Pair___init__ T) .nil (hr.mono (by decide)) (pass_of fun _ _ _ z => z) T.m_Pair (pa_cons (pv 1) (pa_cons (pv 2) pa_nil))))) pss_nil)
      (pss_cons (ps_if (pt_cmpR op_eq (pv 0) pe_int (nomark _)) (pss_one (ps_ret (pe_makeX T.mk_Either (okx_Either___init__ T) .nil (hr.mono (by decide)) (pass_of fun _ _ _ z => z) T.m_Either (pa_cons (pv 1) (pa_cons (pv 2) pa_nil))))) pss_nil)
      (pss_cons (ps_if (pt_cmpR op_eq (pv 0) pe_int (nomark _)) (pss_one (ps_ret (pe_makeX T.mk_Together (okx_Together___init__ T) .nil (hr.mono (by decide)) (pass_of fun _ _ _ z => z) T.m_Together (pa_cons (pv 1) (pa_cons (pv 2) pa_nil))))) pss_nil)
      (pss_cons (ps_if (pt_cmpR op_eq (pv 0) pe_int (nomark _)) (pss_one (ps_ret (pe_makeX T.mk_Below (okx_Below___init__ T) .nil (hr.mono (by decide)) (pass_of fun _ _ _ z => z) T.m_Below (pa_cons pe_int (pa_cons pe_int (pa_cons (pv 1) (pa_cons (pv 2) pa_nil))))))) pss_nil)
      (pss_one (ps_ret (pe_makeXE T.mk_Table (okx_Table___init___0 T) (hr.mono (by decide)) (pass_of fun _ _ _ z => z) T.m_Table (pa_cons pe_dnewK (pa_cons (pv 1) pa_nil))))))))), ?_⟩
    have st0 : ∀ {H : Hp} {C x dx}, H x = none → H dx = none → dx ≠ x → Same H (upd (upd H dx (.own x)) x (.ins C dx [])) := fun {H C x dx} hx hdx n b o hb => by
      rw [upd_ne (ne_of_none hb hx), upd_ne (ne_of_none hb hdx)]; exact hb
    have up : ∀ {H : Hp} {C x dx H'}, H x = none → H dx = none → dx ≠ x → (∀ b o, (upd (upd H dx (.own x)) x (.ins C dx [])) b = some o → b ≠ x → H' b = some o) → Same H H' := fun {H C x dx H'} hx hdx n q b o hb => q b o (st0 hx hdx n b o hb) (ne_of_none hb hx)
    have ik : ∀ {C x dx}, H x = none → H dx = none → dx ≠ x → InitK P w K mg base (upd (upd H dx (.own x)) x (.ins C dx [])) x b c m1 s1 m2 s2 k := fun {C x dx} hx hdx n => ⟨H, st0 hx hdx n, hx, hb, hc, z1, z2, z3, z4, k36⟩
    have e : way = 0 ∨ way = 1 ∨ way = 2 ∨ way = 3 ∨ way = 4 := by omega
    rcases e with rfl | rfl | rfl | rfl | rfl
    · refine ⟨_, rfl, rfl, _, rfl, iteP rfl ⟨_, rfl, _, rfl, fun x dx hx hdx n => ?_⟩⟩
      refine ⟨Ad.Pair, x, dx, b, c, m1, s1, m2, s2, k, rfl, pk_Pair T, upd_same, by rw [upd_ne n]; exact upd_same, ik hx hdx n, fun y1 y2 H' r1 r2 => ⟨rfl, ?_⟩, fun y H' r1 => q2 y H' (up hx hdx n r1)⟩
      have S := up hx hdx n r1
      exact q1 y1 y2 x H' S (ks_pair (pk_Pair T) (ex := []) r2 rfl rfl (hb.same S) (hc.same S) z1 z2 z3 z4)
    · refine ⟨_, rfl, rfl, _, rfl, iteN (by decide) ⟨_, rfl, rfl, _, rfl, iteP rfl ⟨_, rfl, _, rfl, fun x dx hx hdx n => ?_⟩⟩⟩
      refine ⟨Ad.Either, x, dx, b, c, m1, s1, m2, s2, k, rfl, pk_Either T, upd_same, by rw [upd_ne n]; exact upd_same, ik hx hdx n, fun y1 y2 H' r1 r2 => ⟨rfl, ?_⟩, fun y H' r1 => q2 y H' (up hx hdx n r1)⟩
      have S := up hx hdx n r1
      exact q1 y1 y2 x H' S (ks_pair (pk_Either T) (ex := []) r2 rfl rfl (hb.same S) (hc.same S) z1 z2 z3 z4)
    · refine ⟨_, rfl, rfl, _, rfl, iteN (by decide) ⟨_, rfl, rfl, _, rfl, iteN (by decide) ⟨_, rfl, rfl, _, rfl, iteP rfl ⟨_, rfl, _, rfl, fun x dx hx hdx n => ?_⟩⟩⟩⟩
      refine ⟨Ad.Together, x, dx, b, c, m1, s1, m2, s2, k, rfl, pk_Together T, upd_same, by rw [upd_ne n]; exact upd_same, ik hx hdx n, fun y1 y2 H' r1 r2 => ⟨rfl, ?_⟩, fun y H' r1 => q2 y H' (up hx hdx n r1)⟩
      have S := up hx hdx n r1
      exact q1 y1 y2 x H' S (ks_pair (pk_Together T) (ex := []) r2 rfl rfl (hb.same S) (hc.same S) z1 z2 z3 z4)
    · refine ⟨_, rfl, rfl, _, rfl, iteN (by decide) ⟨_, rfl, rfl, _, rfl, iteN (by decide) ⟨_, rfl, rfl, _, rfl, iteN (by decide) ⟨_, rfl, rfl, _, rfl, iteP rfl ⟨_, rfl, _, rfl, fun x dx hx hdx n => ?_⟩⟩⟩⟩⟩
      refine ⟨x, dx, b, c, m1, s1, m2, s2, k, 0, 2, rfl, upd_same, by rw [upd_ne n]; exact upd_same, ik hx hdx n, fun y1 y2 H' r1 r2 => ⟨rfl, ?_⟩, fun y H' r1 => q2 y H' (up hx hdx n r1)⟩
      have S := up hx hdx n r1
      exact q1 y1 y2 x H' S (ks_pair (pk_Below T) (ex := belowX 0 2) r2 rfl rfl (hb.same S) (hc.same S) z1 z2 z3 z4)
    · refine ⟨_, rfl, rfl, _, rfl, iteN (by decide) ⟨_, rfl, rfl, _, rfl, iteN (by decide) ⟨_, rfl, rfl, _, rfl, iteN (by decide) ⟨_, rfl, rfl, _, rfl, iteN (by decide) fun p hp => ⟨_, rfl, fun x dx hx hdx n => ?_⟩⟩⟩⟩⟩
      have sp := same_upd (o := .dK []) hp
      have fx : H x = none := by
        cases e : H x with
        | none => rfl
        | some o => rw [sp _ _ e] at hx; cases hx
      have st := st0 (C := Ad.Table) hx hdx n
      refine ⟨x, dx, p, b, m1, s1, k, rfl, upd_same, by rw [upd_ne n]; exact upd_same, st _ _ upd_same, ⟨H, sp.trans st, fx, hb⟩, z1, z3, k36, fun y1 pr H' r1 r2 => ⟨rfl, ?_⟩, fun y H' r1 => q2 (.inr y) H' (sp.trans (up hx hdx n r1))⟩
      have S := sp.trans (up hx hdx n r1)
      exact q1 z1 y1 x H' S (ks_table T r2 (hb.same S) z3)

theorem sh_refused : SeqAt.shaped (.tuple [.str (Str.ofString "refused"), .bool true]) = true := by decide +kernel
theorem eqv_refused : PyData.eqv (.tuple [.str (Str.ofString "refused"), .bool true]) (.tuple [.str (Str.ofString "refused"), .bool true]) = true := by decide +kernel
theorem exc_TooMany (T : Txt K mg Ad) : ExcCl K Ad.TooMany := ⟨T.xga_TooMany, T.xgt_TooMany, T.xcl_TooMany, T.gs, T.tk, T.xmo_TooMany, T.xmb_TooMany, T.xis_TooMany⟩
theorem subR {l : List Addr} {x : V} (hx : x ∈ l.map V.ref) : ∃ C, x = .ref C := by
  obtain ⟨C, _, rfl⟩ := List.mem_map.mp hx
  exact ⟨C, rfl⟩
def toldV (m s : Nat) : List V := if m ≤ 60 ∧ s ≤ 15 then [.str "told", natV m, natV s] else [.str "refused", .bl true]
def sp_told (P : Program) (w : World) (K : PySem.W.Frag) (mg : Str → Option Value) (base : Heap) : Sp := fun vs H Q _ => ∃ way b c m1 s1 m2 s2 k, vs = [natV way, .ref b, .ref c] ∧ way < 5 ∧ KS P w K mg base H b m1 s1 k ∧ KS P w K mg base H c m2 s2 k ∧ m1 ≤ 60 ∧ m2 ≤ 60 ∧ s1 ≤ 15 ∧ s2 ≤ 15 ∧ k ≤ 36 ∧
  ∀ p H', Same H H' → H' p = some (.tup (toldV (mW way m1 m2) (sW way s1 s2))) → Q (.ref p) H'
set_option maxHeartbeats 1000000 in
theorem ok_law_told (T : Txt K mg Ad) : Def P w K mg base "_law_told" 43 ["_law_way", "_law_one", "_law_other"] (sp_told P w K mg base) := by
  refine T.d_law_told.def sc_law_told (fun vs H Q E h => ?_) (fun _ _ _ _ _ _ us hl => match us, hl with | [_, _, _], _ => rfl) (fun f cdv A outer s H vs Q E hr h => ?_)
  · obtain ⟨way, b, c, m1, s1, m2, s2, k, rfl, _⟩ := h
    rfl
  · obtain ⟨way, b, c, m1, s1, m2, s2, k, rfl, w5, hb, hc, z1, z2, z3, z4, k36, q⟩ := h
    refine ⟨_, (pss_cons (ps_set (i := 3) sc_law_told.nd rfl (by first | exact Or.inl rfl | exact Or.inr rfl) pe_non)
      (pss_cons (ps_set (i := 4) sc_law_told.nd rfl (by first | exact Or.inl rfl | exact Or.inr rfl) pe_bl)
      (pss_cons (ps_try (i := 5) rfl rfl sc_law_told.nd rfl rfl T.m_StokeError (psx_set (i := 3) sc_law_told.nd rfl (by first | exact Or.inl rfl | exact Or.inr rfl) (px_callD (okx_law_made T) (hr.mono (by decide)) (pa_cons (pv 0) (pa_cons (pv 1) (pa_cons (pv 2) pa_nil))))) (fun _ _ _ hcl => (pss_cons (ps_set (i := 4) sc_law_told.nd rfl (by first | exact Or.inl rfl | exact Or.inr rfl) (pe_and (pe_callB (call_isE K rfl (List.mem_append_right _ (List.mem_singleton.mpr rfl)) hcl) (by rfl) T.n_isinstance bt_isinstance (pa_cons (pv 5) (pa_cons (pe_glob (v := V.ref _) rfl T.m_TooMany rfl) pa_nil))) (pe_one (pe_callB (call_isE K rfl (List.mem_append_right _ (List.mem_singleton.mpr rfl)) hcl) (by rfl) T.n_isinstance bt_isinstance (pa_cons (pv 5) (pa_cons (pe_bltn (v := V.ty "ValueError") rfl T.n_ValueError bt_ValueError rfl) pa_nil))))))
      (pss_cons (ps_cut (ps_if (pt_val (pe_callB (call_isE K rfl (List.mem_append_right _ (List.mem_singleton.mpr rfl)) hcl) (by rfl) T.n_isinstance bt_isinstance (pa_cons (pv 5) (pa_cons (pe_tup (pa_cons (pe_glob (v := V.ref _) rfl T.m_Ended rfl) (pa_cons (pe_glob (v := V.ref _) rfl T.m_Full rfl) (pa_cons (pe_glob (v := V.ref _) rfl T.m_NoBand rfl) (pa_cons (pe_glob (v := V.ref _) rfl T.m_NoFailing rfl) (pa_cons (pe_glob (v := V.ref _) rfl T.m_NoHold rfl) (pa_cons (pe_glob (v := V.ref _) rfl T.m_NoKeeper rfl) (pa_cons (pe_glob (v := V.ref _) rfl T.m_NoLine rfl) (pa_cons (pe_glob (v := V.ref _) rfl T.m_NoMarks rfl) (pa_cons (pe_glob (v := V.ref _) rfl T.m_NoName rfl) (pa_cons (pe_glob (v := V.ref _) rfl T.m_NoNumber rfl) pa_nil))))))))))) pa_nil)))) (pss_one (ps_set (i := 4) sc_law_told.nd rfl (by first | exact Or.inl rfl | exact Or.inr rfl) pe_bl)) pss_nil))
      (pss_cons (ps_cut (ps_if (pt_val (pe_callB (call_isE K rfl (List.mem_append_right _ (List.mem_singleton.mpr rfl)) hcl) (by rfl) T.n_isinstance bt_isinstance (pa_cons (pv 5) (pa_cons (pe_tup (pa_cons (pe_glob (v := V.ref _) rfl T.m_NoOrder rfl) (pa_cons (pe_glob (v := V.ref _) rfl T.m_NoRoom rfl) (pa_cons (pe_glob (v := V.ref _) rfl T.m_NoShare rfl) (pa_cons (pe_glob (v := V.ref _) rfl T.m_NoSky rfl) (pa_cons (pe_glob (v := V.ref _) rfl T.m_NoState rfl) (pa_cons (pe_glob (v := V.ref _) rfl T.m_NoStove rfl) (pa_cons (pe_glob (v := V.ref _) rfl T.m_NoText rfl) (pa_cons (pe_glob (v := V.ref _) rfl T.m_NoTurn rfl) (pa_cons (pe_glob (v := V.ref _) rfl T.m_NotKept rfl) (pa_cons (pe_glob (v := V.ref _) rfl T.m_NotOut rfl) pa_nil))))))))))) pa_nil)))) (pss_one (ps_set (i := 4) sc_law_told.nd rfl (by first | exact Or.inl rfl | exact Or.inr rfl) pe_bl)) pss_nil))
      (pss_one (ps_if (pt_val (pe_callB (call_isE K rfl (List.mem_append_right _ (List.mem_singleton.mpr rfl)) hcl) (by rfl) T.n_isinstance bt_isinstance (pa_cons (pv 5) (pa_cons (pe_tup (pa_cons (pe_glob (v := V.ref _) rfl T.m_Shared rfl) (pa_cons (pe_glob (v := V.ref _) rfl T.m_Twice rfl) pa_nil))) pa_nil)))) (pss_one (ps_set (i := 4) sc_law_told.nd rfl (by first | exact Or.inl rfl | exact Or.inr rfl) pe_bl)) pss_nil)))))))
      (pss_cons (ps_if (pt_cmpR op_isN (pv 3) pe_non (nomark _)) (pss_one (ps_ret (pe_tup (pa_cons pe_str (pa_cons (pv 4) pa_nil))))) pss_nil)
      (pss_one (ps_ret (pe_tup (pa_cons pe_str (pa_cons (pe_dyn0 (P := P) (w := w) (K := K) (mg := mg) (base := base) (k := 42) ⟨rfl, rfl, rfl, rfl, rfl⟩ (pv 3) hr) (pa_cons (pe_dyn0 (P := P) (w := w) (K := K) (mg := mg) (base := base) (k := 42) ⟨rfl, rfl, rfl, rfl, rfl⟩ (pv 3) hr) pa_nil)))))))))), ?_⟩
    refine ⟨_, rfl, _, rfl, _, rfl, way, b, c, m1, s1, m2, s2, k, rfl, w5, hb, hc, z1, z2, z3, z4, k36, fun y1 y2 x H1 S1 hk => ?_, fun y H1 S1 => ?_⟩
    · obtain ⟨C, dx, fs, spm, sps, h1, h2, h3, h4, h5, h6, h7, h8⟩ := (hk.mono (show k + 1 ≤ 42 by omega)).ex
      refine ⟨_, rfl, rfl, _, rfl, iteN nofun ?_⟩
      refine ⟨_, rfl, C, x, dx, fs, _, spm, rfl, h1, h2, h4, h5, h7 (Same.refl _) ?_⟩
      refine ⟨_, rfl, C, x, dx, fs, _, sps, rfl, h1, h3, h4, h6, h8 (Same.refl _) ⟨sz3, fun p hp => q p _ (S1.trans (same_upd hp)) ?_⟩⟩
      unfold toldV
      rw [if_pos ⟨y1, y2⟩]
      exact upd_same
    · refine ⟨T.ex, fun e he => ?_⟩
      refine ⟨_, rfl, _, _, _, rfl, rfl, exc_TooMany T, IsE.one (b := true) rfl T.k3, _, rfl, iteT ?_⟩
      refine ⟨_, rfl, _, _, _, rfl, rfl, exc_TooMany T, IsE.one (b := true) rfl T.k1, ?_⟩
      refine ⟨fun σ' H' => σ' = [some (natV way), some (.ref b), some (.ref c), some .non, some (.bl true), some (.ref e)] ∧ Same H1 H', ⟨_, rfl, (by show 10 ≤ sizeLine; decide), fun pt hpt => ⟨_, _, _, rfl, rfl, exc_TooMany T, IsE.many upd_same (fun x hx => ?_) T.k0, _, rfl, iteF ⟨rfl, same_upd hpt⟩⟩⟩, ?_⟩
      · obtain ⟨C, rfl⟩ := subR (l := [_, _, _, _, _, _, _, _, _, _]) hx
        rfl
      rintro σ' H2 ⟨rfl, S2⟩
      refine ⟨fun σ' H' => σ' = [some (natV way), some (.ref b), some (.ref c), some .non, some (.bl true), some (.ref e)] ∧ Same H1 H', ⟨_, rfl, (by show 10 ≤ sizeLine; decide), fun pt hpt => ⟨_, _, _, rfl, rfl, exc_TooMany T, IsE.many upd_same (fun x hx => ?_) T.k2, _, rfl, iteF ⟨rfl, S2.trans (same_upd hpt)⟩⟩⟩, ?_⟩
      · obtain ⟨C, rfl⟩ := subR (l := [_, _, _, _, _, _, _, _, _, _]) hx
        rfl
      rintro σ' H3 ⟨rfl, S3⟩
      refine ⟨_, rfl, sz2, fun pt hpt => ⟨_, _, _, rfl, rfl, exc_TooMany T, IsE.many upd_same (fun x hx => ?_) T.k4, _, rfl, iteF ?_⟩⟩
      · obtain ⟨C, rfl⟩ := subR (l := [_, _]) hx
        rfl
      refine ⟨_, rfl, rfl, _, rfl, iteP rfl ⟨_, rfl, sz2, fun p hp => q p _ (S1.trans (S3.trans ((same_upd hpt).trans (same_upd hp)))) ?_⟩⟩
      unfold toldV
      rw [if_neg (by omega)]
      exact upd_same
def sp_right (K : PySem.W.Frag) : Sp := fun vs H Q _ => ∃ p, ∃ m s : Nat, vs = [.ref p, natV m, natV s] ∧ H p = some (.tup (toldV m s)) ∧ ∀ H', Same H H' → Q (.bl true) H'
theorem ok_law_right (T : Txt K mg Ad) : Def P w K mg base "_law_right" 2 ["_law_told_here", "_law_minds", "_law_size"] (sp_right K) := by
  refine T.d_law_right.def sc_law_right (fun vs H Q E h => ?_) (fun _ _ _ _ _ _ us hl => match us, hl with | [_, _, _], _ => rfl) (fun f cdv A outer s H vs Q E hr h => ?_)
  · obtain ⟨p, m, s, rfl, _⟩ := h
    rfl
  · obtain ⟨p, m, s, rfl, hp, k⟩ := h
    refine ⟨_, (pss_cons (ps_if (PW.pt (pw_or (pt_cmpR op_gt (pv 1) pe_int (nomark _)) (pw_or1 (pt_cmpR op_gt (pv 2) pe_int (nomark _))))) (pss_one (ps_ret (pe_cmpR (op_eqD hr.units) (pv 0) (pe_tup (pa_cons pe_str (pa_cons pe_bl pa_nil))) (nomark _)))) pss_nil)
      (pss_cons (ps_if (PW.pt (pw_or (pt_cmpR op_ne (pe_ix ix_any (pv 0) pe_int (fun _ _ => rfl)) pe_str (nomark _)) (pw_or (pt_not (pt_val (pe_callD (ok_law_whole T) (hr.mono (by decide)) (pa_cons (pe_ix ix_any (pv 0) pe_int (fun _ _ => rfl)) pa_nil)))) (pw_or1 (pt_not (pt_val (pe_callD (ok_law_whole T) (hr.mono (by decide)) (pa_cons (pe_ix ix_any (pv 0) pe_int (fun _ _ => rfl)) pa_nil)))))))) (pss_one (ps_ret pe_bl)) pss_nil)
      (pss_one (ps_ret (pe_and (pe_cmpR op_eq (pe_ix ix_any (pv 0) pe_int (fun _ _ => rfl)) (pv 1) (nomark _)) (pe_one (pe_cmpR op_eq (pe_ix ix_any (pv 0) pe_int (fun _ _ => rfl)) (pv 2) (nomark _)))))))), ?_⟩
    have good : m ≤ 60 → s ≤ 15 → H p = some (.tup [.str "told", natV m, natV s]) := fun a b => by rw [hp]; unfold toldV; rw [if_pos ⟨a, b⟩]
    have bad : 60 < m ∨ 15 < s → H p = some (.tup [.str "refused", .bl true]) := fun a => by rw [hp]; unfold toldV; rw [if_neg (by omega)]
    have strict : 60 < m ∨ 15 < s → tRet (tOp (rEqD K) (tVar 0) (tTup (tCons (tC (V.str (Str.ofString "refused"))) (tCons (tC (V.bl true)) tNil)))) { nx := fun x H' => Q V.non H', rt := Q } [some (.ref p), some (natV m), some (natV s)] H := fun z => by
      refine ⟨_, rfl, sz2, fun pt hpt => ?_⟩
      have u := same_upd (o := .tup [.str (Str.ofString "refused"), .bl true]) hpt
      refine ⟨.tuple [.str (Str.ofString "refused"), .bool true], .tuple [.str (Str.ofString "refused"), .bool true], dn_tup (SqT.of (u _ _ (bad z))) (dn_cons rfl (dn_cons rfl dn_nil)), dn_tup (SqT.of upd_same) (dn_cons rfl (dn_cons rfl dn_nil)), sh_refused, sh_refused, ?_⟩
      rw [eqv_refused]
      exact k _ u
    refine ⟨_, rfl, _, _, rfl, rfl, _, rfl, ite3 (fun z => ?_) fun z => ?_⟩
    · have z : (60 : Int) < (m : Int) := z
      exact iteT (strict (.inl (by omega)))
    · have z : ¬ (60 : Int) < (m : Int) := z
      refine ⟨_, rfl, _, _, rfl, rfl, _, rfl, ite3 (fun z2 => ?_) fun z2 => ?_⟩
      · have z2 : (15 : Int) < (s : Int) := z2
        exact strict (.inr (by omega))
      · have z2 : ¬ (15 : Int) < (s : Int) := z2
        have hg := good (by omega) (by omega)
        refine ⟨_, rfl, p, _, _, _, rfl, rfl, .inr (SqT.of hg), rfl, rfl, _, rfl, iteNS rfl ?_⟩
        refine ⟨_, rfl, p, _, _, _, rfl, rfl, .inr (SqT.of hg), rfl, _, rfl, _, rfl, iteF ?_⟩
        refine ⟨_, rfl, p, _, _, _, rfl, rfl, .inr (SqT.of hg), rfl, _, rfl, _, rfl, iteF ?_⟩
        refine ⟨_, rfl, p, _, _, _, rfl, rfl, .inr (SqT.of hg), rfl, _, rfl, rfl, _, rfl, iteP rfl ?_⟩
        refine ⟨_, rfl, p, _, _, _, rfl, rfl, .inr (SqT.of hg), rfl, _, rfl, rfl, ?_⟩
        rw [decide_eq_true rfl]
        exact k _ (Same.refl _)

def sp_mright (K : PySem.W.Frag) : Sp := fun vs H Q _ => ∃ p, ∃ ns : List Int, vs = [.ref p] ∧ SqL K H p (ns.map V.int) ∧ ns.length = 7 ∧ (∀ z ∈ ns, 0 ≤ z ∧ z < 2 ^ 31) ∧ ∀ H', Same H H' → Q (.bl true) H'
theorem rep0 (a : Nat) : (List.replicate a [V.int 0]).flatten = (List.replicate a (0 : Int)).map V.int := by
  induction a with
  | zero => rfl
  | succ a ih => rw [List.replicate_succ, List.flatten_cons, ih, List.replicate_succ, List.map_cons]; rfl
theorem clock_made {C : Addr} {te : TE} {σ : L2.St} {H : Hp} {Q : VK} {a : Nat} (hte : ∀ {H1 : Hp} {Q1 : VK}, Same H H1 → Q1 (natV a) H1 → te σ H1 Q1) (a1 : 1 ≤ a) (a2 : a ≤ 24) (k : ∀ x H', Same H H' → ClockAt C H' x (List.replicate a 0) → Q (.ref x) H') :
    tMake C (sp_cinit C K) [] E0 (tCons (tOp rRep (tLst (tCons (tC (V.int 0)) tNil)) te) tNil) σ H Q := by
  refine ⟨sz1, fun p1 hp1 => hte (same_upd hp1) ⟨p1, _, _, rfl, rfl, upd_same, by omega, by omega, Nat.le_of_lt (small1000 (show 1 * (a : Int).toNat ≤ 1000 by omega)), fun p2 hp2 => fun x dx fx fdx nx => ?_⟩⟩
  rw [Int.toNat_natCast, rep0] at fx fdx ⊢
  have s1 := same_upd (o := .lst [.int 0]) hp1
  have s2 := same_upd (o := .lst ((List.replicate a (0 : Int)).map V.int)) hp2
  have S2 := s1.trans s2
  have k2 : (upd (upd H p1 (.lst [.int 0])) p2 (.lst ((List.replicate a (0 : Int)).map V.int))) p2 = some (.lst ((List.replicate a (0 : Int)).map V.int)) := upd_same
  generalize upd (upd H p1 (.lst [.int 0])) p2 (.lst ((List.replicate a (0 : Int)).map V.int)) = H2 at fx fdx S2 k2 ⊢
  have st : Same H2 (upd (upd H2 dx (.own x)) x (.ins C dx [])) := fun b o hb => by
    rw [upd_ne (ne_of_none hb fx), upd_ne (ne_of_none hb fdx)]; exact hb
  refine ⟨x, dx, p2, _, rfl, upd_same, by rw [upd_ne nx]; exact upd_same, SqL.of (st _ _ k2), by rw [List.length_replicate]; exact a1, by rw [List.length_replicate]; exact a2, fun H' r1 r2 => ⟨rfl, k x H' (fun b o hb => r1 b o (st _ _ (S2 _ _ hb)) (ne_of_none (S2 _ _ hb) fx)) r2⟩⟩
set_option maxHeartbeats 1000000 in
theorem ok_law_minds_right (T : Txt K mg Ad) : Def P w K mg base "_law_minds_right" 44 ["_law_xs"] (sp_mright K) := by
  refine T.d_law_minds_right.def sc_law_minds_right (fun vs H Q E h => ?_) (fun _ _ _ _ _ _ us hl => match us, hl with | [_], _ => rfl) (fun f cdv A outer s H vs Q E hr h => ?_)
  · obtain ⟨p, ns, rfl, _⟩ := h
    rfl
  · obtain ⟨p, ns, rfl, hS, l7, bn, k⟩ := h
    refine ⟨_, (pss_cons (ps_set (i := 1) sc_law_minds_right.nd rfl (by first | exact Or.inl rfl | exact Or.inr rfl) (pe_op op_addL pe_int (pe_op op_modL (pe_ix ix_any (pv 0) pe_int (fun _ _ => rfl)) pe_int)))
      (pss_cons (ps_set (i := 2) sc_law_minds_right.nd rfl (by first | exact Or.inl rfl | exact Or.inr rfl) (pe_op op_addL pe_int (pe_op op_modL (pe_ix ix_any (pv 0) pe_int (fun _ _ => rfl)) pe_int)))
      (pss_cons (ps_cut (ps_if (pt_cmpR op_eq (pe_op op_modL (pe_ix ix_any (pv 0) pe_int (fun _ _ => rfl)) pe_int) pe_int (nomark _)) (pss_cons (ps_set (i := 1) sc_law_minds_right.nd rfl (by first | exact Or.inl rfl | exact Or.inr rfl) (pe_ix ix_any (pe_lst (pa_cons pe_int (pa_cons pe_int (pa_cons pe_int (pa_cons pe_int (pa_cons pe_int (pa_cons pe_int (pa_cons pe_int (pa_cons pe_int (pa_cons pe_int (pa_cons pe_int pa_nil))))))))))) (pe_op op_modL (pe_ix ix_any (pv 0) pe_int (fun _ _ => rfl)) pe_int) (fun _ _ => rfl)))
      (pss_one (ps_set (i := 2) sc_law_minds_right.nd rfl (by first | exact Or.inl rfl | exact Or.inr rfl) (pe_op op_addL (pe_ix ix_any (pe_lst (pa_cons pe_int (pa_cons pe_int (pa_cons pe_int (pa_cons pe_int (pa_cons pe_int (pa_cons pe_int (pa_cons pe_int (pa_cons pe_int (pa_cons pe_int (pa_cons pe_int pa_nil))))))))))) (pe_op op_modL (pe_ix ix_any (pv 0) pe_int (fun _ _ => rfl)) pe_int) (fun _ _ => rfl)) (pe_op op_modL (pe_ix ix_any (pv 0) pe_int (fun _ _ => rfl)) pe_int))))) pss_nil))
      (pss_cons (ps_cut (ps_if (pt_cmpR op_gt (pv 2) pe_int (nomark _)) (pss_one (ps_set (i := 2) sc_law_minds_right.nd rfl (by first | exact Or.inl rfl | exact Or.inr rfl) pe_int)) pss_nil))
      (pss_cons (ps_set (i := 3) sc_law_minds_right.nd rfl (by first | exact Or.inl rfl | exact Or.inr rfl) (pe_makeD T.mk_Clock (okm_Clock___init__ T) .nil (hr.mono (by decide)) T.m_Clock (pa_cons (pe_op op_rep (pe_lst (pa_cons pe_int pa_nil)) (pv 1)) pa_nil)))
      (pss_cons (ps_set (i := 4) sc_law_minds_right.nd rfl (by first | exact Or.inl rfl | exact Or.inr rfl) (pe_callD (ok_law_told T) (hr.mono (by decide)) (pa_cons (pe_op op_modL (pe_ix ix_any (pv 0) pe_int (fun _ _ => rfl)) pe_int) (pa_cons (pv 3) (pa_cons (pe_makeD T.mk_Clock (okm_Clock___init__ T) .nil (hr.mono (by decide)) T.m_Clock (pa_cons (pe_op op_rep (pe_lst (pa_cons pe_int pa_nil)) (pv 2)) pa_nil)) pa_nil)))))
      (pss_cons (ps_if (pt_not (pt_val (pe_callD (ok_law_right T) (hr.mono (by decide)) (pa_cons (pv 4) (pa_cons (pe_op op_mulL (pv 1) (pv 2)) (pa_cons pe_int pa_nil)))))) (pss_one (ps_ret pe_bl)) pss_nil)
      (pss_one (ps_ret (pe_callD (ok_law_right T) (hr.mono (by decide)) (pa_cons (pe_callD (ok_law_told T) (hr.mono (by decide)) (pa_cons (pe_op op_modL (pe_ix ix_any (pv 0) pe_int (fun _ _ => rfl)) pe_int) (pa_cons (pv 3) (pa_cons (pe_makeN ⟨T.mk_Keeper.makes, T.in_Keeper, T.mk_Keeper.kp⟩ T.m_Keeper) pa_nil)))) (pa_cons (pv 1) (pa_cons pe_int pa_nil))))))))))))), ?_⟩
    have at_ : ∀ {j : Nat}, j < 7 → atI (ns.map V.int) (j : Int) = some (.int (ns.getD j 0)) := fun {j} h => by
      rw [List.getD_eq_getElem?_getD, get_nat (show j < ns.length by omega)]; exact atI_nat (ints_get (by omega))
    have a0 : atI (ns.map V.int) 0 = some (.int (ns.getD 0 0)) := at_ (j := 0) (by decide)
    have a1 : atI (ns.map V.int) 1 = some (.int (ns.getD 1 0)) := at_ (j := 1) (by decide)
    have a2 : atI (ns.map V.int) 2 = some (.int (ns.getD 2 0)) := at_ (j := 2) (by decide)
    have a3 : atI (ns.map V.int) 3 = some (.int (ns.getD 3 0)) := at_ (j := 3) (by decide)
    refine cut fun R1 k1 => ⟨_, rfl, p, _, _, _, rfl, rfl, .inl hS, a0, _, _, rfl, rfl, by decide, fun y y0 y1 ey => ⟨_, _, rfl, rfl, fun x ex => k1 _ _ ?_⟩⟩
    refine cut fun R2 k2 => ⟨_, rfl, p, _, _, _, rfl, rfl, .inl hS, a1, _, _, rfl, rfl, by decide, fun y' y0' y1' ey' => ⟨_, _, rfl, rfl, fun x' ex' => k2 _ _ ?_⟩⟩
    refine cut fun R3 k3 => ⟨fun σ H' => Same H H' ∧ ∃ a b : Nat, 1 ≤ a ∧ a ≤ 24 ∧ 1 ≤ b ∧ b ≤ 25 ∧ σ = [some (.ref p), some (natV a), some (natV b), none, none], ?_, ?_⟩
    · refine ⟨_, rfl, p, _, _, _, rfl, rfl, .inl hS, a2, _, _, rfl, rfl, by decide, fun z z0 z1 ez => ⟨rfl, _, rfl, ite3 (fun q => ?_) fun q => ?_⟩⟩
      · refine ⟨Nat.le_of_ble_eq_true rfl, fun pl hpl => ⟨_, rfl, p, _, _, _, rfl, rfl, .inl ((same_upd hpl).seq hS), a0, _, _, rfl, rfl, by decide, fun z2 z20 z21 ez2 => ?_⟩⟩
        obtain ⟨w1, hw1, ew1⟩ := atI_ints (ns := [1, 2, 3, 4, 5, 6, 10, 12, 15, 20]) z20 (by show z2 < 10; omega)
        have hw1 : 1 ≤ w1 ∧ w1 ≤ 24 := by
          simp only [List.mem_cons, List.not_mem_nil, or_false] at hw1
          omega
        refine ⟨pl, _, _, _, rfl, rfl, .inl (SqL.of upd_same), ew1, ?_⟩
        have s1 := same_upd (o := .lst [.int 1, .int 2, .int 3, .int 4, .int 5, .int 6, .int 10, .int 12, .int 15, .int 20]) hpl
        refine ⟨Nat.le_of_ble_eq_true rfl, fun pl2 hpl2 => ⟨_, rfl, p, _, _, _, rfl, rfl, .inl ((s1.trans (same_upd hpl2)).seq hS), a0, _, _, rfl, rfl, by decide, fun z3 z30 z31 ez3 => ?_⟩⟩
        obtain ⟨w2, hw2, ew2⟩ := atI_ints (ns := [24, 24, 20, 15, 12, 10, 6, 5, 4, 3]) z30 (by show z3 < 10; omega)
        have hw2 : 1 ≤ w2 ∧ w2 ≤ 24 := by
          simp only [List.mem_cons, List.not_mem_nil, or_false] at hw2
          omega
        refine ⟨pl2, _, _, _, rfl, rfl, .inl (SqL.of upd_same), ew2, ?_⟩
        refine ⟨_, rfl, p, _, _, _, rfl, rfl, .inl ((s1.trans (same_upd hpl2)).seq hS), a1, _, _, rfl, rfl, by decide, fun z4 z40 z41 ez4 => ⟨_, _, rfl, rfl, fun w3 ew3 => ⟨s1.trans (same_upd hpl2), w1.toNat, w3.toNat, by omega, by omega, by omega, by omega, ?_⟩⟩⟩
        show [_, some (V.int w1), some (V.int w3), _, _] = [_, some (V.int (w1.toNat : Int)), some (V.int (w3.toNat : Int)), _, _]
        rw [Int.toNat_of_nonneg (by omega), Int.toNat_of_nonneg (by omega)]
      · refine ⟨Same.refl _, x.toNat, x'.toNat, by omega, by omega, by omega, by omega, ?_⟩
        show [_, some (V.int x), some (V.int x'), _, _] = [_, some (V.int (x.toNat : Int)), some (V.int (x'.toNat : Int)), _, _]
        rw [Int.toNat_of_nonneg (by omega), Int.toNat_of_nonneg (by omega)]
    rintro σ H1 ⟨s1, a, b, l1, l2, l3, l4, rfl⟩
    refine k3 _ _ ?_
    refine cut fun R4 k4 => ⟨fun σ H' => H' = H1 ∧ ∃ b : Nat, 1 ≤ b ∧ b ≤ 24 ∧ σ = [some (.ref p), some (natV a), some (natV b), none, none], ?_, ?_⟩
    · refine ⟨_, rfl, _, _, rfl, rfl, _, rfl, ite3 (fun q => ⟨rfl, 24, by omega, by omega, rfl⟩) fun q => ⟨rfl, b, by omega, ?_, rfl⟩⟩
      have q : ¬ (24 : Int) < (b : Int) := q
      omega
    rintro σ H2 ⟨rfl, b, l3, l4, rfl⟩
    refine k4 _ _ ?_
    refine cut fun R5 k5 => clock_made (K := K) (a := a) (fun _ q => ⟨_, rfl, q⟩) l1 l2 fun x1 H3 s3 c1 => k5 _ _ ?_
    have S3 := s1.trans s3
    refine cut fun R6 k6 => ⟨_, rfl, p, _, _, _, rfl, rfl, .inl (S3.seq hS), a3, _, _, rfl, rfl, by decide, fun z z0 z1 ez => ⟨_, rfl, clock_made (K := K) (a := b) (fun _ q => ⟨_, rfl, q⟩) l3 l4 fun x2 H4 s4 c2 => ?_⟩⟩
    obtain ⟨way, rfl⟩ : ∃ way : Nat, z = (way : Int) := ⟨z.toNat, by omega⟩
    have k1' : KS P w K mg base H4 x1 a 1 1 := by have := ks_clock (P := P) (w := w) (base := base) T (c1.same s4); rwa [List.length_replicate] at this
    have k2' : KS P w K mg base H4 x2 b 1 1 := by have := ks_clock (P := P) (w := w) (base := base) T c2; rwa [List.length_replicate] at this
    refine ⟨way, x1, x2, a, 1, b, 1, 1, rfl, by omega, k1', k2', by omega, by omega, by decide, by decide, by decide, fun pt H5 s5 ht => k6 _ _ ?_⟩
    have em : mW way a b = a * b := if_neg (by omega)
    have es : sW way 1 1 = 3 := if_neg (by omega)
    rw [em, es] at ht
    have S5 := S3.trans (s4.trans s5)
    refine cut fun R7 k7 => ⟨_, rfl, _, rfl, _, rfl, _, _, rfl, rfl, ⟨10, 10, (show Int.natAbs _ < 2 ^ 10 by omega), (show Int.natAbs _ < 2 ^ 10 by omega), by decide⟩, fun y ey => ?_⟩
    obtain rfl : y = ((a * b : Nat) : Int) := by rw [ey]; push_cast; rfl
    refine ⟨pt, a * b, 3, rfl, ht, fun H6 s6 => ⟨_, rfl, iteF (k7 _ _ ?_)⟩⟩
    have S6 := S5.trans s6
    refine ⟨_, rfl, p, _, _, _, rfl, rfl, .inl (S6.seq hS), a3, _, _, rfl, rfl, by decide, fun z2 z20 z21 ez2 => ⟨_, rfl, fun x3 dx fx fdx nx => ?_⟩⟩
    obtain ⟨way2, rfl⟩ : ∃ way : Nat, z2 = (way : Int) := ⟨z2.toNat, by omega⟩
    have st : Same H6 (upd (upd H6 dx (.own x3)) x3 (.ins Ad.Keeper dx [])) := fun b o hb => by
      rw [upd_ne (ne_of_none hb fx), upd_ne (ne_of_none hb fdx)]; exact hb
    refine ⟨way2, x1, x3, a, 1, 1, 1, 1, rfl, by omega, k1'.same ((s5.trans s6).trans st), ks_keeper T upd_same, by omega, by decide, by decide, by decide, by decide, fun pt2 H7 s7 ht2 => ?_⟩
    have em : mW way2 a 1 = a := (if_neg (by omega)).trans (Nat.mul_one a)
    have es : sW way2 1 1 = 3 := if_neg (by omega)
    rw [em, es] at ht2
    exact ⟨_, rfl, pt2, a, 3, rfl, ht2, fun H8 s8 => k H8 (S6.trans (st.trans (s7.trans s8)))⟩

set_option maxHeartbeats 1000000 in
theorem ok_law_size_right (T : Txt K mg Ad) : Def P w K mg base "_law_size_right" 44 ["_law_xs"] (sp_mright K) := by
  refine T.d_law_size_right.def sc_law_size_right (fun vs H Q E h => ?_) (fun _ _ _ _ _ _ us hl => match us, hl with | [_], _ => rfl) (fun f cdv A outer s H vs Q E hr h => ?_)
  · obtain ⟨p, ns, rfl, _⟩ := h
    rfl
  · obtain ⟨p, ns, rfl, hS, l7, bn, k⟩ := h
    refine ⟨_, (pss_cons (ps_set (i := 1) sc_law_size_right.nd rfl (by first | exact Or.inl rfl | exact Or.inr rfl) (pe_makeD T.mk_Clock (okm_Clock___init__ T) .nil (hr.mono (by decide)) T.m_Clock (pa_cons (pe_op op_rep (pe_lst (pa_cons pe_int pa_nil)) (pe_op op_addL pe_int (pe_op op_modL (pe_ix ix_any (pv 0) pe_int (fun _ _ => rfl)) pe_int))) pa_nil)))
      (pss_cons (ps_set (i := 2) sc_law_size_right.nd rfl (by first | exact Or.inl rfl | exact Or.inr rfl) (pe_op op_addL pe_int (pe_op op_modL (pe_ix ix_any (pv 0) pe_int (fun _ _ => rfl)) pe_int)))
      (pss_cons (ps_set (i := 3) sc_law_size_right.nd rfl (by first | exact Or.inl rfl | exact Or.inr rfl) pe_int)
      (pss_cons (ps_set (i := 4) sc_law_size_right.nd rfl (by first | exact Or.inl rfl | exact Or.inr rfl) (pe_ix ix_any (pv 0) pe_int (fun _ _ => rfl)))
      (pss_cons (ps_while PassesOwn.never (pt_cmpR op_lt (pv 3) (pe_op op_addL pe_int (pe_op op_modL (pe_ix ix_any (pv 0) pe_int (fun _ _ => rfl)) pe_int)) (nomark _)) (pss_cons (ps_cut (ps_if (PW.pt (pw_or (pt_cmpR op_eq (pe_op op_modL (pv 4) pe_int) pe_int (nomark _)) (pw_or1 (pt_cmpR op_eq (pv 3) (pe_op op_addL pe_int (pe_op op_modL (pe_ix ix_any (pv 0) pe_int (fun _ _ => rfl)) pe_int)) (nomark _))))) (pss_cons (ps_set (i := 1) sc_law_size_right.nd rfl (by first | exact Or.inl rfl | exact Or.inr rfl) (pe_makeE T.mk_Table (okm_Table___init___0 T) (hr.mono (by decide)) T.m_Table (pa_cons pe_dnewK (pa_cons (pv 1) pa_nil))))
      (pss_one (ps_set (i := 3) sc_law_size_right.nd rfl (by first | exact Or.inl rfl | exact Or.inr rfl) (pe_op op_addL (pv 3) pe_int)))) (pss_cons (ps_set (i := 1) sc_law_size_right.nd rfl (by first | exact Or.inl rfl | exact Or.inr rfl) (pe_makeD T.mk_Pair (okm_Pair___init__ T) .nil (hr.mono (by decide)) T.m_Pair (pa_cons (pv 1) (pa_cons (pe_makeN ⟨T.mk_Keeper.makes, T.in_Keeper, T.mk_Keeper.kp⟩ T.m_Keeper) pa_nil))))
      (pss_one (ps_set (i := 3) sc_law_size_right.nd rfl (by first | exact Or.inl rfl | exact Or.inr rfl) (pe_op op_addL (pv 3) pe_int))))))
      (pss_one (ps_set (i := 4) sc_law_size_right.nd rfl (by first | exact Or.inl rfl | exact Or.inr rfl) (pe_op op_fdivL (pv 4) pe_int)))))
      (pss_cons (ps_for PassesOwn.never rfl (pi_range1 rfl T.n_range (pa_cons pe_int pa_nil)) (pg_name (i := 5) sc_law_size_right.nd rfl (by first | exact Or.inl rfl | exact Or.inr rfl)) (pss_one (ps_if (pt_not (pt_val (pe_callD (ok_law_right T) (hr.mono (by decide)) (pa_cons (pe_callD (ok_law_told T) (hr.mono (by decide)) (pa_cons (pv 5) (pa_cons (pv 1) (pa_cons (pe_makeN ⟨T.mk_Keeper.makes, T.in_Keeper, T.mk_Keeper.kp⟩ T.m_Keeper) pa_nil)))) (pa_cons (pv 2) (pa_cons (pe_op op_subL (pe_op op_addL (pv 3) pe_int) (pe_callTy call_int1 (by rfl) T.n_int bt_int (pa_cons (pe_cmpR op_eq (pv 5) pe_int (nomark _)) pa_nil))) pa_nil)))))) (pss_one (ps_ret pe_bl)) pss_nil)))
      (pss_one (ps_ret (pe_and (pe_callD (ok_law_whole T) (hr.mono (by decide)) (pa_cons (pe_dyn0 (P := P) (w := w) (K := K) (mg := mg) (base := base) (k := 43) ⟨rfl, rfl, rfl, rfl, rfl⟩ (pv 1) hr) pa_nil)) (pe_one (pe_cmpR op_eq (pe_dyn0 (P := P) (w := w) (K := K) (mg := mg) (base := base) (k := 43) ⟨rfl, rfl, rfl, rfl, rfl⟩ (pv 1) hr) (pv 3) (nomark _)))))))))))), ?_⟩
    have at_ : ∀ {j : Nat}, j < 7 → atI (ns.map V.int) (j : Int) = some (.int (ns.getD j 0)) := fun {j} h => by
      rw [List.getD_eq_getElem?_getD, get_nat (show j < ns.length by omega)]; exact atI_nat (ints_get (by omega))
    have a4 : atI (ns.map V.int) 4 = some (.int (ns.getD 4 0)) := at_ (j := 4) (by decide)
    have a5 : atI (ns.map V.int) 5 = some (.int (ns.getD 5 0)) := at_ (j := 5) (by decide)
    have a6 : atI (ns.map V.int) 6 = some (.int (ns.getD 6 0)) := at_ (j := 6) (by decide)
    have b5 : 0 ≤ ns.getD 5 0 ∧ ns.getD 5 0 < 2 ^ 31 := by
      rw [List.getD_eq_getElem?_getD, get_nat (show 5 < ns.length by omega)]; exact bn _ (List.getElem_mem _)
    obtain ⟨mi, em, m1, m3⟩ : ∃ mi : Nat, 1 + ns.getD 4 0 % 3 = (mi : Int) ∧ 1 ≤ mi ∧ mi ≤ 3 := ⟨(1 + ns.getD 4 0 % 3).toNat, by omega, by omega, by omega⟩
    obtain ⟨g, eg, g4⟩ : ∃ g : Nat, ns.getD 6 0 % 5 = (g : Int) ∧ g ≤ 4 := ⟨(ns.getD 6 0 % 5).toNat, by omega, by omega⟩
    refine cut fun R1 k1 => clock_made (K := K) (a := mi) (fun s1 q => ⟨_, rfl, p, _, _, _, rfl, rfl, .inl (s1.seq hS), a4, _, _, rfl, rfl, by decide, fun y y0 y1 ey => ⟨_, _, rfl, rfl, fun x ex => ?_⟩⟩) m1 (by omega) fun x1 H1 S1 c1 => k1 _ _ ?_
    · have e : x = (mi : Int) := by rw [ex, ey]; exact em
      rw [e]; exact q
    refine cut fun R2 k2 => ⟨_, rfl, p, _, _, _, rfl, rfl, .inl (S1.seq hS), a4, _, _, rfl, rfl, by decide, fun y y0 y1 ey => ⟨_, _, rfl, rfl, fun x ex => k2 _ _ ?_⟩⟩
    obtain rfl : x = (mi : Int) := by rw [ex, ey]; exact em
    refine cut fun R3 k3 => k3 _ _ ?_
    refine cut fun R4 k4 => ⟨_, rfl, p, _, _, _, rfl, rfl, .inl (S1.seq hS), a5, k4 _ _ ?_⟩
    have ks1 : KS P w K mg base H1 x1 mi 1 1 := by have := ks_clock (P := P) (w := w) (base := base) T c1; rwa [List.length_replicate] at this
    refine cut fun R5 k5 => ?_
    refine ⟨fun μ σ H' => ∃ x sz, ∃ z : Int, μ = 20 - sz ∧ Same H H' ∧ 1 ≤ sz ∧ sz ≤ 11 + g ∧ KS P w K mg base H' x mi sz sz ∧ 0 ≤ z ∧ z < 2 ^ 31 ∧ σ = [some (.ref p), some (.ref x), some (natV mi), some (natV sz), some (.int z), none], ⟨_, x1, 1, _, rfl, S1, by omega, by omega, ks1, b5.1, b5.2, rfl⟩, ?_⟩
    · rintro μ σ H2 ⟨x, sz, z, rfl, S2, z1, z2, hk, zz0, zz1, rfl⟩
      refine ⟨_, rfl, _, rfl, p, _, _, _, rfl, rfl, .inl (S2.seq hS), a6, _, _, rfl, rfl, by decide, fun y y0 y1 ey => ⟨_, _, rfl, rfl, fun v ev => ⟨_, _, rfl, rfl, _, rfl, ite3 (fun q => ?_) fun q => ?_⟩⟩⟩
      · have q : (sz : Int) < v := q
        have ev : v = 11 + (g : Int) := by rw [ev, ey, eg]
        have st0 : ∀ {H : Hp} {C x dx}, H x = none → H dx = none → dx ≠ x → Same H (upd (upd H dx (.own x)) x (.ins C dx [])) := fun {H C x dx} hx hdx n b o hb => by
          rw [upd_ne (ne_of_none hb hx), upd_ne (ne_of_none hb hdx)]; exact hb
        have up : ∀ {H : Hp} {C x dx H'}, H x = none → H dx = none → dx ≠ x → (∀ b o, (upd (upd H dx (.own x)) x (.ins C dx [])) b = some o → b ≠ x → H' b = some o) → Same H H' := fun {H C x dx H'} hx hdx n q b o hb => q b o (st0 hx hdx n b o hb) (ne_of_none hb hx)
        have tab : ∀ {D : Ends}, (∀ x' H', Same H2 H' → KS P w K mg base H' x' mi (sz + 1) (sz + 1) → D.nx [some (.ref p), some (.ref x'), some (natV mi), some (natV (sz + 1)), some (.int z), none] H') → tSeq (tAsg (tMake Ad.Table (fun vs H_1 Q x => sp_tinitX P w K mg base Ad.Table Ad.TooMany vs H_1 Q E0) [] E0 (tCons tDNewK (tCons (tVar 1) tNil))) (gName 1)) (tAsg (tOp rAddL (tVar 3) (tC (V.int 1))) (gName 3))
              D [some (.ref p), some (.ref x), some (natV mi), some (natV sz), some (.int z), none] H2 := fun {D} kk => by
            refine fun pr hpr => ⟨_, rfl, fun xn dx hx hdx n => ?_⟩
            have sp := same_upd (o := .dK []) hpr
            have fx : H2 xn = none := by
              cases e : H2 xn with
              | none => rfl
              | some o => rw [sp _ _ e] at hx; cases hx
            have st := st0 (C := Ad.Table) hx hdx n
            refine ⟨xn, dx, pr, x, mi, sz, sz, rfl, upd_same, by rw [upd_ne n]; exact upd_same, st _ _ upd_same, ⟨H2, sp.trans st, fx, hk⟩, by omega, by omega, by omega, fun y1 pr H' r1 r2 => ⟨rfl, ?_⟩, fun y => by omega⟩
            have S := sp.trans (up hx hdx n r1)
            refine ⟨_, rfl, _, _, rfl, rfl, fun u eu => ?_⟩
            have : u = ((sz + 1 : Nat) : Int) := by rw [eu]; push_cast; rfl
            rw [this]
            refine kk xn H' S ?_
            have := ks_table T r2 (hk.same S) (by omega)
            rwa [Nat.add_comm 1 sz] at this
        refine ⟨fun σ H' => ∃ x' sz', ∃ z' : Int, sz < sz' ∧ Same H H' ∧ sz' ≤ 11 + g ∧ KS P w K mg base H' x' mi sz' sz' ∧ 0 ≤ z' ∧ z' < 2 ^ 31 ∧ σ = [some (.ref p), some (.ref x'), some (natV mi), some (natV sz'), some (.int z'), none], fun σ' H' h => ?_, ?_⟩
        · obtain ⟨x', sz', z', h1, h2, h3, h4, h5, h6, h7⟩ := h
          exact ⟨20 - sz', by omega, x', sz', z', rfl, h2, by omega, h3, h4, h5, h6, h7⟩
        refine cut fun R6 k6 => ⟨fun σ H' => Same H2 H' ∧ ∃ x' sz', sz < sz' ∧ sz' ≤ 11 + g ∧ KS P w K mg base H' x' mi sz' sz' ∧ σ = [some (.ref p), some (.ref x'), some (natV mi), some (natV sz'), some (.int z), none], ?_, ?_⟩
        · refine ⟨_, rfl, _, _, rfl, rfl, by decide, fun u u0 u1 eu => ⟨rfl, _, rfl, ite3 (fun q1 => ?_) fun q1 => ?_⟩⟩
          · exact iteT (tab fun x' H' S hk' => ⟨S, x', sz + 1, by omega, by omega, hk', rfl⟩)
          · refine ⟨_, rfl, _, rfl, p, _, _, _, rfl, rfl, .inl (S2.seq hS), a6, _, _, rfl, rfl, by decide, fun u2 u20 u21 eu2 => ⟨_, _, rfl, rfl, fun v2 ev2 => ⟨rfl, _, rfl, ite3 (fun q2 => ?_) fun q2 => ?_⟩⟩⟩
            · exact tab fun x' H' S hk' => ⟨S, x', sz + 1, by omega, by omega, hk', rfl⟩
            · have q2 : ¬ (sz : Int) = v2 := fun e => q2 (congrArg V.int e)
              have ev2 : v2 = 10 + (g : Int) := by rw [ev2, eu2, eg]
              refine ⟨_, rfl, fun xk dk hxk hdk nk => ?_⟩
              have sk := st0 (C := Ad.Keeper) hxk hdk nk
              have kk : KS P w K mg base (upd (upd H2 dk (.own xk)) xk (.ins Ad.Keeper dk [])) xk 1 1 1 := ks_keeper T upd_same
              generalize upd (upd H2 dk (.own xk)) xk (.ins Ad.Keeper dk []) = H3 at sk kk ⊢
              refine fun xn dx hx hdx n => ?_
              refine ⟨Ad.Pair, xn, dx, x, xk, mi, sz, 1, 1, sz, rfl, pk_Pair T, upd_same, by rw [upd_ne n]; exact upd_same, ⟨H3, st0 hx hdx n, hx, hk.same sk, kk.mono (by omega), by omega, by omega, by omega, by omega, by omega⟩, fun y1 y2 H' r1 r2 => ⟨rfl, ?_⟩, fun y => by omega⟩
              have S := up hx hdx n r1
              have kn : KS P w K mg base H' xn (mi * 1) (1 + sz + 1) (sz + 1) := ks_pair (pk_Pair T) (ex := []) r2 rfl rfl (hk.same (sk.trans S)) ((kk.same S).mono (by omega)) (by omega) (by omega) (by omega) (by omega)
              rw [Nat.mul_one, show 1 + sz + 1 = sz + 2 by omega] at kn
              refine ⟨_, rfl, _, _, rfl, rfl, fun u3 eu3 => ⟨sk.trans S, xn, sz + 2, by omega, by omega, kn.mono (by omega), ?_⟩⟩
              have : u3 = ((sz + 2 : Nat) : Int) := by rw [eu3]; push_cast; rfl
              rw [this]; rfl
        · rintro σ' H3 ⟨s3, x', sz', h1, h2, h3, rfl⟩
          refine k6 _ _ ⟨_, rfl, _, _, rfl, rfl, ⟨by decide, bdd⟩, fun v3 ev3 => ?_⟩
          rw [Int.fdiv_eq_ediv_of_nonneg _ (by decide)] at ev3
          have ev3 : v3 = z / 2 := ev3
          exact ⟨x', sz', v3, h1, S2.trans s3, h2, h3, by omega, by omega, rfl⟩
      · refine k5 _ _ ?_
        have q : ¬ (sz : Int) < v := q
        have ev : v = 11 + (g : Int) := by rw [ev, ey, eg]
        refine cut fun R7 k7 => ⟨5, rfl, by omega, by omega, ?_⟩
        refine for_range (lo := 0) (n := 5) (fun i σ H' => Same H2 H' ∧ ∃ v5 : Option V, σ = [some (.ref p), some (.ref x), some (natV mi), some (natV sz), some (.int z), v5]) ⟨Same.refl _, none, rfl⟩ ?_ ?_
        · rintro i σ H3 hi ⟨s3, v5, rfl⟩
          have ei : (0 : Int) + (i : Int) = (i : Int) := Int.zero_add _
          rw [ei]
          refine ⟨_, rfl, _, rfl, fun xk dk hxk hdk nk => ?_⟩
          have sk : Same H3 (upd (upd H3 dk (.own xk)) xk (.ins Ad.Keeper dk [])) := fun b o hb => by
            rw [upd_ne (ne_of_none hb hxk), upd_ne (ne_of_none hb hdk)]; exact hb
          refine ⟨i, x, xk, mi, sz, 1, 1, sz, rfl, hi, hk.same (s3.trans sk), (ks_keeper T upd_same).mono (by omega), by omega, by omega, by omega, by omega, by omega, fun pt H4 s4 ht => ?_⟩
          have e1 : mW i mi 1 = mi := by unfold mW; split <;> omega
          rw [e1] at ht
          refine ⟨_, rfl, _, rfl, _, _, rfl, rfl, fun u1 eu1 => ⟨_, rfl, rfl, .inr ⟨_, rfl, _, _, rfl, rfl, fun u2 eu2 => ?_⟩⟩⟩
          have : u2 = ((sW i sz 1 : Nat) : Int) := by
            unfold sW
            by_cases e : i = 4
            · subst e
              rw [eu2, eu1, if_pos rfl, if_pos (show decide (V.int ((4 : Nat) : Int) = V.int 4) = true from decide_eq_true rfl)]; push_cast; omega
            · rw [eu2, eu1, if_neg e, if_neg (by simpa using fun z : (i : Int) = 4 => e (by omega))]; push_cast; omega
          rw [this]
          refine ⟨pt, mi, sW i sz 1, rfl, ht, fun H5 s5 => ⟨_, rfl, iteF ⟨s3.trans (sk.trans (s4.trans s5)), _, rfl⟩⟩⟩
        · rintro σ H3 ⟨s3, v5, rfl⟩
          refine k7 _ _ ?_
          obtain ⟨C, dx, fs, spm, sps, h1, h2, h3, h4, h5, h6, h7, h8⟩ := ((hk.same s3).mono (show sz ≤ 43 by omega)).ex
          refine ⟨_, rfl, C, x, dx, fs, _, sps, rfl, h1, h3, h4, h6, h8 (Same.refl _) ⟨_, rfl, _, rfl, iteT ?_⟩⟩
          refine ⟨_, rfl, C, x, dx, fs, _, sps, rfl, h1, h3, h4, h6, h8 (Same.refl _) ⟨_, rfl, rfl, ?_⟩⟩
          rw [decide_eq_true rfl]
          exact k H3 (S2.trans s3)

theorem ok_law {f : Addr} {fd : FuncData} (F : Fun K "law" "law" s_law f fd) (T : Txt K mg Ad) : FnOk P w K mg base CX0 45 f fd ["_law_script"] (sp_law K) := by
  refine F.ok sc_law (fun vs H Q E h => ?_) (fun cdv A outer s H vs Q E hr h => ?_)
  · obtain ⟨a, ns, rfl, _⟩ := h
    rfl
  · obtain ⟨a, ns, rfl, hS, hlen, hbits, k⟩ := h
    refine ⟨_, (pss_cons (ps_for PassesOwn.never rfl (pi_range1 rfl T.n_range (pa_cons (pe_op op_addL pe_int (pe_op op_fdivL (pe_callB call_lenL (by rfl) T.n_len bt_len (pa_cons (pe_slice sl_list (pv 0) po_none (po_some pe_int)) pa_nil)) pe_int)) pa_nil)) (pg_name (i := 1) sc_law.nd rfl (by first | exact Or.inl rfl | exact Or.inr rfl)) (pss_cons (ps_set (i := 2) sc_law.nd rfl (by first | exact Or.inl rfl | exact Or.inr rfl) (pe_op op_cat (pe_callD (ok_law_stream T) (hr.mono (by decide)) (pa_cons (pe_callD (ok_law_cell_at T) (hr.mono (by decide)) (pa_cons (pv 0) (pa_cons (pe_op op_mulL pe_int (pv 1)) pa_nil))) (pa_cons pe_int pa_nil))) (pe_callD (ok_law_stream T) (hr.mono (by decide)) (pa_cons (pe_callD (ok_law_cell_at T) (hr.mono (by decide)) (pa_cons (pv 0) (pa_cons (pe_op op_addL (pe_op op_mulL pe_int (pv 1)) pe_int) pa_nil))) (pa_cons pe_int pa_nil)))))
      (pss_one (ps_if (PW.pt (pw_or (pt_not (pt_val (pe_callD (ok_law_minds_right T) (hr.mono (by decide)) (pa_cons (pv 2) pa_nil)))) (pw_or1 (pt_not (pt_val (pe_callD (ok_law_size_right T) (hr.mono (by decide)) (pa_cons (pv 2) pa_nil))))))) (pss_one (ps_ret pe_bl)) pss_nil))))
      (pss_one (ps_ret pe_bl))), ?_⟩
    refine cut fun R1 k1 => ⟨_, rfl, 59, rfl, a, _, rfl, hS, fun ps hps => ⟨_, _, rfl, .inl (SqL.of upd_same), fun c ec => ⟨_, _, rfl, rfl, ⟨by decide, bdd⟩, fun d ed => ⟨_, _, rfl, rfl, fun e ee => ?_⟩⟩⟩⟩
    have hc : c ≤ 63 := by
      have := cutV_length (ns.map V.int) none (some 59)
      rw [List.length_map] at this
      omega
    have hc0 : 0 ≤ c := by omega
    rw [Int.fdiv_eq_ediv_of_nonneg c (by decide)] at ed
    have t0 := same_upd (o := .lst (cutV (ns.map V.int) none (some 59))) hps
    refine ⟨e, rfl, by omega, by omega, for_range (lo := 0) (n := e.toNat) (fun i σ H' => Same H H' ∧ ∃ v1 v2 : Option V, σ = [some (.ref a), v1, v2]) ⟨t0, none, none, rfl⟩ ?_ ?_⟩
    · rintro i σ H1 hi ⟨s1, v1, v2, rfl⟩
      have hS1 := s1.seq hS
      have bk : Bd 100 (0 + (i : Int)) := bdS 100 (by omega) (by omega)
      refine cut fun R2 k2 => ⟨_, rfl, _, rfl, _, _, rfl, rfl, ⟨2, 100, bdd, bk, by decide⟩, fun m1 em1 => ⟨a, ns, m1, rfl, hS1, by omega, fun z1 _ => ⟨z1, 4, rfl, by decide, fun px xs H2 s2 hx lx bx => ?_⟩⟩⟩
      refine ⟨_, rfl, _, rfl, _, _, rfl, rfl, ⟨2, 100, bdd, bk, by decide⟩, fun m2 em2 => ⟨_, _, rfl, rfl, fun m3 em3 => ⟨a, ns, m3, rfl, s2.seq hS1, by omega, fun z2 _ => ⟨z2, 3, rfl, by decide, fun py ys H3 s3 hy ly by_ => ?_⟩⟩⟩⟩
      refine ⟨px, py, _, _, rfl, rfl, s3 _ _ hx, hy, ?_, fun pc hpc => k2 _ _ ?_⟩
      · rw [List.length_map, List.length_map, lx, ly]; exact Nat.le_of_ble_eq_true rfl
      have kc : (upd H3 pc (.lst (xs.map V.int ++ ys.map V.int))) pc = some (.lst ((xs ++ ys).map V.int)) := by rw [upd_same, List.map_append]
      have s4 := (s2.trans s3).trans (same_upd (o := .lst (xs.map V.int ++ ys.map V.int)) hpc)
      generalize upd H3 pc (.lst (xs.map V.int ++ ys.map V.int)) = H4 at kc s4 ⊢
      have l7 : (xs ++ ys).length = 7 := by rw [List.length_append]; omega
      have bz : ∀ z ∈ xs ++ ys, 0 ≤ z ∧ z < 2 ^ 31 := fun z hz => by
        rcases List.mem_append.mp hz with h | h
        · exact bx z h
        · exact by_ z h
      refine ⟨_, rfl, pc, _, rfl, SqL.of kc, l7, bz, fun H5 s5 => ⟨_, rfl, iteF ?_⟩⟩
      exact ⟨_, rfl, pc, _, rfl, SqL.of (s5 _ _ kc), l7, bz, fun H6 s6 => ⟨_, rfl, iteF ⟨s1.trans (s4.trans (s5.trans s6)), _, _, rfl⟩⟩⟩
    · rintro σ H1 ⟨s1, v1, v2, rfl⟩
      exact k1 _ _ (k H1)

end
theorem walk {l : PySem.W.OpenLaw} {q : Program} {loose : List Str} {XP : (Str → Option Value) → Heap → Prop} {YP : World → Heap → Prop} {d : DefRec} {K : Params → PySem.W.Frag} (hn : l.most = some 63) (hdf : d.params.defaults = []) (hname : d.name = "law")
    (hY : ∀ (w : World) (h : Heap), YP w h → (K w.params).In h)
    (F : ∀ (w : World) (mg : Str → Option Value) (h : Heap), (K w.params).In h → h.Ns mainGlobals mg → ∃ A, Txt (K w.params) mg A) :
    PySem.W.WalkO q loose XP YP l.row.toRowW d [] (fun f vs => PySem.call f vs) :=
  L2.walk_ofB (k := 45) (x := "_law_script") hn hdf ⟨rfl, by decide, by decide⟩ hY
    (fun w mg fa h KX G hmg => by
      obtain ⟨_, T⟩ := F w mg h KX G
      obtain ⟨f, fd, hm, Fd⟩ := id T.d_law
      rw [hname] at hmg
      have e := hmg.symm.trans hm
      cases e
      exact ⟨fd, Fd.binds1 (fun _ _ _ _ _ _ _ => rfl), fun base _ _ => ok_law Fd T⟩)
end K35
def PySem.W.Fast.tw14860117259429978620 : Nat := 0
def PySem.W.Fast.tw3166103280561677560 : Nat := 0
def PySem.W.Fast.tw5479932115384526325 : Nat := 0
def PySem.W.Fast.tw3454075889144777646 : Nat := 0
def PySem.W.Fast.tw10106870260769790775 : Nat := 0
def PySem.W.Fast.tw17348408089927545478 : Nat := 0
def PySem.W.Fast.tw1679067005670565342 : Nat := 0
def PySem.W.Fast.tw16448123645760377061 : Nat := 0
def PySem.W.Fast.tw15863791656718009134 : Nat := 0
def PySem.W.Fast.tw7970080319625919375 : Nat := 0
def PySem.W.Fast.tw17736366233215496728 : Nat := 0
def PySem.W.Fast.tw15600276913080002352 : Nat := 0
def PySem.W.Fast.tw11826197633267026921 : Nat := 0
def PySem.W.Fast.tw4306357566561749540 : Nat := 0
def PySem.W.Fast.tw16689021734726900353 : Nat := 0
def PySem.W.Fast.tw10025054976054491278 : Nat := 0
def PySem.W.Fast.tw16274480828022192032 : Nat := 0
def PySem.W.Fast.tw16283984919782576714 : Nat := 0
def PySem.W.Fast.tw17325858434828623963 : Nat := 0
def PySem.W.Fast.tw14485224286107317793 : Nat := 0
def PySem.W.Fast.tw11354681301288774536 : Nat := 0
def PySem.W.Fast.tw2670733431763227902 : Nat := 0
def PySem.W.Fast.tw121397107512728774 : Nat := 0
def PySem.W.Fast.tw5577810673309139398 : Nat := 0
def PySem.W.Fast.tw2009138237106577332 : Nat := 0
def PySem.W.Fast.tw13670068063475179173 : Nat := 0
def PySem.W.Fast.tw18405839577313958337 : Nat := 0
def PySem.W.Fast.tw15352540441476004137 : Nat := 0
def PySem.W.Fast.tw4817802478235885969 : Nat := 0
def PySem.W.Fast.tw6932738961144275819 : Nat := 0
def PySem.W.Fast.tw15435465991584021588 : Nat := 0
def PySem.W.Fast.tw4312574438552331602 : Nat := 0
def PySem.W.Fast.tw2134861548392859061 : Nat := 0
def PySem.W.Fast.tw10613801545792736953 : Nat := 0
def PySem.W.Fast.tw2105461270035470992 : Nat := 0
def PySem.W.Fast.tw8968781061262513243 : Nat := 0
def PySem.W.Fast.tw3959438526952426844 : Nat := 0
def PySem.W.Fast.tw18264159701454983265 : Nat := 0
def PySem.W.Fast.tw17245699299033685619 : Nat := 0
def PySem.W.Fast.tw1951681994365626325 : Nat := 0
def PySem.W.Fast.tw17916357877907407545 : Nat := 0
def PySem.W.Fast.tw12760126864346944647 : Nat := 0
def PySem.W.Fast.tw1514243888048442331 : Nat := 0
def PySem.W.Fast.tw15319657152944421032 : Nat := 0
def PySem.W.Fast.tw6403500739516557044 : Nat := 0
def PySem.W.Fast.tw519347319245141692 : Nat := 0
def PySem.W.Fast.tw18365827403902516261 : Nat := 0
def PySem.W.Fast.tw12287232818939686623 : Nat := 0
def PySem.W.Fast.tw7316909557869588914 : Nat := 0
def PySem.W.Fast.tw12164762347571059104 : Nat := 0
def PySem.W.Fast.tw17538890980599305915 : Nat := 0
def PySem.W.Fast.tw13307709285516801073 : Nat := 0
def PySem.W.Fast.tw5778120016887440585 : Nat := 0
def PySem.W.Fast.tw17990324404163720554 : Nat := 0
def PySem.W.Fast.tw1510808136630961734 : Nat := 0
def PySem.W.Fast.tw14437521461558792230 : Nat := 0
def PySem.W.Fast.tw3933090126399344149 : Nat := 0
def PySem.W.Fast.tw14747166505283293695 : Nat := 0
def PySem.W.Fast.tw303631812045961547 : Nat := 0
def PySem.W.Fast.tw9740303471250409179 : Nat := 0
def PySem.W.Fast.tw12979128809477893041 : Nat := 0
def PySem.W.Fast.tw1573568154871235078 : Nat := 0
def PySem.W.Fast.tw10511227987479423075 : Nat := 0
def PySem.W.Fast.tw17819007882158142537 : Nat := 0
def PySem.W.Fast.tw8557693465156584733 : Nat := 0
def PySem.W.Fast.tw12475128040324884455 : Nat := 0
def PySem.W.Fast.tw3041198767675760351 : Nat := 0
def PySem.W.Fast.tw3809267741901307339 : Nat := 0
def PySem.W.Fast.tw6985496609523132579 : Nat := 0
def PySem.W.Fast.tw584192780988681364 : Nat := 0
def PySem.W.Fast.tw5314311593375862967 : Nat := 0
open PySem PySem.W PyProof.Rows
set_option maxRecDepth 100000 in
set_option maxHeartbeats 0 in
theorem PySem.Challenge.cw_stoke_k35_too_many_minds_holds : PySem.Challenge.rw_stoke_k35_too_many_minds.Holds := by
  w_on; o_law; k_head; (case hw => w_witness2)
  k_fill
  refine K35.walk (l := PySem.Challenge.rw_stoke_k35_too_many_minds) rfl rfl rfl (fun w h Y => PySem.W.kIn_of Y) ?F
  case F =>
    intro w mg h KX G
    refine' ⟨_, K35.txt_mk KX G ?y_Keeper ?y_Clock ?y_Table ?y_Pair ?y_Either ?y_Together ?y_Below ?y_StokeError ?y_Ended ?y_Full ?y_NoBand ?y_NoFailing ?y_NoHold ?y_NoKeeper ?y_NoLine ?y_NoMarks ?y_NoName ?y_NoNumber ?y_NoOrder ?y_NoRoom ?y_NoShare ?y_NoSky ?y_NoState ?y_NoStove ?y_NoText ?y_NoTurn ?y_NotKept ?y_NotOut ?y_Shared ?y_TooMany ?y_Twice ?y_x_TooMany ?y_xga_TooMany ?y_xgt_TooMany ?y_xcl_TooMany ?y_xmo_TooMany ?y_xmb_TooMany ?y_xis_TooMany ?y_gs ?y_tk ?y_ex ?y_k0 ?y_k2 ?y_k4 ?y_k1 ?y_k3 ?y_in_Keeper ?i_MOST_MINDS ?i_MOST_SIZE ?i_MOST_WISHES ?pg_Keeper ?hd_Keeper ?po_Keeper ?sa_Keeper ?mk_Keeper ?kc_Keeper ?at_Keeper_minds ?fn_Keeper_minds ?l_Keeper_minds ?co_Keeper_minds ?k_Keeper_minds ?at_Keeper_size ?fn_Keeper_size ?l_Keeper_size ?co_Keeper_size ?k_Keeper_size ?at_Keeper_wish ?fn_Keeper_wish ?l_Keeper_wish ?co_Keeper_wish ?k_Keeper_wish ?at_Keeper_after ?fn_Keeper_after ?l_Keeper_after ?co_Keeper_after ?k_Keeper_after ?pg_Clock ?hd_Clock ?po_Clock ?sa_Clock ?mk_Clock ?kc_Clock ?na_Clock_wishes ?at_Clock___init__ ?fn_Clock___init__ ?l_Clock___init__ ?co_Clock___init__ ?k_Clock___init__ ?at_Clock_minds ?fn_Clock_minds ?l_Clock_minds ?co_Clock_minds ?k_Clock_minds ?at_Clock_wish ?fn_Clock_wish ?l_Clock_wish ?co_Clock_wish ?k_Clock_wish ?at_Clock_after ?fn_Clock_after ?l_Clock_after ?co_Clock_after ?k_Clock_after ?at_Clock_size ?fn_Clock_size ?l_Clock_size ?co_Clock_size ?k_Clock_size ?pg_Table ?hd_Table ?po_Table ?sa_Table ?mk_Table ?kc_Table ?na_Table_rows ?na_Table_other ?at_Table___init__ ?fn_Table___init__ ?l_Table___init__ ?co_Table___init__ ?k_Table___init__ ?t_Table___init__ ?at_Table_minds ?fn_Table_minds ?l_Table_minds ?co_Table_minds ?k_Table_minds ?at_Table_size ?fn_Table_size ?l_Table_size ?co_Table_size ?k_Table_size ?at_Table_wish ?fn_Table_wish ?l_Table_wish ?co_Table_wish ?k_Table_wish ?at_Table_after ?fn_Table_after ?l_Table_after ?co_Table_after ?k_Table_after ?pg_Pair ?hd_Pair ?po_Pair ?sa_Pair ?mk_Pair ?kc_Pair ?na_Pair_one ?na_Pair_other ?at_Pair___init__ ?fn_Pair___init__ ?l_Pair___init__ ?co_Pair___init__ ?k_Pair___init__ ?at_Pair_minds ?fn_Pair_minds ?l_Pair_minds ?co_Pair_minds ?k_Pair_minds ?at_Pair_size ?fn_Pair_size ?l_Pair_size ?co_Pair_size ?k_Pair_size ?at_Pair_wish ?fn_Pair_wish ?l_Pair_wish ?co_Pair_wish ?k_Pair_wish ?at_Pair_after ?fn_Pair_after ?l_Pair_after ?co_Pair_after ?k_Pair_after ?at_Pair_wish_of_one ?fn_Pair_wish_of_one ?l_Pair_wish_of_one ?co_Pair_wish_of_one ?k_Pair_wish_of_one ?at_Pair_wish_of_other ?fn_Pair_wish_of_other ?l_Pair_wish_of_other ?co_Pair_wish_of_other ?k_Pair_wish_of_other ?pg_Either ?hd_Either ?po_Either ?sa_Either ?mk_Either ?kc_Either ?na_Either_one ?na_Either_other ?at_Either_wish ?fn_Either_wish ?l_Either_wish ?co_Either_wish ?k_Either_wish ?at_Either___init__ ?fn_Either___init__ ?l_Either___init__ ?co_Either___init__ ?k_Either___init__ ?at_Either_minds ?fn_Either_minds ?l_Either_minds ?co_Either_minds ?k_Either_minds ?at_Either_size ?fn_Either_size ?l_Either_size ?co_Either_size ?k_Either_size ?at_Either_after ?fn_Either_after ?l_Either_after ?co_Either_after ?k_Either_after ?at_Either_wish_of_one ?fn_Either_wish_of_one ?l_Either_wish_of_one ?co_Either_wish_of_one ?k_Either_wish_of_one ?at_Either_wish_of_other ?fn_Either_wish_of_other ?l_Either_wish_of_other ?co_Either_wish_of_other ?k_Either_wish_of_other ?pg_Together ?hd_Together ?po_Together ?sa_Together ?mk_Together ?kc_Together ?na_Together_one ?na_Together_other ?at_Together_wish ?fn_Together_wish ?l_Together_wish ?co_Together_wish ?k_Together_wish ?at_Together___init__ ?fn_Together___init__ ?l_Together___init__ ?co_Together___init__ ?k_Together___init__ ?at_Together_minds ?fn_Together_minds ?l_Together_minds ?co_Together_minds ?k_Together_minds ?at_Together_size ?fn_Together_size ?l_Together_size ?co_Together_size ?k_Together_size ?at_Together_after ?fn_Together_after ?l_Together_after ?co_Together_after ?k_Together_after ?at_Together_wish_of_one ?fn_Together_wish_of_one ?l_Together_wish_of_one ?co_Together_wish_of_one ?k_Together_wish_of_one ?at_Together_wish_of_other ?fn_Together_wish_of_other ?l_Together_wish_of_other ?co_Together_wish_of_other ?k_Together_wish_of_other ?pg_Below ?hd_Below ?po_Below ?sa_Below ?mk_Below ?kc_Below ?na_Below_one ?na_Below_other ?na_Below_room ?na_Below_band ?at_Below___init__ ?fn_Below___init__ ?l_Below___init__ ?co_Below___init__ ?k_Below___init__ ?at_Below_wish ?fn_Below_wish ?l_Below_wish ?co_Below_wish ?k_Below_wish ?at_Below_minds ?fn_Below_minds ?l_Below_minds ?co_Below_minds ?k_Below_minds ?at_Below_size ?fn_Below_size ?l_Below_size ?co_Below_size ?k_Below_size ?at_Below_after ?fn_Below_after ?l_Below_after ?co_Below_after ?k_Below_after ?at_Below_wish_of_one ?fn_Below_wish_of_one ?l_Below_wish_of_one ?co_Below_wish_of_one ?k_Below_wish_of_one ?at_Below_wish_of_other ?fn_Below_wish_of_other ?l_Below_wish_of_other ?co_Below_wish_of_other ?k_Below_wish_of_other ?ga_gPair___init__ ?fc_gPair___init__ ?rd_gPair___init__ ?l_gPair___init__ ?co_gPair___init__ ?k_gPair___init__ ?a_wall ?l_wall ?co_wall ?k_wall ?a_look_at_size ?l_look_at_size ?co_look_at_size ?k_look_at_size ?a_law_cell_at ?l_law_cell_at ?co_law_cell_at ?k_law_cell_at ?a_law_whole ?l_law_whole ?co_law_whole ?k_law_whole ?a_law_stream ?l_law_stream ?co_law_stream ?k_law_stream ?a_law_made ?l_law_made ?co_law_made ?k_law_made ?a_law_told ?l_law_told ?co_law_told ?k_law_told ?a_law_right ?l_law_right ?co_law_right ?k_law_right ?a_law_minds_right ?l_law_minds_right ?co_law_minds_right ?k_law_minds_right ?a_law_size_right ?l_law_size_right ?co_law_size_right ?k_law_size_right ?a_law ?l_law ?co_law ?k_law ?z_ValueError ?z_bool ?z_dict ?z_int ?z_isinstance ?z_len ?z_list ?z_range ?z_tuple⟩
    (case y_Keeper => k_is)
    (case y_Clock => k_is)
    (case y_Table => k_is)
    (case y_Pair => k_is)
    (case y_Either => k_is)
    (case y_Together => k_is)
    (case y_Below => k_is)
    (case y_StokeError => k_is)
    (case y_Ended => k_is)
    (case y_Full => k_is)
    (case y_NoBand => k_is)
    (case y_NoFailing => k_is)
    (case y_NoHold => k_is)
    (case y_NoKeeper => k_is)
    (case y_NoLine => k_is)
    (case y_NoMarks => k_is)
    (case y_NoName => k_is)
    (case y_NoNumber => k_is)
    (case y_NoOrder => k_is)
    (case y_NoRoom => k_is)
    (case y_NoShare => k_is)
    (case y_NoSky => k_is)
    (case y_NoState => k_is)
    (case y_NoStove => k_is)
    (case y_NoText => k_is)
    (case y_NoTurn => k_is)
    (case y_NotKept => k_is)
    (case y_NotOut => k_is)
    (case y_Shared => k_is)
    (case y_TooMany => k_is)
    (case y_Twice => k_is)
    (case y_x_TooMany => k_exc)
    (case y_xga_TooMany => k_is)
    (case y_xgt_TooMany => k_is)
    (case y_xcl_TooMany => k_is)
    (case y_xmo_TooMany => k_is)
    (case y_xmb_TooMany => k_is)
    (case y_xis_TooMany => k_is)
    (case y_gs => k_is)
    (case y_tk => k_is)
    (case y_ex => kts_exm)
    (case y_k0 => kit_is)
    (case y_k2 => kit_is)
    (case y_k4 => kit_is)
    (case y_k1 => kit_is)
    (case y_k3 => kit_is)
    (case y_in_Keeper => k_is)
    (case i_MOST_MINDS => k_is)
    (case i_MOST_SIZE => k_is)
    (case i_MOST_WISHES => k_is)
    (case pg_Keeper => k_is)
    (case hd_Keeper => k_is)
    (case po_Keeper => k_is)
    (case sa_Keeper => k_is)
    (case mk_Keeper => k_is)
    (case kc_Keeper => k_is)
    (case at_Keeper_minds => k_is)
    (case fn_Keeper_minds => k_is)
    (case l_Keeper_minds => k_is)
    (case co_Keeper_minds => k_is)
    (case k_Keeper_minds => k_is)
    (case at_Keeper_size => k_is)
    (case fn_Keeper_size => k_is)
    (case l_Keeper_size => k_is)
    (case co_Keeper_size => k_is)
    (case k_Keeper_size => k_is)
    (case at_Keeper_wish => k_is)
    (case fn_Keeper_wish => k_is)
    (case l_Keeper_wish => k_is)
    (case co_Keeper_wish => k_is)
    (case k_Keeper_wish => k_is)
    (case at_Keeper_after => k_is)
    (case fn_Keeper_after => k_is)
    (case l_Keeper_after => k_is)
    (case co_Keeper_after => k_is)
    (case k_Keeper_after => k_is)
    (case pg_Clock => k_is)
    (case hd_Clock => k_is)
    (case po_Clock => k_is)
    (case sa_Clock => k_is)
    (case mk_Clock => k_is)
    (case kc_Clock => k_is)
    (case na_Clock_wishes => k_is)
    (case at_Clock___init__ => k_is)
    (case fn_Clock___init__ => k_is)
    (case l_Clock___init__ => k_is)
    (case co_Clock___init__ => k_is)
    (case k_Clock___init__ => k_is)
    (case at_Clock_minds => k_is)
    (case fn_Clock_minds => k_is)
    (case l_Clock_minds => k_is)
    (case co_Clock_minds => k_is)
    (case k_Clock_minds => k_is)
    (case at_Clock_wish => k_is)
    (case fn_Clock_wish => k_is)
    (case l_Clock_wish => k_is)
    (case co_Clock_wish => k_is)
    (case k_Clock_wish => k_is)
    (case at_Clock_after => k_is)
    (case fn_Clock_after => k_is)
    (case l_Clock_after => k_is)
    (case co_Clock_after => k_is)
    (case k_Clock_after => k_is)
    (case at_Clock_size => k_is)
    (case fn_Clock_size => k_is)
    (case l_Clock_size => k_is)
    (case co_Clock_size => k_is)
    (case k_Clock_size => k_is)
    (case pg_Table => k_is)
    (case hd_Table => k_is)
    (case po_Table => k_is)
    (case sa_Table => k_is)
    (case mk_Table => k_is)
    (case kc_Table => k_is)
    (case na_Table_rows => k_is)
    (case na_Table_other => k_is)
    (case at_Table___init__ => k_is)
    (case fn_Table___init__ => k_is)
    (case l_Table___init__ => k_is)
    (case co_Table___init__ => k_is)
    (case k_Table___init__ => k_is)
    (case t_Table___init__ => k_is)
    (case at_Table_minds => k_is)
    (case fn_Table_minds => k_is)
    (case l_Table_minds => k_is)
    (case co_Table_minds => k_is)
    (case k_Table_minds => k_is)
    (case at_Table_size => k_is)
    (case fn_Table_size => k_is)
    (case l_Table_size => k_is)
    (case co_Table_size => k_is)
    (case k_Table_size => k_is)
    (case at_Table_wish => k_is)
    (case fn_Table_wish => k_is)
    (case l_Table_wish => k_is)
    (case co_Table_wish => k_is)
    (case k_Table_wish => k_is)
    (case at_Table_after => k_is)
    (case fn_Table_after => k_is)
    (case l_Table_after => k_is)
    (case co_Table_after => k_is)
    (case k_Table_after => k_is)
    (case pg_Pair => k_is)
    (case hd_Pair => k_is)
    (case po_Pair => k_is)
    (case sa_Pair => k_is)
    (case mk_Pair => k_is)
    (case kc_Pair => k_is)
    (case na_Pair_one => k_is)
    (case na_Pair_other => k_is)
    (case at_Pair___init__ => k_is)
    (case fn_Pair___init__ => k_is)
    (case l_Pair___init__ => k_is)
    (case co_Pair___init__ => k_is)
    (case k_Pair___init__ => k_is)
    (case at_Pair_minds => k_is)
    (case fn_Pair_minds => k_is)
    (case l_Pair_minds => k_is)
    (case co_Pair_minds => k_is)
    (case k_Pair_minds => k_is)
    (case at_Pair_size => k_is)
    (case fn_Pair_size => k_is)
    (case l_Pair_size => k_is)
    (case co_Pair_size => k_is)
    (case k_Pair_size => k_is)
    (case at_Pair_wish => k_is)
    (case fn_Pair_wish => k_is)
    (case l_Pair_wish => k_is)
    (case co_Pair_wish => k_is)
    (case k_Pair_wish => k_is)
    (case at_Pair_after => k_is)
    (case fn_Pair_after => k_is)
    (case l_Pair_after => k_is)
    (case co_Pair_after => k_is)
    (case k_Pair_after => k_is)
    (case at_Pair_wish_of_one => k_is)
    (case fn_Pair_wish_of_one => k_is)
    (case l_Pair_wish_of_one => k_is)
    (case co_Pair_wish_of_one => k_is)
    (case k_Pair_wish_of_one => k_is)
    (case at_Pair_wish_of_other => k_is)
    (case fn_Pair_wish_of_other => k_is)
    (case l_Pair_wish_of_other => k_is)
    (case co_Pair_wish_of_other => k_is)
    (case k_Pair_wish_of_other => k_is)
    (case pg_Either => k_is)
    (case hd_Either => k_is)
    (case po_Either => k_is)
    (case sa_Either => k_is)
    (case mk_Either => k_is)
    (case kc_Either => k_is)
    (case na_Either_one => k_is)
    (case na_Either_other => k_is)
    (case at_Either_wish => k_is)
    (case fn_Either_wish => k_is)
    (case l_Either_wish => k_is)
    (case co_Either_wish => k_is)
    (case k_Either_wish => k_is)
    (case at_Either___init__ => k_is)
    (case fn_Either___init__ => k_is)
    (case l_Either___init__ => k_is)
    (case co_Either___init__ => k_is)
    (case k_Either___init__ => k_is)
    (case at_Either_minds => k_is)
    (case fn_Either_minds => k_is)
    (case l_Either_minds => k_is)
    (case co_Either_minds => k_is)
    (case k_Either_minds => k_is)
    (case at_Either_size => k_is)
    (case fn_Either_size => k_is)
    (case l_Either_size => k_is)
    (case co_Either_size => k_is)
    (case k_Either_size => k_is)
    (case at_Either_after => k_is)
    (case fn_Either_after => k_is)
    (case l_Either_after => k_is)
    (case co_Either_after => k_is)
    (case k_Either_after => k_is)
    (case at_Either_wish_of_one => k_is)
    (case fn_Either_wish_of_one => k_is)
    (case l_Either_wish_of_one => k_is)
    (case co_Either_wish_of_one => k_is)
    (case k_Either_wish_of_one => k_is)
    (case at_Either_wish_of_other => k_is)
    (case fn_Either_wish_of_other => k_is)
    (case l_Either_wish_of_other => k_is)
    (case co_Either_wish_of_other => k_is)
    (case k_Either_wish_of_other => k_is)
    (case pg_Together => k_is)
    (case hd_Together => k_is)
    (case po_Together => k_is)
    (case sa_Together => k_is)
    (case mk_Together => k_is)
    (case kc_Together => k_is)
    (case na_Together_one => k_is)
    (case na_Together_other => k_is)
    (case at_Together_wish => k_is)
    (case fn_Together_wish => k_is)
    (case l_Together_wish => k_is)
    (case co_Together_wish => k_is)
    (case k_Together_wish => k_is)
    (case at_Together___init__ => k_is)
    (case fn_Together___init__ => k_is)
    (case l_Together___init__ => k_is)
    (case co_Together___init__ => k_is)
    (case k_Together___init__ => k_is)
    (case at_Together_minds => k_is)
    (case fn_Together_minds => k_is)
    (case l_Together_minds => k_is)
    (case co_Together_minds => k_is)
    (case k_Together_minds => k_is)
    (case at_Together_size => k_is)
    (case fn_Together_size => k_is)
    (case l_Together_size => k_is)
    (case co_Together_size => k_is)
    (case k_Together_size => k_is)
    (case at_Together_after => k_is)
    (case fn_Together_after => k_is)
    (case l_Together_after => k_is)
    (case co_Together_after => k_is)
    (case k_Together_after => k_is)
    (case at_Together_wish_of_one => k_is)
    (case fn_Together_wish_of_one => k_is)
    (case l_Together_wish_of_one => k_is)
    (case co_Together_wish_of_one => k_is)
    (case k_Together_wish_of_one => k_is)
    (case at_Together_wish_of_other => k_is)
    (case fn_Together_wish_of_other => k_is)
    (case l_Together_wish_of_other => k_is)
    (case co_Together_wish_of_other => k_is)
    (case k_Together_wish_of_other => k_is)
    (case pg_Below => k_is)
    (case hd_Below => k_is)
    (case po_Below => k_is)
    (case sa_Below => k_is)
    (case mk_Below => k_is)
    (case kc_Below => k_is)
    (case na_Below_one => k_is)
    (case na_Below_other => k_is)
    (case na_Below_room => k_is)
    (case na_Below_band => k_is)
    (case at_Below___init__ => k_is)
    (case fn_Below___init__ => k_is)
    (case l_Below___init__ => k_is)
    (case co_Below___init__ => k_is)
    (case k_Below___init__ => k_is)
    (case at_Below_wish => k_is)
    (case fn_Below_wish => k_is)
    (case l_Below_wish => k_is)
    (case co_Below_wish => k_is)
    (case k_Below_wish => k_is)
    (case at_Below_minds => k_is)
    (case fn_Below_minds => k_is)
    (case l_Below_minds => k_is)
    (case co_Below_minds => k_is)
    (case k_Below_minds => k_is)
    (case at_Below_size => k_is)
    (case fn_Below_size => k_is)
    (case l_Below_size => k_is)
    (case co_Below_size => k_is)
    (case k_Below_size => k_is)
    (case at_Below_after => k_is)
    (case fn_Below_after => k_is)
    (case l_Below_after => k_is)
    (case co_Below_after => k_is)
    (case k_Below_after => k_is)
    (case at_Below_wish_of_one => k_is)
    (case fn_Below_wish_of_one => k_is)
    (case l_Below_wish_of_one => k_is)
    (case co_Below_wish_of_one => k_is)
    (case k_Below_wish_of_one => k_is)
    (case at_Below_wish_of_other => k_is)
    (case fn_Below_wish_of_other => k_is)
    (case l_Below_wish_of_other => k_is)
    (case co_Below_wish_of_other => k_is)
    (case k_Below_wish_of_other => k_is)
    (case ga_gPair___init__ => k_is)
    (case fc_gPair___init__ => k_is)
    (case rd_gPair___init__ => k_is)
    (case l_gPair___init__ => k_is)
    (case co_gPair___init__ => k_is)
    (case k_gPair___init__ => k_is)
    (case a_wall => k_is)
    (case l_wall => k_is)
    (case co_wall => k_is)
    (case k_wall => k_is)
    (case a_look_at_size => k_is)
    (case l_look_at_size => k_is)
    (case co_look_at_size => k_is)
    (case k_look_at_size => k_is)
    (case a_law_cell_at => k_is)
    (case l_law_cell_at => k_is)
    (case co_law_cell_at => k_is)
    (case k_law_cell_at => k_is)
    (case a_law_whole => k_is)
    (case l_law_whole => k_is)
    (case co_law_whole => k_is)
    (case k_law_whole => k_is)
    (case a_law_stream => k_is)
    (case l_law_stream => k_is)
    (case co_law_stream => k_is)
    (case k_law_stream => k_is)
    (case a_law_made => k_is)
    (case l_law_made => k_is)
    (case co_law_made => k_is)
    (case k_law_made => k_is)
    (case a_law_told => k_is)
    (case l_law_told => k_is)
    (case co_law_told => k_is)
    (case k_law_told => k_is)
    (case a_law_right => k_is)
    (case l_law_right => k_is)
    (case co_law_right => k_is)
    (case k_law_right => k_is)
    (case a_law_minds_right => k_is)
    (case l_law_minds_right => k_is)
    (case co_law_minds_right => k_is)
    (case k_law_minds_right => k_is)
    (case a_law_size_right => k_is)
    (case l_law_size_right => k_is)
    (case co_law_size_right => k_is)
    (case k_law_size_right => k_is)
    (case a_law => k_is)
    (case l_law => k_is)
    (case co_law => k_is)
    (case k_law => k_is)
    (case z_ValueError => k_is)
    (case z_bool => k_is)
    (case z_dict => k_is)
    (case z_int => k_is)
    (case z_isinstance => k_is)
    (case z_len => k_is)
    (case z_list => k_is)
    (case z_range => k_is)
    (case z_tuple => k_is)

